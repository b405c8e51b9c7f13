import PyProof.Rows.All
import Wide.All
import OpenK.AllK
import Wide.FinOn
import Lean
import PyProof.EqAt
import PyProof.EqKinds
import PyProof.TupleCall
import PySem.Challenge.RW_beadhall_k09_unlike_bags
set_option Elab.async false
set_option linter.all false
set_option maxRecDepth 100000
/-! THE HAND LAYER, for ints, bools, texts, own classes, LISTS and tuples (index, slices, in, append, pop ..), calls, loops. Paste it whole ahead of your own text; what your proof does not reach may be deleted. -/
namespace L2
open PySem PySem.Spec PyProof.Rows

/-- a key: an int or a str -/
abbrev Key := Sum Int Str
def keyIs : Key → Value → Bool
  | .inl k, v => Value.isInt k v
  | .inr x, v => Value.isStrOf x v
def keyH (w : World) : Key → Int
  | .inl k => hashInt k
  | .inr x => hashStr w x
theorem keyIs_shape : ∀ {k : Key} {v : Value}, keyIs k v = true → (∃ i t, k = Sum.inl i ∧ v = Value.int i t) ∨ (∃ x t, k = Sum.inr x ∧ v = Value.str x t)
  | .inl i, v, h => by
    obtain ⟨t, e⟩ := Value.isInt_shape (k := i) (v := v) h
    exact .inl ⟨i, t, rfl, e⟩
  | .inr x, v, h => by
    obtain ⟨t, e⟩ := Value.isStrOf_shape (x := x) (v := v) h
    exact .inr ⟨x, t, rfl, e⟩
theorem keyIs_int (i : Int) (t : Tok) : keyIs (.inl i) (.int i t) = true := by simp [keyIs, Value.isInt]
theorem keyIs_str (x : Str) (t : Tok) : keyIs (.inr x) (.str x t) = true := by simp [keyIs, Value.isStrOf]
theorem key_ll (a b : Int) : decide ((Sum.inl a : Key) = Sum.inl b) = (a == b) := by
  by_cases e : a = b
  · subst e; simp
  · have h : ¬ (Sum.inl a : Key) = Sum.inl b := fun q => e (Sum.inl.inj q)
    rw [decide_eq_false h]
    exact (beq_eq_false_iff_ne.mpr e).symm
theorem key_rr (a b : Str) : decide ((Sum.inr a : Key) = Sum.inr b) = decide (a = b) := by
  by_cases e : a = b
  · subst e; simp
  · have h : ¬ (Sum.inr a : Key) = Sum.inr b := fun q => e (Sum.inr.inj q)
    rw [decide_eq_false h, decide_eq_false e]
theorem key_lr (a : Int) (b : Str) : decide ((Sum.inl a : Key) = Sum.inr b) = false := decide_eq_false (fun q => nomatch q)
theorem key_rl (a : Str) (b : Int) : decide ((Sum.inr a : Key) = Sum.inl b) = false := decide_eq_false (fun q => nomatch q)

def mixKind (prog : Program) (w : World) : PySem.KeyKind prog w Key where
  is := keyIs
  hash := keyH w
  inj := fun v a b ha hb => by
    rcases keyIs_shape ha with ⟨i, t, rfl, rfl⟩ | ⟨x, t, rfl, rfl⟩
    · rcases keyIs_shape hb with ⟨j, u, rfl, e⟩ | ⟨y, u, rfl, e⟩
      · injection e with e1 _; rw [e1]
      · exact nomatch e
    · rcases keyIs_shape hb with ⟨j, u, rfl, e⟩ | ⟨y, u, rfl, e⟩
      · exact nomatch e
      · injection e with e1 _; rw [e1]
  byValue := fun k v h => by
    rcases keyIs_shape h with ⟨i, t, rfl, rfl⟩ | ⟨x, t, rfl, rfl⟩ <;> rfl
  pyHash := fun hv h => by
    rcases keyIs_shape hv with ⟨i, t, rfl, rfl⟩ | ⟨x, t, rfl, rfl⟩
    · exact wpAny_pyHash_int h
    · exact wpAny_pyHash_str h
  eqBool := fun hu hv h => by
    rcases keyIs_shape hu with ⟨i, t, rfl, rfl⟩ | ⟨x, t, rfl, rfl⟩
    · rcases keyIs_shape hv with ⟨j, u, rfl, rfl⟩ | ⟨y, u, rfl, rfl⟩
      · rw [key_ll] at h; exact wpAny_eqBool_int h
      · rw [key_lr] at h; exact SeqAt.EqAt.int_str i t y u _ _ _ _ h
    · rcases keyIs_shape hv with ⟨j, u, rfl, rfl⟩ | ⟨y, u, rfl, rfl⟩
      · rw [key_rl] at h; exact SeqAt.EqAt.str_int x t j u _ _ _ _ h
      · rw [key_rr] at h; exact wpAny_eqBool_str h
  «strs» := fun k x t v h => by
    rcases keyIs_shape h with ⟨i, u, rfl, e⟩ | ⟨y, u, rfl, e⟩
    · exact nomatch e
    · injection e with e1 _
      subst e1
      cases v <;> rfl

theorem mixKind_is (prog : Program) (w : World) (k : Key) (v : Value) : (mixKind prog w).is k v = keyIs k v := rfl
theorem mixKind_int (prog : Program) (w : World) (i : Int) (t : Tok) : (mixKind prog w).is (.inl i) (.int i t) = true := keyIs_int i t
theorem mixKind_str (prog : Program) (w : World) (x : Str) (t : Tok) : (mixKind prog w).is (.inr x) (.str x t) = true := keyIs_str x t
end L2

namespace L2
open PySem PySem.Spec PyProof.Rows

/-- a value, without the heap -/
inductive V where
  | non | bl (b : Bool) | int (i : Int) | str (x : Str) | byt (b : Array UInt8) | flt (b : UInt64) | ref (a : Addr) | ty (n : String)
  deriving DecidableEq

def RelV : V → Value → Prop
  | .non, u => u = Value.none
  | .bl b, u => u = Value.bool b
  | .int i, u => ∃ t, u = Value.int i t
  | .str x, u => ∃ t, u = Value.str x t
  | .byt b, u => ∃ t, u = Value.bytes b t
  | .flt b, u => ∃ t, u = Value.float b t
  | .ref a, u => u = Value.ref a
  | .ty n, u => u = Value.type n

abbrev Vals : List V → List Value → Prop := Paired RelV
theorem Vals.length {xs : List V} {us : List Value} (r : Vals xs us) : xs.length = us.length := Paired.length r
theorem Vals.get : ∀ {xs : List V} {us : List Value} {i : Nat} {x : V}, Vals xs us → xs[i]? = some x → ∃ u, us[i]? = some u ∧ RelV x u
  | _, _, _, _, .nil, e => by simp at e
  | _, _, 0, _, .cons r _, e => by simp at e; subst e; exact ⟨_, rfl, r⟩
  | _, _, i + 1, x, .cons _ t, e => by
    obtain ⟨u, h1, h2⟩ := Vals.get (i := i) (x := x) t (by simpa using e)
    exact ⟨u, by simpa using h1, h2⟩
theorem Vals.set {x : V} {u : Value} (r : RelV x u) : ∀ {xs : List V} {us : List Value} (i : Nat), Vals xs us → Vals (xs.set i x) (us.set i u)
  | _, _, _, .nil => .nil
  | _, _, 0, .cons _ t => .cons r t
  | _, _, i + 1, .cons q t => .cons q (Vals.set r i t)
theorem Vals.append : ∀ {xs ys : List V} {us ws : List Value}, Vals xs us → Vals ys ws → Vals (xs ++ ys) (us ++ ws)
  | _, _, _, _, .nil, s => s
  | _, _, _, _, .cons r t, s => .cons r (Vals.append t s)
theorem Vals.take : ∀ {xs : List V} {us : List Value} (n : Nat), Vals xs us → Vals (xs.take n) (us.take n)
  | _, _, 0, _ => .nil
  | _, _, _ + 1, .nil => .nil
  | _, _, n + 1, .cons r t => .cons r (Vals.take n t)
theorem Vals.drop : ∀ {xs : List V} {us : List Value} (n : Nat), Vals xs us → Vals (xs.drop n) (us.drop n)
  | _, _, 0, r => r
  | _, _, _ + 1, .nil => .nil
  | _, _, n + 1, .cons _ t => Vals.drop n t
theorem Vals.none_of : ∀ {xs : List V} {us : List Value} {i : Nat}, Vals xs us → xs[i]? = none → us[i]? = none := fun {xs us i} r e => by
  have h1 := r.length
  have h2 : xs.length ≤ i := List.getElem?_eq_none_iff.mp e
  exact List.getElem?_eq_none_iff.mpr (by omega)

def RelO : Option V → Option Value → Prop
  | some v, some u => RelV v u
  | none, none => True
  | _, _ => False
def KV {κ : Type} : List (κ × V) → List (κ × Value) → Prop := Paired fun (p : κ × V) (q : κ × Value) => p.1 = q.1 ∧ RelV p.2 q.2

/-- a key of a dict (00_mix): an int or a text -/
def kV : Key → V
  | .inl i => .int i
  | .inr x => .str x

/-- what stands at a tracked address -/
inductive HO where
  /-- a list -/
  | lst (xs : List V)
  /-- a tuple (never changes) -/
  | tup (xs : List V)
  /-- a dict whose keys are ints and texts; one whose keys are tuples of ints and texts (the empty one is both) -/
  | dK (kvs : List (Key × V)) | dT (kvs : List (List Key × V))
  /-- a set of ints: its members, its size -/
  | set (S : Int → Bool) (n : Nat)
  /-- an instance of the class at C, its dict at dx, its attributes -/
  | ins (C dx : Addr) (fs : List (Str × V))
  /-- the dict of the instance at x -/
  | own (x : Addr)
  /-- the dict of an exception -/
  | xd (fs : List (Str × V))
  /-- a bound method, f of x -/
  | met (f x : Addr)
  /-- a range object lo, lo + 1, .. below hi -/
  | rng (lo hi : Int)
  /-- a thing that is known to the object (the script; a dict while a loop walks it): read, never written while it is so -/
  | frz (o : Obj) (u : HO)
  /-- a code object's table -/
  | tbl (ps : Array Value)
  /-- any other thing, by what is true of its one object (a def of one's own: SetO a S n := HO.ext fun h => ..) -/
  | ext (φ : Heap → Prop)

abbrev Hp := Addr → Option HO
def upd (H : Hp) (a : Addr) (o : HO) : Hp := fun b => if b = a then some o else H b
theorem upd_same {H : Hp} {a : Addr} {o : HO} : upd H a o a = some o := by unfold upd; rw [if_pos rfl]
theorem upd_ne {H : Hp} {a b : Addr} {o : HO} (h : b ≠ a) : upd H a o b = H b := by unfold upd; rw [if_neg h]
theorem upd_upd {H : Hp} {a : Addr} {o u : HO} : upd (upd H a o) a u = upd H a u := by
  funext b; unfold upd; split <;> rfl
/-- two objects of different content stand apart -/
theorem ne_of {H : Hp} {a b : Addr} {o u : HO} (h : H a = some o) (h' : H b = some u) (d : o ≠ u) : a ≠ b := by
  intro e; subst e; rw [h] at h'; exact d (Option.some.inj h')
theorem ne_of_none {H : Hp} {a b : Addr} {o : HO} (h : H a = some o) (h' : H b = none) : a ≠ b := by
  intro e; subst e; rw [h] at h'; cases h'

section
variable (P : Program) (w : World)
def ObjOk (H : Hp) (h : Heap) (a : Addr) : HO → Prop
  | .lst xs => xs.length ≤ sizeLine ∧ ∃ (its : List Value) (n : Nat), Vals xs its ∧ h.get? a = some { cls := .type "list", data := .seq its.toArray n }
  | .tup xs => xs.length ≤ sizeLine ∧ ∃ its : List Value, Vals xs its ∧ IsTup h a its.toArray
  | .dK kvs => kvs.length ≤ sizeLine ∧ (a == sysModules) = false ∧ ∃ vs, KV kvs vs ∧ h.DictOf (mixKind P w) a vs
  | .dT kvs => kvs.length ≤ sizeLine ∧ (a == sysModules) = false ∧ ∃ xs : List (List Key × Addr × Value),
      Paired (fun (p : List Key × V) (q : List Key × Addr × Value) => p.1 = q.1 ∧ H q.2.1 = some (.tup (p.1.map kV)) ∧ RelV p.2 q.2.2) kvs xs ∧
      ∃ o es ep, h.get? a = some o ∧ o.ExactDict ∧ o.data = .dict es ep ∧ es.toList = xs.map (entryOfKey (tupleKind (mixKind P w))) ∧ (xs.map (·.1)).Nodup
  | .set S n => h.SetOf (intKind P w) a S n
  | .ins C dx fs => H dx = some (.own a) ∧ fs.length ≤ 1000 ∧ dx ≠ a ∧ h.get? a = some (PySem.W.instObj C dx) ∧
      ∃ mA, h.Ns1 dx mA ∧ (∀ f, RelO (fs.lookup f) (mA f)) ∧ PySem.Within mA (fs.map (·.1))
  | .own _ => ∃ o, h.get? a = some o
  | .xd fs => ∃ mA, h.Ns1 a mA ∧ ∀ f, RelO (fs.lookup f) (mA f)
  | .rng lo hi => ∃ t u v, h.get? a = some { cls := .type "range", data := .fields #[.int lo t, .int hi u, .int 1 v] }
  | .frz o u => h.get? a = some o ∧ ObjOk H h a u
  | .tbl ps => h.get? a = some { cls := .none, data := .fields ps }
  | .met f x => h.get? a = some (PySem.W.methodObj (.ref f) (.ref x))
  | .ext φ => φ h ∧ (∃ o, h.get? a = some o) ∧ ∀ h1 h2 : Heap, φ h1 → (∀ o, h1.get? a = some o → h2.get? a = some o) → φ h2
/-- the abstract heap is held -/
def HOk (H : Hp) (h : Heap) : Prop := ∀ a o, H a = some o → ObjOk P w H h a o
end

section
variable {P : Program} {w : World} {H H' : Hp} {h h' : Heap} {a : Addr} {o : HO}
theorem ObjOk.lt (x : ObjOk P w H h a o) : a < h.objs.size := by
  cases o with
  | lst xs => obtain ⟨_, _, _, _, e⟩ := x; exact Heap.lt_size e
  | tup xs => obtain ⟨_, _, _, p⟩ := x; exact p.lt
  | dK kvs => obtain ⟨_, _, _, _, o, _, _, e, _⟩ := x; exact Heap.lt_size e
  | dT kvs => obtain ⟨_, _, _, _, o, _, _, e, _⟩ := x; exact Heap.lt_size e
  | set S n => obtain ⟨o, _, _, _, e, _⟩ := x; exact Heap.lt_size e
  | ins C dx fs => obtain ⟨_, _, _, e, _⟩ := x; exact Heap.lt_size e
  | own y => obtain ⟨_, e⟩ := x; exact Heap.lt_size e
  | xd fs => obtain ⟨_, ⟨_, _, _, e, _⟩, _⟩ := x; exact Heap.lt_size e
  | rng lo hi => obtain ⟨_, _, _, e⟩ := x; exact Heap.lt_size e
  | frz ob u => obtain ⟨e, _⟩ := x; exact Heap.lt_size e
  | tbl ps => exact Heap.lt_size (show h.get? a = some _ from x)
  | met f y => exact Heap.lt_size (show h.get? a = some _ from x)
  | ext φ => obtain ⟨_, ⟨_, e⟩, _⟩ := x; exact Heap.lt_size e
theorem Paired.mapP {α β : Type} {F G : α → β → Prop} : ∀ {l₁ : List α} {l₂ : List β}, Paired F l₁ l₂ → (∀ a b, F a b → G a b) → Paired G l₁ l₂
  | _, _, .nil, _ => .nil
  | _, _, .cons r t, f => .cons (f _ _ r) (Paired.mapP t f)
theorem Paired.imp' {α β : Type} {F G : α → β → Prop} (f : ∀ a b, F a b → G a b) {l₁ : List α} {l₂ : List β} (r : Paired F l₁ l₂) : Paired G l₁ l₂ := Paired.mapP r f
/-- what an object's description leans on: its own object, its own dict, the tuples -/
theorem ObjOk.stay (x : ObjOk P w H h a o) (k : ∀ b u, (b = a ∨ H b = some (.own a)) → h.get? b = some u → h'.get? b = some u)
    (ho : ∀ b, H b = some (.own a) → H' b = some (.own a)) (ht : ∀ b xs, H b = some (.tup xs) → H' b = some (.tup xs)) : ObjOk P w H' h' a o := by
  induction o with
  | lst xs => obtain ⟨z, its, n, r, e⟩ := x; exact ⟨z, its, n, r, k _ _ (.inl rfl) e⟩
  | tup xs => obtain ⟨z, its, r, ob, e, c⟩ := x; exact ⟨z, its, r, ob, k _ _ (.inl rfl) e, c⟩
  | dK kvs => obtain ⟨z, y, vs, r, ob, es, ep, e, c⟩ := x; exact ⟨z, y, vs, r, ob, es, ep, k _ _ (.inl rfl) e, c⟩
  | dT kvs =>
    obtain ⟨z, y, xs, r, ob, es, ep, e, c⟩ := x
    exact ⟨z, y, xs, Paired.mapP r fun p q z => ⟨z.1, ht _ _ z.2.1, z.2.2⟩, ob, es, ep, k _ _ (.inl rfl) e, c⟩
  | set S n => obtain ⟨ob, es, ep, t, e, c⟩ := x; exact ⟨ob, es, ep, t, k _ _ (.inl rfl) e, c⟩
  | ins C dx fs =>
    obtain ⟨d, z, ne, e, mA, ⟨od, es, ep, e2, c⟩, r⟩ := x
    exact ⟨ho _ d, z, ne, k _ _ (.inl rfl) e, mA, ⟨od, es, ep, k _ _ (.inr d) e2, c⟩, r⟩
  | own y => obtain ⟨ob, e⟩ := x; exact ⟨ob, k _ _ (.inl rfl) e⟩
  | xd fs => obtain ⟨mA, ⟨od, es, ep, e, c⟩, r⟩ := x; exact ⟨mA, ⟨od, es, ep, k _ _ (.inl rfl) e, c⟩, r⟩
  | rng lo hi => obtain ⟨t, u, v, e⟩ := x; exact ⟨t, u, v, k _ _ (.inl rfl) e⟩
  | frz ob u ih => obtain ⟨e, q⟩ := x; exact ⟨k _ _ (.inl rfl) e, ih q⟩
  | tbl ps =>
    have e : h.get? a = some { cls := .none, data := .fields ps } := x
    show h'.get? a = some { cls := .none, data := .fields ps }
    exact k a _ (.inl rfl) e
  | met f y =>
    have e : h.get? a = some (PySem.W.methodObj (.ref f) (.ref y)) := x
    show h'.get? a = some (PySem.W.methodObj (.ref f) (.ref y))
    exact k a _ (.inl rfl) e
  | ext φ => obtain ⟨p, ⟨o, e⟩, st⟩ := x; exact ⟨st _ _ p fun o q => k _ _ (.inl rfl) q, ⟨o, k _ _ (.inl rfl) e⟩, st⟩
theorem HOk.lt (x : HOk P w H h) (e : H a = some o) : a < h.objs.size := (x a o e).lt
theorem HOk.fresh (x : HOk P w H h) (e : h.objs.size ≤ a) : H a = none := by
  cases q : H a with
  | none => rfl
  | some u => exact absurd (Nat.lt_of_lt_of_le (x.lt q) e) (Nat.lt_irrefl _)
/-- every object of the heap is kept -/
theorem HOk.kept (x : HOk P w H h) (k : ∀ b u, h.get? b = some u → h'.get? b = some u) : HOk P w H h' := fun a o e =>
  (x a o e).stay (fun b u _ q => k b u q) (fun _ q => q) fun _ _ q => q
/-- a new object is laid and tracked -/
theorem HOk.laid (x : HOk P w H h) (k : ∀ b u, h.get? b = some u → h'.get? b = some u) (hp : h.objs.size ≤ a) (new : ObjOk P w (upd H a o) h' a o) : HOk P w (upd H a o) h' := fun b u e => by
  have hn := x.fresh hp
  by_cases hb : b = a
  · subst hb; rw [upd_same] at e; cases e; exact new
  · rw [upd_ne hb] at e
    exact (x b u e).stay (fun c v _ q => k c v q) (fun c q => by rw [upd_ne (ne_of_none q hn)]; exact q) fun c xs q => by rw [upd_ne (ne_of_none q hn)]; exact q
end

/-- what may be read as u: it is u, or a known u -/
def Rd (H : Hp) (a : Addr) (u : HO) : Prop := H a = some u ∨ ∃ o, H a = some (.frz o u)
theorem Rd.of {H : Hp} {a : Addr} {u : HO} (h : H a = some u) : Rd H a u := .inl h
theorem Rd.ok {P : Program} {w : World} {H : Hp} {h : Heap} {a : Addr} {u : HO} (r : Rd H a u) (x : HOk P w H h) : ObjOk P w H h a u := by
  rcases r with r | ⟨o, r⟩
  · exact x a u r
  · obtain ⟨_, q⟩ := x a _ r
    exact q
/-- what may be written -/
def Mut : Option HO → Prop
  | some (.lst _) => True
  | some (.dK _) => True
  | some (.dT _) => True
  | some (.set _ _) => True
  | some (.ins _ _ _) => True
  | some (.ext _) => True
  | _ => False
section
variable {P : Program} {w : World} {H : Hp} {h h' : Heap} {x e : Addr} {o' : HO}
/-- the object at e is changed: x itself, or the dict of the instance x -/
theorem HOk.write (ok : HOk P w H h) (mu : Mut (H x)) (he : e = x ∨ H e = some (.own x)) (k : ∀ b u, b ≠ e → h.get? b = some u → h'.get? b = some u) (heo : ∃ u, h'.get? e = some u)
    (new : ObjOk P w (upd H x o') h' x o') : HOk P w (upd H x o') h' := fun b u q => by
  have nown : ∀ c y, H c = some (.own y) → c ≠ x := fun c y r z => by subst z; rw [r] at mu; exact mu
  have ntup : ∀ c xs, H c = some (.tup xs) → c ≠ x := fun c xs r z => by subst z; rw [r] at mu; exact mu
  by_cases hb : b = x
  · subst hb; rw [upd_same] at q; cases q; exact new
  · rw [upd_ne hb] at q
    by_cases hbe : b = e
    · have q' : H b = some (.own x) := by
        rcases he with z | z
        · exact absurd (hbe.trans z) hb
        · rw [hbe]; exact z
      rw [q] at q'; cases q'
      obtain ⟨v, hv⟩ := heo
      exact ⟨v, by rw [hbe]; exact hv⟩
    · refine (ok b u q).stay (fun c v hc r => k c v ?_ r) (fun c r => by rw [upd_ne (nown c b r)]; exact r) fun c xs r => by rw [upd_ne (ntup c xs r)]; exact r
      rcases hc with rfl | hc
      · exact hbe
      · rintro rfl
        rcases he with z | z
        · exact nown c b hc z
        · rw [hc] at z; cases z; exact hb rfl
end

/-! ### kept unless tracked; of the frames at fs (the callers') the slots may change (an exception that passes writes there); of the records at ex (iterators) nothing is said -/
structure Un (fs ex : List Addr) (H H' : Hp) (h h' : Heap) : Prop where
  keep : ∀ b o, h.get? b = some o → H b = none → b ∉ fs → b ∉ ex → h'.get? b = some o
  slot : ∀ b o, h.get? b = some o → H b = none → b ∈ fs → b ∉ ex → ∃ sl, h'.get? b = some { o with slots := sl }
  free : ∀ b o, h.get? b = some o → H b = none → b ∉ ex → H' b = none
  there : ∀ b o, h.get? b = some o → b ∉ ex → ∃ o', h'.get? b = some o'
  tups : ∀ b xs, H b = some (.tup xs) → H' b = some (.tup xs)
  frzs : ∀ b o u, H b = some (.frz o u) → H' b = some (.frz o u)
  tbls : ∀ b ps, H b = some (.tbl ps) → ∃ more, H' b = some (.tbl (ps ++ more))
section
variable {fs fs' ex ex' : List Addr} {H H1 H2 : Hp} {h h1 h2 h' : Heap} {a x e : Addr} {o : HO}
theorem Un.any (u : Un fs ex H H1 h h1) {b : Addr} {ob : Obj} (q : h.get? b = some ob) (n : H b = none) (hx : b ∉ ex) : ∃ sl, h1.get? b = some { ob with slots := sl } := by
  by_cases hb : b ∈ fs
  · exact u.slot b ob q n hb hx
  · exact ⟨ob.slots, u.keep b ob q n hb hx⟩
theorem Un.trans (a : Un fs ex H H1 h h1) (b : Un fs ex H1 H2 h1 h2) : Un fs ex H H2 h h2 where
  keep := fun c ob q n hc hx => b.keep c ob (a.keep c ob q n hc hx) (a.free c ob q n hx) hc hx
  slot := fun c ob q n hc hx => by
    obtain ⟨sl, e1⟩ := a.slot c ob q n hc hx
    obtain ⟨sl', e2⟩ := b.slot c _ e1 (a.free c ob q n hx) hc hx
    exact ⟨sl', e2⟩
  free := fun c ob q n hx => by
    obtain ⟨o', e1⟩ := a.there c ob q hx
    exact b.free c o' e1 (a.free c ob q n hx) hx
  there := fun c ob q hx => by
    obtain ⟨o', e1⟩ := a.there c ob q hx
    exact b.there c o' e1 hx
  tups := fun c xs q => b.tups c xs (a.tups c xs q)
  frzs := fun c ob xs q => b.frzs c ob xs (a.frzs c ob xs q)
  tbls := fun c ps q => by
    obtain ⟨m1, e1⟩ := a.tbls c ps q
    obtain ⟨m2, e2⟩ := b.tbls c _ e1
    exact ⟨m1 ++ m2, by rw [e2, Array.append_assoc]⟩
theorem Un.kept (k : ∀ b u, h.get? b = some u → h'.get? b = some u) : Un fs ex H H h h' :=
  ⟨fun b ob q _ _ _ => k b ob q, fun b ob q _ _ _ => ⟨ob.slots, k b ob q⟩, fun _ _ _ n _ => n, fun b ob q _ => ⟨ob, k b ob q⟩, fun _ _ q => q, fun _ _ _ q => q, fun _ ps q => ⟨#[], by rw [q]; simp⟩⟩
theorem Un.refl : Un fs ex H H h h := Un.kept fun _ _ q => q
theorem Un.laid (k : ∀ b u, h.get? b = some u → h'.get? b = some u) (hp : h.objs.size ≤ a) (hn : H a = none) : Un fs ex H (upd H a o) h h' where
  keep := fun b u q _ _ _ => k b u q
  slot := fun b u q _ _ _ => ⟨u.slots, k b u q⟩
  free := fun b u q n _ => by rw [upd_ne (Nat.ne_of_lt (Nat.lt_of_lt_of_le (Heap.lt_size q) hp))]; exact n
  there := fun b u q _ => ⟨u, k b u q⟩
  tups := fun b xs q => by rw [upd_ne (ne_of_none q hn)]; exact q
  frzs := fun b u xs q => by rw [upd_ne (ne_of_none q hn)]; exact q
  tbls := fun b ps q => ⟨#[], by rw [upd_ne (ne_of_none q hn), q]; simp⟩
theorem Un.write (mu : Mut (H x)) (he : e = x ∨ H e = some (.own x)) (k : ∀ b u, b ≠ e → h.get? b = some u → h'.get? b = some u) (heo : ∃ u, h'.get? e = some u) : Un fs ex H (upd H x o) h h' := by
  have hx : ∀ b, H b = none → b ≠ x := fun b n z => by subst z; rw [n] at mu; exact mu
  have hb : ∀ b, H b = none → b ≠ e := fun b n z => by
    subst z
    rcases he with r | r
    · exact hx b n r
    · rw [n] at r; cases r
  have hm : ∀ b u, H b = some u → ¬ Mut (some u) → b ≠ x := fun b u q nm z => by subst z; rw [q] at mu; exact nm mu
  refine ⟨fun b u q n _ _ => k b u (hb b n) q, fun b u q n _ _ => ⟨u.slots, k b u (hb b n) q⟩, fun b u q n _ => by rw [upd_ne (hx b n)]; exact n, fun b u q _ => ?_,
    fun b xs q => by rw [upd_ne (hm b _ q fun z => z)]; exact q, fun b u xs q => by rw [upd_ne (hm b _ q fun z => z)]; exact q, fun b ps q => ⟨#[], by rw [upd_ne (hm b _ q fun z => z), q]; simp⟩⟩
  by_cases hbe : b = e
  · subst hbe; exact heo
  · exact ⟨u, k b u hbe q⟩
theorem Un.mono (u : Un fs ex H H1 h h1) (hs : ∀ b ∈ fs, b ∈ fs') (hx : ∀ b ∈ ex, b ∈ ex') : Un fs' ex' H H1 h h1 :=
  ⟨fun b ob q n hb he => u.keep b ob q n (fun z => hb (hs b z)) fun z => he (hx b z), fun _ _ q n _ he => u.any q n fun z => he (hx _ z), fun b ob q n he => u.free b ob q n fun z => he (hx b z), fun b ob q he => u.there b ob q fun z => he (hx b z), u.tups, u.frzs, u.tbls⟩
end

/-! ### the heap without what is tracked -/
def trk (h : Heap) (H : Hp) : List Addr := (List.range h.objs.size).filter fun a => (H a).isSome
def hidT (h : Heap) (H : Hp) : Heap := PySem.W.hideAll h (trk h H)
theorem hidT_size (h : Heap) (H : Hp) : (hidT h H).objs.size = h.objs.size := PySem.W.hideAll_size _ _
theorem hidT_get {h : Heap} {H : Hp} {b : Addr} {o : Obj} (e : h.get? b = some o) (n : H b = none) : (hidT h H).get? b = some o :=
  PySem.W.hideAll_get _ e fun hm => by
    have q : (H b).isSome = true := (List.mem_filter.mp hm).2
    rw [n] at q; simp at q
theorem of_hidT {h : Heap} {H : Hp} {b : Addr} {o : Obj} (e : (hidT h H).get? b = some o) : h.get? b = some o ∧ H b = none := by
  have e' : h.get? b = some o := PySem.W.of_hideAll (trk h H) e
  refine ⟨e', ?_⟩
  cases q : H b with
  | none => rfl
  | some x =>
    have hm : b ∈ trk h H := List.mem_filter.mpr ⟨List.mem_range.mpr (Heap.lt_size e'), by simp [q]⟩
    have z : (hidT h H).get? b = none := PySem.W.hideAll_none (trk h H) hm
    rw [z] at e; cases e

/-! ### OpenK's ledger, filled with every new object but one -/
def allNews (g h : Heap) (L : Addr) : List (Addr × Obj) := (List.range h.objs.size).filterMap fun a => if a = L ∨ (g.get? a).isSome = true then none else (h.get? a).map fun o => (a, o)
theorem mem_allNews {g h : Heap} {L a : Addr} {o : Obj} (h1 : a ≠ L) (h2 : g.get? a = none) (h3 : h.get? a = some o) : (a, o) ∈ allNews g h L :=
  List.mem_filterMap.mpr ⟨a, List.mem_range.mpr (Heap.lt_size h3), by simp [h1, h2, h3]⟩
theorem of_mem_allNews {g h : Heap} {L : Addr} {p : Addr × Obj} (hp : p ∈ allNews g h L) : p.1 ≠ L ∧ g.get? p.1 = none ∧ h.get? p.1 = some p.2 := by
  obtain ⟨b, _, e⟩ := List.mem_filterMap.mp hp
  split at e
  · cases e
  · rename_i hn
    cases q : h.get? b with
    | none => rw [q] at e; simp at e
    | some u =>
      rw [q] at e
      simp only [Option.map_some, Option.some.injEq] at e
      subst e
      refine ⟨fun z => hn (.inl z), ?_, q⟩
      show g.get? b = none
      cases r : g.get? b with
      | none => rfl
      | some v => exact (hn (.inr (by simp [r]))).elim
def rest (g h : Heap) (L d : Addr) : List (Addr × Obj) := (allNews g h L).filter fun p => decide (p.1 ≠ d)
theorem rest_ne {g h : Heap} {L d : Addr} : ∀ p ∈ rest g h L d, p.1 ≠ d := fun p hp => of_decide_eq_true (List.mem_filter.mp hp).2
theorem mem_rest {g h : Heap} {L d a : Addr} {o : Obj} (h1 : a ≠ L) (h2 : g.get? a = none) (h3 : h.get? a = some o) (h4 : a ≠ d) : (a, o) ∈ rest g h L d :=
  List.mem_filter.mpr ⟨mem_allNews h1 h2 h3, decide_eq_true h4⟩
theorem news_all {g h : Heap} {L : Addr} : News g L h (allNews g h L) := fun p hp => let ⟨a, b, c⟩ := of_mem_allNews hp; ⟨c, a, b⟩
theorem news_at {g h : Heap} {L d : Addr} {o : Obj} (h1 : d ≠ L) (h2 : g.get? d = none) (h3 : h.get? d = some o) : News g L h ((d, o) :: rest g h L d) := fun p hp => by
  rcases List.mem_cons.mp hp with rfl | hp
  · exact ⟨h3, h1, h2⟩
  · exact news_all p (List.mem_filter.mp hp).1
/-- behind a rule that changed d alone: all else but the frame is kept -/
theorem kept_of_news {g h h' : Heap} {L d : Addr} {m : Str → Option Value} (k : ∀ b o, g.get? b = some o → h.get? b = some o) (F : Fr g L h' m) (N : News g L h' (rest g h L d)) :
    ∀ b o, b ≠ L → b ≠ d → h.get? b = some o → h'.get? b = some o := fun b o h1 h2 e => by
  cases q : g.get? b with
  | some u =>
    have := k b u q
    rw [e] at this; cases this
    exact F.keep b _ q
  | none => exact (N (b, o) (mem_rest h1 q e h2)).1
end L2

namespace L2
open PySem PySem.Spec PyProof.Rows

/-- the module's facts, over the base: the heap at the law's entry without what is tracked there -/
structure Mod (K : PySem.W.Frag) (mg : Str → Option Value) (base : Heap) : Prop where
  kin : K.In base
  glob : base.Ns mainGlobals mg
  blt : ∃ mb, base.Ns builtinsNs mb ∧ ∀ x : Str, x ≠ "__name__" → mb x = bootBuiltins x
  nolimit : base.NoLimit

/-- the context: a def's body (or a comprehension's block) running. base: fixed through the whole law; s₀, H₀: the entry; outer: the frames whose slots others may change (a def's callers); stack: all frames that run;
   ex: iterators that were made ahead of the entry and are walked here (a comprehension's); fn: the names whose cells were made at the entry (a def: all; a comprehension's block: its own); calm: not within an except suite; pn: pins that every state bears; xe: what is wanted of an exception that leaves the code -/
structure Cx where
  prog : Program
  w : World
  K : PySem.W.Frag
  mg : Str → Option Value
  base : Heap
  A : Around
  N : List Str
  s₀ : Shared
  H₀ : Hp
  env : Env
  outer : List Env
  stack : List Env
  ex : List Addr
  fn : Str → Bool
  calm : Bool
  pn : List (Addr × Obj)
  xe : Value → Shared → Prop
/-- the callers' frames -/
def frs (l : List Env) : List Addr := l.filterMap (·.frame)
abbrev Cx.fs (X : Cx) : List Addr := frs X.outer

def Vis (sc : Scope) (x : Str) : Prop := sc.names.lookup x = some .local ∨ sc.names.lookup x = some .cell ∨ sc.names.lookup x = some .free
def Loc (sc : Scope) (x : Str) : Prop := sc.names.lookup x = some .local ∨ sc.names.lookup x = some .cell
def Look (env : Env) (h : Heap) (m : Str → Option Value) (x : Str) (u : Value) : Prop :=
  (env.kindOf x = some .local ∧ m x = some u) ∨ ((env.kindOf x = some .cell ∨ env.kindOf x = some .free) ∧ ∃ c, env.cells.lookup x = some c ∧ h.IsCell c (some u))

structure Cx.Ok (X : Cx) : Prop where
  mod : Mod X.K X.mg X.base
  kind : X.env.scope.kind = .function
  glob : X.env.globals = mainGlobals
  blt : X.env.builtins = builtinsNs
  above : X.s₀.heap.objs.size ≤ X.env.locals
  inj : ∀ x y c, X.env.cells.lookup x = some c → X.env.cells.lookup y = some c → x = y
  has : ∀ x, (X.env.kindOf x = some .cell ∨ X.env.kindOf x = some .free) → ∃ c, X.env.cells.lookup x = some c
  cab : ∀ x c, X.fn x = true → X.env.cells.lookup x = some c → X.s₀.heap.objs.size ≤ c
  hd : X.calm = true → X.A.handled = none
  frames : X.A.frames = some X.stack
  stk : X.stack = X.outer ∨ (X.stack = X.env :: X.outer ∧ X.env.frame = some X.env.locals)
  exf : ∀ b ∈ X.ex, b ≠ X.env.locals ∧ ∀ x c, X.env.cells.lookup x = some c → c ≠ b
  bs : ∀ b o, X.base.get? b = some o → X.s₀.heap.get? b = some o ∧ X.H₀ b = none
  bsz : X.base.objs.size ≤ X.s₀.heap.objs.size
  noex : ∀ b o, X.base.get? b = some o → b ∉ X.ex
  exfs : ∀ b ∈ X.ex, b ∉ X.fs
  funs : X.s₀.heap.FunFrames X.base X.outer
  frf : ∀ b ∈ X.fs, X.H₀ b = none

structure Inv (X : Cx) (pins : List (Addr × Obj)) (σ : List (Option V)) (H : Hp) (s : Shared) : Prop where
  ok : X.Ok
  os : s.os = X.s₀.os
  bare : AllBare s.gens
  base : Un X.fs X.ex X.H₀ H X.s₀.heap s.heap
  loc : ∃ m, s.heap.Ns X.env.locals m ∧ ∀ (i : Nat) (x : Str) (v : V), X.N[i]? = some x → σ[i]? = some (some v) → Vis X.env.scope x → ∃ u, RelV v u ∧ Look X.env s.heap m x u
  cell : ∀ x c, X.env.cells.lookup x = some c → ∃ v, s.heap.IsCell c v
  free : H X.env.locals = none
  freeC : ∀ x c, X.env.cells.lookup x = some c → H c = none
  pin : ∀ p ∈ X.pn ++ pins, s.heap.get? p.1 = some p.2 ∧ H p.1 = none ∧ p.1 ≠ X.env.locals ∧ p.1 ∉ X.fs ∧ ∀ v, p.2.data ≠ .cell v
  hok : HOk X.prog X.w H s.heap
  len : σ.length = X.N.length

section
variable {X : Cx} {pins : List (Addr × Obj)} {σ : List (Option V)} {H H' : Hp} {s : Shared} {h' : Heap}

theorem Cx.Ok.nofr (ok : X.Ok) {b : Addr} {o : Obj} (e : X.base.get? b = some o) : b ∉ X.fs := fun hb => by
  have := (ok.funs.mem hb).1
  rw [e] at this; cases this
theorem Inv.bs (I : Inv X pins σ H s) : ∀ b o, X.base.get? b = some o → s.heap.get? b = some o ∧ H b = none := fun b o e =>
  ⟨I.base.keep b o (I.ok.bs b o e).1 (I.ok.bs b o e).2 (I.ok.nofr e) (I.ok.noex b o e), I.base.free b o (I.ok.bs b o e).1 (I.ok.bs b o e).2 (I.ok.noex b o e)⟩
theorem Inv.bk (I : Inv X pins σ H s) : ∀ b o, X.base.get? b = some o → s.heap.get? b = some o := fun b o e => (I.bs b o e).1
theorem Inv.mod (I : Inv X pins σ H s) : Mod X.K X.mg X.base := I.ok.mod
theorem Inv.kIn (I : Inv X pins σ H s) : X.K.In s.heap := I.ok.mod.kin.keeps I.bk
theorem Inv.nolimit (I : Inv X pins σ H s) : s.heap.NoLimit := I.ok.mod.nolimit.keeps I.bk
/-- the frame over the base: for OpenK's rules (K.In X.base is I.mod.kin) -/
theorem Inv.fr (I : Inv X pins σ H s) : ∃ m, Fr X.base X.env.locals s.heap m :=
  let ⟨m, hn, _⟩ := I.loc
  ⟨m, hn, I.bk, Nat.le_trans I.ok.bsz I.ok.above⟩
theorem Inv.lt (I : Inv X pins σ H s) : X.env.locals < s.heap.objs.size := let ⟨_, hn, _⟩ := I.loc; hn.lt
theorem Inv.sz (I : Inv X pins σ H s) : X.s₀.heap.objs.size ≤ s.heap.objs.size := Nat.le_trans I.ok.above (Nat.le_of_lt I.lt)
theorem Inv.nofs (I : Inv X pins σ H s) {a : Addr} (h : s.heap.objs.size ≤ a) : a ∉ X.fs := fun hb => by
  obtain ⟨_, o, ho, _⟩ := I.ok.funs.mem hb
  exact absurd (Nat.lt_of_lt_of_le (Heap.lt_size ho) (Nat.le_trans I.sz h)) (Nat.lt_irrefl _)
theorem Inv.cne (I : Inv X pins σ H s) : ∀ x c, X.env.cells.lookup x = some c → c ≠ X.env.locals := fun x c e z => by
  obtain ⟨v, o, ho, hd⟩ := I.cell x c e
  obtain ⟨m, ⟨o', es, ep, ho', hd', _⟩, _⟩ := I.loc
  rw [z, ho'] at ho; cases ho; rw [hd'] at hd; cases hd
theorem Inv.funs (I : Inv X pins σ H s) : s.heap.FunFrames X.base X.outer := by
  have all : ∀ (l : List Env), (∀ b ∈ frs l, b ∈ X.fs) → X.s₀.heap.FunFrames X.base l → s.heap.FunFrames X.base l := by
    intro l
    induction l with
    | nil => intro _ _; trivial
    | cons env r ih =>
      intro hs hl
      obtain ⟨hk, ⟨L, o, hf, hn, ho, hd⟩, hr⟩ := hl
      have hL : L ∈ X.fs := hs L (by unfold frs; rw [List.filterMap_cons, hf]; exact List.mem_cons_self)
      obtain ⟨sl, e⟩ := I.base.slot L o ho (I.ok.frf L hL) hL fun z => I.ok.exfs L z hL
      exact ⟨hk, ⟨L, _, hf, hn, e, hd⟩, ih (fun b hb => hs b (by unfold frs; rw [List.filterMap_cons, hf]; exact List.mem_cons_of_mem _ hb)) hr⟩
  exact all X.outer (fun _ hb => hb) I.ok.funs

/-- the frames that run, for a call -/
theorem Inv.stack (I : Inv X pins σ H s) : s.heap.FunFrames X.base X.stack := by
  rcases I.ok.stk with e | ⟨e, hf⟩
  · rw [e]; exact I.funs
  · rw [e]
    obtain ⟨m, hn, _⟩ := I.loc
    refine .cons (by rw [I.ok.kind]; decide) hf hn ?_ I.funs
    exact Heap.get?_none_of_le (Nat.le_trans I.ok.bsz I.ok.above)
theorem Inv.stkSub (I : Inv X pins σ H s) : ∀ b ∈ frs X.stack, b ∈ X.env.locals :: X.fs := fun b hb => by
  rcases I.ok.stk with e | ⟨e, hf⟩
  · rw [e] at hb; exact List.mem_cons_of_mem _ hb
  · rw [e] at hb
    unfold frs at hb
    rw [List.filterMap_cons, hf] at hb
    exact hb
theorem Inv.stkFree (I : Inv X pins σ H s) : ∀ b ∈ frs X.stack, H b = none := fun b hb => by
  rcases List.mem_cons.mp (I.stkSub b hb) with e | hb
  · rw [e]; exact I.free
  · obtain ⟨_, o, ho, _⟩ := I.ok.funs.mem hb
    exact I.base.free b o ho (I.ok.frf b hb) fun z => I.ok.exfs b z hb

/-- THE STEP: the untracked objects but the frame and the records at ch are kept (the callers' frames up to slots), the frame's map is kept, the new abstract heap is held -/
theorem Inv.step {g' : Array GenState} {t' : Nat} {d' : Drawn} {ch : List Addr} (I : Inv X pins σ H s)
    (hch : ∀ b ∈ ch, (b ∈ X.ex ∨ X.s₀.heap.objs.size ≤ b) ∧ b ≠ X.env.locals ∧ (∀ x c, X.env.cells.lookup x = some c → c ≠ b) ∧ ∀ p ∈ X.pn ++ pins, p.1 ≠ b)
    (keep : ∀ b o, b ≠ X.env.locals → b ∉ X.fs → b ∉ ch → s.heap.get? b = some o → H b = none → h'.get? b = some o)
    (slot : ∀ b o, b ≠ X.env.locals → b ∈ X.fs → b ∉ ch → s.heap.get? b = some o → H b = none → ∃ sl, h'.get? b = some { o with slots := sl }) (free : ∀ b o, b ∉ ch → s.heap.get? b = some o → H b = none → H' b = none)
    (there : ∀ b o, b ∉ ch → s.heap.get? b = some o → ∃ o', h'.get? b = some o')
    (tups : ∀ b xs, H b = some (.tup xs) → H' b = some (.tup xs)) (frzs : ∀ b o u, H b = some (.frz o u) → H' b = some (.frz o u)) (tbls : ∀ b ps, H b = some (.tbl ps) → ∃ more, H' b = some (.tbl (ps ++ more)))
    (ns : ∀ m, s.heap.Ns X.env.locals m → h'.Ns X.env.locals m) (hok : HOk X.prog X.w H' h') (hg : AllBare g') :
    Inv X pins σ H' { s with heap := h', gens := g', drawn := d', toks := t' } := by
  have neL : ∀ b o, X.s₀.heap.get? b = some o → b ≠ X.env.locals := fun b o e => Nat.ne_of_lt (Nat.lt_of_lt_of_le (Heap.lt_size e) I.ok.above)
  have neC : ∀ b o, X.s₀.heap.get? b = some o → b ∉ X.ex → b ∉ ch := fun b o e hx hb => by
    rcases (hch b hb).1 with z | z
    · exact hx z
    · exact absurd (Nat.lt_of_lt_of_le (Heap.lt_size e) z) (Nat.lt_irrefl _)
  have cellK : ∀ x c, X.env.cells.lookup x = some c → ∀ v, s.heap.IsCell c v → h'.IsCell c v := fun x c e v ⟨o, ho, hd⟩ => by
    have nch : c ∉ ch := fun z => (hch c z).2.2.1 x c e rfl
    by_cases hc : c ∈ X.fs
    · obtain ⟨sl, q⟩ := slot c o (I.cne x c e) hc nch ho (I.freeC x c e)
      exact ⟨_, q, hd⟩
    · exact ⟨o, keep c o (I.cne x c e) hc nch ho (I.freeC x c e), hd⟩
  refine ⟨I.ok, I.os, hg, ⟨fun b o e n hb hx => ?_, fun b o e n hb hx => ?_, fun b o e n hx => ?_, fun b o e hx => ?_, fun b xs e => tups b xs (I.base.tups b xs e), fun b o xs e => frzs b o xs (I.base.frzs b o xs e), fun b ps e => ?_⟩, ?_, fun x c e => ?_, ?_, fun x c e => ?_, fun p hp => ?_, hok, I.len⟩
  · exact keep b o (neL b o e) hb (neC b o e hx) (I.base.keep b o e n hb hx) (I.base.free b o e n hx)
  · obtain ⟨sl, e1⟩ := I.base.slot b o e n hb hx
    obtain ⟨sl', e2⟩ := slot b _ (neL b o e) hb (neC b o e hx) e1 (I.base.free b o e n hx)
    exact ⟨sl', e2⟩
  · obtain ⟨o', e1⟩ := I.base.there b o e hx
    exact free b o' (neC b o e hx) e1 (I.base.free b o e n hx)
  · obtain ⟨o', e1⟩ := I.base.there b o e hx
    exact there b o' (neC b o e hx) e1
  · obtain ⟨m1, e1⟩ := I.base.tbls b ps e
    obtain ⟨m2, e2⟩ := tbls b _ e1
    exact ⟨m1 ++ m2, by rw [e2, Array.append_assoc]⟩
  · obtain ⟨m, hn, hl⟩ := I.loc
    refine ⟨m, ns m hn, fun i x v e1 e2 e3 => ?_⟩
    obtain ⟨u, r, l⟩ := hl i x v e1 e2 e3
    refine ⟨u, r, ?_⟩
    rcases l with l | ⟨k, c, e, z⟩
    · exact .inl l
    · exact .inr ⟨k, c, e, cellK x c e _ z⟩
  · obtain ⟨v, z⟩ := I.cell x c e
    exact ⟨v, cellK x c e v z⟩
  · obtain ⟨m, ⟨o, _, _, ho, _⟩, _⟩ := I.loc
    exact free _ o (fun z => (hch _ z).2.1 rfl) ho I.free
  · obtain ⟨v, o, ho, hd⟩ := I.cell x c e
    exact free c o (fun z => (hch c z).2.2.1 x c e rfl) ho (I.freeC x c e)
  · obtain ⟨e, n, ne, nf, d⟩ := I.pin p hp
    have nch : p.1 ∉ ch := fun z => (hch p.1 z).2.2.2 p hp rfl
    exact ⟨keep p.1 p.2 ne nf nch e n, free p.1 p.2 nch e n, ne, nf, d⟩
/-- .. where the frame's own object is kept too -/
theorem Inv.un {t' : Nat} (I : Inv X pins σ H s) (u : Un X.fs [] H H' s.heap h') (hok : HOk X.prog X.w H' h') : Inv X pins σ H' { s with heap := h', toks := t' } := by
  obtain ⟨m, ⟨o, es, ep, ho, r⟩, _⟩ := id I.loc
  obtain ⟨sl, hL⟩ := u.any ho I.free (by simp)
  exact I.step (g' := s.gens) (d' := s.drawn) (ch := []) (fun _ z => nomatch z) (fun b o _ hb _ e n => u.keep b o e n hb (by simp)) (fun b o _ hb _ e n => u.slot b o e n hb (by simp)) (fun b o _ e n => u.free b o e n (by simp)) (fun b o _ e => u.there b o e (by simp)) u.tups u.frzs u.tbls (fun m' hm => by
    obtain ⟨o', es', ep', ho', r'⟩ := hm
    rw [ho] at ho'; cases ho'
    exact ⟨_, es', ep', hL, r'⟩) hok I.bare
/-- behind a call (or a comprehension's block): the slots of this frame may have changed too, the records at ch may have turned -/
theorem Inv.call {g' : Array GenState} {t' : Nat} {d' : Drawn} {ch : List Addr} (I : Inv X pins σ H s) (u : Un (frs X.stack) ch H H' s.heap h') (hok : HOk X.prog X.w H' h') (hg : AllBare g')
    (hch : ∀ b ∈ ch, (b ∈ X.ex ∨ X.s₀.heap.objs.size ≤ b) ∧ b ≠ X.env.locals ∧ (∀ x c, X.env.cells.lookup x = some c → c ≠ b) ∧ ∀ p ∈ X.pn ++ pins, p.1 ≠ b) :
    Inv X pins σ H' { s with heap := h', gens := g', drawn := d', toks := t' } := by
  obtain ⟨m, ⟨o, es, ep, ho, r⟩, _⟩ := id I.loc
  obtain ⟨sl, hL⟩ := u.any ho I.free fun z => (hch _ z).2.1 rfl
  exact I.step (ch := ch) hch (fun b o hL hb hc e n => u.keep b o e n (fun z => (List.mem_cons.mp (I.stkSub b z)).elim hL hb) hc) (fun b o _ _ hc e n => u.any e n hc) (fun b o hc e n => u.free b o e n hc) (fun b o hc e => u.there b o e hc) u.tups u.frzs u.tbls (fun m' hm => by
    obtain ⟨o', es', ep', ho', r'⟩ := hm
    rw [ho] at ho'; cases ho'
    exact ⟨_, es', ep', hL, r'⟩) hok hg
/-- an untracked record of ours (an iterator) has turned -/
theorem Inv.turned {t' : Nat} {it : Addr} (I : Inv X pins σ H s) (k : ∀ b o, b ≠ it → s.heap.get? b = some o → h'.get? b = some o) (hn : H it = none) (hL : it ≠ X.env.locals)
    (h1 : it ∈ X.ex ∨ X.s₀.heap.objs.size ≤ it) (h2 : ∀ x c, X.env.cells.lookup x = some c → c ≠ it) (h3 : ∀ p ∈ X.pn ++ pins, p.1 ≠ it) : Inv X pins σ H { s with heap := h', toks := t' } := by
  have nit : ∀ b u, H b = some u → b ≠ it := fun b u e z => by rw [z, hn] at e; cases e
  refine I.step (g' := s.gens) (d' := s.drawn) (ch := [it]) (fun b hb => ?_) (fun b o _ _ hc e _ => k b o (fun z => hc (by simp [z])) e) (fun b o _ _ hc e _ => ⟨o.slots, k b o (fun z => hc (by simp [z])) e⟩) (fun _ _ _ _ n => n)
    (fun b o hc e => ⟨o, k b o (fun z => hc (by simp [z])) e⟩) (fun _ _ e => e) (fun _ _ _ e => e) (fun b ps e => ⟨#[], by rw [e]; simp⟩) (fun m hm => ?_) (fun b u e => ?_) I.bare
  · have e : b = it := by simpa using hb
    subst e
    exact ⟨h1, hL, h2, h3⟩
  · obtain ⟨o, es, ep, ho, r⟩ := hm
    exact ⟨o, es, ep, k _ o (Ne.symm hL) ho, r⟩
  · refine (I.hok b u e).stay (fun c v hc q => k c v ?_ q) (fun _ q => q) fun _ _ q => q
    rcases hc with z | z
    · rw [z]; exact nit b u e
    · exact nit c _ z
theorem Inv.tok (I : Inv X pins σ H s) (t : Nat) : Inv X pins σ H { s with toks := t } := I.un (h' := s.heap) (t' := t) Un.refl I.hok
/-- all objects kept -/
theorem Inv.kept {t' : Nat} (I : Inv X pins σ H s) (k : ∀ b u, s.heap.get? b = some u → h'.get? b = some u) : Inv X pins σ H { s with heap := h', toks := t' } := I.un (Un.kept k) (I.hok.kept k)
/-- a new object laid and tracked -/
theorem Inv.laid {a : Addr} {o : HO} {t' : Nat} (I : Inv X pins σ H s) (k : ∀ b u, s.heap.get? b = some u → h'.get? b = some u) (hp : s.heap.objs.size ≤ a) (new : ObjOk X.prog X.w (upd H a o) h' a o) :
    Inv X pins σ (upd H a o) { s with heap := h', toks := t' } := I.un (Un.laid k hp (I.hok.fresh hp)) (I.hok.laid k hp new)
/-- an object written -/
theorem Inv.write {x e : Addr} {o : HO} {t' : Nat} (I : Inv X pins σ H s) (mu : Mut (H x)) (he : e = x ∨ H e = some (.own x)) (k : ∀ b u, b ≠ e → s.heap.get? b = some u → h'.get? b = some u) (heo : ∃ u, h'.get? e = some u)
    (new : ObjOk X.prog X.w (upd H x o) h' x o) : Inv X pins σ (upd H x o) { s with heap := h', toks := t' } := I.un (Un.write mu he k heo) (I.hok.write mu he k heo new)
/-- forgetting slots, pins -/
theorem Inv.weak {σ' : List (Option V)} (I : Inv X pins σ H s) (hl : σ'.length = σ.length) (w : ∀ (i : Nat) v, σ'[i]? = some (some v) → σ[i]? = some (some v)) : Inv X pins σ' H s :=
  ⟨I.ok, I.os, I.bare, I.base, let ⟨m, hn, hl'⟩ := I.loc; ⟨m, hn, fun i x v e1 e2 e3 => hl' i x v e1 (w i v e2) e3⟩, I.cell, I.free, I.freeC, I.pin, I.hok, hl.trans I.len⟩
theorem Inv.pins_of {pins' : List (Addr × Obj)} (I : Inv X pins σ H s) (h : ∀ p ∈ pins', s.heap.get? p.1 = some p.2 ∧ H p.1 = none ∧ p.1 ≠ X.env.locals ∧ p.1 ∉ X.fs ∧ ∀ v, p.2.data ≠ .cell v) : Inv X pins' σ H s :=
  ⟨I.ok, I.os, I.bare, I.base, I.loc, I.cell, I.free, I.freeC, fun p hp => (List.mem_append.mp hp).elim (fun z => I.pin p (List.mem_append_left _ z)) (h p), I.hok, I.len⟩

theorem nodup_ix {N : List Str} (hN : N.Nodup) {i j : Nat} {x : Str} (a : N[i]? = some x) (b : N[j]? = some x) : i = j := by
  obtain ⟨h1, e1⟩ := List.getElem?_eq_some_iff.mp a
  obtain ⟨h2, e2⟩ := List.getElem?_eq_some_iff.mp b
  exact (List.getElem_inj hN).mp (e1.trans e2.symm)

/-- a name is stored; what changed -/
theorem store_ok2 {M : Model} {A : Around} {E : Value → Shared → Prop} {i : Nat} {x : Str} {v : V} {u : Value} {Q : Unit → Shared → Prop} (I : Inv X pins σ H s) (hN : X.N.Nodup) (hi : X.N[i]? = some x) (hx : Loc X.env.scope x) (r : RelV v u)
    (h : ∀ s', Inv X pins (σ.set i (some v)) H s' → (∃ a, Heap.SameBut a s.heap s'.heap ∧ (a = X.env.locals ∨ X.env.cells.lookup x = some a)) → Q () s') (hf : X.fn x = true ∨ X.env.scope.names.lookup x = some .local := by first | exact .inl rfl | exact .inr rfl | assumption) : wpAny M A (storeName X.env x u) Q E s := by
  obtain ⟨m, hn, hl⟩ := id I.loc
  have hcls : (X.env.scope.kind == .class || (X.env.scope.kind == .module && X.env.locals != X.env.globals)) = false := by rw [I.ok.kind]; rfl
  have hiσ : i < σ.length := by rw [I.len]; exact (List.getElem?_eq_some_iff.mp hi).1
  have cne := I.cne
  have tracked : ∀ {a : Addr} {h' : Heap}, (∃ o, s.heap.get? a = some o ∧ H a = none) → Heap.SameBut a s.heap h' → HOk X.prog X.w H h' := fun {a h'} ha hs b ob e => by
    obtain ⟨_, _, hfree⟩ := ha
    refine (I.hok b ob e).stay (fun c w' hc q => (hs.2 c ?_).trans q) (fun _ q => q) fun _ _ q => q
    rintro rfl
    rcases hc with rfl | hc
    · rw [hfree] at e; cases e
    · rw [hfree] at hc; cases hc
  rcases hx with hk | hk
  · refine wpAny_storeName_local hk hn (fun h' hn' hs => ?_) hcls
    obtain ⟨oL, _, _, hoL, _⟩ := id hn
    refine h _ ⟨I.ok, I.os, I.bare, ⟨fun b o e n hb hx => ?_, fun b o e n hb hx => ?_, I.base.free, fun b o e hx => ?_, I.base.tups, I.base.frzs, I.base.tbls⟩, ⟨_, hn', fun j y v' e1 e2 e3 => ?_⟩, fun y c e => ?_, I.free, I.freeC, fun p hp => ?_, tracked ⟨oL, hoL, I.free⟩ hs, by simpa using I.len⟩ ⟨_, hs, .inl rfl⟩
    · exact (hs.2 b (Nat.ne_of_lt (Nat.lt_of_lt_of_le (Heap.lt_size e) I.ok.above))).trans (I.base.keep b o e n hb hx)
    · obtain ⟨sl, e1⟩ := I.base.slot b o e n hb hx
      exact ⟨sl, (hs.2 b (Nat.ne_of_lt (Nat.lt_of_lt_of_le (Heap.lt_size e) I.ok.above))).trans e1⟩
    · obtain ⟨o', e1⟩ := I.base.there b o e hx
      exact ⟨o', (hs.2 b (Nat.ne_of_lt (Nat.lt_of_lt_of_le (Heap.lt_size e) I.ok.above))).trans e1⟩
    · by_cases hj : j = i
      · subst hj
        rw [hi] at e1; cases e1
        rw [List.getElem?_set_self hiσ] at e2
        cases e2
        exact ⟨u, r, .inl ⟨hk, by simp⟩⟩
      · rw [List.getElem?_set_ne (Ne.symm hj)] at e2
        obtain ⟨u', r', q⟩ := hl j y v' e1 e2 e3
        refine ⟨u', r', ?_⟩
        rcases q with ⟨k, e⟩ | ⟨k, c, e, z⟩
        · refine .inl ⟨k, ?_⟩
          have : y ≠ x := fun e => hj (nodup_ix hN e1 (e ▸ hi))
          simp [this, e]
        · exact .inr ⟨k, c, e, z.sameBut hs (cne y c e)⟩
    · obtain ⟨w', z⟩ := I.cell y c e
      exact ⟨w', z.sameBut hs (cne y c e)⟩
    · obtain ⟨e, n, ne, nf, d⟩ := I.pin p hp
      exact ⟨(hs.2 p.1 ne).trans e, n, ne, nf, d⟩
  · have hfn : X.fn x = true := by
      rcases hf with z | z
      · exact z
      · rw [z] at hk; cases hk
    obtain ⟨c, hc⟩ := I.ok.has x (.inl hk)
    obtain ⟨w', z⟩ := I.cell x c hc
    refine wpAny_storeName_cell I.ok.kind hk hc z (fun h' hc' hs => ?_)
    obtain ⟨oc, hoc, hocd⟩ := id z
    refine h { s with heap := h' } ⟨I.ok, I.os, I.bare, ⟨fun b o e n hb hx => ?_, fun b o e n hb hx => ?_, I.base.free, fun b o e hx => ?_, I.base.tups, I.base.frzs, I.base.tbls⟩, ⟨m, hn.sameBut hs (Ne.symm (cne x c hc)), fun j y v' e1 e2 e3 => ?_⟩, fun y c' e => ?_, I.free, I.freeC, fun p hp => ?_, tracked ⟨oc, hoc, I.freeC x c hc⟩ hs, by simpa using I.len⟩ ⟨c, hs, .inr hc⟩
    · exact (hs.2 b (Nat.ne_of_lt (Nat.lt_of_lt_of_le (Heap.lt_size e) (I.ok.cab x c hfn hc)))).trans (I.base.keep b o e n hb hx)
    · obtain ⟨sl, e1⟩ := I.base.slot b o e n hb hx
      exact ⟨sl, (hs.2 b (Nat.ne_of_lt (Nat.lt_of_lt_of_le (Heap.lt_size e) (I.ok.cab x c hfn hc)))).trans e1⟩
    · obtain ⟨o', e1⟩ := I.base.there b o e hx
      exact ⟨o', (hs.2 b (Nat.ne_of_lt (Nat.lt_of_lt_of_le (Heap.lt_size e) (I.ok.cab x c hfn hc)))).trans e1⟩
    · by_cases hj : j = i
      · subst hj
        rw [hi] at e1; cases e1
        rw [List.getElem?_set_self hiσ] at e2
        cases e2
        exact ⟨u, r, .inr ⟨.inl hk, c, hc, hc'⟩⟩
      · rw [List.getElem?_set_ne (Ne.symm hj)] at e2
        obtain ⟨u', r', q⟩ := hl j y v' e1 e2 e3
        refine ⟨u', r', ?_⟩
        rcases q with q | ⟨k, c', e, z'⟩
        · exact .inl q
        · refine .inr ⟨k, c', e, z'.sameBut hs ?_⟩
          rintro rfl
          exact hj (nodup_ix hN e1 (I.ok.inj _ _ _ e hc ▸ hi))
    · by_cases hcc : c' = c
      · subst hcc; exact ⟨_, hc'⟩
      · obtain ⟨w2, z2⟩ := I.cell y c' e
        exact ⟨w2, z2.sameBut hs hcc⟩
    · obtain ⟨e, n, ne, nf, d⟩ := I.pin p hp
      refine ⟨(hs.2 p.1 ?_).trans e, n, ne, nf, d⟩
      intro q
      rw [q, hoc] at e
      have q' : oc = p.2 := Option.some.inj e
      exact d w' (by rw [← q']; exact hocd)
theorem store_ok {M : Model} {A : Around} {E : Value → Shared → Prop} {i : Nat} {x : Str} {v : V} {u : Value} {Q : Unit → Shared → Prop} (I : Inv X pins σ H s) (hN : X.N.Nodup) (hi : X.N[i]? = some x) (hx : Loc X.env.scope x) (r : RelV v u)
    (h : ∀ s', Inv X pins (σ.set i (some v)) H s' → Q () s') (hf : X.fn x = true ∨ X.env.scope.names.lookup x = some .local := by first | exact .inl rfl | exact .inr rfl | assumption) : wpAny M A (storeName X.env x u) Q E s :=
  store_ok2 I hN hi hx r (fun s' I' _ => h s' I') hf
/-- behind a call or a block, the state as it is -/
theorem Inv.call' {s' : Shared} {ch : List Addr} (I : Inv X pins σ H s) (ho : s'.os = s.os) (u : Un (frs X.stack) ch H H' s.heap s'.heap) (hok : HOk X.prog X.w H' s'.heap) (hg : AllBare s'.gens)
    (hch : ∀ b ∈ ch, (b ∈ X.ex ∨ X.s₀.heap.objs.size ≤ b) ∧ b ≠ X.env.locals ∧ (∀ x c, X.env.cells.lookup x = some c → c ≠ b) ∧ ∀ p ∈ X.pn ++ pins, p.1 ≠ b) : Inv X pins σ H' s' := by
  obtain ⟨h', g', d', t', o'⟩ := s'
  have e : o' = s.os := ho
  subst e
  exact I.call (g' := g') (t' := t') (d' := d') u hok hg hch
end

/-! ### the judgements -/
/-- an exception: its class, its own dict's address (where it has one), the abstract heap behind it -/
abbrev XK := Value → Option Addr → Hp → Prop
abbrev St := List (Option V)
abbrev VK := V → Hp → Prop
/-- an expression's reading; a test's; an argument list's -/
abbrev TE := St → Hp → VK → Prop
abbrev TT := St → Hp → (Bool → Hp → Prop) → Prop
abbrev TA := St → Hp → (List V → Hp → Prop) → Prop
/-- what is wanted behind a statement -/
structure Ends where
  nx : St → Hp → Prop
  rt : VK
  bk : St → Hp → Prop := fun _ _ => False
  ct : St → Hp → Prop := fun _ _ => False
abbrev TS := Ends → St → Hp → Prop

def EP (X : Cx) (pins : List (Addr × Obj)) (σ : St) (Q : VK) (u : Value) (s' : Shared) : Prop := ∃ v H', Inv X pins σ H' s' ∧ RelV v u ∧ Q v H'
def TP (X : Cx) (pins : List (Addr × Obj)) (σ : St) (Q : Bool → Hp → Prop) (b : Bool) (s' : Shared) : Prop := ∃ H', Inv X pins σ H' s' ∧ Q b H'
def AP (X : Cx) (pins : List (Addr × Obj)) (σ : St) (Q : List V → Hp → Prop) (us : List Value) (s' : Shared) : Prop := ∃ vs H', Inv X pins σ H' s' ∧ Vals vs us ∧ Q vs H'
def SP (X : Cx) (pins : List (Addr × Obj)) (D : Ends) (f : Flow) (s' : Shared) : Prop :=
  match f with
  | .next => ∃ σ' H', Inv X pins σ' H' s' ∧ D.nx σ' H'
  | .brk => ∃ σ' H', Inv X pins σ' H' s' ∧ D.bk σ' H'
  | .cont => ∃ σ' H', Inv X pins σ' H' s' ∧ D.ct σ' H'
  | .ret u => ∃ v σ' H', Inv X pins σ' H' s' ∧ RelV v u ∧ D.rt v H'

def PE (X : Cx) (e : Expr) (t : TE) : Prop :=
  ∀ (pins : List (Addr × Obj)) (s : Shared) (σ : St) (H : Hp) (Q : VK), Inv X pins σ H s → t σ H Q → wpAny (model X.prog X.w) X.A (eval e X.env) (EP X pins σ Q) X.xe s
def PT (X : Cx) (e : Expr) (t : TT) : Prop :=
  ∀ (pins : List (Addr × Obj)) (s : Shared) (σ : St) (H : Hp) (Q : Bool → Hp → Prop), Inv X pins σ H s → t σ H Q → wpAny (model X.prog X.w) X.A (isTrue e X.env (eval e X.env)) (TP X pins σ Q) X.xe s
/-- a test whatever its 'whole' is (and, or) -/
def PW (X : Cx) (e : Expr) (t : TT) : Prop :=
  ∀ (whole : Sem Value) (pins : List (Addr × Obj)) (s : Shared) (σ : St) (H : Hp) (Q : Bool → Hp → Prop), Inv X pins σ H s → t σ H Q → wpAny (model X.prog X.w) X.A (isTrue e X.env whole) (TP X pins σ Q) X.xe s
theorem PW.pt {X : Cx} {e : Expr} {t : TT} (h : PW X e t) : PT X e t := h _
/-- an argument list (no star), from the left -/
def PA (X : Cx) (es : List Expr) (t : TA) : Prop :=
  ∀ (pos : Pos) (pins : List (Addr × Obj)) (s : Shared) (σ : St) (H : Hp) (Q : List V → Hp → Prop), Inv X pins σ H s → t σ H Q → wpAny (model X.prog X.w) X.A (spliced (backTo pos (starEach es X.env))) (AP X pins σ Q) X.xe s
def PS (X : Cx) (st : Stmt) (t : TS) : Prop :=
  ∀ (pins : List (Addr × Obj)) (s : Shared) (σ : St) (H : Hp) (D : Ends), Inv X pins σ H s → t D σ H → wpAny (model X.prog X.w) X.A (exec st X.env) (SP X pins D) X.xe s
def PSs (X : Cx) (st : List Stmt) (t : TS) : Prop :=
  ∀ (pins : List (Addr × Obj)) (s : Shared) (σ : St) (H : Hp) (D : Ends), Inv X pins σ H s → t D σ H → wpAny (model X.prog X.w) X.A (execs st X.env) (SP X pins D) X.xe s
/-- weaken the end -/
theorem thn {α : Type} {t : Sem α} {Q Q' : α → Shared → Prop} {M : Model} {A : Around} {E : Value → Shared → Prop} {s : Shared} (h : wpAny M A t Q E s) (hQ : ∀ a s, Q a s → Q' a s) : wpAny M A t Q' E s := wpAny_mono h hQ fun _ _ x => x
end L2

namespace L2
open PySem PySem.Spec PyProof.Rows
section
variable {X : Cx}

/-- two expressions in a row -/
theorem bin {a b : Expr} {ta tb : TE} (ha : PE X a ta) (hb : PE X b tb) {pins : List (Addr × Obj)} {s : Shared} {σ : St} {H : Hp} {R : V → V → Hp → Prop} (I : Inv X pins σ H s) (h : ta σ H fun x H1 => tb σ H1 fun y H2 => R x y H2)
    {α : Type} {Q : α → Shared → Prop} {f : Value → Value → Sem α}
    (hf : ∀ v u s2 x y H2, Inv X pins σ H2 s2 → RelV x v → RelV y u → R x y H2 → wpAny (model X.prog X.w) X.A (f v u) Q X.xe s2) :
    wpAny (model X.prog X.w) X.A (eval a X.env) (fun v s₁ => wpAny (model X.prog X.w) X.A (eval b X.env) (fun u s₂ => wpAny (model X.prog X.w) X.A (f v u) Q X.xe s₂) X.xe s₁) X.xe s := by
  refine thn (ha pins s σ H _ I h) fun v s1 ⟨x, H1, I1, r1, q1⟩ => ?_
  refine thn (hb pins s1 σ H1 _ I1 q1) fun u s2 ⟨y, H2, I2, r2, q2⟩ => ?_
  exact hf v u s2 x y H2 I2 r1 r2 q2

/-! ### names and constants -/
def tVar (i : Nat) : TE := fun σ H Q => ∃ v, σ[i]? = some (some v) ∧ Q v H
def tC (v : V) : TE := fun _ H Q => Q v H
theorem pe_var {i : Nat} {x : Str} {pos : Pos} (hN : X.N[i]? = some x) (hv : Vis X.env.scope x) (hd : (x == ("__debug__" : Str)) = false := by decide) (hcd : (x == ("__classdict__" : Str)) = false := by decide) : PE X (.Name x pos) (tVar i) := by
  intro pins s σ H Q I h
  obtain ⟨v, e, h⟩ := h
  obtain ⟨m, hn, hl⟩ := I.loc
  obtain ⟨u, r, l⟩ := hl i x v hN e hv
  have fin : EP X pins σ Q u s := ⟨v, H, I, r, h⟩
  rcases l with ⟨hk, hm⟩ | ⟨hk, c, hc, hcell⟩
  · exact wpAny_Name (wpAny_loadName_local I.ok.kind hk hn hm fin) hd
  · rcases hk with hk | hk
    · exact wpAny_Name (wpAny_loadName_cell I.ok.kind hk hc hcell fin) hd
    · exact wpAny_Name (wpAny_loadName_free I.ok.kind hk hc hcell fin hcd) hd
theorem pe_int {i j pos} : PE X (.Constant (.int i) j pos) (tC (.int i)) := fun _ _ _ H _ I h => wpAny_Constant_int ⟨.int i, H, I.tok _, ⟨_, rfl⟩, h⟩
theorem pe_bl {b j pos} : PE X (.Constant (.bool b) j pos) (tC (.bl b)) := fun _ _ _ H _ I h => Constant_bool ⟨.bl b, H, I, rfl, h⟩
theorem pe_non {j pos} : PE X (.Constant .none j pos) (tC .non) := fun _ _ _ H _ I h => Constant_none ⟨.non, H, I, rfl, h⟩
theorem pe_str {x j pos} : PE X (.Constant (.str x) j pos) (tC (.str x)) := fun _ _ _ H _ I h => Calls.Constant_str ⟨.str x, H, I.tok _, ⟨_, rfl⟩, h⟩

/-- a global name of the def -/
def Gl (X : Cx) (x : Str) : Prop := X.env.kindOf x = some .globalImplicit
theorem ld_glob {E : Value → Shared → Prop} {pins : List (Addr × Obj)} {s : Shared} {σ : St} {H : Hp} {x : Str} {u : Value} {pos : Pos} {Q : Value → Shared → Prop} (I : Inv X pins σ H s) (hg : Gl X x) (hm : X.mg x = some u) (h : Q u s)
    (hd : (x == ("__debug__" : Str)) = false := by decide) : wpAny (model X.prog X.w) X.A (eval (.Name x pos) X.env) Q E s :=
  Calls.Name_function_global I.ok.kind hg (Calls.loadGlobal_global (by rw [I.ok.glob]; exact I.mod.glob.keeps I.bk) hm h) hd
theorem ld_blt {E : Value → Shared → Prop} {pins : List (Addr × Obj)} {s : Shared} {σ : St} {H : Hp} {x : Str} {u : Value} {pos : Pos} {Q : Value → Shared → Prop} (I : Inv X pins σ H s) (hg : Gl X x) (hm : X.mg x = none) (hv : bootBuiltins x = some u) (h : Q u s)
    (hn : x ≠ "__name__" := by decide) (hd : (x == ("__debug__" : Str)) = false := by decide) : wpAny (model X.prog X.w) X.A (eval (.Name x pos) X.env) Q E s := by
  obtain ⟨mb, h1, h2⟩ := I.mod.blt
  exact Calls.Name_function_global I.ok.kind hg (Calls.loadGlobal_builtin (by rw [I.ok.glob]; exact I.mod.glob.keeps I.bk) hm (by rw [I.ok.blt]; exact h1.keeps I.bk) ((h2 x hn).trans hv) h) hd
/-- a module's constant, a class, a function, as a value -/
theorem pe_glob {x : Str} {v : V} {u : Value} {pos : Pos} (hg : Gl X x) (hm : X.mg x = some u) (r : RelV v u) (hd : (x == ("__debug__" : Str)) = false := by decide) : PE X (.Name x pos) (tC v) :=
  fun _ _ _ H _ I h => ld_glob I hg hm ⟨v, H, I, r, h⟩ hd
theorem pe_bltn {x : Str} {v : V} {u : Value} {pos : Pos} (hg : Gl X x) (hm : X.mg x = none) (hv : bootBuiltins x = some u) (r : RelV v u) (hn : x ≠ "__name__" := by decide) (hd : (x == ("__debug__" : Str)) = false := by decide) : PE X (.Name x pos) (tC v) :=
  fun _ _ _ H _ I h => ld_blt I hg hm hv ⟨v, H, I, r, h⟩ hn hd

/-! ### arithmetic -/
/-- two ints -/
def t2I (ta tb : TE) (k : Int → Int → Hp → Prop) : St → Hp → Prop := fun σ H => ta σ H fun x H1 => tb σ H1 fun y H2 => ∃ i j, x = .int i ∧ y = .int j ∧ k i j H2
def tAdd (ta tb : TE) : TE := fun σ H Q => t2I ta tb (fun i j H2 => Q (.int (i + j)) H2) σ H
def tSub (ta tb : TE) : TE := fun σ H Q => t2I ta tb (fun i j H2 => Q (.int (i - j)) H2) σ H
/-- the left factor below 2^64 -/
def tMul (ta tb : TE) : TE := fun σ H Q => t2I ta tb (fun i j H2 => (-(2 ^ 64) < i ∧ i < 2 ^ 64) ∧ Q (.int (i * j)) H2) σ H
variable {a b : Expr} {ta tb : TE} {pos : Pos}
theorem pe_add (ha : PE X a ta) (hb : PE X b tb) : PE X (.BinOp a .Add b pos) (tAdd ta tb) := by
  intro pins s σ H Q I h
  refine wpAny_BinOp (bin ha hb I h fun v u s2 x y H2 I2 rx ry q => ?_)
  obtain ⟨i, j, rfl, rfl, q⟩ := q
  obtain ⟨t, rfl⟩ := rx
  obtain ⟨t', rfl⟩ := ry
  exact add_int ⟨.int _, H2, I2.tok _, ⟨_, rfl⟩, q⟩
theorem pe_sub (ha : PE X a ta) (hb : PE X b tb) : PE X (.BinOp a .Sub b pos) (tSub ta tb) := by
  intro pins s σ H Q I h
  refine wpAny_BinOp (bin ha hb I h fun v u s2 x y H2 I2 rx ry q => ?_)
  obtain ⟨i, j, rfl, rfl, q⟩ := q
  obtain ⟨t, rfl⟩ := rx
  obtain ⟨t', rfl⟩ := ry
  exact sub_int ⟨.int _, H2, I2.tok _, ⟨_, rfl⟩, q⟩
theorem pe_mul (ha : PE X a ta) (hb : PE X b tb) : PE X (.BinOp a .Mult b pos) (tMul ta tb) := by
  intro pins s σ H Q I h
  refine wpAny_BinOp (bin ha hb I h fun v u s2 x y H2 I2 rx ry q => ?_)
  obtain ⟨i, j, rfl, rfl, ⟨q1, q2⟩, q⟩ := q
  obtain ⟨t, rfl⟩ := rx
  obtain ⟨t', rfl⟩ := ry
  exact mul_int ⟨.int _, H2, I2.tok _, ⟨_, rfl⟩, q⟩ (.of_left (intBits_le_64 q1 q2))

/-! ### comparisons -/
def PC (X : Cx) (op : CmpOp) (a b : Expr) (t : TE) : Prop :=
  ∀ (pins : List (Addr × Obj)) (s : Shared) (σ : St) (H : Hp) (Q : VK), Inv X pins σ H s → t σ H Q →
    wpAny (model X.prog X.w) X.A (eval a X.env) (fun v s₁ => wpAny (model X.prog X.w) X.A (eval b X.env) (fun u s₂ => wpAny (model X.prog X.w) X.A (compareOp op v u) (EP X pins σ Q) X.xe s₂) X.xe s₁) X.xe s
theorem nobehind (b : Expr) {op : CmpOp} (h : op ≠ .In) (h2 : op ≠ .NotIn) : behindInMarks op b = false := by
  have e1 : (op == CmpOp.In) = false := by cases op <;> first | rfl | exact absurd rfl h
  have e2 : (op == CmpOp.NotIn) = false := by cases op <;> first | rfl | exact absurd rfl h2
  cases b <;> simp [behindInMarks, e1, e2]
def tCmp (p : Int → Int → Bool) (ta tb : TE) : TE := fun σ H Q => t2I ta tb (fun i j H2 => Q (.bl (p i j)) H2) σ H
abbrev tLt : TE → TE → TE := tCmp fun i j => decide (i < j)
abbrev tLe : TE → TE → TE := tCmp fun i j => decide (i ≤ j)
abbrev tGt : TE → TE → TE := tCmp fun i j => decide (j < i)
abbrev tGe : TE → TE → TE := tCmp fun i j => decide (j ≤ i)
abbrev tEqI : TE → TE → TE := tCmp fun i j => decide (i = j)
abbrev tNeI : TE → TE → TE := tCmp fun i j => !decide (i = j)
/-- a comparison of two ints, by its rule -/
theorem pc_int {op : CmpOp} {p : Int → Int → Bool} (ha : PE X a ta) (hb : PE X b tb)
    (rule : ∀ (i j : Int) (t u : Tok) (Q : Value → Shared → Prop) (s : Shared), Q (.bool (p i j)) s → wpAny (model X.prog X.w) X.A (compareOp op (.int i t) (.int j u)) Q X.xe s) : PC X op a b (tCmp p ta tb) := by
  intro pins s σ H Q I h
  refine bin ha hb I h fun v u s2 x y H2 I2 rx ry q => ?_
  obtain ⟨i, j, rfl, rfl, q⟩ := q
  obtain ⟨t, rfl⟩ := rx
  obtain ⟨t', rfl⟩ := ry
  exact rule i j t t' _ s2 ⟨.bl _, H2, I2, rfl, q⟩
theorem pc_lt (ha : PE X a ta) (hb : PE X b tb) : PC X .Lt a b (tLt ta tb) := pc_int ha hb fun _ _ _ _ _ _ h => lt_int h
theorem pc_le (ha : PE X a ta) (hb : PE X b tb) : PC X .LtE a b (tLe ta tb) := pc_int ha hb fun _ _ _ _ _ _ h => le_int h
theorem pc_gt (ha : PE X a ta) (hb : PE X b tb) : PC X .Gt a b (tGt ta tb) := pc_int ha hb fun _ _ _ _ _ _ h => gt_int h
theorem pc_ge (ha : PE X a ta) (hb : PE X b tb) : PC X .GtE a b (tGe ta tb) := pc_int ha hb fun _ _ _ _ _ _ h => ge_int h
theorem pc_eqI (ha : PE X a ta) (hb : PE X b tb) : PC X .Eq a b (tEqI ta tb) := pc_int ha hb fun _ _ _ _ _ _ h => eq_int (by rw [Bool.beq_eq_decide_eq]; exact h)
theorem pc_neI (ha : PE X a ta) (hb : PE X b tb) : PC X .NotEq a b (tNeI ta tb) := pc_int ha hb fun _ _ _ _ _ _ h => ne_int (by rw [bne, Bool.beq_eq_decide_eq]; exact h)
/-- is None -/
def tIsN (ta : TE) : TE := fun σ H Q => ta σ H fun x H1 => Q (.bl (decide (x = .non))) H1
def tNotN (ta : TE) : TE := fun σ H Q => ta σ H fun x H1 => Q (.bl (!decide (x = .non))) H1
theorem RelV.none_iff {x : V} {v : Value} (r : RelV x v) : (v == Value.none) = decide (x = .non) := by
  cases x with
  | non => cases r; rfl
  | bl _ => cases r; rfl
  | int _ => obtain ⟨t, rfl⟩ := r; rfl
  | str _ => obtain ⟨t, rfl⟩ := r; rfl
  | byt _ => obtain ⟨t, rfl⟩ := r; rfl
  | flt _ => obtain ⟨t, rfl⟩ := r; rfl
  | ref _ => cases r; rfl
  | ty _ => cases r; rfl
theorem pc_isN {j pos'} (ha : PE X a ta) : PC X .Is a (.Constant .none j pos') (tIsN ta) := by
  intro pins s σ H Q I h
  refine thn (ha pins s σ H _ I h) fun v s1 ⟨x, H1, I1, r1, q1⟩ => ?_
  exact Constant_none (is_none_gen ⟨.bl _, H1, I1, by rw [r1.none_iff]; rfl, q1⟩)
theorem pc_notN {j pos'} (ha : PE X a ta) : PC X .IsNot a (.Constant .none j pos') (tNotN ta) := by
  intro pins s σ H Q I h
  refine thn (ha pins s σ H _ I h) fun v s1 ⟨x, H1, I1, r1, q1⟩ => ?_
  exact Constant_none (isnot_none_gen ⟨.bl _, H1, I1, by rw [r1.none_iff]; rfl, q1⟩)
/-- a comparison as a value, as a test -/
def tB (t : TE) : TT := fun σ H Q => t σ H fun x H1 => ∃ c, x = .bl c ∧ Q c H1
theorem pe_cmp {op : CmpOp} {t : TE} (h : PC X op a b t) (h1 : behindInMarks op b = false := by first | exact nobehind _ (by decide) (by decide) | rfl) : PE X (.Compare a [op] [b] pos) t := fun pins s σ H Q I hw => wpAny_Compare1 (h pins s σ H Q I hw) h1
theorem pt_cmp {op : CmpOp} {t : TE} (h : PC X op a b t) (h1 : behindInMarks op b = false := by first | exact nobehind _ (by decide) (by decide) | rfl) : PT X (.Compare a [op] [b] pos) (tB t) := by
  intro pins s σ H Q I hw
  refine wpAny_isTrue_Compare1 (thn (h pins s σ H _ I hw) fun v s1 h1 => thn h1 fun u s2 h2 => thn h2 fun c s3 ⟨x, H1, I1, r1, q1⟩ => ?_) h1
  obtain ⟨d, rfl, q⟩ := q1
  cases r1
  exact wpAny_truthy_bool ⟨H1, I1, q⟩
/-- an expression whose value is a bool, as a test -/
theorem pt_val {e : Expr} {t : TE} (h : PE X e t) (he : ∀ whole, isTrue e X.env whole = (do let v ← whole; standAt e.pos; holding [v] (truthy v)) := by intro _; rfl) : PT X e (tB t) := by
  intro pins s σ H Q I hw
  refine isTrue_plain (thn (h pins s σ H _ I hw) fun v s1 ⟨x, H1, I1, r1, q1⟩ => ?_) (he _)
  obtain ⟨d, rfl, q⟩ := q1
  cases r1
  exact wpAny_truthy_bool ⟨H1, I1, q⟩

/-! ### and, or, not -/
variable {tA tB' : TT} {rest : List Expr}
def tAnd (t u : TT) : TT := fun σ H Q => t σ H fun c H1 => if c = true then u σ H1 Q else Q false H1
def tOr (t u : TT) : TT := fun σ H Q => t σ H fun c H1 => if c = true then Q true H1 else u σ H1 Q
def tNot (t : TT) : TT := fun σ H Q => t σ H fun c H1 => Q (!c) H1
theorem pw_and1 (ha : PT X a tA) : PW X (.BoolOp .And [a] pos) tA := by
  intro wh pins s σ H Q I h
  refine isTrue_and (thn (ha pins s σ H Q I h) fun c s1 e => ?_)
  cases c with
  | true => exact isTrue_and_nil e
  | false => exact e
theorem pw_or1 (ha : PT X a tA) : PW X (.BoolOp .Or [a] pos) tA := by
  intro wh pins s σ H Q I h
  refine isTrue_or (thn (ha pins s σ H Q I h) fun c s1 e => ?_)
  cases c with
  | false => exact isTrue_or_nil e
  | true => exact e
theorem pw_and (ha : PT X a tA) (hb : PW X (.BoolOp .And (b :: rest) pos) tB') : PW X (.BoolOp .And (a :: b :: rest) pos) (tAnd tA tB') := by
  intro wh pins s σ H Q I h
  refine isTrue_and (thn (ha pins s σ H _ I h) fun c s1 ⟨H1, I1, q1⟩ => ?_)
  cases c with
  | true => exact hb wh pins s1 σ H1 Q I1 q1
  | false => exact ⟨H1, I1, q1⟩
theorem pw_or (ha : PT X a tA) (hb : PW X (.BoolOp .Or (b :: rest) pos) tB') : PW X (.BoolOp .Or (a :: b :: rest) pos) (tOr tA tB') := by
  intro wh pins s σ H Q I h
  refine isTrue_or (thn (ha pins s σ H _ I h) fun c s1 ⟨H1, I1, q1⟩ => ?_)
  cases c with
  | true => exact ⟨H1, I1, q1⟩
  | false => exact hb wh pins s1 σ H1 Q I1 q1
theorem pt_not (ha : PT X a tA) : PT X (.UnaryOp .Not a pos) (tNot tA) := by
  intro pins s σ H Q I h
  exact isTrue_not (ha pins s σ H (fun c H1 => Q (!c) H1) I h)
/-- .. as values (bools) -/
def tAndV (ta tb : TE) : TE := fun σ H Q => ta σ H fun x H1 => ∃ c, x = .bl c ∧ if c = true then tb σ H1 Q else Q (.bl false) H1
def tOrV (ta tb : TE) : TE := fun σ H Q => ta σ H fun x H1 => ∃ c, x = .bl c ∧ if c = true then Q (.bl true) H1 else tb σ H1 Q
def tNotV (ta : TE) : TE := fun σ H Q => ta σ H fun x H1 => ∃ c, x = .bl c ∧ Q (.bl (!c)) H1
theorem pe_one {op} {t : TE} (h : PE X a t) : PE X (.BoolOp op [a] pos) t := fun pins s σ H Q I hw => BoolOp_one (h pins s σ H Q I hw)
theorem pe_and (ha : PE X a ta) (hb : PE X (.BoolOp .And (b :: rest) pos) tb) : PE X (.BoolOp .And (a :: b :: rest) pos) (tAndV ta tb) := by
  intro pins s σ H Q I h
  refine BoolOp_and (thn (ha pins s σ H _ I h) fun v s1 ⟨x, H1, I1, r1, q1⟩ => ?_)
  obtain ⟨c, rfl, q1⟩ := q1
  cases r1
  refine wpAny_truthy_bool ?_
  cases c with
  | true => exact hb pins s1 σ H1 Q I1 q1
  | false => exact ⟨.bl false, H1, I1, rfl, q1⟩
theorem pe_or (ha : PE X a ta) (hb : PE X (.BoolOp .Or (b :: rest) pos) tb) : PE X (.BoolOp .Or (a :: b :: rest) pos) (tOrV ta tb) := by
  intro pins s σ H Q I h
  refine BoolOp_or (thn (ha pins s σ H _ I h) fun v s1 ⟨x, H1, I1, r1, q1⟩ => ?_)
  obtain ⟨c, rfl, q1⟩ := q1
  cases r1
  refine wpAny_truthy_bool ?_
  cases c with
  | false => exact hb pins s1 σ H1 Q I1 q1
  | true => exact ⟨.bl true, H1, I1, rfl, q1⟩
theorem pe_not (ha : PE X a ta) : PE X (.UnaryOp .Not a pos) (tNotV ta) := by
  intro pins s σ H Q I h
  refine UnaryOp_ (thn (ha pins s σ H _ I h) fun v s1 ⟨x, H1, I1, r1, q1⟩ => ?_)
  obtain ⟨c, rfl, q1⟩ := q1
  cases r1
  exact not_of (wpAny_truthy_bool ⟨.bl (!c), H1, I1, rfl, q1⟩)
/-- a if t else b -/
def tIf (t : TT) (ta tb : TE) : TE := fun σ H Q => t σ H fun c H1 => if c = true then ta σ H1 Q else tb σ H1 Q
theorem pe_ifExp {c : Expr} (hc : PT X c tA) (ha : PE X a ta) (hb : PE X b tb) : PE X (.IfExp c a b pos) (tIf tA ta tb) := by
  intro pins s σ H Q I h
  refine wpAny_IfExp (thn (hc pins s σ H _ I h) fun d s1 ⟨H1, I1, q1⟩ => ?_)
  cases d with
  | true => exact ha pins s1 σ H1 Q I1 q1
  | false => exact hb pins s1 σ H1 Q I1 q1
end
end L2

namespace L2
open PySem PySem.Spec PyProof.Rows

/-! ### a list, a tuple that is read: tracked, frozen, or an object of the module -/
def SqL (K : PySem.W.Frag) (H : Hp) (a : Addr) (xs : List V) : Prop :=
  Rd H a (.lst xs) ∨
    ∃ (o : Obj) (its : Array Value) (n : Nat), K.lookup a = some o ∧ o.cls = .type "list" ∧ o.dict = none ∧ o.data = .seq its n ∧ its.size ≤ sizeLine ∧ Vals xs its.toList
def SqT (K : PySem.W.Frag) (H : Hp) (a : Addr) (xs : List V) : Prop :=
  Rd H a (.tup xs) ∨
    ∃ (o : Obj) (its : Array Value) (n : Nat), K.lookup a = some o ∧ o.cls = .type "tuple" ∧ o.data = .seq its n ∧ its.size ≤ sizeLine ∧ Vals xs its.toList
def absV : Value → Option V
  | .none => some .non
  | .bool b => some (.bl b)
  | .int i _ => some (.int i)
  | .str x _ => some (.str x)
  | .bytes b _ => some (.byt b)
  | .float b _ => some (.flt b)
  | .ref a => some (.ref a)
  | .type n => some (.ty n)
  | _ => none
theorem RelV.abs {x : V} {u : Value} (r : RelV x u) : absV u = some x := by
  cases x with
  | non => cases r; rfl
  | bl _ => cases r; rfl
  | int _ => obtain ⟨t, rfl⟩ := r; rfl
  | str _ => obtain ⟨t, rfl⟩ := r; rfl
  | byt _ => obtain ⟨t, rfl⟩ := r; rfl
  | flt _ => obtain ⟨t, rfl⟩ := r; rfl
  | ref _ => cases r; rfl
  | ty _ => cases r; rfl
theorem RelV.inj {x y : V} {u : Value} (r : RelV x u) (q : RelV y u) : x = y := Option.some.inj (r.abs.symm.trans q.abs)
theorem Vals.inj : ∀ {xs ys : List V} {us : List Value}, Vals xs us → Vals ys us → xs = ys
  | _, _, _, .nil, .nil => rfl
  | _, _, _, .cons r t, .cons r' t' => by rw [r.inj r', Vals.inj t t']
section
variable {X : Cx} {pins : List (Addr × Obj)} {σ : St} {H : Hp} {s : Shared} {a : Addr} {xs ys : List V}
theorem SqL.of {K : PySem.W.Frag} (h : H a = some (.lst xs)) : SqL K H a xs := .inl (.inl h)
theorem SqT.of {K : PySem.W.Frag} (h : H a = some (.tup xs)) : SqT K H a xs := .inl (.inl h)
theorem Inv.list (I : Inv X pins σ H s) (h : SqL X.K H a xs) : ∃ its : List Value, Vals xs its ∧ PlainL s.heap a its.toArray ∧ xs.length ≤ sizeLine := by
  rcases h with h | ⟨o, its, n, hk, hc, hd, hs, hz, r⟩
  · obtain ⟨z, its, n, r, e⟩ := h.ok I.hok
    exact ⟨its, r, ⟨_, n, e, rfl, rfl, rfl⟩, z⟩
  · refine ⟨its.toList, r, ⟨o, n, I.kIn a o hk, hc, hd, by simpa using hs⟩, ?_⟩
    have e := r.length
    simp only [Array.length_toList] at e
    omega
theorem Inv.tuple (I : Inv X pins σ H s) (h : SqT X.K H a xs) : ∃ its : List Value, Vals xs its ∧ IsTup s.heap a its.toArray ∧ xs.length ≤ sizeLine := by
  rcases h with h | ⟨o, its, n, hk, hc, hs, hz, r⟩
  · obtain ⟨z, its, r, p⟩ := h.ok I.hok
    exact ⟨its, r, p, z⟩
  · refine ⟨its.toList, r, ⟨o, I.kIn a o hk, hc, n, by simpa using hs⟩, ?_⟩
    have e := r.length
    simp only [Array.length_toList] at e
    omega
theorem Inv.list_inj (I : Inv X pins σ H s) (h : SqL X.K H a xs) (h' : SqL X.K H a ys) : xs = ys := by
  obtain ⟨its, r, ⟨o, n, e, _, _, d⟩, _⟩ := I.list h
  obtain ⟨its', r', ⟨o', n', e', _, _, d'⟩, _⟩ := I.list h'
  rw [e] at e'; cases e'
  rw [d] at d'
  injection d' with d1 _
  have : its = its' := by simpa using congrArg Array.toList d1
  subst this
  exact r.inj r'
theorem Inv.tuple_inj (I : Inv X pins σ H s) (h : SqT X.K H a xs) (h' : SqT X.K H a ys) : xs = ys := by
  obtain ⟨its, r, ⟨o, e, _, n, d⟩, _⟩ := I.tuple h
  obtain ⟨its', r', ⟨o', e', _, n', d'⟩, _⟩ := I.tuple h'
  rw [e] at e'; cases e'
  rw [d] at d'
  injection d' with d1 _
  have : its = its' := by simpa using congrArg Array.toList d1
  subst this
  exact r.inj r'
end

/-! ### another wish about exceptions -/
abbrev Cx.wish (X : Cx) (E : Value → Shared → Prop) : Cx := { X with xe := E }
/-- no exception leaves -/
abbrev Cx.nox (X : Cx) : Cx := X.wish fun _ _ => False
theorem Cx.Ok.wish {X : Cx} (ok : X.Ok) (E : Value → Shared → Prop) : (X.wish E).Ok :=
  ⟨ok.mod, ok.kind, ok.glob, ok.blt, ok.above, ok.inj, ok.has, ok.cab, ok.hd, ok.frames, ok.stk, ok.exf, ok.bs, ok.bsz, ok.noex, ok.exfs, ok.funs, ok.frf⟩
theorem Cx.Ok.unwish {X : Cx} {E : Value → Shared → Prop} (ok : (X.wish E).Ok) : X.Ok :=
  ⟨ok.mod, ok.kind, ok.glob, ok.blt, ok.above, ok.inj, ok.has, ok.cab, ok.hd, ok.frames, ok.stk, ok.exf, ok.bs, ok.bsz, ok.noex, ok.exfs, ok.funs, ok.frf⟩
section
variable {X : Cx} {pins : List (Addr × Obj)} {σ : St} {H : Hp} {s : Shared} {E : Value → Shared → Prop}
theorem Inv.wish (I : Inv X pins σ H s) (E : Value → Shared → Prop) : Inv (X.wish E) pins σ H s := ⟨I.ok.wish E, I.os, I.bare, I.base, I.loc, I.cell, I.free, I.freeC, I.pin, I.hok, I.len⟩
theorem Inv.unwish (I : Inv (X.wish E) pins σ H s) : Inv X pins σ H s := ⟨I.ok.unwish, I.os, I.bare, I.base, I.loc, I.cell, I.free, I.freeC, I.pin, I.hok, I.len⟩
theorem SP.unwish {D : Ends} {f : Flow} {s' : Shared} (h : SP (X.wish E) pins D f s') : SP X pins D f s' := by
  cases f with
  | next => obtain ⟨σ', H', I, q⟩ := h; exact ⟨σ', H', I.unwish, q⟩
  | brk => obtain ⟨σ', H', I, q⟩ := h; exact ⟨σ', H', I.unwish, q⟩
  | cont => obtain ⟨σ', H', I, q⟩ := h; exact ⟨σ', H', I.unwish, q⟩
  | ret u => obtain ⟨v, σ', H', I, r, q⟩ := h; exact ⟨v, σ', H', I.unwish, r, q⟩
theorem PE.nox {e : Expr} {t : TE} (h : PE X.nox e t) : PE X e t := fun pins s σ H Q I hw =>
  wpAny_mono (h pins s σ H Q (I.wish _) hw) (fun _ _ ⟨v, H', I', r, q⟩ => ⟨v, H', I'.unwish, r, q⟩) fun _ _ z => False.elim z
theorem PT.nox {e : Expr} {t : TT} (h : PT X.nox e t) : PT X e t := fun pins s σ H Q I hw =>
  wpAny_mono (h pins s σ H Q (I.wish _) hw) (fun _ _ ⟨H', I', q⟩ => ⟨H', I'.unwish, q⟩) fun _ _ z => False.elim z
theorem PSs.nox {st : List Stmt} {t : TS} (h : PSs X.nox st t) : PSs X st t := fun pins s σ H D I hw =>
  wpAny_mono (h pins s σ H D (I.wish _) hw) (fun _ _ q => q.unwish) fun _ _ z => False.elim z
end

/-! ### blocks and small statements -/
section
variable {X : Cx} {st : Stmt} {rest : List Stmt} {t u : TS} {e : Expr} {te : TE} {pos : Pos}
def tNext : TS := fun D σ H => D.nx σ H
def tSeq (t u : TS) : TS := fun D σ H => t { D with nx := u D } σ H
theorem pss_nil : PSs X [] tNext := fun _ _ σ H _ I h => wpAny_execs_nil ⟨σ, H, I, h⟩
theorem pss_cons (h1 : PS X st t) (h2 : PSs X rest u) : PSs X (st :: rest) (tSeq t u) := by
  intro pins s σ H D I h
  refine wpAny_execs_cons (thn (h1 pins s σ H { D with nx := u D } I h) fun f s1 q => ?_)
  cases f with
  | next =>
    obtain ⟨σ', H', I', q⟩ := q
    exact h2 pins s1 σ' H' D I' q
  | ret v => exact q
  | brk => exact q
  | cont => exact q
theorem pss_one (h1 : PS X st t) : PSs X [st] t := by
  intro pins s σ H D I h
  refine wpAny_execs_cons (thn (h1 pins s σ H D I h) fun f s1 q => ?_)
  cases f with
  | next => exact wpAny_execs_nil q
  | ret v => exact q
  | brk => exact q
  | cont => exact q
def tBreak : TS := fun D σ H => D.bk σ H
def tCont : TS := fun D σ H => D.ct σ H
theorem ps_pass : PS X (.Pass pos) tNext := fun _ _ σ H _ I h => wpAny_Pass ⟨σ, H, I, h⟩
theorem ps_break : PS X (.Break pos) tBreak := fun _ _ σ H _ I h => wpAny_Break ⟨σ, H, I, h⟩
theorem ps_continue : PS X (.Continue pos) tCont := fun _ _ σ H _ I h => wpAny_Continue ⟨σ, H, I, h⟩
/-- in a def's body nothing is shown -/
theorem Inv.quiet {pins : List (Addr × Obj)} {σ : St} {H : Hp} {s : Shared} (I : Inv X pins σ H s) : interactive X.env = false := by simp [interactive, I.ok.kind]
/-- a docstring -/
theorem ps_doc {x j pos pos'} : PS X (.Expr (.Constant (.str x) j pos) pos') tNext := fun _ s σ H _ I h => wpAny_Expr (Calls.Constant_str (show SP X _ _ .next { s with toks := s.toks + 1 } from ⟨σ, H, I.tok _, h⟩)) I.quiet
/-- an expression whose value is dropped -/
def tDrop (te : TE) : TS := fun D σ H => te σ H fun _ H1 => D.nx σ H1
theorem ps_expr (he : PE X e te) (hs : swapsWith e none pos.line X.env = pure false := by rfl) : PS X (.Expr e pos) (tDrop te) := by
  intro pins s σ H D I h
  exact wpAny_Expr_any (thn (he pins s σ H _ I h) fun v s1 ⟨x, H1, I1, r1, q1⟩ => ⟨σ, H1, I1, q1⟩) I.quiet hs
def tRet (te : TE) : TS := fun D σ H => te σ H D.rt
theorem ps_ret (he : PE X e te) : PS X (.Return (some e) pos) (tRet te) := by
  intro pins s σ H D I h
  exact wpAny_Return_some (thn (he pins s σ H _ I h) fun v s1 ⟨x, H1, I1, r1, q1⟩ => ⟨x, σ, H1, I1, r1, q1⟩)
def tRetN : TS := fun D _ H => D.rt .non H
theorem ps_retN : PS X (.Return none pos) tRetN := fun _ _ σ H _ I h => wpAny_Return_none ⟨.non, σ, H, I, rfl, h⟩
def tIfS (c : TT) (t u : TS) : TS := fun D σ H => c σ H fun b H1 => if b = true then t D σ H1 else u D σ H1
theorem ps_if {c : Expr} {a b : List Stmt} {tc : TT} (hc : PT X c tc) (ha : PSs X a t) (hb : PSs X b u) : PS X (.If c a b pos) (tIfS tc t u) := by
  intro pins s σ H D I h
  refine wpAny_If (thn (hc pins s σ H _ I h) fun d s1 ⟨H1, I1, q1⟩ => ?_)
  cases d with
  | true => exact ha pins s1 σ H1 D I1 q1
  | false => exact hb pins s1 σ H1 D I1 q1
/-- code that the proof never comes to -/
def tNever : TS := fun _ _ _ => False
theorem ps_never : PS X st tNever := fun _ _ _ _ _ _ h => h.elim
theorem pss_never {sts : List Stmt} : PSs X sts tNever := fun _ _ _ _ _ _ h => h.elim
end

/-! ### targets -/
abbrev TG := V → St → Hp → (St → Hp → Prop) → Prop
abbrev TGs := List V → St → Hp → (St → Hp → Prop) → Prop
def PG (X : Cx) (target : Expr) (t : TG) : Prop :=
  ∀ (pins : List (Addr × Obj)) (s : Shared) (σ : St) (H : Hp) (v : V) (u : Value) (Q : St → Hp → Prop), Inv X pins σ H s → RelV v u → t v σ H Q →
    wpAny (model X.prog X.w) X.A (assign target X.env u) (fun _ s' => ∃ σ' H', Inv X pins σ' H' s' ∧ Q σ' H') X.xe s
/-- several targets, one after another -/
def PGs (X : Cx) (ts : List Expr) (t : TGs) : Prop :=
  ∀ (pins : List (Addr × Obj)) (s : Shared) (σ : St) (H : Hp) (vs : List V) (us : List Value) (Q : St → Hp → Prop), Inv X pins σ H s → Vals vs us → t vs σ H Q →
    wpAny (model X.prog X.w) X.A (assignInOrder ((assignEach ts X.env).map (·.2)) us) (fun _ s' => ∃ σ' H', Inv X pins σ' H' s' ∧ Q σ' H') X.xe s
/-- o[i] = v, by values -/
abbrev TSet := V → V → V → Hp → (Hp → Prop) → Prop
def PSet (X : Cx) (t : TSet) : Prop :=
  ∀ (pins : List (Addr × Obj)) (s : Shared) (σ : St) (H : Hp) (o i v : V) (ov iv u : Value) (Q : Hp → Prop), Inv X pins σ H s → RelV o ov → RelV i iv → RelV v u → t o i v H Q →
    wpAny (model X.prog X.w) X.A (setItem ov iv u) (fun _ s' => ∃ H', Inv X pins σ H' s' ∧ Q H') X.xe s
/-- a op= b, by values -/
abbrev TIp := V → V → Hp → VK → Prop
def PIp (X : Cx) (op : Operator) (t : TIp) : Prop :=
  ∀ (pins : List (Addr × Obj)) (s : Shared) (σ : St) (H : Hp) (x y : V) (v u : Value) (Q : VK), Inv X pins σ H s → RelV x v → RelV y u → t x y H Q →
    wpAny (model X.prog X.w) X.A (inplaceOp op v u) (EP X pins σ Q) X.xe s
section
variable {X : Cx} {pos : Pos}
def gName (i : Nat) : TG := fun v σ H Q => Q (σ.set i (some v)) H
theorem pg_name {i : Nat} {x : Str} (hN : X.N.Nodup) (hi : X.N[i]? = some x) (hx : Loc X.env.scope x) (hf : X.fn x = true ∨ X.env.scope.names.lookup x = some .local := by first | exact .inl rfl | exact .inr rfl | assumption) : PG X (.Name x pos) (gName i) := by
  intro pins s σ H v u Q I r h
  exact wpAny_assign_Name (store_ok I hN hi hx r (fun s' I' => ⟨_, H, I', h⟩) hf)
def gNil : TGs := fun vs σ H Q => vs = [] ∧ Q σ H
def gCons (t : TG) (u : TGs) : TGs := fun vs σ H Q => ∃ v r, vs = v :: r ∧ t v σ H fun σ' H' => u r σ' H' Q
theorem pgs_nil : PGs X [] gNil := by
  intro pins s σ H vs us Q I r h
  obtain ⟨e, h⟩ := h
  subst e
  cases r
  exact assignInOrder_nil ⟨σ, H, I, h⟩
theorem pgs_cons {e : Expr} {es : List Expr} {t : TG} {u : TGs} (h1 : PG X e t) (h2 : PGs X es u)
    (hs : (assignEach (e :: es) X.env).map (·.2) = assign e X.env :: (assignEach es X.env).map (·.2) := by rfl) : PGs X (e :: es) (gCons t u) := by
  intro pins s σ H vs us Q I r h
  obtain ⟨v, vr, e1, h⟩ := h
  subst e1
  cases r with
  | cons r rr =>
    rw [hs]
    refine assignInOrder_cons (thn (h1 pins s σ H _ _ _ I r h) fun _ s1 ⟨σ1, H1, I1, q1⟩ => ?_)
    exact h2 pins s1 σ1 H1 _ _ Q I1 rr q1
/-- (a, b, ..) = a tuple of that length -/
def gTup (K : PySem.W.Frag) (n : Nat) (t : TGs) : TG := fun v σ H Q => ∃ a xs, v = .ref a ∧ SqT K H a xs ∧ xs.length = n ∧ t xs σ H Q
theorem pg_tup {es : List Expr} {k : Nat} {t : TGs} {n : Nat} (hc : X.calm = true) (h : PGs X es t)
    (hn : (assignEach es X.env).length = n := by rfl) (hst : (assignEach es X.env).findIdx? (·.1) = none := by rfl) : PG X (.Tuple es k pos) (gTup X.K n t) := by
  intro pins s σ H v u Q I r hw
  obtain ⟨a, xs, e1, hq, hl, hw⟩ := hw
  subst e1
  cases r
  obtain ⟨its, rv, ht, hz⟩ := I.tuple hq
  refine assign_Tuple_tuple (I.ok.hd hc) ht (by simp [hn, ← hl, rv.length]) hst fun h' hx => ?_
  have I1 : Inv X pins σ H { s with heap := h' } := I.kept (t' := s.toks) fun b o e => hx b o (Nat.ne_of_lt (Heap.lt_size e)) e
  exact h pins _ σ H xs _ Q I1 (by simpa using rv) hw
/-- o[i] = .. -/
def gSub (to ti : TE) (t : TSet) : TG := fun v σ H Q => to σ H fun o H1 => ti σ H1 fun i H2 => t o i v H2 fun H3 => Q σ H3
theorem pg_sub {o i : Expr} {to ti : TE} {t : TSet} (ho : PE X o to) (hi : PE X i ti) (hs : PSet X t)
    (ha : ∀ v, assign (.Subscript o i pos) X.env v = (do
      let ov ← holding [v] (eval o X.env)
      let iv ← holding [v, ov] (eval i X.env)
      standAt pos
      holding [v, ov, iv] (setItem ov iv v)
      release [v, ov, iv] []) := by intro _; rfl) : PG X (.Subscript o i pos) (gSub to ti t) := by
  intro pins s σ H v u Q I r h
  rw [ha]
  refine wpAny_bind (wpAny_holding (thn (ho pins s σ H _ I h) fun ov s1 ⟨x, H1, I1, r1, q1⟩ => ?_))
  refine wpAny_bind (wpAny_holding (thn (hi pins s1 σ H1 _ I1 q1) fun iv s2 ⟨y, H2, I2, r2, q2⟩ => ?_))
  refine wpAny_bind (wpAny_standAt (wpAny_bind (wpAny_holding (thn (hs pins s2 σ H2 x y v ov iv u _ I2 r1 r2 r q2) fun _ s3 ⟨H3, I3, q3⟩ => ?_))))
  exact wpAny_release ⟨σ, H3, I3, q3⟩
/-- target = value -/
def tAsg (te : TE) (g : TG) : TS := fun D σ H => te σ H fun x H1 => g x σ H1 D.nx
theorem ps_asg {tg e : Expr} {te : TE} {g : TG} (he : PE X e te) (hg : PG X tg g) (hs : swapsWithSole [tg] e pos.line X.env = pure false := by rfl) (hw : swappedStores [tg] e X.env = pure none := by rfl)
    (h1 : (assignEach [tg] X.env).map (·.2) = [assign tg X.env] := by rfl) : PS X (.Assign [tg] e pos) (tAsg te g) := by
  intro pins s σ H D I h
  refine wpAny_Assign_stores (thn (he pins s σ H _ I h) fun v s1 ⟨x, H1, I1, r1, q1⟩ => ?_) hs hw
  rw [h1]
  exact thn (hg pins s1 σ H1 x v _ I1 r1 q1) fun _ s2 q => q
/-- name = value -/
theorem ps_set {i : Nat} {x : Str} {e : Expr} {te : TE} {pos' : Pos} (hN : X.N.Nodup) (hi : X.N[i]? = some x) (hx : Loc X.env.scope x) (he : PE X e te) (hs : swapsWith e (some (.Name x pos')) pos.line X.env = pure false := by rfl) (hf : X.fn x = true ∨ X.env.scope.names.lookup x = some .local := by first | exact .inl rfl | exact .inr rfl | assumption) :
    PS X (.Assign [.Name x pos'] e pos) (tAsg te (gName i)) := by
  intro pins s σ H D I h
  refine wpAny_Assign_Name (thn (he pins s σ H _ I h) fun v s1 ⟨y, H1, I1, r1, q1⟩ => ?_) hs
  exact store_ok I1 hN hi hx r1 (fun s2 I2 => ⟨_, H1, I2, q1⟩) hf
/-- a, b = x, y with plain local names: stored from the right; the pair itself is not tracked (the opening rows as in PyProof/Rows/TupAssign.lean:23) -/
def tPar (i j : Nat) (ta : TA) : TS := fun D σ H => ta σ H fun vs H1 => ∃ v w, vs = [v, w] ∧ D.nx ((σ.set i (some v)).set j (some w)) H1
theorem ps_par {i j : Nat} {x y : Str} {a b : Expr} {ta : TA} {px py pt : Pos} {kt k2 pt2} (hc : X.calm = true) (hN : X.N.Nodup) (hi : X.N[i]? = some x) (hj : X.N[j]? = some y) (hij : i ≠ j)
    (hx : X.env.scope.names.lookup x = some .local) (hy : X.env.scope.names.lookup y = some .local) (ha : PA X [a, b] ta)
    (hw : swappedStores [.Tuple [.Name x px, .Name y py] kt pt] (.Tuple [a, b] k2 pt2) X.env = pure (some [x, y]))
    (hs : swapsWithSole [.Tuple [.Name x px, .Name y py] kt pt] (.Tuple [a, b] k2 pt2) pos.line X.env = pure false := by rfl) :
    PS X (.Assign [.Tuple [.Name x px, .Name y py] kt pt] (.Tuple [a, b] k2 pt2) pos) (tPar i j ta) := by
  intro pins s σ H D I h
  rw [exec_Assign_arm]
  refine wpAny_bind (wpAny_standAt ?_)
  rw [hs]
  refine wpAny_bind (wpAny_pure ?_)
  rw [if_neg (by decide)]
  refine wpAny_bind (Tuple_ (thn (ha _ pins s σ H _ I h) fun us s1 ⟨vs, H1, I1, r1, q1⟩ => ?_))
  obtain ⟨v, w, e1, q1⟩ := q1
  subst e1
  obtain ⟨u1, u2, rfl, rv, rw'⟩ : ∃ u1 u2, us = [u1, u2] ∧ RelV v u1 ∧ RelV w u2 := by
    cases r1 with
    | cons p q =>
      cases q with
      | cons p' q' =>
        cases q'
        exact ⟨_, _, rfl, p, p'⟩
  refine wpAny_newObj_type ?_ (by show 2 ≤ sizeLine; decide)
  have I2 : Inv X pins σ H1 { s1 with heap := s1.heap.push { cls := .type "tuple", data := .seq [u1, u2].toArray } } := I1.kept (t' := s1.toks) fun b o e => Heap.get?_push_of_some _ e
  rw [hw]
  refine wpAny_bind (wpAny_pure ?_)
  show wpAny (model X.prog X.w) X.A (do rule "assign.swapped-stores"; let items ← unpackItems (.ref s1.heap.objs.size) 2 none; assignInOrder [fun v => bindName X.env y v, fun v => bindName X.env x v] items.reverse; pure Flow.next) _ _ _
  refine wpAny_bind (wpAny_rule (wpAny_bind (unpackItems_tuple (items := #[u1, u2]) (I.ok.hd hc) (IsTup.new s1.heap _) fun h' hx' => ?_)))
  have I3 := I2.kept (h' := h') (t' := s1.toks) fun b o e => hx' b o (Nat.ne_of_lt (Heap.lt_size e)) e
  show wpAny _ _ (assignInOrder [fun v => bindName X.env y v, fun v => bindName X.env x v] [u2, u1] >>= fun _ => pure Flow.next) _ _ _
  refine wpAny_bind (assignInOrder_cons (wpAny_bindName (store_ok I3 hN hj (.inl hy) rw' (fun s2 I4 => ?_) (.inr hy))))
  refine assignInOrder_cons (wpAny_bindName (store_ok I4 hN hi (.inl hx) rv (fun s3 I5 => assignInOrder_nil (wpAny_pure ?_)) (.inr hx)))
  rw [List.set_comm _ _ (Ne.symm hij)] at I5
  exact ⟨_, H1, I5, q1⟩
/-- name op= e -/
def tAug (i : Nat) (te : TE) (ti : TIp) : TS := fun D σ H => ∃ x, σ[i]? = some (some x) ∧ te σ H fun y H1 => ti x y H1 fun z H2 => D.nx (σ.set i (some z)) H2
theorem ps_aug {i : Nat} {x : Str} {e : Expr} {te : TE} {op : Operator} {ti : TIp} {pos' : Pos} (hN : X.N.Nodup) (hi : X.N[i]? = some x) (hx : Loc X.env.scope x) (he : PE X e te) (ho : PIp X op ti) (hf : X.fn x = true ∨ X.env.scope.names.lookup x = some .local := by first | exact .inl rfl | exact .inr rfl | assumption) :
    PS X (.AugAssign (.Name x pos') op e pos) (tAug i te ti) := by
  intro pins s σ H D I h
  obtain ⟨v, e1, h⟩ := h
  obtain ⟨m, hn, hl⟩ := I.loc
  have vis : Vis X.env.scope x := by rcases hx with k | k; exact .inl k; exact .inr (.inl k)
  obtain ⟨u, r, l⟩ := hl i x v hi e1 vis
  refine wpAny_AugAssign_Name ?_
  have go : wpAny (model X.prog X.w) X.A (eval e X.env) (fun w s₂ => wpAny (model X.prog X.w) X.A (inplaceOp op u w) (fun r s₃ => wpAny (model X.prog X.w) X.A (storeName X.env x r) (fun _ => SP X pins D .next) X.xe s₃) X.xe s₂) X.xe s := by
    refine thn (he pins s σ H _ I h) fun w s1 ⟨y, H1, I1, r1, q1⟩ => ?_
    refine thn (ho pins s1 σ H1 v y u w _ I1 r r1 q1) fun z s2 ⟨zv, H2, I2, r2, q2⟩ => ?_
    exact store_ok I2 hN hi hx r2 (fun s3 I3 => ⟨_, H2, I3, q2⟩) hf
  rcases l with ⟨hk, hm⟩ | ⟨hk, c, hc, hcell⟩
  · exact wpAny_loadName_local I.ok.kind hk hn hm go
  · rcases hk with hk | hk
    · exact wpAny_loadName_cell I.ok.kind hk hc hcell go
    · rcases hx with k | k
      · have : X.env.scope.names.lookup x = some .free := hk
        rw [k] at this; cases this
      · have : X.env.scope.names.lookup x = some .free := hk
        rw [k] at this; cases this
/-- o[i] op= e -/
def tAugS (to ti te : TE) (tget : V → V → Hp → VK → Prop) (tip : TIp) (tset : TSet) : TS := fun D σ H => to σ H fun o H1 => ti σ H1 fun i H2 => tget o i H2 fun x H3 => te σ H3 fun y H4 => tip x y H4 fun z H5 => tset o i z H5 fun H6 => D.nx σ H6
/-- o[i], by values -/
def PGet (X : Cx) (t : V → V → Hp → VK → Prop) : Prop :=
  ∀ (pins : List (Addr × Obj)) (s : Shared) (σ : St) (H : Hp) (o i : V) (ov iv : Value) (Q : VK), Inv X pins σ H s → RelV o ov → RelV i iv → t o i H Q →
    wpAny (model X.prog X.w) X.A (getItem ov iv) (EP X pins σ Q) X.xe s
theorem ps_augS {o i e : Expr} {to ti te : TE} {tget : V → V → Hp → VK → Prop} {tip : TIp} {tset : TSet} {op : Operator} {tpos : Pos} (ho : PE X o to) (hi : PE X i ti) (hg : PGet X tget) (he : PE X e te) (hp : PIp X op tip) (hs : PSet X tset)
    (ha : ∀ ov iv new, augStore i ov iv new = (do holding [new, ov, iv] (setItem ov iv new); release [new, ov, iv] []; pure .next) := by intros; rfl) : PS X (.AugAssign (.Subscript o i tpos) op e pos) (tAugS to ti te tget tip tset) := by
  intro pins s σ H D I h
  refine wpAny_AugAssign_SubscriptAny (thn (ho pins s σ H _ I h) fun ov s1 ⟨x1, H1, I1, r1, q1⟩ => ?_) ha
  refine thn (hi pins s1 σ H1 _ I1 q1) fun iv s2 ⟨x2, H2, I2, r2, q2⟩ => ?_
  refine thn (hg pins s2 σ H2 x1 x2 ov iv _ I2 r1 r2 q2) fun old s3 ⟨x3, H3, I3, r3, q3⟩ => ?_
  refine thn (he pins s3 σ H3 _ I3 q3) fun v s4 ⟨x4, H4, I4, r4, q4⟩ => ?_
  refine thn (hp pins s4 σ H4 x3 x4 old v _ I4 r3 r4 q4) fun new s5 ⟨x5, H5, I5, r5, q5⟩ => ?_
  exact thn (hs pins s5 σ H5 x1 x2 x5 ov iv new _ I5 r1 r2 r5 q5) fun _ s6 ⟨H6, I6, q6⟩ => ⟨σ, H6, I6, q6⟩
/-- ints -/
def ipI (f : Int → Int → Int) : TIp := fun x y H Q => ∃ i j, x = .int i ∧ y = .int j ∧ Q (.int (f i j)) H
theorem ip_add : PIp X .Add (ipI fun i j => i + j) := by
  intro pins s σ H x y v u Q I r1 r2 h
  obtain ⟨i, j, e1, e2, q⟩ := h
  subst e1; subst e2
  obtain ⟨t, rfl⟩ := r1
  obtain ⟨t', rfl⟩ := r2
  exact iadd_int ⟨.int _, H, I.tok _, ⟨_, rfl⟩, q⟩
theorem ip_sub : PIp X .Sub (ipI fun i j => i - j) := by
  intro pins s σ H x y v u Q I r1 r2 h
  obtain ⟨i, j, e1, e2, q⟩ := h
  subst e1; subst e2
  obtain ⟨t, rfl⟩ := r1
  obtain ⟨t', rfl⟩ := r2
  exact isub_int ⟨.int _, H, I.tok _, ⟨_, rfl⟩, q⟩
end

/-! ### while -/
section
variable {X : Cx} {pos : Pos}
/-- the invariant W with its measure -/
def tWhile (c : TT) (tb : TS) : TS := fun D σ H => ∃ W : Nat → St → Hp → Prop, (∃ m, W m σ H) ∧ ∀ m σ H, W m σ H →
  c σ H fun b H1 => if b = true then ∃ N : St → Hp → Prop, (∀ σ' H', N σ' H' → ∃ m', m' < m ∧ W m' σ' H') ∧ tb { D with nx := N, ct := N, bk := D.nx } σ H1 else D.nx σ H1
theorem ps_while {c : Expr} {body : List Stmt} {tc : TT} {tb : TS} (hp : PassesOwn (model X.prog X.w) X.A X.env X.xe) (hc : PT X c tc) (hb : PSs X body tb) : PS X (.While c body [] pos) (tWhile tc tb) := by
  intro pins s σ H D I h
  obtain ⟨W, ⟨m0, w0⟩, turn⟩ := h
  refine wpAny_While (codeAny_whileLoop (fun n s' => ∃ σ' H', Inv X pins σ' H' s' ∧ W n σ' H') ?_ m0 ⟨σ, H, I, w0⟩)
  rintro n s1 ⟨σ1, H1, I1, w1⟩
  refine wpAny_passesOwn hp (thn (hc pins s1 σ1 H1 _ I1 (turn n σ1 H1 w1)) fun b s2 ⟨H2, I2, q2⟩ => ?_)
  cases b with
  | true =>
    obtain ⟨N, hN, q2⟩ := q2
    rw [if_pos rfl]
    refine wpAny_passesOwn hp (thn (hb pins s2 σ1 H2 _ I2 q2) fun f s3 q3 => ?_)
    cases f with
    | next =>
      obtain ⟨σ3, H3, I3, n3⟩ := q3
      obtain ⟨m', hm, w3⟩ := hN σ3 H3 n3
      exact ⟨m', hm, σ3, H3, I3, w3⟩
    | cont =>
      obtain ⟨σ3, H3, I3, n3⟩ := q3
      obtain ⟨m', hm, w3⟩ := hN σ3 H3 n3
      exact ⟨m', hm, σ3, H3, I3, w3⟩
    | brk => exact q3
    | ret v => exact q3
  | false =>
    rw [if_neg Bool.false_ne_true]
    exact wpAny_execs_nil ⟨σ1, H2, I2, q2⟩
end

/-! ### what a loop or a comprehension walks -/
/-- at turn i: it yields x (the heap may grow), or it stops -/
structure It where
  go : Nat → Hp → Prop
  yld : Nat → Hp → V → Hp → Prop
  stop : Nat → Hp → Prop
/-- the iterator's own objects may turn: they are not the frame's, not pinned, younger than the entry (or a comprehension's own) -/
def FpOk (X : Cx) (pins : List (Addr × Obj)) (H : Hp) (b : Addr) : Prop :=
  H b = none ∧ b ≠ X.env.locals ∧ b ∉ X.fs ∧ (b ∈ X.ex ∨ X.s₀.heap.objs.size ≤ b) ∧ (∀ x c, X.env.cells.lookup x = some c → c ≠ b) ∧ ∀ p ∈ X.pn ++ pins, p.1 ≠ b
theorem Inv.fpOk {X : Cx} {pins : List (Addr × Obj)} {σ : St} {H H' : Hp} {s : Shared} {b : Addr} (I : Inv X pins σ H s) (hb : s.heap.objs.size ≤ b) (hn : H' b = none) : FpOk X pins H' b := by
  refine ⟨hn, Nat.ne_of_gt (Nat.lt_of_lt_of_le I.lt hb), I.nofs hb, .inr (Nat.le_trans I.sz hb), fun x c e z => ?_, fun p hp z => ?_⟩
  · obtain ⟨v, q⟩ := I.cell x c e
    exact absurd (Nat.lt_of_lt_of_le q.lt (by rw [z]; exact hb)) (Nat.lt_irrefl _)
  · exact absurd (Nat.lt_of_lt_of_le (Heap.lt_size (I.pin p hp).1) (by rw [z]; exact hb)) (Nat.lt_irrefl _)
structure Turn (P : Program) (w : World) (K : PySem.W.Frag) (tg : Expr) (J : It) (fp : List Addr) (it : Addr) (tn : Nat → Heap → Prop) : Prop where
  mem : it ∈ fp
  obj : ∀ i h, tn i h → ∀ b ∈ fp, ∃ o, h.get? b = some o ∧ ∀ v, o.data ≠ .cell v
  keep : ∀ i h h', tn i h → (∀ b ∈ fp, ∀ o, h.get? b = some o → h'.get? b = some o) → tn i h'
  item : ∀ (X : Cx), X.prog = P → X.w = w → X.K = K → X.calm = true → ∀ (i : Nat) (pins : List (Addr × Obj)) (s : Shared) (σ : St) (H : Hp) (E : Value → Shared → Prop), Inv X pins σ H s → (∀ b ∈ fp, FpOk X pins H b) → tn i s.heap → J.go i H →
    wpAny (model P w) X.A (pyNext (.ref it)) (fun r s1 => ∃ u, r = some u ∧
      wpAny (model P w) X.A (letOwnedTupleGo tg (.ref it) u) (fun _ s2 => ∃ x H', Inv X pins σ H' s2 ∧ RelV x u ∧ J.yld i H x H' ∧ tn (i + 1) s2.heap ∧ ∀ b ∈ fp, H' b = none) E s1) E s
  done : ∀ (X : Cx), X.prog = P → X.w = w → X.K = K → X.calm = true → ∀ (i : Nat) (pins : List (Addr × Obj)) (s : Shared) (σ : St) (H : Hp) (E : Value → Shared → Prop), Inv X pins σ H s → (∀ b ∈ fp, FpOk X pins H b) → tn i s.heap → J.stop i H →
    wpAny (model P w) X.A (pyNext (.ref it)) (fun r s1 => r = none ∧ Inv X pins σ H s1) E s
  self : ∀ (A : Around) (i : Nat) (s : Shared) (Q : Value → Shared → Prop) (E : Value → Shared → Prop), tn i s.heap → Q (.ref it) s → wpAny (model P w) A (pyIter (.ref it)) Q E s
abbrev TI := St → Hp → (It → Hp → Prop) → Prop
/-- an iterator has come -/
def PIE (X : Cx) (pins : List (Addr × Obj)) (σ : St) (tg : Expr) (R : It → Hp → Prop) (itv : Value) (s2 : Shared) : Prop :=
  ∃ (it : Addr) (fp : List Addr) (tn : Nat → Heap → Prop) (J : It) (H' : Hp), itv = .ref it ∧ Inv X pins σ H' s2 ∧ Turn X.prog X.w X.K tg J fp it tn ∧ tn 0 s2.heap ∧ (∀ b ∈ fp, FpOk X pins H' b) ∧ R J H'
def PI (X : Cx) (tg iter : Expr) (wi : TI) : Prop :=
  ∀ (pins : List (Addr × Obj)) (s : Shared) (σ : St) (H : Hp) (R : It → Hp → Prop), Inv X pins σ H s → wi σ H R →
    wpAny (model X.prog X.w) X.A (eval iter X.env) (fun v s1 => wpAny (model X.prog X.w) X.A (pyIter v) (PIE X pins σ tg R) X.xe s1) X.xe s

/-- the step ahead of the store is nothing for an iterator that keeps no tuple -/
theorem go_of {M : Model} {A : Around} {E : Value → Shared → Prop} {s : Shared} {tg : Expr} {it : Addr} {u : Value} {o : Obj} {n : String} {vs : Array Value} {Q : Unit → Shared → Prop} (ho : s.heap.get? it = some o) (hc : o.cls = .type n) (hd : o.data = .fields vs)
    (hn : ["enumerate", "zip", "dict_itemiterator", "dict_reverseitemiterator", "odict_iterator", "itertools.zip_longest", "itertools.pairwise"].contains n = false) (hQ : Q () s) : wpAny M A (letOwnedTupleGo tg (.ref it) u) Q E s := by
  unfold letOwnedTupleGo
  cases tg <;> first
    | exact wpAny_pure hQ
    | (cases u <;> first
        | exact wpAny_pure hQ
        | (refine wpAny_bind (wpAny_load ho ?_)
           rw [hc, hd]
           show wpAny M A (if (["enumerate", "zip", "dict_itemiterator", "dict_reverseitemiterator", "odict_iterator", "itertools.zip_longest", "itertools.pairwise"].contains n && vs[0]? == some (rawInt _)) = true then _ else _) Q E s
           rw [if_neg (by intro h; rw [hn, Bool.false_and] at h; cases h)]
           exact wpAny_pure hQ))

/-- the list at a, as it stands at each turn (a loop may append to it) -/
def Itl (K : PySem.W.Frag) (a : Addr) : It :=
  ⟨fun i H => ∃ xs x, SqL K H a xs ∧ xs[i]? = some x, fun i H x H' => H' = H ∧ ∀ xs, SqL K H a xs → xs[i]? = some x, fun i H => ∃ xs, SqL K H a xs ∧ xs.length ≤ i⟩
def Itt (K : PySem.W.Frag) (a : Addr) : It :=
  ⟨fun i H => ∃ xs x, SqT K H a xs ∧ xs[i]? = some x, fun i H x H' => H' = H ∧ ∀ xs, SqT K H a xs → xs[i]? = some x, fun i H => ∃ xs, SqT K H a xs ∧ xs.length ≤ i⟩
/-- lo, lo + 1, .. (n of them) -/
def Itr (lo : Int) (n : Nat) : It := ⟨fun i _ => i < n, fun i H x H' => H' = H ∧ x = .int (lo + i), fun i _ => n ≤ i⟩
theorem turn_list {P : Program} {w : World} {K : PySem.W.Frag} {tg : Expr} (a it : Addr) : Turn P w K tg (Itl K a) [it] it (fun i h => h.IsListIter it a i) where
  mem := by simp
  obj := fun i h st b hb => by
    have e : b = it := by simpa using hb
    subst e
    obtain ⟨o, e, c, d⟩ := st
    exact ⟨o, e, fun v z => by rw [d] at z; cases z⟩
  keep := fun i h h' st k => st.at fun o e => k it (by simp) o e
  item := by
    intro X hP hw hK hc i pins s σ H E I hf st hg
    subst hP hw hK
    obtain ⟨xs, x, hq, hx⟩ := hg
    obtain ⟨its, rv, p, hz⟩ := I.list hq
    obtain ⟨u, hu, ru⟩ := rv.get hx
    obtain ⟨f0, f1, f2, f3, f4, f5⟩ := hf it (by simp)
    refine wpAny_pyNext_list_item st p.isList (x := u) (by simpa using hu) fun h' st' sb => ?_
    have I1 : Inv X pins σ H { s with heap := h' } := I.turned (t' := s.toks) (fun b o hb e => (sb.2 b hb).trans e) f0 f1 f3 f4 f5
    obtain ⟨o, e, c, d⟩ := id st'
    exact ⟨u, rfl, go_of (s := { s with heap := h' }) e c d (by decide) ⟨x, H, I1, ru, ⟨rfl, fun ys hy => by rw [I.list_inj hy hq]; exact hx⟩, st', fun b hb => (hf b hb).1⟩⟩
  done := by
    intro X hP hw hK hc i pins s σ H E I hf st hg
    subst hP hw hK
    obtain ⟨xs, hq, hx⟩ := hg
    obtain ⟨its, rv, p, hz⟩ := I.list hq
    obtain ⟨f0, f1, f2, f3, f4, f5⟩ := hf it (by simp)
    have hl := rv.length
    exact wpAny_pyNext_list_end (I.ok.hd hc) st p.isList (by simp; omega) fun h' eb => ⟨rfl, I.turned (t' := s.toks) (fun b o hb e => eb b o hb e) f0 f1 f3 f4 f5⟩
  self := fun _ _ _ _ _ st h => wpAny_pyIter_listiter st h
theorem turn_tuple {P : Program} {w : World} {K : PySem.W.Frag} {tg : Expr} (a it : Addr) : Turn P w K tg (Itt K a) [it] it (fun i h => h.IsTupleIter it a i) where
  mem := by simp
  obj := fun i h st b hb => by
    have e : b = it := by simpa using hb
    subst e
    obtain ⟨o, e, c, d⟩ := st
    exact ⟨o, e, fun v z => by rw [d] at z; cases z⟩
  keep := fun i h h' st k => st.at fun o e => k it (by simp) o e
  item := by
    intro X hP hw hK hc i pins s σ H E I hf st hg
    subst hP hw hK
    obtain ⟨xs, x, hq, hx⟩ := hg
    obtain ⟨its, rv, p, hz⟩ := I.tuple hq
    obtain ⟨u, hu, ru⟩ := rv.get hx
    obtain ⟨f0, f1, f2, f3, f4, f5⟩ := hf it (by simp)
    refine wpAny_pyNext_tuple_item st (show s.heap.IsTuple a its.toArray from p) (x := u) (by simpa using hu) fun h' st' sb => ?_
    have I1 : Inv X pins σ H { s with heap := h' } := I.turned (t' := s.toks) (fun b o hb e => (sb.2 b hb).trans e) f0 f1 f3 f4 f5
    obtain ⟨o, e, c, d⟩ := id st'
    exact ⟨u, rfl, go_of (s := { s with heap := h' }) e c d (by decide) ⟨x, H, I1, ru, ⟨rfl, fun ys hy => by rw [I.tuple_inj hy hq]; exact hx⟩, st', fun b hb => (hf b hb).1⟩⟩
  done := by
    intro X hP hw hK hc i pins s σ H E I hf st hg
    subst hP hw hK
    obtain ⟨xs, hq, hx⟩ := hg
    obtain ⟨its, rv, p, hz⟩ := I.tuple hq
    obtain ⟨f0, f1, f2, f3, f4, f5⟩ := hf it (by simp)
    have hl := rv.length
    exact wpAny_pyNext_tuple_end (I.ok.hd hc) st (show s.heap.IsTuple a its.toArray from p) (by simp; omega) fun h' eb => ⟨rfl, I.turned (t' := s.toks) (fun b o hb e => eb b o hb e) f0 f1 f3 f4 f5⟩
  self := fun _ _ _ _ _ st h => wpAny_pyIter_tupleiter st h
theorem turn_range {P : Program} {w : World} {K : PySem.W.Frag} {tg : Expr} (it : Addr) (lo : Int) (n : Nat) : Turn P w K tg (Itr lo n) [it] it (fun i h => IsRangeIter h it (lo + (i : Nat) * 1) ((n : Int) - (i : Nat)) 1) where
  mem := by simp
  obj := fun i h st b hb => by
    have e : b = it := by simpa using hb
    subst e
    exact ⟨_, st, fun v z => by
      have z' : Data.fields _ = Data.cell v := z
      cases z'⟩
  keep := fun i h h' st k => k it (by simp) _ st
  item := by
    intro X hP hw hK hc i pins s σ H E I hf st hg
    subst hP hw hK
    obtain ⟨f0, f1, f2, f3, f4, f5⟩ := hf it (by simp)
    have W := Walks.range (prog := X.prog) (w := X.w) (I.ok.hd hc) it lo 1 n
    refine W.item i s _ _ hg st fun v h' tk hv st' kk => ?_
    obtain ⟨t, rfl⟩ := hv
    have I1 : Inv X pins σ H { s with heap := h', toks := tk } := I.turned (fun b o hb e => kk b o (by simpa using hb) e) f0 f1 f3 f4 f5
    refine ⟨_, rfl, go_of (s := { s with heap := h', toks := tk }) (n := "range_iterator") st' rfl rfl (by decide) ⟨.int (lo + i), H, I1, ⟨t, ?_⟩, ⟨rfl, rfl⟩, st', fun b hb => (hf b hb).1⟩⟩
    rw [Int.mul_one]
  done := by
    intro X hP hw hK hc i pins s σ H E I hf st hg
    subst hP hw hK
    obtain ⟨f0, f1, f2, f3, f4, f5⟩ := hf it (by simp)
    exact wpAny_pyNext_range_end (I.ok.hd hc) st (by have : n ≤ i := hg; omega) fun h' eb => ⟨rfl, I.turned (t' := s.toks) (fun b o hb e => eb b o hb e) f0 f1 f3 f4 f5⟩
  self := fun _ _ _ _ _ st h => wpAny_pyIter_rangeiter st h
end L2

namespace L2
open PySem PySem.Spec PyProof.Rows
section
variable {X : Cx} {tg : Expr}
def iList (K : PySem.W.Frag) (tl : TE) : TI := fun σ H R => tl σ H fun x H1 => ∃ a, x = .ref a ∧ (∃ xs, SqL K H1 a xs) ∧ R (Itl K a) H1
def iTup (K : PySem.W.Frag) (tl : TE) : TI := fun σ H R => tl σ H fun x H1 => ∃ a, x = .ref a ∧ (∃ xs, SqT K H1 a xs) ∧ R (Itt K a) H1
theorem pi_list {l : Expr} {tl : TE} (hl : PE X l tl) : PI X tg l (iList X.K tl) := by
  intro pins s σ H R I h
  refine thn (hl pins s σ H _ I h) fun v s1 ⟨x, H1, I1, r1, q1⟩ => ?_
  obtain ⟨a, e, ⟨xs, hq⟩, q⟩ := q1
  subst e
  cases r1
  obtain ⟨its, rv, p, hz⟩ := I1.list hq
  refine wpAny_pyIter_list p.isList ?_
  refine ⟨s1.heap.objs.size, [s1.heap.objs.size], _, _, H1, rfl, I1.kept (t' := s1.toks) fun b o e => Heap.get?_push_of_some _ e, turn_list a _, ⟨_, Heap.get?_push_size _ rfl, rfl, rfl⟩, fun b hb => ?_, q⟩
  have e : b = s1.heap.objs.size := by simpa using hb
  subst e
  exact I1.fpOk (Nat.le_refl _) (I1.hok.fresh (Nat.le_refl _))
theorem pi_tup {l : Expr} {tl : TE} (hl : PE X l tl) : PI X tg l (iTup X.K tl) := by
  intro pins s σ H R I h
  refine thn (hl pins s σ H _ I h) fun v s1 ⟨x, H1, I1, r1, q1⟩ => ?_
  obtain ⟨a, e, ⟨xs, hq⟩, q⟩ := q1
  subst e
  cases r1
  obtain ⟨its, rv, p, hz⟩ := I1.tuple hq
  refine wpAny_pyIter_tuple (show s1.heap.IsTuple a its.toArray from p) ?_
  refine ⟨s1.heap.objs.size, [s1.heap.objs.size], _, _, H1, rfl, I1.kept (t' := s1.toks) fun b o e => Heap.get?_push_of_some _ e, turn_tuple a _, ⟨_, Heap.get?_push_size _ rfl, rfl, rfl⟩, fun b hb => ?_, q⟩
  have e : b = s1.heap.objs.size := by simpa using hb
  subst e
  exact I1.fpOk (Nat.le_refl _) (I1.hok.fresh (Nat.le_refl _))
/-- a range object just made, walked -/
theorem range_it {pins : List (Addr × Obj)} {σ : St} {H : Hp} {s : Shared} {R : It → Hp → Prop} {E : Value → Shared → Prop} {lo hi : Int} {t u v : Tok} {tk : Nat} (I : Inv X pins σ H s) (h1 : -(2 ^ 62) ≤ lo) (h2 : lo < 2 ^ 62) (h3 : -(2 ^ 62) ≤ hi) (h4 : hi < 2 ^ 62)
    (q : R (Itr lo (hi - lo).toNat) H) : wpAny (model X.prog X.w) X.A (pyIter (.ref s.heap.objs.size)) (PIE X pins σ tg R) E { s with heap := s.heap.push { cls := .type "range", data := .fields #[.int lo t, .int hi u, .int 1 v] }, toks := tk } := by
  refine wpAny_pyIter_range (IsRange.new ..) (small_one h1 h2 h3 h4) ?_
  have I1 : Inv X pins σ H { s with heap := s.heap.push { cls := .type "range", data := .fields #[.int lo t, .int hi u, .int 1 v] }, toks := tk } := I.kept fun b o e => Heap.get?_push_of_some _ e
  refine ⟨(s.heap.push { cls := .type "range", data := .fields #[.int lo t, .int hi u, .int 1 v] }).objs.size, [(s.heap.push { cls := .type "range", data := .fields #[.int lo t, .int hi u, .int 1 v] }).objs.size], _, _, H, rfl,
    I1.kept (t' := tk) fun b o e => Heap.get?_push_of_some _ e, turn_range _ lo (hi - lo).toNat, ?_, fun b hb => ?_, q⟩
  · have e1 : lo + ((0 : Nat) : Int) * 1 = lo := by simp
    have e2 : (((hi - lo).toNat : Nat) : Int) - ((0 : Nat) : Int) = Builtin.Range.rangeSize lo hi 1 := by rw [rangeSize_one]; split <;> omega
    show IsRangeIter _ _ (lo + ((0 : Nat) : Int) * 1) ((((hi - lo).toNat : Nat) : Int) - ((0 : Nat) : Int)) 1
    rw [e1, e2]
    exact Heap.get?_push_size _ rfl
  · have e : b = (s.heap.push { cls := .type "range", data := .fields #[.int lo t, .int hi u, .int 1 v] }).objs.size := by simpa using hb
    subst e
    exact I1.fpOk (Nat.le_refl _) (I1.hok.fresh (Nat.le_refl _))
def iRng1 (ta : TA) : TI := fun σ H R => ta σ H fun vs H1 => ∃ j : Int, vs = [.int j] ∧ -(2 ^ 62) ≤ j ∧ j < 2 ^ 62 ∧ R (Itr 0 j.toNat) H1
def iRng2 (ta : TA) : TI := fun σ H R => ta σ H fun vs H1 => ∃ i j : Int, vs = [.int i, .int j] ∧ (-(2 ^ 62) ≤ i ∧ i < 2 ^ 62 ∧ -(2 ^ 62) ≤ j ∧ j < 2 ^ 62) ∧ R (Itr i (j - i).toNat) H1
theorem pi_range1 {a : Expr} {ta : TA} {p pos : Pos} (hg : Gl X "range") (hm : X.mg "range" = none) (ha : PA X [a] ta) (hs : starEach [a] X.env = [(false, eval a X.env)] := by rfl) : PI X tg (.Call (.Name "range" p) [a] [] pos) (iRng1 ta) := by
  intro pins s σ H R I h
  refine Call_ (ld_blt I hg hm boot_range (PyProof.Rows.callWith_type1 (thn (ha pos pins s σ H _ I h) fun us s1 ⟨vs, H1, I1, r1, q1⟩ => ?_) hs rfl))
  obtain ⟨j, e, q1, q2, q⟩ := q1
  subst e
  cases r1 with
  | cons r rr =>
    cases rr
    obtain ⟨t, rfl⟩ := r
    exact call_range_1 (range_it I1 (by omega) (by omega) q1 q2 (by simpa using q))
theorem pi_range2 {a b : Expr} {ta : TA} {p pos : Pos} (hg : Gl X "range") (hm : X.mg "range" = none) (ha : PA X [a, b] ta) (hs : starEach [a, b] X.env = [(false, eval a X.env), (false, eval b X.env)] := by rfl) (hs2 : starEach [b] X.env = [(false, eval b X.env)] := by rfl) :
    PI X tg (.Call (.Name "range" p) [a, b] [] pos) (iRng2 ta) := by
  intro pins s σ H R I h
  refine Call_ (ld_blt I hg hm boot_range (PyProof.Rows.callWith_type1 (thn (ha pos pins s σ H _ I h) fun us s1 ⟨vs, H1, I1, r1, q1⟩ => ?_) (by rw [hs, hs2]) (by rw [hs2]; rfl)))
  obtain ⟨i, j, e, ⟨q1, q2, q3, q4⟩, q⟩ := q1
  subst e
  cases r1 with
  | cons r rr =>
    cases rr with
    | cons r' rr =>
      cases rr
      obtain ⟨t, rfl⟩ := r
      obtain ⟨t', rfl⟩ := r'
      exact call_range_2 (range_it I1 q1 q2 q3 q4 q)

/-! ### for -/
/-- W: the invariant by the turn and a measure; N: what the body is to reach -/
def tFor (wi : TI) (g : TG) (tb : TS) : TS := fun D σ H => wi σ H fun J H1 => ∃ W : Nat → Nat → St → Hp → Prop, (∃ m, W 0 m σ H1) ∧ ∀ i m σ H, W i m σ H →
  (J.stop i H ∧ D.nx σ H) ∨ (J.go i H ∧ ∃ N : St → Hp → Prop, (∀ σ' H', N σ' H' → ∃ m', m' < m ∧ W (i + 1) m' σ' H') ∧ ∀ x H', J.yld i H x H' → g x σ H' fun σ2 H2 => tb { D with nx := N, ct := N, bk := D.nx } σ2 H2)
/-- the records at fp as they stand -/
def pinsAt (fp : List Addr) (h : Heap) : List (Addr × Obj) := fp.filterMap fun b => (h.get? b).map fun o => (b, o)
theorem mem_pinsAt {fp : List Addr} {h : Heap} {b : Addr} {o : Obj} (hb : b ∈ fp) (e : h.get? b = some o) : (b, o) ∈ pinsAt fp h := List.mem_filterMap.mpr ⟨b, hb, by rw [e]; rfl⟩
theorem of_pinsAt {fp : List Addr} {h : Heap} {p : Addr × Obj} (hp : p ∈ pinsAt fp h) : p.1 ∈ fp ∧ h.get? p.1 = some p.2 := by
  obtain ⟨b, hb, e⟩ := List.mem_filterMap.mp hp
  cases q : h.get? b with
  | none => rw [q] at e; cases e
  | some o =>
    rw [q] at e
    have e' : (b, o) = p := Option.some.inj e
    subst e'
    exact ⟨hb, q⟩
theorem Inv.pinned {pins : List (Addr × Obj)} {σ : St} {H : Hp} {s : Shared} {fp : List Addr} (I : Inv X pins σ H s) (hf : ∀ b ∈ fp, FpOk X pins H b) (ho : ∀ b ∈ fp, ∃ o, s.heap.get? b = some o ∧ ∀ v, o.data ≠ .cell v) : Inv X (pins ++ pinsAt fp s.heap) σ H s :=
  I.pins_of fun p hp => (List.mem_append.mp hp).elim (fun z => I.pin p (List.mem_append_right _ z)) fun z => by
    obtain ⟨hb, e⟩ := of_pinsAt z
    obtain ⟨f0, f1, f2, _⟩ := hf p.1 hb
    obtain ⟨o, e', d⟩ := ho p.1 hb
    rw [e] at e'; cases e'
    exact ⟨e, f0, f1, f2, d⟩
theorem Inv.unpinned {pins pl : List (Addr × Obj)} {σ : St} {H : Hp} {s : Shared} (I : Inv X (pins ++ pl) σ H s) : Inv X pins σ H s := I.pins_of fun p hp => I.pin p (List.mem_append_right _ (List.mem_append_left _ hp))
theorem ps_for {iter : Expr} {body : List Stmt} {wi : TI} {g : TG} {tb : TS} {pos : Pos} (hp : PassesOwn (model X.prog X.w) X.A X.env X.xe) (hc : X.calm = true) (hi : PI X tg iter wi) (hg : PG X tg g) (hb : PSs X body tb)
    (hs : ∀ x, foldedSetIterable iter X.env x = pure x := by intro _; rfl) : PS X (.For tg iter body [] pos) (tFor wi g tb) := by
  intro pins s σ H D I h
  refine wpAny_For (thn (hi pins s σ H _ I h) fun v s1 h1 => thn h1 fun itv s2 h2 => ?_) hs
  obtain ⟨it, fp, tn, J, H2, e, I2, T, st2, f2, W, ⟨m0, w0⟩, turn⟩ := h2
  subst e
  -- what stays true of the iterator's objects through the loop
  have stat : ∀ {H' : Hp}, (∀ b ∈ fp, H' b = none) → ∀ b ∈ fp, FpOk X pins H' b := fun hn b hb => ⟨hn b hb, (f2 b hb).2⟩
  refine codeAny_forLoop_any (fun n s' => ∃ i σ' H', Inv X pins σ' H' s' ∧ tn i s'.heap ∧ (∀ b ∈ fp, H' b = none) ∧ W i n σ' H') ?_ m0 ⟨0, σ, H2, I2, st2, fun b hb => (f2 b hb).1, w0⟩
  rintro n s3 ⟨i, σ3, H3, I3, st3, fr3, w3⟩
  rcases turn i n σ3 H3 w3 with ⟨stop, qn⟩ | ⟨go, N, hN, step⟩
  · refine wpAny_passesOwn hp (thn (T.done X rfl rfl rfl hc i pins s3 σ3 H3 X.xe I3 (stat fr3) st3 stop) fun r s4 ⟨hr, I4⟩ => ?_)
    subst hr
    exact wpAny_execs_nil ⟨σ3, H3, I4, qn⟩
  · refine wpAny_passesOwn hp (thn (T.item X rfl rfl rfl hc i pins s3 σ3 H3 X.xe I3 (stat fr3) st3 go) fun r s4 ⟨u, hr, h4⟩ => ?_)
    subst hr
    refine wpAny_passesOwn hp (thn h4 fun _ s5 ⟨x, H5, I5, r5, y5, st5, fr5⟩ => ?_)
    have I5' := I5.pinned (stat fr5) (T.obj _ _ st5)
    refine wpAny_passesOwn hp (thn (hg _ s5 σ3 H5 x u _ I5' r5 (step x H5 y5)) fun _ s6 ⟨σ6, H6, I6, q6⟩ => ?_)
    refine wpAny_passesOwn hp (thn (hb _ s6 σ6 H6 _ I6 q6) fun f s7 q7 => ?_)
    have again : ∀ {σ7 : St} {H7 : Hp}, Inv X (pins ++ pinsAt fp s5.heap) σ7 H7 s7 → N σ7 H7 → ∃ m, m < n ∧ ∃ i σ' H', Inv X pins σ' H' s7 ∧ tn i s7.heap ∧ (∀ b ∈ fp, H' b = none) ∧ W i m σ' H' := fun {σ7 H7} I7 n7 => by
      obtain ⟨m', hm, w7⟩ := hN σ7 H7 n7
      refine ⟨m', hm, i + 1, σ7, H7, I7.unpinned, T.keep _ _ _ st5 fun b hb o e => (I7.pin (b, o) (List.mem_append_right _ (List.mem_append_right _ (mem_pinsAt hb e)))).1, fun b hb => ?_, w7⟩
      obtain ⟨o, e, d⟩ := T.obj _ _ st5 b hb
      exact (I7.pin (b, o) (List.mem_append_right _ (List.mem_append_right _ (mem_pinsAt hb e)))).2.1
    cases f with
    | next => obtain ⟨σ7, H7, I7, n7⟩ := q7; exact again I7 n7
    | cont => obtain ⟨σ7, H7, I7, n7⟩ := q7; exact again I7 n7
    | brk => obtain ⟨σ7, H7, I7, q7⟩ := q7; exact ⟨σ7, H7, I7.unpinned, q7⟩
    | ret v => obtain ⟨x7, σ7, H7, I7, r7, q7⟩ := q7; exact ⟨x7, σ7, H7, I7.unpinned, r7, q7⟩
end

/-! ### the forms one uses -/
/-- over a list that the body leaves as it is -/
theorem for_list {K : PySem.W.Frag} {a : Addr} {xs : List V} {g : TG} {tb : TS} {D : Ends} {σ : St} {H : Hp} (Pv : Nat → St → Hp → Prop) (h0 : Pv 0 σ H) (hl : ∀ i σ H, i ≤ xs.length → Pv i σ H → SqL K H a xs)
    (hs : ∀ i x σ H, xs[i]? = some x → Pv i σ H → g x σ H fun σ2 H2 => tb { D with nx := Pv (i + 1), ct := Pv (i + 1), bk := D.nx } σ2 H2) (hd : ∀ σ H, Pv xs.length σ H → D.nx σ H) :
    ∃ W : Nat → Nat → St → Hp → Prop, (∃ m, W 0 m σ H) ∧ ∀ i m σ H, W i m σ H →
      ((Itl K a).stop i H ∧ D.nx σ H) ∨ ((Itl K a).go i H ∧ ∃ N : St → Hp → Prop, (∀ σ' H', N σ' H' → ∃ m', m' < m ∧ W (i + 1) m' σ' H') ∧ ∀ x H', (Itl K a).yld i H x H' → g x σ H' fun σ2 H2 => tb { D with nx := N, ct := N, bk := D.nx } σ2 H2) := by
  refine ⟨fun i m σ H => m = xs.length - i ∧ i ≤ xs.length ∧ Pv i σ H, ⟨xs.length, by simp, Nat.zero_le _, h0⟩, ?_⟩
  rintro i m σ H ⟨rfl, hi, p⟩
  have q := hl i σ H hi p
  by_cases hlt : i < xs.length
  · refine .inr ⟨⟨xs, xs[i], q, by simp [hlt]⟩, Pv (i + 1), fun σ' H' p' => ⟨xs.length - (i + 1), by omega, rfl, hlt, p'⟩, fun x H' y => ?_⟩
    obtain ⟨e, y⟩ := y
    subst e
    exact hs i x σ _ (y xs q) p
  · have e : i = xs.length := by omega
    subst e
    exact .inl ⟨⟨xs, q, Nat.le_refl _⟩, hd σ H p⟩
theorem for_tup {K : PySem.W.Frag} {a : Addr} {xs : List V} {g : TG} {tb : TS} {D : Ends} {σ : St} {H : Hp} (Pv : Nat → St → Hp → Prop) (h0 : Pv 0 σ H) (hl : ∀ i σ H, i ≤ xs.length → Pv i σ H → SqT K H a xs)
    (hs : ∀ i x σ H, xs[i]? = some x → Pv i σ H → g x σ H fun σ2 H2 => tb { D with nx := Pv (i + 1), ct := Pv (i + 1), bk := D.nx } σ2 H2) (hd : ∀ σ H, Pv xs.length σ H → D.nx σ H) :
    ∃ W : Nat → Nat → St → Hp → Prop, (∃ m, W 0 m σ H) ∧ ∀ i m σ H, W i m σ H →
      ((Itt K a).stop i H ∧ D.nx σ H) ∨ ((Itt K a).go i H ∧ ∃ N : St → Hp → Prop, (∀ σ' H', N σ' H' → ∃ m', m' < m ∧ W (i + 1) m' σ' H') ∧ ∀ x H', (Itt K a).yld i H x H' → g x σ H' fun σ2 H2 => tb { D with nx := N, ct := N, bk := D.nx } σ2 H2) := by
  refine ⟨fun i m σ H => m = xs.length - i ∧ i ≤ xs.length ∧ Pv i σ H, ⟨xs.length, by simp, Nat.zero_le _, h0⟩, ?_⟩
  rintro i m σ H ⟨rfl, hi, p⟩
  have q := hl i σ H hi p
  by_cases hlt : i < xs.length
  · refine .inr ⟨⟨xs, xs[i], q, by simp [hlt]⟩, Pv (i + 1), fun σ' H' p' => ⟨xs.length - (i + 1), by omega, rfl, hlt, p'⟩, fun x H' y => ?_⟩
    obtain ⟨e, y⟩ := y
    subst e
    exact hs i x σ _ (y xs q) p
  · have e : i = xs.length := by omega
    subst e
    exact .inl ⟨⟨xs, q, Nat.le_refl _⟩, hd σ H p⟩
theorem for_range {lo : Int} {n : Nat} {g : TG} {tb : TS} {D : Ends} {σ : St} {H : Hp} (Pv : Nat → St → Hp → Prop) (h0 : Pv 0 σ H)
    (hs : ∀ i σ H, i < n → Pv i σ H → g (.int (lo + i)) σ H fun σ2 H2 => tb { D with nx := Pv (i + 1), ct := Pv (i + 1), bk := D.nx } σ2 H2) (hd : ∀ σ H, Pv n σ H → D.nx σ H) :
    ∃ W : Nat → Nat → St → Hp → Prop, (∃ m, W 0 m σ H) ∧ ∀ i m σ H, W i m σ H →
      ((Itr lo n).stop i H ∧ D.nx σ H) ∨ ((Itr lo n).go i H ∧ ∃ N : St → Hp → Prop, (∀ σ' H', N σ' H' → ∃ m', m' < m ∧ W (i + 1) m' σ' H') ∧ ∀ x H', (Itr lo n).yld i H x H' → g x σ H' fun σ2 H2 => tb { D with nx := N, ct := N, bk := D.nx } σ2 H2) := by
  refine ⟨fun i m σ H => m = n - i ∧ i ≤ n ∧ Pv i σ H, ⟨n, by simp, Nat.zero_le _, h0⟩, ?_⟩
  rintro i m σ H ⟨rfl, hi, p⟩
  by_cases hlt : i < n
  · refine .inr ⟨hlt, Pv (i + 1), fun σ' H' p' => ⟨n - (i + 1), by omega, rfl, hlt, p'⟩, fun x H' y => ?_⟩
    obtain ⟨e, y⟩ := y
    subst e y
    exact hs i σ _ hlt p
  · have e : i = n := by omega
    subst e
    exact .inl ⟨Nat.le_refl _, hd σ H p⟩
/-- while, by a word and a measure of the state -/
theorem while_by {c : TT} {tb : TS} {D : Ends} {σ : St} {H : Hp} (Pv : St → Hp → Prop) (μ : St → Hp → Nat) (h0 : Pv σ H)
    (hs : ∀ σ H, Pv σ H → c σ H fun b H1 => if b = true then tb { D with nx := fun σ' H' => Pv σ' H' ∧ μ σ' H' < μ σ H, ct := fun σ' H' => Pv σ' H' ∧ μ σ' H' < μ σ H, bk := D.nx } σ H1 else D.nx σ H1)
    (mono : ∀ σ H Q Q', (∀ b H1, Q b H1 → Q' b H1) → c σ H Q → c σ H Q') : tWhile c tb D σ H := by
  refine ⟨fun m σ H => m = μ σ H ∧ Pv σ H, ⟨_, rfl, h0⟩, ?_⟩
  rintro m σ H ⟨rfl, p⟩
  refine mono σ H _ _ (fun b H1 q => ?_) (hs σ H p)
  cases b with
  | true => exact ⟨_, fun σ' H' ⟨p', l⟩ => ⟨_, l, rfl, p'⟩, q⟩
  | false => exact q
end L2

namespace L2
open PySem PySem.Spec PyProof.Rows

abbrev R2 := V → V → Hp → VK → Prop
/-- a two-place operation on values: f is binaryOp op, inplaceOp op or compareOp op -/
def OpR (X : Cx) (f : Value → Value → Sem Value) (r : R2) : Prop :=
  ∀ (pins : List (Addr × Obj)) (s : Shared) (σ : St) (H : Hp) (x y : V) (v u : Value) (Q : VK), Inv X pins σ H s → RelV x v → RelV y u → r x y H Q →
    wpAny (model X.prog X.w) X.A (f v u) (EP X pins σ Q) X.xe s
/-- a one-place operation -/
def UnR (X : Cx) (f : Value → Sem Value) (r : V → Hp → VK → Prop) : Prop :=
  ∀ (pins : List (Addr × Obj)) (s : Shared) (σ : St) (H : Hp) (x : V) (v : Value) (Q : VK), Inv X pins σ H s → RelV x v → r x H Q →
    wpAny (model X.prog X.w) X.A (f v) (EP X pins σ Q) X.xe s
/-- a call of a value that is known (a builtin, a type) with values -/
def CallR (X : Cx) (f : Value) (r : List V → Hp → VK → Prop) : Prop :=
  ∀ (pins : List (Addr × Obj)) (s : Shared) (σ : St) (H : Hp) (xs : List V) (us : List Value) (Q : VK), Inv X pins σ H s → Vals xs us → r xs H Q →
    wpAny (model X.prog X.w) X.A (call f us) (EP X pins σ Q) X.xe s
/-- a value's truth -/
def TruR (X : Cx) (r : V → Hp → (Bool → Hp → Prop) → Prop) : Prop :=
  ∀ (pins : List (Addr × Obj)) (s : Shared) (σ : St) (H : Hp) (x : V) (v : Value) (Q : Bool → Hp → Prop), Inv X pins σ H s → RelV x v → r x H Q →
    wpAny (model X.prog X.w) X.A (truthy v) (TP X pins σ Q) X.xe s

def tOp (r : R2) (ta tb : TE) : TE := fun σ H Q => ta σ H fun x H1 => tb σ H1 fun y H2 => r x y H2 Q
def tUn (r : V → Hp → VK → Prop) (ta : TE) : TE := fun σ H Q => ta σ H fun x H1 => r x H1 Q
/-- ints in, under C, and a value out -/
def rI (C : Int → Int → Prop) (g : Int → Int → V) : R2 := fun x y H Q => ∃ i j, x = .int i ∧ y = .int j ∧ C i j ∧ Q (g i j) H
def rI0 (g : Int → Int → V) : R2 := fun x y H Q => ∃ i j, x = .int i ∧ y = .int j ∧ Q (g i j) H
def rU (g : Int → V) : V → Hp → VK → Prop := fun x H Q => ∃ i, x = .int i ∧ Q (g i) H

section
variable {X : Cx} {a b c : Expr} {ta tb tc : TE} {pos : Pos}

theorem binT (ha : PE X a ta) (hb : PE X b tb) {pins : List (Addr × Obj)} {s : Shared} {σ : St} {H : Hp} {R : V → V → Hp → Prop} (I : Inv X pins σ H s)
    (h : ta σ H fun x H1 => tb σ H1 fun y H2 => R x y H2) {Q : Value → Shared → Prop} {f : Value → Value → Sem Value}
    (hf : ∀ v u s2 x y H2, Inv X pins σ H2 s2 → RelV x v → RelV y u → R x y H2 → wpAny (model X.prog X.w) X.A (f v u) Q X.xe s2) :
    wpAny (model X.prog X.w) X.A (eval a X.env) (fun v s₁ => wpAny (model X.prog X.w) X.A (eval b X.env) (fun u s₂ => wpAny (model X.prog X.w) X.A (f v u) Q X.xe s₂) X.xe s₁) X.xe s := by
  refine thn (ha pins s σ H _ I h) fun v s1 ⟨x, H1, I1, r1, q1⟩ => ?_
  refine thn (hb pins s1 σ H1 _ I1 q1) fun u s2 ⟨y, H2, I2, r2, q2⟩ => ?_
  exact hf v u s2 x y H2 I2 r1 r2 q2

theorem pe_op {op : Operator} {r : R2} (ho : OpR X (binaryOp op) r) (ha : PE X a ta) (hb : PE X b tb) : PE X (.BinOp a op b pos) (tOp r ta tb) := by
  intro pins s σ H Q I h
  exact wpAny_BinOp (binT ha hb I h fun v u s2 x y H2 I2 rx ry q => ho pins s2 σ H2 x y v u Q I2 rx ry q)
theorem pe_un {op : UnaryOp} {r : V → Hp → VK → Prop} (ho : UnR X (unaryOp op) r) (ha : PE X a ta) : PE X (.UnaryOp op a pos) (tUn r ta) := by
  intro pins s σ H Q I h
  exact UnaryOp_ (thn (ha pins s σ H _ I h) fun v s1 ⟨x, H1, I1, r1, q1⟩ => ho pins s1 σ H1 x v Q I1 r1 q1)
/-- a op= e at a name: the name's slot i -/
theorem augR {op : Operator} {r : R2} (ho : OpR X (inplaceOp op) r) {pins : List (Addr × Obj)} {s : Shared} {σ : St} {H : Hp} {x y : V} {v u : Value} {Q : VK} (I : Inv X pins σ H s)
    (rx : RelV x v) (ry : RelV y u) (q : r x y H Q) : wpAny (model X.prog X.w) X.A (inplaceOp op v u) (EP X pins σ Q) X.xe s := ho pins s σ H x y v u Q I rx ry q

/-! ### ints -/
theorem opI {f : Value → Value → Sem Value} {C : Int → Int → Prop} {g : Int → Int → Int}
    (rule : ∀ (i j : Int) (t u : Tok) (s : Shared) (Q : Value → Shared → Prop) (E : Value → Shared → Prop), C i j → Q (.int (g i j) s.toks) { s with toks := s.toks + 1 } → wpAny (model X.prog X.w) X.A (f (.int i t) (.int j u)) Q E s) :
    OpR X f (rI C fun i j => .int (g i j)) := by
  intro pins s σ H x y v u Q I rx ry h
  obtain ⟨i, j, rfl, rfl, hc, q⟩ := h
  obtain ⟨t, rfl⟩ := rx
  obtain ⟨t', rfl⟩ := ry
  exact rule i j t t' s _ _ hc ⟨.int (g i j), H, I.tok _, ⟨_, rfl⟩, q⟩
theorem opI0 {f : Value → Value → Sem Value} {g : Int → Int → Int}
    (rule : ∀ (i j : Int) (t u : Tok) (s : Shared) (Q : Value → Shared → Prop) (E : Value → Shared → Prop), Q (.int (g i j) s.toks) { s with toks := s.toks + 1 } → wpAny (model X.prog X.w) X.A (f (.int i t) (.int j u)) Q E s) :
    OpR X f (rI0 fun i j => .int (g i j)) := by
  intro pins s σ H x y v u Q I rx ry h
  obtain ⟨i, j, rfl, rfl, q⟩ := h
  obtain ⟨t, rfl⟩ := rx
  obtain ⟨t', rfl⟩ := ry
  exact rule i j t t' s _ _ ⟨.int (g i j), H, I.tok _, ⟨_, rfl⟩, q⟩
theorem opB0 {f : Value → Value → Sem Value} {g : Int → Int → Bool}
    (rule : ∀ (i j : Int) (t u : Tok) (s : Shared) (Q : Value → Shared → Prop) (E : Value → Shared → Prop), Q (.bool (g i j)) s → wpAny (model X.prog X.w) X.A (f (.int i t) (.int j u)) Q E s) :
    OpR X f (rI0 fun i j => .bl (g i j)) := by
  intro pins s σ H x y v u Q I rx ry h
  obtain ⟨i, j, rfl, rfl, q⟩ := h
  obtain ⟨t, rfl⟩ := rx
  obtain ⟨t', rfl⟩ := ry
  exact rule i j t t' s _ _ ⟨.bl (g i j), H, I, rfl, q⟩

def CDiv (i j : Int) : Prop := 0 < j ∧ j < 1073741824
def CDivN (i j : Int) : Prop := j ≠ 0 ∧ j.natAbs < 1073741824
def CPow (i j : Int) : Prop := 0 ≤ j ∧ j ≤ 1000000 ∧ i.natAbs < 2 ^ 64
def CMul (i j : Int) : Prop := (-(2 ^ 64) < i ∧ i < 2 ^ 64) ∨ (-(2 ^ 64) < j ∧ j < 2 ^ 64)
theorem CMul.ok {i j : Int} (h : CMul i j) : IntMulOk i j := by
  rcases h with ⟨h1, h2⟩ | ⟨h1, h2⟩
  · exact .of_left (intBits_le_64 h1 h2)
  · exact .of_right (intBits_le_64 h1 h2)
theorem two_pow_nn (k : Nat) : (0 : Int) ≤ 2 ^ k := by
  rw [two_pow_cast]
  exact Int.natCast_nonneg _

theorem op_add : OpR X (binaryOp .Add) (rI0 fun i j => .int (i + j)) := opI0 fun _ _ _ _ _ _ _ q => add_int q
theorem op_sub : OpR X (binaryOp .Sub) (rI0 fun i j => .int (i - j)) := opI0 fun _ _ _ _ _ _ _ q => sub_int q
theorem op_mul : OpR X (binaryOp .Mult) (rI CMul fun i j => .int (i * j)) := opI fun _ _ _ _ _ _ _ hc q => mul_int q hc.ok
/-- // by a positive divisor -/
theorem op_fdiv : OpR X (binaryOp .FloorDiv) (rI CDiv fun i j => .int (i / j)) := opI fun i j _ _ _ _ _ hc q => by
  have h1 : (0 : Int) < j := hc.1
  have h2 : j < 1073741824 := hc.2
  exact floordiv_int (by omega) (by rw [Int.fdiv_eq_ediv_of_nonneg i (by omega)]; exact q) (.inl (PyProof.noPylong_small (by omega)))
theorem op_fdivN : OpR X (binaryOp .FloorDiv) (rI CDivN fun i j => .int (i.fdiv j)) := opI fun _ _ _ _ _ _ _ hc q => floordiv_int hc.1 q (.inl (PyProof.noPylong_small hc.2))
/-- % by a positive divisor of any size -/
theorem op_mod : OpR X (binaryOp .Mod) (rI (fun _ j => 0 < j) fun i j => .int (i % j)) := opI fun i j _ _ _ _ _ hc q => by
  have h1 : (0 : Int) < j := hc
  exact mod_int' (by omega) (by rw [Int.fmod_eq_emod_of_nonneg i (by omega)]; exact q)
theorem op_modN : OpR X (binaryOp .Mod) (rI (fun _ j => j ≠ 0) fun i j => .int (i.fmod j)) := opI fun _ _ _ _ _ _ _ hc q => mod_int' hc q
theorem op_pow : OpR X (binaryOp .Pow) (rI CPow fun i j => .int (i ^ j.toNat)) := opI fun _ _ _ _ _ _ _ hc q => pow_int_small hc.1 hc.2.1 hc.2.2 q
theorem op_shl : OpR X (binaryOp .LShift) (rI CPow fun i j => .int (i * 2 ^ j.toNat)) := opI fun _ _ _ _ _ _ _ hc q => lshift_int_small hc.1 hc.2.1 hc.2.2 q
theorem op_shr : OpR X (binaryOp .RShift) (rI (fun _ j => 0 ≤ j) fun i j => .int (i / 2 ^ j.toNat)) := opI fun i j _ _ _ _ _ hc q =>
  rshift_int hc (by rw [Int.fdiv_eq_ediv_of_nonneg i (two_pow_nn _)]; exact q)
theorem op_and : OpR X (binaryOp .BitAnd) (rI0 fun i j => .int (Builtin.bitAnd i j)) := opI0 fun _ _ _ _ _ _ _ q => and_int q
theorem op_or : OpR X (binaryOp .BitOr) (rI0 fun i j => .int (Builtin.bitOr i j)) := opI0 fun _ _ _ _ _ _ _ q => or_int q
theorem op_xor : OpR X (binaryOp .BitXor) (rI0 fun i j => .int (Builtin.bitXor i j)) := opI0 fun _ _ _ _ _ _ _ q => xor_int q

theorem iop_add : OpR X (inplaceOp .Add) (rI0 fun i j => .int (i + j)) := opI0 fun _ _ _ _ _ _ _ q => iadd_int q
theorem iop_sub : OpR X (inplaceOp .Sub) (rI0 fun i j => .int (i - j)) := opI0 fun _ _ _ _ _ _ _ q => isub_int q
theorem iop_mul : OpR X (inplaceOp .Mult) (rI CMul fun i j => .int (i * j)) := opI fun _ _ _ _ _ _ _ hc q => imul_int q hc.ok
theorem iop_fdiv : OpR X (inplaceOp .FloorDiv) (rI CDiv fun i j => .int (i / j)) := opI fun i j _ _ _ _ _ hc q => by
  have h1 : (0 : Int) < j := hc.1
  have h2 : j < 1073741824 := hc.2
  exact ifloordiv_int (by omega) (by rw [Int.fdiv_eq_ediv_of_nonneg i (by omega)]; exact q) (.inl (PyProof.noPylong_small (by omega)))
theorem iop_mod : OpR X (inplaceOp .Mod) (rI (fun _ j => 0 < j) fun i j => .int (i % j)) := opI fun i j _ _ _ _ _ hc q => by
  have h1 : (0 : Int) < j := hc
  exact imod_int (by omega) (by rw [Int.fmod_eq_emod_of_nonneg i (by omega)]; exact q)
theorem iop_shl : OpR X (inplaceOp .LShift) (rI CPow fun i j => .int (i * 2 ^ j.toNat)) := opI fun _ _ _ _ _ _ _ hc q => ilshift_int_small hc.1 hc.2.1 hc.2.2 q
theorem iop_shr : OpR X (inplaceOp .RShift) (rI (fun _ j => 0 ≤ j) fun i j => .int (i / 2 ^ j.toNat)) := opI fun i j _ _ _ _ _ hc q =>
  irshift_int hc (by rw [Int.fdiv_eq_ediv_of_nonneg i (two_pow_nn _)]; exact q)
theorem iop_and : OpR X (inplaceOp .BitAnd) (rI0 fun i j => .int (Builtin.bitAnd i j)) := opI0 fun _ _ _ _ _ _ _ q => iand_int q
theorem iop_or : OpR X (inplaceOp .BitOr) (rI0 fun i j => .int (Builtin.bitOr i j)) := opI0 fun _ _ _ _ _ _ _ q => ior_int q
theorem iop_xor : OpR X (inplaceOp .BitXor) (rI0 fun i j => .int (Builtin.bitXor i j)) := opI0 fun _ _ _ _ _ _ _ q => ixor_int q

theorem unI {f : Value → Sem Value} {g : Int → Int}
    (rule : ∀ (i : Int) (t : Tok) (s : Shared) (Q : Value → Shared → Prop) (E : Value → Shared → Prop), Q (.int (g i) s.toks) { s with toks := s.toks + 1 } → wpAny (model X.prog X.w) X.A (f (.int i t)) Q E s) :
    UnR X f (rU fun i => .int (g i)) := by
  intro pins s σ H x v Q I rx h
  obtain ⟨i, rfl, q⟩ := h
  obtain ⟨t, rfl⟩ := rx
  exact rule i t s _ _ ⟨.int (g i), H, I.tok _, ⟨_, rfl⟩, q⟩
theorem un_neg : UnR X (unaryOp .USub) (rU fun i => .int (-i)) := unI fun _ _ _ _ _ q => neg_int q
theorem un_inv : UnR X (unaryOp .Invert) (rU fun i => .int (Builtin.bitNot i)) := unI fun _ _ _ _ _ q => invert_int q

/-! ### bools among ints: n += (a < b) -/
theorem op_add_ib : OpR X (binaryOp .Add) (fun x y H Q => ∃ i k, x = .int i ∧ y = .bl k ∧ Q (.int (i + b2i k)) H) := by
  intro pins s σ H x y v u Q I rx ry h
  obtain ⟨i, k, rfl, rfl, q⟩ := h
  obtain ⟨t, rfl⟩ := rx
  cases ry
  exact add_int_bool ⟨.int (i + b2i k), H, I.tok _, ⟨_, rfl⟩, q⟩
end

/-! ### comparisons -/
/-- the scalars that == tells apart as data does -/
def scal : V → V → Bool
  | .non, .non => true | .non, .int _ => true | .int _, .non => true | .non, .bl _ => true | .bl _, .non => true | .non, .str _ => true | .str _, .non => true
  | .int _, .int _ => true | .bl _, .bl _ => true | .str _, .str _ => true | .byt _, .byt _ => true
  | .int _, .str _ => true | .str _, .int _ => true | .bl _, .str _ => true | .str _, .bl _ => true
  | _, _ => false
def rEq : R2 := fun x y H Q => scal x y = true ∧ Q (.bl (decide (x = y))) H
def rNe : R2 := fun x y H Q => scal x y = true ∧ Q (.bl (!decide (x = y))) H

theorem dec_int {i j : Int} : decide (V.int i = V.int j) = (i == j) := by
  rw [Bool.eq_iff_iff]
  simp
theorem dec_bl {i j : Bool} : decide (V.bl i = V.bl j) = (i == j) := by
  rw [Bool.eq_iff_iff]
  simp
theorem dec_str {i j : Str} : decide (V.str i = V.str j) = (i == j) := by
  rw [Bool.eq_iff_iff]
  simp
theorem dec_byt {i j : Array UInt8} : decide (V.byt i = V.byt j) = (i.toList == j.toList) := by
  rw [Bool.eq_iff_iff]
  cases i
  cases j
  simp

section
variable {X : Cx} {a b c : Expr} {ta tb tc : TE} {pos : Pos}
theorem fin_bl {pins : List (Addr × Obj)} {σ : St} {H : Hp} {s : Shared} {Q : VK} {k k' : Bool} (I : Inv X pins σ H s) (q : Q (.bl k) H) (e : k = k') : EP X pins σ Q (.bool k') s := by
  subst e
  exact ⟨.bl k, H, I, rfl, q⟩
theorem op_eq : OpR X (compareOp .Eq) rEq := by
  intro pins s σ H x y v u Q I rx ry h
  obtain ⟨hs, q⟩ := h
  cases x with
  | non =>
    cases rx
    cases y with
    | non => cases ry; exact PySem.EqNone.eq_none_none (fin_bl I q (by simp))
    | bl j => cases ry; exact PySem.EqNone.eq_none_bool (fin_bl I q (by simp))
    | int j => obtain ⟨t', rfl⟩ := ry; exact PySem.EqNone.eq_none_int (fin_bl I q (by simp))
    | str j => obtain ⟨t', rfl⟩ := ry; exact PySem.EqNone.eq_none_str (fin_bl I q (by simp))
    | _ => exact absurd (show false = true from hs) Bool.false_ne_true
  | bl i =>
    cases rx
    cases y with
    | non => cases ry; exact PySem.EqNone.eq_bool_none (fin_bl I q (by simp))
    | bl j => cases ry; exact eq_bool (fin_bl I q dec_bl)
    | str j => obtain ⟨t', rfl⟩ := ry; exact PySem.EqMixed.eq_bool_str (fin_bl I q (by simp))
    | _ => exact absurd (show false = true from hs) Bool.false_ne_true
  | int i =>
    obtain ⟨t, rfl⟩ := rx
    cases y with
    | non => cases ry; exact PySem.EqNone.eq_int_none (fin_bl I q (by simp))
    | int j => obtain ⟨t', rfl⟩ := ry; exact eq_int (fin_bl I q dec_int)
    | str j => obtain ⟨t', rfl⟩ := ry; exact PySem.EqMixed.eq_int_str (fin_bl I q (by simp))
    | _ => exact absurd (show false = true from hs) Bool.false_ne_true
  | str i =>
    obtain ⟨t, rfl⟩ := rx
    cases y with
    | non => cases ry; exact PySem.EqNone.eq_str_none (fin_bl I q (by simp))
    | bl j => cases ry; exact PySem.EqMixed.eq_str_bool (fin_bl I q (by simp))
    | int j => obtain ⟨t', rfl⟩ := ry; exact PySem.EqMixed.eq_str_int (fin_bl I q (by simp))
    | str j => obtain ⟨t', rfl⟩ := ry; exact eq_str (fin_bl I q dec_str)
    | _ => exact absurd (show false = true from hs) Bool.false_ne_true
  | byt i =>
    obtain ⟨t, rfl⟩ := rx
    cases y with
    | byt j => obtain ⟨t', rfl⟩ := ry; exact PySem.W.eq_bytes (fin_bl I q dec_byt)
    | _ => exact absurd (show false = true from hs) Bool.false_ne_true
  | _ => cases y <;> exact absurd (show false = true from hs) Bool.false_ne_true
theorem op_ne : OpR X (compareOp .NotEq) rNe := by
  intro pins s σ H x y v u Q I rx ry h
  obtain ⟨hs, q⟩ := h
  cases x with
  | non =>
    cases rx
    cases y with
    | non => cases ry; exact PySem.EqNone.ne_none_none (fin_bl I q (by simp))
    | bl j => cases ry; exact PySem.EqNone.ne_none_bool (fin_bl I q (by simp))
    | int j => obtain ⟨t', rfl⟩ := ry; exact PySem.EqNone.ne_none_int (fin_bl I q (by simp))
    | str j => obtain ⟨t', rfl⟩ := ry; exact PySem.EqNone.ne_none_str (fin_bl I q (by simp))
    | _ => exact absurd (show false = true from hs) Bool.false_ne_true
  | bl i =>
    cases rx
    cases y with
    | non => cases ry; exact PySem.EqNone.ne_bool_none (fin_bl I q (by simp))
    | bl j => cases ry; exact ne_bool (fin_bl I q (congrArg not dec_bl))
    | str j => obtain ⟨t', rfl⟩ := ry; exact PySem.EqMixed.ne_bool_str (fin_bl I q (by simp))
    | _ => exact absurd (show false = true from hs) Bool.false_ne_true
  | int i =>
    obtain ⟨t, rfl⟩ := rx
    cases y with
    | non => cases ry; exact PySem.EqNone.ne_int_none (fin_bl I q (by simp))
    | int j => obtain ⟨t', rfl⟩ := ry; exact ne_int (fin_bl I q (congrArg not dec_int))
    | str j => obtain ⟨t', rfl⟩ := ry; exact PySem.EqMixed.ne_int_str (fin_bl I q (by simp))
    | _ => exact absurd (show false = true from hs) Bool.false_ne_true
  | str i =>
    obtain ⟨t, rfl⟩ := rx
    cases y with
    | non => cases ry; exact PySem.EqNone.ne_str_none (fin_bl I q (by simp))
    | bl j => cases ry; exact PySem.EqMixed.ne_str_bool (fin_bl I q (by simp))
    | int j => obtain ⟨t', rfl⟩ := ry; exact PySem.EqMixed.ne_str_int (fin_bl I q (by simp))
    | str j => obtain ⟨t', rfl⟩ := ry; exact ne_str (fin_bl I q (congrArg not dec_str))
    | _ => exact absurd (show false = true from hs) Bool.false_ne_true
  | byt i =>
    obtain ⟨t, rfl⟩ := rx
    cases y with
    | byt j => obtain ⟨t', rfl⟩ := ry; exact PySem.W.ne_bytes (fin_bl I q (congrArg not dec_byt))
    | _ => exact absurd (show false = true from hs) Bool.false_ne_true
  | _ => cases y <;> exact absurd (show false = true from hs) Bool.false_ne_true

theorem op_lt : OpR X (compareOp .Lt) (rI0 fun i j => .bl (decide (i < j))) := opB0 fun _ _ _ _ _ _ _ q => lt_int q
theorem op_le : OpR X (compareOp .LtE) (rI0 fun i j => .bl (decide (i ≤ j))) := opB0 fun _ _ _ _ _ _ _ q => le_int q
theorem op_gt : OpR X (compareOp .Gt) (rI0 fun i j => .bl (decide (j < i))) := opB0 fun _ _ _ _ _ _ _ q => gt_int q
theorem op_ge : OpR X (compareOp .GtE) (rI0 fun i j => .bl (decide (j ≤ i))) := opB0 fun _ _ _ _ _ _ _ q => ge_int q
theorem op_lt_str : OpR X (compareOp .Lt) (fun x y H Q => ∃ i j, x = .str i ∧ y = .str j ∧ Q (.bl (decide (i.cps.toList < j.cps.toList))) H) := by
  intro pins s σ H x y v u Q I rx ry h
  obtain ⟨i, j, rfl, rfl, q⟩ := h
  obtain ⟨t, rfl⟩ := rx
  obtain ⟨t', rfl⟩ := ry
  exact lt_str (fin_bl I q rfl)
/-- the one string within the other -/
theorem op_in_str : OpR X (compareOp .In) (fun x y H Q => ∃ i j, x = .str i ∧ y = .str j ∧ Q (.bl (!(Builtin.Str.occurrences j i 0 j.length 1).isEmpty)) H) := by
  intro pins s σ H x y v u Q I rx ry h
  obtain ⟨i, j, rfl, rfl, q⟩ := h
  obtain ⟨t, rfl⟩ := rx
  obtain ⟨t', rfl⟩ := ry
  exact in_str (fin_bl I q rfl)

/-- is None, is not None: the right side a value none -/
theorem op_isN : OpR X (compareOp .Is) (fun x y H Q => y = .non ∧ Q (.bl (decide (x = .non))) H) := by
  intro pins s σ H x y v u Q I rx ry h
  obtain ⟨rfl, q⟩ := h
  cases ry
  refine is_none_gen (fin_bl I q ?_)
  cases x <;> first
    | (cases rx; rfl)
    | (obtain ⟨t, rfl⟩ := rx; rfl)
theorem op_notN : OpR X (compareOp .IsNot) (fun x y H Q => y = .non ∧ Q (.bl (!decide (x = .non))) H) := by
  intro pins s σ H x y v u Q I rx ry h
  obtain ⟨rfl, q⟩ := h
  cases ry
  refine isnot_none_gen (fin_bl I q ?_)
  cases x <;> first
    | (cases rx; rfl)
    | (obtain ⟨t, rfl⟩ := rx; rfl)

theorem op_notin_str : OpR X (compareOp .NotIn) (fun x y H Q => ∃ i j, x = .str i ∧ y = .str j ∧ Q (.bl (!(!(Builtin.Str.occurrences j i 0 j.length 1).isEmpty))) H) := by
  intro pins s σ H x y v u Q I rx ry h
  obtain ⟨i, j, rfl, rfl, q⟩ := h
  obtain ⟨t, rfl⟩ := rx
  obtain ⟨t', rfl⟩ := ry
  exact notIn_str (fin_bl I q rfl)
/-- is, is not of two objects that are tracked lists or instances -/
def isObj : HO → Bool
  | .lst _ => true
  | .ins _ _ _ => true
  | _ => false
theorem obj_there {pins : List (Addr × Obj)} {s : Shared} {σ : St} {H : Hp} {a : Addr} {o : HO} (I : Inv X pins σ H s) (h : H a = some o) (p : isObj o = true) : ∃ ob, s.heap.get? a = some ob ∧ ob.cls ≠ .type "tuple" := by
  cases o with
  | lst xs =>
    obtain ⟨_, its, n, _, e⟩ : xs.length ≤ sizeLine ∧ ∃ (its : List Value) (n : Nat), Vals xs its ∧ s.heap.get? a = some { cls := .type "list", data := .seq its.toArray n } := I.hok a _ h
    exact ⟨_, e, (by show Value.type "list" ≠ .type "tuple"; decide +kernel)⟩
  | ins C dx fs =>
    have x := I.hok a _ h
    obtain ⟨_, _, _, e, _⟩ := x
    exact ⟨_, e, (by show Value.ref C ≠ .type "tuple"; exact fun z => by cases z)⟩
  | _ => exact absurd (show false = true from p) Bool.false_ne_true
theorem op_is_ref : OpR X (compareOp .Is) (fun x y H Q => ∃ a b oa ob, x = .ref a ∧ y = .ref b ∧ H a = some oa ∧ isObj oa = true ∧ H b = some ob ∧ isObj ob = true ∧ Q (.bl (decide (a = b))) H) := by
  intro pins s σ H x y v u Q I rx ry h
  obtain ⟨a, b, oa, ob, rfl, rfl, ha, pa, hb, pb, q⟩ := h
  cases rx
  cases ry
  obtain ⟨o1, e1, n1⟩ := obj_there I ha pa
  obtain ⟨o2, e2, _⟩ := obj_there I hb pb
  by_cases z : a = b
  · subst z
    exact wpAny_is_ref_self (fin_bl I q (by simp))
  · exact wpAny_is_ref_other z e1 e2 n1 (fin_bl I q (by simp [z]))
theorem op_isnot_ref : OpR X (compareOp .IsNot) (fun x y H Q => ∃ a b oa ob, x = .ref a ∧ y = .ref b ∧ H a = some oa ∧ isObj oa = true ∧ H b = some ob ∧ isObj ob = true ∧ Q (.bl (!decide (a = b))) H) := by
  intro pins s σ H x y v u Q I rx ry h
  obtain ⟨a, b, oa, ob, rfl, rfl, ha, pa, hb, pb, q⟩ := h
  cases rx
  cases ry
  obtain ⟨o1, e1, n1⟩ := obj_there I ha pa
  obtain ⟨o2, e2, _⟩ := obj_there I hb pb
  by_cases z : a = b
  · subst z
    exact wpAny_isNot_ref_self (fin_bl I q (by simp))
  · exact wpAny_isNot_ref_other z e1 e2 n1 (fin_bl I q (by simp [z]))

/-- two rules for one operation: by cases -/
theorem OpR.or {f : Value → Value → Sem Value} {r r' : R2} (h : OpR X f r) (h' : OpR X f r') : OpR X f (fun x y H Q => r x y H Q ∨ r' x y H Q) := by
  intro pins s σ H x y v u Q I rx ry q
  rcases q with q | q
  · exact h pins s σ H x y v u Q I rx ry q
  · exact h' pins s σ H x y v u Q I rx ry q

theorem nomark (b : Expr) {op : CmpOp} (h : op ≠ .In := by decide) (h2 : op ≠ .NotIn := by decide) : behindInMarks op b = false := by
  have e1 : (op == CmpOp.In) = false := by cases op <;> first | rfl | exact absurd rfl h
  have e2 : (op == CmpOp.NotIn) = false := by cases op <;> first | rfl | exact absurd rfl h2
  cases b <;> simp [behindInMarks, e1, e2]
/-- a comparison as a value; hm: nomark b, or (for in, not in) by with_unfolding_all rfl -/
theorem pe_cmpR {op : CmpOp} {r : R2} (ho : OpR X (compareOp op) r) (ha : PE X a ta) (hb : PE X b tb) (hm : behindInMarks op b = false) : PE X (.Compare a [op] [b] pos) (tOp r ta tb) := by
  intro pins s σ H Q I h
  exact wpAny_Compare1 (binT ha hb I h fun v u s2 x y H2 I2 rx ry q => ho pins s2 σ H2 x y v u Q I2 rx ry q) hm
/-- a reading of a value as a test -/
def tTest (t : TE) : TT := fun σ H Q => t σ H fun x H' => ∃ k, x = .bl k ∧ Q k H'
theorem pt_cmpR {op : CmpOp} {r : R2} (ho : OpR X (compareOp op) r) (ha : PE X a ta) (hb : PE X b tb) (hm : behindInMarks op b = false) : PT X (.Compare a [op] [b] pos) (tTest (tOp r ta tb)) := by
  intro pins s σ H Q I h
  refine wpAny_isTrue_Compare1 (thn (ha pins s σ H _ I h) fun v s1 ⟨x, H1, I1, r1, q1⟩ => thn (hb pins s1 σ H1 _ I1 q1) fun u s2 ⟨y, H2, I2, r2, q2⟩ =>
    thn (ho pins s2 σ H2 x y v u _ I2 r1 r2 q2) fun c s3 ⟨z, H3, I3, r3, k, e, q3⟩ => ?_) hm
  subst e
  cases r3
  exact wpAny_truthy_bool ⟨H3, I3, q3⟩
/-- a op1 b op2 c -/
def tChain (r r' : R2) (ta tb tc : TE) : TE := fun σ H Q => ta σ H fun x H1 => tb σ H1 fun y H2 => r x y H2 fun z H3 => ∃ k, z = .bl k ∧
  (if k = true then tc σ H3 fun w' H4 => r' y w' H4 Q else Q (.bl false) H3)
theorem pe_chain {op op' : CmpOp} {r r' : R2} (ho : OpR X (compareOp op) r) (ho' : OpR X (compareOp op') r') (ha : PE X a ta) (hb : PE X b tb) (hc : PE X c tc)
    (hm : lastMarks [op, op'] [b, c] = false := by with_unfolding_all rfl) : PE X (.Compare a [op, op'] [b, c] pos) (tChain r r' ta tb tc) := by
  intro pins s σ H Q I h
  refine Compare_chain (thn (ha pins s σ H _ I h) fun v s1 ⟨x, H1, I1, r1, q1⟩ => chain_link (thn (hb pins s1 σ H1 _ I1 q1) fun u s2 ⟨y, H2, I2, r2, q2⟩ =>
    thn (ho pins s2 σ H2 x y v u _ I2 r1 r2 q2) fun d s3 ⟨z, H3, I3, r3, k, e, q3⟩ => ?_)) hm
  subst e
  cases r3
  refine wpAny_truthy_bool ?_
  cases k with
  | false => exact ite_ff ⟨.bl false, H3, I3, rfl, q3⟩
  | true => exact ite_tt (chain_last (thn (hc pins s3 σ H3 _ I3 q3) fun w' s4 ⟨z', H4, I4, r4, q4⟩ => ho' pins s4 σ H4 y z' u w' Q I4 r2 r4 q4))
theorem pt_chain {op op' : CmpOp} {r r' : R2} (ho : OpR X (compareOp op) r) (ho' : OpR X (compareOp op') r') (ha : PE X a ta) (hb : PE X b tb) (hc : PE X c tc)
    (hm : lastMarks [op, op'] [b, c] = false := by with_unfolding_all rfl) : PT X (.Compare a [op, op'] [b, c] pos) (tTest (tChain r r' ta tb tc)) := by
  intro pins s σ H Q I h
  refine isTrue_chain (thn (ha pins s σ H _ I h) fun v s1 ⟨x, H1, I1, r1, q1⟩ => test_link (thn (hb pins s1 σ H1 _ I1 q1) fun u s2 ⟨y, H2, I2, r2, q2⟩ =>
    thn (ho pins s2 σ H2 x y v u _ I2 r1 r2 q2) fun d s3 ⟨z, H3, I3, r3, k, e, q3⟩ => ?_)) hm
  subst e
  cases r3
  refine wpAny_truthy_bool ?_
  cases k with
  | false =>
    obtain ⟨k', e', q'⟩ := q3
    cases e'
    exact ite_ff ⟨H3, I3, q'⟩
  | true =>
    refine ite_tt (test_last (thn (hc pins s3 σ H3 _ I3 q3) fun w' s4 ⟨z', H4, I4, r4, q4⟩ => thn (ho' pins s4 σ H4 y z' u w' _ I4 r2 r4 q4) fun d' s5 ⟨z2, H5, I5, r5, k2, e2, q5⟩ => ?_))
    subst e2
    cases r5
    exact wpAny_truthy_bool ⟨H5, I5, q5⟩

/-! ### truth -/
/-- a value's truth by the abstract heap -/
def TruV (K : PySem.W.Frag) (x : V) (H : Hp) (k : Bool) : Prop :=
  match x with
  | .non => k = false
  | .bl b => k = b
  | .int i => k = (i != 0)
  | .str y => y.length ≤ sizeLine ∧ k = ((y.length : Int) != 0)
  | .byt y => y.size ≤ sizeLine ∧ k = ((y.size : Int) != 0)
  | .ref p => (∃ xs, SqL K H p xs ∧ k = !xs.isEmpty) ∨ (∃ xs, SqT K H p xs ∧ k = !xs.isEmpty) ∨ ∃ kvs, H p = some (.dK kvs) ∧ k = !kvs.isEmpty
  | _ => False
theorem isEmpty_kv {κ : Type} {kvs : List (κ × V)} {vs : List (κ × Value)} (r : KV kvs vs) : (!vs.isEmpty) = !kvs.isEmpty := by
  cases r <;> rfl
theorem isEmpty_of {xs : List V} {its : List Value} (r : Vals xs its) : (!its.toArray.isEmpty) = !xs.isEmpty := by
  cases r <;> simp
theorem line63 : (sizeLine : Nat) < 2 ^ 63 := by rw [sizeLine_eq]; decide
theorem tru_ok : TruR X (fun x H Q => ∃ k, TruV X.K x H k ∧ Q k H) := by
  intro pins s σ H x v Q I rx h
  obtain ⟨k, e, q⟩ := h
  have hl := line63
  have hs : sizeLine = 16777216 := sizeLine_eq
  cases x with
  | non =>
    cases rx
    have e' : k = false := e
    subst e'
    exact truthy_none ⟨H, I, q⟩
  | bl b =>
    cases rx
    have e' : k = b := e
    subst e'
    exact wpAny_truthy_bool ⟨H, I, q⟩
  | int i =>
    obtain ⟨t, rfl⟩ := rx
    have e' : k = (i != 0) := e
    subst e'
    exact PySem.P.truthy_int ⟨H, I, q⟩
  | str y =>
    obtain ⟨t, rfl⟩ := rx
    obtain ⟨hy, e'⟩ : y.length ≤ sizeLine ∧ k = ((y.length : Int) != 0) := e
    subst e'
    exact PySem.P.truthy_str (by omega) ⟨H, I.tok _, q⟩
  | byt y =>
    obtain ⟨t, rfl⟩ := rx
    obtain ⟨hy, e'⟩ : y.size ≤ sizeLine ∧ k = ((y.size : Int) != 0) := e
    subst e'
    exact PySem.W.truthy_bytes (by omega) ⟨H, I.tok _, q⟩
  | ref p =>
    cases rx
    have e' : (∃ xs, SqL X.K H p xs ∧ k = !xs.isEmpty) ∨ (∃ xs, SqT X.K H p xs ∧ k = !xs.isEmpty) ∨ ∃ kvs, H p = some (.dK kvs) ∧ k = !kvs.isEmpty := e
    rcases e' with ⟨xs, hx, e'⟩ | ⟨xs, hx, e'⟩ | ⟨kvs, hx, e'⟩
    · subst e'
      obtain ⟨its, r, pl, hz⟩ := I.list hx
      have hlen := r.length
      exact wpAny_truthy_list pl.isList (by simp only [List.size_toArray]; omega) ⟨H, I.tok _, by rw [isEmpty_of r]; exact q⟩
    · subst e'
      obtain ⟨its, r, pl, hz⟩ := I.tuple hx
      have hlen := r.length
      exact truthy_tuple pl (by simp only [List.size_toArray]; omega) ⟨H, I.tok _, by rw [isEmpty_of r]; exact q⟩
    · subst e'
      obtain ⟨hz, hS, vs, r, m⟩ : kvs.length ≤ sizeLine ∧ (p == sysModules) = false ∧ ∃ vs, KV kvs vs ∧ s.heap.DictOf (mixKind X.prog X.w) p vs := I.hok p _ hx
      have hlen : kvs.length = vs.length := Paired.length r
      exact wpAny_truthy_dict hS m (by omega) ⟨H, I.tok _, by rw [isEmpty_kv r]; exact q⟩
  | _ => exact (show False from e).elim
/-- any expression whose test is its value's truth (a name, a call, a subscript, a field ..: he by fun _ => rfl) -/
theorem pt_truth (ha : PE X a ta) (he : ∀ whole, isTrue a X.env whole = (do let v ← whole; standAt a.pos; holding [v] (truthy v))) :
    PT X a (fun σ H Q => ta σ H fun x H' => ∃ k, TruV X.K x H' k ∧ Q k H') := by
  intro pins s σ H Q I h
  exact isTrue_plain (thn (ha pins s σ H _ I h) fun v s1 ⟨x, H1, I1, r1, q1⟩ => tru_ok pins s1 σ H1 x v Q I1 r1 q1) (he _)

/-! ### strs and bytes -/
theorem pe_byt {x : List UInt8} {k : Nat} : PE X (.Constant (.bytes x) k pos) (fun _ H Q => Q (.byt x.toArray) H) := fun _ _ _ H _ I h => PySem.W.Constant_bytes ⟨.byt x.toArray, H, I.tok _, ⟨_, rfl⟩, h⟩
theorem op_add_str : OpR X (binaryOp .Add) (fun x y H Q => ∃ i j, x = .str i ∧ y = .str j ∧ i.length + j.length ≤ sizeLine ∧ Q (.str (i ++ j)) H) := by
  intro pins s σ H x y v u Q I rx ry h
  obtain ⟨i, j, rfl, rfl, hz, q⟩ := h
  obtain ⟨t, rfl⟩ := rx
  obtain ⟨t', rfl⟩ := ry
  exact add_str (fun t' tk => ⟨.str (i ++ j), H, I.tok _, ⟨_, rfl⟩, q⟩) hz
theorem iop_add_str : OpR X (inplaceOp .Add) (fun x y H Q => ∃ i j, x = .str i ∧ y = .str j ∧ i.length + j.length ≤ sizeLine ∧ Q (.str (i ++ j)) H) := by
  intro pins s σ H x y v u Q I rx ry h
  obtain ⟨i, j, rfl, rfl, hz, q⟩ := h
  obtain ⟨t, rfl⟩ := rx
  obtain ⟨t', rfl⟩ := ry
  exact iadd_str (fun t' tk => ⟨.str (i ++ j), H, I.tok _, ⟨_, rfl⟩, q⟩) hz
theorem op_add_byt : OpR X (binaryOp .Add) (fun x y H Q => ∃ i j, x = .byt i ∧ y = .byt j ∧ i.size + j.size ≤ 16777216 ∧ Q (.byt (i ++ j)) H) := by
  intro pins s σ H x y v u Q I rx ry h
  obtain ⟨i, j, rfl, rfl, hz, q⟩ := h
  obtain ⟨t, rfl⟩ := rx
  obtain ⟨t', rfl⟩ := ry
  exact PySem.W.KBy.add_bytes hz (fun t' tk => ⟨.byt (i ++ j), H, I.tok _, ⟨_, rfl⟩, q⟩)

def PlainIxT (b : Expr) : Prop := ∀ o i, subscripted b false o i = operate [o, i] (getItem o i)
/-- s[i], 0 ≤ i < len -/
theorem pe_item_str (ha : PE X a ta) (hb : PE X b tb) (hs : PlainIxT b) :
    PE X (.Subscript a b pos) (tOp (fun x y H Q => ∃ z i c, x = .str z ∧ y = .int i ∧ 0 ≤ i ∧ i < 2 ^ 63 ∧ i < z.length ∧ z.cps[i.toNat]? = some c ∧ Q (.str ⟨#[c]⟩) H) ta tb) := by
  intro pins s σ H Q I h
  refine Subscript_ (binT ha hb I h fun v u s2 x y H2 I2 rx ry q => ?_)
  obtain ⟨z, i, c, rfl, rfl, h0, h63, h1, hc, q⟩ := q
  obtain ⟨t, rfl⟩ := rx
  obtain ⟨t', rfl⟩ := ry
  have e : seqIndex? i z.length = some i.toNat := PySem.StrLaws.seqIndex_nonneg h0 h1
  exact tail_any (typeIs_str s2 z t) slot_str_getitem.lookup (getItem_str (c := c) (by
    have e1 : decide (i < -(2 ^ 63 : Int)) = false := decide_eq_false (by omega)
    have e2 : decide (i ≥ 2 ^ 63) = false := decide_eq_false (by omega)
    rw [e1, e2] <;> rfl) (by rw [e]; exact hc) ⟨.str ⟨#[c]⟩, H2, I2.tok _, ⟨_, rfl⟩, q⟩) (hs _ _)
/-- b[i], 0 ≤ i < len -/
theorem pe_item_byt (ha : PE X a ta) (hb : PE X b tb) (hs : PlainIxT b) :
    PE X (.Subscript a b pos) (tOp (fun x y H Q => ∃ (z : List UInt8) (i : Int), x = .byt z.toArray ∧ y = .int i ∧ z.length ≤ sizeLine ∧ 0 ≤ i ∧ i < z.length ∧ Q (.int ((z.getD i.toNat 0).toNat : Nat)) H) ta tb) := by
  intro pins s σ H Q I h
  refine Subscript_ (binT ha hb I h fun v u s2 x y H2 I2 rx ry q => ?_)
  obtain ⟨z, i, rfl, rfl, hz, h0, h1, q⟩ := q
  obtain ⟨t, rfl⟩ := rx
  obtain ⟨t', rfl⟩ := ry
  have hl : sizeLine = 16777216 := sizeLine_eq
  exact tail_any (PySem.W.typeIs_bytes s2 z.toArray t) PySem.W.FB.slot_bytes_getitem.lookup (PySem.W.getItem_bytes (by omega) h0 h1 ⟨.int ((z.getD i.toNat 0).toNat : Nat), H2, I2.tok _, ⟨_, rfl⟩, q⟩) (hs _ _)

/-! ### scalar builtins, by CallR -/
theorem vals1 {x : V} {us : List Value} (r : Vals [x] us) : ∃ u, us = [u] ∧ RelV x u := by
  cases r with
  | cons r1 r2 => cases r2; exact ⟨_, rfl, r1⟩
theorem vals2 {x y : V} {us : List Value} (r : Vals [x, y] us) : ∃ u w', us = [u, w'] ∧ RelV x u ∧ RelV y w' := by
  cases r with
  | cons r1 r2 =>
    cases r2 with
    | cons r3 r4 => cases r4; exact ⟨_, _, rfl, r1, r3⟩
theorem call_abs : CallR X (.builtin "abs") (fun xs H Q => ∃ i, xs = [.int i] ∧ Q (.int (if i < 0 then -i else i)) H) := by
  intro pins s σ H xs us Q I r h
  obtain ⟨i, rfl, q⟩ := h
  obtain ⟨u, rfl, t, rfl⟩ := vals1 r
  exact call_abs_int fun u tk => ⟨.int (if i < 0 then -i else i), H, I.tok _, ⟨_, rfl⟩, q⟩
theorem call_max2 (hc : X.calm = true) : CallR X (.builtin "max") (fun xs H Q => ∃ i j, xs = [.int i, .int j] ∧ Q (.int (if j > i then j else i)) H) := by
  intro pins s σ H xs us Q I r h
  obtain ⟨i, j, rfl, q⟩ := h
  obtain ⟨u, w', rfl, ⟨t, rfl⟩, ⟨t', rfl⟩⟩ := vals2 r
  refine max_two_ints (I.ok.hd hc) fun h' tk k => ⟨_, H, I.kept k, ?_, q⟩
  by_cases hj : j > i
  · rw [if_pos hj, if_pos hj]; exact ⟨_, rfl⟩
  · rw [if_neg hj, if_neg hj]; exact ⟨_, rfl⟩
theorem call_min2 (hc : X.calm = true) : CallR X (.builtin "min") (fun xs H Q => ∃ i j, xs = [.int i, .int j] ∧ Q (.int (if j < i then j else i)) H) := by
  intro pins s σ H xs us Q I r h
  obtain ⟨i, j, rfl, q⟩ := h
  obtain ⟨u, w', rfl, ⟨t, rfl⟩, ⟨t', rfl⟩⟩ := vals2 r
  refine min_two_ints (I.ok.hd hc) fun h' tk k => ⟨_, H, I.kept k, ?_, q⟩
  by_cases hj : j < i
  · rw [if_pos hj, if_pos hj]; exact ⟨_, rfl⟩
  · rw [if_neg hj, if_neg hj]; exact ⟨_, rfl⟩
theorem call_int1 : CallR X (.type "int") (fun xs H Q => (∃ i, xs = [.int i] ∧ Q (.int i) H) ∨ ∃ k, xs = [.bl k] ∧ Q (.int (if k then 1 else 0)) H) := by
  intro pins s σ H xs us Q I r h
  rcases h with ⟨i, rfl, q⟩ | ⟨k, rfl, q⟩
  · obtain ⟨u, rfl, t, rfl⟩ := vals1 r
    exact call_int_int ⟨.int i, H, I, ⟨_, rfl⟩, q⟩
  · obtain ⟨u, rfl, r1⟩ := vals1 r
    cases r1
    exact call_int_bool ⟨.int (if k then 1 else 0), H, I.tok _, ⟨_, rfl⟩, q⟩
theorem call_bool1 : CallR X (.type "bool") (fun xs H Q => (∃ i, xs = [.int i] ∧ Q (.bl (i != 0)) H) ∨ ∃ k, xs = [.bl k] ∧ Q (.bl k) H) := by
  intro pins s σ H xs us Q I r h
  rcases h with ⟨i, rfl, q⟩ | ⟨k, rfl, q⟩
  · obtain ⟨u, rfl, t, rfl⟩ := vals1 r
    exact call_bool_int ⟨.bl (i != 0), H, I, rfl, q⟩
  · obtain ⟨u, rfl, r1⟩ := vals1 r
    cases r1
    exact call_bool_bool ⟨.bl k, H, I, rfl, q⟩
theorem call_str_int : CallR X (.type "str") (fun xs H Q => ∃ i, xs = [.int i] ∧ i.natAbs.log2 < 1920 ∧ Q (.str (toString i)) H) := by
  intro pins s σ H xs us Q I r h
  obtain ⟨i, rfl, hz, q⟩ := h
  obtain ⟨u, rfl, t, rfl⟩ := vals1 r
  exact PySem.P.str_of_int hz ⟨.str _, H, I.tok _, ⟨_, rfl⟩, q⟩
theorem call_ord : CallR X (.builtin "ord") (fun xs H Q => ∃ x, xs = [.str x] ∧ x.length = 1 ∧ Q (.int (x.cps.getD 0 0 : Nat)) H) := by
  intro pins s σ H xs us Q I r h
  obtain ⟨x, rfl, hz, q⟩ := h
  obtain ⟨u, rfl, t, rfl⟩ := vals1 r
  exact ord_of_one hz ⟨.int _, H, I.tok _, ⟨_, rfl⟩, q⟩
theorem call_chr : CallR X (.builtin "chr") (fun xs H Q => ∃ i, xs = [.int i] ∧ 0 ≤ i ∧ i ≤ 1114111 ∧ Q (.str ⟨#[i.toNat]⟩) H) := by
  intro pins s σ H xs us Q I r h
  obtain ⟨i, rfl, h0, h1, q⟩ := h
  obtain ⟨u, rfl, t, rfl⟩ := vals1 r
  exact chr_of_range h0 h1 ⟨.str _, H, I.tok _, ⟨_, rfl⟩, q⟩
/-- len of a str, a bytes, a list, a tuple -/
def LenV (K : PySem.W.Frag) (x : V) (H : Hp) (n : Nat) : Prop :=
  match x with
  | .str y => y.length ≤ sizeLine ∧ n = y.length
  | .byt y => y.size ≤ sizeLine ∧ n = y.size
  | .ref p => (∃ xs, SqL K H p xs ∧ n = xs.length) ∨ ∃ xs, SqT K H p xs ∧ n = xs.length
  | _ => False
theorem call_len : CallR X (.builtin "len") (fun xs H Q => ∃ x n, xs = [x] ∧ LenV X.K x H n ∧ Q (.int n) H) := by
  intro pins s σ H xs us Q I r h
  obtain ⟨x, n, rfl, e, q⟩ := h
  obtain ⟨u, rfl, rx⟩ := vals1 r
  have hl := line63
  have hs : sizeLine = 16777216 := sizeLine_eq
  cases x with
  | str y =>
    obtain ⟨t, rfl⟩ := rx
    obtain ⟨hy, e'⟩ : y.length ≤ sizeLine ∧ n = y.length := e
    subst e'
    exact len_str (by omega) ⟨.int _, H, I.tok _, ⟨_, rfl⟩, q⟩
  | byt y =>
    obtain ⟨t, rfl⟩ := rx
    obtain ⟨hy, e'⟩ : y.size ≤ sizeLine ∧ n = y.size := e
    subst e'
    exact PySem.W.len_bytes (by omega) ⟨.int _, H, I.tok _, ⟨_, rfl⟩, q⟩
  | ref p =>
    cases rx
    have e' : (∃ xs, SqL X.K H p xs ∧ n = xs.length) ∨ ∃ xs, SqT X.K H p xs ∧ n = xs.length := e
    rcases e' with ⟨xs, hx, e'⟩ | ⟨xs, hx, e'⟩
    · subst e'
      obtain ⟨its, r', pl, hz⟩ := I.list hx
      have hlen := r'.length
      exact Calls.call_len_list pl.isList (by simp only [List.size_toArray]; omega) ⟨.int xs.length, H, I.tok _, ⟨_, by simp only [List.size_toArray]; rw [hlen]⟩, q⟩
    · subst e'
      obtain ⟨its, r', pl, hz⟩ := I.tuple hx
      have hlen := r'.length
      exact len_tuple pl (by simp only [List.size_toArray]; omega) ⟨.int xs.length, H, I.tok _, ⟨_, by simp only [List.size_toArray]; rw [hlen]⟩, q⟩
  | _ => exact (show False from e).elim
/-- divmod: a new tuple -/
theorem call_divmod : CallR X (.builtin "divmod") (fun xs H Q => ∃ i j, xs = [.int i, .int j] ∧ CDiv i j ∧ ∀ p, H p = none → Q (.ref p) (upd H p (.tup [.int (i / j), .int (i % j)]))) := by
  intro pins s σ H xs us Q I r h
  obtain ⟨i, j, rfl, ⟨h1, h2⟩, q⟩ := h
  obtain ⟨u, w', rfl, ⟨t, rfl⟩, ⟨t', rfl⟩⟩ := vals2 r
  refine divmod_int (by omega) ?_ (.inl (PyProof.noPylong_small (by omega)))
  rw [Int.fdiv_eq_ediv_of_nonneg i (by omega), Int.fmod_eq_emod_of_nonneg i (by omega)]
  have hn : H s.heap.objs.size = none := I.hok.fresh (Nat.le_refl _)
  refine ⟨.ref s.heap.objs.size, _, ?_, rfl, q _ hn⟩
  refine I.laid (fun b o e => Heap.get?_push_of_some _ e) (Nat.le_refl _) ⟨by simp only [List.length_cons, List.length_nil]; rw [sizeLine_eq]; decide, [.int (i / j) s.toks, .int (i % j) (s.toks + 1)], .cons ⟨_, rfl⟩ (.cons ⟨_, rfl⟩ .nil), ?_⟩
  exact ⟨_, Heap.get?_push_size s.heap rfl, rfl, 0, rfl⟩
end
end L2

namespace L2
open PySem PySem.Spec PyProof.Rows

/-! ### an instance, its attributes a map -/
structure ObjM (h : Heap) (x dx C : Addr) (mA : Str → Option Value) : Prop where
  obj : h.get? x = some (PySem.W.instObj C dx)
  ns : h.Ns1 dx mA
  ne : dx ≠ x

theorem lookIn_ns {h : Heap} {dx : Addr} {mA : Str → Option Value} (n : h.Ns1 dx mA) : ∃ od, h.get? dx = some od ∧ ∀ name, PySem.W.lookIn name od = some (mA name) := by
  obtain ⟨o, es, ep, ho, hd, hk, _, hm⟩ := n
  refine ⟨o, ho, fun name => ?_⟩
  have e := hm name
  unfold nsFind findBy at e
  rw [← Array.find?_toList] at e
  unfold PySem.W.lookIn
  rw [hd]
  dsimp only
  split
  · rename_i y q
    rw [q] at e
    exact congrArg some e
  · rename_i q
    rw [q] at e
    have a : es.toList.any (·.refKey) = false := by
      rw [List.any_eq_false]
      intro y hy
      obtain ⟨z, t, hkey⟩ := hk y (Array.mem_toList_iff.mp hy)
      simp [DictEntry.refKey, hkey]
    have a' : ¬ es.toList.any (·.refKey) = true := by rw [a]; exact Bool.false_ne_true
    rw [if_neg a']
    exact congrArg some e

theorem ObjM.look {h : Heap} {x dx C : Addr} {mA : Str → Option Value} (I : ObjM h x dx C mA) : ∃ od, PySem.W.InstAt h x (PySem.W.instObj C dx) C (some od) ∧ ∀ name, PySem.W.lookIn name od = some (mA name) :=
  let ⟨od, ho, hl⟩ := lookIn_ns I.ns
  ⟨od, ⟨I.obj, rfl, rfl, ho⟩, hl⟩

section
variable {prog : Program} {w : World} {A : Around} {E : Value → Shared → Prop} {s : Shared} {K : PySem.W.Frag} {x dx C f : Addr} {mA : Str → Option Value} {name : Str} {v : Value}

theorem get_map {expr : Bool} {Q : Value → Shared → Prop} (X : K.In s.heap) (I : ObjM s.heap x dx C mA) (hg : PySem.W.plainGet K C name = true) (hh : PySem.W.hasDictIn K C = true)
    (ha : PySem.W.findIn K (.ref C) name = some none) (hv : mA name = some v) (hv' : PySem.W.handedIn v = true) (h : Q v { s with toks := s.toks + 1 }) :
    wpAny (model prog w) A (getAttr (.ref x) name expr) Q E s := by
  obtain ⟨od, J, hl⟩ := I.look
  exact PySem.W.get_value X J (PySem.W.plainGet_of hg).1 (PySem.W.findObj_own hh ha rfl (by rw [hl, hv])) hv' h

theorem get_const {expr : Bool} {a : Value} {Q : Value → Shared → Prop} (X : K.In s.heap) (I : ObjM s.heap x dx C mA) (hg : PySem.W.plainGet K C name = true) (hh : PySem.W.hasDictIn K C = true)
    (ha : PySem.W.findIn K (.ref C) name = some (some a)) (hn : PySem.W.specialIn K a "__get__" = some none) (hc : PySem.W.copiedNames.contains name = false) (hv : mA name = none) (hv' : PySem.W.handedIn a = true)
    (h : Q a { s with toks := s.toks + 1 }) : wpAny (model prog w) A (getAttr (.ref x) name expr) Q E s := by
  obtain ⟨od, J, hl⟩ := I.look
  exact PySem.W.get_value X J (PySem.W.plainGet_of hg).1 (PySem.W.findObj_cls hh ha hn hv' hc (by rw [hl, hv])) hv' h

theorem get_meth {pl : Sem Bool} {Q : Value × List Value → Shared → Prop} (X : K.In s.heap) (I : ObjM s.heap x dx C mA) (hg : PySem.W.plainGet K C name = true)
    (hf : PySem.W.findIn K (.ref C) name = some (some (.ref f))) (ht : PySem.W.isFn K (.ref f) = true) (hv : mA name = none) (h : Q (.ref f, [.ref x]) s) :
    wpAny (model prog w) A (getMethod (.ref x) name pl) Q E s := by
  obtain ⟨od, J, hl⟩ := I.look
  exact PySem.W.method_fn X J (PySem.W.plainGet_of hg).1 (PySem.W.plainGet_of hg).2 hf (beq_iff_eq.mp ht) (by show (PySem.W.lookIn name od).map (·.isSome) = some false; rw [hl, hv]; rfl) h

theorem set_map {ns : List Str} {Q : Unit → Shared → Prop} (X : K.In s.heap) (I : ObjM s.heap x dx C mA)
    (hs : PySem.W.findIn K (.ref C) "__setattr__" = some (some (.builtin "object.__setattr__"))) (hp : PySem.W.plainOver K C = true) (ht : PySem.W.takerIn K C name = some none) (hh : PySem.W.hasDictIn K C = true)
    (hw : PySem.Within mA ns) (hsz : ns.length ≤ sizeLine)
    (h : ∀ h', ObjM h' x dx C (fun y => if y = name then some v else mA y) → Heap.SameBut dx s.heap h' → Q () { s with heap := h', toks := s.toks + 2 }) :
    wpAny (model prog w) A (setAttr (.ref x) name v) Q E s := by
  obtain ⟨od, J, hl⟩ := I.look
  refine PySem.W.set_plain X J hs (PySem.W.osa_open (s := { s with toks := s.toks + 1 }) (r := none) X J hp ht fun b => ?_)
  obtain ⟨cd, hc, hd'⟩ := PySem.W.any_some hh
  have hx : s.heap.get? x = some ⟨.ref C, some dx, .plain, #[]⟩ := I.obj
  refine wpAny_bind (wpAny_pure (wpAny_bind (wpAny_bind (wpAny_loadPart hx (wpAny_bind (PySem.W.Looks.here (s := { s with toks := s.toks + 1 }) (PySem.W.looks_clsIn X hc) ?_))))))
  rw [hd']
  refine wpAny_pure (a := some dx) (wpAny_bind (wpAny_pure (wpAny_bind ?_)))
  refine wpAny_nsSet1 (s := { s with toks := s.toks + 1 }) I.ns fun h' hn2 hs2 => ?_
  obtain ⟨oD, esD, epD, hoD, hdD, hcD⟩ := hn2.count (PySem.Within.cons name v hw)
  refine wpAny_bind (wpAny_lookBehind hoD (by rw [hdD]; exact pastItsLine_dict (Nat.le_trans hcD (by rw [List.length_cons]; omega))) ?_)
  exact wpAny_pure (h _ ⟨(hs2.2 _ (Ne.symm I.ne)).trans I.obj, hn2, I.ne⟩ hs2)

/-- C(..): the dict at the heap's end, the instance behind it; then its __init__ -/
theorem make_map {R : Result → Shared → Prop} {vs : List Value} {kw : List (Str × Value)} (X : K.In s.heap) (hm : PySem.W.makesIn K C = true)
    (hi : PySem.W.findIn K (.ref C) "__init__" = some (some (.ref f))) (hf : PySem.W.typeIn K (.ref f) = some (.type "function"))
    (h : codeAny (model prog w) (A.under (.builtin "type.__call__" ⟨.ref C :: vs, kw⟩)) (.call (.ref f) ⟨.ref (s.heap.objs.size + 1) :: vs, kw⟩) (PySem.W.InitBack (s.heap.objs.size + 1) R)
      { s with heap := (s.heap.push PySem.W.emptyDict).push (PySem.W.instObj C s.heap.objs.size) }) :
    codeAny (model prog w) A (.call (.ref C) ⟨vs, kw⟩) R s := by
  obtain ⟨hh, g, d, t, os⟩ := s
  exact PySem.W.make_core (PySem.W.makes_of X hm) (PySem.W.looks_findIn X hi) (fun self => PySem.W.bind_fn X self hf) (.inl rfl) h
/-- C() where there is no __init__ but object's -/
theorem make_map0 {R : Result → Shared → Prop} (X : K.In s.heap) (hm : PySem.W.makesIn K C = true)
    (hi : PySem.W.findIn K (.ref C) "__init__" = some (some (.builtin "object.__init__")))
    (hb : ∀ self, PySem.W.Looks (model prog w) s.heap (bindSpecial (.builtin "object.__init__") self) (.builtin "object.__init__", [self]))
    (h : codeAny (model prog w) (A.under (.builtin "type.__call__" ⟨[.ref C], []⟩)) (.call (.builtin "object.__init__") ⟨[.ref (s.heap.objs.size + 1)], []⟩) (PySem.W.InitBack (s.heap.objs.size + 1) R)
      { s with heap := (s.heap.push PySem.W.emptyDict).push (PySem.W.instObj C s.heap.objs.size) }) :
    codeAny (model prog w) A (.call (.ref C) ⟨[], []⟩) R s := by
  obtain ⟨hh, g, d, t, os⟩ := s
  exact PySem.W.make_core (PySem.W.makes_of X hm) (PySem.W.looks_findIn X hi) hb (.inr ⟨rfl, rfl⟩) h
end

/-! ### the attributes as a list of pairs -/
def putF (f : Str) (v : V) : List (Str × V) → List (Str × V)
  | [] => [(f, v)]
  | (g, x) :: r => if g = f then (g, v) :: r else (g, x) :: putF f v r
theorem lookup_putF (f g : Str) (v : V) : ∀ fs : List (Str × V), (putF f v fs).lookup g = if g = f then some v else fs.lookup g
  | [] => by
    show List.lookup g [(f, v)] = _
    by_cases h : g = f
    · have hb : (g == f) = true := beq_iff_eq.mpr h
      simp only [List.lookup, hb, if_pos h]
    · have hb : (g == f) = false := beq_eq_false_iff_ne.mpr h
      simp only [List.lookup, hb, if_neg h]
  | (k, x) :: r => by
    have ih := lookup_putF f g v r
    rw [show putF f v ((k, x) :: r) = (if k = f then (k, v) :: r else (k, x) :: putF f v r) from rfl]
    by_cases hk : k = f
    · rw [if_pos hk]
      by_cases h : g = k
      · have hb : (g == k) = true := beq_iff_eq.mpr h
        simp only [List.lookup, hb, if_pos (h.trans hk)]
      · have hb : (g == k) = false := beq_eq_false_iff_ne.mpr h
        simp only [List.lookup, hb, if_neg (fun e : g = f => h (e.trans hk.symm))]
    · rw [if_neg hk]
      by_cases h : g = k
      · have hb : (g == k) = true := beq_iff_eq.mpr h
        simp only [List.lookup, hb, if_neg (fun e : g = f => hk (h.symm.trans e))]
      · have hb : (g == k) = false := beq_eq_false_iff_ne.mpr h
        simp only [List.lookup, hb]
        exact ih
theorem keys_putF (f : Str) (v : V) : ∀ fs : List (Str × V), f ∈ (putF f v fs).map (·.1) ∧ ∀ g, g ∈ fs.map (·.1) → g ∈ (putF f v fs).map (·.1)
  | [] => ⟨by simp [putF], fun g h => by simp at h⟩
  | (k, x) :: r => by
    obtain ⟨i1, i2⟩ := keys_putF f v r
    rw [show putF f v ((k, x) :: r) = (if k = f then (k, v) :: r else (k, x) :: putF f v r) from rfl]
    by_cases hk : k = f
    · rw [if_pos hk]
      subst hk
      exact ⟨by simp, fun g h => by simpa using h⟩
    · rw [if_neg hk]
      refine ⟨?_, fun g h => ?_⟩
      · rw [List.map_cons]
        exact List.mem_cons_of_mem _ i1
      · rw [List.map_cons] at h ⊢
        rcases List.mem_cons.mp h with e | e
        · exact List.mem_cons.mpr (.inl e)
        · exact List.mem_cons_of_mem _ (i2 g e)
theorem length_putF (f : Str) (v : V) : ∀ fs : List (Str × V), (putF f v fs).length ≤ fs.length + 1
  | [] => by simp [putF]
  | (k, x) :: r => by
    have ih := length_putF f v r
    rw [show putF f v ((k, x) :: r) = (if k = f then (k, v) :: r else (k, x) :: putF f v r) from rfl]
    by_cases hk : k = f
    · rw [if_pos hk, List.length_cons, List.length_cons]; omega
    · rw [if_neg hk, List.length_cons, List.length_cons]; omega

theorem RelO.some_of {v : V} {o : Option Value} (r : RelO (some v) o) : ∃ u, o = some u ∧ RelV v u := by
  cases o with
  | none => exact (show False from r).elim
  | some u => exact ⟨u, rfl, r⟩
theorem RelO.none_of {o : Option Value} (r : RelO none o) : o = none := by
  cases o with
  | none => rfl
  | some u => exact (show False from r).elim
theorem handed_of {v : V} {u : Value} (r : RelV v u) : PySem.W.handedIn u = true := by
  cases v with
  | non => cases (show u = Value.none from r); rfl
  | bl b => cases (show u = Value.bool b from r); rfl
  | int i => obtain ⟨t, e⟩ := (show ∃ t, u = Value.int i t from r); cases e; rfl
  | str x => obtain ⟨t, e⟩ := (show ∃ t, u = Value.str x t from r); cases e; rfl
  | byt b => obtain ⟨t, e⟩ := (show ∃ t, u = Value.bytes b t from r); cases e; rfl
  | flt b => obtain ⟨t, e⟩ := (show ∃ t, u = Value.float b t from r); cases e; rfl
  | ref a => cases (show u = Value.ref a from r); rfl
  | ty n => cases (show u = Value.type n from r); rfl

section
variable {P : Program} {w : World} {H H' : Hp} {h h' : Heap} {a C dx : Addr} {fs fs' : List (Str × V)}
theorem ins_get (hok : HOk P w H h) (e : H a = some (.ins C dx fs)) : ∃ mA, ObjM h a dx C mA ∧ (∀ f, RelO (fs.lookup f) (mA f)) ∧ PySem.Within mA (fs.map (·.1)) ∧ fs.length ≤ 1000 ∧ H dx = some (.own a) := by
  obtain ⟨d, z, ne, ob, mA, n, r, q⟩ := (show ObjOk P w H h a (.ins C dx fs) from hok a _ e)
  exact ⟨mA, ⟨ob, n, ne⟩, r, q, z, d⟩
end

/-! ### what of the text a class must have -/
structure Cls (K : PySem.W.Frag) (C : Addr) : Prop where
  pg : PySem.W.plainGet K C Str.empty = true
  hd : PySem.W.hasDictIn K C = true
  po : PySem.W.plainOver K C = true
  sa : PySem.W.findIn K (.ref C) "__setattr__" = some (some (.builtin "object.__setattr__"))
theorem Cls.get {K : PySem.W.Frag} {C : Addr} (c : Cls K C) (f : Str) : PySem.W.plainGet K C f = true := c.pg
/-- no class of it has the name -/
def NoAttr (K : PySem.W.Frag) (C : Addr) (f : Str) : Prop := PySem.W.findIn K (.ref C) f = some none
theorem NoAttr.taker {K : PySem.W.Frag} {C : Addr} {f : Str} (n : NoAttr K C f) : PySem.W.takerIn K C f = some none := by
  unfold PySem.W.takerIn
  rw [show PySem.W.findIn K (.ref C) f = some none from n]
  rfl
/-- a constant of the class -/
structure Con (K : PySem.W.Frag) (C : Addr) (f : Str) (v : V) (u : Value) : Prop where
  at_ : PySem.W.findIn K (.ref C) f = some (some u)
  rel : RelV v u
  get : PySem.W.specialIn K u "__get__" = some none
  cp : PySem.W.copiedNames.contains f = false
/-- a method: a plain def of the class or of one above it -/
structure Meth (K : PySem.W.Frag) (C : Addr) (m : Str) (f : Addr) : Prop where
  at_ : PySem.W.findIn K (.ref C) m = some (some (.ref f))
  fn : PySem.W.isFn K (.ref f) = true
  kp : PySem.W.keepIn K (.ref f) = true

section
variable {X : Cx} {pins : List (Addr × Obj)} {σ : St} {H : Hp} {s : Shared} {a C dx : Addr} {fs : List (Str × V)} {f : Str} {v : V} {A : Around} {E : Value → Shared → Prop}

theorem getattr_ok {b : Bool} {Q : Value → Shared → Prop} (I : Inv X pins σ H s) (e : H a = some (.ins C dx fs)) (c : Cls X.K C) (n : NoAttr X.K C f) (l : fs.lookup f = some v)
    (h : ∀ u s', Inv X pins σ H s' → RelV v u → Q u s') : wpAny (model X.prog X.w) A (getAttr (.ref a) f b) Q E s := by
  obtain ⟨mA, O, r, _, _, _⟩ := ins_get I.hok e
  obtain ⟨u, hu, ru⟩ := RelO.some_of (v := v) (o := mA f) (by rw [← l]; exact r f)
  exact get_map I.kIn O (c.get f) c.hd n hu (handed_of ru) (h u _ (I.tok _) ru)

theorem getcon_ok {b : Bool} {u : Value} {Q : Value → Shared → Prop} (I : Inv X pins σ H s) (e : H a = some (.ins C dx fs)) (c : Cls X.K C) (k : Con X.K C f v u) (l : fs.lookup f = none)
    (h : ∀ s', Inv X pins σ H s' → Q u s') : wpAny (model X.prog X.w) A (getAttr (.ref a) f b) Q E s := by
  obtain ⟨mA, O, r, _, _, _⟩ := ins_get I.hok e
  have hn : mA f = none := RelO.none_of (by rw [← l]; exact r f)
  exact get_const I.kIn O (c.get f) c.hd k.at_ k.get k.cp hn (handed_of k.rel) (h _ (I.tok _))

theorem getmeth_ok {m : Str} {g : Addr} {pl : Sem Bool} {Q : Value × List Value → Shared → Prop} (I : Inv X pins σ H s) (e : H a = some (.ins C dx fs)) (c : Cls X.K C) (k : Meth X.K C m g) (l : fs.lookup m = none)
    (h : Q (.ref g, [.ref a]) s) : wpAny (model X.prog X.w) A (getMethod (.ref a) m pl) Q E s := by
  obtain ⟨mA, O, r, _, _, _⟩ := ins_get I.hok e
  have hn : mA m = none := RelO.none_of (by rw [← l]; exact r m)
  exact get_meth I.kIn O (c.get m) k.at_ k.fn hn h

theorem setattr_ok {y : V} {u : Value} {Q : Unit → Shared → Prop} (I : Inv X pins σ H s) (e : H a = some (.ins C dx fs)) (c : Cls X.K C) (n : NoAttr X.K C f) (hl : fs.length < 1000) (ry : RelV y u)
    (h : ∀ s', Inv X pins σ (upd H a (.ins C dx (putF f y fs))) s' → Q () s') : wpAny (model X.prog X.w) A (setAttr (.ref a) f u) Q E s := by
  obtain ⟨mA, O, r, wi, _, ho⟩ := ins_get I.hok e
  have hz : (fs.map (·.1)).length ≤ sizeLine := by rw [List.length_map, sizeLine_eq]; omega
  refine set_map I.kIn O c.sa c.po n.taker c.hd wi hz fun h' O' sb => h _ ?_
  have hd : ∃ o, h'.get? dx = some o := let ⟨o, _, _, e', _⟩ := O'.ns; ⟨o, e'⟩
  refine I.write (x := a) (e := dx) (by rw [e]; exact True.intro) (.inr ho) (fun b q hb z => (sb.2 b hb).trans z) hd ?_
  refine ⟨by rw [upd_ne O.ne]; exact ho, ?_, O.ne, O'.obj, _, O'.ns, fun g => ?_, fun g hg => ?_⟩
  · have := length_putF f y fs; omega
  · show RelO ((putF f y fs).lookup g) (if g = f then some u else mA g)
    rw [lookup_putF]
    by_cases q : g = f
    · rw [if_pos q, if_pos q]; exact ry
    · rw [if_neg q, if_neg q]; exact r g
  · by_cases q : g = f
    · rw [q]; exact (keys_putF f y fs).1
    · refine (keys_putF f y fs).2 g (wi g fun z => hg ?_)
      show (if g = f then some u else mA g) = none
      rw [if_neg q]; exact z

/-- a new instance, tracked, without attributes -/
theorem Inv.made (I : Inv X pins σ H s) : Inv X pins σ (upd (upd H s.heap.objs.size (.own (s.heap.objs.size + 1))) (s.heap.objs.size + 1) (.ins C s.heap.objs.size []))
    { s with heap := (s.heap.push PySem.W.emptyDict).push (PySem.W.instObj C s.heap.objs.size) } := by
  have e1 : (s.heap.push PySem.W.emptyDict).get? s.heap.objs.size = some PySem.W.emptyDict := Heap.get?_push_size s.heap rfl
  have e2 : ((s.heap.push PySem.W.emptyDict).push (PySem.W.instObj C s.heap.objs.size)).get? (s.heap.objs.size + 1) = some (PySem.W.instObj C s.heap.objs.size) := by
    have := Heap.get?_push_size (s.heap.push PySem.W.emptyDict) (o := PySem.W.instObj C s.heap.objs.size) rfl
    rwa [Heap.size_push] at this
  have e3 : (s.heap.push PySem.W.emptyDict).Ns s.heap.objs.size (fun _ => none) := ⟨PySem.W.emptyDict, #[], _, e1, rfl, (fun e he => absurd he (by simp)), fun _ => rfl⟩
  have I1 := I.laid (a := s.heap.objs.size) (o := .own (s.heap.objs.size + 1)) (h' := s.heap.push PySem.W.emptyDict) (t' := s.toks) (fun b u q => Heap.get?_push_of_some _ q) (Nat.le_refl _) ⟨_, e1⟩
  refine I1.laid (a := s.heap.objs.size + 1) (o := .ins C s.heap.objs.size []) (t' := s.toks) (fun b u q => Heap.get?_push_of_some _ q) (Nat.le_of_eq (Heap.size_push _ _)) ?_
  have ne : s.heap.objs.size ≠ s.heap.objs.size + 1 := Nat.ne_of_lt (Nat.lt_succ_self _)
  refine ⟨by rw [upd_ne ne, upd_same], Nat.zero_le _, ne, e2, fun _ => none, (Heap.Ns1.of_empty e3).at fun o q => Heap.get?_push_of_some _ q, fun _ => True.intro, fun y hy => absurd rfl hy⟩

/-- e.f where nothing but the object is asked: through attributeBase (super) and the last hold -/
theorem attr_of {prog : Program} {w : World} {env : Env} {e : Expr} {f : Str} {pos : Pos} {s : Shared} {Q : Value → Shared → Prop} (hb : attributeBase e f env (eval e env) = eval e env)
    (h : wpAny (model prog w) A (eval e env) (fun o s₁ => wpAny (model prog w) A (getAttr o f true) Q E s₁) E s) : wpAny (model prog w) A (eval (.Attribute e f pos) env) Q E s :=
  Attribute_any_ h (by rw [arm_eval_Attribute, hb])
end

/-! ### readings and rules -/
/-- e.f, an attribute of the instance -/
def tFld (K : PySem.W.Frag) (ta : TE) (f : Str) : TE := fun σ H Q => ta σ H fun x H1 => ∃ a C dx fs v, x = .ref a ∧ H1 a = some (.ins C dx fs) ∧ Cls K C ∧ NoAttr K C f ∧ fs.lookup f = some v ∧ Q v H1
/-- e.f, a constant of the class -/
def tCon (K : PySem.W.Frag) (ta : TE) (f : Str) : TE := fun σ H Q => ta σ H fun x H1 => ∃ a C dx fs v u, x = .ref a ∧ H1 a = some (.ins C dx fs) ∧ Cls K C ∧ Con K C f v u ∧ fs.lookup f = none ∧ Q v H1
/-- e.f = value -/
def sFld (K : PySem.W.Frag) (ta tv : TE) (f : Str) : TS := fun D σ H => tv σ H fun y H1 => ta σ H1 fun x H2 => ∃ a C dx fs, x = .ref a ∧ H2 a = some (.ins C dx fs) ∧ Cls K C ∧ NoAttr K C f ∧ fs.length < 1000 ∧
  D.nx σ (upd H2 a (.ins C dx (putF f y fs)))
/-- an augmented operator on two values -/
def InOp (X : Cx) (op : Operator) (rd : V → V → Hp → VK → Prop) : Prop :=
  ∀ (pins : List (Addr × Obj)) (s : Shared) (σ : St) (H : Hp) (x y : V) (u v : Value) (Q : VK), Inv X pins σ H s → RelV x u → RelV y v → rd x y H Q → wpAny (model X.prog X.w) X.A (inplaceOp op u v) (EP X pins σ Q) X.xe s
/-- e.f op= value -/
def sFldAug (K : PySem.W.Frag) (ta tv : TE) (rd : V → V → Hp → VK → Prop) (f : Str) : TS := fun D σ H => ta σ H fun x H1 => ∃ a C dx fs v, x = .ref a ∧ H1 a = some (.ins C dx fs) ∧ Cls K C ∧ NoAttr K C f ∧ fs.lookup f = some v ∧
  tv σ H1 fun y H2 => rd v y H2 fun z H3 => ∃ dx' fs', H3 a = some (.ins C dx' fs') ∧ fs'.length < 1000 ∧ D.nx σ (upd H3 a (.ins C dx' (putF f z fs')))

section
variable {X : Cx} {o e value : Expr} {f : Str} {pos pos' tpos : Pos} {ta tv : TE}
theorem pe_fld (he : PE X e ta) (hb : attributeBase e f X.env (eval e X.env) = eval e X.env) : PE X (.Attribute e f pos) (tFld X.K ta f) := by
  intro pins s σ H Q I h
  refine attr_of hb (thn (he pins s σ H _ I h) fun u s1 ⟨x, H1, I1, rx, a, C, dx, fs, v, ex, ea, c, n, l, q⟩ => ?_)
  subst ex
  obtain rfl : u = Value.ref a := rx
  exact getattr_ok I1 ea c n l fun u' s2 I2 ru => ⟨v, H1, I2, ru, q⟩
theorem pe_con (he : PE X e ta) (hb : attributeBase e f X.env (eval e X.env) = eval e X.env) : PE X (.Attribute e f pos) (tCon X.K ta f) := by
  intro pins s σ H Q I h
  refine attr_of hb (thn (he pins s σ H _ I h) fun u s1 ⟨x, H1, I1, rx, a, C, dx, fs, v, u0, ex, ea, c, k, l, q⟩ => ?_)
  subst ex
  obtain rfl : u = Value.ref a := rx
  exact getcon_ok I1 ea c k l fun s2 I2 => ⟨v, H1, I2, k.rel, q⟩
theorem ps_fld (ha : PE X o ta) (hv : PE X value tv) (hs : swapsWith value (some (.Attribute o f pos')) pos.line X.env = pure false) : PS X (.Assign [.Attribute o f pos'] value pos) (sFld X.K ta tv f) := by
  intro pins s σ H D I h
  refine plainObj_wpAny_Assign_Attribute (thn (hv pins s σ H _ I h) fun u s1 ⟨y, H1, I1, ry, q⟩ => thn (ha pins s1 σ H1 _ I1 q) fun ov s2 ⟨x, H2, I2, rx, a, C, dx, fs, ex, ea, c, n, l, q2⟩ => ?_) hs
  subst ex
  obtain rfl : ov = Value.ref a := rx
  exact setattr_ok I2 ea c n l ry fun s3 I3 => ⟨σ, _, I3, q2⟩
theorem ps_fldaug {op : Operator} {rd : V → V → Hp → VK → Prop} (ha : PE X o ta) (hv : PE X value tv) (hop : InOp X op rd) : PS X (.AugAssign (.Attribute o f tpos) op value pos) (sFldAug X.K ta tv rd f) := by
  intro pins s σ H D I h
  refine wpAny_AugAssign_AttributeAny (thn (ha pins s σ H _ I h) fun ov s1 ⟨x, H1, I1, rx, a, C, dx, fs, v, ex, ea, c, n, l, q⟩ => ?_)
  subst ex
  obtain rfl : ov = Value.ref a := rx
  refine getattr_ok I1 ea c n l fun u s2 I2 ru => thn (hv pins s2 σ H1 _ I2 q) fun w3 s3 ⟨y, H2, I3, ry, q3⟩ => thn (hop pins s3 σ H2 v y u w3 _ I3 ru ry q3) fun w4 s4 ⟨z, H3, I4, rz, dx', fs', ea', l', q4⟩ => ?_
  exact setattr_ok I4 ea' c n l' rz fun s5 I5 => ⟨σ, _, I5, q4⟩
def rAdd : V → V → Hp → VK → Prop := fun x y H Q => ∃ i j, x = .int i ∧ y = .int j ∧ Q (.int (i + j)) H
def rSub : V → V → Hp → VK → Prop := fun x y H Q => ∃ i j, x = .int i ∧ y = .int j ∧ Q (.int (i - j)) H
theorem in_add : InOp X .Add rAdd := by
  rintro pins s σ H x y u v Q I rx ry ⟨i, j, rfl, rfl, q⟩
  obtain ⟨t, rfl⟩ := (show ∃ t, u = Value.int i t from rx)
  obtain ⟨t', rfl⟩ := (show ∃ t', v = Value.int j t' from ry)
  exact PyProof.Rows.iadd_int ⟨.int (i + j), H, I.tok _, ⟨_, rfl⟩, q⟩
theorem in_sub : InOp X .Sub rSub := by
  rintro pins s σ H x y u v Q I rx ry ⟨i, j, rfl, rfl, q⟩
  obtain ⟨t, rfl⟩ := (show ∃ t, u = Value.int i t from rx)
  obtain ⟨t', rfl⟩ := (show ∃ t', v = Value.int j t' from ry)
  exact PyProof.Rows.isub_int ⟨.int (i - j), H, I.tok _, ⟨_, rfl⟩, q⟩

/-- what is between an instance and its method: the tree of a method call -/
theorem methcall_of {pl : Sem Bool} {m : Str} {apos : Pos} {args : List Expr} {pins : List (Addr × Obj)} {s : Shared} {σ : St} {H : Hp} {Q : Value → Shared → Prop} {te : TE} (he : PE X e te) (I : Inv X pins σ H s)
    (h : te σ H fun x H1 => ∃ a C dx fs g, x = .ref a ∧ H1 a = some (.ins C dx fs) ∧ Cls X.K C ∧ Meth X.K C m g ∧ fs.lookup m = none ∧
      ∀ s1, Inv X pins σ H1 s1 → wpAny (model X.prog X.w) X.A (callWith pos (.ref g) [.ref a] (backTo pos (starEach args X.env)) (backToKw pos (keywordEach [] X.env))) Q X.xe s1)
    (ht : eval (.Call (.Attribute e m apos) args [] pos) X.env = (do
      let ov ← eval e X.env
      standAt apos.atName
      let (f, first) ← holding [ov] (getMethod ov m pl)
      callWith pos f first (backTo pos (starEach args X.env)) (backToKw pos (keywordEach [] X.env)))) :
    wpAny (model X.prog X.w) X.A (eval (.Call (.Attribute e m apos) args [] pos) X.env) Q X.xe s := by
  refine PySem.W.methodCall_KW (pl := pl) (thn (he pins s σ H _ I h) fun u s1 ⟨x, H1, I1, rx, a, C, dx, fs, g, ex, ea, c, k, l, q⟩ => ?_) ht
  subst ex
  obtain rfl : u = Value.ref a := rx
  exact getmeth_ok I1 ea c k l (q s1 I1)
end

/-! ### isinstance -/
section
variable {X : Cx} {pins : List (Addr × Obj)} {σ : St} {H : Hp} {s : Shared} {A : Around} {E : Value → Shared → Prop} {Q : Value → Shared → Prop} {c : Value} {b : Bool}
/-- the type of a value, as the fragment's deciders take it; for an instance its class -/
inductive TyOf (K : PySem.W.Frag) (H : Hp) : V → Value → Prop where
  | non : TyOf K H .non (.type "NoneType")
  | bl (x : Bool) : TyOf K H (.bl x) (.type "bool")
  | int (i : Int) : TyOf K H (.int i) (.type "int")
  | str (x : Str) : TyOf K H (.str x) (.type "str")
  | flt (x : UInt64) : TyOf K H (.flt x) (.type "float")
  | lst {a : Addr} {xs : List V} (e : H a = some (.lst xs)) : TyOf K H (.ref a) (.type "list")
  | frz {a : Addr} {o : Obj} {xs : List V} (e : H a = some (.frz o (.lst xs))) : TyOf K H (.ref a) (.type "list")
  | tup {a : Addr} {xs : List V} (e : H a = some (.tup xs)) : TyOf K H (.ref a) (.type "tuple")
  | dK {a : Addr} {kvs : List (Key × V)} (e : H a = some (.dK kvs)) : TyOf K H (.ref a) (.type "dict")
  | dT {a : Addr} {kvs : List (List Key × V)} (e : H a = some (.dT kvs)) : TyOf K H (.ref a) (.type "dict")
  | ins {a C dx : Addr} {fs : List (Str × V)} (e : H a = some (.ins C dx fs)) (cl : Cls K C) (ha : PySem.W.findIn K (.ref C) "__class__" = some (some (.builtin "object.__class__")))
      (hn : PySem.W.specialIn K (.builtin "object.__class__") "__get__" = some (some (.builtin "getset_descriptor.__get__"))) (htk : PySem.W.takesIn K (.builtin "object.__class__") = some true)
      (hm : PySem.W.mroIn K C (.type "object") = some true) : TyOf K H (.ref a) (.ref C)
/-- isinstance(x, c) for one class c, a built-in or an own one: kitOne's answer -/
theorem isinst_ok {x : V} {u t : Value} (I : Inv X pins σ H s) (rx : RelV x u) (ty : TyOf X.K H x t) (e : PySem.W.kitOne X.K t c = some b) (h : ∀ tk, Q (.bool b) { s with toks := tk }) :
    wpAny (model X.prog X.w) A (call (.builtin "isinstance") [u, c]) Q E s := by
  cases ty with
  | non => cases (show u = Value.none from rx); exact PySem.W.kia_one PySem.W.kitx_none I.kIn True.intro e (fun z => nomatch z) h
  | bl y => cases (show u = Value.bool y from rx); exact PySem.W.kia_one PySem.W.kitx_bool I.kIn True.intro e (fun z => nomatch z) h
  | int i => obtain ⟨t, q⟩ := (show ∃ t, u = Value.int i t from rx); cases q; exact PySem.W.kia_one PySem.W.kitx_int I.kIn True.intro e (fun z => nomatch z) h
  | str y => obtain ⟨t, q⟩ := (show ∃ t, u = Value.str y t from rx); cases q; exact PySem.W.kia_one PySem.W.kitx_str I.kIn True.intro e (fun z => nomatch z) h
  | flt y => obtain ⟨t, q⟩ := (show ∃ t, u = Value.float y t from rx); cases q; exact PySem.W.kia_one PySem.W.kitx_float I.kIn True.intro e (fun z => nomatch z) h
  | @lst a xs ea =>
    cases (show u = Value.ref a from rx)
    obtain ⟨_, _, n, _, h1⟩ := (show ObjOk X.prog X.w H s.heap a (.lst xs) from I.hok a _ ea)
    exact PySem.W.kia_one PySem.W.kitx_list I.kIn ⟨_, h1, rfl⟩ e (fun z => nomatch z) h
  | @frz a ob xs ea =>
    cases (show u = Value.ref a from rx)
    obtain ⟨_, _, _, n, _, h1⟩ := (show ObjOk X.prog X.w H s.heap a (.frz ob (.lst xs)) from I.hok a _ ea)
    exact PySem.W.kia_one PySem.W.kitx_list I.kIn ⟨_, h1, rfl⟩ e (fun z => nomatch z) h
  | @tup a xs ea =>
    cases (show u = Value.ref a from rx)
    obtain ⟨_, _, _, p⟩ := (show ObjOk X.prog X.w H s.heap a (.tup xs) from I.hok a _ ea)
    obtain ⟨o, h1, h2, _⟩ := p
    exact PySem.W.kia_one PySem.W.kitx_tuple I.kIn ⟨o, h1, h2⟩ e (fun z => nomatch z) h
  | @dK a kvs ea =>
    cases (show u = Value.ref a from rx)
    obtain ⟨_, _, vs, _, p⟩ := (show ObjOk X.prog X.w H s.heap a (.dK kvs) from I.hok a _ ea)
    obtain ⟨o, es, ep, h1, h2, _⟩ := p
    exact PySem.W.kia_one PySem.W.kitx_dict I.kIn ⟨o, h1, h2.1⟩ e (fun z => nomatch z) h
  | @dT a kvs ea =>
    cases (show u = Value.ref a from rx)
    obtain ⟨_, _, xs, _, o, es, ep, h1, h2, _⟩ := (show ObjOk X.prog X.w H s.heap a (.dT kvs) from I.hok a _ ea)
    exact PySem.W.kia_one PySem.W.kitx_dict I.kIn ⟨o, h1, h2.1⟩ e (fun z => nomatch z) h
  | @ins a C dx fs ea cl ha hn htk hm =>
    cases (show u = Value.ref a from rx)
    obtain ⟨mA, O, _⟩ := ins_get I.hok ea
    obtain ⟨od, J, _⟩ := O.look
    exact PySem.W.kia_one (PySem.W.kitx_own (cl.get _) cl.hd ha hn htk hm) I.kIn J e (fun z => nomatch z) h
end
end L2

namespace L2
open PySem PySem.Spec PyProof.Rows

/-! ### room -/
structure Room (k : Nat) (A : Around) : Prop where
  hd : A.handled = none
  dp : A.depth + 3 * k + 5 < recursionLimit
  un : A.units + 16 * k + 200 < cLine
theorem Room.mono {j k : Nat} {A : Around} (r : Room k A) (h : j ≤ k) : Room j A := ⟨r.hd, by have := r.dp; omega, by have := r.un; omega⟩
theorem Room.deeper {k : Nat} {A : Around} (r : Room (k + 1) A) (env : Env) : Room k (A.deeper env) :=
  ⟨r.hd, by have := r.dp; show A.depth + 1 + 3 * k + 5 < _; omega, by have := r.un; show A.units + 3 + 16 * k + 200 < _; omega⟩
theorem Room.in1 {k : Nat} {A : Around} (r : Room (k + 1) A) : Room k A.in1 :=
  ⟨r.hd, by have := r.dp; show A.depth + 3 * k + 5 < _; omega, by have := r.un; show A.units + 1 + 16 * k + 200 < _; omega⟩
theorem make_depth {A : Around} {C : Addr} {us : List Value} {kw : List (Str × Value)} : (A.under (.builtin "type.__call__" ⟨.ref C :: us, kw⟩)).depth = A.depth + 1 := by
  first | rfl | simp [Around.under, Code.weight, Code.isCreation, Code.isGuard, Code.isCaller, Code.frames, Code.isFrame, guardIds]
theorem make_units {A : Around} {C : Addr} {us : List Value} {kw : List (Str × Value)} : (A.under (.builtin "type.__call__" ⟨.ref C :: us, kw⟩)).units = A.units + 1 := by
  first | rfl | simp [Around.under, Code.cUnits, Code.frames, Code.isFrame]
theorem Room.make {k : Nat} {A : Around} (r : Room (k + 1) A) (C : Addr) (us : List Value) (kw : List (Str × Value)) : Room k (A.under (.builtin "type.__call__" ⟨.ref C :: us, kw⟩)) :=
  ⟨r.hd, by have := r.dp; rw [make_depth]; omega, by have := r.un; rw [make_units]; omega⟩
theorem Room.depth {k : Nat} {A : Around} (r : Room k A) : A.depth < recursionLimit := by have := r.dp; omega
theorem Room.units {k : Nat} {A : Around} (r : Room k A) : A.units + 64 < cLine := by have := r.un; omega
theorem Room.units0 {k : Nat} {A : Around} (r : Room k A) : A.units < cLine := by have := r.un; omega

/-! ### argument lists and displays -/
def tNil : TA := fun _ H Q => Q [] H
def tCons (ta : TE) (tr : TA) : TA := fun σ H Q => ta σ H fun x H1 => tr σ H1 fun xs H2 => Q (x :: xs) H2
section
variable {X : Cx} {e : Expr} {es : List Expr} {te : TE} {t : TA} {pos : Pos}
theorem pa_nil : PA X [] tNil := fun _ _ _ _ H Q I h => Calls.spliced_nil ⟨[], H, I, .nil, h⟩
theorem pa_cons (ha : PE X e te) (hr : PA X es t) (hs : starEach (e :: es) X.env = (false, eval e X.env) :: starEach es X.env := by rfl) : PA X (e :: es) (tCons te t) := by
  intro pos pins s σ H Q I h
  rw [hs]
  show wpAny _ _ (spliced ((false, eval e X.env) :: backTo pos (starEach es X.env))) _ _ s
  refine Calls.spliced_cons (thn (ha pins s σ H _ I h) fun u s1 ⟨x, H1, I1, r1, q1⟩ => ?_)
  exact thn (hr pos pins s1 σ H1 _ I1 q1) fun us s2 ⟨xs, H2, I2, r2, q2⟩ => ⟨x :: xs, H2, I2, .cons r1 r2, q2⟩

/-- a tuple, a list of written items -/
def tTup (t : TA) : TE := fun σ H Q => t σ H fun xs H1 => xs.length ≤ sizeLine ∧ ∀ p, H1 p = none → Q (.ref p) (upd H1 p (.tup xs))
def tLst (t : TA) : TE := fun σ H Q => t σ H fun xs H1 => xs.length ≤ sizeLine ∧ ∀ p, H1 p = none → Q (.ref p) (upd H1 p (.lst xs))
theorem pe_tup {x1} (h : PA X es t) : PE X (.Tuple es x1 pos) (tTup t) := by
  intro pins s σ H Q I hq
  refine wpAny_Tuple_spliced (thn (h pos pins s σ H _ I hq) fun us s1 ⟨xs, H1, I1, r, z, q⟩ => ⟨by rw [← r.length]; exact z, ?_⟩)
  have hf : H1 s1.heap.objs.size = none := I1.hok.fresh (Nat.le_refl _)
  refine ⟨.ref s1.heap.objs.size, upd H1 s1.heap.objs.size (.tup xs), I1.laid (t' := s1.toks) (fun b u e => Heap.get?_push_of_some _ e) (Nat.le_refl _) ?_, rfl, q _ hf⟩
  exact ⟨z, us, r, ⟨_, Heap.get?_push_size _ rfl, rfl, _, rfl⟩⟩
theorem pe_lst (h : PA X es t) : PE X (.List es pos) (tLst t) := by
  intro pins s σ H Q I hq
  refine wpAny_List_spliced (thn (h pos pins s σ H _ I hq) fun us s1 ⟨xs, H1, I1, r, z, q⟩ => ⟨by rw [← r.length]; exact z, ?_⟩)
  have hf : H1 s1.heap.objs.size = none := I1.hok.fresh (Nat.le_refl _)
  refine ⟨.ref s1.heap.objs.size, upd H1 s1.heap.objs.size (.lst xs), I1.laid (t' := s1.toks) (fun b u e => Heap.get?_push_of_some _ e) (Nat.le_refl _) ?_, rfl, q _ hf⟩
  exact ⟨z, us, 0, r, Heap.get?_push_size _ rfl⟩
end

/-! ### what a def promises -/
/-- a def's promise: the bound arguments in the parameters' order, the heap, the wanted end, the wanted exception -/
abbrev Sp := List V → Hp → VK → XK → Prop
/-- how an exception lies behind a call (file 08 gives it): the callers' frames, abstract heap and state ahead of the call, the wish, the exception, the state -/
abbrev CXT := List Env → Hp → Shared → XK → Value → Shared → Prop

/-- the state at a call -/
structure Env0 (P : Program) (w : World) (K : PySem.W.Frag) (mg : Str → Option Value) (base : Heap) (A : Around) (outer : List Env) (s : Shared) (H : Hp) : Prop where
  frames : A.frames = some outer
  mod : Mod K mg base
  bs : ∀ b o, base.get? b = some o → s.heap.get? b = some o ∧ H b = none
  bsz : base.objs.size ≤ s.heap.objs.size
  funs : s.heap.FunFrames base outer
  frf : ∀ b ∈ frs outer, H b = none
  hok : HOk P w H s.heap
  bare : AllBare s.gens
/-- a call's end -/
def CE (outer : List Env) (P : Program) (w : World) (H : Hp) (s : Shared) (Q : VK) (u : Value) (s' : Shared) : Prop :=
  ∃ v H', s'.os = s.os ∧ AllBare s'.gens ∧ Un (frs outer) [] H H' s.heap s'.heap ∧ HOk P w H' s'.heap ∧ RelV v u ∧ Q v H'
def CR (CX : CXT) (outer : List Env) (P : Program) (w : World) (H : Hp) (s : Shared) (Q : VK) (E : XK) (r : Result) (s' : Shared) : Prop :=
  match r with
  | .ok (.ret u) => CE outer P w H s Q u s'
  | .ok _ => False
  | .error e => CX outer H s E e s'
structure FnOk (P : Program) (w : World) (K : PySem.W.Frag) (mg : Str → Option Value) (base : Heap) (CX : CXT) (k : Nat) (f : Addr) (fd : FuncData) (ps : List Str) (sp : Sp) : Prop where
  len : ∀ vs H Q E, sp vs H Q E → vs.length = ps.length
  run : ∀ (A : Around) (outer : List Env) (s : Shared) (H : Hp) (args : Args) (us : List Value) (vs : List V) (Q : VK) (E : XK), Room k A → Env0 P w K mg base A outer s H → BindsTo s fd args (ps.zip us) → Vals vs us → sp vs H Q E →
    codeAny (model P w) A (.call (.ref f) args) (CR CX outer P w H s Q E) s
theorem FnOk.mono {P : Program} {w : World} {K : PySem.W.Frag} {mg : Str → Option Value} {base : Heap} {CX : CXT} {j k : Nat} {f : Addr} {fd : FuncData} {ps : List Str} {sp : Sp} (F : FnOk P w K mg base CX j f fd ps sp) (h : j ≤ k) :
    FnOk P w K mg base CX k f fd ps sp := ⟨F.len, fun A outer s H args us vs Q E hr => F.run A outer s H args us vs Q E (hr.mono h)⟩
/-- a weaker promise -/
theorem FnOk.imp {P : Program} {w : World} {K : PySem.W.Frag} {mg : Str → Option Value} {base : Heap} {CX : CXT} {k : Nat} {f : Addr} {fd : FuncData} {ps : List Str} {sp sp' : Sp} (F : FnOk P w K mg base CX k f fd ps sp)
    (h : ∀ vs H Q E, sp' vs H Q E → sp vs H Q E) : FnOk P w K mg base CX k f fd ps sp' :=
  ⟨fun vs H Q E q => F.len vs H Q E (h _ _ _ _ q), fun A outer s H args us vs Q E hr he hb hv hs => F.run A outer s H args us vs Q E hr he hb hv (h _ _ _ _ hs)⟩

theorem Env0.make {P : Program} {w : World} {K : PySem.W.Frag} {mg : Str → Option Value} {base : Heap} {A : Around} {outer : List Env} {s : Shared} {H : Hp} (e : Env0 P w K mg base A outer s H) (C : Addr) (us : List Value) (kw : List (Str × Value)) :
    Env0 P w K mg base (A.under (.builtin "type.__call__" ⟨.ref C :: us, kw⟩)) outer s H := ⟨by first | exact e.frames | (simpa [Around.under, Code.envs, Code.isFrame, pushEnvs] using e.frames), e.mod, e.bs, e.bsz, e.funs, e.frf, e.hok, e.bare⟩
theorem Env0.in1 {P : Program} {w : World} {K : PySem.W.Frag} {mg : Str → Option Value} {base : Heap} {A : Around} {outer : List Env} {s : Shared} {H : Hp} (e : Env0 P w K mg base A outer s H) :
    Env0 P w K mg base A.in1 outer s H := ⟨e.frames, e.mod, e.bs, e.bsz, e.funs, e.frf, e.hok, e.bare⟩

section
variable {X : Cx} {pins : List (Addr × Obj)} {σ : St} {H : Hp} {s s' : Shared}
/-- from a body: what a callee wants -/
theorem Inv.env0 (I : Inv X pins σ H s) : Env0 X.prog X.w X.K X.mg X.base X.A X.stack s H :=
  ⟨I.ok.frames, I.ok.mod, I.bs, Nat.le_trans I.ok.bsz I.sz, I.stack, I.stkFree, I.hok, I.bare⟩
/-- behind a call -/
theorem Inv.after {Q : VK} {u : Value} (I : Inv X pins σ H s) (h : CE X.stack X.prog X.w H s Q u s') : EP X pins σ Q u s' := by
  obtain ⟨v, H', os, bare, un, hok, r, q⟩ := h
  obtain ⟨hh, g, d, t, os'⟩ := s'
  obtain rfl : os' = s.os := os
  exact ⟨v, H', I.call (h' := hh) (g' := g) (d' := d) (t' := t) (ch := []) un hok bare (fun b z => absurd z (by simp)), r, q⟩
end

/-! ### calls -/
/-- f(..): the written arguments, then the defaults dvs; E: what is wanted of an exception -/
def tCall (sp : Sp) (dvs : List V) (E : XK) (t : TA) : TE := fun σ H Q => t σ H fun vs H1 => sp (vs ++ dvs) H1 Q E
/-- o.m(..) of an instance of the class at C -/
def tMeth (C : Addr) (m : Str) (sp : Sp) (dvs : List V) (E : XK) (ta : TE) (t : TA) : TE := fun σ H Q => ta σ H fun x H1 => ∃ a dx fs, x = .ref a ∧ H1 a = some (.ins C dx fs) ∧ fs.lookup m = none ∧
  t σ H1 fun vs H2 => sp (x :: (vs ++ dvs)) H2 Q E
/-- C(..): a new instance and its dict, then __init__ -/
def tMake (C : Addr) (sp : Sp) (dvs : List V) (E : XK) (t : TA) : TE := fun σ H Q => t σ H fun vs H1 => ∀ x dx, H1 x = none → H1 dx = none → dx ≠ x →
  sp (.ref x :: (vs ++ dvs)) (upd (upd H1 dx (.own x)) x (.ins C dx [])) (fun v H2 => v = .non ∧ Q (.ref x) H2) E

/-- how the parameters are bound: us the positional arguments, kw the keywords' values by name, ds the defaults that fill up -/
def Binds (K : PySem.W.Frag) (fd : FuncData) (ps : List Str) (ds : List Value) : Prop :=
  ∀ (s : Shared) (us : List Value), K.In s.heap → (us ++ ds).length = ps.length → BindsTo s fd ⟨us, []⟩ (ps.zip (us ++ ds))
/-- every parameter is given -/
theorem Binds.all {K : PySem.W.Frag} {fd : FuncData} {ps : List Str} (h : ∀ us : List Value, us.length = ps.length → bindArgs fd ⟨us, []⟩ = pure (ps.zip us)) : Binds K fd ps [] := fun s us _ hl => by
  rw [List.append_nil] at hl ⊢
  exact .of_eq (h us hl)

/-- an exception of a callee reaches what this body wants of exceptions -/
def Passes (CX : CXT) (X : Cx) (E : XK) : Prop := ∀ (pins : List (Addr × Obj)) (σ : St) (H : Hp) (s : Shared) (e : Value) (s' : Shared), Inv X pins σ H s → CX X.stack H s E e s' → X.xe e s'

section
variable {X : Cx} {CX : CXT} {k : Nat} {f C : Addr} {fd : FuncData} {ps : List Str} {sp : Sp} {dvs : List V} {ds : List Value} {E : XK} {x m : Str} {p pos apos : Pos} {e o : Expr} {es : List Expr} {ta : TE} {t : TA}

/-- the callee runs -/
theorem run_fn {pins : List (Addr × Obj)} {σ : St} {H : Hp} {s : Shared} {Q : VK} {us : List Value} {vs : List V} (F : FnOk X.prog X.w X.K X.mg X.base CX k f fd ps sp) (hr : Room k X.A) (hb : Binds X.K fd ps ds) (hd : Vals dvs ds) (hx : Passes CX X E)
    (I : Inv X pins σ H s) (r : Vals vs us) (h : sp (vs ++ dvs) H Q E) : wpAny (model X.prog X.w) X.A (call (.ref f) us) (EP X pins σ Q) X.xe s := by
  have r2 : Vals (vs ++ dvs) (us ++ ds) := r.append hd
  have hl : (us ++ ds).length = ps.length := by rw [← r2.length]; exact F.len _ _ _ _ h
  refine wpAny_call (codeAny_mono (F.run X.A X.stack s H ⟨us, []⟩ (us ++ ds) (vs ++ dvs) Q E hr I.env0 (hb s us I.kIn hl) r2 h) fun r s' hq => ?_)
  cases r with
  | error e => exact hx pins σ H s e s' I hq
  | ok fl =>
    cases fl with
    | ret u => exact I.after hq
    | next => exact False.elim hq
    | brk => exact False.elim hq
    | cont => exact False.elim hq

theorem pe_call (F : FnOk X.prog X.w X.K X.mg X.base CX k f fd ps sp) (hr : Room k X.A) (hg : Gl X x) (hm : X.mg x = some (.ref f)) (hk : PySem.W.keepIn X.K (.ref f) = true) (hb : Binds X.K fd ps ds) (hd : Vals dvs ds) (hx : Passes CX X E)
    (ha : PA X (e :: es) t) (hdb : (x == ("__debug__" : Str)) = false := by decide) (he : starEach (e :: es) X.env = (false, eval e X.env) :: starEach es X.env := by rfl) (hpl : (backTo pos (starEach es X.env)).any (·.1) = false := by rfl) :
    PE X (.Call (.Name x p) (e :: es) [] pos) (tCall sp dvs E t) := by
  intro pins s σ H Q I h
  refine wpAny_Call_Name_kw (ld_glob I hg hm ?_ hdb)
  refine PySem.W.callWith_K (h₀ := X.base) I.ok.mod.kin hk (thn (ha pos pins s σ H _ I h) fun us s1 ⟨vs, H1, I1, r, q⟩ => ⟨I1.kIn, ?_⟩) he hpl
  exact run_fn F hr hb hd hx I1 r q
theorem pe_call0 (F : FnOk X.prog X.w X.K X.mg X.base CX k f fd ps sp) (hr : Room k X.A) (hg : Gl X x) (hm : X.mg x = some (.ref f)) (hk : PySem.W.keepIn X.K (.ref f) = true) (hb : Binds X.K fd ps ds) (hd : Vals dvs ds) (hx : Passes CX X E)
    (hdb : (x == ("__debug__" : Str)) = false := by decide) : PE X (.Call (.Name x p) [] [] pos) (tCall sp dvs E tNil) := by
  intro pins s σ H Q I h
  refine wpAny_Call_Name_kw (ld_glob I hg hm ?_ hdb)
  exact PySem.W.callWith_K0 I.kIn hk (run_fn (us := []) F hr hb hd hx I .nil h)

/-- o.m(e, ..) -/
theorem pe_meth {pl : Sem Bool} (he : PE X o ta) (c : Cls X.K C) (hm : Meth X.K C m f) (F : FnOk X.prog X.w X.K X.mg X.base CX k f fd ps sp) (hr : Room k X.A) (hb : Binds X.K fd ps ds) (hd : Vals dvs ds) (hx : Passes CX X E) (ha : PA X (e :: es) t)
    (hst : starEach (e :: es) X.env = (false, eval e X.env) :: starEach es X.env := by rfl) (hpl : (backTo pos (starEach es X.env)).any (·.1) = false := by rfl)
    (ht : eval (.Call (.Attribute o m apos) (e :: es) [] pos) X.env = (do
      let ov ← eval o X.env
      standAt apos.atName
      let (f, first) ← holding [ov] (getMethod ov m pl)
      callWith pos f first (backTo pos (starEach (e :: es) X.env)) (backToKw pos (keywordEach [] X.env))) := by rfl) :
    PE X (.Call (.Attribute o m apos) (e :: es) [] pos) (tMeth C m sp dvs E ta t) := by
  intro pins s σ H Q I h
  refine PySem.W.methodCall_KW (pl := pl) (thn (he pins s σ H _ I h) fun u s1 ⟨x, H1, I1, rx, a, dx, fs, ex, ea, l, q⟩ => ?_) ht
  subst ex
  obtain rfl : u = Value.ref a := rx
  refine getmeth_ok I1 ea c hm l ?_
  refine PySem.W.callWith_K (first := [.ref a]) (h₀ := X.base) I.ok.mod.kin hm.kp (thn (ha pos pins s1 σ H1 _ I1 q) fun us s2 ⟨vs, H2, I2, r, q2⟩ => ⟨I2.kIn, ?_⟩) hst hpl
  exact run_fn (us := .ref a :: us) (vs := .ref a :: vs) F hr hb hd hx I2 (.cons rfl r) q2
/-- o.m() -/
theorem pe_meth0 {pl : Sem Bool} (he : PE X o ta) (c : Cls X.K C) (hm : Meth X.K C m f) (F : FnOk X.prog X.w X.K X.mg X.base CX k f fd ps sp) (hr : Room k X.A) (hb : Binds X.K fd ps ds) (hd : Vals dvs ds) (hx : Passes CX X E)
    (ht : eval (.Call (.Attribute o m apos) [] [] pos) X.env = (do
      let ov ← eval o X.env
      standAt apos.atName
      let (f, first) ← holding [ov] (getMethod ov m pl)
      callWith pos f first (backTo pos (starEach [] X.env)) (backToKw pos (keywordEach [] X.env))) := by rfl) :
    PE X (.Call (.Attribute o m apos) [] [] pos) (tMeth C m sp dvs E ta tNil) := by
  intro pins s σ H Q I h
  refine PySem.W.methodCall_KW (pl := pl) (thn (he pins s σ H _ I h) fun u s1 ⟨x, H1, I1, rx, a, dx, fs, ex, ea, l, q⟩ => ?_) ht
  subst ex
  obtain rfl : u = Value.ref a := rx
  refine getmeth_ok I1 ea c hm l ?_
  exact PySem.W.callWith_K0 (first := [.ref a]) I1.kIn hm.kp (run_fn (us := [.ref a]) (vs := [.ref a]) F hr hb hd hx I1 (.cons rfl .nil) q)

/-- what a class must have to be made -/
structure Mk (K : PySem.W.Frag) (C f : Addr) : Prop where
  makes : PySem.W.makesIn K C = true
  init : PySem.W.findIn K (.ref C) "__init__" = some (some (.ref f))
  fn : PySem.W.isFn K (.ref f) = true
  kp : PySem.W.keepIn K (.ref C) = true

theorem run_make {pins : List (Addr × Obj)} {σ : St} {H : Hp} {s : Shared} {Q : VK} {us : List Value} {vs : List V} (M : Mk X.K C f) (F : FnOk X.prog X.w X.K X.mg X.base CX k f fd ps sp) (hr : Room (k + 1) X.A) (hb : Binds X.K fd ps ds) (hd : Vals dvs ds)
    (hx : Passes CX X E) (I : Inv X pins σ H s) (r : Vals vs us)
    (h : ∀ x dx, H x = none → H dx = none → dx ≠ x → sp (.ref x :: (vs ++ dvs)) (upd (upd H dx (.own x)) x (.ins C dx [])) (fun v H2 => v = .non ∧ Q (.ref x) H2) E) :
    wpAny (model X.prog X.w) X.A (call (.ref C) us) (EP X pins σ Q) X.xe s := by
  have hq := h (s.heap.objs.size + 1) s.heap.objs.size (I.hok.fresh (Nat.le_succ _)) (I.hok.fresh (Nat.le_refl _)) (Nat.ne_of_lt (Nat.lt_succ_self _))
  have I2 := Inv.made (C := C) I
  have r2 : Vals (V.ref (s.heap.objs.size + 1) :: (vs ++ dvs)) (Value.ref (s.heap.objs.size + 1) :: (us ++ ds)) := .cons rfl (r.append hd)
  have hl : (Value.ref (s.heap.objs.size + 1) :: us ++ ds).length = ps.length := by
    have e := r2.length
    rw [F.len _ _ _ _ hq] at e
    exact e.symm
  refine wpAny_call (make_map (f := f) I.kIn M.makes M.init (beq_iff_eq.mp M.fn) (codeAny_mono (F.run _ X.stack _ _ ⟨Value.ref (s.heap.objs.size + 1) :: us, []⟩ (Value.ref (s.heap.objs.size + 1) :: (us ++ ds)) _ _ E (hr.make C us [])
    (I2.env0.make C us []) (hb _ (Value.ref (s.heap.objs.size + 1) :: us) I2.kIn hl) r2 hq) fun r s' hq' => ?_))
  cases r with
  | error e => exact hx pins σ _ _ e s' I2 hq'
  | ok fl =>
    cases fl with
    | ret u =>
      obtain ⟨v, H', I3, rv, ev, q3⟩ := I2.after hq'
      subst ev
      exact ⟨rv, ⟨V.ref (s.heap.objs.size + 1), H', I3, rfl, q3⟩⟩
    | next => exact False.elim hq'
    | brk => exact False.elim hq'
    | cont => exact False.elim hq'
theorem pe_make (M : Mk X.K C f) (F : FnOk X.prog X.w X.K X.mg X.base CX k f fd ps sp) (hr : Room (k + 1) X.A) (hg : Gl X x) (hm : X.mg x = some (.ref C)) (hb : Binds X.K fd ps ds) (hd : Vals dvs ds) (hx : Passes CX X E)
    (ha : PA X (e :: es) t) (hdb : (x == ("__debug__" : Str)) = false := by decide) (he : starEach (e :: es) X.env = (false, eval e X.env) :: starEach es X.env := by rfl) (hpl : (backTo pos (starEach es X.env)).any (·.1) = false := by rfl) :
    PE X (.Call (.Name x p) (e :: es) [] pos) (tMake C sp dvs E t) := by
  intro pins s σ H Q I h
  refine wpAny_Call_Name_kw (ld_glob I hg hm ?_ hdb)
  refine PySem.W.callWith_K (h₀ := X.base) I.ok.mod.kin M.kp (thn (ha pos pins s σ H _ I h) fun us s1 ⟨vs, H1, I1, r, q⟩ => ⟨I1.kIn, ?_⟩) he hpl
  exact run_make M F hr hb hd hx I1 r q
theorem pe_make0 (M : Mk X.K C f) (F : FnOk X.prog X.w X.K X.mg X.base CX k f fd ps sp) (hr : Room (k + 1) X.A) (hg : Gl X x) (hm : X.mg x = some (.ref C)) (hb : Binds X.K fd ps ds) (hd : Vals dvs ds) (hx : Passes CX X E)
    (hdb : (x == ("__debug__" : Str)) = false := by decide) : PE X (.Call (.Name x p) [] [] pos) (tMake C sp dvs E tNil) := by
  intro pins s σ H Q I h
  refine wpAny_Call_Name_kw (ld_glob I hg hm ?_ hdb)
  exact PySem.W.callWith_K0 I.kIn M.kp (run_make (us := []) M F hr hb hd hx I .nil h)
end

/-! ### keywords -/
/-- the values of the keywords, from the left -/
def PK (X : Cx) (kws : List Keyword) (t : TA) : Prop :=
  ∀ (pos : Pos) (pins : List (Addr × Obj)) (s : Shared) (σ : St) (H : Hp) (Q : List V → Hp → Prop), Inv X pins σ H s → t σ H Q → wpAny (model X.prog X.w) X.A (evalAll ((backToKw pos (keywordEach kws X.env)).map (·.2))) (AP X pins σ Q) X.xe s
section
variable {X : Cx} {CX : CXT} {k : Nat} {f C : Addr} {fd : FuncData} {ps ks : List Str} {sp : Sp} {E : XK} {x m : Str} {p pos apos kpos : Pos} {e o : Expr} {es : List Expr} {kws : List Keyword} {te ta : TE} {t tk : TA} {nm : Option Str}
theorem pk_nil : PK X [] tNil := fun _ _ _ _ H Q I h => wpAny_evalAll_nil ⟨[], H, I, .nil, h⟩
theorem pk_cons (ha : PE X e te) (hr : PK X kws t) : PK X (⟨nm, e, kpos⟩ :: kws) (tCons te t) := by
  intro pos pins s σ H Q I h
  show wpAny _ _ (evalAll ((do let v ← eval e X.env; standAt pos; pure v) :: (backToKw pos (keywordEach kws X.env)).map (·.2))) _ _ s
  refine wpAny_evalAll_cons (wpAny_bind (thn (ha pins s σ H _ I h) fun u s1 ⟨x, H1, I1, r1, q1⟩ => wpAny_bind (wpAny_standAt (wpAny_pure ?_))))
  exact thn (hr pos pins s1 σ H1 _ I1 q1) fun us s2 ⟨xs, H2, I2, r2, q2⟩ => ⟨x :: xs, H2, I2, .cons r1 r2, q2⟩

/-- how a call with keywords binds: g puts the positional values us and the keywords' values ws (names ks) in the parameters' order, defaults among them -/
structure KBinds (K : PySem.W.Frag) (fd : FuncData) (ps ks : List Str) (g : List Value → List Value → List Value) (gV : List V → List V → List V) : Prop where
  to : ∀ (s : Shared) (us ws : List Value), K.In s.heap → (g us ws).length = ps.length → BindsTo s fd ⟨us, ks.zip ws⟩ (ps.zip (g us ws))
  rel : ∀ {vs : List V} {us : List Value} {zs : List V} {ws : List Value}, Vals vs us → Vals zs ws → Vals (gV vs zs) (g us ws)
def tCallK (sp : Sp) (gV : List V → List V → List V) (E : XK) (t tk : TA) : TE := fun σ H Q => t σ H fun vs H1 => tk σ H1 fun zs H2 => sp (gV vs zs) H2 Q E
variable {g : List Value → List Value → List Value} {gV : List V → List V → List V}
theorem run_fnk {pins : List (Addr × Obj)} {σ : St} {H : Hp} {s : Shared} {Q : VK} {us ws : List Value} {vs zs : List V} (F : FnOk X.prog X.w X.K X.mg X.base CX k f fd ps sp) (hr : Room k X.A) (hb : KBinds X.K fd ps ks g gV) (hx : Passes CX X E)
    (I : Inv X pins σ H s) (r : Vals vs us) (rz : Vals zs ws) (h : sp (gV vs zs) H Q E) : wpAny (model X.prog X.w) X.A (call (.ref f) us (ks.zip ws)) (EP X pins σ Q) X.xe s := by
  have r2 := hb.rel r rz
  have hl : (g us ws).length = ps.length := by rw [← r2.length]; exact F.len _ _ _ _ h
  refine wpAny_call (codeAny_mono (F.run X.A X.stack s H ⟨us, ks.zip ws⟩ (g us ws) (gV vs zs) Q E hr I.env0 (hb.to s us ws I.kIn hl) r2 h) fun r s' hq => ?_)
  cases r with
  | error e => exact hx pins σ H s e s' I hq
  | ok fl =>
    cases fl with
    | ret u => exact I.after hq
    | next => exact False.elim hq
    | brk => exact False.elim hq
    | cont => exact False.elim hq
/-- f(e, .., k = v, ..) -/
theorem pe_callK (F : FnOk X.prog X.w X.K X.mg X.base CX k f fd ps sp) (hr : Room k X.A) (hg : Gl X x) (hm : X.mg x = some (.ref f)) (hk : PySem.W.keepIn X.K (.ref f) = true) (hb : KBinds X.K fd ps ks g gV) (hx : Passes CX X E)
    (ha : PA X (e :: es) t) (hkw : PK X kws tk) (hall : (backToKw pos (keywordEach kws X.env)).all (·.1.isSome) = true := by rfl) (hks : (backToKw pos (keywordEach kws X.env)).filterMap (·.1) = ks := by rfl)
    (hdb : (x == ("__debug__" : Str)) = false := by decide) (he : starEach (e :: es) X.env = (false, eval e X.env) :: starEach es X.env := by rfl)
    (hpl : ((backTo pos (starEach (e :: es) X.env)).any (·.1) || (backToKw pos (keywordEach kws X.env)).any (·.1.isNone)) = false := by rfl) :
    PE X (.Call (.Name x p) (e :: es) kws pos) (tCallK sp gV E t tk) := by
  intro pins s σ H Q I h
  refine wpAny_Call_Name_kw (ld_glob I hg hm ?_ hdb)
  refine PySem.W.callWith_KW (h₀ := X.base) I.ok.mod.kin hk hall (thn (ha pos pins s σ H _ I h) fun us s1 ⟨vs, H1, I1, r, q⟩ => ?_) hpl he
  refine thn (hkw pos pins s1 σ H1 _ I1 q) fun ws s2 ⟨zs, H2, I2, rz, q2⟩ => ⟨I2.kIn, ?_⟩
  rw [hks]
  exact run_fnk F hr hb hx I2 r rz q2
end

/-! ### a def's body keeps its promise -/
/-- names: the parameters first -/
structure FnScope (N P : List Str) (sc : Scope) : Prop where
  kind : sc.kind = .function
  co : sc.isCoroutine = false
  gen : sc.isGenerator = false
  nd : N.Nodup
  pre : N.take P.length = P
  par : ∀ x ∈ P, sc.names.lookup x = some .local ∨ sc.names.lookup x = some .cell
  nofree : ∀ y ∈ sc.names, y.2 ≠ .free

theorem bindL_out {kindOf : Str → Option NameKind} {x : Str} : ∀ {binds : List (Str × Value)} {m : Str → Option Value}, (∀ v, (x, v) ∉ binds) → bindL kindOf binds m x = m x
  | [], _, _ => rfl
  | (n, v) :: r, m, h => by
    unfold bindL
    rw [bindL_out fun w hw => h w (List.mem_cons_of_mem _ hw)]
    split
    · have : x ≠ n := by rintro rfl; exact h v List.mem_cons_self
      simp [this]
    · rfl
theorem bindC_out {kindOf : Str → Option NameKind} {x : Str} : ∀ {binds : List (Str × Value)} {m : Str → Option Value}, (∀ v, (x, v) ∉ binds) → bindC kindOf binds m x = m x
  | [], _, _ => rfl
  | (n, v) :: r, m, h => by
    unfold bindC
    rw [bindC_out fun w hw => h w (List.mem_cons_of_mem _ hw)]
    split
    · rfl
    · have : x ≠ n := by rintro rfl; exact h v List.mem_cons_self
      simp [this]
theorem bindL_get {kindOf : Str → Option NameKind} {x : Str} {v : Value} : ∀ {P : List Str} {vs : List Value} {i : Nat} {m : Str → Option Value}, P.Nodup → P[i]? = some x → vs[i]? = some v → kindOf x = some .local →
    bindL kindOf (P.zip vs) m x = some v
  | [], _, _, _, _, h, _, _ => by simp at h
  | _ :: _, [], _, _, _, _, h, _ => by simp at h
  | p :: P, w :: vs, 0, m, nd, h1, h2, hk => by
    simp at h1 h2; subst h1; subst h2
    show bindL kindOf ((p, w) :: P.zip vs) m p = _
    unfold bindL
    rw [bindL_out fun v hv => (List.nodup_cons.mp nd).1 (List.of_mem_zip hv).1, if_pos hk]
    simp
  | p :: P, w :: vs, i + 1, m, nd, h1, h2, hk => by
    show bindL kindOf ((p, w) :: P.zip vs) m x = _
    unfold bindL
    exact bindL_get (i := i) (List.nodup_cons.mp nd).2 (by simpa using h1) (by simpa using h2) hk
theorem bindC_get {kindOf : Str → Option NameKind} {x : Str} {v : Value} : ∀ {P : List Str} {vs : List Value} {i : Nat} {m : Str → Option Value}, P.Nodup → P[i]? = some x → vs[i]? = some v → kindOf x ≠ some .local →
    bindC kindOf (P.zip vs) m x = some v
  | [], _, _, _, _, h, _, _ => by simp at h
  | _ :: _, [], _, _, _, _, h, _ => by simp at h
  | p :: P, w :: vs, 0, m, nd, h1, h2, hk => by
    simp at h1 h2; subst h1; subst h2
    show bindC kindOf ((p, w) :: P.zip vs) m p = _
    unfold bindC
    rw [bindC_out fun v hv => (List.nodup_cons.mp nd).1 (List.of_mem_zip hv).1, if_neg hk]
    simp
  | p :: P, w :: vs, i + 1, m, nd, h1, h2, hk => by
    show bindC kindOf ((p, w) :: P.zip vs) m x = _
    unfold bindC
    exact bindC_get (i := i) (List.nodup_cons.mp nd).2 (by simpa using h1) (by simpa using h2) hk

/-- the names' values at the entry -/
def start (N : List Str) (vs : List V) : St := vs.map some ++ List.replicate (N.length - vs.length) none

/-- the context of a def's body, at its entry; an exception leaves the frame, then lies as CX says -/
def cxOf (CX : CXT) (P : Program) (w : World) (K : PySem.W.Frag) (mg : Str → Option Value) (base : Heap) (N : List Str) (qual : Str) (scope : Scope) (f : Addr) (cd : Value) (A : Around) (outer : List Env) (s : Shared) (H : Hp) (E : XK) : Cx where
  prog := P
  w := w
  K := K
  mg := mg
  base := base
  A := A.deeper (envOfC qual scope s.heap.objs.size f cd)
  N := N
  s₀ := s
  H₀ := H
  env := envOfC qual scope s.heap.objs.size f cd
  outer := outer
  stack := envOfC qual scope s.heap.objs.size f cd :: outer
  ex := []
  calm := true
  fn := fun _ => true
  pn := []
  xe := fun e s' => wpAny (model P w) (A.deeper (envOfC qual scope s.heap.objs.size f cd)) (leaving (envOfC qual scope s.heap.objs.size f cd) e) (fun _ s'' => CX outer H s E e s'') (fun e' s'' => CX outer H s E e' s'') s'

theorem cell_has {sc : Scope} {n : Nat} {x : Str} (h : sc.names.lookup x = some .cell) : ∃ c, (cellsFrom n sc.names []).lookup x = some c := by
  have q := PySem.W.cellsFrom_some sc.names n [] (.inl h)
  exact Option.isSome_iff_exists.mp q

theorem inv_start {CX : CXT} {P : Program} {w : World} {K : PySem.W.Frag} {mg : Str → Option Value} {base : Heap} {N ps : List Str} {qual : Str} {scope : Scope} {f : Addr} {cd : Value} {A : Around} {outer : List Env} {s s1 : Shared} {H : Hp} {E : XK} {us : List Value} {vs : List V}
    (S : FnScope N ps scope) (hd : A.handled = none) (e0 : Env0 P w K mg base A outer s H) (hl : vs.length = ps.length) (r : Vals vs us)
    (x : InCallC s s.heap.objs.size (bindL (envOfC qual scope s.heap.objs.size f cd).kindOf (ps.zip us) fun _ => none) (cellsFrom (s.heap.objs.size + 1) scope.names []) (bindC (envOfC qual scope s.heap.objs.size f cd).kindOf (ps.zip us) fun _ => none) s1) :
    Inv (cxOf CX P w K mg base N qual scope f cd A outer s H E) [] (start N vs) H s1 := by
  have hpl : ps.length ≤ N.length := by have := congrArg List.length S.pre; rw [List.length_take] at this; omega
  obtain ⟨h1, tk, rfl, hk⟩ := x.done
  have noA : ∀ b : Addr, b ∉ (cxOf CX P w K mg base N qual scope f cd A outer s H E).ex := fun b z => absurd (show b ∈ ([] : List Addr) from z) (by simp)
  refine ⟨⟨e0.mod, S.kind, rfl, rfl, Nat.le_refl _, fun y z c h1 h2 => ?_, fun y hy => ?_, fun y c _ h => ?_, fun _ => hd, Around.frames_deeper e0.frames, .inr ⟨rfl, rfl⟩, fun b z => absurd z (noA b), e0.bs, e0.bsz, fun b _ _ => noA b, fun b z => absurd z (noA b), e0.funs, e0.frf⟩,
    rfl, e0.bare, Un.kept hk, ⟨_, x.toInCall.ns, fun i y v h1 h2 h3 => ?_⟩, fun y c h => ⟨_, x.cell y c h⟩, e0.hok.fresh (Nat.le_refl _), fun y c h => ?_, fun p hp => absurd (show p ∈ ([] : List (Addr × Obj)) from hp) (by simp), e0.hok.kept hk, ?_⟩
  · exact name_of_addr x.apart (PySem.mem_of_lookup h1) (PySem.mem_of_lookup h2)
  · have hy : scope.names.lookup y = some .cell ∨ scope.names.lookup y = some .free := hy
    rcases hy with hy | hy
    · exact cell_has hy
    · exact absurd rfl (S.nofree _ (PySem.mem_of_lookup hy))
  · exact Nat.le_of_lt (x.above y c (PySem.mem_of_lookup h))
  · have hi : i < vs.length := by
      unfold start at h2
      by_cases hi : i < vs.length
      · exact hi
      · rw [List.getElem?_append_right (by simpa using hi)] at h2
        rw [List.getElem?_replicate] at h2
        split at h2 <;> cases h2
    have ha : vs[i]? = some v := by
      unfold start at h2
      rw [List.getElem?_append_left (by simpa using hi), List.getElem?_map] at h2
      cases e : vs[i]? with
      | none => rw [e] at h2; cases h2
      | some a => rw [e] at h2; cases h2; rfl
    obtain ⟨u, hu, rv⟩ := r.get ha
    have hp : ps[i]? = some y := by
      rw [← S.pre, List.getElem?_take_of_lt (by omega)]; exact h1
    have ndP : ps.Nodup := by rw [← S.pre]; exact S.nd.sublist (List.take_sublist _ _)
    refine ⟨u, rv, ?_⟩
    rcases S.par y (List.mem_of_getElem? hp) with k | k
    · exact .inl ⟨k, bindL_get ndP hp hu k⟩
    · obtain ⟨c, e⟩ := cell_has (n := s.heap.objs.size + 1) k
      refine .inr ⟨.inl k, c, e, ?_⟩
      have q := x.cell y c e
      rw [bindC_get ndP hp hu (by show scope.names.lookup y ≠ _; rw [k]; decide)] at q
      exact q
  · exact e0.hok.fresh (Nat.le_of_lt (x.above y c (PySem.mem_of_lookup h)))
  · unfold start
    show _ = N.length
    rw [List.length_append, List.length_map, List.length_replicate]
    omega

/-- THE RULE: a def (or a method) of the text, by its body. The body's reading t is chosen for each entry; it is run at the parameters' values -/
theorem fn_of {CX : CXT} {P : Program} {w : World} {K : PySem.W.Frag} {mg : Str → Option Value} {base : Heap} {k : Nat} {f : Addr} {name qual : Str} {params : Arguments} {body : List Stmt} {scope : Scope} {dV kV doc pm cdv ct oc : Value} {an od : Option Addr}
    {osl : Array (Option Value)} {N ps : List Str} {sp : Sp} (lk : K.lookup f = some ⟨oc, od, .func (PySem.W.fnOf name qual params body scope dV kV doc pm an cdv ct), osl⟩) (hcd : PySem.W.codeIn K cdv qual = true) (S : FnScope N ps scope)
    (len : ∀ vs H Q E, sp vs H Q E → vs.length = ps.length)
    (hbody : ∀ (A : Around) (outer : List Env) (s : Shared) (H : Hp) (vs : List V) (Q : VK) (E : XK), Room k (A.deeper (envOfC qual scope s.heap.objs.size f cdv)) → sp vs H Q E →
      ∃ t, PSs (cxOf CX P w K mg base N qual scope f cdv A outer s H E) body t ∧ t { nx := fun _ H' => Q .non H', rt := Q } (start N vs) H) :
    FnOk P w K mg base CX (k + 1) f (PySem.W.fnOf name qual params body scope dV kV doc pm an cdv ct) ps sp := by
  refine ⟨len, fun A outer s H args us vs Q E hr e0 hb r hsp => ?_⟩
  have hl := len _ _ _ _ hsp
  have KX : K.In s.heap := e0.mod.kin.keeps fun b o e => (e0.bs b o e).1
  have lim : s.heap.NoLimit := e0.mod.nolimit.keeps fun b o e => (e0.bs b o e).1
  have hkind : ∀ y ∈ ps.zip us, scope.names.lookup y.1 = some .local ∨ (scope.names.lookup y.1 = some .cell ∧ ((cellsFrom (s.heap.objs.size + 1) scope.names []).lookup y.1).isSome = true) := fun ⟨n, v⟩ hy => by
    rcases S.par n (List.of_mem_zip hy).1 with q | q
    · exact .inl q
    · exact .inr ⟨q, PySem.W.cellsFrom_some _ _ _ (.inl q)⟩
  refine codeAny_call_function hr.depth (KX _ _ lk) rfl S.co S.gen rfl (PySem.W.codeRec_of KX hcd) (hb _ _ _ _ ?_)
  refine wpAny_newFunctionEnv_cells S.kind hkind fun env he s1 x => ?_
  subst he
  refine ⟨lim.keeps x.toInCall.keep, codeAny_func ?_⟩
  obtain ⟨t, ht, hq⟩ := hbody A outer s H vs Q E (hr.deeper _) hsp
  have I : Inv (cxOf CX P w K mg base N qual scope f cdv A outer s H E) [] (start N vs) H s1 := inv_start S hr.hd e0 hl r x
  refine wpAny_mono (ht [] s1 (start N vs) H _ I hq) (fun fl s' hs => ?_) fun e s' hs => hs
  have fin : ∀ {σ' : St} {H' : Hp} {v : V} {u : Value}, Inv (cxOf CX P w K mg base N qual scope f cdv A outer s H E) [] σ' H' s' → RelV v u → Q v H' → CE outer P w H s Q u s' :=
    fun {σ' H' v u} J rv q => ⟨v, H', J.os, J.bare, J.base, J.hok, rv, q⟩
  cases fl with
  | ret u =>
    obtain ⟨v, σ', H', J, rv, q⟩ := hs
    exact fin J rv q
  | next =>
    obtain ⟨σ', H', J, q⟩ := hs
    exact fin (v := V.non) (u := Value.none) J rfl q
  | brk =>
    obtain ⟨_, _, _, q⟩ := hs
    exact False.elim q
  | cont =>
    obtain ⟨_, _, _, q⟩ := hs
    exact False.elim q
end L2

namespace L2
open PySem PySem.Spec PyProof.Rows
section
variable {X : Cx} {x : Str} {p pos : Pos} {e : Expr} {es : List Expr} {t : TA} {id T : String} {r : List V → Hp → VK → Prop}

def tCB (r : List V → Hp → VK → Prop) (t : TA) : TE := fun σ H Q => t σ H fun vs H1 => r vs H1 Q
/-- f(e, ..), f a built-in function -/
theorem pe_callB (hc : CallR X (.builtin id) r) (hg : Gl X x) (hm : X.mg x = none) (hv : bootBuiltins x = some (.builtin id)) (ha : PA X (e :: es) t) (hn : x ≠ "__name__" := by decide) (hdb : (x == ("__debug__" : Str)) = false := by decide)
    (he : starEach (e :: es) X.env = (false, eval e X.env) :: starEach es X.env := by rfl) (hpl : (backTo pos (starEach es X.env)).any (·.1) = false := by rfl) : PE X (.Call (.Name x p) (e :: es) [] pos) (tCB r t) := by
  intro pins s σ H Q I h
  refine wpAny_Call_Name_kw (ld_blt I hg hm hv ?_ hn hdb)
  exact PyProof.Rows.callWith_builtin1 (thn (ha pos pins s σ H _ I h) fun us s1 ⟨vs, H1, I1, r1, q1⟩ => hc pins s1 σ H1 vs us Q I1 r1 q1) he hpl
/-- T(e, ..), T a built-in type -/
theorem pe_callTy (hc : CallR X (.type T) r) (hg : Gl X x) (hm : X.mg x = none) (hv : bootBuiltins x = some (.type T)) (ha : PA X (e :: es) t) (hn : x ≠ "__name__" := by decide) (hdb : (x == ("__debug__" : Str)) = false := by decide)
    (he : starEach (e :: es) X.env = (false, eval e X.env) :: starEach es X.env := by rfl) (hpl : (backTo pos (starEach es X.env)).any (·.1) = false := by rfl) : PE X (.Call (.Name x p) (e :: es) [] pos) (tCB r t) := by
  intro pins s σ H Q I h
  refine wpAny_Call_Name_kw (ld_blt I hg hm hv ?_ hn hdb)
  exact PyProof.Rows.callWith_type1 (thn (ha pos pins s σ H _ I h) fun us s1 ⟨vs, H1, I1, r1, q1⟩ => hc pins s1 σ H1 vs us Q I1 r1 q1) he hpl
/-- T() -/
theorem pe_callTy0 (hc : CallR X (.type T) r) (hg : Gl X x) (hm : X.mg x = none) (hv : bootBuiltins x = some (.type T)) (hn : x ≠ "__name__" := by decide) (hdb : (x == ("__debug__" : Str)) = false := by decide) :
    PE X (.Call (.Name x p) [] [] pos) (tCB r tNil) := by
  intro pins s σ H Q I h
  refine wpAny_Call_Name_kw (ld_blt I hg hm hv ?_ hn hdb)
  exact PyProof.Rows.callWith_type0 (hc pins s σ H [] [] Q I .nil h)
end
end L2

namespace HT
open PySem PyProof.Rows

/-- t < u of tuples of ints -/
def lexLt : List Int → List Int → Bool
  | [], [] => false
  | [], _ :: _ => true
  | _ :: _, [] => false
  | x :: xs, y :: ys => if x = y then lexLt xs ys else decide (x < y)
theorem lexLt_cons (x y : Int) (xs ys : List Int) : lexLt (x :: xs) (y :: ys) = if x = y then lexLt xs ys else decide (x < y) := rfl
theorem lexLt_nil_nil : lexLt [] [] = false := rfl
theorem lexLt_nil_cons (y : Int) (ys : List Int) : lexLt [] (y :: ys) = true := rfl
theorem lexLt_cons_nil (x : Int) (xs : List Int) : lexLt (x :: xs) [] = false := rfl

theorem eqAt_int (A : Around) (s : Shared) (a : Int) (t : Tok) (c : Int) (u : Tok) : ∃ e, SeqAt.EqAt A s (.int a t) (.int c u) e ∧ (e = true ↔ a = c) :=
  ⟨(a == c), SeqAt.EqAt.int_int a t c u, by simp⟩
theorem rcLt_int (A : Around) (s : Shared) (a : Int) (t : Tok) (c : Int) (u : Tok) (prog : Program) (w : World) (E : Value → Shared → Prop) (Q : Value → Shared → Prop) (h : Q (.bool (decide (a < c))) s) :
    wpAny (model prog w) A (richCompare .Lt (.int a t) (.int c u)) Q E s :=
  (PyProof.Rows.lt_int h : wpAny (model prog w) A (compareOp .Lt (.int a t) (.int c u)) Q E s)

section
open PySem.SeqAt
open PySem.AutoSeq1 (wpAny_loadPart')
open PySem.MeetsSeq PySem.MeetsSeq2 PySem.MeetsSeq3

theorem tuple_lt_ints (l b : Addr) (items items2 : Array Value) (n n2 : Nat) (dd dd2 : Option Addr) (sl sl2 : Array (Option Value)) (ns ms : List Int) (hi : IntsAre items.toList ns) (hj : IntsAre items2.toList ms) :
    Meets (Builtin.«tuple.__lt__» ⟨[.ref l, .ref b], []⟩)
      (fun _ R s => s.heap.get? l = some { cls := .type "tuple", dict := dd, data := .seq items n, slots := sl } ∧ s.heap.get? b = some { cls := .type "tuple", dict := dd2, data := .seq items2 n2, slots := sl2 } ∧
        R (.ok (.ret (.bool (lexLt ns ms)))) s) :=
  .of_wp fun prog w A R s h => by
    obtain ⟨hp, g, d, tk, os⟩ := s; obtain ⟨hl, hb, h⟩ := h
    have f2 := AutoSeq1.sub_tuple_tuple
    have z1 : items.size = ns.length := by rw [← hi.length]; simp
    have z2 : items2.size = ms.length := by rw [← hj.length]; simp
    wp_walk using wpAny_loadPart' hl, wpAny_loadPart' hb, wpAny_forIn_list _ (fun rest b s' => b.1 = none ∧ s' = ⟨hp, g, d, tk, os⟩ ∧ ∃ (vs ws : List Value) (ns' ms' : List Int), rest = vs.zip ws ∧
      IntsAre vs ns' ∧ IntsAre ws ms' ∧ ns'.length + items2.size = ms'.length + items.size ∧ R (.ok (.ret (.bool (lexLt ns' ms')))) ⟨hp, g, d, tk, os⟩) _
    case turn =>
      rintro ⟨y, x⟩ rest b s' ⟨hb', rfl, vs, ws, ns', ms', hz, hvi, hwi, hlen, hR⟩
      cases hvi with
      | nil => rw [List.zip_nil_left] at hz; cases hz
      | cons a t hvi' =>
        cases hwi with
        | nil => rw [List.zip_nil_right] at hz; cases hz
        | cons c u hwi' =>
          rw [List.zip_cons_cons] at hz
          injection hz with hyx hrest
          injection hyx with hy hx
          subst hy hx
          rw [lexLt_cons] at hR
          simp only [List.length_cons] at hlen
          obtain ⟨e, he, hiff⟩ := eqAt_int A.in1 ⟨hp, g, d, tk, os⟩ a t c u
          refine wpAny_bind (he prog w _ _ ?_)
          cases e with
          | true =>
            rw [if_pos (hiff.mp rfl)] at hR
            wp_walk
            exact ⟨rfl, rfl, _, _, _, _, hrest, hvi', hwi', by omega, hR⟩
          | false =>
            rw [if_neg (fun q => absurd (hiff.mpr q) Bool.false_ne_true)] at hR
            have hri := rcLt_int A.in1 ⟨hp, g, d, tk, os⟩ a t c u prog w
            wp_walk using hri
            exact ⟨_, rfl, by simpa using hR⟩
    case fin =>
      rintro ⟨b1, b2⟩ s' ⟨hb', rfl, vs, ws, ns', ms', hz, hvi, hwi, hlen, hR⟩
      simp only at hb'
      subst hb'
      have hv : lexLt ns' ms' = decide (items.size < items2.size) := by
        cases hvi with
        | nil =>
          cases hwi with
          | nil =>
            simp only [List.length_nil] at hlen
            rw [lexLt_nil_nil]
            exact (decide_eq_false (by omega)).symm
          | cons c u hw =>
            simp only [List.length_nil, List.length_cons] at hlen
            rw [lexLt_nil_cons]
            exact (decide_eq_true (by omega)).symm
        | cons a t hv =>
          cases hwi with
          | nil =>
            simp only [List.length_nil, List.length_cons] at hlen
            rw [lexLt_cons_nil]
            exact (decide_eq_false (by omega)).symm
          | cons c u hw =>
            rw [List.zip_cons_cons] at hz
            cases hz
      rw [hv] at hR
      wp_walk
      exact ⟨_, rfl, by simpa [Builtin.Tuple.tupleCompareSizes] using hR⟩
    case h =>
      exact ⟨rfl, rfl, items.toList, items2.toList, ns, ms, rfl, hi, hj, by omega, h⟩
end

section
variable {prog : Program} {w : World} {A : Around} {E : Value → Shared → Prop} {s : Shared}

theorem lt_tupInts {l b : Addr} {items items2 : Array Value} {ns ms : List Int} {Q : Value → Shared → Prop} (hl : IsTup s.heap l items) (hb : IsTup s.heap b items2) (hi : IntsAre items.toList ns) (hj : IntsAre items2.toList ms)
    (hu : A.units < cLine) (h : Q (.bool (lexLt ns ms)) s) : wpAny (model prog w) A (compareOp .Lt (.ref l) (.ref b)) Q E s := by
  obtain ⟨⟨cls, dd, data, sl⟩, ho, hc, n, hd⟩ := id hl
  obtain ⟨⟨cls2, dd2, data2, sl2⟩, ho2, hc2, n2, hd2⟩ := id hb
  simp only at hc hd hc2 hd2
  subst hc hd hc2 hd2
  exact richCompare_meets_room (op := .Lt) ⟨_, ho, rfl⟩ ⟨_, ho2, rfl⟩ PySem.F.slot_tuple_lt PySem.F.entry_tuple_lt (PySem.F.args_tuple_lt_2 _ _) (tuple_lt_ints l b items items2 n n2 dd dd2 sl sl2 ns ms hi hj)
    ⟨ho, ho2, show Value.bool (lexLt ns ms) ≠ Value.notImplemented ∧ Q (.bool (lexLt ns ms)) s from ⟨(fun x => nomatch x), h⟩⟩ hu

/-- t + u, t not empty -/
theorem cat_tup {t b : Addr} {vs ws : List Value} {Q : Value → Shared → Prop} (ht : IsTup s.heap t vs.toArray) (hb : IsTup s.heap b ws.toArray) (hv : vs ≠ [])
    (h1 : ws = [] → Q (.ref t) s) (h2 : ws ≠ [] → Q (.ref s.heap.objs.size) { s with heap := s.heap.push { cls := .type "tuple", data := .seq (vs ++ ws).toArray } })
    (hsz : vs.length + ws.length ≤ sizeLine) : wpAny (model prog w) A (binaryOp .Add (.ref t) (.ref b)) Q E s := by
  obtain ⟨⟨cls, dd, data, sl⟩, ho, hc, n, hd⟩ := id ht
  obtain ⟨⟨cls2, dd2, data2, sl2⟩, ho2, hc2, n2, hd2⟩ := id hb
  simp only at hc hd hc2 hd2
  subst hc hd hc2 hd2
  have e : vs.toArray ++ ws.toArray = (vs ++ ws).toArray := by simp
  by_cases hw : ws = []
  · exact concat_meets ⟨_, ho, rfl⟩ ⟨_, ho2, rfl⟩ noFill_tuple_add seq_tuple_add PySem.F.slot_tuple_add PySem.F.entry_tuple_add (PySem.F.args_tuple_add_2 _ _)
      (tuple_addW1 t b vs.toArray ws.toArray n n2 dd dd2 sl sl2 (by simpa using hv) (by simp [hw])) ⟨ho, ho2, h1 hw⟩
  · refine concat_meets ⟨_, ho, rfl⟩ ⟨_, ho2, rfl⟩ noFill_tuple_add seq_tuple_add PySem.F.slot_tuple_add PySem.F.entry_tuple_add (PySem.F.args_tuple_add_2 _ _)
      (tuple_addW2 t b vs.toArray ws.toArray n n2 dd dd2 sl sl2 (by simpa using hv) (by simpa using hw) (by rw [List.size_toArray, List.size_toArray]; exact hsz)) ⟨ho, ho2, ?_⟩
    rw [e]
    exact h2 hw

/-! ### t[a:b], not the whole -/
/-- a slice's bound as a place among n (d where it is left out) -/
def sIx (n d : Nat) : Option Int → Nat
  | none => d
  | some v => if v < 0 then (v + (n : Int)).toNat else min v.toNat n
theorem sIx_none (n d : Nat) : sIx n d none = d := rfl
theorem sIx_nat (n d k : Nat) : sIx n d (some (k : Int)) = min k n := by
  show (if (k : Int) < 0 then ((k : Int) + (n : Int)).toNat else min (k : Int).toNat n) = min k n
  rw [if_neg (by omega), Int.toNat_natCast]
theorem sIx_le (n d : Nat) (hd : d ≤ n) (o : Option Int) : sIx n d o ≤ n := by
  cases o with
  | none => exact hd
  | some v =>
    show (if v < 0 then (v + (n : Int)).toNat else min v.toNat n) ≤ n
    by_cases hv : v < 0
    · rw [if_pos hv]; omega
    · rw [if_neg hv]; exact Nat.min_le_right _ _
theorem clip_eq (v : Int) (n d : Nat) : (if v < 0 then max (v + (n : Int)) 0 else min v (n : Int)) = ((sIx n d (some v) : Nat) : Int) := by
  show (if v < 0 then max (v + (n : Int)) 0 else min v (n : Int)) = (((if v < 0 then (v + (n : Int)).toNat else min v.toNat n) : Nat) : Int)
  by_cases hv : v < 0
  · simp only [if_pos hv]; omega
  · simp only [if_neg hv]; omega
theorem adjust_gen (lo hi : Option Int) (n : Nat) : Builtin.Slice.sliceAdjust lo hi 1 (n : Int) = (((sIx n 0 lo : Nat) : Int), ((sIx n n hi : Nat) : Int)) := by
  have h1 : ¬ ((1 : Int) < 0) := by omega
  unfold Builtin.Slice.sliceAdjust
  simp only [h1, if_false]
  refine Prod.ext ?_ ?_
  · cases lo with
    | none => rfl
    | some v => exact clip_eq v n 0
  · cases hi with
    | none => rfl
    | some v => exact clip_eq v n n
theorem places_gen (i j : Nat) : Builtin.Slice.slicePlaces (i : Int) (j : Int) 1 = j - i := by
  unfold Builtin.Slice.slicePlaces
  have h1 : (1 : Int) > 0 := by omega
  simp only [h1, if_true, Int.ediv_one]
  split <;> omega
theorem slicePart_ {v : Value} {o : Option Int} {Q : Option Int → Shared → Prop} (p : IsPart v o) (h : Q o s) : wpAny (model prog w) A (Builtin.Slice.slicePartIndex v) Q E s := by
  cases p with
  | none => exact slicePart_none h
  | int i t => exact slicePart_int h
theorem sliceApplied_gen {sl : Addr} {vl vu : Value} {lo hi : Option Int} {n : Nat} {Q : Int × Int × Nat → Shared → Prop} (hs : s.heap.IsSliceOf sl vl vu .none) (pl : IsPart vl lo) (pu : IsPart vu hi)
    (h : Q (((sIx n 0 lo : Nat) : Int), 1, sIx n n hi - sIx n 0 lo) s) : wpAny (model prog w) A (Builtin.Slice.sliceApplied (.ref sl) (pure (n : Int))) Q E s := by
  obtain ⟨os, hos, hcs, hds⟩ := id hs
  unfold Builtin.Slice.sliceApplied Builtin.Slice.sliceFields
  refine wpAny_bind (wpAny_bind (wpAny_field hos hds (x := vl) rfl (wpAny_bind (wpAny_field hos hds (x := vu) rfl (wpAny_bind (wpAny_field hos hds (x := .none) rfl (wpAny_pure ?_)))))))
  refine wpAny_bind (slicePart_none ?_)
  show wpAny _ _ (if ((1 : Int) == 0) = true then _ else _) _ _ s
  rw [if_neg (by decide)]
  refine wpAny_bind (slicePart_ pl (wpAny_bind (slicePart_ pu (wpAny_bind (wpAny_pure ?_)))))
  show wpAny _ _ (match Builtin.Slice.sliceAdjust lo hi 1 (n : Int) with | (lo, hi) => pure (lo, (1 : Int), Builtin.Slice.slicePlaces lo hi 1)) _ _ s
  rw [adjust_gen lo hi n]
  show wpAny _ _ (pure (((sIx n 0 lo : Nat) : Int), (1 : Int), Builtin.Slice.slicePlaces ((sIx n 0 lo : Nat) : Int) ((sIx n n hi : Nat) : Int) 1)) _ _ s
  rw [places_gen]
  exact wpAny_pure h
theorem pick_gen (xs : Array Value) (i k : Nat) : ((List.range k).filterMap fun (m : Nat) => xs[((i : Int) + (m : Int) * 1).toNat]?).toArray = ((xs.toList.drop i).take k).toArray := by
  have e : (fun (m : Nat) => xs[((i : Int) + (m : Int) * 1).toNat]?) = fun m => xs[i + m]? := by
    funext m
    have : ((i : Int) + (m : Int) * 1).toNat = i + m := by omega
    rw [this]
  rw [e]
  have := pick_run xs i k
  rw [List.filterMap_map] at this
  have e2 : ((fun x => xs[x]?) ∘ fun x => i + x) = fun m => xs[i + m]? := rfl
  rw [e2] at this
  rw [this]

theorem getItem_tuple_cut {t sl : Addr} {items : Array Value} {vl vu : Value} {lo hi : Option Int} {Q : Value → Shared → Prop} (ht : IsTup s.heap t items) (hs : s.heap.IsSliceOf sl vl vu .none) (pl : IsPart vl lo) (pu : IsPart vu hi)
    (hw : ¬ (sIx items.size 0 lo = 0 ∧ sIx items.size items.size hi = items.size))
    (h : Q (.ref s.heap.objs.size) { s with heap := s.heap.push { cls := .type "tuple", data := .seq ((items.toList.drop (sIx items.size 0 lo)).take (sIx items.size items.size hi - sIx items.size 0 lo)).toArray } })
    (hsz : items.size ≤ sizeLine) : wpAny (model prog w) A (getItem (.ref t) (.ref sl)) Q E s := by
  have htake : sizeOk (.seq ((items.toList.drop (sIx items.size 0 lo)).take (sIx items.size items.size hi - sIx items.size 0 lo)).toArray) := by
    show ((items.toList.drop (sIx items.size 0 lo)).take (sIx items.size items.size hi - sIx items.size 0 lo)).toArray.size ≤ sizeLine
    rw [List.size_toArray, List.length_take, List.length_drop, Array.length_toList]
    omega
  have hj : sIx items.size items.size hi ≤ items.size := sIx_le _ _ (Nat.le_refl _) hi
  obtain ⟨os, hos, hcs, hds⟩ := id hs
  have hTs : s.TypeIs (.ref sl) "slice" := ⟨os, hos, hcs⟩
  unfold getItem
  try with_reducible refine wpAny_holding ?_
  first | refine wpAny_bind (wpAny_pure ?_) | skip
  refine wpAny_bind (wpAny_sequenceKey ht.typeIs (by decide) ?_)
  refine wpAny_bind (wpAny_callSpecial?_slot (name := Str.ofString "__getitem__") ht.typeIs PyProof.Rows.slot_tuple_getitem
    (wpAny_call_entry PyProof.Rows.slot_tuple_getitem ht.typeIs entry_tuple_getitem ?_ (args_tuple_getitem _ _)))
  show wpAny _ _ (Builtin.Tuple.tupleItemsOf (.ref t) >>= _) _ _ s
  refine wpAny_bind (tupleItemsOf_ ht ?_)
  refine wpAny_bind (wpAny_typeOf hTs ?_)
  rw [if_pos (by decide)]
  refine wpAny_bind (sliceApplied_gen hs pl pu ?_)
  have hno : ¬ ((((sIx items.size 0 lo : Nat) : Int) == 0 && (1 : Int) == 1 && (sIx items.size items.size hi - sIx items.size 0 lo) == items.size) = true) := by
    intro q
    rw [Bool.and_eq_true, Bool.and_eq_true] at q
    have q1 : ((sIx items.size 0 lo : Nat) : Int) = 0 := eq_of_beq q.1.1
    have q2 : sIx items.size items.size hi - sIx items.size 0 lo = items.size := eq_of_beq q.2
    exact hw ⟨by omega, by omega⟩
  show wpAny _ _ (if (((sIx items.size 0 lo : Nat) : Int) == 0 && (1 : Int) == 1 && (sIx items.size items.size hi - sIx items.size 0 lo) == items.size) = true then _ else _) _ _ s
  rw [if_neg hno, pick_gen]
  first
    | exact wpAny_bind (m := Builtin.Tuple.tupleExact _) (wpAny_newObj_type (wpAny_pure ⟨_, rfl, wpAny_pure h⟩) htake)
    | exact wpAny_bind (m := Builtin.Tuple.tupleExact _) (wpAny_newObj_type (wpAny_bind (wpAny_pure (wpAny_pure ⟨_, rfl, wpAny_pure h⟩))) htake)
    | exact wpAny_bind (wpAny_bind (m := Builtin.Tuple.tupleExact _) (wpAny_newObj_type (wpAny_pure (wpAny_pure ⟨_, rfl, wpAny_pure h⟩)) htake))
    | exact wpAny_bind (wpAny_bind (m := Builtin.Tuple.tupleExact _) (wpAny_newObj_type (wpAny_pure ⟨_, rfl, wpAny_pure h⟩) htake))
end
end HT

namespace L2
open PySem PySem.Spec PyProof.Rows

/-! ### the parts of a slice -/
abbrev TO := St → Hp → (Option Int → Hp → Prop) → Prop
/-- a slice's part (left out, or an int) -/
def PO (X : Cx) (e : Option Expr) (t : TO) : Prop :=
  ∀ (pins : List (Addr × Obj)) (s : Shared) (σ : St) (H : Hp) (Q : Option Int → Hp → Prop), Inv X pins σ H s → t σ H Q →
    wpAny (model X.prog X.w) X.A (evalPart e X.env) (fun u s' => ∃ o H', Inv X pins σ H' s' ∧ IsPart u o ∧ Q o H') X.xe s
def tNoPart : TO := fun _ H Q => Q none H
def tPart (t : TE) : TO := fun σ H Q => t σ H fun x H1 => ∃ i, x = .int i ∧ Q (some i) H1

theorem intsAre_of {ns : List Int} : ∀ {us : List Value}, Vals (ns.map V.int) us → IntsAre us ns := by
  induction ns with
  | nil => intro us r; rw [List.map_nil] at r; cases r; exact .nil
  | cons n ns ih =>
    intro us r
    rw [List.map_cons] at r
    cases r with
    | cons r1 r2 =>
      obtain ⟨t, e⟩ := r1
      subst e
      exact .cons n t (ih r2)

section
variable {X : Cx} {e : Expr} {te : TE} {lo hi : Option Expr} {tl th : TO} {pos p2 : Pos}

theorem po_none : PO X none tNoPart := by
  intro pins s σ H Q I h
  rw [evalPart_none]
  exact wpAny_pure ⟨none, H, I, .none, h⟩
theorem po_some (h : PE X e te) : PO X (some e) (tPart te) := by
  intro pins s σ H Q I hw
  rw [evalPart_some]
  refine thn (h pins s σ H _ I hw) fun u s1 ⟨x, H1, I1, r1, q1⟩ => ?_
  obtain ⟨i, rfl, q⟩ := q1
  obtain ⟨t, rfl⟩ := r1
  exact ⟨some i, H1, I1, .int i t, q⟩

/-- what a slice of a value is, by values: the slice object stands at sl -/
def SlR (X : Cx) (r : V → Option Int → Option Int → Hp → VK → Prop) : Prop :=
  ∀ (pins : List (Addr × Obj)) (s : Shared) (σ : St) (H : Hp) (x : V) (v vl vu : Value) (lo hi : Option Int) (sl : Addr) (Q : VK), Inv X pins σ H s → RelV x v → s.heap.IsSliceOf sl vl vu .none → IsPart vl lo → IsPart vu hi → r x lo hi H Q →
    ∃ T id, typeLookup (.type T) "__getitem__" = pure (some (.builtin id)) ∧ s.TypeIs v T ∧ wpAny (model X.prog X.w) X.A (getItem v (.ref sl)) (EP X pins σ Q) X.xe s
theorem SlR.or {r r' : V → Option Int → Option Int → Hp → VK → Prop} (h : SlR X r) (h' : SlR X r') : SlR X (fun x lo hi H Q => r x lo hi H Q ∨ r' x lo hi H Q) := by
  intro pins s σ H x v vl vu lo hi sl Q I rx hs pl pu q
  rcases q with q | q
  · exact h pins s σ H x v vl vu lo hi sl Q I rx hs pl pu q
  · exact h' pins s σ H x v vl vu lo hi sl Q I rx hs pl pu q
def tSl (r : V → Option Int → Option Int → Hp → VK → Prop) (te : TE) (tl th : TO) : TE := fun σ H Q => te σ H fun x H1 => tl σ H1 fun l H2 => th σ H2 fun u H3 => r x l u H3 Q
/-- a[lo:hi], any a -/
theorem pe_slice {r : V → Option Int → Option Int → Hp → VK → Prop} (hr : SlR X r) (he : PE X e te) (hl : PO X lo tl) (hu : PO X hi th) : PE X (.Subscript e (.Slice lo hi none p2) pos) (tSl r te tl th) := by
  intro pins s σ H Q I h
  refine Subscript_ (thn (he pins s σ H _ I h) fun v s1 ⟨x, H1, I1, r1, q1⟩ => ?_)
  refine wpAny_Slice (thn (hl pins s1 σ H1 _ I1 q1) fun vl s2 ⟨l, H2, I2, pl, q2⟩ => thn (hu pins s2 σ H2 _ I2 q2) fun vu s3 ⟨u, H3, I3, pu, q3⟩ => ?_)
  rw [evalPart_none]
  refine wpAny_pure ?_
  have I4 : Inv X pins σ H3 { s3 with heap := s3.heap.push { cls := .type "slice", data := .fields #[vl, vu, .none] } } := I3.kept (t' := s3.toks) fun b ob q => Heap.get?_push_of_some _ q
  obtain ⟨T, id, hT, ht, hg⟩ := hr pins { s3 with heap := s3.heap.push { cls := .type "slice", data := .fields #[vl, vu, .none] } } σ H3 x v vl vu l u s3.heap.objs.size Q I4 r1 (Heap.IsSliceOf.new ..) pl pu q3
  show wpAny (model X.prog X.w) X.A (subscriptTail e (.Slice lo hi none p2) v (.ref s3.heap.objs.size)) (EP X pins σ Q) X.xe { s3 with heap := s3.heap.push { cls := .type "slice", data := .fields #[vl, vu, .none] } }
  exact tail_any (ops := [.ref s3.heap.objs.size, v]) ht hT hg (by with_unfolding_all rfl)

/-- the items of xs[lo:hi] -/
def cutV (xs : List V) (lo hi : Option Int) : List V := (xs.drop (HT.sIx xs.length 0 lo)).take (HT.sIx xs.length xs.length hi - HT.sIx xs.length 0 lo)
theorem cutV_length (xs : List V) (lo hi : Option Int) : (cutV xs lo hi).length ≤ xs.length := by
  unfold cutV
  rw [List.length_take, List.length_drop]
  omega
/-- t[lo:hi], not the whole of it (the whole would be t itself) -/
def rSlT (K : PySem.W.Frag) : V → Option Int → Option Int → Hp → VK → Prop := fun x lo hi H Q => ∃ a xs, x = .ref a ∧ SqT K H a xs ∧
  ¬ (HT.sIx xs.length 0 lo = 0 ∧ HT.sIx xs.length xs.length hi = xs.length) ∧ ∀ p, H p = none → Q (.ref p) (upd H p (.tup (cutV xs lo hi)))
theorem sl_tup : SlR X (rSlT X.K) := by
  intro pins s σ H x v vl vu lo hi sl Q I rx hs pl pu h
  obtain ⟨a, xs, rfl, hx, hw, q⟩ := h
  cases rx
  obtain ⟨its, r, ht, hz⟩ := I.tuple hx
  have hlen : its.toArray.size = xs.length := by rw [List.size_toArray]; exact r.length.symm
  refine ⟨"tuple", _, PyProof.Rows.slot_tuple_getitem.lookup, ht.typeIs, ?_⟩
  refine HT.getItem_tuple_cut ht hs pl pu (by rw [hlen]; exact hw) ?_ (by rw [hlen]; exact hz)
  rw [hlen]
  refine ⟨.ref s.heap.objs.size, _, I.laid (t' := s.toks) (o := .tup (cutV xs lo hi)) (fun b ob q => Heap.get?_push_of_some _ q) (Nat.le_refl _) ?_, rfl, q _ (I.hok.fresh (Nat.le_refl _))⟩
  exact ⟨Nat.le_trans (cutV_length xs lo hi) hz, _, (r.drop (HT.sIx xs.length 0 lo)).take (HT.sIx xs.length xs.length hi - HT.sIx xs.length 0 lo), IsTup.new _ _⟩

/-! ### t < u, t + u -/
def rLtT (K : PySem.W.Frag) : R2 := fun x y H Q => ∃ a b ns ms, x = .ref a ∧ y = .ref b ∧ SqT K H a (ns.map V.int) ∧ SqT K H b (ms.map V.int) ∧ Q (.bl (HT.lexLt ns ms)) H
theorem op_ltT (hu : X.A.units < cLine) : OpR X (compareOp .Lt) (rLtT X.K) := by
  intro pins s σ H x y v u Q I rx ry h
  obtain ⟨a, b, ns, ms, rfl, rfl, ha, hb, q⟩ := h
  cases rx
  cases ry
  obtain ⟨its, r1, p1, _⟩ := I.tuple ha
  obtain ⟨its2, r2, p2, _⟩ := I.tuple hb
  have i1 : IntsAre its.toArray.toList ns := intsAre_of r1
  have i2 : IntsAre its2.toArray.toList ms := intsAre_of r2
  exact HT.lt_tupInts p1 p2 i1 i2 hu ⟨.bl (HT.lexLt ns ms), H, I, rfl, q⟩
/-- t + u, t not empty: u empty gives t itself -/
def rCatT (K : PySem.W.Frag) : R2 := fun x y H Q => ∃ a b xs ys, x = .ref a ∧ y = .ref b ∧ SqT K H a xs ∧ SqT K H b ys ∧ xs ≠ [] ∧ xs.length + ys.length ≤ sizeLine ∧
  (ys = [] → Q (.ref a) H) ∧ (ys ≠ [] → ∀ p, H p = none → Q (.ref p) (upd H p (.tup (xs ++ ys))))
theorem Vals.nil_iff {xs : List V} {us : List Value} (r : Vals xs us) : us = [] ↔ xs = [] := by
  cases r with
  | nil => simp
  | cons _ _ => simp
theorem op_catT : OpR X (binaryOp .Add) (rCatT X.K) := by
  intro pins s σ H x y v u Q I rx ry h
  obtain ⟨a, b, xs, ys, rfl, rfl, ha, hb, hx, hz, q1, q2⟩ := h
  cases rx
  cases ry
  obtain ⟨its, r1, p1, _⟩ := I.tuple ha
  obtain ⟨its2, r2, p2, _⟩ := I.tuple hb
  refine HT.cat_tup p1 p2 (fun z => hx (r1.nil_iff.mp z)) (fun z => ⟨.ref a, H, I, rfl, q1 (r2.nil_iff.mp z)⟩) (fun z => ?_) (by rw [← r1.length, ← r2.length]; exact hz)
  refine ⟨.ref s.heap.objs.size, _, I.laid (t' := s.toks) (o := .tup (xs ++ ys)) (fun b ob q => Heap.get?_push_of_some _ q) (Nat.le_refl _) ?_, rfl, q2 (fun w => z (r2.nil_iff.mpr w)) _ (I.hok.fresh (Nat.le_refl _))⟩
  exact ⟨by rw [List.length_append]; exact hz, _, r1.append r2, IsTup.new _ _⟩
/-- tuple(t) -/
theorem call_tupleT : CallR X (.type "tuple") (fun xs H Q => ∃ a ys, xs = [.ref a] ∧ SqT X.K H a ys ∧ Q (.ref a) H) := by
  intro pins s σ H xs us Q I r h
  obtain ⟨a, ys, rfl, ha, q⟩ := h
  obtain ⟨u, rfl, ru⟩ := vals1 r
  cases ru
  obtain ⟨its, _, p1, _⟩ := I.tuple ha
  exact call_tuple_same (items := its.toArray) p1 ⟨.ref a, H, I, rfl, q⟩
end
end L2

namespace L2
open PySem PySem.Spec PyProof.Rows

/-! ### places -/
/-- the place that an index of any sign means -/
def ixN (n : Nat) (i : Int) : Option Nat := if 0 ≤ i then (if i < n then some i.toNat else none) else if -(n : Int) ≤ i then some (i + n).toNat else none
def atI {α : Type} (xs : List α) (i : Int) : Option α := (ixN xs.length i).bind fun j => xs[j]?
theorem ixN_seq {n : Nat} {i : Int} {j : Nat} (h : ixN n i = some j) : seqIndex? i n = some j ∧ j < n ∧ -(n : Int) ≤ i ∧ i < n := by
  unfold ixN at h
  by_cases h0 : 0 ≤ i
  · rw [if_pos h0] at h
    by_cases h1 : i < n
    · rw [if_pos h1] at h
      have e : i.toNat = j := Option.some.inj h
      exact ⟨by rw [seqIndex_of h0 h1, e], by omega, by omega, h1⟩
    · rw [if_neg h1] at h; cases h
  · rw [if_neg h0] at h
    by_cases h1 : -(n : Int) ≤ i
    · rw [if_pos h1] at h
      have e : (i + n).toNat = j := Option.some.inj h
      exact ⟨by rw [seqIndex_neg (by omega) h1, e], by omega, h1, by omega⟩
    · rw [if_neg h1] at h; cases h
theorem atI_get {α : Type} {xs : List α} {i : Int} {v : α} (h : atI xs i = some v) : ∃ j, seqIndex? i xs.length = some j ∧ xs[j]? = some v ∧ j < xs.length ∧ -(xs.length : Int) ≤ i ∧ i < xs.length := by
  unfold atI at h
  cases e : ixN xs.length i with
  | none => rw [e] at h; cases h
  | some j =>
    rw [e] at h
    obtain ⟨h1, h2, h3, h4⟩ := ixN_seq e
    exact ⟨j, h1, h, h2, h3, h4⟩
theorem atI_nat {α : Type} {xs : List α} {j : Nat} {v : α} (h : xs[j]? = some v) : atI xs (j : Int) = some v := by
  have hj : j < xs.length := (List.getElem?_eq_some_iff.mp h).1
  have e : ixN xs.length (j : Int) = some j := by
    unfold ixN
    rw [if_pos (by omega), if_pos (by omega)]; simp
  unfold atI; rw [e]; exact h
theorem atI_last {α : Type} (xs : List α) (v : α) : atI (xs ++ [v]) (-1) = some v := by
  have hl : (xs ++ [v]).length = xs.length + 1 := by simp
  have e : ixN (xs ++ [v]).length (-1) = some xs.length := by
    unfold ixN
    rw [hl, if_neg (by decide), if_pos (by omega)]
    congr 1
    omega
  unfold atI
  rw [e]
  show (xs ++ [v])[xs.length]? = some v
  simp

/-! ### what may be subscripted -/
/-- what stands as an index of a plain subscript -/
def PlainIx (b : Expr) : Prop := ∀ o i, subscripted b false o i = operate [o, i] (getItem o i)
/-- a subscript by values -/
def IxR (X : Cx) (r : R2) : Prop :=
  ∀ (value slice : Expr) (pins : List (Addr × Obj)) (s : Shared) (σ : St) (H : Hp) (x y : V) (v u : Value) (Q : VK), Inv X pins σ H s → RelV x v → RelV y u → r x y H Q →
    subscripted slice false v u = operate [v, u] (getItem v u) → wpAny (model X.prog X.w) X.A (subscriptTail value slice v u) (EP X pins σ Q) X.xe s
/-- a call of a builtin's method by values: the receiver, the arguments -/
def MtR (X : Cx) (id : String) (r : V → List V → Hp → VK → Prop) : Prop :=
  ∀ (pins : List (Addr × Obj)) (s : Shared) (σ : St) (H : Hp) (x : V) (xs : List V) (v : Value) (us : List Value) (Q : VK), Inv X pins σ H s → RelV x v → Vals xs us → r x xs H Q →
    wpAny (model X.prog X.w) X.A (call (.builtin id) (v :: us)) (EP X pins σ Q) X.xe s
section
variable {X : Cx} {a b : Expr} {ta tb : TE} {pos : Pos}
theorem IxR.or {r r' : R2} (h : IxR X r) (h' : IxR X r') : IxR X (fun x y H Q => r x y H Q ∨ r' x y H Q) := by
  intro value slice pins s σ H x y v u Q I rx ry q hs
  rcases q with q | q
  · exact h value slice pins s σ H x y v u Q I rx ry q hs
  · exact h' value slice pins s σ H x y v u Q I rx ry q hs
theorem MtR.or {id : String} {r r' : V → List V → Hp → VK → Prop} (h : MtR X id r) (h' : MtR X id r') : MtR X id (fun x xs H Q => r x xs H Q ∨ r' x xs H Q) := by
  intro pins s σ H x xs v us Q I rx rs q
  rcases q with q | q
  · exact h pins s σ H x xs v us Q I rx rs q
  · exact h' pins s σ H x xs v us Q I rx rs q
/-- a[b] -/
theorem pe_ix {r : R2} (hr : IxR X r) (ha : PE X a ta) (hb : PE X b tb) (hs : PlainIx b) : PE X (.Subscript a b pos) (tOp r ta tb) := by
  intro pins s σ H Q I h
  exact Subscript_ (binT ha hb I h fun v u s2 x y H2 I2 rx ry q => hr a b pins s2 σ H2 x y v u Q I2 rx ry q (hs _ _))

def rIxL (K : PySem.W.Frag) : R2 := fun x y H Q => ∃ p xs i v, x = .ref p ∧ y = .int i ∧ SqL K H p xs ∧ atI xs i = some v ∧ Q v H
def rIxT (K : PySem.W.Frag) : R2 := fun x y H Q => ∃ p xs i v, x = .ref p ∧ y = .int i ∧ SqT K H p xs ∧ atI xs i = some v ∧ Q v H
def rIxS : R2 := fun x y H Q => ∃ z i c, x = .str z ∧ y = .int i ∧ z.length ≤ sizeLine ∧ atI z.cps.toList i = some c ∧ Q (.str ⟨#[c]⟩) H
theorem ix_list : IxR X (rIxL X.K) := by
  intro value slice pins s σ H x y v u Q I rx ry h hs
  obtain ⟨p, xs, i, z, rfl, rfl, hq, he, q⟩ := h
  cases rx
  obtain ⟨t, rfl⟩ := ry
  obtain ⟨its, r, pl, hz⟩ := I.list hq
  obtain ⟨j, h1, h2, h3, h4, h5⟩ := atI_get he
  obtain ⟨w, ew, rw'⟩ := r.get h2
  have hl := r.length
  have hn := line63
  have fin : EP X pins σ Q w s := ⟨z, H, I, rw', q⟩
  by_cases h0 : 0 ≤ i
  · have hj : i.toNat = j := by
      rw [seqIndex_of h0 h5] at h1
      exact Option.some.inj h1
    exact item_listR pl.isList h0 (by omega) (by rw [hj]; simpa using ew) fin hs
  · have hj : (i + (its.toArray.size : Int)).toNat = j := by
      rw [seqIndex_neg (by omega) h4] at h1
      rw [List.size_toArray, ← hl]
      exact Option.some.inj h1
    exact subscriptTail_builtinR (x := w) pl.isList.typeIs slot_list_getitem.lookup
      (wpAny_getItem_list_neg (Q := fun r s' => r = w ∧ EP X pins σ Q r s') pl.isList (by omega) (by rw [List.size_toArray] <;> omega) (by omega) (by rw [hj]; simpa using ew) ⟨rfl, fin⟩) hs
theorem ix_tup : IxR X (rIxT X.K) := by
  intro value slice pins s σ H x y v u Q I rx ry h hs
  obtain ⟨p, xs, i, z, rfl, rfl, hq, he, q⟩ := h
  cases rx
  obtain ⟨t, rfl⟩ := ry
  obtain ⟨its, r, pl, hz⟩ := I.tuple hq
  obtain ⟨j, h1, h2, h3, h4, h5⟩ := atI_get he
  obtain ⟨w, ew, rw'⟩ := r.get h2
  have hl := r.length
  have hn := line63
  have fin : EP X pins σ Q w s := ⟨z, H, I, rw', q⟩
  exact subscriptTail_builtinR (x := w) pl.typeIs slot_tuple_getitem.lookup
    (getItem_tuple (j := j) (Q := fun r s' => r = w ∧ EP X pins σ Q r s') pl (by omega) (by omega) (by rw [List.size_toArray, ← hl]; exact h1) (by simpa using ew) ⟨rfl, fin⟩) hs
theorem ix_str : IxR X rIxS := by
  intro value slice pins s σ H x y v u Q I rx ry h hs
  obtain ⟨z, i, c, rfl, rfl, hz, he, q⟩ := h
  obtain ⟨t, rfl⟩ := rx
  obtain ⟨t', rfl⟩ := ry
  obtain ⟨j, h1, h2, h3, h4, h5⟩ := atI_get he
  have hl : z.cps.toList.length = z.length := by simp [Str.length]
  rw [hl] at h1 h4 h5
  have hn := line63
  exact tail_any (typeIs_str s z t) slot_str_getitem.lookup (getItem_str (c := c) (by
    have e1 : decide (i < -(2 ^ 63 : Int)) = false := decide_eq_false (by omega)
    have e2 : decide (i ≥ 2 ^ 63) = false := decide_eq_false (by omega)
    rw [e1, e2, Bool.or_false]) (by rw [h1]; simpa using h2) ⟨.str ⟨#[c]⟩, H, I.tok _, ⟨_, rfl⟩, q⟩) hs
/-- list, tuple or str -/
def rIx (K : PySem.W.Frag) : R2 := fun x y H Q => rIxL K x y H Q ∨ rIxT K x y H Q ∨ rIxS x y H Q
theorem ix_seq : IxR X (rIx X.K) := ix_list.or (ix_tup.or ix_str)

/-! ### xs[i] = v, any sign -/
/-- the list's object behind a store -/
theorem mapSeq_set (its : List Value) (n j : Nat) (u : Value) : Obj.mapSeq (·.setIfInBounds j u) { cls := .type "list", data := .seq its.toArray n } = { cls := .type "list", data := .seq (its.set j u).toArray n } := by
  simp [Obj.mapSeq]
theorem Inv.lst {pins : List (Addr × Obj)} {σ : St} {H : Hp} {s : Shared} {p : Addr} {xs : List V} (I : Inv X pins σ H s) (h : H p = some (.lst xs)) :
    ∃ (its : List Value) (n : Nat), Vals xs its ∧ s.heap.get? p = some { cls := .type "list", data := .seq its.toArray n } ∧ xs.length ≤ sizeLine := by
  obtain ⟨z, its, n, r, e⟩ := I.hok p _ h
  exact ⟨its, n, r, e, z⟩
/-- the list at p is written by an update of its object -/
theorem Inv.lstUpd {pins : List (Addr × Obj)} {σ : St} {H : Hp} {s : Shared} {p : Addr} {xs ys : List V} {its its' : List Value} {n n' : Nat} {f : Obj → Obj} (I : Inv X pins σ H s) (h : H p = some (.lst xs))
    (ho : s.heap.get? p = some { cls := .type "list", data := .seq its.toArray n }) (hf : f { cls := .type "list", data := .seq its.toArray n } = { cls := .type "list", data := .seq its'.toArray n' }) (r : Vals ys its') (hz : ys.length ≤ sizeLine) (t : Nat) :
    Inv X pins σ (upd H p (.lst ys)) { s with heap := s.heap.update p f, toks := t } := by
  have e : (s.heap.update p f).get? p = some { cls := .type "list", data := .seq its'.toArray n' } := by
    rw [Heap.get?_update_self f ho (by rw [hf] <;> rfl), hf]
  refine I.write (x := p) (e := p) (by rw [h]; trivial) (.inl rfl) (fun b u hb q => (Heap.get?_update_other _ _ (Ne.symm hb)).trans q) ⟨_, e⟩ ?_
  exact ⟨hz, its', n', r, e⟩
def rSetL : V → V → V → Hp → (Hp → Prop) → Prop := fun o i v H Q => ∃ p xs k j, o = .ref p ∧ i = .int k ∧ H p = some (.lst xs) ∧ ixN xs.length k = some j ∧ Q (upd H p (.lst (xs.set j v)))
theorem set_list : PSet X rSetL := by
  intro pins s σ H o i v ov iv u Q I ro ri rv h
  obtain ⟨p, xs, k, j, rfl, rfl, hp, hj, q⟩ := h
  cases ro
  obtain ⟨t, rfl⟩ := ri
  obtain ⟨its, n, r, ho, hz⟩ := I.lst hp
  obtain ⟨h1, h2, h3, h4⟩ := ixN_seq hj
  have hl := r.length
  have hn := line63
  have I' : Inv X pins σ (upd H p (.lst (xs.set j v))) { s with heap := s.heap.update p (Obj.mapSeq (·.setIfInBounds j u)) } :=
    I.lstUpd hp ho (mapSeq_set its n j u) (r.set rv j) (by rw [List.length_set]; exact hz) s.toks
  by_cases h0 : 0 ≤ k
  · have hk : k.toNat = j := by
      rw [seqIndex_of h0 h4] at h1
      exact Option.some.inj h1
    exact PySem.W.ki_setAt ho h0 (by omega) (by rw [List.size_toArray, ← hl]; exact h4) (by rw [hk]; exact ⟨_, I', q⟩)
  · have hk : (k + (its.toArray.size : Int)).toNat = j := by
      rw [seqIndex_neg (by omega) h3] at h1
      rw [List.size_toArray, ← hl]
      exact Option.some.inj h1
    exact PySem.W.ki_setBack ho (by omega) (by rw [List.size_toArray, ← hl]; exact h3) (by omega) (by rw [hk]; exact ⟨_, I', q⟩)

/-! ### slices -/
theorem slice_bounds (lo hi : Option Int) (n : Nat) : (sliceBounds lo hi none n).1 = ((HT.sIx n 0 lo : Nat) : Int) ∧ (sliceBounds lo hi none n).2.1 = ((HT.sIx n n hi : Nat) : Int) ∧ (sliceBounds lo hi none n).2.2 = 1 := by
  refine ⟨?_, ?_, rfl⟩
  · cases lo with
    | none => simp [sliceBounds, HT.sIx]
    | some i =>
      simp only [sliceBounds, HT.sIx, Option.getD_none, show (1 : Int) > 0 by decide, if_true]
      by_cases h : i < 0
      · simp only [h, if_true] <;> omega
      · simp only [h, if_false] <;> omega
  · cases hi with
    | none => simp [sliceBounds, HT.sIx]
    | some i =>
      simp only [sliceBounds, HT.sIx, Option.getD_none, show (1 : Int) > 0 by decide, if_true]
      by_cases h : i < 0
      · simp only [h, if_true] <;> omega
      · simp only [h, if_false] <;> omega
theorem slicePick_cut (its : List Value) (lo hi : Option Int) : slicePick its.toArray lo hi none = ((its.drop (HT.sIx its.length 0 lo)).take (HT.sIx its.length its.length hi - HT.sIx its.length 0 lo)).toArray := by
  obtain ⟨h1, h2, h3⟩ := slice_bounds lo hi its.toArray.size
  unfold slicePick
  rw [h1, h2, h3]
  simp only [sliceRange_one, pick_run, List.size_toArray] <;> rfl
/-- xs[lo:hi] of a list: a new list -/
def rSlL (K : PySem.W.Frag) : V → Option Int → Option Int → Hp → VK → Prop := fun x lo hi H Q => ∃ a xs, x = .ref a ∧ SqL K H a xs ∧ ∀ p, H p = none → Q (.ref p) (upd H p (.lst (cutV xs lo hi)))
theorem sl_list : SlR X (rSlL X.K) := by
  intro pins s σ H x v vl vu lo hi sl Q I rx hs pl pu h
  obtain ⟨a, xs, rfl, hx, q⟩ := h
  cases rx
  obtain ⟨its, r, ht, hz⟩ := I.list hx
  have hlen := r.length
  refine ⟨"list", _, slot_list_getitem.lookup, ht.isList.typeIs, ?_⟩
  refine wpAny_getItem_list_slice ht.isList hs pl pu .none (by simp) ?_ (by rw [List.size_toArray] <;> omega)
  rw [slicePick_cut, ← hlen]
  refine ⟨.ref s.heap.objs.size, _, I.laid (t' := s.toks) (o := .lst (cutV xs lo hi)) (fun b ob q => Heap.get?_push_of_some _ q) (Nat.le_refl _) ?_, rfl, q _ (I.hok.fresh (Nat.le_refl _))⟩
  exact ⟨Nat.le_trans (cutV_length xs lo hi) hz, _, 0, (r.drop (HT.sIx xs.length 0 lo)).take (HT.sIx xs.length xs.length hi - HT.sIx xs.length 0 lo), Heap.get?_push_size _ rfl⟩

/-! ### in, not in: flat items -/
def flatV : V → Bool
  | .non => true
  | .bl _ => true
  | .int _ => true
  | .str _ => true
  | _ => false
/-- == of flat values -/
def eqV : V → V → Bool
  | .non, .non => true
  | .bl a, .bl b => a == b
  | .bl a, .int b => (if a then 1 else 0) == b
  | .int a, .bl b => a == (if b then 1 else 0)
  | .int a, .int b => a == b
  | .str a, .str b => a == b
  | _, _ => false
theorem eqAt_V {A : Around} {s : Shared} {y x : V} {u v : Value} (ry : RelV y u) (rx : RelV x v) (fy : flatV y = true) (fx : flatV x = true) : SeqAt.EqAt A s u v (eqV y x) := by
  cases y with
  | non =>
    cases ry
    cases x with
    | non => cases rx; exact SeqAt.EqAt.same _
    | bl b => cases rx; exact SeqAt.EqAt.none_bool b
    | int b => obtain ⟨t, rfl⟩ := rx; exact SeqAt.EqAt.none_int b t
    | str b => obtain ⟨t, rfl⟩ := rx; exact SeqAt.EqAt.none_str b t
    | _ => exact absurd (show false = true from fx) Bool.false_ne_true
  | bl a =>
    cases ry
    cases x with
    | non => cases rx; exact SeqAt.EqAt.bool_none a
    | bl b => cases rx; exact SeqAt.EqAt.bool_bool a b
    | int b => obtain ⟨t, rfl⟩ := rx; exact SeqAt.EqAt.bool_int a b t
    | str b => obtain ⟨t, rfl⟩ := rx; exact SeqAt.EqAt.bool_str a b t
    | _ => exact absurd (show false = true from fx) Bool.false_ne_true
  | int a =>
    obtain ⟨t', rfl⟩ := ry
    cases x with
    | non => cases rx; exact SeqAt.EqAt.int_none a t'
    | bl b => cases rx; exact SeqAt.EqAt.int_bool a t' b
    | int b => obtain ⟨t, rfl⟩ := rx; exact SeqAt.EqAt.int_int a t' b t
    | str b => obtain ⟨t, rfl⟩ := rx; exact SeqAt.EqAt.int_str a t' b t
    | _ => exact absurd (show false = true from fx) Bool.false_ne_true
  | str a =>
    obtain ⟨t', rfl⟩ := ry
    cases x with
    | non => cases rx; exact SeqAt.EqAt.str_none a t'
    | bl b => cases rx; exact SeqAt.EqAt.str_bool a t' b
    | int b => obtain ⟨t, rfl⟩ := rx; exact SeqAt.EqAt.str_int a t' b t
    | str b => obtain ⟨t, rfl⟩ := rx; exact SeqAt.EqAt.str_str a t' b t
    | _ => exact absurd (show false = true from fx) Bool.false_ne_true
  | _ => exact absurd (show false = true from fy) Bool.false_ne_true
/-- the items' answers, read off the values (a value's own answer does not lean on its token) -/
def eqU (x : V) (u : Value) : Bool := match u with
  | .none => eqV .non x
  | .bool b => eqV (.bl b) x
  | .int i _ => eqV (.int i) x
  | .str z _ => eqV (.str z) x
  | _ => false
theorem eqU_of {x y : V} {u : Value} (r : RelV y u) (f : flatV y = true) : eqU x u = eqV y x := by
  cases y with
  | non => cases r; rfl
  | bl b => cases r; rfl
  | int i => obtain ⟨t, rfl⟩ := r; rfl
  | str z => obtain ⟨t, rfl⟩ := r; rfl
  | _ => exact absurd (show false = true from f) Bool.false_ne_true
theorem any_eqU {x : V} : ∀ {xs : List V} {us : List Value}, Vals xs us → xs.all flatV = true → us.any (eqU x) = xs.any fun y => eqV y x
  | _, _, .nil, _ => rfl
  | y :: xs, u :: us, .cons r t, f => by
    rw [List.all_cons, Bool.and_eq_true] at f
    rw [List.any_cons, List.any_cons, eqU_of r f.1, any_eqU t f.2]
theorem mem_eqAt {A : Around} {s : Shared} {x : V} {v : Value} (rx : RelV x v) (fx : flatV x = true) : ∀ {xs : List V} {us : List Value}, Vals xs us → xs.all flatV = true → ∀ u ∈ us, SeqAt.EqAt A s u v (eqU x u)
  | _, _, .nil, _ => fun u hu => by cases hu
  | y :: xs, u :: us, .cons r t, f => fun u' hu => by
    rw [List.all_cons, Bool.and_eq_true] at f
    rcases List.mem_cons.mp hu with rfl | hu
    · rw [eqU_of r f.1]; exact eqAt_V r rx f.1 fx
    · exact mem_eqAt rx fx t f.2 u' hu
def inV (x : V) (xs : List V) : Bool := xs.any fun y => eqV y x
/-- x in a list or tuple of flat items -/
def rIn (K : PySem.W.Frag) (neg : Bool) : R2 := fun x y H Q => ∃ p xs, y = .ref p ∧ (SqL K H p xs ∨ SqT K H p xs) ∧ flatV x = true ∧ xs.all flatV = true ∧ Q (.bl (if neg then !inV x xs else inV x xs)) H
theorem op_in_seq : OpR X (compareOp .In) (rIn X.K false) := by
  intro pins s σ H x y v u Q I rx ry h
  obtain ⟨p, xs, rfl, hq, fx, fs, q⟩ := h
  cases ry
  rcases hq with hq | hq
  · obtain ⟨its, r, pl, hz⟩ := I.list hq
    refine SeqAt.in_listAt (eqU x) pl.isList (fun w hw => mem_eqAt rx fx r fs w (by simpa using hw)) ⟨.bl _, H, I, rfl, ?_⟩
    rw [show its.toArray.any (eqU x) = its.any (eqU x) by simp, any_eqU r fs]
    exact q
  · obtain ⟨its, r, pl, hz⟩ := I.tuple hq
    refine SeqAt.in_tupleAt (eqU x) pl (fun w hw => mem_eqAt rx fx r fs w (by simpa using hw)) ⟨.bl _, H, I, rfl, ?_⟩
    rw [show its.toArray.any (eqU x) = its.any (eqU x) by simp, any_eqU r fs]
    exact q
theorem op_notIn_seq : OpR X (compareOp .NotIn) (rIn X.K true) := by
  intro pins s σ H x y v u Q I rx ry h
  obtain ⟨p, xs, rfl, hq, fx, fs, q⟩ := h
  cases ry
  rcases hq with hq | hq
  · obtain ⟨its, r, pl, hz⟩ := I.list hq
    refine SeqAt.notIn_listAt (eqU x) pl.isList (fun w hw => mem_eqAt rx fx r fs w (by simpa using hw)) ⟨.bl _, H, I, rfl, ?_⟩
    rw [show its.toArray.any (eqU x) = its.any (eqU x) by simp, any_eqU r fs]
    exact q
  · obtain ⟨its, r, pl, hz⟩ := I.tuple hq
    refine SeqAt.notIn_tupleAt (eqU x) pl (fun w hw => mem_eqAt rx fx r fs w (by simpa using hw)) ⟨.bl _, H, I, rfl, ?_⟩
    rw [show its.toArray.any (eqU x) = its.any (eqU x) by simp, any_eqU r fs]
    exact q
theorem op_notIn_str : OpR X (compareOp .NotIn) (fun x y H Q => ∃ i j, x = .str i ∧ y = .str j ∧ Q (.bl (!(!(Builtin.Str.occurrences j i 0 j.length 1).isEmpty))) H) := by
  intro pins s σ H x y v u Q I rx ry h
  obtain ⟨i, j, rfl, rfl, q⟩ := h
  obtain ⟨t, rfl⟩ := rx
  obtain ⟨t', rfl⟩ := ry
  exact notIn_str ⟨.bl _, H, I, rfl, q⟩

/-! ### len, list(x), tuple(x) of any list or tuple that is read -/
theorem call_len_seq : CallR X (.builtin "len") (fun xs H Q => ∃ p ys, xs = [.ref p] ∧ (SqL X.K H p ys ∨ SqT X.K H p ys) ∧ Q (.int ys.length) H) := by
  intro pins s σ H xs us Q I r h
  obtain ⟨p, ys, rfl, hq, q⟩ := h
  obtain ⟨u, rfl, rx⟩ := vals1 r
  cases rx
  have hn := line63
  rcases hq with hq | hq
  · obtain ⟨its, r', pl, hz⟩ := I.list hq
    have hlen := r'.length
    exact Calls.call_len_list pl.isList (by simp only [List.size_toArray] <;> omega) ⟨.int ys.length, H, I.tok _, ⟨s.toks + 1, by rw [List.size_toArray, hlen]⟩, q⟩
  · obtain ⟨its, r', pl, hz⟩ := I.tuple hq
    have hlen := r'.length
    exact len_tuple pl (by simp only [List.size_toArray] <;> omega) ⟨.int ys.length, H, I.tok _, ⟨s.toks + 1, by rw [List.size_toArray, hlen]⟩, q⟩
theorem call_len_str : CallR X (.builtin "len") (fun xs H Q => ∃ z, xs = [.str z] ∧ z.length ≤ sizeLine ∧ Q (.int z.length) H) := by
  intro pins s σ H xs us Q I r h
  obtain ⟨z, rfl, hz, q⟩ := h
  obtain ⟨u, rfl, t, rfl⟩ := vals1 r
  have hn := line63
  exact len_str (by omega) ⟨.int z.length, H, I.tok _, ⟨_, rfl⟩, q⟩
theorem CallR.or {f : Value} {r r' : List V → Hp → VK → Prop} (h : CallR X f r) (h' : CallR X f r') : CallR X f (fun xs H Q => r xs H Q ∨ r' xs H Q) := by
  intro pins s σ H xs us Q I rs q
  rcases q with q | q
  · exact h pins s σ H xs us Q I rs q
  · exact h' pins s σ H xs us Q I rs q
theorem call_list_of : CallR X (.type "list") (fun xs H Q => ∃ p ys, xs = [.ref p] ∧ (SqL X.K H p ys ∨ SqT X.K H p ys) ∧ ∀ l, H l = none → Q (.ref l) (upd H l (.lst ys))) := by
  intro pins s σ H xs us Q I r h
  obtain ⟨p, ys, rfl, hq, q⟩ := h
  obtain ⟨u, rfl, rx⟩ := vals1 r
  cases rx
  have fin : ∀ (its : List Value), Vals ys its → ys.length ≤ sizeLine → ∀ (h' : Heap) (c' : Nat), (∀ b o', s.heap.get? b = some o' → h'.get? b = some o') →
      h'.get? s.heap.objs.size = some { cls := .type "list", dict := none, data := .seq its.toArray c', slots := #[] } → EP X pins σ Q (.ref s.heap.objs.size) { s with heap := h' } := fun its r' hz h' c' kp e =>
    ⟨.ref s.heap.objs.size, _, I.laid (t' := s.toks) kp (Nat.le_refl _) (show ObjOk X.prog X.w _ h' _ (.lst ys) from ⟨hz, its, c', r', e⟩), rfl, q _ (I.hok.fresh (Nat.le_refl _))⟩
  rcases hq with hq | hq
  · obtain ⟨its, r', pl, hz⟩ := I.list hq
    have hlen := r'.length
    obtain ⟨o, ho, hc, n, hd⟩ := pl.isList
    exact call_list_seq p (.inl rfl) ho hc hd (fun h' c' kp e => fin its r' hz h' c' kp e) (by simp only [List.size_toArray] <;> omega)
  · obtain ⟨its, r', pl, hz⟩ := I.tuple hq
    have hlen := r'.length
    obtain ⟨o, ho, hc, n, hd⟩ := pl
    exact call_list_seq p (.inr rfl) ho hc hd (fun h' c' kp e => fin its r' hz h' c' kp e) (by simp only [List.size_toArray] <;> omega)
theorem call_tuple_of : CallR X (.type "tuple") (fun xs H Q => ∃ p ys, xs = [.ref p] ∧ ((SqL X.K H p ys ∧ ∀ l, H l = none → Q (.ref l) (upd H l (.tup ys))) ∨ (SqT X.K H p ys ∧ Q (.ref p) H))) := by
  intro pins s σ H xs us Q I r h
  obtain ⟨p, ys, rfl, h⟩ := h
  obtain ⟨u, rfl, rx⟩ := vals1 r
  cases rx
  rcases h with ⟨hq, q⟩ | ⟨hq, q⟩
  · obtain ⟨its, r', pl, hz⟩ := I.list hq
    have hlen := r'.length
    refine call_tuple_list pl.isList (fun h' kp => ?_) (by simp only [List.size_toArray] <;> omega)
    have I1 : Inv X pins σ H { s with heap := h' } := I.kept (t' := s.toks) kp
    have I2 : Inv X pins σ (upd H h'.objs.size (.tup ys)) { s with heap := h'.push { cls := .type "tuple", data := .seq its.toArray } } :=
      I1.laid (t' := s.toks) (fun b o e => Heap.get?_push_of_some _ e) (Nat.le_refl _) (show ObjOk X.prog X.w _ _ _ (.tup ys) from ⟨hz, its, r', IsTup.new _ _⟩)
    exact ⟨.ref h'.objs.size, _, I2, rfl, q _ (I1.hok.fresh (Nat.le_refl _))⟩
  · obtain ⟨its, r', pl, hz⟩ := I.tuple hq
    exact call_tuple_same pl ⟨.ref p, H, I, rfl, q⟩

/-! ### the call of a builtin's method: o.m(..) -/
/-- the value is of that builtin type -/
def tyV (K : PySem.W.Frag) (T : String) (x : V) (H : Hp) : Prop := match x with
  | .str _ => T = "str"
  | .int _ => T = "int"
  | .ref p => (T = "list" ∧ ∃ xs, SqL K H p xs) ∨ (T = "tuple" ∧ ∃ o, K.lookup p = some o ∧ o.cls = .type "tuple" ∧ o.dict = none) ∨
      (T = "dict" ∧ ((∃ kvs, H p = some (.dK kvs)) ∨ ∃ kvs, H p = some (.dT kvs))) ∨ (T = "set" ∧ ∃ S n, H p = some (.set S n))
  | _ => False
theorem tyV_is {pins : List (Addr × Obj)} {σ : St} {H : Hp} {s : Shared} {T : String} {x : V} {v : Value} (I : Inv X pins σ H s) (r : RelV x v) (ty : tyV X.K T x H) :
    s.TypeIs v T ∧ ∀ a, v = .ref a → ∃ ob, s.heap.get? a = some ob ∧ ob.dict = none := by
  cases x with
  | str z =>
    obtain ⟨t, rfl⟩ := r
    cases (show T = "str" from ty)
    exact ⟨typeIs_str s z t, fun _ e => nomatch e⟩
  | int i =>
    obtain ⟨t, rfl⟩ := r
    cases (show T = "int" from ty)
    exact ⟨typeIs_int s i t, fun _ e => nomatch e⟩
  | ref p =>
    cases r
    rcases ty with ⟨rfl, xs, hq⟩ | ⟨rfl, o, hk, hc, hd⟩ | ⟨rfl, hk⟩ | ⟨rfl, S, n, hk⟩
    · obtain ⟨its, _, pl, _⟩ := I.list hq
      refine ⟨pl.isList.typeIs, fun a e => ?_⟩
      cases e
      obtain ⟨o, n, e, c, hd, _⟩ := pl
      exact ⟨o, e, hd⟩
    · refine ⟨⟨o, I.kIn p o hk, hc⟩, fun a e => ?_⟩
      cases e
      exact ⟨o, I.kIn _ o hk, hd⟩
    · have z : ∃ o, s.heap.get? p = some o ∧ o.ExactDict := by
        rcases hk with ⟨kvs, hk⟩ | ⟨kvs, hk⟩
        · obtain ⟨_, _, _, _, o, _, _, e, ex, _⟩ := I.hok p _ hk
          exact ⟨o, e, ex⟩
        · obtain ⟨_, _, _, _, o, _, _, e, ex, _⟩ := I.hok p _ hk
          exact ⟨o, e, ex⟩
      obtain ⟨o, e, ex⟩ := z
      refine ⟨⟨o, e, ex.1⟩, fun a e2 => ?_⟩
      cases e2
      exact ⟨o, e, ex.2.1⟩
    · obtain ⟨o, _, _, _, e, ex, _⟩ := I.hok p _ hk
      refine ⟨⟨o, e, ex.1⟩, fun a e2 => ?_⟩
      cases e2
      exact ⟨o, e, ex.2.1⟩
  | _ => exact False.elim ty
def tBM0 (K : PySem.W.Frag) (T : String) (r : V → List V → Hp → VK → Prop) (to : TE) : TE := fun σ H Q => to σ H fun x H1 => tyV K T x H1 ∧ r x [] H1 Q
def tBM (K : PySem.W.Frag) (T : String) (r : V → List V → Hp → VK → Prop) (to : TE) (t : TA) : TE := fun σ H Q => to σ H fun x H1 => tyV K T x H1 ∧ t σ H1 fun xs H2 => r x xs H2 Q
variable {o e : Expr} {es : List Expr} {to : TE} {t : TA} {name : Str} {apos cpos : Pos} {T id : String} {r : V → List V → Hp → VK → Prop}
theorem pe_bm0 (pa : PlainAttrs T) (slot : Slot T name id) (hty : typeOf (.builtin id) = pure (.type "method_descriptor")) (hm : MtR X id r) (ho : PE X o to)
    (hbase : attributeBase o name X.env (eval o X.env) = eval o X.env := by rfl) (hline : (apos.endLine == cpos.line) = true := by rfl) : PE X (.Call (.Attribute o name apos) [] [] cpos) (tBM0 X.K T r to) := by
  intro pins s σ H Q I h
  refine wpAny_Call_method0_late hbase hline (thn (ho pins s σ H _ I h) fun v s1 ⟨x, H1, I1, r1, ty, q1⟩ => ?_)
  obtain ⟨h1, h2⟩ := tyV_is I1 r1 ty
  exact ⟨T, id, pa, slot, hty, h1, h2, Calls.callWith_builtin rfl (PySem.evalArgs_none (hm pins s1 σ H1 x [] v [] Q I1 r1 .nil q1))⟩
theorem pe_bm (pa : PlainAttrs T) (slot : Slot T name id) (hty : typeOf (.builtin id) = pure (.type "method_descriptor")) (hm : MtR X id r) (ho : PE X o to) (ha : PA X (e :: es) t)
    (hbase : attributeBase o name X.env (eval o X.env) = eval o X.env := by rfl)
    (hfew : ((backTo cpos (starEach (e :: es) X.env)).all (fun x => !x.1) && (backToKw cpos (keywordEach [] X.env)).all (fun x => x.1.isSome)
      && decide ((e :: es).length + ([] : List Keyword).length + (if ([] : List Keyword).isEmpty then 0 else 1) < 30)) = true := by rfl)
    (hline : (apos.endLine == cpos.line) = true := by rfl) (hs : starEach (e :: es) X.env = (false, eval e X.env) :: starEach es X.env := by rfl) (hplain : (backTo cpos (starEach es X.env)).any (·.1) = false := by rfl) :
    PE X (.Call (.Attribute o name apos) (e :: es) [] cpos) (tBM X.K T r to t) := by
  intro pins s σ H Q I h
  refine wpAny_Call_method_late hbase hfew hline rfl (thn (ho pins s σ H _ I h) fun v s1 ⟨x, H1, I1, r1, ty, q1⟩ => ?_)
  obtain ⟨h1, h2⟩ := tyV_is I1 r1 ty
  refine ⟨T, id, pa, slot, hty, h1, h2, ?_⟩
  have hA := ha cpos pins s1 σ H1 _ I1 q1
  rw [hs] at hA ⊢
  refine Calls.callWith_builtin (by show (false || (backTo cpos (starEach es X.env)).any (·.1)) = false; rw [hplain] <;> rfl) (Calls.evalArgs_plain ?_)
  exact thn hA fun us s2 ⟨vs, H2, I2, r2, q2⟩ => hm pins s2 σ H2 x vs v us Q I2 r1 r2 q2
/- xs.append(e), list.index on a module's tuple .. are MtR facts of 06m -/
end
end L2

namespace L2
open PySem PySem.Spec PyProof.Rows

def MtM (X : Cx) (id : String) (r : V → List V → Hp → VK → Prop) : Prop :=
  ∀ (pins : List (Addr × Obj)) (s : Shared) (σ : St) (H : Hp) (x : V) (xs : List V) (v : Value) (us : List Value) (Q : VK), Inv X pins σ H s → RelV x v → Vals xs us → r x xs H Q →
    wpAny (model X.prog X.w) X.A (call (.builtin id) (v :: us)) (EP X pins σ Q) X.xe s

/-! ### lists of values -/
theorem Vals.one : ∀ {x : V} {us : List Value}, Vals [x] us → ∃ u, us = [u] ∧ RelV x u
  | _, _, .cons r .nil => ⟨_, rfl, r⟩
theorem Vals.two : ∀ {x y : V} {us : List Value}, Vals [x, y] us → ∃ u v, us = [u, v] ∧ RelV x u ∧ RelV y v
  | _, _, _, .cons r (.cons q .nil) => ⟨_, _, rfl, r, q⟩
theorem Vals.zero : ∀ {us : List Value}, Vals [] us → us = []
  | _, .nil => rfl
theorem Vals.dropLast {xs : List V} {us : List Value} (h : Vals xs us) : Vals xs.dropLast us.dropLast := by
  induction h with
  | nil => exact .nil
  | cons r t ih =>
    cases t with
    | nil => exact .nil
    | cons q t' => exact .cons r ih
theorem Vals.eraseIdx : ∀ {xs : List V} {us : List Value} (i : Nat), Vals xs us → Vals (xs.eraseIdx i) (us.eraseIdx i)
  | _, _, _, .nil => .nil
  | _, _, 0, .cons _ t => t
  | _, _, i + 1, .cons r t => .cons r (Vals.eraseIdx i t)
theorem Vals.reverse {xs : List V} {us : List Value} (h : Vals xs us) : Vals xs.reverse us.reverse := by
  induction h with
  | nil => exact .nil
  | cons r t ih => rw [List.reverse_cons, List.reverse_cons]; exact Vals.append ih (.cons r .nil)
theorem Vals.rep {xs : List V} {us : List Value} (h : Vals xs us) : ∀ k : Nat, Vals (List.replicate k xs).flatten (List.replicate k us).flatten
  | 0 => .nil
  | k + 1 => by
    rw [List.replicate_succ, List.replicate_succ, List.flatten_cons, List.flatten_cons]
    exact Vals.append h (Vals.rep h k)
theorem erase_last {α : Type} (l : List α) : l.eraseIdx (l.length - 1) = l.dropLast := by
  induction l with
  | nil => rfl
  | cons a r ih =>
    cases r with
    | nil => rfl
    | cons b r =>
      have e : (a :: b :: r).length - 1 = ((b :: r).length - 1) + 1 := by
        have h1 : (a :: b :: r).length = r.length + 2 := rfl
        have h2 : (b :: r).length = r.length + 1 := rfl
        omega
      rw [e, List.eraseIdx_cons_succ, ih]
      all_goals rfl
theorem len_erase {α : Type} : ∀ (l : List α) (i : Nat), (l.eraseIdx i).length ≤ l.length
  | [], _ => Nat.le_refl _
  | _ :: _, 0 => Nat.le_succ _
  | _ :: r, i + 1 => Nat.succ_le_succ (len_erase r i)
theorem foldl_rep (its : List Value) : ∀ (k : Nat) (acc : List Value),
    List.foldl (fun x1 x2 => x1 ++ x2) acc.toArray (List.replicate k its.toArray) = (acc ++ (List.replicate k its).flatten).toArray
  | 0, acc => by simp
  | k + 1, acc => by
    have e : acc.toArray ++ its.toArray = (acc ++ its).toArray := by simp
    have e2 : (acc ++ its) ++ (List.replicate k its).flatten = acc ++ (List.replicate (k + 1) its).flatten := by
      rw [List.replicate_succ, List.flatten_cons, List.append_assoc]
    rw [← e2, ← foldl_rep its k (acc ++ its), ← e, List.replicate_succ, List.foldl_cons]

section
variable {X : Cx} {pins : List (Addr × Obj)} {σ : St} {H : Hp} {s : Shared} {l b : Addr} {xs ys zs : List V}

/-! ### the two steps: a tracked list is rewritten, a new list is laid -/
theorem Inv.lset {its its' : List Value} {n : Nat} {f : Array Value → Array Value} {t' : Nat} (I : Inv X pins σ H s) (hH : H l = some (.lst xs))
    (e : s.heap.get? l = some { cls := .type "list", data := .seq its.toArray n }) (hf : f its.toArray = its'.toArray) (hv : Vals ys its') (hz : ys.length ≤ sizeLine) :
    Inv X pins σ (upd H l (.lst ys)) { s with heap := s.heap.update l (Obj.mapSeq f), toks := t' } := by
  have q := PySem.IsL.update e f
  rw [hf] at q
  refine I.write (x := l) (e := l) (by rw [hH]; exact trivial) (.inl rfl) (fun b' u hb hu => (Heap.get?_update_other s.heap (Obj.mapSeq f) (Ne.symm hb)).trans hu) ⟨_, q⟩ ?_
  exact ⟨hz, its', _, hv, q⟩
theorem Inv.lnew {its : List Value} {t' : Nat} (I : Inv X pins σ H s) (hv : Vals ys its) (hz : ys.length ≤ sizeLine) :
    Inv X pins σ (upd H s.heap.objs.size (.lst ys)) { s with heap := s.heap.push { cls := .type "list", data := .seq its.toArray }, toks := t' } :=
  I.laid (fun _ _ q => Heap.get?_push_of_some _ q) (Nat.le_refl _) ⟨hz, its, 0, hv, Heap.get?_push_size _ rfl⟩
theorem Inv.fresh (I : Inv X pins σ H s) : H s.heap.objs.size = none := I.hok.fresh (Nat.le_refl _)
theorem Inv.lstM (I : Inv X pins σ H s) (hH : H l = some (.lst xs)) : xs.length ≤ sizeLine ∧ ∃ (its : List Value) (n : Nat), Vals xs its ∧ xs.length = its.length ∧ s.heap.get? l = some { cls := .type "list", data := .seq its.toArray n } := by
  obtain ⟨z, its, n, r, e⟩ := I.hok l _ hH
  exact ⟨z, its, n, r, r.length, e⟩

theorem notLongL {n : Nat} (h : n ≤ sizeLine) : Builtin.List.listTooLong n = false := by
  unfold Builtin.List.listTooLong
  exact decide_eq_false (by omega)
end

section
variable {X : Cx}

/-! ### methods -/
def rAppend : V → List V → Hp → VK → Prop := fun x vs H Q => ∃ l xs y, x = .ref l ∧ vs = [y] ∧ H l = some (.lst xs) ∧ xs.length < sizeLine ∧ Q .non (upd H l (.lst (xs ++ [y])))
theorem mt_append : MtM X "list.append" rAppend := by
  intro pins s σ H x vs v us Q I rx rv h
  obtain ⟨l, xs, y, rfl, rfl, hH, hz, q⟩ := h
  cases rx
  obtain ⟨u, rfl, ru⟩ := rv.one
  obtain ⟨z, its, n, r, hl, e⟩ := I.lstM hH
  refine call_meets F.slot_list_append ⟨_, e, rfl⟩ F.entry_list_append (F.args_list_append_2 _ _) (PySem.list_append l its.toArray n u (by rw [List.size_toArray]; omega)) ⟨e, ?_⟩
  refine ⟨.non, _, I.lset (its' := its ++ [u]) hH e (by simp) (r.append (.cons ru .nil)) ?_, rfl, q⟩
  rw [List.length_append, List.length_singleton]
  omega

def rExtend : V → List V → Hp → VK → Prop := fun x vs H Q => ∃ l b xs zs, x = .ref l ∧ vs = [.ref b] ∧ H l = some (.lst xs) ∧ H b = some (.lst zs) ∧ xs.length + zs.length ≤ sizeLine ∧ Q .non (upd H l (.lst (xs ++ zs)))
theorem mt_extend : MtM X "list.extend" rExtend := by
  intro pins s σ H x vs v us Q I rx rv h
  obtain ⟨l, b, xs, zs, rfl, rfl, hH, hB, hz, q⟩ := h
  cases rx
  obtain ⟨u, rfl, ru⟩ := rv.one
  cases ru
  obtain ⟨z, its, n, r, hl, e⟩ := I.lstM hH
  obtain ⟨z2, its2, n2, r2, hl2, e2⟩ := I.lstM hB
  have hsz : its.toArray.size + its2.toArray.size ≤ sizeLine := by rw [List.size_toArray, List.size_toArray]; omega
  have hlong : ¬ (!its.toArray.isEmpty && Builtin.List.listTooLong (its.toArray.size + its2.toArray.size)) = true := by
    rw [notLongL hsz, Bool.and_false]
    exact Bool.false_ne_true
  refine call_meets F.slot_list_extend ⟨_, e, rfl⟩ F.entry_list_extend (F.args_list_extend_2 _ _)
    (AutoSeq1.list_extend_list_list_0 l its.toArray n b its2.toArray n2 hlong (by rw [List.size_toArray]; omega) (by omega)) ⟨e, e2, ?_⟩
  refine ⟨.non, _, I.lset (its' := its ++ its2) hH e (by simp) (r.append r2) ?_, rfl, q⟩
  rw [List.length_append]
  omega

def rPop : V → List V → Hp → VK → Prop := fun x vs H Q => ∃ l xs y, x = .ref l ∧ vs = [] ∧ H l = some (.lst xs) ∧ xs[xs.length - 1]? = some y ∧ Q y (upd H l (.lst xs.dropLast))
theorem mt_pop : MtM X "list.pop" rPop := by
  intro pins s σ H x vs v us Q I rx rv h
  obtain ⟨l, xs, y, rfl, rfl, hH, hy, q⟩ := h
  cases rx
  have hus := rv.zero
  subst hus
  obtain ⟨z, its, n, r, hl, e⟩ := I.lstM hH
  obtain ⟨u, hu, ru⟩ := r.get hy
  have hy' : its.toArray[its.toArray.size - 1]? = some u := by
    show its.toArray[its.length - 1]? = some u
    rw [← Array.getElem?_toList, ← hl]
    exact hu
  refine call_meets F.slot_list_pop ⟨_, e, rfl⟩ F.entry_list_pop (F.args_list_pop_1 _) (MeetsSeq.list_pop_last l its.toArray n u hy' (by rw [List.size_toArray]; omega)) ⟨e, ?_⟩
  refine ⟨y, _, I.lset (its' := its.dropLast) hH e ?_ r.dropLast ?_, ru, q⟩
  · show its.toArray.eraseIdxIfInBounds (its.toArray.size - 1) = its.dropLast.toArray
    rw [List.size_toArray, List.eraseIdxIfInBounds_toArray, erase_last]
  · rw [List.length_dropLast]
    omega

def rPopAt : V → List V → Hp → VK → Prop := fun x vs H Q => ∃ l xs i k y, x = .ref l ∧ vs = [.int i] ∧ H l = some (.lst xs) ∧ -(2 ^ 63) ≤ i ∧ i < 2 ^ 63 ∧ seqIndex? i xs.length = some k ∧ xs[k]? = some y ∧ Q y (upd H l (.lst (xs.eraseIdx k)))
theorem mt_popAt : MtM X "list.pop" rPopAt := by
  intro pins s σ H x vs v us Q I rx rv h
  obtain ⟨l, xs, i, k, y, rfl, rfl, hH, h1, h2, hk, hy, q⟩ := h
  cases rx
  obtain ⟨u, rfl, ru⟩ := rv.one
  obtain ⟨t, rfl⟩ := ru
  obtain ⟨z, its, n, r, hl, e⟩ := I.lstM hH
  obtain ⟨w, hw, rw'⟩ := r.get hy
  refine call_meets F.slot_list_pop ⟨_, e, rfl⟩ F.entry_list_pop (F.args_list_pop_2 _ _)
    (MeetsSeq.list_pop_at l its.toArray n i t k w (fitsIndex_both h1 h2) (by rw [List.size_toArray, ← hl]; exact hk) (by rw [← Array.getElem?_toList]; exact hw) (by rw [List.size_toArray]; omega)) ⟨e, ?_⟩
  refine ⟨y, _, I.lset (its' := its.eraseIdx k) hH e ?_ (r.eraseIdx k) ?_, rw', q⟩
  · show its.toArray.eraseIdxIfInBounds k = (its.eraseIdx k).toArray
    rw [List.eraseIdxIfInBounds_toArray]
  · have := len_erase xs k
    omega

def rReverse : V → List V → Hp → VK → Prop := fun x vs H Q => ∃ l xs, x = .ref l ∧ vs = [] ∧ H l = some (.lst xs) ∧ Q .non (upd H l (.lst xs.reverse))
theorem mt_reverse : MtM X "list.reverse" rReverse := by
  intro pins s σ H x vs v us Q I rx rv h
  obtain ⟨l, xs, rfl, rfl, hH, q⟩ := h
  cases rx
  have hus := rv.zero
  subst hus
  obtain ⟨z, its, n, r, hl, e⟩ := I.lstM hH
  refine call_meets F.slot_list_reverse ⟨_, e, rfl⟩ F.entry_list_reverse (F.args_list_reverse_1 _) (AutoSeq1.list_reverse_list_0 l its.toArray n (by rw [List.size_toArray]; omega)) ⟨e, ?_⟩
  refine ⟨.non, _, I.lset (its' := its.reverse) hH e (by simp) r.reverse ?_, rfl, q⟩
  rw [List.length_reverse]
  omega

def rClear : V → List V → Hp → VK → Prop := fun x vs H Q => ∃ l xs, x = .ref l ∧ vs = [] ∧ H l = some (.lst xs) ∧ Q .non (upd H l (.lst []))
theorem mt_clear : MtM X "list.clear" rClear := by
  intro pins s σ H x vs v us Q I rx rv h
  obtain ⟨l, xs, rfl, rfl, hH, q⟩ := h
  cases rx
  have hus := rv.zero
  subst hus
  obtain ⟨z, its, n, r, hl, e⟩ := I.lstM hH
  refine call_meets F.slot_list_clear ⟨_, e, rfl⟩ F.entry_list_clear (F.args_list_clear_1 _) (AutoSeq1.list_clear_list_0 l its.toArray n (by rw [List.size_toArray]; omega)) ⟨e, ?_⟩
  exact ⟨.non, _, I.lset (its' := []) (ys := []) hH e rfl .nil (Nat.zero_le _), rfl, q⟩

/-! ### list + list, list += list, list * int -/
def rCat : R2 := fun x y H Q => ∃ l b xs zs, x = .ref l ∧ y = .ref b ∧ H l = some (.lst xs) ∧ H b = some (.lst zs) ∧ xs.length + zs.length ≤ sizeLine ∧ ∀ p, H p = none → Q (.ref p) (upd H p (.lst (xs ++ zs)))
theorem op_cat : OpR X (binaryOp .Add) rCat := by
  intro pins s σ H x y v u Q I rx ry h
  obtain ⟨l, b, xs, zs, rfl, rfl, hH, hB, hz, q⟩ := h
  cases rx
  cases ry
  obtain ⟨z, its, n, r, hl, e⟩ := I.lstM hH
  obtain ⟨z2, its2, n2, r2, hl2, e2⟩ := I.lstM hB
  refine PySem.P.add_list e e2 ?_ (by rw [List.size_toArray, List.size_toArray]; omega)
  have ea : its.toArray ++ its2.toArray = (its ++ its2).toArray := by simp
  rw [ea]
  exact ⟨.ref _, _, I.lnew (t' := s.toks) (r.append r2) (by rw [List.length_append]; omega), rfl, q _ I.fresh⟩
/-- a list times an int (a negative one is nothing) -/
def rRep : R2 := fun x y H Q => ∃ l k xs, x = .ref l ∧ y = .int k ∧ H l = some (.lst xs) ∧ -(2 ^ 63) ≤ k ∧ k < 2 ^ 63 ∧ xs.length * k.toNat ≤ sizeLine ∧
  ∀ p, H p = none → Q (.ref p) (upd H p (.lst (List.replicate k.toNat xs).flatten))
theorem len_rep {α : Type} (xs : List α) (k : Nat) : (List.replicate k xs).flatten.length = k * xs.length := by
  induction k with
  | zero => simp
  | succ k ih => rw [List.replicate_succ, List.flatten_cons, List.length_append, ih, Nat.succ_mul, Nat.add_comm]
theorem op_rep : OpR X (binaryOp .Mult) rRep := by
  intro pins s σ H x y v u Q I rx ry h
  obtain ⟨l, k, xs, rfl, rfl, hH, h1, h2, hz, q⟩ := h
  cases rx
  obtain ⟨t, rfl⟩ := ry
  obtain ⟨z, its, n, r, hl, e⟩ := I.lstM hH
  have hlen : its.toArray.size * k.toNat ≤ sizeLine := by rw [List.size_toArray, ← hl]; exact hz
  have hcap : ¬ its.toArray.size * k.toNat > (2 ^ 63 - 1) / 8 := by
    have : (sizeLine : Nat) ≤ (2 ^ 63 - 1) / 8 := by decide
    omega
  have hfit : ¬ (!Builtin.List.listFitsIndex k) = true := by
    rw [fitsIndex_both h1 h2]
    exact Bool.false_ne_true
  have hlong : ¬ Builtin.List.listTooLong (its.toArray.size * k.toNat) = true := by
    rw [notLongL hlen]
    exact Bool.false_ne_true
  have hnew : List.foldl (fun x1 x2 => x1 ++ x2) #[] (List.replicate (if its.toArray.isEmpty = true then 0 else k.toNat) its.toArray) = (List.replicate k.toNat its).flatten.toArray := by
    have f0 : ∀ m : Nat, List.foldl (fun x1 x2 => x1 ++ x2) #[] (List.replicate m its.toArray) = (List.replicate m its).flatten.toArray := fun m => by
      have := foldl_rep its m []
      rw [List.nil_append] at this
      exact this
    rw [f0]
    cases its with
    | nil => simp
    | cons a r' => rw [if_neg (by simp)]
  refine wpAny_binaryOp_repeat_ref (T := "list") (U := "int") (by decide) ⟨_, e, rfl⟩ (fun s' => typeIs_int s' k t) noFill_list_mul F.fills_int_mul F.slot_int_rmul repeat_list F.slot_int_index.lookup
    (call_meets F.slot_int_rmul (typeIs_int s k t) F.entry_int_rmul (F.args_int_rmul_2 _ _) (int___rmul___int_list k t l its.toArray n)
      ⟨e, rfl, ⟨_, e, rfl⟩, call_meets F.slot_list_mul ⟨_, e, rfl⟩ F.entry_list_mul (F.args_list_mul_2 _ _) (AutoListH.list___mul___list_int_3 l its.toArray n k t hfit hcap hlong) ⟨e, ?_⟩⟩)
  rw [hnew]
  exact ⟨.ref _, _, I.lnew (t' := s.toks) (r.rep k.toNat) (by rw [len_rep, Nat.mul_comm]; exact hz), rfl, q _ I.fresh⟩

/-! ### del xs[i] -/
theorem del_list {pins : List (Addr × Obj)} {s : Shared} {σ : St} {H : Hp} {l : Addr} {xs : List V} {i : Int} {t : Tok} {k : Nat} {Q : Unit → Shared → Prop} (I : Inv X pins σ H s) (hH : H l = some (.lst xs))
    (h1 : -(2 ^ 63) ≤ i) (h2 : i < 2 ^ 63) (hk : seqIndex? i xs.length = some k) (h : ∀ s', Inv X pins σ (upd H l (.lst (xs.eraseIdx k))) s' → Q () s') :
    wpAny (model X.prog X.w) X.A (delItem (.ref l) (.int i t)) Q X.xe s := by
  obtain ⟨z, its, n, r, hl, e⟩ := I.lstM hH
  refine PySem.P.delItem_list (k := k) e (fitsIndex_both h1 h2) (by rw [List.size_toArray, ← hl]; exact hk) (h _ ?_) (by rw [List.size_toArray]; omega)
  refine I.lset (its' := its.eraseIdx k) (t' := s.toks) hH e ?_ (r.eraseIdx k) ?_
  · show its.toArray.eraseIdxIfInBounds k = (its.eraseIdx k).toArray
    rw [List.eraseIdxIfInBounds_toArray]
  · have := len_erase xs k
    omega
end

/-! ### xs[a:b] = ys -/
section
variable {prog : Program} {w : World} {A : Around} {E : Value → Shared → Prop} {s : Shared}
theorem splice_eq (its its2 : List Value) (a c : Nat) : its.toArray.extract 0 a ++ its2.toArray ++ its.toArray.extract c its.toArray.size = (its.take a ++ its2 ++ its.drop c).toArray := by
  apply Array.toList_inj.mp
  first
    | (simp
       exact List.take_of_length_le (by simp))
    | simp [List.take_of_length_le]
    | simp
theorem bounds_run {a c n : Nat} (hac : a ≤ c) (hc : c ≤ n) : sliceBounds (some (a : Int)) (some (c : Int)) none n = ((a : Int), (c : Int), 1) := by
  simp only [sliceBounds, Option.getD_none]
  have h1 : ¬ ((a : Int) < 0) := by omega
  have h2 : ¬ ((c : Int) < 0) := by omega
  simp only [h1, h2, if_false, show (1 : Int) > 0 by decide, if_true]
  congr 1
  · omega
  · congr 1; omega
set_option maxRecDepth 100000 in
/-- list.__setitem__ with a slice of step one and another list -/
theorem setItem_slice {l b sl : Addr} {items new : Array Value} {n n2 : Nat} {vl vu : Value} {a c : Nat} {Q : Unit → Shared → Prop}
    (e : s.heap.get? l = some { cls := .type "list", data := .seq items n }) (e2 : s.heap.get? b = some { cls := .type "list", data := .seq new n2 }) (hne : l ≠ b)
    (hs : s.heap.IsSliceOf sl vl vu .none) (pl : IsPart vl (some (a : Int))) (pu : IsPart vu (some (c : Int))) (hac : a ≤ c) (hc : c ≤ items.size)
    (hsz : items.size + new.size ≤ sizeLine) (h : Q () { s with heap := s.heap.update l (Obj.mapSeq fun xs => xs.extract 0 a ++ new ++ xs.extract c xs.size) }) :
    wpAny (model prog w) A (setItem (.ref l) (.ref sl) (.ref b)) Q E s := by
  have hl : s.heap.IsList l items := PySem.IsL.isList e
  have hb : s.heap.IsList b new := PySem.IsL.isList e2
  obtain ⟨os, hos, hcs, hds⟩ := id hs
  have hTs : s.TypeIs (.ref sl) "slice" := ⟨os, hos, hcs⟩
  have hstep : ¬ ((rawPart none == rawInt 0) = true) := Bool.false_ne_true
  have hsame : Builtin.List.listSameRef (.ref l) (.ref b) = false := by
    unfold Builtin.List.listSameRef
    exact beq_eq_false_iff_ne.mpr hne
  have hmax : (max (a : Int) (c : Int)).toNat = c := by omega
  have hz' : ((fun xs : Array Value => xs.extract 0 a ++ new ++ xs.extract c xs.size) items).size ≤ sizeLine + 1 := by
    simp only [Array.size_append, Array.size_extract]
    omega
  unfold setItem
  try with_reducible refine wpAny_holding ?_
  first | refine wpAny_bind (wpAny_pure ?_) | skip
  refine wpAny_bind (wpAny_sequenceKey hl.typeIs (by decide) ?_)
  refine wpAny_bind (wpAny_callSpecial?_slot (name := Str.ofString "__setitem__") hl.typeIs slot_list_setitem
    (wpAny_call_entry slot_list_setitem hl.typeIs entry_list_setitem ?_ (args_list_setitem _ _ _)))
  show wpAny _ _ (Builtin.List.listSubscript? (.ref sl) >>= _) _ _ s
  refine wpAny_bind ?_
  unfold Builtin.List.listSubscript?
  refine wpAny_bind (wpAny_specialOf hTs slice_no_index ?_)
  simp only [Option.isNone_none, if_true]
  refine wpAny_pure ?_
  show wpAny _ _ (typeOf (.ref sl) >>= _) _ _ s
  refine wpAny_bind (wpAny_typeOf hTs ?_)
  first
    | rw [if_neg (by decide)]
    | refine PySem.W.KFB.if_not (by decide) ?_
  rw [listSliceParts_eq]
  refine wpAny_bind (wpAny_bind (wpAny_field hos hds (x := .none) rfl (wpAny_bind (wpAny_listPart .none ?_))))
  rw [if_neg hstep]
  refine wpAny_bind (wpAny_field hos hds (x := vl) rfl (wpAny_bind (wpAny_listPart pl ?_)))
  refine wpAny_bind (wpAny_field hos hds (x := vu) rfl (wpAny_bind (wpAny_listPart pu (wpAny_pure ?_))))
  first
    | simp only [hsame, Bool.false_eq_true, if_false]
    | refine PySem.W.KFB.if_not hsame ?_
    | (dsimp only
       rw [if_neg (by rw [hsame]; exact Bool.false_ne_true)])
  refine wpAny_bind (m := Builtin.List.listAllItems (.ref b) "must assign iterable to extended slice") ?_
  unfold Builtin.List.listAllItems
  refine wpAny_bind (wpAny_typeOf hb.typeIs ?_)
  first
    | refine PySem.W.KFB.if_so (by decide) ?_
    | rw [if_pos (by decide)]
    | simp only [beq_self_eq_true, Bool.true_or, if_true]
  unfold Builtin.List.listItems
  refine wpAny_bind (wpAny_seqItems e2 rfl (wpAny_pure ?_))
  refine wpAny_bind (wpAny_bind (wpAny_seqItems e rfl (wpAny_pure ?_)))
  refine wpAny_bind (wpAny_of_eq ((sliceIndices_raw (some (a : Int)) (some (c : Int)) none items.size (by simp)).trans (congrArg (pure : Int × Int × Int → Sem (Int × Int × Int)) (bounds_run hac hc))) ?_)
  show wpAny _ _ (if ((1 : Int) == 1) = true then _ else _) _ _ s
  rw [if_pos (by decide)]
  refine wpAny_bind (wpAny_rule ?_)
  first
    | simp only [notLongL hsz, Bool.false_eq_true, if_false]
    | refine PySem.W.KFB.if_not (notLongL hsz) ?_
  first | refine wpAny_bind (wpAny_pure ?_) | skip
  show wpAny _ _ (updateSeq l (fun xs => xs.extract 0 ((a : Int)).toNat ++ new ++ xs.extract (max (a : Int) (c : Int)).toNat xs.size) >>= _) _ _ s
  rw [hmax, Int.toNat_natCast]
  refine wpAny_bind (wpAny_updateSeq (hz := Nat.le_trans (Nat.le_add_right _ _) hsz) (_hz' := hz') e rfl ?_)
  refine wpAny_bind (wpAny_letGo ?_)
  first
    | exact wpAny_bind (wpAny_pure (wpAny_pure ⟨.none, rfl, wpAny_pure h⟩))
    | exact wpAny_pure ⟨.none, rfl, wpAny_pure h⟩
end

section
variable {X : Cx}
/-- xs[a:c] = ys of another list, at the value level: sl is the slice object that was just made -/
theorem set_slice {pins : List (Addr × Obj)} {s : Shared} {σ : St} {H : Hp} {l b sl : Addr} {xs ys : List V} {a c : Int} {vl vu : Value} {Q : Unit → Shared → Prop} (I : Inv X pins σ H s)
    (hH : H l = some (.lst xs)) (hB : H b = some (.lst ys)) (hne : l ≠ b) (hs : s.heap.IsSliceOf sl vl vu .none) (ra : RelV (.int a) vl) (rc : RelV (.int c) vu) (h0 : 0 ≤ a) (hac : a ≤ c) (hc : c ≤ xs.length)
    (hz : xs.length + ys.length ≤ sizeLine) (h : ∀ s', Inv X pins σ (upd H l (.lst (xs.take a.toNat ++ ys ++ xs.drop c.toNat))) s' → Q () s') :
    wpAny (model X.prog X.w) X.A (setItem (.ref l) (.ref sl) (.ref b)) Q X.xe s := by
  obtain ⟨ta, rfl⟩ := ra
  obtain ⟨tc, rfl⟩ := rc
  obtain ⟨z, its, n, r, hl, e⟩ := I.lstM hH
  obtain ⟨z2, its2, n2, r2, hl2, e2⟩ := I.lstM hB
  obtain ⟨a', rfl⟩ := Int.eq_ofNat_of_zero_le h0
  obtain ⟨c', rfl⟩ := Int.eq_ofNat_of_zero_le (Int.le_trans h0 hac)
  simp only [Int.toNat_natCast] at h
  refine setItem_slice (a := a') (c := c') e e2 hne hs (.int _ _) (.int _ _) (by omega) (by rw [List.size_toArray]; omega) (by rw [List.size_toArray, List.size_toArray]; omega) (h _ ?_)
  refine I.lset (its' := its.take a' ++ its2 ++ its.drop c') (t' := s.toks) hH e ?_ (Vals.append (Vals.append (r.take _) r2) (r.drop _)) ?_
  · exact splice_eq its its2 a' c'
  · rw [List.length_append, List.length_append, List.length_take, List.length_drop]
    omega
end
end L2

namespace Att
open PySem PySem.W PySem.Calls PyProof.Rows

/-! ### the script -/
theorem ints_of_wellAll {P : Params} {h : Heap} : ∀ (ns : List Int) (vs : List Value), WellAll P h vs (ns.map WData.int) → IntsAre vs ns := by
  intro ns
  induction ns with
  | nil =>
    intro vs w
    rw [List.map_nil] at w
    cases w
    exact .nil
  | cons n ns ih =>
    intro vs w
    rw [List.map_cons] at w
    cases w with
    | cons a b =>
      cases a
      exact .cons _ _ (ih _ b)

theorem script_of {l : OpenLaw} {n : Nat} (hn : l.most = some n) {P : Params} {h : Heap} {args : List WData} {vals : List Value}
    (hpre : l.row.toRowW.claim.pre args = true) (hwl : WellAll P h vals args) :
    ∃ a vs ns, vals = [Value.ref a] ∧ args = [WData.list (ns.map WData.int)] ∧ h.get? a = some { cls := .type "list", data := .seq vs.toArray } ∧ IntsAre vs ns ∧ ns.length ≤ n := by
  have hsh : WShape.hasAll [] args [.list .int] = true := (pre_splitW hpre).1
  have hc : l.pre.holds [] { args := args } = true := (pre_splitW hpre).2
  obtain ⟨d, r, rfl, h1, h2⟩ := hasAllW_cons hsh
  obtain rfl := hasAllW_nil h2
  obtain ⟨xs, rfl, h3⟩ := hasW_list h1
  obtain ⟨ns, rfl⟩ := items_int h3
  have hlen : ns.length ≤ n := by
    unfold OpenLaw.pre at hc
    have h4 : (WTm.not (.lt (.lit (.int (n : Int))) (.len (.arg 0)))).holds [] { args := [.list (ns.map .int)] } = true := by
      have h4 := (holds_andW hc).1
      rw [hn] at h4
      exact h4
    have h5 := condW_of h4 (w_not (w_lt w_lit (w_len_list (w_arg rfl))))
    rw [List.length_map] at h5
    refine Nat.le_of_not_lt fun q => ?_
    have q' : (n : Int) < ((ns.length : Nat) : Int) := by omega
    first
      | (rw [decide_eq_true q'] at h5; exact absurd h5 (by decide))
      | (simp at h5; omega)
  cases hwl with
  | cons w1 w2 =>
    cases w2
    cases w1 with
    | list ho hall => exact ⟨_, _, ns, rfl, rfl, ho, ints_of_wellAll ns _ hall, hlen⟩

theorem post_true (l : OpenLaw) (args : List WData) : l.row.toRowW.claim.post args (.bool true) args = true :=
  postW_of (r := l.row.toRowW) (X := (true == true))
    (show WShape.has [] (.bool true) .bool = true by first | rfl | decide | simp [WShape.has, WShape.arms, WShape.armsAll])
    (show (WTm.eq .res (.lit (.bool true))).value [] { args := args, res := some (.bool true), after := args } = some (.bool (true == true)) from w_eq_bool (w_res rfl) w_lit) rfl

/-! ### the attachment: holds_open's last premise (the goal 'hc' behind k_head) from a wpAny of the law's body -/
theorem attach {l : OpenLaw} {n : Nat} {q : Program} {loose : List Str} {XP : (Str → Option Value) → Heap → Prop} {YP : World → Heap → Prop} {d : DefRec} {x : Str}
    (hn : l.most = some n) (hdf : d.params.defaults = [])
    (hbind : ∀ pm cd doc v : Value, bindArgs (docDef d.name d.params d.body d.scope pm cd doc) ⟨[v], []⟩ = pure [(x, v)])
    (hx : d.scope.names.lookup x = some .local ∨ d.scope.names.lookup x = some .cell)
    (hk : d.scope.kind = .function) (hco : d.scope.isCoroutine = false) (hgen : d.scope.isGenerator = false)
    (body : ∀ (w : World) (s₀ s₁ s : Shared) (mg mb : Str → Option Value) (fa : Addr) (o : Obj) (pm cd doc : Value) (a : Addr) (vs : List Value) (ns : List Int),
      Ground q loose [] XP w s₀ mg mb s₁.heap → YP w s₁.heap →
      s₁.heap.get? fa = some o → o.data = .func (docDef d.name d.params d.body d.scope pm cd doc) → s₁.heap.CodeRec cd d.name → mg d.name = some (.ref fa) →
      s₁.heap.get? a = some { cls := .type "list", data := .seq vs.toArray } → IntsAre vs ns → ns.length ≤ n →
      s.gens = #[] → s.os = s₁.os →
      Fr s₁.heap s₁.heap.objs.size s.heap (bindL (envOfC d.name d.scope s₁.heap.objs.size fa cd).kindOf [(x, .ref a)] fun _ => none) →
      Cl s₁.heap.objs.size (cellsFrom (s₁.heap.objs.size + 1) d.scope.names []) s.heap (bindC (envOfC d.name d.scope s₁.heap.objs.size fa cd).kindOf [(x, .ref a)] fun _ => none) →
      wpAny (model l.prog w) (callerA.deeper (envOfC d.name d.scope s₁.heap.objs.size fa cd)) (execs d.body (envOfC d.name d.scope s₁.heap.objs.size fa cd))
        (fun f s' => f = .ret (.bool true) ∧ OldK s₁.heap s'.heap ∧ s'.os = s₁.os ∧ AllBare s'.gens) (fun _ _ => False) s) :
    WalkO q loose XP YP l.row.toRowW d [] (fun f vs => PySem.call f vs) := by
  intro w s₀ s₁ mg mb G Y fa o pm cd doc dV kV ho hd hcd hD hmg hg args vals as hpre hlay hrd hwl hlo
  obtain rfl : dV = .none := Dflts.none hD hdf
  obtain rfl : kV = .none := Dflts.noKw hD
  obtain ⟨a, vs, ns, rfl, rfl, hobj, hints, hlen⟩ := script_of hn hpre hwl
  refine enter_call ?_
  refine call_cells_ret (o := o) (by rw [depth_caller]; decide) ho (fd_plain hd) G.T.nolimit hcd (hbind pm cd doc (.ref a)) (fun y hy => ?_) (fun h₁ tk F X => ?_) hco hgen hk
  · obtain rfl : y = (x, Value.ref a) := List.mem_singleton.mp hy
    rcases hx with e | e
    · exact .inl e
    · exact .inr ⟨e, cellsFrom_some _ _ _ (.inl e)⟩
  · refine wpAny_mono (body w s₀ s₁ { s₁ with heap := h₁, toks := tk } mg mb fa o pm cd doc a vs ns G Y ho (fd_plain hd) hcd hmg hobj hints hlen hg rfl F X) (fun f s' hq => ?_) (fun _ _ hq => hq)
    obtain ⟨rfl, h2, h3, h4⟩ := hq
    exact ⟨.inl ⟨.bool true, .bool true, [], rfl, fun _ => rfl, .bool true, post_true l _, fun _ => ⟨List.Pairwise.nil, fun _ hm => (nomatch hm)⟩⟩, h2, h3, h4⟩

/-- the same from a codeAny of the CALL (for a layer whose function contracts speak of calls) -/
theorem attach_call {l : OpenLaw} {n : Nat} {q : Program} {loose : List Str} {XP : (Str → Option Value) → Heap → Prop} {YP : World → Heap → Prop} {d : DefRec}
    (hn : l.most = some n) (hdf : d.params.defaults = [])
    (call : ∀ (w : World) (s₀ s₁ : Shared) (mg mb : Str → Option Value) (fa : Addr) (o : Obj) (pm cd doc : Value) (a : Addr) (vs : List Value) (ns : List Int),
      Ground q loose [] XP w s₀ mg mb s₁.heap → YP w s₁.heap →
      s₁.heap.get? fa = some o → o.data = .func (docDef d.name d.params d.body d.scope pm cd doc) → s₁.heap.CodeRec cd d.name → mg d.name = some (.ref fa) →
      s₁.heap.get? a = some { cls := .type "list", data := .seq vs.toArray } → IntsAre vs ns → ns.length ≤ n → s₁.gens = #[] →
      codeAny (model l.prog w) callerA (.call (.ref fa) ⟨[.ref a], []⟩) (fun r s' => r = .ok (.ret (.bool true)) ∧ OldK s₁.heap s'.heap ∧ s'.os = s₁.os ∧ AllBare s'.gens) s₁) :
    WalkO q loose XP YP l.row.toRowW d [] (fun f vs => PySem.call f vs) := by
  intro w s₀ s₁ mg mb G Y fa o pm cd doc dV kV ho hd hcd hD hmg hg args vals as hpre hlay hrd hwl hlo
  obtain rfl : dV = .none := Dflts.none hD hdf
  obtain rfl : kV = .none := Dflts.noKw hD
  obtain ⟨a, vs, ns, rfl, rfl, hobj, hints, hlen⟩ := script_of hn hpre hwl
  refine enter_call (codeAny_mono (call w s₀ s₁ mg mb fa o pm cd doc a vs ns G Y ho (fd_plain hd) hcd hmg hobj hints hlen hg) fun r s' hq => ?_)
  obtain ⟨rfl, h2, h3, h4⟩ := hq
  exact ⟨.inl ⟨.bool true, .bool true, [], rfl, fun _ => rfl, .bool true, post_true l _, fun _ => ⟨List.Pairwise.nil, fun _ hm => (nomatch hm)⟩⟩, h2, h3, h4⟩

/-- the same where the top left finished generators (o_head chose holds_openN): nothing may have changed at all and no generator may be left -/
theorem attachN {l : OpenLaw} {n : Nat} {q : Program} {loose : List Str} {XP : (Str → Option Value) → Heap → Prop} {YP : World → Heap → Prop} {d : DefRec} {x : Str}
    (hn : l.most = some n) (hdf : d.params.defaults = [])
    (hbind : ∀ pm cd doc v : Value, bindArgs (docDef d.name d.params d.body d.scope pm cd doc) ⟨[v], []⟩ = pure [(x, v)])
    (hx : d.scope.names.lookup x = some .local ∨ d.scope.names.lookup x = some .cell)
    (hk : d.scope.kind = .function) (hco : d.scope.isCoroutine = false) (hgen : d.scope.isGenerator = false)
    (body : ∀ (w : World) (s₀ s₁ s : Shared) (mg mb : Str → Option Value) (fa : Addr) (o : Obj) (pm cd doc : Value) (a : Addr) (vs : List Value) (ns : List Int),
      Ground q loose [] XP w s₀ mg mb s₁.heap → YP w s₁.heap →
      s₁.heap.get? fa = some o → o.data = .func (docDef d.name d.params d.body d.scope pm cd doc) → s₁.heap.CodeRec cd d.name → mg d.name = some (.ref fa) →
      s₁.heap.get? a = some { cls := .type "list", data := .seq vs.toArray } → IntsAre vs ns → ns.length ≤ n →
      s.gens = #[] → s.os = s₁.os →
      Fr s₁.heap s₁.heap.objs.size s.heap (bindL (envOfC d.name d.scope s₁.heap.objs.size fa cd).kindOf [(x, .ref a)] fun _ => none) →
      Cl s₁.heap.objs.size (cellsFrom (s₁.heap.objs.size + 1) d.scope.names []) s.heap (bindC (envOfC d.name d.scope s₁.heap.objs.size fa cd).kindOf [(x, .ref a)] fun _ => none) →
      wpAny (model l.prog w) (callerA.deeper (envOfC d.name d.scope s₁.heap.objs.size fa cd)) (execs d.body (envOfC d.name d.scope s₁.heap.objs.size fa cd))
        (fun f s' => f = .ret (.bool true) ∧ (∀ b o, s₁.heap.get? b = some o → s'.heap.get? b = some o) ∧ s'.os = s₁.os ∧ s'.gens = #[]) (fun _ _ => False) s) :
    WalkN q loose XP YP l.row.toRowW d [] (fun f vs => PySem.call f vs) := by
  intro w s₀ s₁ mg mb G Y fa o pm cd doc dV kV ho hd hcd hD hmg hg args vals as hpre hlay hrd hwl hlo
  obtain rfl : dV = .none := Dflts.none hD hdf
  obtain rfl : kV = .none := Dflts.noKw hD
  obtain ⟨a, vs, ns, rfl, rfl, hobj, hints, hlen⟩ := script_of hn hpre hwl
  refine enter_callW ?_
  refine call_cells_ret (o := o) (by rw [depth_caller]; decide) ho (fd_plain hd) G.T.nolimit hcd (hbind pm cd doc (.ref a)) (fun y hy => ?_) (fun h₁ tk F X => ?_) hco hgen hk
  · obtain rfl : y = (x, Value.ref a) := List.mem_singleton.mp hy
    rcases hx with e | e
    · exact .inl e
    · exact .inr ⟨e, cellsFrom_some _ _ _ (.inl e)⟩
  · refine wpAny_mono (body w s₀ s₁ { s₁ with heap := h₁, toks := tk } mg mb fa o pm cd doc a vs ns G Y ho (fd_plain hd) hcd hmg hobj hints hlen hg rfl F X) (fun f s' hq => ?_) (fun _ _ hq => hq)
    obtain ⟨rfl, h2, h3, h4⟩ := hq
    exact ⟨.inl ⟨.bool true, .bool true, [], rfl, fun _ => rfl, .bool true, post_true l _, fun _ => ⟨List.Pairwise.nil, fun _ hm => (nomatch hm)⟩⟩, h2, h3, h4⟩

/-! ### rules over ANY heap (no ledger) from facts about the written part K: the library's own take a ledger (News) for what they write -/
section
variable {prog : Program} {w : World} {A : Around} {E : Value → Shared → Prop} {s : Shared} {K : Frag}

/-- a def of the module, or a method (qual 'C.m'), entered: the frame is the next address; cells behind it -/
theorem call_fn {R : Result → Shared → Prop} {name qual : Str} {params : Arguments} {body : List Stmt} {scope : Scope} {dV kV doc pm cdv ct oc : Value} {an od : Option Addr} {osl : Array (Option Value)} {f : Addr} {args : Args} {binds : List (Str × Value)}
    (X : K.In s.heap) (hlim : s.heap.NoLimit) (ho : K.lookup f = some ⟨oc, od, .func (fnOf name qual params body scope dV kV doc pm an cdv ct), osl⟩) (hcd : codeIn K cdv qual = true) (hroom : A.depth < recursionLimit)
    (hbind : BindsTo s (fnOf name qual params body scope dV kV doc pm an cdv ct) args binds)
    (hkind : (binds.all fun y => scope.names.lookup y.1 == some .local || scope.names.lookup y.1 == some .cell) = true)
    (h : ∀ s₁, InCallC s s.heap.objs.size (bindL (envOfC qual scope s.heap.objs.size f cdv).kindOf binds fun _ => none) (cellsFrom (s.heap.objs.size + 1) scope.names [])
        (bindC (envOfC qual scope s.heap.objs.size f cdv).kindOf binds fun _ => none) s₁ →
      wpAny (model prog w) (A.deeper (envOfC qual scope s.heap.objs.size f cdv)) (execs body (envOfC qual scope s.heap.objs.size f cdv))
        (fun fl s' => R (.ok (.ret (match fl with | .ret v => v | _ => .none))) s')
        (fun e s' => wpAny (model prog w) (A.deeper (envOfC qual scope s.heap.objs.size f cdv)) (leaving (envOfC qual scope s.heap.objs.size f cdv) e) (fun _ s'' => R (.error e) s'') (fun e' s'' => R (.error e') s'') s') s₁)
    (hco : scope.isCoroutine = false) (hgen : scope.isGenerator = false) (hk : scope.kind = .function) : codeAny (model prog w) A (.call (.ref f) args) R s := by
  refine codeAny_call_function hroom (X _ _ ho) rfl hco hgen rfl (codeRec_of X hcd) (hbind _ _ _ _ ?_)
  refine wpAny_newFunctionEnv_cells hk (kindsX hkind _) fun env he s₁ x => ?_
  subst he
  exact ⟨hlim.keeps x.toInCall.keep, codeAny_func (h s₁ x)⟩

/-- C(..): dict at size, instance at size + 1, then __init__ -/
theorem make_obj {R : Result → Shared → Prop} {C fI : Addr} {rest : List Value} {kw : List (Str × Value)}
    (X : K.In s.heap) (hm : makesIn K C = true) (hi : findIn K (.ref C) "__init__" = some (some (.ref fI))) (hf : isFn K (.ref fI) = true)
    (h : codeAny (model prog w) (A.under (.builtin "type.__call__" ⟨.ref C :: rest, kw⟩)) (.call (.ref fI) ⟨.ref (s.heap.objs.size + 1) :: rest, kw⟩) (InitBack (s.heap.objs.size + 1) R)
      { s with heap := (s.heap.push emptyDict).push (instObj C s.heap.objs.size) }) : codeAny (model prog w) A (.call (.ref C) ⟨rest, kw⟩) R s := by
  obtain ⟨hh, g, d, t, os⟩ := s
  exact make_core (makes_of X hm) (looks_findIn X hi) (fun self => bind_fn X self (beq_iff_eq.mp hf)) (.inl rfl) h

/-- x.name where the instance's dict holds the name and the class does not -/
theorem get_field {x C : Addr} {ox : Obj} {es : List DictEntry} {n : Nat} {name : Str} {expr : Bool} {v : Value} {Q : Value → Shared → Prop}
    (X : K.In s.heap) (I : PySem.W.InstAt s.heap x ox C (some (dictOf es n))) (hg : plainGet K C name = true) (hh : hasDictIn K C = true) (ha : findIn K (.ref C) name = some none)
    (hl : getL name es = some (some v)) (hv : handedIn v = true) (h : Q v { s with toks := s.toks + 1 }) : wpAny (model prog w) A (getAttr (.ref x) name expr) Q E s :=
  get_value X I (plainGet_of hg).1 (findObj_own hh ha rfl hl) hv h

/-- x.m(..): the method found in the class -/
theorem get_method {x C f : Addr} {ox : Obj} {es : List DictEntry} {n : Nat} {name : Str} {pl : Sem Bool} {Q : Value × List Value → Shared → Prop}
    (X : K.In s.heap) (I : PySem.W.InstAt s.heap x ox C (some (dictOf es n))) (hg : plainGet K C name = true) (hf : findIn K (.ref C) name = some (some (.ref f))) (ht : isFn K (.ref f) = true)
    (hl : getL name es = some none) (h : Q (.ref f, [.ref x]) s) : wpAny (model prog w) A (getMethod (.ref x) name pl) Q E s :=
  method_fn X I (plainGet_of hg).1 (plainGet_of hg).2 hf (beq_iff_eq.mp ht) (by show (lookIn name (dictOf es n)).map _ = _; rw [lookIn_dict, hl]; rfl) h

/-! the whole heap as the ledger: makes every rule that writes through a ledger a rule over any heap -/
def noObjs (h : Heap) : Heap := { h with objs := #[] }
theorem noObjs_get (h : Heap) (b : Addr) : (noObjs h).get? b = none := by
  cases e : (noObjs h).get? b with
  | none => rfl
  | some o => exact absurd (Heap.lt_size e) (Nat.not_lt_zero _)
def ledger (h : Heap) (L d : Addr) : List (Addr × Obj) := (List.range h.objs.size).filterMap fun a => if a = L ∨ a = d then none else (h.get? a).map fun o => (a, o)
theorem mem_ledger {h : Heap} {L d a : Addr} {o : Obj} : (a, o) ∈ ledger h L d ↔ a ≠ L ∧ a ≠ d ∧ h.get? a = some o := by
  unfold ledger
  rw [List.mem_filterMap]
  constructor
  · rintro ⟨b, _, e⟩
    split at e
    · cases e
    · rename_i hb
      obtain ⟨o', ho, e'⟩ := Option.map_eq_some_iff.mp e
      cases e'
      exact ⟨fun q => hb (.inl q), fun q => hb (.inr q), ho⟩
  · rintro ⟨n1, n2, ho⟩
    refine ⟨a, List.mem_range.mpr (Heap.lt_size ho), ?_⟩
    rw [if_neg (show ¬ (a = L ∨ a = d) from fun q => q.elim n1 n2), ho] <;> rfl
theorem news_ledger {h : Heap} {L d : Addr} {od : Obj} (hne : d ≠ L) (ho : h.get? d = some od) : News (noObjs h) L h ([] ++ (d, od) :: ledger h L d) := by
  rintro ⟨a, o⟩ hp
  rcases List.mem_cons.mp hp with e | hp
  · cases e
    exact ⟨ho, hne, noObjs_get _ _⟩
  · obtain ⟨n1, n2, e⟩ := mem_ledger.mp hp
    exact ⟨e, n1, noObjs_get _ _⟩
theorem fr_all {h : Heap} {L : Addr} {m : Str → Option Value} (n : h.Ns L m) : Fr (noObjs h) L h m :=
  ⟨n, fun b o e => (by rw [noObjs_get] at e; cases e), Nat.zero_le _⟩
/-- Upd of the head entry (for append_K, setItem_K ..) -/
theorem upd_ledger {h : Heap} {L d : Addr} {o o' : Obj} : Upd d o o' ((d, o) :: ledger h L d) ((d, o') :: ledger h L d) :=
  .head fun ⟨_, _⟩ hp => (mem_ledger.mp hp).2.1

/-- x.name = v over any heap: L is any namespace of the heap (the frame's, say): its map stays, its object is not told; all else but the dict stays -/
theorem set_field {x C dx L : Addr} {ox : Obj} {m : Str → Option Value} {es es' : List DictEntry} {n n' : Nat} {name : Str} {v : Value} {Q : Unit → Shared → Prop}
    (X : K.In s.heap) (I : PySem.W.InstAt s.heap x ox C (some (dictOf es n))) (hd : ox.dict = some dx) (hL : s.heap.Ns L m) (hne : dx ≠ L)
    (hs : findIn K (.ref C) "__setattr__" = some (some (.builtin "object.__setattr__"))) (hp : plainOver K C = true) (ht : takerIn K C name = some none) (hh : hasDictIn K C = true) (hl : (getL name es).isSome = true)
    (e : (putL name (PyData.keyHash w.params name) (.str name (s.toks + 1)) v es, putN name es n) = (es', n')) (hz : es'.length ≤ 1000)
    (h : ∀ h' : Heap, h'.Ns L m → h'.get? dx = some (dictOf es' n') → (∀ b o, b ≠ dx → b ≠ L → s.heap.get? b = some o → h'.get? b = some o) → Q () { s with heap := h', toks := s.toks + 2 }) :
    wpAny (model prog w) A (setAttr (.ref x) name v) Q E s := by
  obtain ⟨e1, e2⟩ := Prod.mk.inj e
  have hdx : s.heap.get? dx = some (dictOf es n) := by
    have := I.dict
    rw [hd] at this
    exact this
  refine set_plain X I hs (osa_dict (s := { s with toks := s.toks + 1 }) (h₀ := noObjs s.heap) (L := L) (m := m) (od := dictOf es n) (od' := dictOf es' n') (es := es') (n := n') (pre := []) (post := ledger s.heap L dx)
    (fr_all hL) (news_ledger hne hdx) X I hd hp ht hh hl (fun _ q => nomatch q) (fun ⟨_, _⟩ q => (mem_ledger.mp q).2.1) (by rw [putName_dict, e1, e2]) rfl hz fun h' F' N' => ?_)
  exact h h' F'.ns (N'.get (List.Mem.head _)) fun b o n1 n2 ho => N'.get (List.Mem.tail _ (mem_ledger.mpr ⟨n2, n1, ho⟩))
end
end Att

namespace L2
open PySem PySem.Spec PyProof.Rows

theorem vals_ints : ∀ {vs : List Value} {ns : List Int}, IntsAre vs ns → Vals (ns.map V.int) vs
  | _, _, .nil => .nil
  | _, _, .cons n t h => .cons ⟨t, rfl⟩ (vals_ints h)

/-- nothing is tracked but the script, known to the object (or it is an object of the module) -/
def Only (H : Hp) : Prop := ∀ b, H b = none ∨ ∃ o xs, H b = some (.frz o (.lst xs))

/-- THE HEAD: the law's promise, at the heap behind the top. F, the promise of the law's def, may use that base is part of the heap (so K.In base, base.Ns mainGlobals mg stand in Mod) -/
theorem law_call {P : Program} {w : World} {K : PySem.W.Frag} {mg mb : Str → Option Value} {CX : CXT} {k : Nat} {fa a : Addr} {fd : FuncData} {x : Str} {sp : Sp} {s₁ : Shared} {vs : List Value} {ns : List Int}
    (KX : K.In s₁.heap) (hns : s₁.heap.Ns mainGlobals mg) (hb : s₁.heap.Ns builtinsNs mb) (hbb : ∀ x : Str, x ≠ "__name__" → mb x = bootBuiltins x) (hlim : s₁.heap.NoLimit) (hg : s₁.gens = #[])
    (ha : s₁.heap.get? a = some { cls := .type "list", data := .seq vs.toArray }) (hi : IntsAre vs ns) (hl : ns.length ≤ sizeLine) (hr : Room k callerA)
    (F : ∀ base : Heap, K.In base → base.Ns mainGlobals mg → FnOk P w K mg base CX k fa fd [x] sp) (hbind : ∀ (s : Shared) (u : Value), BindsTo s fd ⟨[u], []⟩ [(x, u)])
    (hsp : ∀ H : Hp, Only H → SqL K H a (ns.map V.int) → sp [.ref a] H (fun v _ => v = .bl true) fun _ _ _ => False)
    (hCX : ∀ H e s', CX [] H s₁ (fun _ _ _ => False) e s' → False) :
    codeAny (model P w) callerA (.call (.ref fa) ⟨[.ref a], []⟩) (fun r s' => r = .ok (.ret (.bool true)) ∧ OldK s₁.heap s'.heap ∧ s'.os = s₁.os ∧ AllBare s'.gens) s₁ := by
  have rv := vals_ints hi
  have lenV := hi.length
  -- from an abstract heap in which nothing but the script may be tracked
  have core : ∀ H : Hp, Only H → SqL K H a (ns.map V.int) → HOk P w H s₁.heap → (∀ b, H b ≠ none → b = a) → (H a ≠ none → K.lookup a = none) →
      codeAny (model P w) callerA (.call (.ref fa) ⟨[.ref a], []⟩) (fun r s' => r = .ok (.ret (.bool true)) ∧ OldK s₁.heap s'.heap ∧ s'.os = s₁.os ∧ AllBare s'.gens) s₁ := by
    intro H hO hS hok hA hK
    have base_of : ∀ {b : Addr} {o : Obj}, s₁.heap.get? b = some o → H b = none → (hidT s₁.heap H).get? b = some o := fun e n => hidT_get e n
    have noA : ∀ {b : Addr} {o : Obj} {es : Array DictEntry} {ep : Nat}, s₁.heap.get? b = some o → o.data = .dict es ep → H b = none := fun {b o es ep} e d => by
      cases q : H b with
      | none => rfl
      | some u =>
        have e' : b = a := hA b (by rw [q]; simp)
        subst e'
        rw [ha] at e; cases e
        have d' : Data.seq vs.toArray _ = Data.dict es ep := d
        cases d'
    have nsK : ∀ {b : Addr} {m : Str → Option Value}, s₁.heap.Ns b m → (hidT s₁.heap H).Ns b m := fun {b m} ⟨o, es, ep, e, d, r⟩ => ⟨o, es, ep, base_of e (noA e d), d, r⟩
    have hKb : K.In (hidT s₁.heap H) := fun b o e => base_of (KX b o e) (by
      cases q : H b with
      | none => rfl
      | some u =>
        have e' : b = a := hA b (by rw [q]; simp)
        subst e'
        rw [hK (by rw [q]; simp)] at e; cases e)
    have hM : Mod K mg (hidT s₁.heap H) := ⟨hKb, nsK hns, ⟨mb, nsK hb, hbb⟩, let ⟨mc, h1, h2⟩ := hlim; ⟨mc, nsK h1, h2⟩⟩
    have e0 : Env0 P w K mg (hidT s₁.heap H) callerA [] s₁ H := ⟨rfl, hM, fun b o e => of_hidT e, Nat.le_of_eq (hidT_size _ _), trivial, fun b hb => absurd (show b ∈ ([] : List Addr) from hb) (by simp), hok, .of_eq hg⟩
    refine codeAny_mono ((F _ hKb (nsK hns)).run callerA [] s₁ H ⟨[.ref a], []⟩ [.ref a] [.ref a] _ _ hr e0 (hbind s₁ (.ref a)) (.cons rfl .nil) (hsp H hO hS)) fun r s' h => ?_
    cases r with
    | error e => exact (hCX H e s' h).elim
    | ok fl =>
      cases fl with
      | next => exact False.elim h
      | brk => exact False.elim h
      | cont => exact False.elim h
      | ret u =>
        obtain ⟨v, H', os, bare, un, hok', r', q⟩ := h
        have q' : v = .bl true := q
        subst q'
        obtain rfl : u = Value.bool true := r'
        refine ⟨rfl, OldK.of_keep fun b o e => ?_, os, bare⟩
        cases q : H b with
        | none => exact un.keep b o e q (by intro z; exact absurd (show b ∈ ([] : List Addr) from z) (by simp)) (by simp)
        | some u =>
          rcases hO b with z | ⟨ob, xs, z⟩
          · rw [q] at z; cases z
          · have z2 := un.frzs b ob _ z
            obtain ⟨e1, _⟩ := hok b _ z
            obtain ⟨e2, _⟩ := hok' b _ z2
            rw [e] at e1; cases e1
            exact e2
  cases hk : K.lookup a with
  | some o =>
    -- the script is one of the module's own objects
    have e := KX a o hk
    rw [ha] at e
    cases e
    refine core (fun _ => none) (fun _ => .inl rfl) (.inr ⟨_, vs.toArray, _, hk, rfl, rfl, rfl, by rw [List.size_toArray, lenV]; exact hl, by simpa using rv⟩) (fun b u z => by have z' : (none : Option HO) = some u := z; cases z') (fun b z => absurd rfl z) fun z => absurd rfl z
  | none =>
    refine core (fun b => if b = a then some (.frz { cls := .type "list", data := .seq vs.toArray } (.lst (ns.map V.int))) else none) (fun b => ?_) (.inl (.inr ⟨{ cls := .type "list", data := .seq vs.toArray }, if_pos rfl⟩)) (fun b u z => ?_) (fun b z => ?_) fun _ => hk
    · by_cases hb : b = a
      · exact .inr ⟨_, _, if_pos hb⟩
      · exact .inl (if_neg hb)
    · by_cases hb : b = a
      · have z' := (if_pos hb).symm.trans z
        cases z'
        subst hb
        exact ⟨ha, by rw [List.length_map]; exact hl, vs, _, rv, ha⟩
      · have z' := (if_neg hb).symm.trans z
        cases z'
    · by_cases hb : b = a
      · exact hb
      · exact absurd (if_neg hb) z
end L2

namespace L2
open PySem PySem.Spec PyProof.Rows

abbrev KOf {K : PySem.W.Frag} {h : Heap} (_ : K.In h) : PySem.W.Frag := K

/-- the goal that k_head leaves (case hc), from the law's promise. F gives the function object fd (K's own) once, then the promise over every base -/
theorem walk_of {l : PySem.W.OpenLaw} {n k : Nat} {q : Program} {loose : List Str} {XP : (Str → Option Value) → Heap → Prop} {YP : World → Heap → Prop} {d : DefRec} {K : Params → PySem.W.Frag} {CX : World → CXT} {sp : World → Sp} {x : Str}
    (hn : l.most = some n) (hn2 : n ≤ sizeLine) (hdf : d.params.defaults = []) (hr : Room k callerA)
    (hY : ∀ (w : World) (h : Heap), YP w h → (K w.params).In h)
    (F : ∀ (w : World) (mg : Str → Option Value) (fa : Addr) (h : Heap), (K w.params).In h → h.Ns mainGlobals mg → mg d.name = some (.ref fa) →
      ∃ fd : FuncData, (∀ (s : Shared) (u : Value), BindsTo s fd ⟨[u], []⟩ [(x, u)]) ∧
        ∀ base : Heap, (K w.params).In base → base.Ns mainGlobals mg → FnOk l.prog w (K w.params) mg base (CX w) k fa fd [x] (sp w))
    (hsp : ∀ (w : World) (H : Hp) (a : Addr) (ns : List Int), ns.length ≤ n → Only H → SqL (K w.params) H a (ns.map V.int) → sp w [.ref a] H (fun v _ => v = .bl true) fun _ _ _ => False)
    (hCX : ∀ (w : World) (H : Hp) (s : Shared) (e : Value) (s' : Shared), CX w [] H s (fun _ _ _ => False) e s' → False) :
    PySem.W.WalkO q loose XP YP l.row.toRowW d [] (fun f vs => PySem.call f vs) := by
  refine Att.attach_call hn hdf fun w s₀ s₁ mg mb fa o pm cd doc a vs ns G Y ho hd hcd hmg hobj hints hlen hg => ?_
  have KX := hY w _ Y
  obtain ⟨fd, hb, hF⟩ := F w mg fa _ KX G.T.g hmg
  exact law_call KX G.T.g G.T.b G.T.builtins G.T.nolimit hg hobj hints (Nat.le_trans hlen hn2) hr hF hb (fun H hO hS => hsp w H a ns hlen hO hS) fun H e s' => hCX w H s₁ e s'
/-- the same where the promise hangs on the written part alone: (sp := My.sp_law), no hole under a binder -/
theorem walk_ofK {l : PySem.W.OpenLaw} {n k : Nat} {q : Program} {loose : List Str} {XP : (Str → Option Value) → Heap → Prop} {YP : World → Heap → Prop} {d : DefRec} {K : Params → PySem.W.Frag} {CX : CXT} {sp : PySem.W.Frag → Sp} {x : Str}
    (hn : l.most = some n) (hn2 : n ≤ sizeLine) (hdf : d.params.defaults = []) (hr : Room k callerA)
    (hY : ∀ (w : World) (h : Heap), YP w h → (K w.params).In h)
    (F : ∀ (w : World) (mg : Str → Option Value) (fa : Addr) (h : Heap), (K w.params).In h → h.Ns mainGlobals mg → mg d.name = some (.ref fa) →
      ∃ fd : FuncData, (∀ (s : Shared) (u : Value), BindsTo s fd ⟨[u], []⟩ [(x, u)]) ∧
        ∀ base : Heap, (K w.params).In base → base.Ns mainGlobals mg → FnOk l.prog w (K w.params) mg base CX k fa fd [x] (sp (K w.params)))
    (hsp : ∀ (K : PySem.W.Frag) (H : Hp) (a : Addr) (ns : List Int), ns.length ≤ n → Only H → SqL K H a (ns.map V.int) → sp K [.ref a] H (fun v _ => v = .bl true) fun _ _ _ => False)
    (hCX : ∀ (H : Hp) (s : Shared) (e : Value) (s' : Shared), CX [] H s (fun _ _ _ => False) e s' → False) :
    PySem.W.WalkO q loose XP YP l.row.toRowW d [] (fun f vs => PySem.call f vs) :=
  walk_of (K := K) (CX := fun _ => CX) (sp := fun w => sp (K w.params)) hn hn2 hdf hr hY F (fun w H a ns h1 h2 h3 => hsp (K w.params) H a ns h1 h2 h3) fun _ H s e s' => hCX H s e s'
end L2

/- THE LAST THEOREM (shape; LID, My.* are yours):
   My.Adr: a structure of the addresses that your layer names (classes, functions); My.Txt K t: a structure (Prop) of the equations over K;
   My.txt_mk : {K} {implicit addresses ..} (e1 : nsIn K mainGlobals "law" = some (some (.ref f))) (e2 : K.lookup f = some ⟨oc, od, .func (fnOf "law" "law" params body scope dV kV doc pm an cdv ct), sl⟩) (e3 : codeIn K cdv "law" = true) .. : ∃ t, My.Txt K t

set_option maxRecDepth 100000 in
set_option maxHeartbeats 0 in
theorem PySem.Challenge.cw_LID_holds : PySem.Challenge.rw_LID.Holds := by
  w_on; o_law; k_head; (case hw => w_witness2)
  k_fill
  refine L2.walk_of (l := PySem.Challenge.rw_LID) (n := 63) (k := 40) (x := "script") (CX := fun w => ..) (sp := fun _ => My.sp_law) rfl (by decide) rfl ⟨rfl, by decide, by decide⟩ (fun w h Y => PySem.W.kIn_of Y) ?F ?S ?C
  case F =>
    intro w mg fa h KX G hmg
    have T : ∃ t, My.Txt (L2.KOf KX) t := by
      dsimp only [L2.KOf]                          -- K must stand as «<heap const> w.params» for k_is
      refine' My.txt_mk ?e1 ?e2 ?e3 ..
      (case e1 => PySem.W.k_is)                    -- in the order: a name -> its address -> its object -> its parts
      (case e2 => PySem.W.k_is)
      ..
    obtain ⟨t, T⟩ := T
    have e0 := hmg.symm.trans (PySem.W.mg_of KX G T.law)
    cases e0                                       -- fa is the law's own address
    exact ⟨_, fun s u => .of_eq rfl, fun base kb nb => My.law_fn T kb nb⟩     -- if «.of_eq rfl» comes too early: refine' ⟨_, ?b, fun base kb nb => My.law_fn T kb nb⟩; exact fun s u => .of_eq rfl
  case S => exact fun w H a ns hl hO hS => ..
  case C => exact ..
(the tactic k_is has no namespace: write k_is) -/

/-! SHORT WORDS over the layer: a def of the text, its body, what a loop and a test want. -/
namespace L2
open PySem PySem.Spec PyProof.Rows

/-! ### the text by places -/
/-- the j-th statement of a class's body -/
def inClass (s : Stmt) (j : Nat) : Stmt := match s with
  | .ClassDef _ _ _ body _ _ _ _ _ _ _ => body.getD j (.Pass ⟨0, 0, 0, 0⟩)
  | _ => .Pass ⟨0, 0, 0, 0⟩
def defArgs (s : Stmt) : Arguments := match s with
  | .FunctionDef _ a _ _ _ _ _ _ _ _ => a
  | _ => { posonlyargs := [], args := [], vararg := none, kwonlyargs := [], kw_defaults := [], kwarg := none, defaults := [] }
def defBody (s : Stmt) : List Stmt := match s with
  | .FunctionDef _ _ b _ _ _ _ _ _ _ => b
  | _ => []
def defScope (s : Stmt) : Scope := match s with
  | .FunctionDef _ _ _ _ _ _ sc _ _ _ => sc
  | _ => { kind := .function, names := [], isGenerator := false, isCoroutine := false }

/-! ### no exception leaves a def -/
abbrev CX0 : CXT := fun _ _ _ _ _ _ => False
abbrev E0 : XK := fun _ _ _ => False
theorem pass0 {X : Cx} : Passes CX0 X E0 := fun _ _ _ _ _ _ _ h => h.elim

/-! ### a def (or method) of the text as it stands behind the top -/
structure Fun (K : PySem.W.Frag) (x qual : Str) (st : Stmt) (f : Addr) (fd : FuncData) : Prop where
  ex : ∃ (oc : Value) (od : Option Addr) (kV doc pm : Value) (an : Option Addr) (cdv ct : Value) (osl : Array (Option Value)),
    fd = PySem.W.fnOf x qual (defArgs st) (defBody st) (defScope st) .none kV doc pm an cdv ct ∧ K.lookup f = some ⟨oc, od, .func fd, osl⟩ ∧ PySem.W.codeIn K cdv qual = true
  kp : PySem.W.keepIn K (.ref f) = true
section
variable {P : Program} {w : World} {K : PySem.W.Frag} {mg : Str → Option Value} {base : Heap}
/-- THE RULE for a def: its body as a term of rules, and the reading of that term -/
theorem Fun.ok {x qual : Str} {st : Stmt} {f : Addr} {fd : FuncData} {N ps : List Str} {k : Nat} {sp : Sp} (F : Fun K x qual st f fd) (S : FnScope N ps (defScope st)) (len : ∀ vs H Q E, sp vs H Q E → vs.length = ps.length)
    (hbody : ∀ (cdv : Value) (A : Around) (outer : List Env) (s : Shared) (H : Hp) (vs : List V) (Q : VK) (E : XK), Room k (A.deeper (envOfC qual (defScope st) s.heap.objs.size f cdv)) → sp vs H Q E →
      ∃ t, PSs (cxOf CX0 P w K mg base N qual (defScope st) f cdv A outer s H E).nox (defBody st) t ∧ t { nx := fun _ H' => Q .non H', rt := Q } (start N vs) H) : FnOk P w K mg base CX0 (k + 1) f fd ps sp := by
  obtain ⟨oc, od, kV, doc, pm, an, cdv, ct, osl, rfl, lk, hcd⟩ := F.ex
  refine fn_of lk hcd S len fun A outer s H vs Q E hr hsp => ?_
  obtain ⟨t, h, q⟩ := hbody cdv A outer s H vs Q E hr hsp
  exact ⟨t, h.nox, q⟩
/-- how its arguments bind (no defaults): h is «fun _ _ _ _ _ _ us hl => match us, hl with | [_, _], _ => rfl», one _ a parameter -/
theorem Fun.binds {x qual : Str} {st : Stmt} {f : Addr} {fd : FuncData} {ps : List Str} (F : Fun K x qual st f fd)
    (h : ∀ (kV doc pm : Value) (an : Option Addr) (cdv ct : Value) (us : List Value), us.length = ps.length → bindArgs (PySem.W.fnOf x qual (defArgs st) (defBody st) (defScope st) .none kV doc pm an cdv ct) ⟨us, []⟩ = pure (ps.zip us)) : Binds K fd ps [] := by
  obtain ⟨oc, od, kV, doc, pm, an, cdv, ct, osl, rfl, lk, hcd⟩ := F.ex
  exact .all (h kV doc pm an cdv ct)
theorem fun_mk {x qual : Str} {st : Stmt} {f : Addr} {oc : Value} {od an : Option Addr} {osl : Array (Option Value)} {kV doc pm cdv ct : Value} (l : K.lookup f = some ⟨oc, od, .func (PySem.W.fnOf x qual (defArgs st) (defBody st) (defScope st) .none kV doc pm an cdv ct), osl⟩)
    (c : PySem.W.codeIn K cdv qual = true) (k : PySem.W.keepIn K (.ref f) = true) : Fun K x qual st f (PySem.W.fnOf x qual (defArgs st) (defBody st) (defScope st) .none kV doc pm an cdv ct) := ⟨⟨oc, od, kV, doc, pm, an, cdv, ct, osl, rfl, l, c⟩, k⟩
end
theorem hu_of {A : Around} {k : Nat} (hr : Room k A) : A.units + 1 < cLine := Nat.lt_of_le_of_lt (Nat.add_le_add_left (by decide : 1 ≤ 64) _) hr.units
theorem small1000 {n : Nat} (h : n ≤ 1000) : n < sizeLine := Nat.lt_of_le_of_lt h (by decide)

/-! ### expressions in short: the name that stands in the i-th slot -/
section
variable {X : Cx}
theorem pv (i : Nat) {x : Str} {pos : Pos} (hN : X.N[i]? = some x := by rfl) (hv : Vis X.env.scope x := by first | exact Or.inl rfl | exact Or.inr (Or.inl rfl) | exact Or.inr (Or.inr rfl)) (hd : (x == ("__debug__" : Str)) = false := by decide)
    (hcd : (x == ("__classdict__" : Str)) = false := by decide) : PE X (.Name x pos) (tVar i) := pe_var hN hv hd hcd
end

/-! ### tests -/
theorem iteF {A B : Prop} (h : B) : if false = true then A else B := by
  rw [if_neg Bool.false_ne_true]
  exact h
theorem iteT {A B : Prop} (h : A) : if true = true then A else B := by
  rw [if_pos rfl]
  exact h
theorem ite2 {c A B : Prop} [Decidable c] (h1 : c → A) (h2 : ¬ c → B) : if c then A else B := by
  by_cases h : c
  · rw [if_pos h]
    exact h1 h
  · rw [if_neg h]
    exact h2 h
theorem iteNS {c A B : Prop} [Decidable c] (hc : c) (h : B) : if (!decide c) = true then A else B := by
  rw [decide_eq_true hc]
  exact iteF h

/-! ### heaps -/
/-- all that was tracked is as it was -/
def Same (H H' : Hp) : Prop := ∀ b o, H b = some o → H' b = some o
theorem Same.refl (H : Hp) : Same H H := fun _ _ h => h
theorem Same.trans {H H1 H2 : Hp} (a : Same H H1) (b : Same H1 H2) : Same H H2 := fun c o h => b c o (a c o h)
theorem Same.free {H H' : Hp} (e : Same H H') {l : Addr} (h : H' l = Option.none) : H l = Option.none := by
  cases q : H l with
  | none => rfl
  | some o =>
    rw [e l o q] at h
    cases h
theorem Same.seq {K : PySem.W.Frag} {H H' : Hp} {a : Addr} {xs : List V} (e : Same H H') (h : SqL K H a xs) : SqL K H' a xs := by
  rcases h with (h | ⟨o, h⟩) | h
  · exact .inl (.inl (e _ _ h))
  · exact .inl (.inr ⟨o, e _ _ h⟩)
  · exact .inr h

end L2
namespace L2
open PySem PySem.Spec PyProof.Rows

/-! ### tracking an object that already stands; several records that turn -/
section
variable {X : Cx} {pins : List (Addr × Obj)} {σ : St} {H : Hp} {s : Shared} {h' : Heap}
theorem Inv.track {p : Addr} {o : HO} (I : Inv X pins σ H s) (f : FpOk X pins H p) (new : ObjOk X.prog X.w (upd H p o) s.heap p o) : Inv X pins σ (upd H p o) s := by
  obtain ⟨f0, f1, f2, f3, f4, f5⟩ := f
  have nu : ∀ b u, H b = some u → b ≠ p := fun b u e z => by rw [z, f0] at e; cases e
  refine I.step (h' := s.heap) (g' := s.gens) (d' := s.drawn) (t' := s.toks) (ch := [p]) (fun b hb => ?_) (fun b o _ _ _ e _ => e) (fun b o _ _ _ e _ => ⟨o.slots, e⟩)
    (fun b o hc _ n => by rw [upd_ne (fun z => hc (by simp [z]))]; exact n) (fun b o _ e => ⟨o, e⟩) (fun b xs e => by rw [upd_ne (nu _ _ e)]; exact e) (fun b o u e => by rw [upd_ne (nu _ _ e)]; exact e)
    (fun b ps e => ⟨#[], by rw [upd_ne (nu _ _ e), e]; simp⟩) (fun m hm => hm) (fun b u e => ?_) I.bare
  · have e : b = p := by simpa using hb
    subst e
    exact ⟨f3, f1, f4, f5⟩
  · by_cases hb : b = p
    · subst hb
      rw [upd_same] at e
      cases e
      exact new
    · rw [upd_ne hb] at e
      exact (I.hok b u e).stay (fun c v _ q => q) (fun c q => by rw [upd_ne (nu _ _ q)]; exact q) fun c xs q => by rw [upd_ne (nu _ _ q)]; exact q
theorem Inv.turnedL {t' : Nat} {ch : List Addr} (I : Inv X pins σ H s) (k : ∀ b o, b ∉ ch → s.heap.get? b = some o → h'.get? b = some o) (hf : ∀ b ∈ ch, FpOk X pins H b) : Inv X pins σ H { s with heap := h', toks := t' } := by
  have nit : ∀ b u, H b = some u → b ∉ ch := fun b u e z => by rw [(hf b z).1] at e; cases e
  refine I.step (g' := s.gens) (d' := s.drawn) (ch := ch) (fun b hb => ?_) (fun b o _ _ hc e _ => k b o hc e) (fun b o _ _ hc e _ => ⟨o.slots, k b o hc e⟩) (fun _ _ _ _ n => n)
    (fun b o hc e => ⟨o, k b o hc e⟩) (fun _ _ e => e) (fun _ _ _ e => e) (fun b ps e => ⟨#[], by rw [e]; simp⟩) (fun m hm => ?_) (fun b u e => ?_) I.bare
  · obtain ⟨f0, f1, f2, f3, f4, f5⟩ := hf b hb
    exact ⟨f3, f1, f4, f5⟩
  · obtain ⟨o, es, ep, ho, r⟩ := hm
    exact ⟨o, es, ep, k _ o (fun z => (hf _ z).2.1 rfl) ho, r⟩
  · refine (I.hok b u e).stay (fun c v hc q => k c v ?_ q) (fun _ q => q) fun _ _ q => q
    rcases hc with z | z
    · rw [z]; exact nit b u e
    · exact nit c _ z
theorem FpOk.mono {H' : Hp} {b : Addr} (f : FpOk X pins H b) (hn : H' b = none) : FpOk X pins H' b := ⟨hn, f.2⟩
end

/-! ### what a comprehension's block captures -/
def closL (env : Env) : List (Str × NameKind) → List (Str × Addr) → List (Str × Addr)
  | [], cs => cs
  | (n, k) :: r, cs => if k == .free then (match env.cells.lookup n with | some c => closL env r ((n, c) :: cs) | none => closL env r cs) else closL env r cs
theorem closL_sub {env : Env} : ∀ {ns : List (Str × NameKind)} {cs : List (Str × Addr)}, (∀ p ∈ cs, env.cells.lookup p.1 = some p.2) → ∀ p ∈ closL env ns cs, env.cells.lookup p.1 = some p.2
  | [], _, h => h
  | (n, k) :: r, cs, h => by
    unfold closL
    split
    · split
      · rename_i c e
        exact closL_sub (ns := r) fun p hp => by
          rcases List.mem_cons.mp hp with rfl | hp
          · exact e
          · exact h p hp
      · exact closL_sub (ns := r) h
    · exact closL_sub (ns := r) h
theorem closL_sub0 {env : Env} {ns : List (Str × NameKind)} : ∀ p ∈ closL env ns [], env.cells.lookup p.1 = some p.2 := closL_sub fun p h => by cases h
theorem closL_mono {env : Env} : ∀ {ns : List (Str × NameKind)} {cs : List (Str × Addr)} {p : Str × Addr}, p ∈ cs → p ∈ closL env ns cs
  | [], _, _, h => h
  | (n, k) :: r, cs, p, h => by
    unfold closL
    split
    · split
      · exact closL_mono (ns := r) (List.mem_cons_of_mem _ h)
      · exact closL_mono (ns := r) h
    · exact closL_mono (ns := r) h
theorem closL_mem {env : Env} {x : Str} {c : Addr} (hc : env.cells.lookup x = some c) : ∀ {ns : List (Str × NameKind)} {cs : List (Str × Addr)}, (x, NameKind.free) ∈ ns → (x, c) ∈ closL env ns cs
  | [], _, h => nomatch h
  | (n, k) :: r, cs, h => by
    unfold closL
    rcases List.mem_cons.mp h with e | h
    · cases e
      rw [if_pos (by rfl), hc]
      exact closL_mono List.mem_cons_self
    · split
      · split
        · exact closL_mem hc (ns := r) h
        · exact closL_mem hc (ns := r) h
      · exact closL_mem hc (ns := r) h
theorem lookup_of_all {cs : List (Str × Addr)} {env : Env} (h : ∀ p ∈ cs, env.cells.lookup p.1 = some p.2) {x : Str} {c : Addr} (e : cs.lookup x = some c) : env.cells.lookup x = some c := h (x, c) (PySem.mem_of_lookup e)
theorem lookup_of_mem {x : Str} {c : Addr} : ∀ {cs : List (Str × Addr)}, (x, c) ∈ cs → ∃ c', cs.lookup x = some c'
  | [], h => nomatch h
  | (n, d) :: r, h => by
    by_cases e : x = n
    · subst e
      exact ⟨d, by simp [List.lookup]⟩
    · have hb : (x == n) = false := beq_eq_false_iff_ne.mpr e
      rcases List.mem_cons.mp h with z | z
      · cases z
        exact absurd rfl e
      · obtain ⟨c', q⟩ := lookup_of_mem z
        exact ⟨c', by simp [List.lookup, hb, q]⟩
theorem closureFor_loop {env : Env} : ∀ (ns : List (Str × NameKind)) (cs : List (Str × Addr)), (∀ x ∈ ns, x.2 = .free → ∃ c, env.cells.lookup x.1 = some c) →
    (forIn ns cs fun x r => (if (x.2 == NameKind.free) = true then (do let c ← cellOf env x.1; pure (ForInStep.yield ((x.1, c) :: r))) else pure (ForInStep.yield r) : Sem (ForInStep (List (Str × Addr))))) = (pure (closL env ns cs) : Sem (List (Str × Addr)))
  | [], cs, _ => rfl
  | (n, k) :: r, cs, h => by
    have ih := fun cs => closureFor_loop r cs fun x hx => h x (List.mem_cons_of_mem _ hx)
    rw [List.forIn_cons]
    unfold closL
    cases hk : (k == NameKind.free) with
    | false =>
      simp only [Bool.false_eq_true, if_false]
      exact ih cs
    | true =>
      obtain ⟨c, hc⟩ := h (n, k) List.mem_cons_self (by simpa using hk)
      have hc' : env.cells.lookup n = some c := hc
      simp only [if_true]
      unfold cellOf
      rw [hc']
      exact ih ((n, c) :: cs)
theorem closureFor_eq {scope : Scope} {env : Env} (h : ∀ x ∈ scope.names, x.2 = .free → ∃ c, env.cells.lookup x.1 = some c) : closureFor scope env = pure (closL env scope.names []) := by
  have e := closureFor_loop scope.names [] h
  have e2 : closureFor scope env = (forIn scope.names [] (fun x r => (if (x.2 == NameKind.free) = true then (do let c ← cellOf env x.1; pure (ForInStep.yield ((x.1, c) :: r))) else pure (ForInStep.yield r) : Sem (ForInStep (List (Str × Addr))))) >>= fun z => pure z : Sem (List (Str × Addr))) := rfl
  rw [e2, e]
  rfl
end L2

namespace L2
open PySem PySem.Spec PyProof.Rows

structure CompScope (osc : Scope) (N : List Str) (scope : Scope) (N' : List Str) (nt : Nat) (caps : List Nat) : Prop where
  kind : scope.kind = .function
  nocell : ∀ y ∈ scope.names, y.2 ≠ .cell
  names : ∀ y ∈ scope.names, y.2 = .local → scope.names.lookup y.1 = some .local
  frees : ∀ y ∈ scope.names, y.2 = .free → osc.names.lookup y.1 = some .cell ∨ osc.names.lookup y.1 = some .free
  capt : caps.map (fun j => N[j]?) = (N'.drop nt).map some
  capf : ∀ x ∈ N'.drop nt, scope.names.lookup x = some .free
  len : nt ≤ N'.length
  nd : N'.Nodup

/-- the block's names at its entry: the targets unset, then the captured ones -/
def sgm (nt : Nat) (caps : List Nat) (σ : St) : St := List.replicate nt none ++ caps.map fun j => (σ[j]?).getD none

/-- a block's own things: its names' record, the state and heap at its entry, its iterator -/
structure Blk where
  C : Addr
  s : Shared
  H : Hp
  fp : List Addr
def cxComp (X : Cx) (N' : List Str) (scope : Scope) (B : Blk) : Cx :=
  { X with N := N', s₀ := B.s, H₀ := B.H, env := compEnvC scope (closL X.env scope.names []) B.C X.env, outer := X.stack, ex := B.fp, fn := fun _ => false, xe := fun _ _ => False }

theorem mem_relabel {scope : Scope} {env : Env} {x : Str} {k : NameKind} (h : (x, k) ∈ (relabel scope env).names) : ∃ k0, (x, k0) ∈ scope.names ∧ (k = k0 ∨ (k = .cell ∧ k0 = .free)) := by
  obtain ⟨⟨n, k0⟩, hm, e⟩ := List.mem_map.mp h
  dsimp only at e
  split at e
  · rename_i hc
    cases e
    refine ⟨k0, hm, .inr ⟨rfl, ?_⟩⟩
    simp only [Bool.and_eq_true, beq_iff_eq] at hc
    exact hc.1.1
  · cases e
    exact ⟨_, hm, .inl rfl⟩
theorem lookup_relabel_free {env : Env} : ∀ {names : List (Str × NameKind)} {x : Str}, names.lookup x = some .free →
    (names.map fun (n, k) => if (k == NameKind.free && env.scope.kind == .function && env.kindOf n == some .cell) then (n, NameKind.cell) else (n, k)).lookup x = some .cell ∨
    (names.map fun (n, k) => if (k == NameKind.free && env.scope.kind == .function && env.kindOf n == some .cell) then (n, NameKind.cell) else (n, k)).lookup x = some .free
  | [], _, h => by simp at h
  | (n, k) :: r, x, h => by
    have ih := @lookup_relabel_free env r x
    rw [List.map_cons]
    cases hx : x == n with
    | true =>
      simp only [List.lookup_cons, hx] at h
      cases h
      dsimp only
      split
      · left; simp only [List.lookup_cons, hx]
      · right; simp only [List.lookup_cons, hx]
    | false =>
      simp only [List.lookup_cons, hx] at h
      dsimp only
      split
      · simp only [List.lookup_cons, hx]; exact ih h
      · simp only [List.lookup_cons, hx]; exact ih h

section
variable {X : Cx} {pins : List (Addr × Obj)} {σ : St} {H : Hp} {s₂ : Shared} {scope : Scope} {N' : List Str} {nt : Nat} {caps : List Nat} {fp : List Addr} {C : Addr}

theorem comp_ok (I : Inv X pins σ H s₂) (S : CompScope X.env.scope X.N scope N' nt caps) (f2 : ∀ b ∈ fp, FpOk X pins H b) (hlt : ∀ b ∈ fp, b < s₂.heap.objs.size) (hC : s₂.heap.objs.size ≤ C) :
    (cxComp X N' scope ⟨C, s₂, H, fp⟩).Ok where
  mod := I.ok.mod
  kind := S.kind
  glob := I.ok.glob
  blt := I.ok.blt
  above := hC
  inj := fun x y c h1 h2 => I.ok.inj x y c (lookup_of_all closL_sub0 h1) (lookup_of_all closL_sub0 h2)
  has := fun x hx => by
    have hm : ∃ k, (k = NameKind.cell ∨ k = NameKind.free) ∧ (x, k) ∈ (relabel scope X.env).names := by
      rcases hx with e | e
      · exact ⟨_, .inl rfl, PySem.mem_of_lookup e⟩
      · exact ⟨_, .inr rfl, PySem.mem_of_lookup e⟩
    obtain ⟨k, hk, hm⟩ := hm
    obtain ⟨k0, h0, e⟩ := mem_relabel hm
    have hf : k0 = .free := by
      rcases e with e | ⟨_, e⟩
      · rcases hk with z | z
        · exact absurd (e.symm.trans z) (S.nocell _ h0)
        · exact e.symm.trans z
      · exact e
    subst hf
    obtain ⟨c, hc⟩ := I.ok.has x (S.frees _ h0 rfl)
    exact lookup_of_mem (closL_mem hc h0)
  cab := fun x c h => absurd (show false = true from h) Bool.false_ne_true
  hd := I.ok.hd
  frames := I.ok.frames
  stk := .inl rfl
  exf := fun b hb => ⟨Nat.ne_of_lt (Nat.lt_of_lt_of_le (hlt b hb) hC), fun x c e => (f2 b hb).2.2.2.2.1 x c (lookup_of_all closL_sub0 e)⟩
  bs := I.bs
  bsz := Nat.le_trans I.ok.bsz I.sz
  noex := fun b o e hb => by
    rcases (f2 b hb).2.2.2.1 with z | z
    · exact I.ok.noex b o e z
    · exact absurd (Nat.lt_of_lt_of_le (Heap.lt_size e) (Nat.le_trans I.ok.bsz z)) (Nat.lt_irrefl _)
  exfs := fun b hb hf => by
    rcases List.mem_cons.mp (I.stkSub b hf) with e | e
    · exact (f2 b hb).2.1 e
    · exact (f2 b hb).2.2.1 e
  funs := I.stack
  frf := I.stkFree

theorem inv_comp {h₁ : Heap} {tk : Nat} {m0 : Str → Option Value} (I : Inv X pins σ H s₂) (S : CompScope X.env.scope X.N scope N' nt caps) (f2 : ∀ b ∈ fp, FpOk X pins H b) (hlt : ∀ b ∈ fp, b < s₂.heap.objs.size)
    (hC : s₂.heap.objs.size ≤ C) (hns : h₁.Ns C m0) (old : ∀ b o, s₂.heap.get? b = some o → h₁.get? b = some o) :
    Inv (cxComp X N' scope ⟨C, s₂, H, fp⟩) pins (sgm nt caps σ) H { s₂ with heap := h₁, toks := tk } := by
  have hl := congrArg List.length S.capt
  rw [List.length_map, List.length_map, List.length_drop] at hl
  have sub : ∀ {x c}, (closL X.env scope.names []).lookup x = some c → X.env.cells.lookup x = some c := fun e => lookup_of_all closL_sub0 e
  refine ⟨comp_ok I S f2 hlt hC, rfl, I.bare, Un.kept old, ⟨m0, hns, fun i x v e1 e2 e3 => ?_⟩, fun x c e => ?_, I.hok.fresh hC, fun x c e => I.freeC x c (sub e), fun p hp => ?_, I.hok.kept old, ?_⟩
  · have e1' : N'[i]? = some x := e1
    have e2' : (List.replicate nt none ++ caps.map fun j => (σ[j]?).getD none)[i]? = some (some v) := e2
    have hi : nt ≤ i := by
      rcases Nat.lt_or_ge i nt with z | z
      · rw [List.getElem?_append_left (by simpa using z), List.getElem?_replicate, if_pos z] at e2'
        cases e2'
      · exact z
    rw [List.getElem?_append_right (by simpa using hi), List.length_replicate, List.getElem?_map] at e2'
    cases hj : caps[i - nt]? with
    | none => rw [hj] at e2'; cases e2'
    | some j =>
      rw [hj] at e2'
      have e3' : (σ[j]?).getD none = some v := Option.some.inj e2'
      have hσ : σ[j]? = some (some v) := by
        cases q : σ[j]? with
        | none => rw [q] at e3'; cases e3'
        | some o => rw [q] at e3'; have z : o = some v := e3'; rw [z]
      have hd : (N'.drop nt)[i - nt]? = some x := by rw [List.getElem?_drop, Nat.add_sub_cancel' hi]; exact e1'
      have hN : X.N[j]? = some x := by
        have q := congrArg (fun l => l[i - nt]?) S.capt
        have q : (caps.map fun j => X.N[j]?)[i - nt]? = ((N'.drop nt).map some)[i - nt]? := q
        rw [List.getElem?_map, List.getElem?_map, hj, hd] at q
        exact Option.some.inj q
      have hfx := S.capf x (List.mem_of_getElem? hd)
      have hko := S.frees (x, .free) (PySem.mem_of_lookup hfx) rfl
      have vis : Vis X.env.scope x := .inr hko
      obtain ⟨m, hn, hl'⟩ := I.loc
      obtain ⟨u, r, l⟩ := hl' j x v hN hσ vis
      refine ⟨u, r, .inr ⟨?_, ?_⟩⟩
      · exact lookup_relabel_free hfx
      · rcases l with ⟨k, _⟩ | ⟨_, c, e, z⟩
        · have k' : X.env.scope.names.lookup x = some .local := k
          rcases hko with q | q <;> (rw [k'] at q; cases q)
        · obtain ⟨c', q⟩ := lookup_of_mem (closL_mem e (PySem.mem_of_lookup hfx) (cs := []))
          have q2 := sub q
          rw [e] at q2
          cases q2
          obtain ⟨o, ho, hd'⟩ := z
          exact ⟨c, q, o, old _ _ ho, hd'⟩
  · obtain ⟨v, o, ho, hd'⟩ := I.cell x c (sub e)
    exact ⟨v, o, old _ _ ho, hd'⟩
  · obtain ⟨a, b, c, d, e⟩ := I.pin p hp
    refine ⟨old _ _ a, b, Nat.ne_of_lt (Nat.lt_of_lt_of_le (Heap.lt_size a) hC), fun hf => ?_, e⟩
    rcases List.mem_cons.mp (I.stkSub p.1 hf) with z | z
    · exact c z
    · exact d z
  · show (List.replicate nt none ++ caps.map fun j => (σ[j]?).getD none).length = N'.length
    rw [List.length_append, List.length_replicate, List.length_map]
    have := S.len
    omega
end

/-! ### the tests of a clause -/
def PTs (X : Cx) (ifs : List Expr) (t : TT) : Prop :=
  ∀ (pins : List (Addr × Obj)) (s : Shared) (σ : St) (H : Hp) (Q : Bool → Hp → Prop), Inv X pins σ H s → t σ H Q →
    wpAny (model X.prog X.w) X.A (forIn ifs true fun c r => if r = true then do let ok ← isTrue c X.env (eval c X.env); pure (ForInStep.yield ok) else pure (ForInStep.yield r)) (TP X pins σ Q) X.xe s
def tTrue : TT := fun _ H Q => Q true H
theorem pts_nil {X : Cx} : PTs X [] tTrue := fun _ _ _ H _ I h => wpAny_tests_nil ⟨H, I, h⟩
theorem pts_one {X : Cx} {c : Expr} {t : TT} (h : PT X c t) : PTs X [c] t := fun pins s σ H Q I q => wpAny_tests_one (h pins s σ H Q I q)

section
variable {prog : Program} {w : World} {A : Around} {R : Result → Shared → Prop} {s : Shared}
theorem codeAny_compLoop_go {elt target iter : Expr} {ifs : List Expr} {scope : Scope} {pos : Pos} {it acc : Value} {env : Env} (I : Nat → Shared → Prop)
    (turn : ∀ n s, I n s → wpAny (model prog w) A (pyNext it) (fun r s₁ => match r with
      | none => R (.ok .next) s₁
      | some v => wpAny (model prog w) A (letOwnedTupleGo target it v) (fun _ s₁' => wpAny (model prog w) A (assign target env v) (fun _ s₂ =>
          wpAny (model prog w) A (forIn ifs true fun c r => if r = true then do let ok ← isTrue c env (eval c env); pure (ForInStep.yield ok) else pure (ForInStep.yield r)) (fun ok s₃ =>
            if ok = true then wpAny (model prog w) A (eval elt env) (fun x s₄ =>
              wpAny (model prog w) A (call (.builtin "list.append") [acc, x]) (fun _ s₅ => ∃ m, m < n ∧ I m s₅) (notedBy (model prog w) A env fun e s' => R (.error e) s') s₄) (notedBy (model prog w) A env fun e s' => R (.error e) s') s₃
            else ∃ m, m < n ∧ I m s₃) (notedBy (model prog w) A env fun e s' => R (.error e) s') s₂) (notedBy (model prog w) A env fun e s' => R (.error e) s') s₁') (notedBy (model prog w) A env fun e s' => R (.error e) s') s₁)
      (notedBy (model prog w) A env fun e s' => R (.error e) s') s)
    (n : Nat) (h : I n s) : codeAny (model prog w) A (.compLoop (.ListComp elt [⟨target, iter, ifs, 0⟩] scope pos) 0 it acc env) R s := by
  refine codeAny_loop rfl I (fun n s hI => ?_) n h
  show wpAny _ A ((compTurn (.ListComp elt [⟨target, iter, ifs, 0⟩] scope pos) 0 it acc env).onRaise (fun x => do noteFrame x env; theTreesLotGoes x)) _ _ s
  refine wpAny_noted ?_
  rw [compTurn_list]
  refine wpAny_bind (wpAny_standAt (wpAny_bind (wpAny_mono (turn n s hI) (fun r s₁ h₁ => ?_) fun _ _ h' => h')))
  cases r with
  | none => exact wpAny_pure h₁
  | some v =>
    refine wpAny_bind (wpAny_mono h₁ (fun _ s₁' h₁' => ?_) fun _ _ h' => h')
    refine wpAny_bind (wpAny_mono h₁' (fun _ s₂ h₂ => wpAny_bind (wpAny_mono h₂ (fun ok s₃ h₃ => ?_) fun _ _ h' => h')) fun _ _ h' => h')
    cases ok with
    | false => exact wpAny_pure ⟨rfl, h₃⟩
    | true =>
      exact wpAny_bind (wpAny_bind (wpAny_mono h₃ (fun x s₄ h₄ => wpAny_bind (wpAny_mono h₄ (fun _ s₅ h₅ => wpAny_pure (wpAny_pure ⟨rfl, h₅⟩)) fun _ _ h' => h')) fun _ _ h' => h'))
end

section
variable {X : Cx} {pins : List (Addr × Obj)} {σ : St} {H : Hp} {s₂ : Shared} {scope : Scope} {N' : List Str} {nt : Nat} {caps : List Nat} {tg elt iter : Expr} {ifs : List Expr} {pos : Pos} {g : Blk → TG} {tt : Blk → TT} {te : Blk → TE}

/-- one turn and the end, by what the block wants -/
def CompW (J : It) (g : TG) (tt : TT) (te : TE) (W : Nat → Nat → List V → St → Hp → Prop) (Z : List V → Hp → Prop) : Prop :=
  ∀ i m ys σ' H', W i m ys σ' H' → (J.stop i H' ∧ Z ys H') ∨ (J.go i H' ∧ ys.length < sizeLine ∧ ∃ N : List V → St → Hp → Prop, (∀ zs σ2 H2, N zs σ2 H2 → ∃ m', m' < m ∧ W (i + 1) m' zs σ2 H2) ∧
    ∀ x H2, J.yld i H' x H2 → g x σ' H2 fun σ2 H3 => tt σ2 H3 fun b H4 => if b = true then te σ2 H4 fun y H5 => N (ys ++ [y]) σ2 H5 else N ys σ2 H4)

abbrev lobj (its : List Value) (n : Nat) : Obj := { cls := .type "list", data := .seq its.toArray n }

theorem comp_run {J : It} {it : Addr} {fp : List Addr} {tn : Nat → Heap → Prop} {W : Nat → Nat → List V → St → Hp → Prop} {Z : List V → Hp → Prop} {RR : Value → Addr → Result → Shared → Prop} {E : Value → Shared → Prop}
    (hc : X.calm = true) (S : CompScope X.env.scope X.N scope N' nt caps)
    (hg : ∀ B, PG (cxComp X N' scope B) tg (g B)) (ht : ∀ B, PTs (cxComp X N' scope B) ifs (tt B)) (he : ∀ B, PE (cxComp X N' scope B) elt (te B))
    (I : Inv X pins σ H s₂) (T : Turn X.prog X.w X.K tg J fp it tn) (st : tn 0 s₂.heap) (f2 : ∀ b ∈ fp, FpOk X pins H b) (w0 : ∃ m, W 0 m [] (sgm nt caps σ) H) (turn : ∀ B, CompW J (g B) (tt B) (te B) W Z)
    (hRR : ∀ D C s' ys H', Z ys H' → H' D = none → Inv X pins σ (upd H' D (.lst ys)) s' → FpOk X pins (upd H' D (.lst ys)) C → (∃ m, s'.heap.Ns C m) → RR (.ref D) C (.ok .next) s') :
    wpAny (model X.prog X.w) X.A (newList []) (fun acc s₃ => wpAny (model X.prog X.w) X.A (newFunctionEnv scope X.env.globals (closL X.env scope.names []) [] X.env.qual none .none (some X.env)) (fun cenv s₄ =>
      codeAny (model X.prog X.w) X.A (.compStart (.ListComp elt [⟨tg, iter, ifs, 0⟩] scope pos) 0 (.ref it) acc { cenv with scope := relabel scope X.env }) (RR acc cenv.locals) s₄) E s₃) E s₂ := by
  refine wpAny_newObj_type (wpAny_newFunctionEnv S.nocell (by intro y hy; simp at hy) (fun h₁ hns₁ hsb₁ => ?_) S.kind)
  dsimp only at hns₁ hsb₁ ⊢
  generalize hH2 : s₂.heap.push { cls := .type "list", dict := none, data := .seq ([] : List Value).toArray } = G2 at hns₁ hsb₁ ⊢
  have hCe : G2.objs.size = s₂.heap.objs.size + 1 := by rw [← hH2, Heap.size_push]
  have hDC : s₂.heap.objs.size ≠ G2.objs.size := by rw [hCe]; exact Nat.ne_of_lt (Nat.lt_succ_self _)
  have hCle : s₂.heap.objs.size ≤ G2.objs.size := by rw [hCe]; exact Nat.le_succ _
  have hlt : ∀ b ∈ fp, b < s₂.heap.objs.size := fun b hb => let ⟨o, e, _⟩ := T.obj 0 _ st b hb; Heap.lt_size e
  have old : ∀ b o, s₂.heap.get? b = some o → h₁.get? b = some o := fun b o e =>
    hsb₁.extBut b o (Nat.ne_of_lt (Nat.lt_of_lt_of_le (Heap.lt_size e) hCle)) (Heap.get?_push_of_some _ (hH2 ▸ Heap.get?_push_of_some _ e))
  have hacc : h₁.get? s₂.heap.objs.size = some (lobj [] 0) := hsb₁.extBut _ _ hDC (Heap.get?_push_of_some _ (hH2 ▸ Heap.get?_push_size _ rfl))
  generalize hD : s₂.heap.objs.size = D at hacc hDC hCle hCe
  generalize G2.objs.size = C at hns₁ hsb₁ hDC hCle hCe ⊢
  have hlt' : ∀ b ∈ fp, b < D := fun b hb => hD ▸ hlt b hb
  have hpl : ∀ p ∈ X.pn ++ pins, p.1 < D := fun p hp => hD ▸ Heap.lt_size (I.pin p hp).1
  have hcl : ∀ x c, X.env.cells.lookup x = some c → c < D := fun x c e => let ⟨v, q⟩ := I.cell x c e; hD ▸ q.lt
  have hfsl : ∀ b ∈ frs X.stack, b < D := fun b hb => by
    rcases List.mem_cons.mp (I.stkSub b hb) with z | z
    · rw [z, ← hD]; exact I.lt
    · rw [← hD]
      refine Nat.lt_of_not_le fun q => I.nofs q z
  -- the iterator's and the list's own addresses within the block
  have fD : ∀ {H' : Hp} {pl : List (Addr × Obj)}, H' D = none → (∀ p ∈ X.pn ++ pl, p.1 < D) → FpOk (cxComp X N' scope ⟨C, s₂, H, fp⟩) pl H' D := fun {H' pl} hn hp =>
    ⟨hn, hDC, fun z => Nat.lt_irrefl _ (hfsl D z), .inr (by show s₂.heap.objs.size ≤ D; rw [hD]; exact Nat.le_refl _), fun x c e z => Nat.lt_irrefl D (by have := hcl x c (lookup_of_all closL_sub0 e); rw [z] at this; exact this),
      fun p q z => Nat.lt_irrefl D (by have := hp p q; rw [z] at this; exact this)⟩
  have fI : ∀ {H' : Hp} {n : Nat} {its : List Value}, (∀ b ∈ fp, H' b = none) → ∀ b ∈ fp, FpOk (cxComp X N' scope ⟨C, s₂, H, fp⟩) (pins ++ [(D, lobj its n)]) H' b := fun {H' n its} hn b hb => by
    obtain ⟨g0, g1, g2, g3, g4, g5⟩ := f2 b hb
    refine ⟨hn b hb, Nat.ne_of_lt (Nat.lt_of_lt_of_le (hlt' b hb) hCle), fun z => ?_, .inl hb, fun x c e => g4 x c (lookup_of_all closL_sub0 e), fun p hp z => ?_⟩
    · rcases List.mem_cons.mp (I.stkSub b z) with q | q
      · exact g1 q
      · exact g2 q
    · have hp' : p ∈ X.pn ++ (pins ++ [(D, lobj its n)]) := hp
      rw [← List.append_assoc] at hp'
      rcases List.mem_append.mp hp' with q | q
      · exact g5 p q z
      · have e : p = (D, lobj its n) := by simpa using q
        rw [e] at z
        have := hlt' b hb
        rw [← z] at this
        exact Nat.lt_irrefl _ this
  have pinD : ∀ {σ' : St} {H' : Hp} {s' : Shared} {its : List Value} {n : Nat} {pl : List (Addr × Obj)}, Inv (cxComp X N' scope ⟨C, s₂, H, fp⟩) (pins ++ pl) σ' H' s' → H' D = none → s'.heap.get? D = some (lobj its n) → Inv (cxComp X N' scope ⟨C, s₂, H, fp⟩) (pins ++ [(D, lobj its n)]) σ' H' s' :=
    fun {σ' H' s' its n pl} J hn ho => J.pins_of fun p hp => by
      rcases List.mem_append.mp hp with q | q
      · exact J.pin p (List.mem_append_right _ (List.mem_append_left _ q))
      · have e : p = (D, lobj its n) := by simpa using q
        subst e
        exact ⟨ho, hn, hDC, fun z => Nat.lt_irrefl _ (hfsl D z), fun v z => by cases z⟩
  have I1 : Inv (cxComp X N' scope ⟨C, s₂, H, fp⟩) (pins ++ [(D, lobj [] 0)]) (sgm nt caps σ) H { s₂ with heap := h₁, toks := s₂.toks + ([] : List (Str × Value)).length } :=
    pinD (pl := []) (by rw [List.append_nil]; exact inv_comp I S f2 hlt (by rw [hD]; exact hCle) hns₁ old) (I.hok.fresh (by rw [hD]; exact Nat.le_refl _)) hacc
  have st1 : tn 0 h₁ := T.keep 0 _ _ st fun b _ o e => old b o e
  have loop : ∀ s₃ : Shared, s₃ = { s₂ with heap := h₁, toks := s₂.toks + ([] : List (Str × Value)).length } →
      codeAny (model X.prog X.w) X.A (.compLoop (.ListComp elt [⟨tg, iter, ifs, 0⟩] scope pos) 0 (.ref it) (.ref D) (cxComp X N' scope ⟨C, s₂, H, fp⟩).env) (RR (.ref D) C) s₃ := by
    rintro s₃ rfl
    obtain ⟨m0, w0⟩ := w0
    refine codeAny_compLoop_go (fun k s' => ∃ i ys σ' H' its n, Inv (cxComp X N' scope ⟨C, s₂, H, fp⟩) (pins ++ [(D, lobj its n)]) σ' H' s' ∧ Vals ys its ∧ tn i s'.heap ∧ (∀ b ∈ fp, H' b = none) ∧ ys.length ≤ sizeLine ∧ W i k ys σ' H') ?_ m0
      ⟨0, [], _, H, [], 0, I1, .nil, st1, fun b hb => (f2 b hb).1, Nat.zero_le _, w0⟩
    rintro k s' ⟨i, ys, σ', H', its, n, I', rv, st', fr', hz, w'⟩
    rcases turn ⟨C, s₂, H, fp⟩ i k ys σ' H' w' with ⟨stop, z⟩ | ⟨go, hlen, NN, hNN, step⟩
    · refine thn (T.done (cxComp X N' scope ⟨C, s₂, H, fp⟩) rfl rfl rfl hc i _ s' σ' H' _ I' (fI fr') st' stop) fun r s1 ⟨hr, J⟩ => ?_
      subst hr
      have pd := J.pin (D, lobj its n) (List.mem_append_right _ (List.mem_append_right _ List.mem_cons_self))
      have hDn : H' D = none := pd.2.1
      have J0 : Inv X pins σ H' s1 := I.call' (ch := fp) J.os J.base J.hok J.bare fun b hb => ⟨(f2 b hb).2.2.2.1, (f2 b hb).2.1, (f2 b hb).2.2.2.2.1, (f2 b hb).2.2.2.2.2⟩
      have J1 : Inv X pins σ (upd H' D (.lst ys)) s1 := J0.track (I.fpOk (by rw [hD]; exact Nat.le_refl _) hDn) ⟨hz, its, n, rv, pd.1⟩
      obtain ⟨mC, hnC, _⟩ := J.loc
      exact hRR D C s1 ys H' z hDn J1 (I.fpOk (by rw [hD]; exact hCle) (by rw [upd_ne (Ne.symm hDC)]; exact J.free)) ⟨mC, hnC⟩
    · refine thn (T.item (cxComp X N' scope ⟨C, s₂, H, fp⟩) rfl rfl rfl hc i _ s' σ' H' _ I' (fI fr') st' go) fun r s1 ⟨u, hr, h1⟩ => ?_
      subst hr
      refine thn h1 fun _ s5 ⟨x, H5, I5, r5, y5, st5, fr5⟩ => ?_
      have I5' := I5.pinned (fI fr5) (T.obj _ _ st5)
      refine wpAny_mono (hg ⟨C, s₂, H, fp⟩ _ s5 σ' H5 x u _ I5' r5 (step x H5 y5)) (fun _ s6 ⟨σ6, H6, I6, q6⟩ => ?_) fun _ _ z => z.elim
      refine wpAny_mono (ht ⟨C, s₂, H, fp⟩ _ s6 σ6 H6 _ I6 q6) (fun b s7 ⟨H7, I7, q7⟩ => ?_) fun _ _ z => z.elim
      have keepT : ∀ {σ8 : St} {H8 : Hp} {s8 : Shared}, Inv (cxComp X N' scope ⟨C, s₂, H, fp⟩) ((pins ++ [(D, lobj its n)]) ++ pinsAt fp s5.heap) σ8 H8 s8 → tn (i + 1) s8.heap ∧ (∀ b ∈ fp, H8 b = none) ∧ s8.heap.get? D = some (lobj its n) ∧ H8 D = none := fun {σ8 H8 s8} I8 => by
        refine ⟨T.keep _ _ _ st5 fun b hb o e => (I8.pin (b, o) (List.mem_append_right _ (List.mem_append_right _ (mem_pinsAt hb e)))).1, fun b hb => ?_, ?_⟩
        · obtain ⟨o, e, _⟩ := T.obj _ _ st5 b hb
          exact (I8.pin (b, o) (List.mem_append_right _ (List.mem_append_right _ (mem_pinsAt hb e)))).2.1
        · have pd := I8.pin (D, lobj its n) (List.mem_append_right _ (List.mem_append_left _ (List.mem_append_right _ List.mem_cons_self)))
          exact ⟨pd.1, pd.2.1⟩
      cases b with
      | false =>
        rw [if_neg Bool.false_ne_true] at q7 ⊢
        obtain ⟨m', hm, w7⟩ := hNN _ _ _ q7
        obtain ⟨t7, f7, _, _⟩ := keepT I7
        exact ⟨m', hm, i + 1, ys, σ6, H7, its, n, I7.unpinned, rv, t7, f7, hz, w7⟩
      | true =>
        rw [if_pos rfl] at q7 ⊢
        refine wpAny_mono (he ⟨C, s₂, H, fp⟩ _ s7 σ6 H7 _ I7 q7) (fun v s8 ⟨y, H8, I8, r8, q8⟩ => ?_) fun _ _ z => z.elim
        obtain ⟨m', hm, w8⟩ := hNN _ _ _ q8
        obtain ⟨t8, f8, o8, n8⟩ := keepT I8
        have hlv := rv.length
        refine append_at o8 (fun h9 sb9 o9 => ?_) (by rw [List.size_toArray, ← hlv]; exact hz)
        have I8' : Inv (cxComp X N' scope ⟨C, s₂, H, fp⟩) (pins ++ []) σ6 H8 s8 := by
          rw [List.append_nil]
          exact I8.unpinned.unpinned
        have ep : ((its.toArray.push v)) = (its ++ [v]).toArray := by simp
        rw [ep] at o9
        have I9 : Inv (cxComp X N' scope ⟨C, s₂, H, fp⟩) (pins ++ []) σ6 H8 { s8 with heap := h9 } :=
          I8'.turnedL (t' := s8.toks) (ch := [D]) (fun b o hb e => sb9.extBut b o (fun z => hb (by simp [z])) e) (fun b hb => by
            have e : b = D := by simpa using hb
            subst e
            exact fD n8 (by rw [List.append_nil]; exact hpl))
        refine ⟨m', hm, i + 1, ys ++ [y], σ6, H8, its ++ [v], n + 1, pinD I9 n8 o9, rv.append (.cons r8 .nil), T.keep _ _ _ t8 fun b hb o e => sb9.extBut b o (Nat.ne_of_lt (hlt' b hb)) e, f8, ?_, w8⟩
        rw [List.length_append, List.length_singleton]
        exact hlen
  exact codeAny_compStart_list (loop _ rfl) (T.self X.A 0 _ _ _ st1 (loop _ rfl))

/-- [elt for tg in iter if ..] -/
def tComp (nt : Nat) (caps : List Nat) (wi : TI) (g : Blk → TG) (tt : Blk → TT) (te : Blk → TE) : TE := fun σ H Q => wi σ H fun J H1 =>
  ∃ (W : Nat → Nat → List V → St → Hp → Prop), (∃ m, W 0 m [] (sgm nt caps σ) H1) ∧ ∀ B, CompW J (g B) (tt B) (te B) W fun ys H' => ∀ p, H' p = none → Q (.ref p) (upd H' p (.lst ys))

theorem pe_comp {wi : TI} (osc : Scope) (N : List Str) (S : CompScope osc N scope N' nt caps) (hi : PI X tg iter wi)
    (hg : ∀ B, PG (cxComp X N' scope B) tg (g B)) (ht : ∀ B, PTs (cxComp X N' scope B) ifs (tt B)) (he : ∀ B, PE (cxComp X N' scope B) elt (te B))
    (hc : X.calm = true := by rfl) (hosc : X.env.scope = osc := by rfl) (hNN : X.N = N := by rfl) (hs : ∀ x, foldedSetIterable iter X.env x = pure x := by intro _; rfl) : PE X (.ListComp elt [⟨tg, iter, ifs, 0⟩] scope pos) (tComp nt caps wi g tt te) := by
  subst hosc hNN
  intro pins s σ H Q I h
  have hfr : ∀ x ∈ scope.names, x.2 = .free → ∃ c, X.env.cells.lookup x.1 = some c := fun x hx hf => I.ok.has x.1 (S.frees x hx hf)
  rw [eval_ListComp]
  refine wpAny_comprehension_free (use := none) rfl hs (closureFor_eq hfr) S.kind S.names (thn (hi pins s σ H _ I h) fun v s1 h1 => thn h1 fun itv s2 h2 => ?_)
  obtain ⟨it, fp, tn, J, H2, e, I2, T, st2, f2, W, w0, turn⟩ := h2
  subst e
  refine comp_run (RR := fun acc C => compPost (model X.prog X.w) X.A X.xe none (EP X pins σ Q) acc C) hc S hg ht he I2 T st2 f2 w0 turn ?_
  intro D C s' ys H' z hn J' fC ⟨m, hm⟩
  refine ⟨m, hm, fun h'' sb => ⟨.ref D, _, J'.turnedL (t' := s'.toks) (ch := [C]) (fun b o hb e => sb.extBut b o (fun z => hb (by simp [z])) e) (fun b hb => ?_), rfl, z D hn⟩⟩
  have e : b = C := by simpa using hb
  subst e
  exact fC
/-- name = [elt for ..] where the model stores ahead of letting the block's names go -/
theorem ps_setComp {wi : TI} {i : Nat} {y : Str} {py spos : Pos} (osc : Scope) (N : List Str) (S : CompScope osc N scope N' nt caps) (hN : X.N.Nodup) (hiN : X.N[i]? = some y) (hy : X.env.scope.names.lookup y = some .local) (hi : PI X tg iter wi)
    (hg : ∀ B, PG (cxComp X N' scope B) tg (g B)) (ht : ∀ B, PTs (cxComp X N' scope B) ifs (tt B)) (he : ∀ B, PE (cxComp X N' scope B) elt (te B))
    (hsw : swapsWith (.ListComp elt [⟨tg, iter, ifs, 0⟩] scope pos) (some (.Name y py)) spos.line X.env = pure true := by rfl)
    (hc : X.calm = true := by rfl) (hosc : X.env.scope = osc := by rfl) (hNN : X.N = N := by rfl) (hs : ∀ x, foldedSetIterable iter X.env x = pure x := by intro _; rfl) : PS X (.Assign [.Name y py] (.ListComp elt [⟨tg, iter, ifs, 0⟩] scope pos) spos) (tAsg (tComp nt caps wi g tt te) (gName i)) := by
  subst hosc hNN
  intro pins s σ H D0 I h
  have hfr : ∀ x ∈ scope.names, x.2 = .free → ∃ c, X.env.cells.lookup x.1 = some c := fun x hx hf => I.ok.has x.1 (S.frees x hx hf)
  rw [exec_Assign_Name_used _ _ _ _ hsw]
  refine wpAny_bind (wpAny_standAt (wpAny_bind ?_))
  show wpAny _ _ (do let _ ← comprehension (.ListComp elt [⟨tg, iter, ifs, 0⟩] scope pos) scope X.env _ (newList []) false (eval iter X.env) (some (assign (.Name y py) X.env))) _ _ s
  refine wpAny_bind (wpAny_mono (wpAny_comprehension_free (use := some (assign (.Name y py) X.env)) (Q := fun _ s' => SP X pins D0 .next s') rfl hs (closureFor_eq hfr) S.kind S.names
    (thn (hi pins s σ H _ I h) fun v s1 h1 => thn h1 fun itv s2 h2 => ?_)) (fun _ s' hq => wpAny_pure (wpAny_pure hq)) fun _ _ e => e)
  obtain ⟨it, fp, tn, J, H2, e, I2, T, st2, f2, W, w0, turn⟩ := h2
  subst e
  refine comp_run (RR := fun acc C => compPost (model X.prog X.w) X.A X.xe (some (assign (.Name y py) X.env)) (fun _ s' => SP X pins D0 .next s') acc C) hc S hg ht he I2 T st2 f2 w0 turn ?_
  intro D C s' ys H' z hn J' fC ⟨m, hm⟩
  show wpAny _ _ (assign (.Name y py) X.env (.ref D)) _ _ s'
  refine wpAny_assign_Name (store_ok2 (v := .ref D) J' hN hiN (.inl hy) rfl (fun s'' J'' ⟨a, sb, ha⟩ => ?_) (.inr hy))
  have hCa : C ≠ a := by
    rcases ha with q | q
    · rw [q]; exact fC.2.1
    · exact Ne.symm (fC.2.2.2.2.1 _ _ q)
  refine ⟨m, hm.sameBut sb hCa, fun h'' sb' => ⟨_, _, J''.turnedL (t' := s''.toks) (ch := [C]) (fun b o hb e => sb'.extBut b o (fun z => hb (by simp [z])) e) (fun b hb => ?_), z D hn⟩⟩
  have e : b = C := by simpa using hb
  subst e
  exact fC
end

/-! ### zip of two lists, its pairs taken apart by a written tuple -/
def Itz (K : PySem.W.Frag) (a b : Addr) : It where
  go i H := ∃ xs ys x y, SqL K H a xs ∧ SqL K H b ys ∧ xs[i]? = some x ∧ ys[i]? = some y
  yld i H v H' := ∃ p x y, H p = none ∧ v = .ref p ∧ H' = upd H p (.tup [x, y]) ∧ (∀ xs, SqL K H a xs → xs[i]? = some x) ∧ ∀ ys, SqL K H b ys → ys[i]? = some y
  stop i H := ∃ xs ys, SqL K H a xs ∧ SqL K H b ys ∧ (xs.length ≤ i ∨ ys.length ≤ i)
theorem ne_cls {h : Heap} {a b : Addr} {o u : Obj} {x y : Value} (ha : h.get? a = some o) (hb : h.get? b = some u) (h1 : o.cls = x) (h2 : u.cls = y) (hc : x ≠ y) : a ≠ b := by
  rintro rfl
  rw [ha] at hb
  cases hb
  exact hc (h1.symm.trans h2)
theorem zip_apart {h : Heap} {z TI TO i1 i2 a b : Addr} {k1 k2 : Nat} {xs ys : Array Value} {u v : Value} (hTT : TI ≠ TO) (hii : i1 ≠ i2) (hz : IsZip h z TI TO .none) (hTI : IsPair h TI (.ref i1) (.ref i2)) (hTO : IsPair h TO u v)
    (h1 : h.IsListIter i1 a k1) (h2 : h.IsListIter i2 b k2) (ha : h.IsList a xs) (hb : h.IsList b ys) : ZipApart z TI TO i1 i2 a b := by
  obtain ⟨o1, e1, c1, _⟩ := h1
  obtain ⟨o2, e2, c2, _⟩ := h2
  obtain ⟨oa, ea, ca, _⟩ := ha
  obtain ⟨ob, eb, cb, _⟩ := hb
  exact ⟨(ne_cls (x := .type "tuple") (y := .type "zip") hTI hz rfl rfl (by decide)), (ne_cls (x := .type "tuple") (y := .type "zip") hTO hz rfl rfl (by decide)), (ne_cls (x := .type "list_iterator") (y := .type "zip") e1 hz c1 rfl (by decide)), (ne_cls (x := .type "list_iterator") (y := .type "zip") e2 hz c2 rfl (by decide)), hTT, (ne_cls (x := .type "tuple") (y := .type "list_iterator") hTI e1 rfl c1 (by decide)), (ne_cls (x := .type "tuple") (y := .type "list_iterator") hTI e2 rfl c2 (by decide)), (ne_cls (x := .type "tuple") (y := .type "list_iterator") hTO e1 rfl c1 (by decide)), (ne_cls (x := .type "tuple") (y := .type "list_iterator") hTO e2 rfl c2 (by decide)), hii, (ne_cls (x := .type "list") (y := .type "zip") ea hz ca rfl (by decide)), (ne_cls (x := .type "list") (y := .type "tuple") ea hTO ca rfl (by decide)), (ne_cls (x := .type "list") (y := .type "list_iterator") ea e1 ca c1 (by decide)), (ne_cls (x := .type "list") (y := .type "list_iterator") ea e2 ca c2 (by decide)), (ne_cls (x := .type "list") (y := .type "zip") eb hz cb rfl (by decide)), (ne_cls (x := .type "list") (y := .type "tuple") eb hTO cb rfl (by decide)), (ne_cls (x := .type "list") (y := .type "list_iterator") eb e1 cb c1 (by decide)), (ne_cls (x := .type "list") (y := .type "list_iterator") eb e2 cb c2 (by decide))⟩
theorem turn_zip {P : Program} {w : World} {K : PySem.W.Frag} {elts : List Expr} {kx} {tpos : Pos} {z TI TO i1 i2 a b : Addr} (hTT : TI ≠ TO) (hii : i1 ≠ i2) : Turn P w K (.Tuple elts kx tpos) (Itz K a b) [z, TI, TO, i1, i2] z
    (fun i h => IsZip h z TI TO .none ∧ IsPair h TI (.ref i1) (.ref i2) ∧ (∃ u v, IsPair h TO u v) ∧ h.IsListIter i1 a i ∧ h.IsListIter i2 b i) where
  mem := by simp
  obj := fun i h st c hc => by
    obtain ⟨hz, hTI, ⟨u, v, hTO⟩, ⟨o1, e1, _, d1⟩, ⟨o2, e2, _, d2⟩⟩ := st
    simp only [List.mem_cons, List.not_mem_nil, or_false] at hc
    rcases hc with rfl | rfl | rfl | rfl | rfl
    · exact ⟨_, hz, fun v q => by cases q⟩
    · exact ⟨_, hTI, fun v q => by cases q⟩
    · exact ⟨_, hTO, fun v q => by cases q⟩
    · exact ⟨_, e1, fun v q => by rw [d1] at q; cases q⟩
    · exact ⟨_, e2, fun v q => by rw [d2] at q; cases q⟩
  keep := fun i h h' st k => by
    obtain ⟨hz, hTI, ⟨u, v, hTO⟩, h1, h2⟩ := st
    exact ⟨k z (by simp) _ hz, k TI (by simp) _ hTI, ⟨u, v, k TO (by simp) _ hTO⟩, h1.at fun o e => k i1 (by simp) o e, h2.at fun o e => k i2 (by simp) o e⟩
  item := by
    intro X hP hw hK hc i pins s σ H E I hf st hg
    subst hP hw hK
    obtain ⟨xs, ys, x, y, qa, qb, hx, hy⟩ := hg
    obtain ⟨its1, rv1, p1, z1⟩ := I.list qa
    obtain ⟨its2, rv2, p2, z2⟩ := I.list qb
    obtain ⟨u1, hu1, ru1⟩ := rv1.get hx
    obtain ⟨u2, hu2, ru2⟩ := rv2.get hy
    obtain ⟨hz, hTI, ⟨u, v, hTO⟩, h1, h2⟩ := st
    have D := zip_apart hTT hii hz hTI hTO h1 h2 p1.isList p2.isList
    refine wpAny_pyNext_zip_item D hz hTI hTO h1 h2 p1.isList p2.isList (x := u1) (y := u2) (by simpa using hu1) (by simpa using hu2) fun h' a1 a2 a3 a4 a5 a6 hk => ?_
    refine ⟨_, rfl, wpAny_letOwnedTupleGo_zip a1 fun h'' hz'' sb => ?_⟩
    have zlt := Heap.lt_size hz
    have pz : s.heap.objs.size ≠ z := Nat.ne_of_gt zlt
    have hfr := I.hok.fresh (Nat.le_refl s.heap.objs.size)
    have I1 : Inv X pins σ H { s with heap := h'' } := I.turnedL (t' := s.toks) (ch := [z, TO, i1, i2]) (fun c o hb e => by
      simp only [List.mem_cons, List.not_mem_nil, or_false, not_or] at hb
      exact sb.extBut c o hb.1 (hk c o hb.1 hb.2.1 hb.2.2.1 hb.2.2.2 e)) (fun c hb => hf c (by
      simp only [List.mem_cons, List.not_mem_nil, or_false] at hb ⊢
      rcases hb with q | q | q | q
      · exact .inl q
      · exact .inr (.inr (.inl q))
      · exact .inr (.inr (.inr (.inl q)))
      · exact .inr (.inr (.inr (.inr q)))))
    have hp : IsPair h'' s.heap.objs.size u1 u2 := sb.extBut _ _ pz a5
    have I2 : Inv X pins σ (upd H s.heap.objs.size (.tup [x, y])) { s with heap := h'' } := I1.track (I.fpOk (Nat.le_refl _) hfr) ⟨by show 2 ≤ sizeLine; decide, [u1, u2], .cons ru1 (.cons ru2 .nil), ⟨_, hp, rfl, _, rfl⟩⟩
    refine ⟨.ref s.heap.objs.size, _, I2, rfl, ⟨_, x, y, hfr, rfl, rfl, fun xs' q => by rw [I.list_inj q qa]; exact hx, fun ys' q => by rw [I.list_inj q qb]; exact hy⟩,
      ⟨hz'', sb.extBut _ _ D.TIz (hk _ _ D.TIz D.TITO D.TIi1 D.TIi2 hTI), ⟨_, _, sb.extBut _ _ D.TOz a2⟩, a3.extBut sb.extBut D.i1z, a4.extBut sb.extBut D.i2z⟩, fun c hb => ?_⟩
    rw [upd_ne (fun q => ?_)]
    · exact (hf c hb).1
    · have hlt : c < s.heap.objs.size := by
        obtain ⟨o1, e1, _⟩ := h1
        obtain ⟨o2, e2, _⟩ := h2
        simp only [List.mem_cons, List.not_mem_nil, or_false] at hb
        rcases hb with rfl | rfl | rfl | rfl | rfl
        · exact Heap.lt_size hz
        · exact Heap.lt_size hTI
        · exact Heap.lt_size hTO
        · exact Heap.lt_size e1
        · exact Heap.lt_size e2
      rw [q] at hlt
      exact Nat.lt_irrefl _ hlt
  done := by
    intro X hP hw hK hc i pins s σ H E I hf st hg
    subst hP hw hK
    obtain ⟨xs, ys, qa, qb, hend⟩ := hg
    obtain ⟨its1, rv1, p1, z1⟩ := I.list qa
    obtain ⟨its2, rv2, p2, z2⟩ := I.list qb
    obtain ⟨hz, hTI, ⟨u, v, hTO⟩, h1, h2⟩ := st
    have D := zip_apart hTT hii hz hTI hTO h1 h2 p1.isList p2.isList
    have l1 := rv1.length
    have l2 := rv2.length
    refine wpAny_pyNext_zip_end (I.ok.hd hc) D hz hTI hTO h1 h2 p1.isList p2.isList ?_ fun h' hk => ⟨rfl, ?_⟩
    · rcases hend with q | q
      · exact .inl (by simp; omega)
      · exact .inr (by simp; omega)
    · exact I.turnedL (t' := s.toks) (ch := [z, TO, i1, i2]) (fun c o hb e => by
        simp only [List.mem_cons, List.not_mem_nil, or_false, not_or] at hb
        exact hk c o hb.1 hb.2.1 hb.2.2.1 hb.2.2.2 e) (fun c hb => hf c (by
        simp only [List.mem_cons, List.not_mem_nil, or_false] at hb ⊢
        rcases hb with q | q | q | q
        · exact .inl q
        · exact .inr (.inr (.inl q))
        · exact .inr (.inr (.inr (.inl q)))
        · exact .inr (.inr (.inr (.inr q)))))
  self := fun _ _ _ _ _ st h => wpAny_pyIter_zip st.1 h
section
variable {X : Cx}
def iZip (K : PySem.W.Frag) (ta : TA) : TI := fun σ H R => ta σ H fun vs H1 => ∃ a b xs ys, vs = [.ref a, .ref b] ∧ SqL K H1 a xs ∧ SqL K H1 b ys ∧ R (Itz K a b) H1
theorem pi_zip {ea eb : Expr} {ta : TA} {elts : List Expr} {kx} {tpos p pos : Pos} (hg : Gl X "zip") (hm : X.mg "zip" = none) (ha : PA X [ea, eb] ta) (hs : starEach [ea, eb] X.env = [(false, eval ea X.env), (false, eval eb X.env)] := by rfl) (hs2 : starEach [eb] X.env = [(false, eval eb X.env)] := by rfl) :
    PI X (.Tuple elts kx tpos) (.Call (.Name "zip" p) [ea, eb] [] pos) (iZip X.K ta) := by
  intro pins s σ H R I h
  refine Call_ (ld_blt I hg hm (by rfl : bootBuiltins "zip" = some (.type "zip")) (PyProof.Rows.callWith_type1 (thn (ha pos pins s σ H _ I h) fun us s1 ⟨vs, H1, I1, r1, q1⟩ => ?_) (by rw [hs, hs2]) (by rw [hs2]; rfl)))
  obtain ⟨a, b, xs, ys, e, qa, qb, q⟩ := q1
  subst e
  cases r1 with
  | cons r rr =>
    cases rr with
    | cons r' rr =>
      cases rr
      cases r
      cases r'
      obtain ⟨its1, rv1, p1, z1⟩ := I1.list qa
      obtain ⟨its2, rv2, p2, z2⟩ := I1.list qb
      refine call_zip_2 p1.isList p2.isList fun h' hz hTI hTO h1 h2 hsz hk => wpAny_pyIter_zip hz ?_
      refine ⟨s1.heap.objs.size + 4, [s1.heap.objs.size + 4, s1.heap.objs.size + 2, s1.heap.objs.size + 3, s1.heap.objs.size, s1.heap.objs.size + 1], _, _, H1, rfl, I1.kept (t' := s1.toks) hk, turn_zip (Nat.ne_of_lt (Nat.lt_succ_self _)) (Nat.ne_of_lt (Nat.lt_succ_self _)), ⟨hz, hTI, ⟨_, _, hTO⟩, h1, h2⟩, fun c hb => ?_, q⟩
      have hle : s1.heap.objs.size ≤ c := by
        simp only [List.mem_cons, List.not_mem_nil, or_false] at hb
        rcases hb with q | q | q | q | q
        · rw [q]; exact Nat.le_add_right _ _
        · rw [q]; exact Nat.le_add_right _ _
        · rw [q]; exact Nat.le_add_right _ _
        · rw [q]; exact Nat.le_refl _
        · rw [q]; exact Nat.le_add_right _ _
      exact I1.fpOk hle (I1.hok.fresh hle)
end

/-! ### the forms one uses -/
section
variable {K : PySem.W.Frag} {g : Blk → TG} {tt : Blk → TT} {te : Blk → TE} {Z : List V → Hp → Prop} {σ0 : St} {H1 : Hp}
theorem comp_listP {a : Addr} {xs : List V} (Pv : Nat → List V → St → Hp → Prop) (h0 : Pv 0 [] σ0 H1) (hl : ∀ i ys σ H, i ≤ xs.length → Pv i ys σ H → SqL K H a xs ∧ ys.length < sizeLine)
    (hs : ∀ B i x ys σ H, xs[i]? = some x → Pv i ys σ H → g B x σ H fun σ2 H3 => tt B σ2 H3 fun b H4 => if b = true then te B σ2 H4 fun y H5 => Pv (i + 1) (ys ++ [y]) σ2 H5 else Pv (i + 1) ys σ2 H4)
    (hd : ∀ ys σ H, Pv xs.length ys σ H → Z ys H) : ∃ W : Nat → Nat → List V → St → Hp → Prop, (∃ m, W 0 m [] σ0 H1) ∧ ∀ B, CompW (Itl K a) (g B) (tt B) (te B) W Z := by
  refine ⟨fun i m ys σ H => m = xs.length - i ∧ i ≤ xs.length ∧ Pv i ys σ H, ⟨xs.length, by simp, Nat.zero_le _, h0⟩, ?_⟩
  rintro B i m ys σ H ⟨rfl, hi, p⟩
  obtain ⟨q, hz⟩ := hl i ys σ H hi p
  by_cases hlt : i < xs.length
  · refine .inr ⟨⟨xs, xs[i], q, by simp [hlt]⟩, hz, Pv (i + 1), fun zs σ' H' p' => ⟨xs.length - (i + 1), by omega, rfl, hlt, p'⟩, fun x H' y => ?_⟩
    obtain ⟨e, y⟩ := y
    subst e
    exact hs B i x ys σ _ (y xs q) p
  · have e : i = xs.length := by omega
    subst e
    exact .inl ⟨⟨xs, q, Nat.le_refl _⟩, hd ys σ H p⟩
theorem comp_rangeP {lo : Int} {n : Nat} (Pv : Nat → List V → St → Hp → Prop) (h0 : Pv 0 [] σ0 H1) (hl : ∀ i ys σ H, i ≤ n → Pv i ys σ H → ys.length < sizeLine)
    (hs : ∀ B i ys σ H, i < n → Pv i ys σ H → g B (.int (lo + i)) σ H fun σ2 H3 => tt B σ2 H3 fun b H4 => if b = true then te B σ2 H4 fun y H5 => Pv (i + 1) (ys ++ [y]) σ2 H5 else Pv (i + 1) ys σ2 H4)
    (hd : ∀ ys σ H, Pv n ys σ H → Z ys H) : ∃ W : Nat → Nat → List V → St → Hp → Prop, (∃ m, W 0 m [] σ0 H1) ∧ ∀ B, CompW (Itr lo n) (g B) (tt B) (te B) W Z := by
  refine ⟨fun i m ys σ H => m = n - i ∧ i ≤ n ∧ Pv i ys σ H, ⟨n, by simp, Nat.zero_le _, h0⟩, ?_⟩
  rintro B i m ys σ H ⟨rfl, hi, p⟩
  by_cases hlt : i < n
  · refine .inr ⟨hlt, hl i ys σ H hi p, Pv (i + 1), fun zs σ' H' p' => ⟨n - (i + 1), by omega, rfl, hlt, p'⟩, fun x H' y => ?_⟩
    obtain ⟨e, y⟩ := y
    subst e y
    exact hs B i ys σ _ hlt p
  · have e : i = n := by omega
    subst e
    exact .inl ⟨Nat.le_refl _, hd ys σ H p⟩
theorem comp_zipP {a b : Addr} {xs ws : List V} (Pv : Nat → List V → St → Hp → Prop) (h0 : Pv 0 [] σ0 H1) (he : xs.length = ws.length) (hl : ∀ i ys σ H, i ≤ xs.length → Pv i ys σ H → SqL K H a xs ∧ SqL K H b ws ∧ ys.length < sizeLine)
    (hs : ∀ B i x w p ys σ H, xs[i]? = some x → ws[i]? = some w → Pv i ys σ H → H p = none → g B (.ref p) σ (upd H p (.tup [x, w])) fun σ2 H3 => tt B σ2 H3 fun b H4 => if b = true then te B σ2 H4 fun y H5 => Pv (i + 1) (ys ++ [y]) σ2 H5 else Pv (i + 1) ys σ2 H4)
    (hd : ∀ ys σ H, Pv xs.length ys σ H → Z ys H) : ∃ W : Nat → Nat → List V → St → Hp → Prop, (∃ m, W 0 m [] σ0 H1) ∧ ∀ B, CompW (Itz K a b) (g B) (tt B) (te B) W Z := by
  refine ⟨fun i m ys σ H => m = xs.length - i ∧ i ≤ xs.length ∧ Pv i ys σ H, ⟨xs.length, by simp, Nat.zero_le _, h0⟩, ?_⟩
  rintro B i m ys σ H ⟨rfl, hi, p⟩
  obtain ⟨qa, qb, hz⟩ := hl i ys σ H hi p
  by_cases hlt : i < xs.length
  · refine .inr ⟨⟨xs, ws, xs[i], ws[i]'(he ▸ hlt), qa, qb, by simp [hlt], by simp [he ▸ hlt]⟩, hz, Pv (i + 1), fun zs σ' H' p' => ⟨xs.length - (i + 1), by omega, rfl, hlt, p'⟩, fun v H' y => ?_⟩
    obtain ⟨q, x, w, hq, e1, e2, hx, hw⟩ := y
    subst e1 e2
    exact hs B i x w q ys σ H (hx xs qa) (hw ws qb) p hq
  · have e : i = xs.length := by omega
    subst e
    exact .inl ⟨⟨xs, ws, qa, qb, .inl (Nat.le_refl _)⟩, hd ys σ H p⟩
/-- a loop over zip -/
theorem for_zip {g : TG} {a b : Addr} {xs ws : List V} {tb : TS} {D : Ends} {σ : St} {H : Hp} (Pv : Nat → St → Hp → Prop) (h0 : Pv 0 σ H) (he : xs.length = ws.length) (hl : ∀ i σ H, i ≤ xs.length → Pv i σ H → SqL K H a xs ∧ SqL K H b ws)
    (hs : ∀ i x w p σ H, xs[i]? = some x → ws[i]? = some w → Pv i σ H → H p = none → g (.ref p) σ (upd H p (.tup [x, w])) fun σ2 H2 => tb { D with nx := Pv (i + 1), ct := Pv (i + 1), bk := D.nx } σ2 H2) (hd : ∀ σ H, Pv xs.length σ H → D.nx σ H) :
    ∃ W : Nat → Nat → St → Hp → Prop, (∃ m, W 0 m σ H) ∧ ∀ i m σ H, W i m σ H →
      ((Itz K a b).stop i H ∧ D.nx σ H) ∨ ((Itz K a b).go i H ∧ ∃ N : St → Hp → Prop, (∀ σ' H', N σ' H' → ∃ m', m' < m ∧ W (i + 1) m' σ' H') ∧ ∀ x H', (Itz K a b).yld i H x H' → g x σ H' fun σ2 H2 => tb { D with nx := N, ct := N, bk := D.nx } σ2 H2) := by
  refine ⟨fun i m σ H => m = xs.length - i ∧ i ≤ xs.length ∧ Pv i σ H, ⟨xs.length, by simp, Nat.zero_le _, h0⟩, ?_⟩
  rintro i m σ H ⟨rfl, hi, p⟩
  obtain ⟨qa, qb⟩ := hl i σ H hi p
  by_cases hlt : i < xs.length
  · refine .inr ⟨⟨xs, ws, xs[i], ws[i]'(he ▸ hlt), qa, qb, by simp [hlt], by simp [he ▸ hlt]⟩, Pv (i + 1), fun σ' H' p' => ⟨xs.length - (i + 1), by omega, rfl, hlt, p'⟩, fun v H' y => ?_⟩
    obtain ⟨q, x, w, hq, e1, e2, hx, hw⟩ := y
    subst e1 e2
    exact hs i x w q σ H (hx xs qa) (hw ws qb) p hq
  · have e : i = xs.length := by omega
    subst e
    exact .inl ⟨⟨xs, ws, qa, qb, .inl (Nat.le_refl _)⟩, hd σ H p⟩
end
/-- what was untracked and is laid leaves the rest -/
protected theorem Same.upd {H H' : Hp} (e : Same H H') {p : Addr} {o : HO} (h : H' p = none) : Same H (L2.upd H' p o) := fun b u q => by
  have q' := e b u q
  rw [upd_ne (ne_of_none q' h)]
  exact q'
protected theorem Same.upd' {H H' : Hp} (e : Same H H') {p : Addr} {o : HO} (h : H p = none) : Same H (L2.upd H' p o) := fun b u q => by
  rw [upd_ne (ne_of_none q h)]
  exact e b u q
theorem Same.seqT {K : PySem.W.Frag} {H H' : Hp} {a : Addr} {xs : List V} (e : Same H H') (h : SqT K H a xs) : SqT K H' a xs := by
  rcases h with (h | ⟨o, h⟩) | h
  · exact .inl (.inl (e _ _ h))
  · exact .inl (.inr ⟨o, e _ _ h⟩)
  · exact .inr h
/-- one target over a range, the element a value that leaves what was tracked -/
theorem comp_range1 {te : Blk → TE} {H1 : Hp} {Z : List V → Hp → Prop} {lo : Int} {n : Nat} {τ : St} (f : Nat → V) (hn : n < sizeLine)
    (hs : ∀ B i H, i < n → Same H1 H → ∀ Q' : VK, (∀ H2, Same H H2 → Q' (f i) H2) → te B (some (.int (lo + i)) :: τ) H Q')
    (hd : ∀ H2, Same H1 H2 → Z ((List.range n).map f) H2) :
    ∃ W : Nat → Nat → List V → St → Hp → Prop, (∃ m, W 0 m [] (none :: τ) H1) ∧ ∀ B : Blk, CompW (Itr lo n) (gName 0) tTrue (te B) W Z := by
  refine comp_rangeP (g := fun _ => gName 0) (tt := fun _ => tTrue) (fun i ys σ H => (∃ v, σ = v :: τ) ∧ Same H1 H ∧ ys = (List.range i).map f) ⟨⟨none, rfl⟩, Same.refl _, rfl⟩ (fun i ys σ H hi ⟨_, _, e⟩ => ?_) (fun B i ys σ H hi ⟨⟨v, e⟩, S, ey⟩ => ?_) (fun ys σ H ⟨_, S, e⟩ => ?_)
  · rw [e, List.length_map, List.length_range]; omega
  · subst e
    dsimp only [gName, tTrue]
    rw [if_pos rfl]
    refine hs B i H hi S _ fun H2 S2 => ⟨⟨_, rfl⟩, S.trans S2, ?_⟩
    rw [ey, List.range_succ, List.map_append]
    rfl
  · rw [e]
    exact hd H S
/-- two targets over zip, the element a value that leaves what was tracked -/
theorem comp_zip1 {K : PySem.W.Frag} {K' : Blk → PySem.W.Frag} {te : Blk → TE} {H1 : Hp} {Z : List V → Hp → Prop} {a b : Addr} {xs ws : List V} {τ : St} (f : V → V → V) (he : xs.length = ws.length) (hn : xs.length < sizeLine) (qa : SqL K H1 a xs) (qb : SqL K H1 b ws)
    (hs : ∀ B x w H, x ∈ xs → w ∈ ws → Same H1 H → ∀ Q' : VK, (∀ H2, Same H H2 → Q' (f x w) H2) → te B (some x :: some w :: τ) H Q')
    (hd : ∀ H2, Same H1 H2 → Z (List.zipWith f xs ws) H2) :
    ∃ W : Nat → Nat → List V → St → Hp → Prop, (∃ m, W 0 m [] (none :: none :: τ) H1) ∧ ∀ B : Blk, CompW (Itz K a b) (gTup (K' B) 2 (gCons (gName 0) (gCons (gName 1) gNil))) tTrue (te B) W Z := by
  refine comp_zipP (g := fun B => gTup (K' B) 2 (gCons (gName 0) (gCons (gName 1) gNil))) (tt := fun _ => tTrue) (xs := xs) (ws := ws) (fun i ys σ H => (∃ v u, σ = v :: u :: τ) ∧ Same H1 H ∧ ys = (List.zipWith f xs ws).take i) ⟨⟨none, none, rfl⟩, Same.refl _, rfl⟩ he (fun i ys σ H hi ⟨_, S, e⟩ => ⟨S.seq qa, S.seq qb, ?_⟩) (fun B i x w p ys σ H hx hw ⟨⟨v, u, e⟩, S, ey⟩ hp => ?_) (fun ys σ H ⟨_, S, e⟩ => ?_)
  · rw [e, List.length_take, List.length_zipWith]; omega
  · subst e
    refine ⟨p, [x, w], rfl, SqT.of upd_same, rfl, x, [w], rfl, w, [], rfl, rfl, ?_⟩
    dsimp only [gName, tTrue, gNil]
    rw [if_pos rfl]
    refine hs B x w _ (List.mem_of_getElem? hx) (List.mem_of_getElem? hw) (S.upd hp) _ fun H2 S2 => ⟨⟨_, _, rfl⟩, (S.upd hp).trans S2, ?_⟩
    rw [ey, List.take_add_one, List.getElem?_zipWith, hx, hw]
    rfl
  · rw [e, List.take_of_length_le (by rw [List.length_zipWith]; omega)]
    exact hd H S
end L2

namespace L2
open PySem PySem.Spec PyProof.Rows
section
variable {X : Cx}
theorem call_isinst : CallR X (.builtin "isinstance") (fun xs H Q => ∃ x n t b, xs = [x, .ty n] ∧ TyOf X.K H x t ∧ PySem.W.kitOne X.K t (.type n) = some b ∧ Q (.bl b) H) := by
  intro pins s σ H xs us Q I r h
  obtain ⟨x, n, t, b, e, ty, k, q⟩ := h
  subst e
  obtain ⟨u, v, rfl, r1, r2⟩ := vals2 r
  obtain rfl : v = Value.type n := r2
  exact isinst_ok I r1 ty k fun tk => ⟨.bl b, H, I.tok tk, rfl, q⟩
theorem preSum_take (ns : List Int) : ∀ n, n ≤ ns.length → preSum (fun i => ns.getD i 0) n = (ns.take n).sum
  | 0, _ => by simp [preSum]
  | n + 1, h => by
    have hlt : n < ns.length := h
    rw [preSum, preSum_take ns n (Nat.le_of_lt hlt), List.take_add_one, List.getElem?_eq_getElem hlt, List.sum_append]
    simp [List.getD_eq_getElem?_getD, List.getElem?_eq_getElem hlt]
theorem call_sum_list (hc : X.calm = true) : CallR X (.builtin "sum") (fun xs H Q => ∃ (a : Addr) (ns : List Int), xs = [.ref a] ∧ SqL X.K H a (ns.map V.int) ∧ Q (.int ns.sum) H) := by
  intro pins s σ H xs us Q I r h
  obtain ⟨a, ns, e, hq, q⟩ := h
  subst e
  obtain ⟨u, rfl, r1⟩ := vals1 r
  obtain rfl : u = Value.ref a := r1
  obtain ⟨its, rv, p, hz⟩ := I.list hq
  have hal : a < s.heap.objs.size := by obtain ⟨o, e, _⟩ := p.isList; exact Heap.lt_size e
  have hl := rv.length
  rw [List.length_map] at hl
  refine call_sum_walkG (wpAny_pyIter_list p.isList ⟨s.heap.objs.size, _, _, _, _, _, (fun i => ns.getD i 0), rfl, Walks.list (A := X.A.in1) (show X.A.in1.handled = none from I.ok.hd hc) _ a (Nat.ne_of_lt hal) its.toArray, ⟨⟨_, Heap.get?_push_size _ rfl, rfl, rfl⟩, p.isList.push _⟩, fun b hb => ?_, fun i v hv => ?_, fun h' tk t' hk => ?_⟩)
  · show b < (s.heap.push _).objs.size
    rw [Heap.size_push]
    rcases List.mem_cons.mp hb with rfl | hb
    · exact Nat.lt_succ_self _
    · rw [List.mem_singleton.mp hb]; exact Nat.lt_succ_of_lt hal
  · have hv' : its[i]? = some v := by simpa using hv
    have hi : i < ns.length := by rw [hl]; exact (List.getElem?_eq_some_iff.mp hv').1
    have hx : (ns.map V.int)[i]? = some (V.int (ns.getD i 0)) := by
      rw [List.getElem?_map, List.getElem?_eq_getElem hi]
      simp [List.getD_eq_getElem?_getD, List.getElem?_eq_getElem hi]
    obtain ⟨u, hu, ru⟩ := rv.get hx
    rw [hv'] at hu
    cases hu
    exact ru
  · have es : preSum (fun i => ns.getD i 0) its.toArray.size = ns.sum := by
      rw [List.size_toArray, ← hl, preSum_take ns _ (Nat.le_refl _), List.take_length]
    rw [es]
    exact ⟨.int ns.sum, H, I.kept fun b o e => hk b o (fun z => by have := List.mem_singleton.mp z; rw [this] at e; exact absurd (Heap.lt_size e) (Nat.lt_irrefl _)) (Heap.get?_push_of_some _ e), ⟨_, rfl⟩, q⟩
theorem call_all_list (hc : X.calm = true) : CallR X (.builtin "all") (fun xs H Q => ∃ (a : Addr) (bs : List Bool), xs = [.ref a] ∧ SqL X.K H a (bs.map V.bl) ∧ Q (.bl (bs.all id)) H) := by
  intro pins s σ H xs us Q I r h
  obtain ⟨a, bs, e, hq, q⟩ := h
  subst e
  obtain ⟨u, rfl, r1⟩ := vals1 r
  obtain rfl : u = Value.ref a := r1
  obtain ⟨its, rv, p, hz⟩ := I.list hq
  have hal : a < s.heap.objs.size := by obtain ⟨o, e, _⟩ := p.isList; exact Heap.lt_size e
  have hl := rv.length
  rw [List.length_map] at hl
  refine call_all_walk (wpAny_pyIter_list p.isList ⟨s.heap.objs.size, _, _, _, _, _, (fun i => bs.getD i false), rfl, Walks.list (A := X.A.in1) (show X.A.in1.handled = none from I.ok.hd hc) _ a (Nat.ne_of_lt hal) its.toArray, ⟨⟨_, Heap.get?_push_size _ rfl, rfl, rfl⟩, p.isList.push _⟩, fun i v s' Q' E' hv hQ => ?_, fun h' tk hk => ?_⟩)
  · have hv' : its[i]? = some v := by simpa using hv
    have hi : i < bs.length := by rw [hl]; exact (List.getElem?_eq_some_iff.mp hv').1
    have hx : (bs.map V.bl)[i]? = some (V.bl (bs.getD i false)) := by
      rw [List.getElem?_map, List.getElem?_eq_getElem hi]
      simp [List.getD_eq_getElem?_getD, List.getElem?_eq_getElem hi]
    obtain ⟨u, hu, ru⟩ := rv.get hx
    rw [hv'] at hu
    cases hu
    obtain rfl : v = Value.bool (bs.getD i false) := ru
    exact wpAny_truthy_bool hQ
  · have es : (List.range its.toArray.size).all (fun i => bs.getD i false) = bs.all id := by
      rw [List.size_toArray, ← hl]
      rw [Bool.eq_iff_iff, List.all_eq_true, List.all_eq_true]
      constructor
      · intro z x hx
        obtain ⟨i, hi, rfl⟩ := List.mem_iff_getElem.mp hx
        have := z i (List.mem_range.mpr hi)
        simpa [List.getD_eq_getElem?_getD, List.getElem?_eq_getElem hi] using this
      · intro z i hi
        have hi := List.mem_range.mp hi
        have := z _ (List.getElem_mem hi)
        simpa [List.getD_eq_getElem?_getD, List.getElem?_eq_getElem hi] using this
    rw [es]
    exact ⟨.bl (bs.all id), H, I.kept fun b o e => hk b o (fun z => by have := List.mem_singleton.mp z; rw [this] at e; exact absurd (Heap.lt_size e) (Nat.lt_irrefl _)) (Heap.get?_push_of_some _ e), rfl, q⟩
end
end L2

namespace L2
open PySem PySem.Spec PyProof.Rows

/-! ### a comprehension's scope, checked by running -/
def compOkB (osc : Scope) (N : List Str) (scope : Scope) (N' : List Str) (nt : Nat) (caps : List Nat) : Bool :=
  decide (scope.kind = .function) && decide (∀ y ∈ scope.names, y.2 ≠ .cell) && decide (∀ y ∈ scope.names, y.2 = .local → scope.names.lookup y.1 = some .local) &&
  decide (∀ y ∈ scope.names, y.2 = .free → osc.names.lookup y.1 = some .cell ∨ osc.names.lookup y.1 = some .free) && decide (caps.map (fun j => N[j]?) = (N'.drop nt).map some) &&
  decide (∀ x ∈ N'.drop nt, scope.names.lookup x = some .free) && decide (nt ≤ N'.length) && decide N'.Nodup
theorem CompScope.of {osc : Scope} {N : List Str} {scope : Scope} {N' : List Str} {nt : Nat} {caps : List Nat} (h : compOkB osc N scope N' nt caps = true) : CompScope osc N scope N' nt caps := by
  unfold compOkB at h
  simp only [Bool.and_eq_true, decide_eq_true_eq] at h
  obtain ⟨⟨⟨⟨⟨⟨⟨a, b⟩, c⟩, d⟩, e⟩, f⟩, g⟩, i⟩ := h
  exact ⟨a, b, c, d, e, f, g, i⟩

/-! ### range(a, b, c), c above nought -/
def Its (lo c : Int) (n : Nat) : It := ⟨fun i _ => i < n, fun i H x H' => H' = H ∧ x = .int (lo + i * c), fun i _ => n ≤ i⟩
def nSteps (lo hi c : Int) : Nat := (if lo < hi then (hi - lo - 1) / c + 1 else 0).toNat
theorem turn_rangeS {P : Program} {w : World} {K : PySem.W.Frag} {tg : Expr} (it : Addr) (lo c : Int) (n : Nat) : Turn P w K tg (Its lo c n) [it] it (fun i h => IsRangeIter h it (lo + (i : Nat) * c) ((n : Int) - (i : Nat)) c) where
  mem := by simp
  obj := fun i h st b hb => by
    have e : b = it := by simpa using hb
    subst e
    exact ⟨_, st, fun v z => by
      have z' : Data.fields _ = Data.cell v := z
      cases z'⟩
  keep := fun i h h' st k => k it (by simp) _ st
  item := by
    intro X hP hw hK hc i pins s σ H E I hf st hg
    subst hP hw hK
    obtain ⟨f0, f1, f2, f3, f4, f5⟩ := hf it (by simp)
    have W := Walks.range (prog := X.prog) (w := X.w) (I.ok.hd hc) it lo c n
    refine W.item i s _ _ hg st fun v h' tk hv st' kk => ?_
    obtain ⟨t, rfl⟩ := hv
    have I1 : Inv X pins σ H { s with heap := h', toks := tk } := I.turned (fun b o hb e => kk b o (by simpa using hb) e) f0 f1 f3 f4 f5
    exact ⟨_, rfl, go_of (s := { s with heap := h', toks := tk }) (n := "range_iterator") st' rfl rfl (by decide) ⟨.int (lo + i * c), H, I1, ⟨t, rfl⟩, ⟨rfl, rfl⟩, st', fun b hb => (hf b hb).1⟩⟩
  done := by
    intro X hP hw hK hc i pins s σ H E I hf st hg
    subst hP hw hK
    obtain ⟨f0, f1, f2, f3, f4, f5⟩ := hf it (by simp)
    exact wpAny_pyNext_range_end (I.ok.hd hc) st (by have : n ≤ i := hg; omega) fun h' eb => ⟨rfl, I.turned (t' := s.toks) (fun b o hb e => eb b o hb e) f0 f1 f3 f4 f5⟩
  self := fun _ _ _ _ _ st h => wpAny_pyIter_rangeiter st h
theorem steps_le {lo hi c : Int} (h1 : 0 ≤ lo) (h2 : hi < 2 ^ 30) (h3 : 0 < c) : ((nSteps lo hi c : Nat) : Int) ≤ 2 ^ 30 ∧ (lo < hi → ((nSteps lo hi c : Nat) : Int) = (hi - lo - 1) / c + 1) ∧ (¬ lo < hi → nSteps lo hi c = 0) := by
  unfold nSteps
  split
  · rename_i h
    have q0 : 0 ≤ (hi - lo - 1) / c := Int.ediv_nonneg (by omega) (by omega)
    have q1 : (hi - lo - 1) / c ≤ hi - lo - 1 := Int.ediv_le_self _ (by omega)
    refine ⟨by omega, fun _ => by omega, fun z => absurd h z⟩
  · rename_i h
    refine ⟨by decide, fun z => absurd z h, fun _ => rfl⟩
theorem small_steps {a b c : Int} (h1 : 0 ≤ a) (h2 : a < 2 ^ 30) (h3 : 0 ≤ b) (h4 : b < 2 ^ 30) (h5 : 0 < c) (h6 : c < 2 ^ 30) : Builtin.Range.small a b c = true := by
  unfold Builtin.Range.small
  have hs : Builtin.Range.rangeSize a b c = if a < b then (b - a - 1) / c + 1 else 0 := by
    unfold Builtin.Range.rangeSize
    rw [if_pos h5]
  have q : 0 ≤ Builtin.Range.rangeSize a b c ∧ Builtin.Range.rangeSize a b c ≤ 2 ^ 30 := by
    rw [hs]
    split
    · have q0 : 0 ≤ (b - a - 1) / c := Int.ediv_nonneg (by omega) (by omega)
      have q1 : (b - a - 1) / c ≤ b - a - 1 := Int.ediv_le_self _ (by omega)
      omega
    · omega
  generalize Builtin.Range.rangeSize a b c = z at q
  have hm : z * c ≤ 2 ^ 30 * 2 ^ 30 := Int.mul_le_mul q.2 (by omega) (by omega) (by decide)
  have hm0 : 0 ≤ z * c := Int.mul_nonneg q.1 (by omega)
  generalize z * c = zc at hm hm0
  simp only [Builtin.Range.rangeFitsLong, Bool.and_eq_true, Bool.or_eq_true, decide_eq_true_eq, beq_iff_eq, if_pos h5]
  first | omega | (split <;> omega) | (refine ⟨?_, ?_⟩ <;> omega)
def iRng3 (ta : TA) : TI := fun σ H R => ta σ H fun vs H1 => ∃ i j c : Int, vs = [.int i, .int j, .int c] ∧ (0 ≤ i ∧ i < 2 ^ 30 ∧ 0 ≤ j ∧ j < 2 ^ 30 ∧ 0 < c ∧ c < 2 ^ 30) ∧ R (Its i c (nSteps i j c)) H1
section
variable {X : Cx} {tg : Expr}
theorem pi_range3 {a b c : Expr} {ta : TA} {p pos : Pos} (hg : Gl X "range") (hm : X.mg "range" = none) (ha : PA X [a, b, c] ta) (hs : starEach [a, b, c] X.env = [(false, eval a X.env), (false, eval b X.env), (false, eval c X.env)] := by rfl)
    (hs2 : starEach [b, c] X.env = [(false, eval b X.env), (false, eval c X.env)] := by rfl) : PI X tg (.Call (.Name "range" p) [a, b, c] [] pos) (iRng3 ta) := by
  intro pins s σ H R I h
  refine Call_ (ld_blt I hg hm boot_range (PyProof.Rows.callWith_type1 (thn (ha pos pins s σ H _ I h) fun us s1 ⟨vs, H1, I1, r1, q1⟩ => ?_) (by rw [hs, hs2]) (by rw [hs2]; rfl)))
  obtain ⟨i, j, c, e, ⟨q1, q2, q3, q4, q5, q6⟩, q⟩ := q1
  subst e
  cases r1 with
  | cons r rr =>
    cases rr with
    | cons r' rr =>
      cases rr with
      | cons r'' rr =>
        cases rr
        obtain ⟨t, rfl⟩ := r
        obtain ⟨u, rfl⟩ := r'
        obtain ⟨v, rfl⟩ := r''
        refine call_range_3 (by omega) ?_ (.inl (PyProof.noPylong_small (by omega)))
        refine wpAny_pyIter_range (IsRange.new ..) (small_steps q1 q2 q3 q4 q5 q6) ?_
        have I2 : Inv X pins σ H1 { s1 with heap := s1.heap.push { cls := .type "range", data := .fields #[.int i t, .int j u, .int c v] }, toks := s1.toks } := I1.kept fun b o e => Heap.get?_push_of_some _ e
        refine ⟨(s1.heap.push { cls := .type "range", data := .fields #[.int i t, .int j u, .int c v] }).objs.size, [(s1.heap.push { cls := .type "range", data := .fields #[.int i t, .int j u, .int c v] }).objs.size], _, _, H1, rfl,
          I2.kept (t' := s1.toks) fun b o e => Heap.get?_push_of_some _ e, turn_rangeS _ i c (nSteps i j c), ?_, fun b hb => ?_, q⟩
        · have e1 : i + ((0 : Nat) : Int) * c = i := by simp
          have e2 : ((nSteps i j c : Nat) : Int) - ((0 : Nat) : Int) = Builtin.Range.rangeSize i j c := by
            obtain ⟨_, g1, g2⟩ := steps_le (lo := i) (hi := j) (c := c) q1 q4 q5
            unfold Builtin.Range.rangeSize
            rw [if_pos q5]
            split
            · rename_i z; rw [g1 z]; simp
            · rename_i z; rw [g2 z]; simp
          show IsRangeIter _ _ (i + ((0 : Nat) : Int) * c) (((nSteps i j c : Nat) : Int) - ((0 : Nat) : Int)) c
          rw [e1, e2]
          exact Heap.get?_push_size _ rfl
        · have e : b = (s1.heap.push { cls := .type "range", data := .fields #[.int i t, .int j u, .int c v] }).objs.size := by simpa using hb
          subst e
          exact I2.fpOk (Nat.le_refl _) (I2.hok.fresh (Nat.le_refl _))
end
theorem for_rangeS {lo c : Int} {n : Nat} {g : TG} {tb : TS} {D : Ends} {σ : St} {H : Hp} (Pv : Nat → St → Hp → Prop) (h0 : Pv 0 σ H)
    (hs : ∀ i σ H, i < n → Pv i σ H → g (.int (lo + i * c)) σ H fun σ2 H2 => tb { D with nx := Pv (i + 1), ct := Pv (i + 1), bk := D.nx } σ2 H2) (hd : ∀ σ H, Pv n σ H → D.nx σ H) :
    ∃ W : Nat → Nat → St → Hp → Prop, (∃ m, W 0 m σ H) ∧ ∀ i m σ H, W i m σ H →
      ((Its lo c n).stop i H ∧ D.nx σ H) ∨ ((Its lo c n).go i H ∧ ∃ N : St → Hp → Prop, (∀ σ' H', N σ' H' → ∃ m', m' < m ∧ W (i + 1) m' σ' H') ∧ ∀ x H', (Its lo c n).yld i H x H' → g x σ H' fun σ2 H2 => tb { D with nx := N, ct := N, bk := D.nx } σ2 H2) := by
  refine ⟨fun i m σ H => m = n - i ∧ i ≤ n ∧ Pv i σ H, ⟨n, by simp, Nat.zero_le _, h0⟩, ?_⟩
  rintro i m σ H ⟨rfl, hi, p⟩
  by_cases hlt : i < n
  · refine .inr ⟨hlt, Pv (i + 1), fun σ' H' p' => ⟨n - (i + 1), by omega, rfl, hlt, p'⟩, fun x H' y => ?_⟩
    obtain ⟨e, y⟩ := y
    subst e y
    exact hs i σ _ hlt p
  · have e : i = n := by omega
    subst e
    exact .inl ⟨Nat.le_refl _, hd σ H p⟩

theorem pg_nameC {X : Cx} {i : Nat} {x : Str} {pos : Pos} (N : List Str) (hN : N.Nodup) (hi : N[i]? = some x) (hx : X.env.scope.names.lookup x = some .local := by rfl) (hXN : X.N = N := by rfl) : PG X (.Name x pos) (gName i) :=
  pg_name (by rw [hXN]; exact hN) (by rw [hXN]; exact hi) (.inl hx) (.inr hx)

/-! ### names of built-ins -/
theorem bt_sum : bootBuiltins "sum" = some (.builtin "sum") := by decide +kernel
theorem bt_all : bootBuiltins "all" = some (.builtin "all") := by decide +kernel
theorem bt_len : bootBuiltins "len" = some (.builtin "len") := by decide +kernel
theorem bt_abs : bootBuiltins "abs" = some (.builtin "abs") := by decide +kernel
theorem bt_max : bootBuiltins "max" = some (.builtin "max") := by decide +kernel
theorem bt_min : bootBuiltins "min" = some (.builtin "min") := by decide +kernel
theorem bt_isinstance : bootBuiltins "isinstance" = some (.builtin "isinstance") := by decide +kernel
theorem bt_list : bootBuiltins "list" = some (.type "list") := by decide +kernel
theorem bt_int : bootBuiltins "int" = some (.type "int") := by decide +kernel
theorem bt_bool : bootBuiltins "bool" = some (.type "bool") := by decide +kernel
theorem bt_str : bootBuiltins "str" = some (.type "str") := by decide +kernel
theorem bt_tuple : bootBuiltins "tuple" = some (.type "tuple") := by decide +kernel
theorem bt_set : bootBuiltins "set" = some (.type "set") := by decide +kernel
end L2

namespace L2
open PySem PySem.Spec PyProof.Rows
abbrev vints (ns : List Int) : List V := ns.map V.int
theorem iteD {p A B : Prop} [Decidable p] (h1 : p → A) (h2 : ¬ p → B) : if decide p = true then A else B := by
  by_cases h : p
  · rw [if_pos (decide_eq_true h)]
    exact h1 h
  · rw [if_neg (by rw [decide_eq_false h]; exact Bool.false_ne_true)]
    exact h2 h
theorem iteND {p A B : Prop} [Decidable p] (h1 : ¬ p → A) (h2 : p → B) : if (!decide p) = true then A else B := by
  by_cases h : p
  · rw [decide_eq_true h]
    exact iteF (h2 h)
  · rw [decide_eq_false h]
    exact iteT (h1 h)
theorem vint_eq {i j : Int} : (V.int i = V.int j) ↔ i = j := ⟨fun h => by cases h; rfl, fun h => by rw [h]⟩
theorem ints_get {ns : List Int} {i : Nat} {x : V} (h : (vints ns)[i]? = some x) : ∃ n, ns[i]? = some n ∧ x = V.int n := by
  rw [List.getElem?_map] at h
  cases e : ns[i]? with
  | none => rw [e] at h; cases h
  | some n => rw [e] at h; exact ⟨n, rfl, (Option.some.inj h).symm⟩
theorem ints_mem {ns : List Int} {x : V} (h : x ∈ vints ns) : ∃ n, n ∈ ns ∧ x = V.int n := by
  obtain ⟨n, hn, e⟩ := List.mem_map.mp h
  exact ⟨n, hn, e.symm⟩
theorem ints_len (ns : List Int) : (vints ns).length = ns.length := List.length_map ..
theorem ints_at {ns : List Int} {k : Nat} (h : k < ns.length) : atI (vints ns) (k : Int) = some (V.int (ns[k])) := by
  refine atI_nat ?_
  rw [List.getElem?_map, List.getElem?_eq_getElem h]
  rfl
theorem ints_inj {xs ys : List Int} (h : vints xs = vints ys) : xs = ys := by
  have e := congrArg (List.map fun v => match v with | V.int i => i | _ => 0) h
  simpa [vints, List.map_map, Function.comp_def] using e
/-- a list of lists of vints, tracked -/
def Rows (H : Hp) (as : List Addr) (rs : List (List Int)) : Prop := Paired (fun (a : Addr) (r : List Int) => H a = some (.lst (vints r))) as rs
theorem Rows.same {H H' : Hp} {as : List Addr} {rs : List (List Int)} (h : Rows H as rs) (S : Same H H') : Rows H' as rs := Paired.mapP h fun a r e => S _ _ e
theorem Rows.snoc {H : Hp} {as : List Addr} {rs : List (List Int)} {a : Addr} {r : List Int} (h : Rows H as rs) (e : H a = some (.lst (vints r))) : Rows H (as ++ [a]) (rs ++ [r]) := Paired.snoc h e
theorem Rows.length {H : Hp} {as : List Addr} {rs : List (List Int)} (h : Rows H as rs) : as.length = rs.length := Paired.length h
theorem Paired.getL {α β : Type} {F : α → β → Prop} : ∀ {l₁ : List α} {l₂ : List β} {i : Nat} {a : α}, Paired F l₁ l₂ → l₁[i]? = some a → ∃ b, l₂[i]? = some b ∧ F a b
  | _, _, _, _, .nil, e => by simp at e
  | _, _, 0, _, .cons r _, e => by simp at e; subst e; exact ⟨_, rfl, r⟩
  | _, _, i + 1, a, .cons _ t, e => by
    obtain ⟨u, h1, h2⟩ := Paired.getL (i := i) (a := a) t (by simpa using e)
    exact ⟨u, by simpa using h1, h2⟩
theorem small70 {n : Nat} (h : n ≤ 70) : n < sizeLine := Nat.lt_of_le_of_lt h (by decide)
end L2
namespace L2
open PySem PySem.Spec PyProof.Rows
/-! ### products and quotients of long numbers -/
theorem bits_of_lt {x : Int} {n : Nat} (h : x.natAbs < 2 ^ n) : Builtin.Int.intBits x ≤ n := by
  unfold Builtin.Int.intBits
  split
  · exact Nat.zero_le _
  · rename_i h0
    have hx : x.natAbs ≠ 0 := fun e => h0 (by
      have : x = 0 := Int.natAbs_eq_zero.mp e
      rw [this]; rfl)
    exact (Nat.log2_lt hx).mpr h
def CMulB (i j : Int) : Prop := i.natAbs < 2 ^ 1000 ∧ j.natAbs < 2 ^ 1000
theorem op_mulB {X : Cx} : OpR X (binaryOp .Mult) (rI CMulB fun i j => .int (i * j)) := opI fun _ _ _ _ _ _ _ hc q =>
  mul_int q (.of_bits (Nat.le_trans (bits_of_lt hc.1) (by decide)) (Nat.le_trans (bits_of_lt hc.2) (by decide)))
def CDivB (i j : Int) : Prop := 0 < j ∧ j.natAbs < 2 ^ 1000
theorem op_fdivB {X : Cx} : OpR X (binaryOp .FloorDiv) (rI CDivB fun i j => .int (i / j)) := opI fun i j _ _ _ _ _ hc q => by
  have e : i.fdiv j = i / j := Int.fdiv_eq_ediv_of_nonneg _ (Int.le_of_lt hc.1)
  refine floordiv_int (Int.ne_of_gt hc.1) (by rw [e]; exact q) (.inl (PyProof.noPylong_of_log2 ?_))
  have hx : j.natAbs ≠ 0 := by have := hc.1; omega
  exact Nat.lt_of_lt_of_le ((Nat.log2_lt hx).mpr hc.2) (by decide)
theorem p70 {n : Nat} (h : n < 10 ^ 70) : n < 2 ^ 1000 := Nat.lt_of_lt_of_le h (by decide +kernel)
def sp_zipd (f : Int → Int → Int) (K : PySem.W.Frag) : Sp := fun vs H Q _ => ∃ (a b : Addr) (xs ys : List Int), vs = [.ref a, .ref b] ∧ SqL K H a (vints xs) ∧ SqL K H b (vints ys) ∧ xs.length = ys.length ∧ xs.length ≤ 70 ∧
  ∀ (p : Addr) (H' : Hp), H p = none → Same H H' → H' p = some (.lst (vints (List.zipWith f xs ys))) → Q (.ref p) H'
theorem zip_ints {f : Int → Int → Int} {g : V → V → V} (h : ∀ i j, g (.int i) (.int j) = .int (f i j)) : ∀ (xs ys : List Int), List.zipWith g (vints xs) (vints ys) = vints (List.zipWith f xs ys)
  | [], _ => rfl
  | _ :: _, [] => rfl
  | x :: xs, y :: ys => by
    show g (.int x) (.int y) :: List.zipWith g (vints xs) (vints ys) = .int (f x y) :: vints (List.zipWith f xs ys)
    rw [h, zip_ints h]
def gInt (f : Int → Int → Int) : V → V → V
  | .int i, .int j => .int (f i j)
  | _, _ => .non
theorem size7 (c : Int) : ∃ z : Nat, c % 7 = (z : Int) ∧ z ≤ 6 := by
  have h1 : 0 ≤ c % 7 := Int.emod_nonneg _ (by decide)
  have h2 : c % 7 < 7 := Int.emod_lt_of_pos _ (by decide)
  exact ⟨(c % 7).toNat, by omega, by omega⟩
theorem cut1 (ns : List Int) : cutV (vints ns) (some 1) none = vints (ns.drop 1) := by
  unfold cutV
  rw [HT.sIx_none, show HT.sIx (vints ns).length 0 (some 1) = min 1 (vints ns).length from HT.sIx_nat _ _ 1, ints_len]
  rcases ns with _ | ⟨n, ns⟩
  · rfl
  · show List.take _ (List.drop (min 1 (ns.length + 1)) (vints (n :: ns))) = _
    have e : min 1 (ns.length + 1) = 1 := by omega
    rw [e]
    show List.take (ns.length + 1 - 1) (vints ns) = vints ns
    rw [List.take_of_length_le]
    rw [ints_len]
    omega
theorem by_place (f : Int → Int → Int) {xs ys : List Int} {z : Nat} (hx : xs.length = z) (hy : ys.length = z) : (List.range z).map (fun i => V.int (f (xs.getD i 0) (ys.getD i 0))) = vints (List.zipWith f xs ys) := by
  refine List.ext_getElem (by simp [hx, hy]) fun i h1 h2 => ?_
  have hi : i < z := by simpa using h1
  simp [List.getD_eq_getElem?_getD, List.getElem?_eq_getElem (hx ▸ hi : i < xs.length), List.getElem?_eq_getElem (hy ▸ hi : i < ys.length)]
theorem at_place {xs : List Int} {z i : Nat} (hx : xs.length = z) (hi : i < z) : atI (vints xs) (0 + (i : Int)) = some (V.int (xs.getD i 0)) := by
  subst hx
  rw [Int.zero_add, ints_at hi]
  simp [List.getD_eq_getElem?_getD, List.getElem?_eq_getElem hi]
theorem back_less : ∀ {xs ys : List Int}, xs.length = ys.length → List.zipWith (fun i j => i - j) (List.zipWith (fun i j => i + j) xs ys) ys = xs
  | [], [], _ => rfl
  | x :: xs, y :: ys, h => by
    show (x + y - y) :: _ = x :: xs
    rw [Int.add_sub_cancel, back_less (by simpa using h)]
def wsum (xs ys : List Int) : Int := (List.zipWith (fun i j => i * j) xs ys).sum
theorem wsum_comm : ∀ (xs ys : List Int), wsum xs ys = wsum ys xs
  | [], [] => rfl
  | [], _ :: _ => rfl
  | _ :: _, [] => rfl
  | x :: xs, y :: ys => by
    have ih := wsum_comm xs ys
    unfold wsum at ih ⊢
    rw [List.zipWith_cons_cons, List.zipWith_cons_cons, List.sum_cons, List.sum_cons, ih, Int.mul_comm x y]
theorem wsum_add : ∀ (w t b : List Int), w.length = t.length → t.length = b.length → wsum w (List.zipWith (fun i j => i + j) t b) = wsum w t + wsum w b
  | [], [], [], _, _ => rfl
  | x :: w, y :: t, u :: b, h1, h2 => by
    have ih := wsum_add w t b (by simpa using h1) (by simpa using h2)
    unfold wsum at ih ⊢
    rw [List.zipWith_cons_cons, List.zipWith_cons_cons, List.zipWith_cons_cons, List.zipWith_cons_cons, List.sum_cons, List.sum_cons, List.sum_cons, ih, Int.mul_add]
    omega
theorem wsum_zero : ∀ (w : List Int) (z : Nat), wsum w (List.replicate z 0) = 0
  | [], _ => by simp [wsum]
  | _ :: _, 0 => rfl
  | x :: w, z + 1 => by
    have ih := wsum_zero w z
    unfold wsum at ih ⊢
    rw [List.replicate_succ, List.zipWith_cons_cons, List.sum_cons, ih, Int.mul_zero]
    rfl
theorem add_abs : ∀ {m : Nat} {t b : List Int} {n : Int}, (∀ x ∈ t, x.natAbs < m * 10 ^ 60) → (∀ x ∈ b, x.natAbs < 10 ^ 60) → n ∈ List.zipWith (fun i j => i + j) t b → n.natAbs < (m + 1) * 10 ^ 60
  | m, [], _, n, _, _, h => by simp at h
  | m, _ :: _, [], n, _, _, h => by simp at h
  | m, x :: t, y :: b, n, h1, h2, h => by
    rw [List.zipWith_cons_cons] at h
    rcases List.mem_cons.mp h with e | h
    · have a1 := h1 x List.mem_cons_self
      have a2 := h2 y List.mem_cons_self
      rw [e, Nat.add_mul, Nat.one_mul]
      have a3 : (x + y).natAbs ≤ x.natAbs + y.natAbs := Int.natAbs_add_le x y
      exact Nat.lt_of_le_of_lt a3 (Nat.add_lt_add a1 a2)
    · exact add_abs (fun x hx => h1 x (List.mem_cons_of_mem _ hx)) (fun x hx => h2 x (List.mem_cons_of_mem _ hx)) h
theorem part_sum {xs ys : List Int} {i : Nat} (h1 : i < xs.length) (h2 : i < ys.length) : ((List.zipWith (fun i j => i * j) xs ys).take (i + 1)).sum = ((List.zipWith (fun i j => i * j) xs ys).take i).sum + xs[i] * ys[i] := by
  rw [List.take_add_one, List.getElem?_zipWith, List.getElem?_eq_getElem h1, List.getElem?_eq_getElem h2, List.sum_append]
  simp
theorem p60 {n m : Nat} (hm : m ≤ 100) (h : n < m * 10 ^ 60) : n < 10 ^ 70 := Nat.lt_of_lt_of_le h (Nat.le_trans (Nat.mul_le_mul_right _ hm) (by decide +kernel))
end L2
namespace L2
open PySem PySem.Spec PyProof.Rows
/-- at each place no greater -/
def bn (xs ys : List Int) : Bool := (List.zipWith (fun i j => decide (i ≤ j)) xs ys).all id
def gLe : V → V → V
  | .int i, .int j => .bl (decide (i ≤ j))
  | _, _ => .non
theorem zip_bls : ∀ (xs ys : List Int), List.zipWith gLe (vints xs) (vints ys) = (List.zipWith (fun i j => decide (i ≤ j)) xs ys).map V.bl
  | [], _ => rfl
  | _ :: _, [] => rfl
  | x :: xs, y :: ys => by
    show gLe (.int x) (.int y) :: List.zipWith gLe (vints xs) (vints ys) = _
    rw [zip_bls xs ys]
    rfl
theorem bn_of : ∀ {xs ys : List Int}, xs.length = ys.length → (∀ i (h1 : i < xs.length) (h2 : i < ys.length), xs[i] ≤ ys[i]) → bn xs ys = true
  | [], [], _, _ => rfl
  | x :: xs, y :: ys, hl, h => by
    have h0 := h 0 (by simp) (by simp)
    have ih := bn_of (xs := xs) (ys := ys) (by simpa using hl) fun i h1 h2 => by
      have := h (i + 1) (by simpa using h1) (by simpa using h2)
      simpa using this
    have h0 : x ≤ y := h0
    unfold bn at ih ⊢
    rw [List.zipWith_cons_cons, List.all_cons, ih]
    simp [h0]
theorem bn_not : ∀ {xs ys : List Int} {i : Nat} (h1 : i < xs.length) (h2 : i < ys.length), ¬ xs[i] ≤ ys[i] → bn xs ys = false
  | x :: xs, y :: ys, 0, _, _, h => by
    have h : ¬ x ≤ y := h
    unfold bn
    rw [List.zipWith_cons_cons, List.all_cons]
    simp [h]
  | x :: xs, y :: ys, i + 1, h1, h2, h => by
    have ih := bn_not (xs := xs) (ys := ys) (i := i) (by simpa using h1) (by simpa using h2) (by simpa using h)
    unfold bn at ih ⊢
    rw [List.zipWith_cons_cons, List.all_cons, ih]
    simp
theorem vbl_eq {i j : Bool} : (V.bl i = V.bl j) ↔ i = j := ⟨fun h => by cases h; rfl, fun h => by rw [h]⟩
theorem at_mem {xs : List V} {j : Nat} (h : j < xs.length) : atI xs (j : Int) = some xs[j] := atI_nat (List.getElem?_eq_getElem h)
end L2
namespace L2
open PySem PySem.Spec PyProof.Rows
/-! ### the greatest common divisor of a list -/
def gcdL (xs : List Int) : Nat := xs.foldl (fun g x => Nat.gcd g x.natAbs) 0
theorem gcd_fold_dvd : ∀ (xs : List Int) (g : Nat), xs.foldl (fun g x => Nat.gcd g x.natAbs) g ∣ g ∧ ∀ x ∈ xs, xs.foldl (fun g x => Nat.gcd g x.natAbs) g ∣ x.natAbs
  | [], g => ⟨Nat.dvd_refl _, fun x h => nomatch h⟩
  | y :: xs, g => by
    obtain ⟨h1, h2⟩ := gcd_fold_dvd xs (Nat.gcd g y.natAbs)
    refine ⟨Nat.dvd_trans h1 (Nat.gcd_dvd_left _ _), fun x hx => ?_⟩
    rcases List.mem_cons.mp hx with rfl | hx
    · exact Nat.dvd_trans h1 (Nat.gcd_dvd_right _ _)
    · exact h2 x hx
theorem dvd_gcd_fold {d : Nat} : ∀ (xs : List Int) (g : Nat), d ∣ g → (∀ x ∈ xs, d ∣ x.natAbs) → d ∣ xs.foldl (fun g x => Nat.gcd g x.natAbs) g
  | [], g, h, _ => h
  | y :: xs, g, h, k => dvd_gcd_fold xs _ (Nat.dvd_gcd h (k y List.mem_cons_self)) fun x hx => k x (List.mem_cons_of_mem _ hx)
theorem gcdL_dvd {xs : List Int} {x : Int} (h : x ∈ xs) : gcdL xs ∣ x.natAbs := (gcd_fold_dvd xs 0).2 x h
theorem dvd_gcdL {d : Nat} {xs : List Int} (h : ∀ x ∈ xs, d ∣ x.natAbs) : d ∣ gcdL xs := dvd_gcd_fold xs 0 (Nat.dvd_zero d) h
theorem gcdL_two {xs : List Int} {f m : Int} (h : ∀ x ∈ xs, ∃ n, x = f * n) (h1 : f * m ∈ xs) (h2 : f * (m + 1) ∈ xs) : gcdL xs = f.natAbs := by
  refine Nat.dvd_antisymm ?_ (dvd_gcdL fun x hx => ?_)
  · have d1 : (gcdL xs : Int) ∣ f * m := Int.ofNat_dvd_left.mpr (gcdL_dvd h1)
    have d2 : (gcdL xs : Int) ∣ f * (m + 1) := Int.ofNat_dvd_left.mpr (gcdL_dvd h2)
    have d3 : (gcdL xs : Int) ∣ f * (m + 1) - f * m := Int.dvd_sub d2 d1
    have e : f * (m + 1) - f * m = f := by rw [Int.mul_add, Int.mul_one]; omega
    rw [e] at d3
    exact Int.ofNat_dvd_left.mp d3
  · obtain ⟨n, rfl⟩ := h x hx
    rw [Int.natAbs_mul]
    exact Nat.dvd_mul_right _ _
theorem gcdL_one (x : Int) : gcdL [x] = x.natAbs := by
  show Nat.gcd 0 x.natAbs = x.natAbs
  exact Nat.gcd_zero_left _
theorem gcdL_snoc (xs : List Int) (x : Int) : gcdL (xs ++ [x]) = Nat.gcd (gcdL xs) x.natAbs := by
  unfold gcdL
  rw [List.foldl_append]
  rfl
theorem cutN (ns : List Int) (k : Nat) : cutV (vints ns) (some (k : Int)) none = vints (ns.drop k) := by
  unfold cutV
  rw [HT.sIx_none, HT.sIx_nat, ints_len]
  show List.take _ (List.drop _ (List.map V.int ns)) = List.map V.int _
  rw [← List.map_drop, List.take_of_length_le (by rw [List.length_map, List.length_drop]; omega)]
  congr 1
  rcases Nat.le_total k ns.length with h | h
  · rw [Nat.min_eq_left h]
  · rw [Nat.min_eq_right h, List.drop_of_length_le (Nat.le_refl _), List.drop_of_length_le h]
def dueOf (xs : List Int) (f : Int) : Nat := match xs with | [] => 0 | [x] => x.natAbs | _ => f.natAbs
theorem vints_snoc (ns : List Int) (n : Int) : vints (ns ++ [n]) = vints ns ++ [V.int n] := by rw [vints, List.map_append]; rfl
theorem vrefs_snoc (as : List Addr) (a : Addr) : (as ++ [a]).map V.ref = as.map V.ref ++ [V.ref a] := by rw [List.map_append]; rfl
theorem Rows.lay {H : Hp} {as : List Addr} {rs : List (List Int)} {p : Addr} {o : HO} (R : Rows H as rs) (h : ∀ b ∈ as, b ≠ p) : Rows (upd H p o) as rs := by
  induction R with
  | nil => exact .nil
  | cons q _ ih => exact .cons (by rw [upd_ne (h _ List.mem_cons_self)]; exact q) (ih fun b hb => h b (List.mem_cons_of_mem _ hb))
theorem Rows.apart {H : Hp} {as : List Addr} {rs : List (List Int)} {p : Addr} (R : Rows H as rs) (h : H p = some (.lst (as.map V.ref))) : ∀ b ∈ as, b ≠ p := fun b hb z => by
  subst z
  obtain ⟨k, hk, e1⟩ := List.mem_iff_getElem.mp hb
  obtain ⟨r, _, e2⟩ := Paired.getL R (List.getElem?_eq_some_iff.mpr ⟨hk, e1⟩)
  rw [h] at e2
  have e3 : as.map V.ref = vints r := by injection (Option.some.inj e2)
  have e4 : (as.map V.ref)[k]? = (vints r)[k]? := by rw [e3]
  rw [List.getElem?_map, List.getElem?_map, List.getElem?_eq_getElem hk] at e4
  cases q : r[k]? with
  | none => rw [q] at e4; cases e4
  | some n => rw [q] at e4; cases e4
theorem Rows.mem {H : Hp} {as : List Addr} {rs : List (List Int)} {b : Addr} (R : Rows H as rs) (hb : b ∈ as) : ∃ r, r ∈ rs ∧ H b = some (.lst (vints r)) := by
  obtain ⟨k, hk, e1⟩ := List.mem_iff_getElem.mp hb
  obtain ⟨r, h1, e2⟩ := Paired.getL R (List.getElem?_eq_some_iff.mpr ⟨hk, e1⟩)
  exact ⟨r, List.mem_of_getElem? h1, e2⟩
def mx (i j : Int) : Int := if j > i then j else i
/-- a block of statements behind which one thing holds on every way -/
theorem seq_join {t rest : TS} {D : Ends} {σ : St} {H : Hp} (I : St → Hp → Prop) (tl : ∀ σ' H', I σ' H' → rest D σ' H') (hd : ∀ N : St → Hp → Prop, (∀ σ' H', I σ' H' → N σ' H') → t { D with nx := N } σ H) : tSeq t rest D σ H := hd _ tl
/-! ### a bag lowered -/
def lowL (xs : List Int) : List Int := if gcdL xs = 0 then xs else xs.map fun y => y / (gcdL xs : Int)
theorem lowL_len (xs : List Int) : (lowL xs).length = xs.length := by
  unfold lowL
  split
  · rfl
  · exact List.length_map ..
theorem gcdL_zero {xs : List Int} (h : ∀ x ∈ xs, x = 0) : gcdL xs = 0 := by
  have d : (0 : Nat) ∣ gcdL xs := dvd_gcdL fun x hx => by rw [h x hx]; exact Nat.dvd_refl 0
  exact Nat.eq_zero_of_zero_dvd d
theorem zero_of_gcdL {xs : List Int} (h : gcdL xs = 0) : ∀ x ∈ xs, x = 0 := fun x hx => by
  have d := gcdL_dvd hx
  rw [h] at d
  exact Int.natAbs_eq_zero.mp (Nat.eq_zero_of_zero_dvd d)
theorem gcdL_lt {xs : List Int} {M : Nat} (h : ∀ x ∈ xs, x.natAbs < M) : gcdL xs < M ∨ ∀ x ∈ xs, x = 0 := by
  by_cases q : ∀ x ∈ xs, x = 0
  · exact .inr q
  · obtain ⟨x, q⟩ := Classical.not_forall.mp q
    obtain ⟨hx, h0⟩ := Classical.not_imp.mp q
    have hp : 0 < x.natAbs := Int.natAbs_pos.mpr h0
    exact .inl (Nat.lt_of_le_of_lt (Nat.le_of_dvd hp (gcdL_dvd hx)) (h x hx))
theorem low_abs {xs : List Int} {M : Nat} (h : ∀ x ∈ xs, x.natAbs < M) : ∀ x ∈ lowL xs, x.natAbs < M := fun x hx => by
  unfold lowL at hx
  split at hx
  · exact h x hx
  · obtain ⟨y, hy, rfl⟩ := List.mem_map.mp hx
    exact Nat.lt_of_le_of_lt (Int.natAbs_ediv_le_natAbs _ _) (h y hy)
theorem low_back {xs : List Int} (h0 : gcdL xs ≠ 0) : (lowL xs).map (fun y => (gcdL xs : Int) * y) = xs := by
  rw [lowL, if_neg h0, List.map_map]
  refine List.ext_getElem (by simp) fun i h1 h2 => ?_
  rw [List.getElem_map]
  exact Int.mul_ediv_cancel' (Int.ofNat_dvd_left.mpr (gcdL_dvd (List.getElem_mem _)))
theorem low_prime {xs : List Int} (h0 : gcdL xs ≠ 0) : gcdL (lowL xs) = 1 := by
  have hp : 0 < gcdL xs := Nat.pos_of_ne_zero h0
  have d : gcdL (lowL xs) * gcdL xs ∣ gcdL xs := dvd_gcdL fun x hx => by
    have e : x = (gcdL xs : Int) * (x / (gcdL xs : Int)) := (Int.mul_ediv_cancel' (Int.ofNat_dvd_left.mpr (gcdL_dvd hx))).symm
    have m : x / (gcdL xs : Int) ∈ lowL xs := by rw [lowL, if_neg h0]; exact List.mem_map.mpr ⟨x, hx, rfl⟩
    have e2 : x.natAbs = gcdL xs * (x / (gcdL xs : Int)).natAbs := by
      have := congrArg Int.natAbs e
      rw [Int.natAbs_mul, Int.natAbs_natCast] at this
      exact this
    rw [e2, Nat.mul_comm (gcdL xs)]
    exact Nat.mul_dvd_mul_right (gcdL_dvd m) _
  have l := Nat.le_of_dvd hp d
  have q : gcdL (lowL xs) ≠ 0 := fun e => by
    have z := zero_of_gcdL e
    refine h0 (gcdL_zero fun x hx => ?_)
    have m : x / (gcdL xs : Int) ∈ lowL xs := by rw [lowL, if_neg h0]; exact List.mem_map.mpr ⟨x, hx, rfl⟩
    have e3 := Int.mul_ediv_cancel' (Int.ofNat_dvd_left.mpr (gcdL_dvd hx))
    rw [z _ m, Int.mul_zero] at e3
    exact e3.symm
  have l2 : 1 * gcdL xs ≤ gcdL (lowL xs) * gcdL xs := Nat.mul_le_mul_right _ (Nat.one_le_iff_ne_zero.mpr q)
  have e : gcdL (lowL xs) * gcdL xs = 1 * gcdL xs := by omega
  exact Nat.eq_of_mul_eq_mul_right hp e
theorem low_again (xs : List Int) : lowL (lowL xs) = lowL xs := by
  by_cases h0 : gcdL xs = 0
  · have e : lowL xs = xs := by rw [lowL, if_pos h0]
    rw [e, e]
  · have e := low_prime h0
    rw [lowL, e, if_neg (by decide)]
    refine List.ext_getElem (by simp) fun i h1 h2 => ?_
    rw [List.getElem_map]
    exact Int.ediv_one _
theorem low_nought {z : Nat} : lowL (List.replicate z 0) = List.replicate z 0 := by
  rw [lowL, if_pos (gcdL_zero fun x hx => (List.mem_replicate.mp hx).2)]
theorem all_nought {xs : List Int} {z : Nat} (h : gcdL xs = 0) (hl : xs.length = z) : xs = List.replicate z 0 := by
  refine List.ext_getElem (by simp [hl]) fun i h1 h2 => ?_
  rw [zero_of_gcdL h _ (List.getElem_mem h1), List.getElem_replicate]
theorem mul_abs {f n : Int} (h1 : f.natAbs < 10 ^ 60) (h2 : n.natAbs < 10 ^ 60) : (f * n).natAbs < 10 ^ 130 := by
  rw [Int.natAbs_mul]
  exact Nat.lt_of_le_of_lt (Nat.mul_le_mul (Nat.le_of_lt h1) (Nat.le_of_lt h2)) (by decide +kernel)
theorem gcd_fmod (u v : Int) : Nat.gcd v.natAbs (u.fmod v).natAbs = Nat.gcd u.natAbs v.natAbs := by
  have e := Int.mul_fdiv_add_fmod u v
  refine Nat.dvd_antisymm (Nat.dvd_gcd ?_ (Nat.gcd_dvd_left _ _)) (Nat.dvd_gcd (Nat.gcd_dvd_right _ _) ?_)
  · have d1 : ((Nat.gcd v.natAbs (u.fmod v).natAbs : Nat) : Int) ∣ v := Int.ofNat_dvd_left.mpr (Nat.gcd_dvd_left _ _)
    have d2 : ((Nat.gcd v.natAbs (u.fmod v).natAbs : Nat) : Int) ∣ u.fmod v := Int.ofNat_dvd_left.mpr (Nat.gcd_dvd_right _ _)
    refine Int.ofNat_dvd_left.mp ?_
    generalize ((Nat.gcd v.natAbs (u.fmod v).natAbs : Nat) : Int) = g at d1 d2
    rw [← e]
    exact Int.dvd_add (Int.dvd_trans d1 (Int.dvd_mul_right _ _)) d2
  · have d1 : ((Nat.gcd u.natAbs v.natAbs : Nat) : Int) ∣ u := Int.ofNat_dvd_left.mpr (Nat.gcd_dvd_left _ _)
    have d2 : ((Nat.gcd u.natAbs v.natAbs : Nat) : Int) ∣ v := Int.ofNat_dvd_left.mpr (Nat.gcd_dvd_right _ _)
    refine Int.ofNat_dvd_left.mp ?_
    generalize ((Nat.gcd u.natAbs v.natAbs : Nat) : Int) = g at d1 d2
    have e2 : u.fmod v = u - v * u.fdiv v := by omega
    rw [e2]
    exact Int.dvd_sub d1 (Int.dvd_trans d2 (Int.dvd_mul_right _ _))
theorem fmod_abs_lt (u : Int) {v : Int} (hv : v ≠ 0) : (u.fmod v).natAbs < v.natAbs := by
  rw [Int.fmod_eq_emod]
  have h1 := Int.emod_nonneg u hv
  have h2 := Int.emod_lt u hv
  split
  · omega
  · rename_i h
    have h3 : ¬ u % v = 0 := fun e => h (.inr (Int.dvd_of_emod_eq_zero e))
    have h4 : ¬ 0 ≤ v := fun e => h (.inl e)
    omega
theorem by_place1 (f : Int → Int) {xs : List Int} {z : Nat} (hx : xs.length = z) : (List.range z).map (fun i => V.int (f (xs.getD i 0))) = vints (xs.map f) := by
  refine List.ext_getElem (by simp [hx]) fun i h1 h2 => ?_
  have hi : i < z := by simpa using h1
  simp [List.getD_eq_getElem?_getD, List.getElem?_eq_getElem (hx ▸ hi : i < xs.length)]
theorem refs_get {as : List Addr} {i : Nat} {x : V} (h : (as.map V.ref)[i]? = some x) : ∃ b, as[i]? = some b ∧ x = V.ref b := by
  rw [List.getElem?_map] at h
  cases e : as[i]? with
  | none => rw [e] at h; cases h
  | some b => rw [e] at h; exact ⟨b, rfl, (Option.some.inj h).symm⟩
theorem strs_get {as : List Str} {i : Nat} {x : V} (h : (as.map V.str)[i]? = some x) : ∃ b, as[i]? = some b ∧ x = V.str b := by
  rw [List.getElem?_map] at h
  cases e : as[i]? with
  | none => rw [e] at h; cases h
  | some b => rw [e] at h; exact ⟨b, rfl, (Option.some.inj h).symm⟩
end L2

namespace L2
open PySem PySem.Spec PyProof.Rows PySem.SeqAt
theorem all_eq_dec {xs ys : List Int} (h : xs.length = ys.length) : (List.range xs.length).all (fun j => eqV ((vints xs).getD j .non) ((vints ys).getD j .non)) = decide (xs = ys) := by
  rw [Bool.eq_iff_iff, List.all_eq_true, decide_eq_true_eq]
  constructor
  · intro z
    refine List.ext_getElem h fun i h1 h2 => ?_
    have q := z i (List.mem_range.mpr h1)
    simp only [vints, List.getD_eq_getElem?_getD, List.getElem?_map, List.getElem?_eq_getElem h1, List.getElem?_eq_getElem h2, Option.map_some, Option.getD_some, eqV, beq_iff_eq] at q
    exact q
  · rintro rfl i hi
    have h1 := List.mem_range.mp hi
    simp only [vints, List.getD_eq_getElem?_getD, List.getElem?_map, List.getElem?_eq_getElem h1, Option.map_some, Option.getD_some, eqV, beq_self_eq_true]
section
variable {X : Cx} {pins : List (Addr × Obj)} {σ : St} {H : Hp} {s : Shared} {A : Around} {a b : Addr} {xs ys : List Int}
theorem ints_eqAt {its its2 : List Value} (rv : Vals (vints xs) its) (rw' : Vals (vints ys) its2) : ∀ j (h1 : j < its.toArray.size) (h2 : j < its2.toArray.size), EqAt A s its.toArray[j] its2.toArray[j] (eqV ((vints xs).getD j .non) ((vints ys).getD j .non)) := by
  intro j h1 h2
  have l1 := rv.length
  have l2 := rw'.length
  have k1 : j < (vints xs).length := by rw [l1]; simpa using h1
  have k2 : j < (vints ys).length := by rw [l2]; simpa using h2
  obtain ⟨u, hu, ru⟩ := rv.get (List.getElem?_eq_getElem k1)
  obtain ⟨v, hv, rv2⟩ := rw'.get (List.getElem?_eq_getElem k2)
  have e1 : its.toArray[j] = u := by
    have := (List.getElem?_eq_some_iff.mp hu).2
    simpa using this
  have e2 : its2.toArray[j] = v := by
    have := (List.getElem?_eq_some_iff.mp hv).2
    simpa using this
  rw [e1, e2]
  have f : ∀ {zs : List Int} (k : j < (vints zs).length), flatV (vints zs)[j] = true ∧ (vints zs).getD j .non = (vints zs)[j] := fun {zs} k => by
    refine ⟨?_, ?_⟩
    · simp only [vints, List.getElem_map]; rfl
    · rw [List.getD_eq_getElem?_getD, List.getElem?_eq_getElem k]; rfl
  rw [(f k1).2, (f k2).2]
  exact eqAt_V ru rv2 (f k1).1 (f k2).1
theorem rc_ints (I : Inv X pins σ H s) (hu : A.units < cLine) (qa : SqL X.K H a (vints xs)) (qb : SqL X.K H b (vints ys)) : RcAt A s (.ref a) (.ref b) (decide (xs = ys)) := by
  obtain ⟨its, rv, p, _⟩ := I.list qa
  obtain ⟨its2, rw', p2, _⟩ := I.list qb
  have l1 := rv.length
  have l2 := rw'.length
  rw [ints_len] at l1 l2
  by_cases h : xs.length = ys.length
  · have q := RcAt.lists (A := A) p.isList p2.isList (by simp; omega) hu (ints_eqAt rv rw')
    have e : its.toArray.size = xs.length := by simp; omega
    rw [e, all_eq_dec h] at q
    exact q
  · have e : decide (xs = ys) = false := decide_eq_false fun z => h (by rw [z])
    rw [e]
    exact RcAt.lists_lengths p.isList p2.isList (by simp; omega) hu
theorem rcne_ints (I : Inv X pins σ H s) (hu : A.units < cLine) (qa : SqL X.K H a (vints xs)) (qb : SqL X.K H b (vints ys)) : RcNeAt A s (.ref a) (.ref b) (!decide (xs = ys)) := by
  obtain ⟨its, rv, p, _⟩ := I.list qa
  obtain ⟨its2, rw', p2, _⟩ := I.list qb
  have l1 := rv.length
  have l2 := rw'.length
  rw [ints_len] at l1 l2
  by_cases h : xs.length = ys.length
  · have q := RcNeAt.lists (A := A) p.isList p2.isList (by simp; omega) hu (ints_eqAt rv rw')
    have e : its.toArray.size = xs.length := by simp; omega
    rw [e, all_eq_dec h] at q
    exact q
  · have e : decide (xs = ys) = false := decide_eq_false fun z => h (by rw [z])
    rw [e]
    exact RcNeAt.lists_lengths p.isList p2.isList (by simp; omega) hu
theorem eq_ints (I : Inv X pins σ H s) (hu : A.units < cLine) (qa : SqL X.K H a (vints xs)) (qb : SqL X.K H b (vints ys)) : EqAt A s (.ref a) (.ref b) (decide (xs = ys)) := by
  by_cases h : a = b
  · subst h
    have e := ints_inj (I.list_inj qa qb)
    rw [decide_eq_true e]
    exact EqAt.same _
  · exact EqAt.of_refs h (rc_ints I hu qa qb)
def rEqL (K : PySem.W.Frag) : R2 := fun x y H Q => ∃ a b xs ys, x = .ref a ∧ y = .ref b ∧ SqL K H a (vints xs) ∧ SqL K H b (vints ys) ∧ Q (.bl (decide (xs = ys))) H
def rNeL (K : PySem.W.Frag) : R2 := fun x y H Q => ∃ a b xs ys, x = .ref a ∧ y = .ref b ∧ SqL K H a (vints xs) ∧ SqL K H b (vints ys) ∧ Q (.bl (!decide (xs = ys))) H
theorem op_eqL (hu : X.A.units < cLine) : OpR X (compareOp .Eq) (rEqL X.K) := by
  intro pins s σ H x y v u Q I rx ry h
  obtain ⟨a, b, xs, ys, rfl, rfl, qa, qb, q⟩ := h
  cases rx
  cases ry
  exact rc_ints I hu qa qb _ _ _ _ ⟨.bl _, H, I, rfl, q⟩
theorem op_neL (hu : X.A.units < cLine) : OpR X (compareOp .NotEq) (rNeL X.K) := by
  intro pins s σ H x y v u Q I rx ry h
  obtain ⟨a, b, xs, ys, rfl, rfl, qa, qb, q⟩ := h
  cases rx
  cases ry
  exact rcne_ints I hu qa qb _ _ _ _ ⟨.bl _, H, I, rfl, q⟩
/-! ### lists of lists -/
def memR (xs : List Int) (rs : List (List Int)) : Bool := rs.any fun r => decide (r = xs)
theorem rows_val {as : List Addr} {its : List Value} (rv : Vals (as.map V.ref) its) : its = as.map Value.ref := by
  induction as generalizing its with
  | nil => cases rv; rfl
  | cons a as ih =>
    cases rv with
    | cons r t =>
      cases r
      rw [List.map_cons, ← ih t]
def rowAt (H : Hp) (xs : List Int) (v : Value) : Bool := match v with
  | .ref a => match H a with
    | some (.lst ys) => decide (ys = vints xs)
    | _ => false
  | _ => false
theorem rowAt_of {r : List Int} {c : Addr} (h : H c = some (.lst (vints r))) (xs : List Int) : rowAt H xs (.ref c) = decide (r = xs) := by
  unfold rowAt
  simp only [h]
  by_cases e : r = xs
  · subst e; simp
  · rw [decide_eq_false e, decide_eq_false fun z => e (ints_inj z)]
theorem rows_any {as : List Addr} {rs : List (List Int)} (R : Rows H as rs) (xs : List Int) : (as.map Value.ref).toArray.any (rowAt H xs) = memR xs rs := by
  rw [List.any_toArray, List.any_map]
  unfold memR
  induction R with
  | nil => rfl
  | cons e _ ih => rw [List.any_cons, List.any_cons, ih, Function.comp_apply, rowAt_of e]
def rInR (K : PySem.W.Frag) : R2 := fun x y H Q => ∃ (a b : Addr) (as : List Addr) (rs : List (List Int)) (xs : List Int), x = .ref a ∧ y = .ref b ∧ SqL K H a (vints xs) ∧ SqL K H b (as.map V.ref) ∧ Rows H as rs ∧ Q (.bl (memR xs rs)) H
def rNotInR (K : PySem.W.Frag) : R2 := fun x y H Q => ∃ (a b : Addr) (as : List Addr) (rs : List (List Int)) (xs : List Int), x = .ref a ∧ y = .ref b ∧ SqL K H a (vints xs) ∧ SqL K H b (as.map V.ref) ∧ Rows H as rs ∧ Q (.bl (!memR xs rs)) H
theorem rows_eqAt (I : Inv X pins σ H s) (hu : A.units < cLine) {as : List Addr} {rs : List (List Int)} (R : Rows H as rs) (qa : SqL X.K H a (vints xs)) : ∀ y, y ∈ (as.map Value.ref).toArray → EqAt A s y (.ref a) (rowAt H xs y) := by
  intro y hy
  have hy : y ∈ as.map Value.ref := by simpa using hy
  obtain ⟨c, hc, rfl⟩ := List.mem_map.mp hy
  obtain ⟨k, hk, e1⟩ := List.mem_iff_getElem.mp hc
  obtain ⟨r, _, e2⟩ := Paired.getL R (List.getElem?_eq_some_iff.mpr ⟨hk, e1⟩)
  rw [rowAt_of e2]
  exact eq_ints I hu (SqL.of e2) qa
theorem op_inR (hu : X.A.units + 1 < cLine) : OpR X (compareOp .In) (rInR X.K) := by
  intro pins s σ H x y v u Q I rx ry h
  obtain ⟨a, b, as, rs, xs, rfl, rfl, qa, qb, R, q⟩ := h
  cases rx
  cases ry
  obtain ⟨its, rv, p, _⟩ := I.list qb
  have e := rows_val rv
  subst e
  refine in_listAt (rowAt H xs) p.isList (rows_eqAt (A := X.A.in1) I hu R qa) ?_
  rw [rows_any R]
  exact ⟨.bl _, H, I, rfl, q⟩
theorem op_notInR (hu : X.A.units + 1 < cLine) : OpR X (compareOp .NotIn) (rNotInR X.K) := by
  intro pins s σ H x y v u Q I rx ry h
  obtain ⟨a, b, as, rs, xs, rfl, rfl, qa, qb, R, q⟩ := h
  cases rx
  cases ry
  obtain ⟨its, rv, p, _⟩ := I.list qb
  have e := rows_val rv
  subst e
  refine notIn_listAt (rowAt H xs) p.isList (rows_eqAt (A := X.A.in1) I hu R qa) ?_
  rw [rows_any R]
  exact ⟨.bl _, H, I, rfl, q⟩
def rEqR (K : PySem.W.Frag) : R2 := fun x y H Q => ∃ a b as bs rs qs, x = .ref a ∧ y = .ref b ∧ SqL K H a (as.map V.ref) ∧ SqL K H b (bs.map V.ref) ∧ Rows H as rs ∧ Rows H bs qs ∧ Q (.bl (decide (rs = qs))) H
theorem op_eqR (hu : X.A.units + 1 < cLine) : OpR X (compareOp .Eq) (rEqR X.K) := by
  intro pins s σ H x y v u Q I rx ry h
  obtain ⟨a, b, as, bs, rs, qs, rfl, rfl, qa, qb, R, R2, q⟩ := h
  cases rx
  cases ry
  obtain ⟨its, rv, p, _⟩ := I.list qa
  obtain ⟨its2, rw', p2, _⟩ := I.list qb
  have e := rows_val rv
  subst e
  have e2 := rows_val rw'
  subst e2
  have l1 := R.length
  have l2 := R2.length
  by_cases h : rs.length = qs.length
  · refine eq_listAt (e := fun j => decide (rs[j]? = qs[j]?)) p.isList p2.isList (by simp; omega) (by omega) (fun j h1 h2 => ?_) ?_
    · have k1 : j < as.length := by simpa using h1
      have k2 : j < bs.length := by simpa using h2
      obtain ⟨r, g1, g2⟩ := Paired.getL R (List.getElem?_eq_getElem k1)
      obtain ⟨t, g3, g4⟩ := Paired.getL R2 (List.getElem?_eq_getElem k2)
      have e1 : (as.map Value.ref).toArray[j] = .ref as[j] := by simp
      have e2 : (bs.map Value.ref).toArray[j] = .ref bs[j] := by simp
      rw [e1, e2, g1, g3]
      have e3 : decide (some r = some t) = decide (r = t) := by simp
      rw [e3]
      exact eq_ints (A := X.A.in1) I (by show X.A.units + 1 < cLine; exact hu) (SqL.of g2) (SqL.of g4)
    · have e : (List.range (as.map Value.ref).toArray.size).all (fun j => decide (rs[j]? = qs[j]?)) = decide (rs = qs) := by
        rw [Bool.eq_iff_iff, List.all_eq_true, decide_eq_true_eq]
        constructor
        · intro z
          refine List.ext_getElem? fun i => ?_
          by_cases hi : i < rs.length
          · exact of_decide_eq_true (z i (List.mem_range.mpr (by simp; omega)))
          · rw [List.getElem?_eq_none (by omega), List.getElem?_eq_none (by omega)]
        · rintro rfl i _
          simp
      rw [e]
      exact ⟨.bl _, H, I, rfl, q⟩
  · have e : decide (rs = qs) = false := decide_eq_false fun z => h (by rw [z])
    rw [e] at q
    exact eq_list_lengthsAt p.isList p2.isList (by simp; omega) (by omega) ⟨.bl _, H, I, rfl, q⟩
end
end L2

namespace L2
open PySem PySem.Spec PyProof.Rows
/-! ### the outermost of a list of bags -/
theorem bn_cons (x y : Int) (xs ys : List Int) : bn (x :: xs) (y :: ys) = (decide (x ≤ y) && bn xs ys) := by
  unfold bn
  rw [List.zipWith_cons_cons, List.all_cons]
  rfl
theorem bn_refl : ∀ xs : List Int, bn xs xs = true
  | [] => rfl
  | x :: xs => by rw [bn_cons, bn_refl xs]; simp
theorem bn_trans : ∀ {xs ys zs : List Int}, xs.length = ys.length → ys.length = zs.length → bn xs ys = true → bn ys zs = true → bn xs zs = true
  | [], [], [], _, _, _, _ => rfl
  | x :: xs, y :: ys, z :: zs, h1, h2, a, b => by
    rw [bn_cons, Bool.and_eq_true, decide_eq_true_eq] at a b ⊢
    exact ⟨by omega, bn_trans (by simpa using h1) (by simpa using h2) a.2 b.2⟩
theorem bn_sum : ∀ {xs ys : List Int}, xs.length = ys.length → bn xs ys = true → xs.sum ≤ ys.sum ∧ (xs.sum = ys.sum → xs = ys)
  | [], [], _, _ => ⟨Int.le_refl _, fun _ => rfl⟩
  | x :: xs, y :: ys, h, a => by
    rw [bn_cons, Bool.and_eq_true, decide_eq_true_eq] at a
    obtain ⟨i1, i2⟩ := bn_sum (xs := xs) (ys := ys) (by simpa using h) a.2
    rw [List.sum_cons, List.sum_cons]
    refine ⟨by omega, fun e => ?_⟩
    have e1 : x = y := by omega
    rw [e1, i2 (by omega)]

/-- how one bag lies further out than another: a relation with a measure, on bags of one length -/
structure Lies (z : Nat) (R : List Int → List Int → Bool) (μ : List Int → Int) : Prop where
  refl : ∀ x, R x x = true
  trans : ∀ {x y w : List Int}, x.length = z → y.length = z → w.length = z → R x y = true → R y w = true → R x w = true
  up : ∀ {x y : List Int}, x.length = z → y.length = z → R x y = true → x ≠ y → μ x < μ y
theorem lies_bn (z : Nat) : Lies z bn List.sum where
  refl := bn_refl
  trans := fun h1 h2 h3 a b => bn_trans (by omega) (by omega) a b
  up := fun h1 h2 a ne => by
    obtain ⟨i1, i2⟩ := bn_sum (by omega) a
    rcases Int.lt_or_eq_of_le i1 with q | q
    · exact q
    · exact absurd (i2 q) ne
theorem lies_up (z : Nat) : Lies z (fun x y => bn y x) (fun x => -x.sum) where
  refl := bn_refl
  trans := fun h1 h2 h3 a b => bn_trans (by omega) (by omega) b a
  up := fun h1 h2 a ne => by
    obtain ⟨i1, i2⟩ := bn_sum (by omega) a
    rcases Int.lt_or_eq_of_le i1 with q | q
    · exact Int.neg_lt_neg q
    · exact absurd (i2 q).symm ne

/-- the first place -/
def ix (x : List Int) : List (List Int) → Nat
  | [] => 0
  | y :: l => if y = x then 0 else ix x l + 1
def isOut (R : List Int → List Int → Bool) (all : List (List Int)) (r : List Int) : Bool := all.all fun o => decide (o = r) || !R r o
def step (R : List Int → List Int → Bool) (all acc : List (List Int)) (r : List Int) : List (List Int) := if !memR r acc && isOut R all r then acc ++ [r] else acc
def tellP (R : List Int → List Int → Bool) (all pre : List (List Int)) : List (List Int) := pre.foldl (step R all) []
theorem memR_iff {x : List Int} {l : List (List Int)} : memR x l = true ↔ x ∈ l := by
  unfold memR
  rw [List.any_eq_true]
  constructor
  · rintro ⟨r, hr, e⟩
    rw [← of_decide_eq_true e]
    exact hr
  · exact fun h => ⟨x, h, by simp⟩
theorem isOut_iff {R : List Int → List Int → Bool} {all : List (List Int)} {r : List Int} : isOut R all r = true ↔ ∀ o ∈ all, o = r ∨ R r o = false := by
  unfold isOut
  rw [List.all_eq_true]
  constructor
  · intro h o ho
    have := h o ho
    rw [Bool.or_eq_true, decide_eq_true_eq, Bool.not_eq_true'] at this
    exact this
  · intro h o ho
    rw [Bool.or_eq_true, decide_eq_true_eq, Bool.not_eq_true']
    exact h o ho
section
variable {R : List Int → List Int → Bool} {all : List (List Int)}
theorem tellP_snoc (pre : List (List Int)) (r : List Int) : tellP R all (pre ++ [r]) = step R all (tellP R all pre) r := by
  unfold tellP
  rw [List.foldl_append]
  rfl
theorem step_yes {acc : List (List Int)} {r : List Int} (h1 : memR r acc = false) (h2 : isOut R all r = true) : step R all acc r = acc ++ [r] := by
  unfold step
  rw [h1, h2]
  rfl
theorem step_no {acc : List (List Int)} {r : List Int} (h : ¬ (memR r acc = false ∧ isOut R all r = true)) : step R all acc r = acc := by
  unfold step
  rw [if_neg]
  rw [Bool.and_eq_true, Bool.not_eq_true']
  exact h
theorem tell_mem : ∀ (n : Nat) (x : List Int), x ∈ tellP R all (all.take n) ↔ x ∈ all.take n ∧ isOut R all x = true
  | 0, x => by simp [tellP]
  | n + 1, x => by
    cases hn : all[n]? with
    | none =>
      rw [List.take_add_one, hn, Option.toList_none, List.append_nil]
      exact tell_mem n x
    | some r =>
      rw [List.take_add_one, hn, Option.toList_some, tellP_snoc, List.mem_append, List.mem_singleton]
      have ih := tell_mem n
      by_cases h : memR r (tellP R all (all.take n)) = false ∧ isOut R all r = true
      · rw [step_yes h.1 h.2, List.mem_append, List.mem_singleton, ih x]
        constructor
        · rintro (q | q)
          · exact ⟨.inl q.1, q.2⟩
          · rw [q]; exact ⟨.inr rfl, h.2⟩
        · rintro ⟨q | q, o⟩
          · exact .inl ⟨q, o⟩
          · exact .inr q
      · rw [step_no h, ih x]
        constructor
        · rintro ⟨q, o⟩
          exact ⟨.inl q, o⟩
        · rintro ⟨q | q, o⟩
          · exact ⟨q, o⟩
          · subst q
            cases hm : memR x (tellP R all (all.take n)) with
            | false => exact absurd ⟨hm, o⟩ h
            | true => exact (ih x).mp (memR_iff.mp hm)
theorem tell_len : ∀ n, (tellP R all (all.take n)).length ≤ n
  | 0 => by simp [tellP]
  | n + 1 => by
    have ih := tell_len n
    cases hn : all[n]? with
    | none =>
      rw [List.take_add_one, hn, Option.toList_none, List.append_nil]
      omega
    | some r =>
      rw [List.take_add_one, hn, Option.toList_some, tellP_snoc]
      unfold step
      split
      · rw [List.length_append, List.length_singleton]; omega
      · omega
theorem idx_of : ∀ {all : List (List Int)} {n : Nat} {r : List Int}, all[n]? = some r → r ∉ all.take n → ix r all = n
  | [], n, r, hn, _ => by simp at hn
  | y :: l, 0, r, hn, _ => by
    have e : y = r := by simpa using hn
    unfold ix
    rw [if_pos e]
  | y :: l, n + 1, r, hn, h => by
    rw [List.take_succ_cons] at h
    have h1 : y ≠ r := fun e => h (by rw [e]; exact List.mem_cons_self)
    have ih := idx_of (all := l) (n := n) (r := r) (by simpa using hn) fun q => h (List.mem_cons_of_mem _ q)
    unfold ix
    rw [if_neg h1, ih]
theorem idx_lt : ∀ {all : List (List Int)} {n : Nat} {x : List Int}, x ∈ all.take n → ix x all < n
  | [], n, x, h => by simp at h
  | y :: l, 0, x, h => by simp at h
  | y :: l, n + 1, x, h => by
    rw [List.take_succ_cons] at h
    unfold ix
    split
    · omega
    · rename_i q
      rcases List.mem_cons.mp h with e | e
      · exact absurd e.symm q
      · have := idx_lt (all := l) e; omega
theorem tell_order : ∀ n, (tellP R all (all.take n)).Pairwise fun x y => ix x all < ix y all
  | 0 => by simp [tellP]
  | n + 1 => by
    have ih := tell_order n
    cases hn : all[n]? with
    | none =>
      rw [List.take_add_one, hn, Option.toList_none, List.append_nil]
      exact ih
    | some r =>
      rw [List.take_add_one, hn, Option.toList_some, tellP_snoc]
      by_cases h : memR r (tellP R all (all.take n)) = false ∧ isOut R all r = true
      · rw [step_yes h.1 h.2, List.pairwise_append]
        refine ⟨ih, List.pairwise_singleton _ _, fun x hx y hy => ?_⟩
        rw [List.mem_singleton.mp hy]
        have hr : r ∉ all.take n := fun q => by
          have := memR_iff.mpr ((tell_mem (R := R) n r).mpr ⟨q, h.2⟩)
          rw [h.1] at this
          cases this
        rw [idx_of hn hr]
        exact idx_lt ((tell_mem (R := R) n x).mp hx).1
      · rw [step_no h]
        exact ih
theorem top_of {μ : List Int → Int} : ∀ {l : List (List Int)}, l ≠ [] → ∃ m ∈ l, ∀ y ∈ l, μ y ≤ μ m
  | [x], _ => ⟨x, List.mem_cons_self, fun y hy => by rw [List.mem_singleton.mp hy]; exact Int.le_refl _⟩
  | x :: y :: l, _ => by
    obtain ⟨m, hm, h⟩ := top_of (μ := μ) (l := y :: l) (by simp)
    by_cases q : μ x ≤ μ m
    · refine ⟨m, List.mem_cons_of_mem _ hm, fun w hw => ?_⟩
      rcases List.mem_cons.mp hw with e | e
      · rw [e]; exact q
      · exact h w e
    · refine ⟨x, List.mem_cons_self, fun w hw => ?_⟩
      rcases List.mem_cons.mp hw with e | e
      · rw [e]; exact Int.le_refl _
      · have := h w e; omega
/-- each bag lies beneath one that is told -/
theorem tell_met {z : Nat} {μ : List Int → Int} (L : Lies z R μ) (hl : ∀ r ∈ all, r.length = z) {r : List Int} (hr : r ∈ all) : ∃ x ∈ tellP R all all, R r x = true := by
  have hne : all.filter (fun o => R r o) ≠ [] := fun e => by
    have : r ∈ all.filter fun o => R r o := List.mem_filter.mpr ⟨hr, L.refl r⟩
    rw [e] at this
    cases this
  obtain ⟨m, hm, top⟩ := top_of (μ := μ) hne
  obtain ⟨hma, hmr⟩ := List.mem_filter.mp hm
  have hmr : R r m = true := hmr
  refine ⟨m, ?_, hmr⟩
  have q := (tell_mem (R := R) (all := all) all.length m).mpr
  rw [List.take_length] at q
  refine q ⟨hma, isOut_iff.mpr fun o ho => ?_⟩
  by_cases e : o = m
  · exact .inl e
  · right
    cases ho' : R m o with
    | false => rfl
    | true =>
      have t := top o (List.mem_filter.mpr ⟨ho, L.trans (hl r hr) (hl m hma) (hl o ho) hmr ho'⟩)
      have u := L.up (hl m hma) (hl o ho) ho' (Ne.symm e)
      omega
end
end L2
namespace L2
open PySem PySem.Spec PyProof.Rows
/-! ### a call of a def that a name holds -/
section
variable {X : Cx} {CX : CXT} {k i : Nat} {f : Addr} {fd : FuncData} {ps : List Str} {sp : Sp} {dvs : List V} {ds : List Value} {E : XK} {x : Str} {p pos : Pos} {e : Expr} {es : List Expr} {t : TA}
def tCallV (i : Nat) (f : Addr) (sp : Sp) (dvs : List V) (E : XK) (t : TA) : TE := fun σ H Q => σ[i]? = some (some (.ref f)) ∧ t σ H fun vs H1 => sp (vs ++ dvs) H1 Q E
theorem pe_callV (i : Nat) (F : FnOk X.prog X.w X.K X.mg X.base CX k f fd ps sp) (hr : Room k X.A) (hk : PySem.W.keepIn X.K (.ref f) = true) (hb : Binds X.K fd ps ds) (hd : Vals dvs ds) (hx : Passes CX X E) (ha : PA X (e :: es) t)
    (hN : X.N[i]? = some x := by rfl) (hv : Vis X.env.scope x := by first | exact Or.inl rfl | exact Or.inr (Or.inl rfl) | exact Or.inr (Or.inr rfl)) (hdb : (x == ("__debug__" : Str)) = false := by decide) (hcd : (x == ("__classdict__" : Str)) = false := by decide)
    (he : starEach (e :: es) X.env = (false, eval e X.env) :: starEach es X.env := by rfl) (hpl : (backTo pos (starEach es X.env)).any (·.1) = false := by rfl) :
    PE X (.Call (.Name x p) (e :: es) [] pos) (tCallV i f sp dvs E t) := by
  intro pins s σ H Q I h
  obtain ⟨hσ, h⟩ := h
  refine wpAny_Call_Name_kw (thn (pe_var (pos := p) hN hv hdb hcd pins s σ H (fun v H1 => v = .ref f ∧ t σ H1 fun vs H2 => sp (vs ++ dvs) H2 Q E) I ⟨_, hσ, rfl, h⟩) fun u s1 ⟨v, H1, I1, r, ev, q⟩ => ?_)
  subst ev
  cases r
  refine PySem.W.callWith_K (h₀ := X.base) I1.ok.mod.kin hk (thn (ha pos pins s1 σ H1 _ I1 q) fun us s2 ⟨vs, H2, I2, r2, q2⟩ => ⟨I2.kIn, ?_⟩) he hpl
  exact run_fn F hr hb hd hx I2 r2 q2
end
theorem idx_get {x : List Int} {all : List (List Int)} {n : Nat} (h : x ∉ all.take n) (hm : x ∈ all) : n ≤ ix x all := by
  induction all generalizing n with
  | nil => cases hm
  | cons y l ih =>
    cases n with
    | zero => exact Nat.zero_le _
    | succ n =>
      rw [List.take_succ_cons] at h
      have h1 : y ≠ x := fun e => h (by rw [e]; exact List.mem_cons_self)
      unfold ix
      rw [if_neg h1]
      rcases List.mem_cons.mp hm with e | e
      · exact absurd e.symm h1
      · have := ih (n := n) (fun q => h (List.mem_cons_of_mem _ q)) e; omega
theorem take_mem_succ {x r : List Int} {all : List (List Int)} {n : Nat} (h : x ∉ all.take n) (hn : all[n]? = some r) (hr : x ≠ r) : x ∉ all.take (n + 1) := by
  rw [List.take_add_one, hn, Option.toList_some, List.mem_append, List.mem_singleton]
  rintro (q | q)
  · exact h q
  · exact hr q
end L2

namespace L2
open PySem PySem.Spec PyProof.Rows

/-! ### a set made of a list of keys of one kind -/
def put1 {κ : Type} [DecidableEq κ] (acc : List κ) (x : κ) : List κ := if x ∈ acc then acc else acc ++ [x]
def metK {κ : Type} [DecidableEq κ] (val : Nat → κ) : Nat → List κ
  | 0 => []
  | i + 1 => put1 (metK val i) (val i)
theorem metK_le {κ : Type} [DecidableEq κ] (val : Nat → κ) : ∀ i, (metK val i).length ≤ i
  | 0 => Nat.le_refl _
  | i + 1 => by
    have ih := metK_le val i
    unfold metK put1
    split
    · omega
    · rw [List.length_append, List.length_singleton]; omega
theorem metK_mem {κ : Type} [DecidableEq κ] (val : Nat → κ) : ∀ (i : Nat) (x : κ), x ∈ metK val i ↔ ∃ j, j < i ∧ val j = x
  | 0, x => ⟨fun h => (by cases h), fun ⟨j, h, _⟩ => absurd h (Nat.not_lt_zero _)⟩
  | i + 1, x => by
    have ih := metK_mem val i
    have e : x ∈ metK val (i + 1) ↔ x ∈ metK val i ∨ x = val i := by
      show x ∈ put1 (metK val i) (val i) ↔ _
      unfold put1
      split
      · rename_i h
        exact ⟨.inl, fun q => q.elim id fun z => z ▸ h⟩
      · rw [List.mem_append, List.mem_singleton]
    rw [e, ih x]
    constructor
    · rintro (⟨j, h, e⟩ | e)
      · exact ⟨j, by omega, e⟩
      · exact ⟨i, by omega, e.symm⟩
    · rintro ⟨j, h, e'⟩
      rcases Nat.lt_succ_iff_lt_or_eq.mp h with q | q
      · exact .inl ⟨j, q, e'⟩
      · subst q; exact .inr e'.symm
/-- as many as there are, where no two are alike -/
theorem metK_all {κ : Type} [DecidableEq κ] (val : Nat → κ) : ∀ n, (∀ i j, i < n → j < n → val i = val j → i = j) → (metK val n).length = n
  | 0, _ => rfl
  | n + 1, h => by
    have ih := metK_all val n fun i j hi hj e => h i j (by omega) (by omega) e
    have nm : val n ∉ metK val n := fun q => by
      obtain ⟨j, hj, e⟩ := (metK_mem val n _).mp q
      have := h j n (by omega) (by omega) e
      omega
    show (put1 (metK val n) (val n)).length = n + 1
    unfold put1
    rw [if_neg nm, List.length_append, ih]
    rfl
abbrev setO (led : Bool) : Obj := { cls := .type "set", dict := none, data := .set #[] 0 (.fresh 0 0 led) }
section
variable {prog : Program} {w : World} {A : Around} {R : Result → Shared → Prop} {I : Addr} {fp wr : List Addr} {G : Array GenState → Array GenState → Prop} {n : Nat} {P : Nat → Value → Prop} {St : Nat → Shared → Prop}
variable {κ : Type} [DecidableEq κ] {knd : PySem.KeyKind prog w κ}
theorem setOf_as {h : Heap} {a : Addr} {S S' : κ → Bool} {n n' : Nat} (hS : h.SetOf knd a S n) (e : ∀ k, S k = S' k) (en : n = n') : h.SetOf knd a S' n' := by
  have q : S = S' := funext e
  rw [← q, ← en]
  exact hS
theorem set_loop (W : WalksS prog w A.in1 I fp wr G n P St) (S : Addr) (hSf : S ∉ fp) (val : Nat → κ) (hval : ∀ i v, P i v → knd.is (val i) v = true ∧ v.scannable = true) (hb : n + 1 < scanBound) :
    ∀ (k i : Nat) (s : Shared), n - i = k → i ≤ n → St i s → s.heap.SetOf knd S (fun x => decide (x ∈ metK val i)) (metK val i).length →
      (∀ s', Moved (S :: wr) G s s' → s'.heap.SetOf knd S (fun x => decide (x ∈ metK val n)) (metK val n).length → R (.ok (.ret .none)) s') →
      codeAny (model prog w) A (.builtin "set.update.loop" ⟨[.ref S, .ref I], []⟩) R s := by
  have nw : S ∉ wr := fun z => hSf (W.sub _ z)
  have sub : ∀ b ∈ wr, b ∈ S :: wr := fun b z => List.mem_cons_of_mem _ z
  intro k
  induction k with
  | zero =>
    intro i s hk hi st hS fin
    obtain rfl : i = n := by omega
    refine codeAny_builtin PyProof.Rows.F.entry_set_update_loop ?_
    rw [Around.under_plainId PyProof.Rows.F.plain_set_update_loop _]
    show wpAny _ A.in1 (pyNext (.ref I) >>= _) _ _ s
    refine wpAny_bind (W.done s _ _ st fun s' mv => ?_)
    show wpAny _ A.in1 (ret Value.none) _ _ s'
    obtain ⟨o, es, ep, t, ho, more⟩ := hS
    exact wpAny_pure (fin s' (mv.mono sub) ⟨o, es, ep, t, mv.heap S _ nw ho, more⟩)
  | succ k ih =>
    intro i s hk hi st hS fin
    have lt : i < n := by omega
    refine codeAny_builtin PyProof.Rows.F.entry_set_update_loop ?_
    rw [Around.under_plainId PyProof.Rows.F.plain_set_update_loop _]
    show wpAny _ A.in1 (pyNext (.ref I) >>= _) _ _ s
    refine wpAny_bind (W.item i s _ _ lt st fun v s' pv st' mv => ?_)
    obtain ⟨kv, sv⟩ := hval i v pv
    have hS1 : s'.heap.SetOf knd S (fun x => decide (x ∈ metK val i)) (metK val i).length := by
      obtain ⟨o, es, ep, tb, ho, more⟩ := hS
      exact ⟨o, es, ep, tb, mv.heap S _ nw ho, more⟩
    show wpAny _ A.in1 (holding [v] (setAdd S v) >>= _) _ _ s'
    refine wpAny_bind (wpAny_holding ?_)
    unfold setAdd
    refine wpAny_holding (wpAny_bind (knd.pyHash (k := val i) kv ?_))
    have room : (metK val i).length + 1 < scanBound := by have := metK_le val i; omega
    refine wpAny_setAddHashed_of (knd := knd) (s := { s' with toks := s'.toks + 1 }) kv sv hS1 room fun h' sb hS2 => ?_
    have hS3 : h'.SetOf knd S (fun x => decide (x ∈ metK val (i + 1))) (metK val (i + 1)).length := by
      refine setOf_as hS2 (fun x => ?_) ?_
      · show (decide (x ∈ metK val i) || decide (x = val i)) = decide (x ∈ put1 (metK val i) (val i))
        unfold put1
        split
        · rename_i hm
          by_cases e : x = val i
          · subst e; simp [hm]
          · simp [e]
        · simp
      · show (if decide (val i ∈ metK val i) = true then _ else _) = (put1 (metK val i) (val i)).length
        unfold put1
        by_cases hm : val i ∈ metK val i
        · rw [if_pos hm, if_pos (decide_eq_true hm)]
        · rw [if_neg hm, if_neg (by simp [hm]), List.length_append]; rfl
    refine wpAny_pure ⟨plainId_quiet PyProof.Rows.F.plain_set_update_loop _, ih (i + 1) _ (by omega) lt (W.frame _ s' _ _ st' (Nat.le_succ _) fun b hb o e => ?_) hS3 fun s2 mv2 hS4 => ?_⟩
    · rw [sb.2 b (fun z : b = S => hSf (z ▸ hb))]; exact e
    · refine fin s2 (Moved.trans W.gtrans ((mv.mono sub).then_heap (Nat.le_succ _) fun b o hb e => ?_) mv2) hS4
      rw [sb.2 b (fun z : b = S => hb (z ▸ List.mem_cons_self))]; exact e
end
section
variable {prog : Program} {w : World} {A : Around} {E : Value → Shared → Prop} {s : Shared} {κ : Type} [DecidableEq κ] {knd : PySem.KeyKind prog w κ}
set_option maxHeartbeats 3200000 in
theorem set_from {l : Addr} {items : Array Value} {val : Nat → κ} {Q : Value → Shared → Prop} (hh : A.handled = none) (hl : s.heap.IsList l items) (hval : ∀ i v, items[i]? = some v → knd.is (val i) v = true ∧ v.scannable = true) (hb : items.size + 1 < scanBound)
    (h : ∀ (h' : Heap) (tk : Nat), h'.SetOf knd s.heap.objs.size (fun x => decide (x ∈ metK val items.size)) (metK val items.size).length → (∀ b o, b < s.heap.objs.size → s.heap.get? b = some o → h'.get? b = some o) →
      Q (.ref s.heap.objs.size) { s with heap := h', toks := tk }) : wpAny (model prog w) A (call (.type "set") [.ref l]) Q E s := by
  obtain ⟨c, tl, hmro⟩ := PySem.F.called_set.mro
  have hmade := PySem.F.called_set.made
  have hsub := PySem.F.called_set.sub
  refine wpAny_call (codeAny_of_tree ?_)
  show wpAny _ _ (callAny (.type "set") _) _ _ _
  refine wpAny_pure ⟨Code.quiet_builtin _ (by decide +kernel), codeAny_builtin PySem.F.entry_type_call ?_⟩
  rw [Around.under_plain (weight_type_call_type "set" [.ref l] []) rfl]
  have g1 := PySem.F.called_set.notType
  have g2 := PySem.F.called_set.canCreate
  have g3 := PySem.F.typeCall_set_1 (.ref l)
  repeat (any_goals (first | assumption | wp_step))
  refine codeAny_mono (code_set_new_1 (.ref l) (E := E) (Q₁ := fun obj s₁ => ∃ led : Bool, obj = .ref s.heap.objs.size ∧ s₁ = { s with heap := s.heap.push (setO led) }) fun led => ⟨led, rfl, rfl⟩) fun r s₁ hr => ?_
  cases r with
  | error e => exact hr
  | ok fl =>
    cases fl with
    | ret obj =>
      obtain ⟨led, rfl, rfl⟩ := hr
      have at0 : (s.heap.push (setO led)).get? s.heap.objs.size = some (setO led) := Heap.get?_push_size _ rfl
      have hT : Shared.TypeIs { s with heap := s.heap.push (setO led) } (.ref s.heap.objs.size) "set" := ⟨_, at0, rfl⟩
      have g4 := PySem.F.called_set.init.lookup
      have g5 := PySem.F.called_set.init.bind (.ref s.heap.objs.size)
      repeat (any_goals (first | assumption | wp_step))
      refine codeAny_mono (codeAny_call_builtin (R := wants (fun r s₂ => r = .none ∧ ∃ h' tk, s₂ = { s with heap := h', toks := tk } ∧ h'.SetOf knd s.heap.objs.size (fun x => decide (x ∈ metK val items.size)) (metK val items.size).length ∧
          (∀ b o, b < s.heap.objs.size → s.heap.get? b = some o → h'.get? b = some o)) E) PySem.F.called_set.init.plain PySem.F.entry_set_init (check_set_init_1 hT ?_)) fun r₂ s₂ hr₂ => ?_
      · obtain ⟨⟨ocls, odict, odata, oslots⟩, hol, hcl, nl, hdl⟩ := hl
        simp only at hcl hdl
        subst hcl; subst hdl
        have hol' : (s.heap.push (setO led)).get? l = some { cls := .type "list", dict := odict, data := .seq items nl, slots := oslots } := Heap.get?_push_of_some _ hol
        have k1 := PySem.F.sub_list_set
        have k2 := PySem.F.sub_list_frozenset
        have k3 : (Value.type "list" == Value.type "dict") = false := by decide
        have hl1 : (s.heap.push (setO led)).IsList l items := ⟨_, hol', rfl, nl, rfl⟩
        unfold Builtin.«set.__init__» noKeywords Builtin.Frozenset.updateFrom
        generalize hPI : pyIter = PI
        wp_walk
        subst hPI
        refine wpAny_pyIter_list hl1 (wpAny_bind (wpAny_runValue ?_))
        have ll : l < s.heap.objs.size := Heap.lt_size hol
        have h3 : A.in1.in1.in1.handled = none := by simp [hh]
        have nI : l ≠ (s.heap.push (setO led)).objs.size := by
          rw [Heap.size_push]
          exact Nat.ne_of_lt (Nat.lt_succ_of_lt ll)
        have nS : s.heap.objs.size ∉ [(s.heap.push (setO led)).objs.size, l] := by
          rw [Heap.size_push, List.mem_cons, List.mem_singleton, not_or]
          exact ⟨Nat.ne_of_lt (Nat.lt_succ_self _), Nat.ne_of_gt ll⟩
        refine set_loop (knd := knd) ((Walks.list h3 _ l nI items).toS) s.heap.objs.size nS val hval hb (items.size - 0) 0 _ (by omega) (Nat.zero_le _) ⟨⟨_, Heap.get?_push_size _ rfl, rfl, rfl⟩, (hl1.push _)⟩ ?hS0 ?hR
        case hS0 =>
          have at1 : ((s.heap.push (setO led)).push { cls := .type "list_iterator", data := .fields #[.ref l, .int 0 0] }).get? s.heap.objs.size = some (setO led) := Heap.get?_push_of_some _ at0
          exact setOf_as ((PyProof.Rows.setObjOf_fresh (knd := knd) led).setOf at1 (by unfold scanBound; omega)) (fun _ => by simp [metK]) rfl
        case hR =>
          intro s' mv hS'
          obtain ⟨h', g', d', tk', os'⟩ := s'
          obtain rfl : g' = s.gens := mv.gens
          obtain rfl : d' = s.drawn := mv.drawn
          obtain rfl : os' = s.os := mv.os
          show wpAny _ _ _ _ _ _
          refine wpAny_pure ?_
          show wpAny _ _ (ret Value.none) _ _ _
          refine wpAny_pure ⟨rfl, h', tk', rfl, hS', fun b o hb e => mv.heap b o ?_ (Heap.get?_push_of_some _ (Heap.get?_push_of_some _ e))⟩
          rw [List.mem_cons, List.mem_singleton, Heap.size_push, not_or]
          exact ⟨Nat.ne_of_lt hb, Nat.ne_of_lt (Nat.lt_succ_of_lt hb)⟩
      · cases r₂ with
        | error e => exact hr₂
        | ok fl₂ =>
          cases fl₂ with
          | ret r =>
            obtain ⟨rfl, h', tk, rfl, hS', hk'⟩ := hr₂
            repeat (any_goals (first | assumption | wp_step))
            exact h _ _ hS' hk'
          | _ => exact hr₂.elim
    | _ => exact hr.elim
end
end L2

namespace L2
open PySem PySem.Spec PyProof.Rows
/-! ### sets of texts: made of a list, and counted -/
def setHO (P : Program) (w : World) (p : Addr) (n : Nat) : HO := .ext fun h => ∃ S, h.SetOf (strKind P w) p S n
def metS (ys : List Str) : Nat := (metK (fun i => ys.getD i Str.empty) ys.length).length
theorem metS_all {ys : List Str} (h : ys.Nodup) : metS ys = ys.length := by
  refine metK_all _ _ fun i j hi hj e => ?_
  simp only [List.getD_eq_getElem?_getD, List.getElem?_eq_getElem hi, List.getElem?_eq_getElem hj, Option.getD_some] at e
  exact (List.getElem_inj h).mp e
section
variable {X : Cx}
theorem call_set_strs (hc : X.calm = true) : CallR X (.type "set") (fun xs H Q => ∃ (a : Addr) (ys : List Str), xs = [.ref a] ∧ SqL X.K H a (ys.map V.str) ∧ ys.length ≤ 70 ∧ ∀ p, H p = none → Q (.ref p) (upd H p (setHO X.prog X.w p (metS ys)))) := by
  intro pins s σ H xs us Q I r h
  obtain ⟨a, ys, e, hq, hl, q⟩ := h
  subst e
  obtain ⟨u, rfl, r1⟩ := vals1 r
  obtain rfl : u = Value.ref a := r1
  obtain ⟨its, rv, p, hz⟩ := I.list hq
  have len := rv.length
  rw [List.length_map] at len
  refine set_from (knd := strKind X.prog X.w) (val := fun i => ys.getD i Str.empty) (I.ok.hd hc) p.isList (fun i v hv => ?_) (by rw [List.size_toArray, ← len]; unfold scanBound; omega) fun h' tk hS hk => ?_
  · have hv' : its[i]? = some v := by simpa using hv
    have hi : i < ys.length := by rw [len]; exact (List.getElem?_eq_some_iff.mp hv').1
    have hx : (ys.map V.str)[i]? = some (V.str (ys.getD i Str.empty)) := by
      rw [List.getElem?_map, List.getElem?_eq_getElem hi]
      simp [List.getD_eq_getElem?_getD, List.getElem?_eq_getElem hi]
    obtain ⟨u, hu, ru⟩ := rv.get hx
    rw [hv'] at hu
    cases hu
    obtain ⟨t, rfl⟩ := ru
    exact ⟨keyIs_str _ t, rfl⟩
  · have es : its.toArray.size = ys.length := by rw [List.size_toArray, len]
    rw [es] at hS
    have I1 : Inv X pins σ H { s with heap := h', toks := tk } := I.kept fun b o e => hk b o (Heap.lt_size e) e
    have I2 := I1.track (o := setHO X.prog X.w s.heap.objs.size (metS ys)) (I.fpOk (Nat.le_refl _) (I.hok.fresh (Nat.le_refl _))) ⟨⟨_, hS⟩, (by obtain ⟨o, _, _, _, ho, _⟩ := hS; exact ⟨o, ho⟩), fun h1 h2 ⟨S, hS1⟩ k => (by
      obtain ⟨o, es, ep, t, ho, more⟩ := hS1
      exact ⟨S, o, es, ep, t, k o ho, more⟩)⟩
    exact ⟨.ref s.heap.objs.size, _, I2, rfl, q _ (I.hok.fresh (Nat.le_refl _))⟩
theorem call_len_setS : CallR X (.builtin "len") (fun xs H Q => ∃ (p : Addr) (n : Nat), xs = [.ref p] ∧ H p = some (setHO X.prog X.w p n) ∧ Q (.int n) H) := by
  intro pins s σ H xs us Q I r h
  obtain ⟨p, n, e, hp, q⟩ := h
  subst e
  obtain ⟨u, rfl, r1⟩ := vals1 r
  obtain rfl : u = Value.ref p := r1
  obtain ⟨⟨S, o, es, ep, t, ho, hex, hd, _, _, hb, hf, hn⟩, _⟩ := I.hok p _ hp
  have hb' : (es.size : Int) < 2 ^ 63 := by unfold scanBound at hb; omega
  refine call_len_set ho hex hd hf hb' ?_
  rw [hn]
  exact ⟨.int n, H, I.tok _, ⟨_, rfl⟩, q⟩

/-! ### the signs of a text -/
def Itx (x : Str) : It := ⟨fun i _ => i < x.cps.size, fun i H v H' => H' = H ∧ ∃ c, x.cps[i]? = some c ∧ v = .str ⟨#[c]⟩, fun i _ => x.cps.size ≤ i⟩
theorem turn_str {P : Program} {w : World} {K : PySem.W.Frag} {tg : Expr} (it : Addr) (x : Str) (t : Tok) : Turn P w K tg (Itx x) [it] it (fun i h => i ≤ x.cps.size ∧ h.IsStrIter it "str_ascii_iterator" x t i) where
  mem := by simp
  obj := fun i h st b hb => by
    have e : b = it := by simpa using hb
    subst e
    obtain ⟨_, o, e, c, d⟩ := st
    exact ⟨o, e, fun v z => by rw [d] at z; cases z⟩
  keep := fun i h h' st k => let ⟨l, o, e, r⟩ := st; ⟨l, o, k it (by simp) o e, r⟩
  item := by
    intro X hP hw hK hc i pins s σ H E I hf st hg
    subst hP hw hK
    obtain ⟨f0, f1, f2, f3, f4, f5⟩ := hf it (by simp)
    have hi : i < x.cps.size := hg
    refine (Walks.strAscii (prog := X.prog) (w := X.w) (I.ok.hd hc) it x t).item i s _ _ hi st.2 fun v h' tk hv st' kk => ?_
    obtain ⟨c, u, hcx, rfl⟩ := hv
    have I1 : Inv X pins σ H { s with heap := h', toks := tk } := I.turned (fun b o hb e => kk b o (by simpa using hb) e) f0 f1 f3 f4 f5
    obtain ⟨o, e, c', d⟩ := id st'
    exact ⟨_, rfl, go_of (s := { s with heap := h', toks := tk }) e c' d (by decide) ⟨.str ⟨#[c]⟩, H, I1, ⟨_, rfl⟩, ⟨rfl, c, hcx, rfl⟩, ⟨hi, st'⟩, fun b hb => (hf b hb).1⟩⟩
  done := by
    intro X hP hw hK hc i pins s σ H E I hf st hg
    subst hP hw hK
    obtain ⟨f0, f1, f2, f3, f4, f5⟩ := hf it (by simp)
    have hi : x.cps.size ≤ i := hg
    obtain ⟨hle, st⟩ := st
    have e : i = x.cps.size := by omega
    subst e
    exact (Walks.strAscii (prog := X.prog) (w := X.w) (I.ok.hd hc) it x t).done s _ _ st fun h' tk kk => ⟨rfl, I.turned (fun b o hb e => kk b o (by simpa using hb) e) f0 f1 f3 f4 f5⟩
  self := fun _ _ _ _ _ st h => wpAny_pyIter_striter_ascii st.2 h
def iStr (tl : TE) : TI := fun σ H R => tl σ H fun v H1 => ∃ x : Str, v = .str x ∧ x.cps.all (· < 128) = true ∧ R (Itx x) H1
theorem pi_str {tg l : Expr} {tl : TE} (hl : PE X l tl) : PI X tg l (iStr tl) := by
  intro pins s σ H R I h
  refine thn (hl pins s σ H _ I h) fun v s1 ⟨y, H1, I1, r1, q1⟩ => ?_
  obtain ⟨x, e, ha, q⟩ := q1
  subst e
  obtain ⟨t, rfl⟩ := r1
  refine wpAny_pyIter_ascii ha ?_
  refine ⟨s1.heap.objs.size, [s1.heap.objs.size], _, _, H1, rfl, I1.kept (t' := s1.toks) fun b o e => Heap.get?_push_of_some _ e, turn_str _ x t, ⟨Nat.zero_le _, _, Heap.get?_push_size _ rfl, rfl, rfl⟩, fun b hb => ?_, q⟩
  have e : b = s1.heap.objs.size := by simpa using hb
  subst e
  exact I1.fpOk (Nat.le_refl _) (I1.hok.fresh (Nat.le_refl _))
theorem comp_strP {g : Blk → TG} {tt : Blk → TT} {te : Blk → TE} {Z : List V → Hp → Prop} {σ0 : St} {H1 : Hp} {x : Str} (Pv : Nat → List V → St → Hp → Prop) (h0 : Pv 0 [] σ0 H1) (hl : ∀ i ys σ H, i ≤ x.cps.size → Pv i ys σ H → ys.length < sizeLine)
    (hs : ∀ B i c ys σ H, x.cps[i]? = some c → Pv i ys σ H → g B (.str ⟨#[c]⟩) σ H fun σ2 H3 => tt B σ2 H3 fun b H4 => if b = true then te B σ2 H4 fun y H5 => Pv (i + 1) (ys ++ [y]) σ2 H5 else Pv (i + 1) ys σ2 H4)
    (hd : ∀ ys σ H, Pv x.cps.size ys σ H → Z ys H) : ∃ W : Nat → Nat → List V → St → Hp → Prop, (∃ m, W 0 m [] σ0 H1) ∧ ∀ B, CompW (Itx x) (g B) (tt B) (te B) W Z := by
  refine ⟨fun i m ys σ H => m = x.cps.size - i ∧ i ≤ x.cps.size ∧ Pv i ys σ H, ⟨x.cps.size, by simp, Nat.zero_le _, h0⟩, ?_⟩
  rintro B i m ys σ H ⟨rfl, hi, p⟩
  by_cases hlt : i < x.cps.size
  · refine .inr ⟨hlt, hl i ys σ H hi p, Pv (i + 1), fun zs σ' H' p' => ⟨x.cps.size - (i + 1), by omega, rfl, hlt, p'⟩, fun v H' y => ?_⟩
    obtain ⟨e, c, hc, e2⟩ := y
    subst e e2
    exact hs B i c ys σ _ hc p
  · have e : i = x.cps.size := by omega
    subst e
    exact .inl ⟨Nat.le_refl _, hd ys σ H p⟩
theorem op_le_str : OpR X (compareOp .LtE) (fun x y H Q => ∃ i j, x = .str i ∧ y = .str j ∧ Q (.bl (!decide (j.cps.toList < i.cps.toList))) H) := by
  intro pins s σ H x y v u Q I rx ry h
  obtain ⟨i, j, rfl, rfl, q⟩ := h
  obtain ⟨t, rfl⟩ := rx
  obtain ⟨t', rfl⟩ := ry
  exact PySem.P.le_str ⟨.bl _, H, I, rfl, q⟩
end
/-! ### names -/
def okSign (c : Nat) : Bool := decide (97 ≤ c) && decide (c ≤ 122)
def okName (x : Str) : Bool := decide (1 ≤ x.length) && decide (x.length ≤ 8) && x.cps.toList.all okSign
theorem le_one {c d : Nat} : (!decide (([d] : List Nat) < [c])) = decide (c ≤ d) := by
  have e : ([d] < [c]) ↔ d < c := by
    constructor
    · intro h
      cases h with
      | cons h => cases h
      | rel h => exact h
    · exact fun h => .rel h
  rw [Bool.eq_iff_iff, Bool.not_eq_true', decide_eq_false_iff_not, decide_eq_true_eq, e]
  omega
theorem okName_ascii {x : Str} (h : okName x = true) : x.cps.all (· < 128) = true := by
  unfold okName at h
  rw [Bool.and_eq_true] at h
  rw [← Array.all_toList, List.all_eq_true]
  intro c hc
  have := List.all_eq_true.mp h.2 c hc
  unfold okSign at this
  rw [Bool.and_eq_true, decide_eq_true_eq, decide_eq_true_eq] at this
  exact decide_eq_true (by omega)
end L2
namespace L2
open PySem PySem.Spec PyProof.Rows
/-! ### a net, as it stands -/
structure NetV where
  bowls : List Str
  doors : List Str
  takes : List (List Int)
  gives : List (List Int)
  first : List Int
def okBag (n : Nat) (r : List Int) : Prop := r.length = n ∧ ∀ x ∈ r, 0 ≤ x ∧ x ≤ 1000000000
structure NetV.Ok (N : NetV) : Prop where
  b1 : 1 ≤ N.bowls.length
  b6 : N.bowls.length ≤ 6
  d8 : N.doors.length ≤ 8
  bn : ∀ y ∈ N.bowls, okName y = true
  dn : ∀ y ∈ N.doors, okName y = true
  bd : N.bowls.Nodup
  dd : N.doors.Nodup
  tl : N.takes.length = N.doors.length
  gl : N.gives.length = N.doors.length
  tk : ∀ r ∈ N.takes, okBag N.bowls.length r
  gv : ∀ r ∈ N.gives, okBag N.bowls.length r
  fs : okBag N.bowls.length N.first
abbrev nf1 (b : V) : List (Str × V) := [("bowls", b)]
abbrev nf2 (b d : V) : List (Str × V) := [("bowls", b), ("doors", d)]
abbrev nf3 (b d t : V) : List (Str × V) := [("bowls", b), ("doors", d), ("takes", t)]
abbrev nf4 (b d t g : V) : List (Str × V) := [("bowls", b), ("doors", d), ("takes", t), ("gives", g)]
abbrev nf5 (b d t g f : V) : List (Str × V) := [("bowls", b), ("doors", d), ("takes", t), ("gives", g), ("first", f)]
abbrev netF (b d t g f : Addr) : List (Str × V) := nf5 (.ref b) (.ref d) (.ref t) (.ref g) (.ref f)
abbrev vstrs (ys : List Str) : List V := ys.map V.str
structure NetIn (C : Addr) (H : Hp) (x dx b d t g f : Addr) (ts gs : List Addr) (N : NetV) : Prop where
  ob : H x = some (.ins C dx (netF b d t g f))
  hb : H b = some (.lst (vstrs N.bowls))
  hd : H d = some (.lst (vstrs N.doors))
  ht : H t = some (.lst (ts.map V.ref))
  tr : Rows H ts N.takes
  hg : H g = some (.lst (gs.map V.ref))
  gr : Rows H gs N.gives
  hf : H f = some (.lst (vints N.first))
theorem NetIn.same {C : Addr} {H H' : Hp} {x dx b d t g f : Addr} {ts gs : List Addr} {N : NetV} (n : NetIn C H x dx b d t g f ts gs N) (S : Same H H') : NetIn C H' x dx b d t g f ts gs N :=
  ⟨S _ _ n.ob, S _ _ n.hb, S _ _ n.hd, S _ _ n.ht, n.tr.same S, S _ _ n.hg, n.gr.same S, S _ _ n.hf⟩
/-- copies of the rows of a list of lists: [list(bag) for bag in rows] -/
theorem comp_copies {K : PySem.W.Frag} {K' : Blk → PySem.W.Frag} {Z : List V → Hp → Prop} {H1 : Hp} {a : Addr} {as : List Addr} {rs : List (List Int)} {τ : St} (hK : ∀ B, K' B = K) (ha : SqL K H1 a (as.map V.ref)) (R : Rows H1 as rs) (hn : rs.length ≤ 64)
    (hd : ∀ H2 bs, Same H1 H2 → Rows H2 bs rs → (∀ b ∈ bs, H1 b = none) → Z (bs.map V.ref) H2) :
    ∃ W : Nat → Nat → List V → St → Hp → Prop, (∃ m, W 0 m [] (none :: τ) H1) ∧ ∀ B : Blk, CompW (Itl K a) (gName 0) tTrue (tCB (fun xs H Q => ∃ p ys, xs = [.ref p] ∧ (SqL (K' B) H p ys ∨ SqT (K' B) H p ys) ∧ ∀ l, H l = none → Q (.ref l) (upd H l (.lst ys))) (tCons (tVar 0) tNil)) W Z := by
  have hal := R.length
  refine comp_listP (g := fun _ => gName 0) (tt := fun _ => tTrue) (K := K) (a := a) (xs := as.map V.ref) (fun i zs σ H4 => ∃ (o : Option V) (bs : List Addr), σ = o :: τ ∧ Same H1 H4 ∧ zs = bs.map V.ref ∧ Rows H4 bs (rs.take i) ∧ bs.length = i ∧ ∀ b ∈ bs, H1 b = none) ⟨none, [], rfl, Same.refl _, rfl, .nil, rfl, (fun b hb => by cases hb)⟩ ?_ ?_ ?_
  · rintro i zs σ H4 hi ⟨o, bs, rfl, S, rfl, RB, e, _⟩
    rw [List.length_map] at hi
    refine ⟨S.seq ha, ?_⟩
    rw [List.length_map]
    exact small70 (by omega)
  · rintro B i x zs σ H4 hx ⟨o, bs, rfl, S, rfl, RB, e, fr⟩
    obtain ⟨b, hb1, rfl⟩ := refs_get hx
    obtain ⟨r, hr1, hb⟩ := Paired.getL R hb1
    dsimp only [gName, tTrue]
    rw [if_pos rfl]
    refine ⟨_, rfl, b, _, rfl, .inl (by rw [hK]; exact SqL.of (S _ _ hb)), fun q nq => ⟨_, bs ++ [q], rfl, S.upd nq, (vrefs_snoc _ _).symm, ?_, (by rw [List.length_append, e]; rfl), fun c hc => ?_⟩⟩
    · rw [List.take_add_one, hr1, Option.toList_some]
      exact (RB.same ((Same.refl H4).upd nq)).snoc upd_same
    · rcases List.mem_append.mp hc with z | z
      · exact fr c z
      · rw [List.mem_singleton.mp z]; exact S.free nq
  · rintro zs σ H4 ⟨o, bs, rfl, S, rfl, RB, e, fr⟩
    rw [List.length_map, hal, List.take_length] at RB
    exact hd H4 bs S RB fr
theorem all_map_sign (x : Str) : (x.cps.toList.map okSign).all id = x.cps.toList.all okSign := by
  rw [List.all_map]
  rfl
end L2
namespace L2
open PySem PySem.Spec PyProof.Rows
section
variable {b d t g f : V}
theorem put_n2 : putF "doors" d (nf1 b) = nf2 b d := by
  show (if (("bowls" : Str) = "doors") then _ else (("bowls" : Str), b) :: putF "doors" d []) = _
  rw [if_neg (by decide +kernel)]
  rfl
theorem put_n3 : putF "takes" t (nf2 b d) = nf3 b d t := by
  show (if (("bowls" : Str) = "takes") then _ else (("bowls" : Str), b) :: (if (("doors" : Str) = "takes") then _ else (("doors" : Str), d) :: putF "takes" t [])) = _
  rw [if_neg (by decide +kernel), if_neg (by decide +kernel)]
  rfl
theorem put_n4 : putF "gives" g (nf3 b d t) = nf4 b d t g := by
  show (if (("bowls" : Str) = "gives") then _ else (("bowls" : Str), b) :: (if (("doors" : Str) = "gives") then _ else (("doors" : Str), d) :: (if (("takes" : Str) = "gives") then _ else (("takes" : Str), t) :: putF "gives" g []))) = _
  rw [if_neg (by decide +kernel), if_neg (by decide +kernel), if_neg (by decide +kernel)]
  rfl
theorem put_n5 : putF "first" f (nf4 b d t g) = nf5 b d t g f := by
  show (if (("bowls" : Str) = "first") then _ else (("bowls" : Str), b) :: (if (("doors" : Str) = "first") then _ else (("doors" : Str), d) :: (if (("takes" : Str) = "first") then _ else (("takes" : Str), t) :: (if (("gives" : Str) = "first") then _ else (("gives" : Str), g) :: putF "first" f [])))) = _
  rw [if_neg (by decide +kernel), if_neg (by decide +kernel), if_neg (by decide +kernel), if_neg (by decide +kernel)]
  rfl
end
/-- all that was tracked is as it was, but for the object at x -/
def But (x : Addr) (H H' : Hp) : Prop := ∀ c u, H c = some u → c ≠ x → H' c = some u
theorem But.trans {x : Addr} {H H1 H2 : Hp} (a : But x H H1) (b : But x H1 H2) : But x H H2 := fun c u e n => b c u (a c u e n) n
theorem Same.but {x : Addr} {H H' : Hp} (S : Same H H') : But x H H' := fun c u e _ => S c u e
theorem But.step {x q : Addr} {H : Hp} {o o' : HO} (hq : H q = none) : But x H (upd (upd H q o) x o') := fun c u e n => by
  rw [upd_ne n, upd_ne (ne_of_none e hq)]
  exact e
theorem But.seq {K : PySem.W.Frag} {x : Addr} {C dx : Addr} {fs : List (Str × V)} {H H' : Hp} {c : Addr} {zs : List V} (k : But x H H') (hx : H x = some (.ins C dx fs)) (h : SqL K H c zs) : SqL K H' c zs := by
  rcases h with (h | ⟨o, h⟩) | h
  · exact .inl (.inl (k _ _ h (ne_of h hx (by intro z; cases z))))
  · exact .inl (.inr ⟨o, k _ _ h (ne_of h hx (by intro z; cases z))⟩)
  · exact .inr h
theorem But.rows {x : Addr} {C dx : Addr} {fs : List (Str × V)} {H H' : Hp} {as : List Addr} {rs : List (List Int)} (k : But x H H') (hx : H x = some (.ins C dx fs)) (R : Rows H as rs) : Rows H' as rs :=
  Paired.mapP R fun a r e => k _ _ e (ne_of e hx (by intro z; cases z))
theorem But.free {x : Addr} {C dx : Addr} {fs : List (Str × V)} {H H' : Hp} {q : Addr} {o : HO} (k : But x H H') (hx : H' x = some o) (hq : H' q = none) : H q = none := by
  cases e : H q with
  | none => rfl
  | some u =>
    have n : q ≠ x := Ne.symm (ne_of_none hx hq)
    rw [k q u e n] at hq
    cases hq
end L2

namespace L2
open PySem PySem.Spec PyProof.Rows PySem.Builtin.Str

/-! ### a text's slice, join, find -/
def cutS (x : Str) (lo hi : Option Int) : Str := ⟨((x.cps.toList.drop (HT.sIx x.length 0 lo)).take (HT.sIx x.length x.length hi - HT.sIx x.length 0 lo)).toArray⟩
theorem clip_str (i : Int) (n d : Nat) : max (0 : Int) (min (if i < 0 then i + (n : Int) else i) (n : Int)) = ((HT.sIx n d (some i) : Nat) : Int) := by
  show _ = (((if i < 0 then (i + (n : Int)).toNat else min i.toNat n) : Nat) : Int)
  by_cases h : i < 0
  · rw [if_pos h, if_pos h]; omega
  · rw [if_neg h, if_neg h]; omega
theorem idx_key (a b : Nat) : sliceRange (a : Int) (b : Int) 1 = (List.range (b - a)).map (fun k => a + k) := by
  unfold sliceRange
  have h1 : (1 : Int) > 0 := by decide
  simp only [h1, if_true]
  have e : (if (a : Int) < (b : Int) then ((b : Int) - a + 1 - 1) / 1 else 0).toNat = b - a := by
    split
    · rw [Int.ediv_one]; omega
    · omega
  rw [e]
  refine List.map_congr_left fun k _ => ?_
  omega
theorem idx_gen (lo hi : Option Int) (n : Nat) : strSliceIndices lo hi 1 n = (List.range (HT.sIx n n hi - HT.sIx n 0 lo)).map (fun k => HT.sIx n 0 lo + k) := by
  rw [← idx_key]
  unfold strSliceIndices
  have h1 : (1 : Int) > 0 := by decide
  cases lo with
  | none => cases hi with
    | none => rfl
    | some j =>
      simp only [h1, if_true]
      rw [clip_str j n n]
      rfl
  | some i => cases hi with
    | none =>
      simp only [h1, if_true]
      rw [clip_str i n 0]
      rfl
    | some j =>
      simp only [h1, if_true]
      rw [clip_str i n 0, clip_str j n n]
theorem slice_cut (x : Str) (lo hi : Option Int) : Txt.slice x lo hi = cutS x lo hi := by
  have hl : HT.sIx x.length 0 lo ≤ x.length := HT.sIx_le _ 0 (Nat.zero_le _) lo
  have hh : HT.sIx x.length x.length hi ≤ x.length := HT.sIx_le _ _ (Nat.le_refl _) hi
  have hc : x.cps.toList.length = x.length := Array.length_toList
  unfold Txt.slice
  rw [idx_gen]
  by_cases h : ((1 : Int) == 1 && ((List.range (HT.sIx x.length x.length hi - HT.sIx x.length 0 lo)).map (fun k => HT.sIx x.length 0 lo + k)).length == x.length) = true
  · rw [if_pos h]
    rw [List.length_map, List.length_range] at h
    have h2 : HT.sIx x.length x.length hi - HT.sIx x.length 0 lo = x.length := by
      have := (Bool.and_eq_true _ _ ▸ h).2
      exact beq_iff_eq.mp this
    unfold cutS
    rw [h2, show HT.sIx x.length 0 lo = 0 by omega, List.drop_zero, List.take_of_length_le (by omega)]
  · rw [if_neg h]
    unfold cutS
    have p := StrLaws.picks x.cps.toList (HT.sIx x.length x.length hi - HT.sIx x.length 0 lo) (HT.sIx x.length 0 lo) (by omega)
    rw [← p]
    congr 2
    simp
section
variable {X : Cx}
def rSlS : V → Option Int → Option Int → Hp → VK → Prop := fun x lo hi H Q => ∃ z : Str, x = .str z ∧ z.length ≤ sizeLine ∧ Q (.str (cutS z lo hi)) H
theorem part_of {v : Value} {o : Option Int} (p : IsPart v o) : ∃ l : Option (Int × Tok), v = partValue l ∧ o = l.map (·.1) := by
  cases p with
  | none => exact ⟨none, rfl, rfl⟩
  | int => exact ⟨some (_, _), rfl, rfl⟩
theorem sl_str : SlR X rSlS := by
  intro pins s σ H x v vl vu lo hi sl Q I rx hs pl pu h
  obtain ⟨z, rfl, hz, q⟩ := h
  obtain ⟨t, rfl⟩ := rx
  obtain ⟨l, rfl, rfl⟩ := part_of pl
  obtain ⟨u, rfl, rfl⟩ := part_of pu
  obtain ⟨o, ho, hc, hd⟩ := hs
  refine ⟨"str", _, F.slot_str_getitem.lookup, typeIs_str _ _ _, wpAny_getItem_str_slice (l := l) (u := u) (st := none) ⟨o, ho, hc, hd⟩ rfl (post_val_or_str ⟨Nat.le_trans (Txt.slice_le z _ _) hz, fun t' k => ?_⟩)⟩
  refine ⟨.str (cutS z (l.map (·.1)) (u.map (·.1))), H, I.tok _, ⟨t', ?_⟩, q⟩
  rw [← slice_cut]
  rfl
theorem strs_val : ∀ {ys : List Str} {its : List Value}, Vals (vstrs ys) its → ∃ l : List (Str × Tok), its = strValues l ∧ l.map (·.1) = ys
  | [], _, .nil => ⟨[], rfl, rfl⟩
  | y :: ys, _, .cons r rs => by
    obtain ⟨t, rfl⟩ := r
    obtain ⟨l, rfl, e⟩ := strs_val (ys := ys) rs
    exact ⟨(y, t) :: l, rfl, by rw [List.map_cons, e]⟩
def rJoin (K : PySem.W.Frag) : V → List V → Hp → VK → Prop := fun x vs H Q => ∃ (sep : Str) (a : Addr) (ys : List Str) (B : Nat), x = .str sep ∧ vs = [.ref a] ∧ SqL K H a (vstrs ys) ∧ (∀ y ∈ ys, y.length ≤ B) ∧ ys.length * B + ys.length * sep.length ≤ 16777216 ∧ Q (.str (Str.join sep ys)) H
theorem join_le {sep : Str} {B : Nat} : ∀ {ys : List Str}, (∀ y ∈ ys, y.length ≤ B) → (Str.join sep ys).length ≤ ys.length * B + ys.length * sep.length
  | [], _ => Nat.zero_le _
  | [y], h => by
    have := h y (List.mem_singleton.mpr rfl)
    show y.length ≤ 1 * B + 1 * sep.length
    omega
  | y :: z :: r, h => by
    have h1 := h y (List.mem_cons_self ..)
    have h2 := join_le (sep := sep) (B := B) (ys := z :: r) fun w hw => h w (List.mem_cons_of_mem _ hw)
    show (y ++ sep ++ Str.join sep (z :: r)).length ≤ _
    rw [Str.length_append, Str.length_append, List.length_cons, Nat.succ_mul, Nat.succ_mul]
    omega
theorem mt_join : MtM X "str.join" (rJoin X.K) := by
  intro pins s σ H x vs v us Q I rx rv h
  obtain ⟨sep, a, ys, B, rfl, rfl, hy, hB, hz, q⟩ := h
  obtain ⟨t, rfl⟩ := rx
  obtain ⟨u, rfl, ru⟩ := rv.one
  cases ru
  obtain ⟨its, r, pl, hlen⟩ := I.list hy
  obtain ⟨l, rfl, rfl⟩ := strs_val r
  have hf := StrLaws.joinFits (sep := sep) hB hz
  refine call_meets F.slot_str_join (typeIs_str _ _ _) F.entry_str_join (F.args_str_join_2 _ _) (meets_str_join_list sep t a l hf) ⟨pl.isList, ?_⟩
  have fin : ∀ (tk : Tok) (n : Nat) (z : Str), z = Str.join sep (l.map (·.1)) → EP X pins σ Q (.str z tk) { s with toks := n } := fun tk n z e => ⟨.str (Str.join sep (l.map (·.1))), H, I.tok _, ⟨tk, by rw [e]⟩, q⟩
  have many : ∀ l' : List (Str × Tok), l' = l → (Made.str (glued sep (l'.map (·.1)))).post (fun v s' => wants (EP X pins σ Q) X.xe (.ok (.ret v)) s') s := fun l' e => by
    subst e
    refine ⟨?_, fin _ _ _ (StrLaws.glued_eq_join _ _)⟩
    rw [StrLaws.glued_eq_join]
    have hl := sizeLine_eq
    exact Nat.le_trans (join_le hB) (by omega)
  match l, fin, many with
  | [], _, many => exact many [] rfl
  | [p], fin, _ => exact fin p.2 s.toks p.1 rfl
  | p :: p' :: r, _, many => exact many (p :: p' :: r) rfl
def findS (z y : Str) : Int := match occurrences z y 0 z.length 1 with | i :: _ => (i : Int) | [] => -1
def rFind : V → List V → Hp → VK → Prop := fun x vs H Q => ∃ z y : Str, x = .str z ∧ vs = [.str y] ∧ Q (.int (findS z y)) H
theorem mt_find : MtM X "str.find" rFind := by
  intro pins s σ H x vs v us Q I rx rv h
  obtain ⟨z, y, rfl, rfl, q⟩ := h
  obtain ⟨t, rfl⟩ := rx
  obtain ⟨u, rfl, ru⟩ := rv.one
  obtain ⟨t', rfl⟩ := ru
  refine call_gives F.slot_str_find (typeIs_str _ _ _) F.entry_str_find (F.args_str_find_2 _ _) (gives_str_find z y t t') ?_
  exact ⟨.int (findS z y), H, I.tok _, ⟨_, rfl⟩, q⟩
end

/-! ### names -/
def st (l : List Nat) : Str := ⟨l.toArray⟩
abbrev alph : Str := Str.ofString "abcdefghijklmnopqrstuvwxyz"
theorem st_of (x : Str) : st x.cps.toList = x := rfl
theorem st_list (l : List Nat) : (st l).cps.toList = l := rfl
theorem st_inj {l m : List Nat} (h : st l = st m) : l = m := by
  have := congrArg (fun x : Str => x.cps.toList) h
  exact this
theorem st_len (l : List Nat) : (st l).length = l.length := by simp [st, Str.length]
theorem okName_st {l : List Nat} (h1 : 1 ≤ l.length) (h2 : l.length ≤ 8) (h3 : ∀ c ∈ l, 97 ≤ c ∧ c ≤ 122) : okName (st l) = true := by
  unfold okName
  rw [st_len, st_list, Bool.and_eq_true, Bool.and_eq_true, decide_eq_true_eq, decide_eq_true_eq, List.all_eq_true]
  refine ⟨⟨h1, h2⟩, fun c hc => ?_⟩
  obtain ⟨a, b⟩ := h3 c hc
  unfold okSign
  simp [a, b]
theorem alph_all : ∀ i : Fin 26, alph.cps.toList[i.val]? = some (97 + i.val) := by decide +kernel
theorem alph_len : alph.length = 26 := by decide +kernel
theorem alph_at {i : Int} (h0 : 0 ≤ i) (h1 : i < 26) : atI alph.cps.toList i = some (97 + i.toNat) := by
  obtain ⟨j, rfl⟩ := Int.eq_ofNat_of_zero_le h0
  exact atI_nat (alph_all ⟨j, by omega⟩)
theorem alph_find : ∀ i : Fin 26, findS alph (st [97 + i.val]) = (i.val : Int) := by decide +kernel
theorem join_ones : ∀ l : List Nat, Str.join (Str.ofString "") (l.map fun c => st [c]) = st l
  | [] => rfl
  | [c] => rfl
  | c :: d :: r => by
    show st [c] ++ Str.ofString "" ++ Str.join (Str.ofString "") ((d :: r).map fun c => st [c]) = _
    rw [join_ones (d :: r)]
    refine Str.ext' (Array.toList_inj.mp ?_)
    simp [Str.cps_append, st]
    rfl
theorem cut_st (l : List Nat) (lo hi : Option Int) : cutS (st l) lo hi = st ((l.drop (HT.sIx l.length 0 lo)).take (HT.sIx l.length l.length hi - HT.sIx l.length 0 lo)) := by
  unfold cutS
  rw [st_len, st_list]
  rfl
theorem cut_to (l : List Nat) {j : Int} (h0 : 0 ≤ j) (h1 : j ≤ l.length) : cutS (st l) none (some j) = st (l.take j.toNat) := by
  obtain ⟨k, rfl⟩ := Int.eq_ofNat_of_zero_le h0
  rw [cut_st, HT.sIx_nat, HT.sIx_none, List.drop_zero, Nat.min_eq_left (by omega)]
  rfl
theorem cut_mid (l : List Nat) {i j : Int} (h0 : 0 ≤ i) (h1 : i ≤ l.length) (h2 : 0 ≤ j) (h3 : j ≤ l.length) : cutS (st l) (some i) (some j) = st ((l.drop i.toNat).take (j.toNat - i.toNat)) := by
  obtain ⟨k, rfl⟩ := Int.eq_ofNat_of_zero_le h0
  obtain ⟨m, rfl⟩ := Int.eq_ofNat_of_zero_le h2
  rw [cut_st, HT.sIx_nat, HT.sIx_nat, Nat.min_eq_left (by omega), Nat.min_eq_left (by omega)]
  rfl
theorem cut_last (l : List Nat) : cutS (st l) none (some (-1)) = st l.dropLast := by
  rw [cut_st, HT.sIx_none, List.drop_zero, List.dropLast_eq_take]
  have e : HT.sIx l.length l.length (some (-1)) = l.length - 1 := by
    show (if (-1 : Int) < 0 then ((-1 : Int) + (l.length : Int)).toNat else min (-1 : Int).toNat l.length) = _
    rw [if_pos (by decide)]
    omega
  rw [e]
  rfl
theorem st_append (a b : List Nat) : st a ++ st b = st (a ++ b) := by
  refine Str.ext' (Array.toList_inj.mp ?_)
  simp [Str.cps_append, st]
theorem inV_strs {x : Str} {ys : List Str} : inV (.str x) (vstrs ys) = decide (x ∈ ys) := by
  unfold inV
  rw [List.any_map, Bool.eq_iff_iff, List.any_eq_true, decide_eq_true_eq]
  constructor
  · rintro ⟨y, hy, e⟩
    have : y = x := by simpa [eqV] using e
    exact this ▸ hy
  · intro h
    exact ⟨x, h, by simp [eqV]⟩
theorem flat_strs (ys : List Str) : (vstrs ys).all flatV = true := by
  rw [List.all_eq_true]
  intro v hv
  obtain ⟨y, _, rfl⟩ := List.mem_map.mp hv
  rfl
/-- more unlike ones than there are in a list are not all in it -/
theorem holes {α : Type} : ∀ {l ys : List α}, l.Nodup → (∀ x ∈ l, x ∈ ys) → l.length ≤ ys.length
  | [], _, _, _ => Nat.zero_le _
  | x :: l, ys, hn, hs => by
    obtain ⟨hx, hn⟩ := List.nodup_cons.mp hn
    obtain ⟨a, b, rfl⟩ := List.append_of_mem (hs x (List.mem_cons_self ..))
    have h2 := holes (l := l) (ys := a ++ b) hn fun z hz => by
      have h3 := hs z (List.mem_cons_of_mem _ hz)
      rcases List.mem_append.mp h3 with q | q
      · exact List.mem_append_left _ q
      · rcases List.mem_cons.mp q with q | q
        · exact absurd (q ▸ hz) hx
        · exact List.mem_append_right _ q
    rw [List.length_cons, List.length_append, List.length_cons]
    rw [List.length_append] at h2
    omega
end L2
namespace L2
open PySem PySem.Spec PyProof.Rows
/-- while, by a word with a count that falls -/
theorem while_rel {c : TT} {tb : TS} {D : Ends} {σ : St} {H : Hp} (W : Nat → St → Hp → Prop) (h0 : ∃ m, W m σ H)
    (hs : ∀ m σ H, W m σ H → c σ H fun b H1 => if b = true then tb { D with nx := fun σ' H' => ∃ m', m' < m ∧ W m' σ' H', ct := fun σ' H' => ∃ m', m' < m ∧ W m' σ' H', bk := D.nx } σ H1 else D.nx σ H1)
    (mono : ∀ σ H Q Q', (∀ b H1, Q b H1 → Q' b H1) → c σ H Q → c σ H Q') : tWhile c tb D σ H := by
  refine ⟨W, h0, ?_⟩
  intro m σ H p
  refine mono σ H _ _ (fun b H1 q => ?_) (hs m σ H p)
  cases b with
  | true => exact ⟨_, fun σ' H' z => z, q⟩
  | false => exact q
theorem nodup_range_map {α : Type} {f : Nat → α} {n : Nat} (h : ∀ i j, i < n → j < n → f i = f j → i = j) : ((List.range n).map f).Nodup := by
  refine List.pairwise_map.mpr (List.Pairwise.imp_of_mem ?_ List.nodup_range)
  intro a b ha hb hne e
  exact hne (h a b (List.mem_range.mp ha) (List.mem_range.mp hb) e)
theorem vstrs_snoc (ys : List Str) (y : Str) : vstrs ys ++ [V.str y] = vstrs (ys ++ [y]) := by
  show ys.map V.str ++ [V.str y] = (ys ++ [y]).map V.str
  rw [List.map_append]
  rfl
def sh (a : List Nat) (c j : Nat) : List Nat := a ++ [97 + (c + j) % 26]
theorem sh_free {a : List Nat} {c : Nat} {ys : List Str} (h : ys.length < 26) : ∃ t, t < 26 ∧ st (sh a c t) ∉ ys := by
  apply Classical.byContradiction
  intro hne
  have hn : ((List.range 26).map fun t => st (sh a c t)).Nodup := nodup_range_map fun i j hi hj e => by
    have e2 := List.append_cancel_left (st_inj e)
    have e3 : 97 + (c + i) % 26 = 97 + (c + j) % 26 := (List.cons.inj e2).1
    omega
  have := holes (ys := ys) hn fun x hx => by
    obtain ⟨t, ht, rfl⟩ := List.mem_map.mp hx
    exact Classical.byContradiction fun q => hne ⟨t, List.mem_range.mp ht, q⟩
  rw [List.length_map, List.length_range] at this
  omega
theorem split_last {l : List Nat} (h1 : 1 ≤ l.length) (h3 : ∀ x ∈ l, 97 ≤ x ∧ x ≤ 122) : ∃ a c, l = sh a c 0 ∧ a.length + 1 = l.length ∧ ∀ x ∈ a, 97 ≤ x ∧ x ≤ 122 := by
  have hne : l ≠ [] := by intro e; rw [e] at h1; cases h1
  have e := List.dropLast_concat_getLast hne
  have hg := h3 _ (List.getLast_mem hne)
  refine ⟨l.dropLast, l.getLast hne - 97, ?_, ?_, fun x hx => h3 x (List.dropLast_subset l hx)⟩
  · have e2 : 97 + (l.getLast hne - 97 + 0) % 26 = l.getLast hne := by omega
    unfold sh
    rw [e2, e]
  · rw [List.length_dropLast]; omega
theorem sh_ok {a : List Nat} {c j : Nat} (h : ∀ x ∈ a, 97 ≤ x ∧ x ≤ 122) : ∀ x ∈ sh a c j, 97 ≤ x ∧ x ≤ 122 := by
  intro x hx
  rcases List.mem_append.mp hx with q | q
  · exact h x q
  · rw [List.mem_singleton.mp q]; omega
theorem sh_len {a : List Nat} {c j : Nat} : (sh a c j).length = a.length + 1 := by
  unfold sh
  rw [List.length_append]
  rfl
theorem small_st {l : List Nat} (h : l.length ≤ 8) : (st l).length ≤ sizeLine := by
  rw [st_len, sizeLine_eq]
  omega
def eight : List Str := [Str.ofString "bowl", Str.ofString "door", Str.ofString "b", Str.ofString "bow", Str.ofString "doors", Str.ofString "owl", Str.ofString "d", Str.ofString "bowlbowl"]
theorem eight_ok : ∀ i : Fin 8, okName (eight.getD i.val Str.empty) = true := by decide +kernel
theorem eight_inj : ∀ i j : Fin 8, eight.getD i.val Str.empty = eight.getD j.val Str.empty → i = j := by decide +kernel
theorem eight_at {i : Int} (h0 : 0 ≤ i) (h1 : i < 8) : atI (vstrs eight) i = some (V.str (eight.getD i.toNat Str.empty)) := by
  obtain ⟨j, rfl⟩ := Int.eq_ofNat_of_zero_le h0
  have hj : j < eight.length := by show j < 8; omega
  refine atI_nat ?_
  rw [List.getElem?_map, List.getElem?_eq_getElem hj, Int.toNat_natCast, List.getD_eq_getElem?_getD, List.getElem?_eq_getElem hj]
  rfl
end L2

namespace L2
open PySem PySem.Spec PyProof.Rows
/-! ### isinstance of an own class; the parts of a net in lists -/
structure InsOk (K : PySem.W.Frag) (C : Addr) : Prop where
  ha : PySem.W.findIn K (.ref C) "__class__" = some (some (.builtin "object.__class__"))
  hn : PySem.W.specialIn K (.builtin "object.__class__") "__get__" = some (some (.builtin "getset_descriptor.__get__"))
  htk : PySem.W.takesIn K (.builtin "object.__class__") = some true
  hm : PySem.W.mroIn K C (.type "object") = some true
theorem InsOk.ki {K : PySem.W.Frag} {C : Addr} (_ : InsOk K C) : PySem.W.kitOne K (.ref C) (.ref C) = some true := by
  unfold PySem.W.kitOne
  rw [if_pos (by simp)]
theorem InsOk.ty {K : PySem.W.Frag} {C : Addr} (i : InsOk K C) (cl : Cls K C) {H : Hp} {a dx : Addr} {fs : List (Str × V)} (e : H a = some (.ins C dx fs)) : TyOf K H (.ref a) (.ref C) := .ins e cl i.ha i.hn i.htk i.hm
theorem call_isinstC {X : Cx} : CallR X (.builtin "isinstance") (fun xs H Q => ∃ x c t b, xs = [x, .ref c] ∧ TyOf X.K H x t ∧ PySem.W.kitOne X.K t (.ref c) = some b ∧ Q (.bl b) H) := by
  intro pins s σ H xs us Q I r h
  obtain ⟨x, c, t, b, e, ty, k, q⟩ := h
  subst e
  obtain ⟨u, v, rfl, r1, r2⟩ := vals2 r
  obtain rfl : v = Value.ref c := r2
  exact isinst_ok I r1 ty k fun tk => ⟨.bl b, H, I.tok tk, rfl, q⟩
structure PartsIn (H : Hp) (p b d t g f : Addr) (ts gs : List Addr) (N : NetV) : Prop where
  top : H p = some (.lst [.ref b, .ref d, .ref t, .ref g, .ref f])
  hb : H b = some (.lst (vstrs N.bowls))
  hd : H d = some (.lst (vstrs N.doors))
  ht : H t = some (.lst (ts.map V.ref))
  tr : Rows H ts N.takes
  hg : H g = some (.lst (gs.map V.ref))
  gr : Rows H gs N.gives
  hf : H f = some (.lst (vints N.first))
theorem PartsIn.same {H H' : Hp} {p b d t g f : Addr} {ts gs : List Addr} {N : NetV} (n : PartsIn H p b d t g f ts gs N) (S : Same H H') : PartsIn H' p b d t g f ts gs N :=
  ⟨S _ _ n.top, S _ _ n.hb, S _ _ n.hd, S _ _ n.ht, n.tr.same S, S _ _ n.hg, n.gr.same S, S _ _ n.hf⟩
theorem Rows.get : ∀ {H : Hp} {as : List Addr} {rs : List (List Int)} {i : Nat}, Rows H as rs → (h : i < rs.length) → ∃ a, as[i]? = some a ∧ H a = some (.lst (vints (rs[i])))
  | _, _, _, 0, .cons r _, _ => ⟨_, rfl, r⟩
  | H, _, _, i + 1, .cons _ rs, h => Rows.get (H := H) (i := i) rs (Nat.lt_of_succ_lt_succ h)
theorem rows_at {H : Hp} {as : List Addr} {rs : List (List Int)} {i : Nat} (R : Rows H as rs) (h : i < rs.length) : ∃ a, atI (as.map V.ref) (i : Int) = some (.ref a) ∧ H a = some (.lst (vints (rs[i]))) := by
  obtain ⟨a, e, ha⟩ := Rows.get R h
  refine ⟨a, atI_nat ?_, ha⟩
  rw [List.getElem?_map, e]
  rfl
theorem strs_at {ys : List Str} {k : Nat} (h : k < ys.length) : atI (vstrs ys) (k : Int) = some (V.str (ys[k])) := by
  refine atI_nat ?_
  rw [List.getElem?_map, List.getElem?_eq_getElem h]
  rfl
theorem getD_at {xs : List Int} {k : Nat} (h : k < xs.length) : xs.getD k 0 = xs[k] := by
  rw [List.getD_eq_getElem?_getD, List.getElem?_eq_getElem h]
  rfl
end L2

namespace L2
open PySem PySem.Spec PyProof.Rows
/-! ### a comprehension with cells of its own (one within another) -/
structure CompScopeC (osc : Scope) (N : List Str) (scope : Scope) (N' : List Str) (nt : Nat) (caps : List Nat) : Prop where
  kind : scope.kind = .function
  cells : ∀ y ∈ scope.names, y.2 = .cell → scope.names.lookup y.1 = some .cell
  names : ∀ y ∈ scope.names, y.2 = .local → scope.names.lookup y.1 = some .local
  frees : ∀ y ∈ scope.names, y.2 = .free → osc.names.lookup y.1 = some .cell ∨ osc.names.lookup y.1 = some .free
  capt : caps.map (fun j => N[j]?) = (N'.drop nt).map some
  capf : ∀ x ∈ N'.drop nt, scope.names.lookup x = some .free
  len : nt ≤ N'.length
  nd : N'.Nodup
def compOkC (osc : Scope) (N : List Str) (scope : Scope) (N' : List Str) (nt : Nat) (caps : List Nat) : Bool :=
  decide (scope.kind = .function) && decide (∀ y ∈ scope.names, y.2 = .cell → scope.names.lookup y.1 = some .cell) && decide (∀ y ∈ scope.names, y.2 = .local → scope.names.lookup y.1 = some .local) &&
  decide (∀ y ∈ scope.names, y.2 = .free → osc.names.lookup y.1 = some .cell ∨ osc.names.lookup y.1 = some .free) && decide (caps.map (fun j => N[j]?) = (N'.drop nt).map some) &&
  decide (∀ x ∈ N'.drop nt, scope.names.lookup x = some .free) && decide (nt ≤ N'.length) && decide N'.Nodup
theorem CompScopeC.of {osc : Scope} {N : List Str} {scope : Scope} {N' : List Str} {nt : Nat} {caps : List Nat} (h : compOkC osc N scope N' nt caps = true) : CompScopeC osc N scope N' nt caps := by
  unfold compOkC at h
  simp only [Bool.and_eq_true, decide_eq_true_eq] at h
  obtain ⟨⟨⟨⟨⟨⟨⟨a, b⟩, c⟩, d⟩, e⟩, f⟩, g⟩, i⟩ := h
  exact ⟨a, b, c, d, e, f, g, i⟩
theorem cf_app : ∀ (names : List (Str × NameKind)) (n : Nat) (acc : List (Str × Addr)), cellsFrom n names acc = cellsFrom n names [] ++ acc
  | [], _, _ => rfl
  | (x, k) :: r, n, acc => by
    unfold cellsFrom
    split
    · rw [cf_app r (n + 1) ((x, n) :: acc), cf_app r (n + 1) [(x, n)], List.append_assoc]
      rfl
    · exact cf_app r n acc
theorem cf_mem : ∀ (names : List (Str × NameKind)) (n : Nat) {x : Str} {c : Addr}, (x, c) ∈ cellsFrom n names [] → n ≤ c ∧ (x, NameKind.cell) ∈ names
  | [], _, _, _, h => nomatch h
  | (y, k) :: r, n, x, c, h => by
    unfold cellsFrom at h
    split at h
    · rename_i hk
      rw [cf_app] at h
      rcases List.mem_append.mp h with q | q
      · obtain ⟨a, b⟩ := cf_mem r (n + 1) q
        exact ⟨by omega, List.mem_cons_of_mem _ b⟩
      · have e : (x, c) = (y, n) := List.mem_singleton.mp q
        cases e
        rw [show k = NameKind.cell from eq_of_beq hk]
        exact ⟨Nat.le_refl _, List.mem_cons_self ..⟩
    · obtain ⟨a, b⟩ := cf_mem r n h
      exact ⟨a, List.mem_cons_of_mem _ b⟩
abbrev cellsC (X : Cx) (scope : Scope) (C : Addr) : List (Str × Addr) := cellsFrom (C + 1) scope.names (closL X.env scope.names [])
theorem cells_sub {X : Cx} {scope : Scope} {C : Addr} {x : Str} {c : Addr} (h : (cellsC X scope C).lookup x = some c) : X.env.cells.lookup x = some c ∨ (C + 1 ≤ c ∧ (cellsFrom (C + 1) scope.names []).lookup x = some c) := by
  unfold cellsC at h
  rw [cf_app, List.lookup_append] at h
  cases q : (cellsFrom (C + 1) scope.names []).lookup x with
  | none =>
    rw [q] at h
    exact .inl (lookup_of_all closL_sub0 h)
  | some c' =>
    rw [q] at h
    cases (show c' = c from Option.some.inj h)
    exact .inr ⟨(cf_mem _ _ (PySem.mem_of_lookup q)).1, rfl⟩
theorem cells_cl {X : Cx} {scope : Scope} {C : Addr} {x : Str} {c : Addr} (h : (x, c) ∈ closL X.env scope.names []) : (x, c) ∈ cellsC X scope C := by
  unfold cellsC
  rw [cf_app]
  exact List.mem_append_right _ h
def cxCompC (X : Cx) (N' : List Str) (scope : Scope) (B : Blk) : Cx :=
  { X with N := N', s₀ := B.s, H₀ := B.H, env := compEnvC scope (cellsC X scope B.C) B.C X.env, outer := X.stack, ex := B.fp, fn := fun x => decide (scope.names.lookup x = some .cell), xe := fun _ _ => False }
theorem wpAny_compEnv {M : Model} {A : Around} {E : Value → Shared → Prop} {s : Shared} {scope : Scope} {globals : Addr} {cl : List (Str × Addr)} {qual : Str} {env : Env} {Q : Env → Shared → Prop}
    (hQ : ∀ h', h'.Ns s.heap.objs.size (fun _ => none) → (∀ b o, s.heap.get? b = some o → h'.get? b = some o) → (∀ x c, (x, c) ∈ cellsFrom (s.heap.objs.size + 1) scope.names [] → h'.IsCell c none) →
      (cellsFrom (s.heap.objs.size + 1) scope.names []).Pairwise (fun x y => x.2 ≠ y.2) →
      Q { scope := scope, locals := s.heap.objs.size, globals := globals, cells := cellsFrom (s.heap.objs.size + 1) scope.names cl, qual := qual, func := none, code := env.code, frame := env.frame, builtins := env.builtins } { s with heap := h' }) :
    wpAny M A (newFunctionEnv scope globals cl [] qual none .none (some env)) Q E s := by
  simp only [newFunctionEnv, Option.isSome_some, if_true]
  refine wpAny_bind (wpAny_alloc ?_)
  refine wpAny_bind (wpAny_layCells _ (fun name kind cells => by cases hkc : kind == NameKind.cell <;> simp [hkc]) _ _ _ _ ?_)
  have ok := cellsFrom_ok scope.names (s.heap.push { cls := .type "dict", data := .dict #[] }) (s.heap.objs.size + 1) [] ⟨fun _ _ hm => (nomatch hm), List.Pairwise.nil⟩ (by rw [Heap.size_push]; exact Nat.le_refl _)
  rw [Heap.size_push] at ok
  rw [show ({ s with heap := s.heap.push { cls := .type "dict", data := .dict #[] } } : Shared).heap.objs.size = s.heap.objs.size + 1 from Heap.size_push ..]
  refine wpAny_bind (wpAny_pure (wpAny_pure ?_))
  exact hQ _ ((Heap.Ns.new s.heap (.type "dict")).keeps (pushCells_keeps _ _)) (fun b o e => pushCells_keeps _ _ b o (Heap.get?_push_of_some _ e)) (fun x c h => (ok.empty x c h).1) ok.apart
section
variable {X : Cx} {pins : List (Addr × Obj)} {σ : St} {H : Hp} {s₂ : Shared} {scope : Scope} {N' : List Str} {nt : Nat} {caps : List Nat} {fp : List Addr} {C : Addr}
theorem comp_okC (I : Inv X pins σ H s₂) (S : CompScopeC X.env.scope X.N scope N' nt caps) (f2 : ∀ b ∈ fp, FpOk X pins H b) (hlt : ∀ b ∈ fp, b < s₂.heap.objs.size) (hC : s₂.heap.objs.size ≤ C) (hap : (cellsFrom (C + 1) scope.names []).Pairwise (fun x y => x.2 ≠ y.2)) :
    (cxCompC X N' scope ⟨C, s₂, H, fp⟩).Ok where
  mod := I.ok.mod
  kind := S.kind
  glob := I.ok.glob
  blt := I.ok.blt
  above := hC
  inj := fun x y c h1 h2 => by
    have lt : ∀ {z : Str}, X.env.cells.lookup z = some c → c < s₂.heap.objs.size := fun e => let ⟨_, q⟩ := I.cell _ c e; q.lt
    rcases cells_sub h1 with q1 | ⟨q1, p1⟩ <;> rcases cells_sub h2 with q2 | ⟨q2, p2⟩
    · exact I.ok.inj x y c q1 q2
    · exact absurd (Nat.lt_of_lt_of_le (lt q1) hC) (Nat.not_lt.mpr (Nat.le_of_succ_le q2))
    · exact absurd (Nat.lt_of_lt_of_le (lt q2) hC) (Nat.not_lt.mpr (Nat.le_of_succ_le q1))
    · exact PySem.name_of_addr hap (PySem.mem_of_lookup p1) (PySem.mem_of_lookup p2)
  has := fun x hx => by
    have hm : ∃ k, (k = NameKind.cell ∨ k = NameKind.free) ∧ (x, k) ∈ (relabel scope X.env).names := by
      rcases hx with e | e
      · exact ⟨_, .inl rfl, PySem.mem_of_lookup e⟩
      · exact ⟨_, .inr rfl, PySem.mem_of_lookup e⟩
    obtain ⟨k, hk, hm⟩ := hm
    obtain ⟨k0, h0, e⟩ := mem_relabel hm
    have hf : k0 = .free ∨ k0 = .cell := by
      rcases e with e | ⟨_, e⟩
      · rcases hk with z | z
        · exact .inr (e.symm.trans z)
        · exact .inl (e.symm.trans z)
      · exact .inl e
    rcases hf with hf | hf
    · subst hf
      obtain ⟨c, hc⟩ := I.ok.has x (S.frees _ h0 rfl)
      exact lookup_of_mem (cells_cl (closL_mem hc h0))
    · subst hf
      exact Option.isSome_iff_exists.mp (PySem.W.cellsFrom_some scope.names (C + 1) _ (.inl (S.cells _ h0 rfl)))
  cab := fun x c hf h => by
    have hx : scope.names.lookup x = some .cell := of_decide_eq_true hf
    have h' : (cellsC X scope C).lookup x = some c := h
    unfold cellsC at h'
    rw [cf_app, List.lookup_append] at h'
    obtain ⟨c', q⟩ := Option.isSome_iff_exists.mp (PySem.W.cellsFrom_some scope.names (C + 1) [] (.inl hx))
    rw [q] at h'
    cases (show c' = c from Option.some.inj h')
    have := (cf_mem _ _ (PySem.mem_of_lookup q)).1
    exact Nat.le_trans hC (Nat.le_of_succ_le this)
  hd := I.ok.hd
  frames := I.ok.frames
  stk := .inl rfl
  exf := fun b hb => ⟨Nat.ne_of_lt (Nat.lt_of_lt_of_le (hlt b hb) hC), fun x c e => by
    rcases cells_sub e with q | ⟨q, _⟩
    · exact (f2 b hb).2.2.2.2.1 x c q
    · exact Nat.ne_of_gt (Nat.lt_of_lt_of_le (Nat.lt_of_lt_of_le (hlt b hb) hC) (Nat.le_of_succ_le q))⟩
  bs := I.bs
  bsz := Nat.le_trans I.ok.bsz I.sz
  noex := fun b o e hb => by
    rcases (f2 b hb).2.2.2.1 with z | z
    · exact I.ok.noex b o e z
    · exact absurd (Nat.lt_of_lt_of_le (Heap.lt_size e) (Nat.le_trans I.ok.bsz z)) (Nat.lt_irrefl _)
  exfs := fun b hb hf => by
    rcases List.mem_cons.mp (I.stkSub b hf) with e | e
    · exact (f2 b hb).2.1 e
    · exact (f2 b hb).2.2.1 e
  funs := I.stack
  frf := I.stkFree

theorem inv_compC {h₁ : Heap} {tk : Nat} {m0 : Str → Option Value} (I : Inv X pins σ H s₂) (S : CompScopeC X.env.scope X.N scope N' nt caps) (f2 : ∀ b ∈ fp, FpOk X pins H b) (hlt : ∀ b ∈ fp, b < s₂.heap.objs.size)
    (hC : s₂.heap.objs.size ≤ C) (hap : (cellsFrom (C + 1) scope.names []).Pairwise (fun x y => x.2 ≠ y.2)) (hnew : ∀ x c, (x, c) ∈ cellsFrom (C + 1) scope.names [] → h₁.IsCell c none) (hns : h₁.Ns C m0) (old : ∀ b o, s₂.heap.get? b = some o → h₁.get? b = some o) :
    Inv (cxCompC X N' scope ⟨C, s₂, H, fp⟩) pins (sgm nt caps σ) H { s₂ with heap := h₁, toks := tk } := by
  have hl := congrArg List.length S.capt
  rw [List.length_map, List.length_map, List.length_drop] at hl
  have sub : ∀ {x c}, (closL X.env scope.names []).lookup x = some c → X.env.cells.lookup x = some c := fun e => lookup_of_all closL_sub0 e
  refine ⟨comp_okC I S f2 hlt hC hap, rfl, I.bare, Un.kept old, ⟨m0, hns, fun i x v e1 e2 e3 => ?_⟩, fun x c e => ?_, I.hok.fresh hC, fun x c e => (by rcases cells_sub e with q | ⟨q, _⟩; exact I.freeC x c q; exact I.hok.fresh (Nat.le_trans hC (Nat.le_of_succ_le q))), fun p hp => ?_, I.hok.kept old, ?_⟩
  · have e1' : N'[i]? = some x := e1
    have e2' : (List.replicate nt none ++ caps.map fun j => (σ[j]?).getD none)[i]? = some (some v) := e2
    have hi : nt ≤ i := by
      rcases Nat.lt_or_ge i nt with z | z
      · rw [List.getElem?_append_left (by simpa using z), List.getElem?_replicate, if_pos z] at e2'
        cases e2'
      · exact z
    rw [List.getElem?_append_right (by simpa using hi), List.length_replicate, List.getElem?_map] at e2'
    cases hj : caps[i - nt]? with
    | none => rw [hj] at e2'; cases e2'
    | some j =>
      rw [hj] at e2'
      have e3' : (σ[j]?).getD none = some v := Option.some.inj e2'
      have hσ : σ[j]? = some (some v) := by
        cases q : σ[j]? with
        | none => rw [q] at e3'; cases e3'
        | some o => rw [q] at e3'; have z : o = some v := e3'; rw [z]
      have hd : (N'.drop nt)[i - nt]? = some x := by rw [List.getElem?_drop, Nat.add_sub_cancel' hi]; exact e1'
      have hN : X.N[j]? = some x := by
        have q := congrArg (fun l => l[i - nt]?) S.capt
        have q : (caps.map fun j => X.N[j]?)[i - nt]? = ((N'.drop nt).map some)[i - nt]? := q
        rw [List.getElem?_map, List.getElem?_map, hj, hd] at q
        exact Option.some.inj q
      have hfx := S.capf x (List.mem_of_getElem? hd)
      have hko := S.frees (x, .free) (PySem.mem_of_lookup hfx) rfl
      have vis : Vis X.env.scope x := .inr hko
      obtain ⟨m, hn, hl'⟩ := I.loc
      obtain ⟨u, r, l⟩ := hl' j x v hN hσ vis
      refine ⟨u, r, .inr ⟨?_, ?_⟩⟩
      · exact lookup_relabel_free hfx
      · rcases l with ⟨k, _⟩ | ⟨_, c, e, z⟩
        · have k' : X.env.scope.names.lookup x = some .local := k
          rcases hko with q | q <;> (rw [k'] at q; cases q)
        · obtain ⟨c', q⟩ := lookup_of_mem (closL_mem e (PySem.mem_of_lookup hfx) (cs := []))
          have q2 := sub q
          rw [e] at q2
          cases q2
          obtain ⟨o, ho, hd'⟩ := z
          refine ⟨c, ?_, o, old _ _ ho, hd'⟩
          show (cellsC X scope C).lookup x = some c
          unfold cellsC
          rw [cf_app, List.lookup_append]
          cases own : (cellsFrom (C + 1) scope.names []).lookup x with
          | none => exact q
          | some c' =>
            have z1 := S.cells _ (cf_mem _ _ (PySem.mem_of_lookup own)).2 rfl
            rw [hfx] at z1
            cases z1
  · rcases cells_sub e with q | ⟨_, q⟩
    · obtain ⟨v, o, ho, hd'⟩ := I.cell x c q
      exact ⟨v, o, old _ _ ho, hd'⟩
    · exact ⟨none, hnew x c (PySem.mem_of_lookup q)⟩
  · obtain ⟨a, b, c, d, e⟩ := I.pin p hp
    refine ⟨old _ _ a, b, Nat.ne_of_lt (Nat.lt_of_lt_of_le (Heap.lt_size a) hC), fun hf => ?_, e⟩
    rcases List.mem_cons.mp (I.stkSub p.1 hf) with z | z
    · exact c z
    · exact d z
  · show (List.replicate nt none ++ caps.map fun j => (σ[j]?).getD none).length = N'.length
    rw [List.length_append, List.length_replicate, List.length_map]
    have := S.len
    omega
end
section
variable {X : Cx} {pins : List (Addr × Obj)} {σ : St} {H : Hp} {s₂ : Shared} {scope : Scope} {N' : List Str} {nt : Nat} {caps : List Nat} {tg elt iter : Expr} {ifs : List Expr} {pos : Pos} {g : Blk → TG} {tt : Blk → TT} {te : Blk → TE}
theorem comp_runC {J : It} {it : Addr} {fp : List Addr} {tn : Nat → Heap → Prop} {W : Nat → Nat → List V → St → Hp → Prop} {Z : List V → Hp → Prop} {RR : Value → Addr → Result → Shared → Prop} {E : Value → Shared → Prop}
    (hc : X.calm = true) (S : CompScopeC X.env.scope X.N scope N' nt caps)
    (hg : ∀ B, PG (cxCompC X N' scope B) tg (g B)) (ht : ∀ B, PTs (cxCompC X N' scope B) ifs (tt B)) (he : ∀ B, PE (cxCompC X N' scope B) elt (te B))
    (I : Inv X pins σ H s₂) (T : Turn X.prog X.w X.K tg J fp it tn) (st : tn 0 s₂.heap) (f2 : ∀ b ∈ fp, FpOk X pins H b) (w0 : ∃ m, W 0 m [] (sgm nt caps σ) H) (turn : ∀ B, CompW J (g B) (tt B) (te B) W Z)
    (hRR : ∀ D C s' ys H', Z ys H' → H' D = none → Inv X pins σ (upd H' D (.lst ys)) s' → FpOk X pins (upd H' D (.lst ys)) C → (∃ m, s'.heap.Ns C m) → RR (.ref D) C (.ok .next) s') :
    wpAny (model X.prog X.w) X.A (newList []) (fun acc s₃ => wpAny (model X.prog X.w) X.A (newFunctionEnv scope X.env.globals (closL X.env scope.names []) [] X.env.qual none .none (some X.env)) (fun cenv s₄ =>
      codeAny (model X.prog X.w) X.A (.compStart (.ListComp elt [⟨tg, iter, ifs, 0⟩] scope pos) 0 (.ref it) acc { cenv with scope := relabel scope X.env }) (RR acc cenv.locals) s₄) E s₃) E s₂ := by
  refine wpAny_newObj_type (wpAny_compEnv (fun h₁ hns₁ hk₁ hnew₁ hap₁ => ?_))
  dsimp only at hns₁ hk₁ hnew₁ hap₁ ⊢
  generalize hH2 : s₂.heap.push { cls := .type "list", dict := none, data := .seq ([] : List Value).toArray } = G2 at hns₁ hk₁ hnew₁ hap₁ ⊢
  have hCe : G2.objs.size = s₂.heap.objs.size + 1 := by rw [← hH2, Heap.size_push]
  have hDC : s₂.heap.objs.size ≠ G2.objs.size := by rw [hCe]; exact Nat.ne_of_lt (Nat.lt_succ_self _)
  have hCle : s₂.heap.objs.size ≤ G2.objs.size := by rw [hCe]; exact Nat.le_succ _
  have hlt : ∀ b ∈ fp, b < s₂.heap.objs.size := fun b hb => let ⟨o, e, _⟩ := T.obj 0 _ st b hb; Heap.lt_size e
  have old : ∀ b o, s₂.heap.get? b = some o → h₁.get? b = some o := fun b o e => hk₁ b o (hH2 ▸ Heap.get?_push_of_some _ e)
  have hacc : h₁.get? s₂.heap.objs.size = some (lobj [] 0) := hk₁ _ _ (hH2 ▸ Heap.get?_push_size _ rfl)
  generalize hD : s₂.heap.objs.size = D at hacc hDC hCle hCe
  generalize G2.objs.size = C at hns₁ hnew₁ hap₁ hDC hCle hCe ⊢
  have hlt' : ∀ b ∈ fp, b < D := fun b hb => hD ▸ hlt b hb
  have hpl : ∀ p ∈ X.pn ++ pins, p.1 < D := fun p hp => hD ▸ Heap.lt_size (I.pin p hp).1
  have hcl : ∀ x c, X.env.cells.lookup x = some c → c < D := fun x c e => let ⟨v, q⟩ := I.cell x c e; hD ▸ q.lt
  have hfsl : ∀ b ∈ frs X.stack, b < D := fun b hb => by
    rcases List.mem_cons.mp (I.stkSub b hb) with z | z
    · rw [z, ← hD]; exact I.lt
    · rw [← hD]
      refine Nat.lt_of_not_le fun q => I.nofs q z
  -- the iterator's and the list's own addresses within the block
  have fD : ∀ {H' : Hp} {pl : List (Addr × Obj)}, H' D = none → (∀ p ∈ X.pn ++ pl, p.1 < D) → FpOk (cxCompC X N' scope ⟨C, s₂, H, fp⟩) pl H' D := fun {H' pl} hn hp =>
    ⟨hn, hDC, fun z => Nat.lt_irrefl _ (hfsl D z), .inr (by show s₂.heap.objs.size ≤ D; rw [hD]; exact Nat.le_refl _), fun x c e z => (by rcases cells_sub e with q | ⟨q, _⟩; (have := hcl x c q; rw [z] at this; exact Nat.lt_irrefl D this); (rw [z] at q; exact Nat.lt_irrefl D (Nat.lt_of_lt_of_le (Nat.lt_of_le_of_lt hCle (Nat.lt_succ_self C)) q))),
      fun p q z => Nat.lt_irrefl D (by have := hp p q; rw [z] at this; exact this)⟩
  have fI : ∀ {H' : Hp} {n : Nat} {its : List Value}, (∀ b ∈ fp, H' b = none) → ∀ b ∈ fp, FpOk (cxCompC X N' scope ⟨C, s₂, H, fp⟩) (pins ++ [(D, lobj its n)]) H' b := fun {H' n its} hn b hb => by
    obtain ⟨g0, g1, g2, g3, g4, g5⟩ := f2 b hb
    refine ⟨hn b hb, Nat.ne_of_lt (Nat.lt_of_lt_of_le (hlt' b hb) hCle), fun z => ?_, .inl hb, fun x c e => (by rcases cells_sub e with q | ⟨q, _⟩; exact g4 x c q; exact Nat.ne_of_gt (Nat.lt_of_lt_of_le (Nat.lt_of_lt_of_le (hlt' b hb) hCle) (Nat.le_of_succ_le q))), fun p hp z => ?_⟩
    · rcases List.mem_cons.mp (I.stkSub b z) with q | q
      · exact g1 q
      · exact g2 q
    · have hp' : p ∈ X.pn ++ (pins ++ [(D, lobj its n)]) := hp
      rw [← List.append_assoc] at hp'
      rcases List.mem_append.mp hp' with q | q
      · exact g5 p q z
      · have e : p = (D, lobj its n) := by simpa using q
        rw [e] at z
        have := hlt' b hb
        rw [← z] at this
        exact Nat.lt_irrefl _ this
  have pinD : ∀ {σ' : St} {H' : Hp} {s' : Shared} {its : List Value} {n : Nat} {pl : List (Addr × Obj)}, Inv (cxCompC X N' scope ⟨C, s₂, H, fp⟩) (pins ++ pl) σ' H' s' → H' D = none → s'.heap.get? D = some (lobj its n) → Inv (cxCompC X N' scope ⟨C, s₂, H, fp⟩) (pins ++ [(D, lobj its n)]) σ' H' s' :=
    fun {σ' H' s' its n pl} J hn ho => J.pins_of fun p hp => by
      rcases List.mem_append.mp hp with q | q
      · exact J.pin p (List.mem_append_right _ (List.mem_append_left _ q))
      · have e : p = (D, lobj its n) := by simpa using q
        subst e
        exact ⟨ho, hn, hDC, fun z => Nat.lt_irrefl _ (hfsl D z), fun v z => by cases z⟩
  have I1 : Inv (cxCompC X N' scope ⟨C, s₂, H, fp⟩) (pins ++ [(D, lobj [] 0)]) (sgm nt caps σ) H { s₂ with heap := h₁, toks := s₂.toks } :=
    pinD (pl := []) (by rw [List.append_nil]; exact inv_compC I S f2 hlt (by rw [hD]; exact hCle) hap₁ hnew₁ hns₁ old) (I.hok.fresh (by rw [hD]; exact Nat.le_refl _)) hacc
  have st1 : tn 0 h₁ := T.keep 0 _ _ st fun b _ o e => old b o e
  have loop : ∀ s₃ : Shared, s₃ = { s₂ with heap := h₁, toks := s₂.toks } →
      codeAny (model X.prog X.w) X.A (.compLoop (.ListComp elt [⟨tg, iter, ifs, 0⟩] scope pos) 0 (.ref it) (.ref D) (cxCompC X N' scope ⟨C, s₂, H, fp⟩).env) (RR (.ref D) C) s₃ := by
    rintro s₃ rfl
    obtain ⟨m0, w0⟩ := w0
    refine codeAny_compLoop_go (fun k s' => ∃ i ys σ' H' its n, Inv (cxCompC X N' scope ⟨C, s₂, H, fp⟩) (pins ++ [(D, lobj its n)]) σ' H' s' ∧ Vals ys its ∧ tn i s'.heap ∧ (∀ b ∈ fp, H' b = none) ∧ ys.length ≤ sizeLine ∧ W i k ys σ' H') ?_ m0
      ⟨0, [], _, H, [], 0, I1, .nil, st1, fun b hb => (f2 b hb).1, Nat.zero_le _, w0⟩
    rintro k s' ⟨i, ys, σ', H', its, n, I', rv, st', fr', hz, w'⟩
    rcases turn ⟨C, s₂, H, fp⟩ i k ys σ' H' w' with ⟨stop, z⟩ | ⟨go, hlen, NN, hNN, step⟩
    · refine thn (T.done (cxCompC X N' scope ⟨C, s₂, H, fp⟩) rfl rfl rfl hc i _ s' σ' H' _ I' (fI fr') st' stop) fun r s1 ⟨hr, J⟩ => ?_
      subst hr
      have pd := J.pin (D, lobj its n) (List.mem_append_right _ (List.mem_append_right _ List.mem_cons_self))
      have hDn : H' D = none := pd.2.1
      have J0 : Inv X pins σ H' s1 := I.call' (ch := fp) J.os J.base J.hok J.bare fun b hb => ⟨(f2 b hb).2.2.2.1, (f2 b hb).2.1, (f2 b hb).2.2.2.2.1, (f2 b hb).2.2.2.2.2⟩
      have J1 : Inv X pins σ (upd H' D (.lst ys)) s1 := J0.track (I.fpOk (by rw [hD]; exact Nat.le_refl _) hDn) ⟨hz, its, n, rv, pd.1⟩
      obtain ⟨mC, hnC, _⟩ := J.loc
      exact hRR D C s1 ys H' z hDn J1 (I.fpOk (by rw [hD]; exact hCle) (by rw [upd_ne (Ne.symm hDC)]; exact J.free)) ⟨mC, hnC⟩
    · refine thn (T.item (cxCompC X N' scope ⟨C, s₂, H, fp⟩) rfl rfl rfl hc i _ s' σ' H' _ I' (fI fr') st' go) fun r s1 ⟨u, hr, h1⟩ => ?_
      subst hr
      refine thn h1 fun _ s5 ⟨x, H5, I5, r5, y5, st5, fr5⟩ => ?_
      have I5' := I5.pinned (fI fr5) (T.obj _ _ st5)
      refine wpAny_mono (hg ⟨C, s₂, H, fp⟩ _ s5 σ' H5 x u _ I5' r5 (step x H5 y5)) (fun _ s6 ⟨σ6, H6, I6, q6⟩ => ?_) fun _ _ z => z.elim
      refine wpAny_mono (ht ⟨C, s₂, H, fp⟩ _ s6 σ6 H6 _ I6 q6) (fun b s7 ⟨H7, I7, q7⟩ => ?_) fun _ _ z => z.elim
      have keepT : ∀ {σ8 : St} {H8 : Hp} {s8 : Shared}, Inv (cxCompC X N' scope ⟨C, s₂, H, fp⟩) ((pins ++ [(D, lobj its n)]) ++ pinsAt fp s5.heap) σ8 H8 s8 → tn (i + 1) s8.heap ∧ (∀ b ∈ fp, H8 b = none) ∧ s8.heap.get? D = some (lobj its n) ∧ H8 D = none := fun {σ8 H8 s8} I8 => by
        refine ⟨T.keep _ _ _ st5 fun b hb o e => (I8.pin (b, o) (List.mem_append_right _ (List.mem_append_right _ (mem_pinsAt hb e)))).1, fun b hb => ?_, ?_⟩
        · obtain ⟨o, e, _⟩ := T.obj _ _ st5 b hb
          exact (I8.pin (b, o) (List.mem_append_right _ (List.mem_append_right _ (mem_pinsAt hb e)))).2.1
        · have pd := I8.pin (D, lobj its n) (List.mem_append_right _ (List.mem_append_left _ (List.mem_append_right _ List.mem_cons_self)))
          exact ⟨pd.1, pd.2.1⟩
      cases b with
      | false =>
        rw [if_neg Bool.false_ne_true] at q7 ⊢
        obtain ⟨m', hm, w7⟩ := hNN _ _ _ q7
        obtain ⟨t7, f7, _, _⟩ := keepT I7
        exact ⟨m', hm, i + 1, ys, σ6, H7, its, n, I7.unpinned, rv, t7, f7, hz, w7⟩
      | true =>
        rw [if_pos rfl] at q7 ⊢
        refine wpAny_mono (he ⟨C, s₂, H, fp⟩ _ s7 σ6 H7 _ I7 q7) (fun v s8 ⟨y, H8, I8, r8, q8⟩ => ?_) fun _ _ z => z.elim
        obtain ⟨m', hm, w8⟩ := hNN _ _ _ q8
        obtain ⟨t8, f8, o8, n8⟩ := keepT I8
        have hlv := rv.length
        refine append_at o8 (fun h9 sb9 o9 => ?_) (by rw [List.size_toArray, ← hlv]; exact hz)
        have I8' : Inv (cxCompC X N' scope ⟨C, s₂, H, fp⟩) (pins ++ []) σ6 H8 s8 := by
          rw [List.append_nil]
          exact I8.unpinned.unpinned
        have ep : ((its.toArray.push v)) = (its ++ [v]).toArray := by simp
        rw [ep] at o9
        have I9 : Inv (cxCompC X N' scope ⟨C, s₂, H, fp⟩) (pins ++ []) σ6 H8 { s8 with heap := h9 } :=
          I8'.turnedL (t' := s8.toks) (ch := [D]) (fun b o hb e => sb9.extBut b o (fun z => hb (by simp [z])) e) (fun b hb => by
            have e : b = D := by simpa using hb
            subst e
            exact fD n8 (by rw [List.append_nil]; exact hpl))
        refine ⟨m', hm, i + 1, ys ++ [y], σ6, H8, its ++ [v], n + 1, pinD I9 n8 o9, rv.append (.cons r8 .nil), T.keep _ _ _ t8 fun b hb o e => sb9.extBut b o (Nat.ne_of_lt (hlt' b hb)) e, f8, ?_, w8⟩
        rw [List.length_append, List.length_singleton]
        exact hlen
  exact codeAny_compStart_list (loop _ rfl) (T.self X.A 0 _ _ _ st1 (loop _ rfl))

theorem pe_compC {wi : TI} (osc : Scope) (N : List Str) (S : CompScopeC osc N scope N' nt caps) (hi : PI X tg iter wi)
    (hg : ∀ B, PG (cxCompC X N' scope B) tg (g B)) (ht : ∀ B, PTs (cxCompC X N' scope B) ifs (tt B)) (he : ∀ B, PE (cxCompC X N' scope B) elt (te B))
    (hc : X.calm = true := by rfl) (hosc : X.env.scope = osc := by rfl) (hNN : X.N = N := by rfl) (hs : ∀ x, foldedSetIterable iter X.env x = pure x := by intro _; rfl) : PE X (.ListComp elt [⟨tg, iter, ifs, 0⟩] scope pos) (tComp nt caps wi g tt te) := by
  subst hosc hNN
  intro pins s σ H Q I h
  have hfr : ∀ x ∈ scope.names, x.2 = .free → ∃ c, X.env.cells.lookup x.1 = some c := fun x hx hf => I.ok.has x.1 (S.frees x hx hf)
  rw [eval_ListComp]
  refine wpAny_comprehension_free (use := none) rfl hs (closureFor_eq hfr) S.kind S.names (thn (hi pins s σ H _ I h) fun v s1 h1 => thn h1 fun itv s2 h2 => ?_)
  obtain ⟨it, fp, tn, J, H2, e, I2, T, st2, f2, W, w0, turn⟩ := h2
  subst e
  refine comp_runC (RR := fun acc C => compPost (model X.prog X.w) X.A X.xe none (EP X pins σ Q) acc C) hc S hg ht he I2 T st2 f2 w0 turn ?_
  intro D C s' ys H' z hn J' fC ⟨m, hm⟩
  refine ⟨m, hm, fun h'' sb => ⟨.ref D, _, J'.turnedL (t' := s'.toks) (ch := [C]) (fun b o hb e => sb.extBut b o (fun z => hb (by simp [z])) e) (fun b hb => ?_), rfl, z D hn⟩⟩
  have e : b = C := by simpa using hb
  subst e
  exact fC
theorem ps_setCompC {wi : TI} {i : Nat} {y : Str} {py spos : Pos} (osc : Scope) (N : List Str) (S : CompScopeC osc N scope N' nt caps) (hN : X.N.Nodup) (hiN : X.N[i]? = some y) (hy : X.env.scope.names.lookup y = some .local) (hi : PI X tg iter wi)
    (hg : ∀ B, PG (cxCompC X N' scope B) tg (g B)) (ht : ∀ B, PTs (cxCompC X N' scope B) ifs (tt B)) (he : ∀ B, PE (cxCompC X N' scope B) elt (te B))
    (hsw : swapsWith (.ListComp elt [⟨tg, iter, ifs, 0⟩] scope pos) (some (.Name y py)) spos.line X.env = pure true := by rfl)
    (hc : X.calm = true := by rfl) (hosc : X.env.scope = osc := by rfl) (hNN : X.N = N := by rfl) (hs : ∀ x, foldedSetIterable iter X.env x = pure x := by intro _; rfl) : PS X (.Assign [.Name y py] (.ListComp elt [⟨tg, iter, ifs, 0⟩] scope pos) spos) (tAsg (tComp nt caps wi g tt te) (gName i)) := by
  subst hosc hNN
  intro pins s σ H D0 I h
  have hfr : ∀ x ∈ scope.names, x.2 = .free → ∃ c, X.env.cells.lookup x.1 = some c := fun x hx hf => I.ok.has x.1 (S.frees x hx hf)
  rw [exec_Assign_Name_used _ _ _ _ hsw]
  refine wpAny_bind (wpAny_standAt (wpAny_bind ?_))
  show wpAny _ _ (do let _ ← comprehension (.ListComp elt [⟨tg, iter, ifs, 0⟩] scope pos) scope X.env _ (newList []) false (eval iter X.env) (some (assign (.Name y py) X.env))) _ _ s
  refine wpAny_bind (wpAny_mono (wpAny_comprehension_free (use := some (assign (.Name y py) X.env)) (Q := fun _ s' => SP X pins D0 .next s') rfl hs (closureFor_eq hfr) S.kind S.names
    (thn (hi pins s σ H _ I h) fun v s1 h1 => thn h1 fun itv s2 h2 => ?_)) (fun _ s' hq => wpAny_pure (wpAny_pure hq)) fun _ _ e => e)
  obtain ⟨it, fp, tn, J, H2, e, I2, T, st2, f2, W, w0, turn⟩ := h2
  subst e
  refine comp_runC (RR := fun acc C => compPost (model X.prog X.w) X.A X.xe (some (assign (.Name y py) X.env)) (fun _ s' => SP X pins D0 .next s') acc C) hc S hg ht he I2 T st2 f2 w0 turn ?_
  intro D C s' ys H' z hn J' fC ⟨m, hm⟩
  show wpAny _ _ (assign (.Name y py) X.env (.ref D)) _ _ s'
  refine wpAny_assign_Name (store_ok2 (v := .ref D) J' hN hiN (.inl hy) rfl (fun s'' J'' ⟨a, sb, ha⟩ => ?_) (.inr hy))
  have hCa : C ≠ a := by
    rcases ha with q | q
    · rw [q]; exact fC.2.1
    · exact Ne.symm (fC.2.2.2.2.1 _ _ q)
  refine ⟨m, hm.sameBut sb hCa, fun h'' sb' => ⟨_, _, J''.turnedL (t' := s''.toks) (ch := [C]) (fun b o hb e => sb'.extBut b o (fun z => hb (by simp [z])) e) (fun b hb => ?_), z D hn⟩⟩
  have e : b = C := by simpa using hb
  subst e
  exact fC
end
theorem pg_nameK {X : Cx} {i : Nat} {x : Str} {pos : Pos} (N : List Str) (hN : N.Nodup) (hi : N[i]? = some x) (hx : X.env.scope.names.lookup x = some .cell := by rfl) (hf : X.fn x = true := by rfl) (hXN : X.N = N := by rfl) : PG X (.Name x pos) (gName i) :=
  pg_name (by rw [hXN]; exact hN) (by rw [hXN]; exact hi) (.inr hx) (.inl hf)
end L2

namespace L2
open PySem PySem.Spec PyProof.Rows
/-! ### the place of a text in a list; copies of one list -/
def plc (ys : List Str) (y : Str) : Int := if y ∈ ys then ((ys.findIdx (fun z => decide (z = y)) : Nat) : Int) else -1
theorem fst_at {ys : List Str} {y : Str} (h : y ∈ ys) : ys[ys.findIdx (fun z => decide (z = y))]? = some y ∧ ∀ m, m < ys.findIdx (fun z => decide (z = y)) → ∀ w, ys[m]? = some w → w ≠ y := by
  have hl : ys.findIdx (fun z => decide (z = y)) < ys.length := List.findIdx_lt_length_of_exists ⟨y, h, by simp⟩
  have e := List.findIdx_getElem (xs := ys) (p := fun z => decide (z = y)) (w := hl)
  refine ⟨by rw [List.getElem?_eq_getElem hl, of_decide_eq_true e], fun m hm w hw hwy => ?_⟩
  have := List.not_of_lt_findIdx hm
  have hml : m < ys.length := Nat.lt_trans hm hl
  rw [List.getElem?_eq_getElem hml] at hw
  rw [Option.some.inj hw, hwy] at this
  simp at this
theorem plc_at {ys : List Str} {y : Str} {j : Nat} (h : ys[j]? = some y) (hn : ∀ m, m < j → ∀ w, ys[m]? = some w → w ≠ y) : plc ys y = (j : Int) := by
  have hm : y ∈ ys := List.mem_of_getElem? h
  unfold plc
  rw [if_pos hm]
  obtain ⟨a, b⟩ := fst_at hm
  rcases Nat.lt_trichotomy (ys.findIdx (fun z => decide (z = y))) j with q | q | q
  · exact absurd rfl (hn _ q _ a)
  · rw [q]
  · exact absurd rfl (b _ q _ h)
theorem eqV_str (a b : Str) : eqV (.str a) (.str b) = decide (a = b) := by
  have h := inV_strs (x := b) (ys := [a])
  have h2 : inV (.str b) (vstrs [a]) = eqV (.str a) (.str b) := by
    unfold inV
    simp
  rw [← h2, h]
  simp [eq_comm]
section
variable {X : Cx}
def rIndex : V → List V → Hp → VK → Prop := fun x vs H Q => ∃ (l : Addr) (ys : List Str) (y : Str), x = .ref l ∧ vs = [.str y] ∧ H l = some (.lst (vstrs ys)) ∧ y ∈ ys ∧ Q (.int (plc ys y)) H
theorem mt_index : MtM X "list.index" rIndex := by
  intro pins s σ H x vs v us Q I rx rv h
  obtain ⟨l, ys, y, rfl, rfl, hH, hy, q⟩ := h
  cases rx
  obtain ⟨u, rfl, ru⟩ := rv.one
  obtain ⟨z, its, n, r, hl, e⟩ := I.lstM hH
  obtain ⟨e1, e2⟩ := fst_at hy
  have hp : plc ys y = ((ys.findIdx (fun z => decide (z = y)) : Nat) : Int) := by unfold plc; rw [if_pos hy]
  rw [hp] at q
  generalize ys.findIdx (fun z => decide (z = y)) = j at e1 e2 q
  have hjl : j < ys.length := (List.getElem?_eq_some_iff.mp e1).1
  have vl : (vstrs ys).length = ys.length := List.length_map ..
  have hs := sizeLine_eq
  have hj : j < its.toArray.size := by rw [List.size_toArray]; omega
  have ev : ∀ m (w : Str), ys[m]? = some w → ∃ u', its[m]? = some u' ∧ eqU (.str y) u' = decide (w = y) := fun m w hm => by
    obtain ⟨u', h1, h2⟩ := r.get (i := m) (x := .str w) (by rw [List.getElem?_map, hm]; rfl)
    exact ⟨u', h1, by rw [eqU_of h2 rfl, eqV_str]⟩
  have hit : eqU (.str y) its.toArray[j] = true := by
    obtain ⟨u', h1, h2⟩ := ev j y e1
    rw [List.getElem_toArray, (List.getElem?_eq_some_iff.mp h1).2, h2]
    simp
  refine call_meets F.slot_list_index ⟨_, e, rfl⟩ F.entry_list_index (F.args_list_index_2 _ _) (SeqAt.list_indexAt l its.toArray n none #[] u (eqU (.str y)) j hj (by omega) hit fun m hm hmj => ?_) ⟨e, fun w hw => ?_, ?_⟩
  · rw [List.size_toArray] at hm
    have hmy : m < ys.length := by omega
    obtain ⟨u', h1, h2⟩ := ev m _ (List.getElem?_eq_getElem hmy)
    rw [List.getElem_toArray, (List.getElem?_eq_some_iff.mp h1).2, h2]
    exact decide_eq_false (e2 m hmj _ (List.getElem?_eq_getElem hmy))
  · exact mem_eqAt ru rfl r (flat_strs ys) w (by simpa using hw)
  · exact ⟨.int j, H, I.tok _, ⟨_, rfl⟩, q⟩
end
/-- copies of one list, as often as there are items: [list(none) for name in names] -/
theorem comp_same {K : PySem.W.Frag} {K' : Blk → PySem.W.Frag} {Z : List V → Hp → Prop} {H1 : Hp} {a p : Addr} {xs : List V} {r : List Int} {τ : St} (hK : ∀ B, K' B = K) (ha : SqL K H1 a xs) (hp : H1 p = some (.lst (vints r))) (hn : xs.length ≤ 64)
    (hd : ∀ H2 bs, Same H1 H2 → Rows H2 bs (List.replicate xs.length r) → Z (bs.map V.ref) H2) :
    ∃ W : Nat → Nat → List V → St → Hp → Prop, (∃ m, W 0 m [] (none :: some (.ref p) :: τ) H1) ∧ ∀ B : Blk, CompW (Itl K a) (gName 0) tTrue (tCB (fun xs H Q => ∃ p ys, xs = [.ref p] ∧ (SqL (K' B) H p ys ∨ SqT (K' B) H p ys) ∧ ∀ l, H l = none → Q (.ref l) (upd H l (.lst ys))) (tCons (tVar 1) tNil)) W Z := by
  refine comp_listP (g := fun _ => gName 0) (tt := fun _ => tTrue) (K := K) (a := a) (xs := xs) (fun i zs σ H4 => ∃ (o : Option V) (bs : List Addr), σ = o :: some (.ref p) :: τ ∧ Same H1 H4 ∧ zs = bs.map V.ref ∧ Rows H4 bs (List.replicate i r) ∧ bs.length = i) ⟨none, [], rfl, Same.refl _, rfl, .nil, rfl⟩ ?_ ?_ ?_
  · rintro i zs σ H4 hi ⟨o, bs, rfl, S, rfl, RB, e⟩
    refine ⟨S.seq ha, ?_⟩
    rw [List.length_map]
    exact small70 (by omega)
  · rintro B i x zs σ H4 hx ⟨o, bs, rfl, S, rfl, RB, e⟩
    dsimp only [gName, tTrue]
    rw [if_pos rfl]
    refine ⟨_, rfl, p, _, rfl, .inl (by rw [hK]; exact SqL.of (S _ _ hp)), fun q nq => ⟨_, bs ++ [q], rfl, S.upd nq, (vrefs_snoc _ _).symm, ?_, (by rw [List.length_append, e]; rfl)⟩⟩
    rw [List.replicate_succ']
    exact (RB.same ((Same.refl H4).upd nq)).snoc upd_same
  · rintro zs σ H4 ⟨o, bs, rfl, S, rfl, RB, e⟩
    exact hd H4 bs S RB
theorem cutS_len (x : Str) {j : Int} (h : 0 ≤ j) : (cutS x none (some j)).length ≤ j.toNat := by
  obtain ⟨k, rfl⟩ := Int.eq_ofNat_of_zero_le h
  have e : cutS x none (some ((k : Nat) : Int)) = st ((x.cps.toList.drop (HT.sIx x.length 0 none)).take (HT.sIx x.length x.length (some ((k : Nat) : Int)) - HT.sIx x.length 0 none)) := rfl
  rw [e, st_len, List.length_take, HT.sIx_nat, HT.sIx_none, Int.toNat_natCast]
  omega
end L2

namespace L2
open PySem PySem.Spec PyProof.Rows SeqAt
/-! ### lists told alike; heaps that differ at some addresses -/
section
variable {X : Cx} {pins : List (Addr × Obj)} {σ : St} {H : Hp} {s : Shared} {A : Around} {a b : Addr}
theorem rc_true {xs ys : List V} (I : Inv X pins σ H s) (hu : A.units < cLine) (qa : SqL X.K H a xs) (qb : SqL X.K H b ys) (hl : xs.length = ys.length)
    (he : ∀ (j : Nat) (x y : V) (u v : Value), xs[j]? = some x → ys[j]? = some y → RelV x u → RelV y v → EqAt A.in1 s u v true) : RcAt A s (.ref a) (.ref b) true ∧ RcNeAt A s (.ref a) (.ref b) false := by
  obtain ⟨its, rv, p, _⟩ := I.list qa
  obtain ⟨its2, rw', p2, _⟩ := I.list qb
  have l1 := rv.length
  have l2 := rw'.length
  have hh : ∀ j (h1 : j < its.toArray.size) (h2 : j < its2.toArray.size), EqAt A.in1 s its.toArray[j] its2.toArray[j] ((fun _ => true) j) := fun j h1 h2 => by
    rw [List.size_toArray] at h1 h2
    obtain ⟨u, hu1, ru⟩ := rv.get (i := j) (List.getElem?_eq_getElem (by omega))
    obtain ⟨v, hv1, rv2⟩ := rw'.get (i := j) (List.getElem?_eq_getElem (by omega))
    rw [List.getElem_toArray, List.getElem_toArray, (List.getElem?_eq_some_iff.mp hu1).2, (List.getElem?_eq_some_iff.mp hv1).2]
    exact he j _ _ u v (List.getElem?_eq_getElem (by omega)) (List.getElem?_eq_getElem (by omega)) ru rv2
  have all : ∀ n : Nat, ((List.range n).all fun _ => true) = true := fun n => by simp
  have q := RcAt.lists (A := A) p.isList p2.isList (by simp; omega) hu hh
  have q2 := RcNeAt.lists (A := A) p.isList p2.isList (by simp; omega) hu hh
  rw [all] at q q2
  exact ⟨q, q2⟩
theorem eq_of_rc (h : RcAt A s (.ref a) (.ref b) true) : EqAt A s (.ref a) (.ref b) true := by
  by_cases e : a = b
  · subst e; exact EqAt.same _
  · exact EqAt.of_refs e h
theorem eq_flat {xs : List V} (I : Inv X pins σ H s) (hu : A.units < cLine) (qa : SqL X.K H a xs) (qb : SqL X.K H b xs) (hf : ∀ x ∈ xs, flatV x = true ∧ eqV x x = true) : EqAt A s (.ref a) (.ref b) true :=
  eq_of_rc (rc_true I hu qa qb rfl fun j x y u v hx hy ru rv => by
    rw [hx] at hy
    cases hy
    obtain ⟨f1, f2⟩ := hf x (List.mem_of_getElem? hx)
    have q := eqAt_V (A := A.in1) (s := s) ru rv f1 f1
    rw [f2] at q
    exact q).1
theorem flat_str (ys : List Str) : ∀ x ∈ vstrs ys, flatV x = true ∧ eqV x x = true := fun x hx => by
  obtain ⟨y, _, rfl⟩ := List.mem_map.mp hx
  exact ⟨rfl, by rw [eqV_str]; simp⟩
theorem flat_int (ys : List Int) : ∀ x ∈ vints ys, flatV x = true ∧ eqV x x = true := fun x hx => by
  obtain ⟨y, _, rfl⟩ := List.mem_map.mp hx
  exact ⟨rfl, by simp [eqV]⟩
theorem in1_units {A : Around} : A.in1.units = A.units + 1 := by
  first | rfl | (simp [Around.in1, Around.units])
theorem eq_rows {as bs : List Addr} {rs : List (List Int)} (I : Inv X pins σ H s) (hu : A.units + 1 < cLine) (qa : SqL X.K H a (as.map V.ref)) (qb : SqL X.K H b (bs.map V.ref)) (ra : Rows H as rs) (rb : Rows H bs rs) : EqAt A s (.ref a) (.ref b) true :=
  eq_of_rc (rc_true I (by omega) qa qb (by rw [List.length_map, List.length_map, ra.length, rb.length]) fun j x y u v hx hy ru rv => by
    obtain ⟨c, hc, rfl⟩ := refs_get hx
    obtain ⟨d, hd, rfl⟩ := refs_get hy
    obtain ⟨r, hr, ec⟩ := Paired.getL ra hc
    obtain ⟨r', hr', ed⟩ := Paired.getL rb hd
    rw [hr] at hr'
    cases hr'
    cases ru
    cases rv
    exact eq_flat I (by rw [in1_units]; exact hu) (SqL.of ec) (SqL.of ed) (flat_int r)).1
def rNeP : R2 := fun x y H Q => ∃ (p b d t g f : Addr) (ts gs : List Addr) (p' b' d' t' g' f' : Addr) (ts' gs' : List Addr) (N : NetV), x = .ref p ∧ y = .ref p' ∧ PartsIn H p b d t g f ts gs N ∧ PartsIn H p' b' d' t' g' f' ts' gs' N ∧ Q (.bl false) H
theorem op_neP (hu : X.A.units + 2 < cLine) : OpR X (compareOp .NotEq) rNeP := by
  intro pins s σ H x y v u Q I rx ry h
  obtain ⟨p, b, d, t, g, f, ts, gs, p', b', d', t', g', f', ts', gs', N, rfl, rfl, P, P', q⟩ := h
  cases rx
  cases ry
  refine (rc_true I (by omega) (SqL.of P.top) (SqL.of P'.top) rfl fun j x y u v hx hy ru rv => ?_).2 _ _ _ _ ⟨.bl _, H, I, rfl, q⟩
  have h1 : X.A.in1.units < cLine := by rw [in1_units]; omega
  have h2 : X.A.in1.units + 1 < cLine := by rw [in1_units]; omega
  match j, hx, hy with
  | 0, hx, hy => cases hx; cases hy; cases ru; cases rv; exact eq_flat I h1 (SqL.of P.hb) (SqL.of P'.hb) (flat_str _)
  | 1, hx, hy => cases hx; cases hy; cases ru; cases rv; exact eq_flat I h1 (SqL.of P.hd) (SqL.of P'.hd) (flat_str _)
  | 2, hx, hy => cases hx; cases hy; cases ru; cases rv; exact eq_rows I h2 (SqL.of P.ht) (SqL.of P'.ht) P.tr P'.tr
  | 3, hx, hy => cases hx; cases hy; cases ru; cases rv; exact eq_rows I h2 (SqL.of P.hg) (SqL.of P'.hg) P.gr P'.gr
  | 4, hx, hy => cases hx; cases hy; cases ru; cases rv; exact eq_flat I h1 (SqL.of P.hf) (SqL.of P'.hf) (flat_int _)
  | j + 5, hx, _ => simp at hx
end
theorem mem_at0 {as : List Addr} {c : Addr} (h : atI (as.map V.ref) ((0 : Nat) : Int) = some (.ref c)) : c ∈ as := by
  obtain ⟨j, _, h2, _⟩ := atI_get h
  obtain ⟨b, h3, h4⟩ := refs_get h2
  cases h4
  exact List.mem_of_getElem? h3
theorem hu2_of {A : Around} {k : Nat} (hr : Room k A) : A.units + 2 < cLine := Nat.lt_of_le_of_lt (Nat.add_le_add_left (by decide : 2 ≤ 64) _) hr.units
/-- but for these addresses all that was tracked stays -/
def ButL (A : List Addr) (H H' : Hp) : Prop := ∀ c u, H c = some u → c ∉ A → H' c = some u
theorem ButL.refl {A : List Addr} {H : Hp} : ButL A H H := fun _ _ e _ => e
theorem ButL.trans {A : List Addr} {H H1 H2 : Hp} (a : ButL A H H1) (b : ButL A H1 H2) : ButL A H H2 := fun c u e n => b c u (a c u e n) n
theorem Same.butL {A : List Addr} {H H' : Hp} (S : Same H H') : ButL A H H' := fun c u e _ => S c u e
theorem ButL.upd {A : List Addr} {H H' : Hp} (k : ButL A H H') {x : Addr} {o : HO} (hx : x ∈ A) : ButL A H (upd H' x o) := fun c u e n => by
  have hc : c ≠ x := fun z => n (by rw [z]; exact hx)
  rw [upd_ne hc]
  exact k c u e n
theorem ButL.rows {A : List Addr} {H H' : Hp} (k : ButL A H H') : ∀ {as : List Addr} {rs : List (List Int)}, Rows H as rs → (∀ a ∈ as, a ∉ A) → Rows H' as rs
  | _, _, .nil, _ => .nil
  | _, _, .cons e r, h => .cons (k _ _ e (h _ (List.mem_cons_self ..))) (ButL.rows k r fun a ha => h a (List.mem_cons_of_mem _ ha))
theorem ButL.parts {A : List Addr} {H H' : Hp} {p b d t g f : Addr} {ts gs : List Addr} {N : NetV} (k : ButL A H H') (P : PartsIn H p b d t g f ts gs N) (h : ∀ a ∈ [p, b, d, t, g, f] ++ ts ++ gs, a ∉ A) : PartsIn H' p b d t g f ts gs N := by
  have m : ∀ a ∈ [p, b, d, t, g, f], a ∉ A := fun a ha => h a (List.mem_append_left _ (List.mem_append_left _ ha))
  exact ⟨k _ _ P.top (m _ (by simp)), k _ _ P.hb (m _ (by simp)), k _ _ P.hd (m _ (by simp)), k _ _ P.ht (m _ (by simp)), k.rows P.tr fun a ha => h a (List.mem_append_left _ (List.mem_append_right _ ha)), k _ _ P.hg (m _ (by simp)), k.rows P.gr fun a ha => h a (List.mem_append_right _ ha), k _ _ P.hf (m _ (by simp))⟩
theorem ButL.net {A : List Addr} {C : Addr} {H H' : Hp} {x dx b d t g f : Addr} {ts gs : List Addr} {N : NetV} (k : ButL A H H') (P : NetIn C H x dx b d t g f ts gs N) (h : ∀ a ∈ [x, b, d, t, g, f] ++ ts ++ gs, a ∉ A) : NetIn C H' x dx b d t g f ts gs N := by
  have m : ∀ a ∈ [x, b, d, t, g, f], a ∉ A := fun a ha => h a (List.mem_append_left _ (List.mem_append_left _ ha))
  exact ⟨k _ _ P.ob (m _ (by simp)), k _ _ P.hb (m _ (by simp)), k _ _ P.hd (m _ (by simp)), k _ _ P.ht (m _ (by simp)), k.rows P.tr fun a ha => h a (List.mem_append_left _ (List.mem_append_right _ ha)), k _ _ P.hg (m _ (by simp)), k.rows P.gr fun a ha => h a (List.mem_append_right _ ha), k _ _ P.hf (m _ (by simp))⟩
theorem Rows.memE {H : Hp} : ∀ {as : List Addr} {rs : List (List Int)}, Rows H as rs → ∀ a ∈ as, ∃ r ∈ rs, H a = some (.lst (vints r))
  | _, _, .nil, a, h => nomatch h
  | _, _, .cons (b := r) e R, a, h => by
    rcases List.mem_cons.mp h with q | q
    · subst q; exact ⟨r, List.mem_cons_self .., e⟩
    · obtain ⟨r', h1, h2⟩ := Rows.memE R a q
      exact ⟨r', List.mem_cons_of_mem _ h1, h2⟩
theorem PartsIn.has {H : Hp} {p b d t g f : Addr} {ts gs : List Addr} {N : NetV} (P : PartsIn H p b d t g f ts gs N) : ∀ a ∈ [p, b, d, t, g, f] ++ ts ++ gs, ∃ o, H a = some o := by
  intro a ha
  rcases List.mem_append.mp ha with ha | ha
  · rcases List.mem_append.mp ha with ha | ha
    · simp only [List.mem_cons, List.not_mem_nil, or_false] at ha
      rcases ha with rfl | rfl | rfl | rfl | rfl | rfl
      · exact ⟨_, P.top⟩
      · exact ⟨_, P.hb⟩
      · exact ⟨_, P.hd⟩
      · exact ⟨_, P.ht⟩
      · exact ⟨_, P.hg⟩
      · exact ⟨_, P.hf⟩
    · obtain ⟨r, _, e⟩ := P.tr.memE a ha; exact ⟨_, e⟩
  · obtain ⟨r, _, e⟩ := P.gr.memE a ha; exact ⟨_, e⟩
theorem Rows.rev {H : Hp} : ∀ {as : List Addr} {rs : List (List Int)}, Rows H as rs → Rows H as.reverse rs.reverse
  | _, _, .nil => .nil
  | _, _, .cons e R => by
    rw [List.reverse_cons, List.reverse_cons]
    exact (Rows.rev R).snoc e
theorem ButL.seq {A : List Addr} {K : PySem.W.Frag} {H H' : Hp} {a : Addr} {xs : List V} (k : ButL A H H') (h : SqL K H a xs) (n : ∀ u, H a = some u → a ∉ A) : SqL K H' a xs := by
  rcases h with (h | ⟨o, h⟩) | h
  · exact .inl (.inl (k _ _ h (n _ h)))
  · exact .inl (.inr ⟨o, k _ _ h (n _ h)⟩)
  · exact .inr h
/-- lists of at most n items at all these addresses -/
def Lsts (H : Hp) (n : Nat) (A : List Addr) : Prop := ∀ a ∈ A, ∃ xs, H a = some (.lst xs) ∧ xs.length ≤ n
theorem Lsts.upd {H : Hp} {n m : Nat} {A : List Addr} (h : Lsts H n A) {x : Addr} {ys : List V} (hl : ys.length ≤ m) (hm : n ≤ m) : Lsts (upd H x (.lst ys)) m A := fun a ha => by
  by_cases e : a = x
  · subst e; exact ⟨ys, upd_same, hl⟩
  · obtain ⟨xs, h1, h2⟩ := h a ha
    exact ⟨xs, by rw [upd_ne e]; exact h1, Nat.le_trans h2 hm⟩
theorem Lsts.same {H H' : Hp} {n : Nat} {A : List Addr} (h : Lsts H n A) (S : Same H H') : Lsts H' n A := fun a ha => let ⟨xs, h1, h2⟩ := h a ha; ⟨xs, S _ _ h1, h2⟩
end L2

namespace L2
open PySem PySem.Spec PyProof.Rows
/-! ### f-strings of texts and ints -/
abbrev TJ := Str → St → Hp → (Str → Hp → Prop) → Prop
def PJ (X : Cx) (es : List Expr) (t : TJ) : Prop :=
  ∀ (pins : List (Addr × Obj)) (s : Shared) (σ : St) (H : Hp) (acc : Str) (Q : Str → Hp → Prop), Inv X pins σ H s → t acc σ H Q →
    Joins (model X.prog X.w) X.A X.xe (evalEach es X.env) acc (fun out s₁ => out.length ≤ sizeLine ∧ ∃ H', Inv X pins σ H' s₁ ∧ Q out H') s
section
variable {X : Cx} {e : Expr} {es : List Expr} {te : TE} {tr : TJ}
def jNil : TJ := fun acc _ H Q => acc.length ≤ sizeLine ∧ Q acc H
def jStr (x : Str) (tr : TJ) : TJ := fun acc σ H Q => (acc ++ x).length ≤ sizeLine ∧ tr (acc ++ x) σ H Q
def FmtV (v : V) (y : Str) : Prop := (v = .str y ∧ y.length ≤ sizeLine) ∨ ∃ i : Int, v = .int i ∧ i.natAbs.log2 < 1920 ∧ y = toString i
def jVal (te : TE) (tr : TJ) : TJ := fun acc σ H Q => te σ H fun v H1 => ∃ y, FmtV v y ∧ (acc ++ y).length ≤ sizeLine ∧ tr (acc ++ y) σ H1 Q
theorem pj_nil : PJ X [] jNil := fun _ _ _ H _ _ I h => ⟨h.1, H, I, h.2⟩
theorem pj_str {x : Str} {j pos} (hr : PJ X es tr) : PJ X (.Constant (.str x) j pos :: es) (jStr x tr) := by
  intro pins s σ H acc Q I h
  show wpAny _ _ (eval (.Constant (.str x) j pos) X.env) _ _ s
  refine Calls.Constant_str ⟨x, _, rfl, h.1, ?_⟩
  exact hr pins _ σ H (acc ++ x) Q (I.tok _) h.2
theorem pj_val {pos : Pos} (he : PE X e te) (hr : PJ X es tr) : PJ X (.FormattedValue e (-1) none pos :: es) (jVal te tr) := by
  intro pins s σ H acc Q I h
  show wpAny _ _ (eval (.FormattedValue e (-1) none pos) X.env) _ _ s
  refine wpAny_FormattedValue_plain (thn (he pins s σ H _ I h) fun v s1 ⟨x, H1, I1, r1, y, f, hz, q⟩ => ?_)
  rcases f with ⟨rfl, hy⟩ | ⟨i, rfl, hi, rfl⟩
  · obtain ⟨t, rfl⟩ := r1
    exact wpAny_formatField_str ⟨y, _, rfl, hz, hr pins _ σ H1 (acc ++ y) Q I1 q⟩ ⟨y, _, rfl, hz, hr pins _ σ H1 (acc ++ y) Q (I1.tok _) q⟩ hy
  · obtain ⟨t, rfl⟩ := r1
    exact wpAny_formatField_int hi ⟨_, _, rfl, hz, hr pins _ σ H1 (acc ++ toString i) Q (I1.tok _) q⟩
theorem joins_mono {M : Model} {A : Around} {E : Value → Shared → Prop} : ∀ {parts : List (Sem Value)} {acc : Str} {Q Q' : Str → Shared → Prop} {s : Shared}, Joins M A E parts acc Q s → (∀ o s, Q o s → Q' o s) → Joins M A E parts acc Q' s
  | [], _, _, _, _, h, hq => hq _ _ h
  | _ :: _, _, _, _, _, h, hq => wpAny_mono h (fun _ _ ⟨y, t, e, hl, hj⟩ => ⟨y, t, e, hl, joins_mono hj hq⟩) fun _ _ z => z
theorem pe_fstr {e1 e2 : Expr} {t : TJ} {pos : Pos} (h : PJ X (e1 :: e2 :: es) t) : PE X (.JoinedStr (e1 :: e2 :: es) pos) (fun σ H Q => t Str.empty σ H fun y H' => Q (.str y) H') := by
  intro pins s σ H Q I q
  refine wpAny_JoinedStr ?_
  have := h pins s σ H Str.empty (fun y H' => Q (.str y) H') I q
  refine joins_mono this fun out s1 ⟨hl, H', I', q'⟩ => ⟨hl, .str out, H', I'.tok _, ⟨_, rfl⟩, q'⟩
end
end L2

namespace L2
open PySem PySem.Spec PyProof.Rows
/-! ### enumerate of a list, its pairs taken apart by a written tuple -/
def Ite (K : PySem.W.Frag) (a : Addr) : It where
  go i H := ∃ xs x, SqL K H a xs ∧ xs[i]? = some x
  yld i H v H' := ∃ p x, H p = none ∧ v = .ref p ∧ H' = upd H p (.tup [.int (i : Nat), x]) ∧ ∀ xs, SqL K H a xs → xs[i]? = some x
  stop i H := ∃ xs, SqL K H a xs ∧ xs.length ≤ i
theorem turn_enum {P : Program} {w : World} {K : PySem.W.Frag} {elts : List Expr} {kx} {tpos : Pos} {e it a : Addr} (hne : e ≠ it) : Turn P w K (.Tuple elts kx tpos) (Ite K a) [e, it] e
    (fun i h => (∃ old, IsEnum h e it (i : Nat) old) ∧ h.IsListIter it a i) where
  mem := by simp
  obj := fun i h st c hc => by
    obtain ⟨⟨old, he⟩, ⟨o1, e1, _, d1⟩⟩ := st
    simp only [List.mem_cons, List.not_mem_nil, or_false] at hc
    rcases hc with rfl | rfl
    · exact ⟨_, he, fun v q => by cases q⟩
    · exact ⟨_, e1, fun v q => by rw [d1] at q; cases q⟩
  keep := fun i h h' st k => by
    obtain ⟨⟨old, he⟩, h1⟩ := st
    exact ⟨⟨old, k e (by simp) _ he⟩, h1.at fun o q => k it (by simp) o q⟩
  item := by
    intro X hP hw hK hc i pins s σ H E I hf st hg
    subst hP hw hK
    obtain ⟨xs, x, qa, hx⟩ := hg
    obtain ⟨its1, rv1, p1, z1⟩ := I.list qa
    obtain ⟨u1, hu1, ru1⟩ := rv1.get hx
    obtain ⟨⟨old, he⟩, h1⟩ := st
    refine wpAny_pyNext_enum_item he h1 p1.isList (x := u1) (by simpa using hu1) hne fun h' a1 a2 a3 a4 hk => ?_
    refine ⟨_, rfl, wpAny_letOwnedTupleGo_enum a1 fun h'' he'' sb => ?_⟩
    have elt := Heap.lt_size he
    have pz : s.heap.objs.size ≠ e := Nat.ne_of_gt elt
    have hfr := I.hok.fresh (Nat.le_refl s.heap.objs.size)
    have I1 : Inv X pins σ H { s with heap := h'', toks := s.toks + 1 } := I.turnedL (t' := s.toks + 1) (ch := [e, it]) (fun c o hb q => by
      simp only [List.mem_cons, List.not_mem_nil, or_false, not_or] at hb
      exact sb.extBut c o hb.1 (hk c o hb.1 hb.2 q)) (fun c hb => hf c hb)
    have hp : h''.get? s.heap.objs.size = some { cls := .type "tuple", data := .seq #[.int i s.toks, u1] } := sb.extBut _ _ pz a3
    have I2 : Inv X pins σ (upd H s.heap.objs.size (.tup [.int (i : Nat), x])) { s with heap := h'', toks := s.toks + 1 } := I1.track (I.fpOk (Nat.le_refl _) hfr) ⟨by show 2 ≤ sizeLine; decide, [.int i s.toks, u1], .cons ⟨_, rfl⟩ (.cons ru1 .nil), ⟨_, hp, rfl, _, rfl⟩⟩
    refine ⟨.ref s.heap.objs.size, _, I2, rfl, ⟨_, x, hfr, rfl, rfl, fun xs' q => by rw [I.list_inj q qa]; exact hx⟩, ⟨⟨_, he''⟩, a2.extBut sb.extBut (Ne.symm hne)⟩, fun c hb => ?_⟩
    rw [upd_ne (fun q => ?_)]
    · exact (hf c hb).1
    · have hlt : c < s.heap.objs.size := by
        obtain ⟨o1, e1, _⟩ := h1
        simp only [List.mem_cons, List.not_mem_nil, or_false] at hb
        rcases hb with rfl | rfl
        · exact Heap.lt_size he
        · exact Heap.lt_size e1
      rw [q] at hlt
      exact Nat.lt_irrefl _ hlt
  done := by
    intro X hP hw hK hc i pins s σ H E I hf st hg
    subst hP hw hK
    obtain ⟨xs, qa, hend⟩ := hg
    obtain ⟨its1, rv1, p1, z1⟩ := I.list qa
    obtain ⟨⟨old, he⟩, h1⟩ := st
    have l1 := rv1.length
    refine wpAny_pyNext_enum_end (I.ok.hd hc) he h1 p1.isList (by simp; omega) fun h' hk => ⟨rfl, ?_⟩
    exact I.turnedL (t' := s.toks) (ch := [it]) (fun c o hb q => hk c o (fun z => hb (by simp [z])) q) (fun c hb => hf c (by
      have z : c = it := by simpa using hb
      rw [z]; simp))
  self := fun _ _ _ _ _ st h => let ⟨⟨_, he⟩, _⟩ := st; wpAny_pyIter_enum he h
section
variable {X : Cx}
def iEnum (K : PySem.W.Frag) (ta : TA) : TI := fun σ H R => ta σ H fun vs H1 => ∃ a xs, vs = [.ref a] ∧ SqL K H1 a xs ∧ R (Ite K a) H1
theorem pi_enum {ea : Expr} {ta : TA} {elts : List Expr} {kx} {tpos p pos : Pos} (hg : Gl X "enumerate") (hm : X.mg "enumerate" = none) (ha : PA X [ea] ta) (hs : starEach [ea] X.env = [(false, eval ea X.env)] := by rfl) :
    PI X (.Tuple elts kx tpos) (.Call (.Name "enumerate" p) [ea] [] pos) (iEnum X.K ta) := by
  intro pins s σ H R I h
  refine Call_ (ld_blt I hg hm (by rfl : bootBuiltins "enumerate" = some (.type "enumerate")) (PyProof.Rows.callWith_type1 (thn (ha pos pins s σ H _ I h) fun us s1 ⟨vs, H1, I1, r1, q1⟩ => ?_) hs rfl))
  obtain ⟨a, xs, e, qa, q⟩ := q1
  subst e
  cases r1 with
  | cons r rr =>
    cases rr
    cases r
    obtain ⟨its1, rv1, p1, z1⟩ := I1.list qa
    refine call_enumerate_list p1.isList fun h' he h1 hsz hk => wpAny_pyIter_enum he ?_
    refine ⟨s1.heap.objs.size + 1, [s1.heap.objs.size + 1, s1.heap.objs.size], _, _, H1, rfl, I1.kept (t' := s1.toks) hk, turn_enum (Nat.ne_of_gt (Nat.lt_succ_self _)), ⟨⟨_, he⟩, h1⟩, fun c hb => ?_, q⟩
    have hle : s1.heap.objs.size ≤ c := by
      simp only [List.mem_cons, List.not_mem_nil, or_false] at hb
      rcases hb with q | q
      · rw [q]; exact Nat.le_add_right _ _
      · rw [q]; exact Nat.le_refl _
    exact I1.fpOk hle (I1.hok.fresh hle)
end
/-- a loop over enumerate -/
theorem for_enum {K : PySem.W.Frag} {g : TG} {a : Addr} {xs : List V} {tb : TS} {D : Ends} {σ : St} {H : Hp} (Pv : Nat → St → Hp → Prop) (h0 : Pv 0 σ H) (hl : ∀ i σ H, i ≤ xs.length → Pv i σ H → SqL K H a xs)
    (hs : ∀ i x p σ H, xs[i]? = some x → Pv i σ H → H p = none → g (.ref p) σ (upd H p (.tup [.int (i : Nat), x])) fun σ2 H2 => tb { D with nx := Pv (i + 1), ct := Pv (i + 1), bk := D.nx } σ2 H2) (hd : ∀ σ H, Pv xs.length σ H → D.nx σ H) :
    ∃ W : Nat → Nat → St → Hp → Prop, (∃ m, W 0 m σ H) ∧ ∀ i m σ H, W i m σ H →
      ((Ite K a).stop i H ∧ D.nx σ H) ∨ ((Ite K a).go i H ∧ ∃ N : St → Hp → Prop, (∀ σ' H', N σ' H' → ∃ m', m' < m ∧ W (i + 1) m' σ' H') ∧ ∀ x H', (Ite K a).yld i H x H' → g x σ H' fun σ2 H2 => tb { D with nx := N, ct := N, bk := D.nx } σ2 H2) := by
  refine ⟨fun i m σ H => m = xs.length - i ∧ i ≤ xs.length ∧ Pv i σ H, ⟨xs.length, by simp, Nat.zero_le _, h0⟩, ?_⟩
  rintro i m σ H ⟨rfl, hi, p⟩
  have qa := hl i σ H hi p
  by_cases hlt : i < xs.length
  · refine .inr ⟨⟨xs, xs[i], qa, by simp [hlt]⟩, Pv (i + 1), fun σ' H' p' => ⟨xs.length - (i + 1), by omega, rfl, hlt, p'⟩, fun v H' y => ?_⟩
    obtain ⟨q, x, hq, e1, e2, hx⟩ := y
    subst e1 e2
    exact hs i x q σ H (hx xs qa) p hq
  · have e : i = xs.length := by omega
    subst e
    exact .inl ⟨⟨xs, qa, Nat.le_refl _⟩, hd σ H p⟩
end L2

namespace L2
open PySem PySem.Spec PyProof.Rows SeqAt
/-! ### texts put together -/
abbrev txI (c : Int) : Str := Str.ofString (toString c)
theorem txI_len {c : Int} (h0 : 0 ≤ c) (h1 : c ≤ 1000000000) : (txI c).length ≤ 11 := by
  have := int_text_length_le10 (a := c) (k := 10) (by decide) (by omega)
  rw [PySem.ofString_length]
  exact this
theorem log_small {c : Int} (h0 : 0 ≤ c) (h1 : c ≤ 1000000000) : c.natAbs.log2 < 1920 := by
  by_cases h : c.natAbs = 0
  · rw [h]; decide
  · rw [Nat.log2_lt h]
    exact Nat.lt_of_lt_of_le (show c.natAbs < 2 ^ 30 by omega) (Nat.pow_le_pow_right (by decide) (by decide))
def piece (y : Str) (c : Int) : Str := Str.empty ++ txI c ++ Str.ofString " " ++ y
def pcs (ys : List Str) (r : List Int) : List Str := ((ys.zip r).filter fun p => decide (0 < p.2)).map fun p => piece p.1 p.2
def ptx (ys : List Str) (r : List Int) : Str := if pcs ys r = [] then Str.ofString "-" else Str.join (Str.ofString " + ") (pcs ys r)
def catS (sep : Str) (ps : List Str) : Str := ps.foldl (fun acc p => acc ++ sep ++ p) Str.empty
theorem catS_snoc (sep : Str) (ps : List Str) (p : Str) : catS sep (ps ++ [p]) = catS sep ps ++ sep ++ p := by
  unfold catS
  rw [List.foldl_append]
  rfl
theorem cat_go (sep : Str) : ∀ (r : List Str) (x acc : Str), r.foldl (fun a q => a ++ sep ++ q) (acc ++ sep ++ x) = acc ++ sep ++ Str.join sep (x :: r)
  | [], _, _ => rfl
  | z :: r, x, acc => by
    rw [List.foldl_cons, cat_go sep r z (acc ++ sep ++ x)]
    show acc ++ sep ++ x ++ sep ++ Str.join sep (z :: r) = acc ++ sep ++ (x ++ sep ++ Str.join sep (z :: r))
    simp only [Str.append_assoc]
theorem catS_join (sep : Str) {ps : List Str} (h : ps ≠ []) : catS sep ps = sep ++ Str.join sep ps := by
  cases ps with
  | nil => exact absurd rfl h
  | cons x r =>
    unfold catS
    rw [List.foldl_cons, cat_go, Str.empty_append]
theorem cut_off (a b : Str) : cutS (a ++ b) (some (a.length : Int)) none = b := by
  unfold cutS
  rw [HT.sIx_nat, HT.sIx_none, Str.length_append, Nat.min_eq_left (Nat.le_add_right _ _)]
  refine Str.ext' (Array.toList_inj.mp ?_)
  have e : (a ++ b).cps.toList = a.cps.toList ++ b.cps.toList := by rw [Str.cps_append, Array.toList_append]
  have la : a.cps.toList.length = a.length := Array.length_toList
  have lb : b.cps.toList.length = b.length := Array.length_toList
  rw [e, List.drop_append_of_le_length (by omega), ← la, List.drop_length, List.nil_append, List.take_of_length_le (by omega)]
theorem catS_len {sep : Str} {B : Nat} : ∀ {ps : List Str}, (∀ p ∈ ps, p.length ≤ B) → (catS sep ps).length ≤ ps.length * (sep.length + B) := by
  have go : ∀ (n : Nat) (ps : List Str), ps.length = n → (∀ p ∈ ps, p.length ≤ B) → (catS sep ps).length ≤ ps.length * (sep.length + B) := by
    intro n
    induction n with
    | zero =>
      intro ps h _
      rw [List.length_eq_zero_iff.mp h]
      exact Nat.zero_le _
    | succ n ih =>
      intro ps h hb
      have hne : ps ≠ [] := by intro e; rw [e] at h; cases h
      have e := List.dropLast_concat_getLast hne
      have hl : ps.dropLast.length = n := by rw [List.length_dropLast]; omega
      have i := ih ps.dropLast hl fun p hp => hb p (List.dropLast_subset ps hp)
      have g := hb _ (List.getLast_mem hne)
      have e2 : catS sep ps = catS sep ps.dropLast ++ sep ++ ps.getLast hne := by rw [← catS_snoc, e]
      rw [e2, Str.length_append, Str.length_append, h, Nat.succ_mul]
      rw [hl] at i
      omega
  exact fun {ps} h => go _ ps rfl h
theorem catS_ne {sep : Str} {ps : List Str} (hs : 0 < sep.length) (h : ps ≠ []) : catS sep ps ≠ Str.empty := by
  intro e
  have := congrArg Str.length (e ▸ catS_join sep h)
  rw [Str.length_append] at this
  have z : Str.empty.length = 0 := rfl
  omega
theorem piece_len {y : Str} {c : Int} (hy : y.length ≤ 8) (h0 : 0 ≤ c) (h1 : c ≤ 1000000000) : (piece y c).length ≤ 20 := by
  unfold piece
  have := txI_len h0 h1
  have z : Str.empty.length = 0 := rfl
  have o : (Str.ofString " ").length = 1 := by decide +kernel
  rw [Str.length_append, Str.length_append, Str.length_append, z, o]
  omega
def rowB (y : Str) (c : Int) : Str := Str.empty ++ Str.ofString "bowl " ++ y ++ Str.ofString " " ++ txI c
def rowD (y t g : Str) : Str := Str.empty ++ Str.ofString "door " ++ y ++ Str.ofString " " ++ t ++ Str.ofString " > " ++ g
section
variable {X : Cx}
theorem hu0_of {A : Around} {k : Nat} (hr : Room k A) : A.units < cLine := hr.units0
def rEqE (K : PySem.W.Frag) : R2 := fun x y H Q => ∃ a b xs, x = .ref a ∧ y = .ref b ∧ SqL K H a xs ∧ SqL K H b [] ∧ Q (.bl xs.isEmpty) H
theorem op_eqE (hu : X.A.units < cLine) : OpR X (compareOp .Eq) (rEqE X.K) := by
  intro pins s σ H x y v u Q I rx ry h
  obtain ⟨a, b, xs, rfl, rfl, qa, qb, q⟩ := h
  cases rx
  cases ry
  cases xs with
  | nil => exact (rc_true I hu qa qb rfl fun j x y u v hx => by simp at hx).1 _ _ _ _ ⟨.bl _, H, I, rfl, q⟩
  | cons x xs =>
    obtain ⟨its, rv, p, _⟩ := I.list qa
    obtain ⟨its2, rw', p2, _⟩ := I.list qb
    have l1 := rv.length
    have l2 := rw'.length
    exact RcAt.lists_lengths p.isList p2.isList (by simp at l1 l2 ⊢; omega) hu _ _ _ _ ⟨.bl _, H, I, rfl, q⟩
end
theorem pcs_snoc {ys : List Str} {r : List Int} {i : Nat} {y : Str} {c : Int} (hy : ys[i]? = some y) (hc : r[i]? = some c) : pcs (ys.take (i + 1)) (r.take (i + 1)) = pcs (ys.take i) (r.take i) ++ (if 0 < c then [piece y c] else []) := by
  unfold pcs
  have l1 := (List.getElem?_eq_some_iff.mp hy).1
  have l2 := (List.getElem?_eq_some_iff.mp hc).1
  rw [List.take_add_one, List.take_add_one, hy, hc, Option.toList_some, Option.toList_some, List.zip_append (by rw [List.length_take, List.length_take]; omega), List.filter_append, List.map_append]
  by_cases h : 0 < c
  · simp [h]
  · simp [h]
theorem pcs_le {ys : List Str} {r : List Int} : (pcs ys r).length ≤ ys.length := by
  unfold pcs
  rw [List.length_map]
  refine Nat.le_trans (List.length_filter_le _ _) ?_
  rw [List.length_zip]
  omega
theorem pcs_len {ys : List Str} {r : List Int} (hy : ∀ y ∈ ys, y.length ≤ 8) (hr : ∀ c ∈ r, 0 ≤ c ∧ c ≤ 1000000000) : ∀ p ∈ pcs ys r, p.length ≤ 20 := by
  intro p hp
  unfold pcs at hp
  obtain ⟨⟨y, c⟩, h1, rfl⟩ := List.mem_map.mp hp
  have h2 := List.of_mem_zip (List.mem_filter.mp h1).1
  exact piece_len (hy _ h2.1) (hr _ h2.2).1 (hr _ h2.2).2
theorem ptx_len {ys : List Str} {r : List Int} (hl : ys.length ≤ 6) (hy : ∀ y ∈ ys, y.length ≤ 8) (hr : ∀ c ∈ r, 0 ≤ c ∧ c ≤ 1000000000) : (ptx ys r).length ≤ 200 := by
  unfold ptx
  by_cases h : pcs ys r = []
  · rw [if_pos h]; decide +kernel
  · rw [if_neg h]
    have := join_le (sep := Str.ofString " + ") (pcs_len hy hr)
    have p := pcs_le (ys := ys) (r := r)
    have o : (Str.ofString " + ").length = 3 := by decide +kernel
    rw [o] at this
    omega
end L2

namespace L2
open PySem PySem.Spec PyProof.Rows SeqAt
/-! ### a list walked from its end -/
def Itv (K : PySem.W.Frag) (a : Addr) (xs : List V) : It :=
  ⟨fun i H => SqL K H a xs ∧ i < xs.length, fun i H x H' => H' = H ∧ xs.reverse[i]? = some x, fun i H => SqL K H a xs ∧ xs.length ≤ i⟩
theorem turn_rev {P : Program} {w : World} {K : PySem.W.Frag} {tg : Expr} (a it : Addr) (xs : List V) : Turn P w K tg (Itv K a xs) [it] it (fun i h => i ≤ xs.length ∧ h.IsRevIter it a ((xs.length : Int) - 1 - (i : Int))) where
  mem := by simp
  obj := fun i h st b hb => by
    have e : b = it := by simpa using hb
    subst e
    obtain ⟨_, o, e, c, d⟩ := st
    exact ⟨o, e, fun v z => by rw [d] at z; cases z⟩
  keep := fun i h h' st k => ⟨st.1, st.2.at fun o e => k it (by simp) o e⟩
  item := by
    intro X hP hw hK hc i pins s σ H E I hf st hg
    subst hP hw hK
    obtain ⟨hq, hi⟩ := hg
    obtain ⟨its, rv, p, hz⟩ := I.list hq
    have hl := rv.length
    obtain ⟨f0, f1, f2, f3, f4, f5⟩ := hf it (by simp)
    obtain ⟨_, st⟩ := st
    have e : (xs.length : Int) - 1 - (i : Int) = ((xs.length - 1 - i : Nat) : Int) := by omega
    rw [e] at st
    have hx : xs[xs.length - 1 - i]? = some (xs[xs.length - 1 - i]'(by omega)) := List.getElem?_eq_getElem (by omega)
    obtain ⟨u, hu, ru⟩ := rv.get hx
    refine wpAny_pyNext_rev_item st p.isList (x := u) (by simpa using hu) fun h' st' sb => ?_
    have I1 : Inv X pins σ H { s with heap := h' } := I.turned (t' := s.toks) (fun b o hb e => (sb.2 b hb).trans e) f0 f1 f3 f4 f5
    have e2 : ((xs.length - 1 - i : Nat) : Int) - 1 = (xs.length : Int) - 1 - ((i + 1 : Nat) : Int) := by omega
    rw [e2] at st'
    obtain ⟨o, e, c, d⟩ := id st'
    exact ⟨u, rfl, go_of (s := { s with heap := h' }) e c d (by decide) ⟨_, H, I1, ru, ⟨rfl, by rw [List.getElem?_reverse hi]; exact hx⟩, ⟨hi, st'⟩, fun b hb => (hf b hb).1⟩⟩
  done := by
    intro X hP hw hK hc i pins s σ H E I hf st hg
    subst hP hw hK
    obtain ⟨hq, hx⟩ := hg
    obtain ⟨f0, f1, f2, f3, f4, f5⟩ := hf it (by simp)
    obtain ⟨hle, st⟩ := st
    have e : (xs.length : Int) - 1 - (i : Int) = -1 := by omega
    rw [e] at st
    exact wpAny_pyNext_rev_end (I.ok.hd hc) st fun h' eb => ⟨rfl, I.turned (t' := s.toks) (fun b o hb e => eb b o hb e) f0 f1 f3 f4 f5⟩
  self := fun _ _ _ _ _ st h => wpAny_pyIter_revIter st.2 h
section
variable {X : Cx}
def iRev (K : PySem.W.Frag) (ta : TA) : TI := fun σ H R => ta σ H fun vs H1 => ∃ a xs, vs = [.ref a] ∧ SqL K H1 a xs ∧ R (Itv K a xs) H1
theorem pi_rev {tg ea : Expr} {ta : TA} {p pos : Pos} (hg : Gl X "reversed") (hm : X.mg "reversed" = none) (ha : PA X [ea] ta) (hs : starEach [ea] X.env = [(false, eval ea X.env)] := by rfl) :
    PI X tg (.Call (.Name "reversed" p) [ea] [] pos) (iRev X.K ta) := by
  intro pins s σ H R I h
  refine Call_ (ld_blt I hg hm (by rfl : bootBuiltins "reversed" = some (.type "reversed")) (PyProof.Rows.callWith_type1 (thn (ha pos pins s σ H _ I h) fun us s1 ⟨vs, H1, I1, r1, q1⟩ => ?_) hs rfl))
  obtain ⟨a, xs, e, qa, q⟩ := q1
  subst e
  cases r1 with
  | cons r rr =>
    cases rr
    cases r
    obtain ⟨its1, rv1, p1, z1⟩ := I1.list qa
    have hl := rv1.length
    refine call_reversed_list p1.isList ?_
    have hit : (s1.heap.push (revObj a ((its1.toArray.size : Int) - 1))).IsRevIter s1.heap.objs.size a ((xs.length : Int) - 1 - ((0 : Nat) : Int)) := by
      refine ⟨_, Heap.get?_push_size _ rfl, rfl, ?_⟩
      have e : ((its1.toArray.size : Nat) : Int) - 1 = (xs.length : Int) - 1 - ((0 : Nat) : Int) := by rw [List.size_toArray]; omega
      unfold revObj
      rw [e]
    refine wpAny_pyIter_revIter (s := { s1 with heap := s1.heap.push (revObj a ((its1.toArray.size : Int) - 1)) }) hit ?_
    refine ⟨s1.heap.objs.size, [s1.heap.objs.size], _, _, H1, rfl, I1.kept (t' := s1.toks) fun b o e => Heap.get?_push_of_some _ e, turn_rev a _ xs, ⟨Nat.zero_le _, hit⟩, fun b hb => ?_, q⟩
    have e : b = s1.heap.objs.size := by simpa using hb
    subst e
    exact I1.fpOk (Nat.le_refl _) (I1.hok.fresh (Nat.le_refl _))
end
theorem for_rev {K : PySem.W.Frag} {a : Addr} {xs : List V} {g : TG} {tb : TS} {D : Ends} {σ : St} {H : Hp} (Pv : Nat → St → Hp → Prop) (h0 : Pv 0 σ H) (hl : ∀ i σ H, i ≤ xs.length → Pv i σ H → SqL K H a xs)
    (hs : ∀ i x σ H, xs.reverse[i]? = some x → Pv i σ H → g x σ H fun σ2 H2 => tb { D with nx := Pv (i + 1), ct := Pv (i + 1), bk := D.nx } σ2 H2) (hd : ∀ σ H, Pv xs.length σ H → D.nx σ H) :
    ∃ W : Nat → Nat → St → Hp → Prop, (∃ m, W 0 m σ H) ∧ ∀ i m σ H, W i m σ H →
      ((Itv K a xs).stop i H ∧ D.nx σ H) ∨ ((Itv K a xs).go i H ∧ ∃ N : St → Hp → Prop, (∀ σ' H', N σ' H' → ∃ m', m' < m ∧ W (i + 1) m' σ' H') ∧ ∀ x H', (Itv K a xs).yld i H x H' → g x σ H' fun σ2 H2 => tb { D with nx := N, ct := N, bk := D.nx } σ2 H2) := by
  refine ⟨fun i m σ H => m = xs.length - i ∧ i ≤ xs.length ∧ Pv i σ H, ⟨xs.length, by simp, Nat.zero_le _, h0⟩, ?_⟩
  rintro i m σ H ⟨rfl, hi, p⟩
  have qa := hl i σ H hi p
  by_cases hlt : i < xs.length
  · refine .inr ⟨⟨qa, hlt⟩, Pv (i + 1), fun σ' H' p' => ⟨xs.length - (i + 1), by omega, rfl, hlt, p'⟩, fun v H' y => ?_⟩
    obtain ⟨e, hx⟩ := y
    subst e
    exact hs i v σ _ hx p
  · have e : i = xs.length := by omega
    subst e
    exact .inl ⟨⟨qa, Nat.le_refl _⟩, hd σ H p⟩
/-! ### count, min of a list, lists of rows told alike -/
theorem ints_are : ∀ {ns : List Int} {its : List Value}, Vals (vints ns) its → IntsAre its ns
  | [], _, .nil => IntsAre.nil
  | n :: ns, _, .cons r rr => by
    obtain ⟨t, rfl⟩ := r
    exact IntsAre.cons _ _ (ints_are rr)
section
variable {X : Cx}
def rCount (K : PySem.W.Frag) : V → List V → Hp → VK → Prop := fun x vs H Q => ∃ (l : Addr) (ns : List Int) (k : Int), x = .ref l ∧ vs = [.int k] ∧ SqL K H l (vints ns) ∧ Q (.int (ns.count k : Nat)) H
theorem mt_count : MtM X "list.count" (rCount X.K) := by
  intro pins s σ H x vs v us Q I rx rv h
  obtain ⟨l, ns, k, rfl, rfl, hH, q⟩ := h
  cases rx
  obtain ⟨u, rfl, t, rfl⟩ := rv.one
  obtain ⟨its, r, p, _⟩ := I.list hH
  exact count_list_ints p.isList (ints_are r) ⟨.int (ns.count k : Nat), H, I.tok _, ⟨_, rfl⟩, q⟩
theorem call_min_list (hc : X.calm = true) : CallR X (.builtin "min") (fun xs H Q => ∃ (a : Addr) (ns : List Int), xs = [.ref a] ∧ SqL X.K H a (vints ns) ∧ 0 < ns.length ∧ ∀ M : Int, M ∈ ns → (∀ n ∈ ns, M ≤ n) → Q (.int M) H) := by
  intro pins s σ H xs us Q I r h
  obtain ⟨a, ns, e, hq, hne, q⟩ := h
  subst e
  obtain ⟨u, rfl, r1⟩ := vals1 r
  obtain rfl : u = Value.ref a := r1
  obtain ⟨its, rv, p, hz⟩ := I.list hq
  have hi := ints_are rv
  have hl := p.isList
  obtain ⟨xs, e⟩ := hi.allInts.items
  have hns : ns = xs.toList.map (·.1) := by
    rw [← hi.numsOf, ← nums_intItems, ← e]
  have hsz : 0 < xs.size := by
    have h3 := hne; rw [hns, List.length_map, Array.length_toList] at h3; exact h3
  rw [e] at hl
  refine min_intList (I.ok.hd hc) hl hsz fun v h' tk hv hk => ?_
  obtain ⟨t, rfl⟩ := intItems_at hv
  obtain ⟨h1, h2⟩ := argBest_lt (numAt xs) (xs.size - 1)
  refine ⟨.int _, H, I.kept hk, ⟨_, rfl⟩, q _ ?_ fun n hn => ?_⟩
  · have hb : argBest (fun i j => decide (numAt xs i < numAt xs j)) (xs.size - 1) < (xs.toList.map (·.1)).length := by rw [List.length_map, Array.length_toList]; omega
    rw [hns, numAt_eq, List.getD_eq_getElem?_getD, List.getElem?_eq_getElem hb]
    exact List.getElem_mem hb
  · rw [hns] at hn
    obtain ⟨j, hj, rfl⟩ := mem_getD hn
    rw [List.length_map, Array.length_toList] at hj
    rw [← numAt_eq]; exact h2 j (by omega)
def rEqW (K : PySem.W.Frag) : R2 := fun x y H Q => ∃ (a b : Addr) (as bs : List Addr) (rs : List (List Int)), x = .ref a ∧ y = .ref b ∧ SqL K H a (as.map V.ref) ∧ SqL K H b (bs.map V.ref) ∧ Rows H as rs ∧ Rows H bs rs ∧ Q (.bl true) H
theorem op_eqW (hu : X.A.units + 2 < cLine) : OpR X (compareOp .Eq) (rEqW X.K) := by
  intro pins s σ H x y v u Q I rx ry h
  obtain ⟨a, b, as, bs, rs, rfl, rfl, qa, qb, ra, rb, q⟩ := h
  cases rx
  cases ry
  refine (rc_true I (by omega) qa qb (by rw [List.length_map, List.length_map, ra.length, rb.length]) fun j x y u v hx hy ru rv => ?_).1 _ _ _ _ ⟨.bl _, H, I, rfl, q⟩
  obtain ⟨c, hc, rfl⟩ := refs_get hx
  obtain ⟨d, hd, rfl⟩ := refs_get hy
  obtain ⟨r, hr, ec⟩ := Paired.getL ra hc
  obtain ⟨r', hr', ed⟩ := Paired.getL rb hd
  rw [hr] at hr'
  cases hr'
  cases ru
  cases rv
  exact eq_flat I (by rw [in1_units]; omega) (SqL.of ec) (SqL.of ed) (flat_int r)
end
/-! ### rows of doors that go -/
def sub (xs ys : List Int) : List Int := List.zipWith (fun i j => i - j) xs ys
def add (xs ys : List Int) : List Int := List.zipWith (fun i j => i + j) xs ys
def hi2 (xs ys : List Int) : List Int := List.zipWith mx xs ys
theorem sub_len {xs ys : List Int} {z : Nat} (h1 : xs.length = z) (h2 : ys.length = z) : (sub xs ys).length = z := by unfold sub; rw [List.length_zipWith, h1, h2, Nat.min_self]
theorem add_len {xs ys : List Int} {z : Nat} (h1 : xs.length = z) (h2 : ys.length = z) : (add xs ys).length = z := by unfold add; rw [List.length_zipWith, h1, h2, Nat.min_self]
theorem hi2_len {xs ys : List Int} {z : Nat} (h1 : xs.length = z) (h2 : ys.length = z) : (hi2 xs ys).length = z := by unfold hi2; rw [List.length_zipWith, h1, h2, Nat.min_self]
theorem zip_at (f : Int → Int → Int) {xs ys : List Int} {i : Nat} (h1 : i < xs.length) (h2 : i < ys.length) : (List.zipWith f xs ys).getD i 0 = f (xs.getD i 0) (ys.getD i 0) := by
  simp [List.getD_eq_getElem?_getD, List.getElem?_zipWith, List.getElem?_eq_getElem h1, List.getElem?_eq_getElem h2]
theorem sub_at {xs ys : List Int} {z i : Nat} (h1 : xs.length = z) (h2 : ys.length = z) (h : i < z) : (sub xs ys).getD i 0 = xs.getD i 0 - ys.getD i 0 := zip_at _ (by omega) (by omega)
theorem add_at {xs ys : List Int} {z i : Nat} (h1 : xs.length = z) (h2 : ys.length = z) (h : i < z) : (add xs ys).getD i 0 = xs.getD i 0 + ys.getD i 0 := zip_at _ (by omega) (by omega)
theorem hi2_at {xs ys : List Int} {z i : Nat} (h1 : xs.length = z) (h2 : ys.length = z) (h : i < z) : (hi2 xs ys).getD i 0 = mx (xs.getD i 0) (ys.getD i 0) := zip_at _ (by omega) (by omega)
theorem rep_at (z i : Nat) : (List.replicate z (0 : Int)).getD i 0 = 0 := by
  simp only [List.getD_eq_getElem?_getD, List.getElem?_replicate]
  split <;> rfl
theorem mx_le {a b c : Int} : mx a b ≤ c ↔ a ≤ c ∧ b ≤ c := by unfold mx; split <;> omega
theorem le_mx1 {a b : Int} : a ≤ mx a b := by unfold mx; split <;> omega
theorem le_mx2 {a b : Int} : b ≤ mx a b := by unfold mx; split <;> omega
theorem bn_iff : ∀ {xs ys : List Int} {z : Nat}, xs.length = z → ys.length = z → (bn xs ys = true ↔ ∀ i, i < z → xs.getD i 0 ≤ ys.getD i 0)
  | [], [], z, h, _ => by subst h; simp [bn]
  | x :: xs, [], z, h1, h2 => by subst h1; simp at h2
  | [], _ :: _, z, h1, h2 => by subst h1; simp at h2
  | x :: xs, y :: ys, z, h1, h2 => by
    subst h1
    have ih := bn_iff (xs := xs) (ys := ys) (z := xs.length) rfl (by simpa using h2)
    have e : bn (x :: xs) (y :: ys) = (decide (x ≤ y) && bn xs ys) := by simp [bn]
    rw [e, Bool.and_eq_true, decide_eq_true_eq, ih]
    constructor
    · rintro ⟨h0, h⟩ i hi
      cases i with
      | zero => simpa using h0
      | succ i => simpa using h i (by simpa using hi)
    · intro h
      refine ⟨by simpa using h 0 (by simp), fun i hi => ?_⟩
      simpa using h (i + 1) (by simpa using hi)
/-- bags of doors: all of length z -/
def Wd (z : Nat) (rs : List (List Int)) : Prop := ∀ r ∈ rs, r.length = z
theorem getDm {rs : List (List Int)} {d : Nat} (h : d < rs.length) : rs.getD d [] ∈ rs := by
  rw [List.getD_eq_getElem?_getD, List.getElem?_eq_getElem h]
  exact List.getElem_mem h
theorem Wd.at {z : Nat} {rs : List (List Int)} (w : Wd z rs) {d : Nat} (h : d < rs.length) : (rs.getD d []).length = z := w _ (getDm h)
def nonneg (b : List Int) : Prop := ∀ x ∈ b, 0 ≤ x
theorem nonneg_at {b : List Int} (h : nonneg b) (i : Nat) : 0 ≤ b.getD i 0 := by
  rw [List.getD_eq_getElem?_getD]
  cases e : b[i]? with
  | none => exact Int.le_refl _
  | some x => exact h x (List.mem_of_getElem? e)
theorem nonneg_of {b : List Int} {z : Nat} (hz : b.length = z) (h : ∀ i, i < z → 0 ≤ b.getD i 0) : nonneg b := fun x hx => by
  obtain ⟨i, hi, rfl⟩ := List.mem_iff_getElem.mp hx
  have := h i (by omega)
  simpa [List.getD_eq_getElem?_getD, List.getElem?_eq_getElem hi] using this
/-- the least beads ahead of a door, so that the goal lies beneath what is behind -/
def ahead (t g goal : List Int) : List Int := hi2 t (sub goal (sub g t))
theorem ahead_len {t g goal : List Int} {z : Nat} (ht : t.length = z) (hg : g.length = z) (hl : goal.length = z) : (ahead t g goal).length = z := hi2_len ht (sub_len hl (sub_len hg ht))
def behind (t g b : List Int) : List Int := add (sub b t) g
theorem behind_len {t g b : List Int} {z : Nat} (ht : t.length = z) (hg : g.length = z) (hl : b.length = z) : (behind t g b).length = z := add_len (sub_len hl ht) hg
theorem ahead_iff {t g goal b : List Int} {z : Nat} (ht : t.length = z) (hg : g.length = z) (hl : goal.length = z) (hb : b.length = z) :
    (bn t b && bn goal (behind t g b)) = bn (ahead t g goal) b := by
  rw [Bool.eq_iff_iff, Bool.and_eq_true, bn_iff ht hb, bn_iff hl (behind_len ht hg hb), bn_iff (ahead_len ht hg hl) hb]
  have key : ∀ i, i < z → ((ahead t g goal).getD i 0 ≤ b.getD i 0 ↔ t.getD i 0 ≤ b.getD i 0 ∧ goal.getD i 0 ≤ (behind t g b).getD i 0) := fun i hi => by
    unfold ahead behind
    rw [hi2_at ht (sub_len hl (sub_len hg ht)) hi, sub_at hl (sub_len hg ht) hi, sub_at hg ht hi, add_at (sub_len hb ht) hg hi, sub_at hb ht hi, mx_le]
    constructor <;> rintro ⟨h1, h2⟩ <;> exact ⟨h1, by omega⟩
  constructor
  · rintro ⟨h1, h2⟩ i hi
    exact (key i hi).mpr ⟨h1 i hi, h2 i hi⟩
  · intro h
    exact ⟨fun i hi => ((key i hi).mp (h i hi)).1, fun i hi => ((key i hi).mp (h i hi)).2⟩
/-- the need of a row of doors; whether it goes from beads -/
def needL (z : Nat) (tk gv : List (List Int)) : List Nat → List Int
  | [] => List.replicate z 0
  | d :: ds => ahead (tk.getD d []) (gv.getD d []) (needL z tk gv ds)
def goesB (tk gv : List (List Int)) : List Int → List Nat → Bool
  | _, [] => true
  | b, d :: ds => bn (tk.getD d []) b && goesB tk gv (behind (tk.getD d []) (gv.getD d []) b) ds
theorem need_len {z : Nat} {tk gv : List (List Int)} (wt : Wd z tk) (wg : Wd z gv) (hl : gv.length = tk.length) : ∀ {ds : List Nat}, (∀ d ∈ ds, d < tk.length) → (needL z tk gv ds).length = z
  | [], _ => List.length_replicate
  | d :: ds, h => by
    have hd := h d (List.mem_cons_self ..)
    exact ahead_len (wt.at hd) (wg.at (by omega)) (need_len wt wg hl fun x hx => h x (List.mem_cons_of_mem _ hx))
theorem need_nonneg {z : Nat} {tk gv : List (List Int)} (wt : Wd z tk) (wg : Wd z gv) (hl : gv.length = tk.length) (nt : ∀ r ∈ tk, nonneg r) : ∀ {ds : List Nat}, (∀ d ∈ ds, d < tk.length) → nonneg (needL z tk gv ds)
  | [], _ => fun x hx => by rw [(List.mem_replicate.mp hx).2]; exact Int.le_refl _
  | d :: ds, h => by
    have hd := h d (List.mem_cons_self ..)
    have hn := need_len wt wg hl (ds := ds) fun x hx => h x (List.mem_cons_of_mem _ hx)
    refine nonneg_of (ahead_len (wt.at hd) (wg.at (by omega)) hn) fun i hi => ?_
    show 0 ≤ (ahead (tk.getD d []) (gv.getD d []) (needL z tk gv ds)).getD i 0
    unfold ahead
    rw [hi2_at (wt.at hd) (sub_len hn (sub_len (wg.at (by omega)) (wt.at hd))) hi]
    exact Int.le_trans (nonneg_at (nt _ (getDm hd)) i) le_mx1
theorem behind_nonneg {t g b : List Int} {z : Nat} (ht : t.length = z) (hg : g.length = z) (hb : b.length = z) (ng : nonneg g) (h : bn t b = true) : nonneg (behind t g b) := by
  refine nonneg_of (behind_len ht hg hb) fun i hi => ?_
  have h1 := (bn_iff ht hb).mp h i hi
  have h2 := nonneg_at ng i
  unfold behind
  rw [add_at (sub_len hb ht) hg hi, sub_at hb ht hi]
  omega
theorem goes_iff {z : Nat} {tk gv : List (List Int)} (wt : Wd z tk) (wg : Wd z gv) (hl : gv.length = tk.length) (ng : ∀ r ∈ gv, nonneg r) : ∀ {ds : List Nat} {b : List Int}, (∀ d ∈ ds, d < tk.length) → b.length = z → nonneg b → goesB tk gv b ds = bn (needL z tk gv ds) b
  | [], b, _, hb, nb => by
    symm
    show bn (List.replicate z 0) b = true
    rw [bn_iff List.length_replicate hb]
    intro i _
    rw [rep_at]
    exact nonneg_at nb i
  | d :: ds, b, h, hb, nb => by
    have hd := h d (List.mem_cons_self ..)
    have hr : ∀ x ∈ ds, x < tk.length := fun x hx => h x (List.mem_cons_of_mem _ hx)
    have ht := wt.at hd
    have hg := wg.at (d := d) (by omega)
    show (bn (tk.getD d []) b && goesB tk gv (behind (tk.getD d []) (gv.getD d []) b) ds) = bn (ahead (tk.getD d []) (gv.getD d []) (needL z tk gv ds)) b
    rw [← ahead_iff ht hg (need_len wt wg hl hr) hb]
    cases e : bn (tk.getD d []) b with
    | false => rfl
    | true =>
      rw [goes_iff wt wg hl ng hr (behind_len ht hg hb) (behind_nonneg ht hg hb (ng _ (getDm (by omega))) e)]
/-- one bead fewer at one place: beads that the need no longer lies beneath -/
theorem fewer_not {n : List Int} {k : Nat} (hk : k < n.length) : bn n (n.set k (n.getD k 0 - 1)) = false := by
  rw [Bool.eq_false_iff]
  intro h
  have := (bn_iff (z := n.length) rfl (by rw [List.length_set])).mp h k hk
  rw [List.getD_eq_getElem?_getD (l := n.set k _), List.getElem?_set_self hk] at this
  simp only [Option.getD_some] at this
  omega
theorem nonneg_set {n : List Int} {k : Nat} {v : Int} (h : nonneg n) (hv : 0 ≤ v) : nonneg (n.set k v) := fun x hx => by
  rcases List.mem_or_eq_of_mem_set hx with q | q
  · exact h x q
  · rw [q]; exact hv
/-! ### a net made with written names -/
def six : List Str := [Str.ofString "a", Str.ofString "b", Str.ofString "c", Str.ofString "d", Str.ofString "e", Str.ofString "f"]
def eit : List Str := [Str.ofString "s", Str.ofString "t", Str.ofString "u", Str.ofString "v", Str.ofString "w", Str.ofString "x", Str.ofString "y", Str.ofString "z"]
theorem six_ok : ∀ y ∈ six, okName y = true := by decide +kernel
theorem eit_ok : ∀ y ∈ eit, okName y = true := by decide +kernel
theorem six_nd : six.Nodup := by decide +kernel
theorem eit_nd : eit.Nodup := by decide +kernel
def netOf (tk gv : List (List Int)) (fs : List Int) : NetV := ⟨six.take fs.length, eit.take tk.length, tk, gv, fs⟩
theorem netOf_len {tk gv : List (List Int)} {fs : List Int} (h6 : fs.length ≤ 6) : (netOf tk gv fs).bowls.length = fs.length := by
  show (six.take fs.length).length = _
  rw [List.length_take]
  have : six.length = 6 := rfl
  omega
theorem netOf_dlen {tk gv : List (List Int)} {fs : List Int} (h8 : tk.length ≤ 8) : (netOf tk gv fs).doors.length = tk.length := by
  show (eit.take tk.length).length = _
  rw [List.length_take]
  have : eit.length = 8 := rfl
  omega
theorem netOf_ok {tk gv : List (List Int)} {fs : List Int} (h1 : 1 ≤ fs.length) (h6 : fs.length ≤ 6) (h8 : tk.length ≤ 8) (hl : gv.length = tk.length) (ht : ∀ r ∈ tk, okBag fs.length r) (hg : ∀ r ∈ gv, okBag fs.length r) (hf : okBag fs.length fs) : (netOf tk gv fs).Ok := by
  have e := netOf_len (tk := tk) (gv := gv) h6
  have e2 := netOf_dlen (gv := gv) (fs := fs) h8
  refine ⟨by omega, by omega, by omega, fun y hy => six_ok y (List.mem_of_mem_take hy), fun y hy => eit_ok y (List.mem_of_mem_take hy), six_nd.sublist (List.take_sublist ..), eit_nd.sublist (List.take_sublist ..), e2.symm, by rw [e2]; exact hl, ?_, ?_, ?_⟩
  · rw [e]; exact ht
  · rw [e]; exact hg
  · rw [e]; exact hf
theorem cut_take (xs : List V) (k : Nat) : cutV xs none (some (k : Int)) = xs.take k := by
  unfold cutV
  rw [HT.sIx_none, HT.sIx_nat, List.drop_zero, Nat.sub_zero]
  by_cases h : k ≤ xs.length
  · rw [Nat.min_eq_left h]
  · rw [Nat.min_eq_right (by omega), List.take_of_length_le (Nat.le_refl _), List.take_of_length_le (by omega)]
abbrev vsix : List V := [V.str (Str.ofString "a"), V.str (Str.ofString "b"), V.str (Str.ofString "c"), V.str (Str.ofString "d"), V.str (Str.ofString "e"), V.str (Str.ofString "f")]
abbrev veit : List V := [V.str (Str.ofString "s"), V.str (Str.ofString "t"), V.str (Str.ofString "u"), V.str (Str.ofString "v"), V.str (Str.ofString "w"), V.str (Str.ofString "x"), V.str (Str.ofString "y"), V.str (Str.ofString "z")]
theorem cut_six (k : Nat) : cutV vsix none (some (k : Int)) = vstrs (six.take k) := by
  refine (cut_take _ _).trans ?_
  show (vstrs six).take k = _
  rw [vstrs, vstrs, List.map_take]
theorem cut_eit (k : Nat) : cutV veit none (some (k : Int)) = vstrs (eit.take k) := by
  refine (cut_take _ _).trans ?_
  show (vstrs eit).take k = _
  rw [vstrs, vstrs, List.map_take]
theorem rep_flat (k : Nat) : (List.replicate k [V.int 0]).flatten = vints (List.replicate k 0) := by
  induction k with
  | zero => rfl
  | succ k ih => rw [List.replicate_succ, List.flatten_cons, ih, List.replicate_succ]; rfl
theorem by_get {xs : List Int} {z : Nat} (h : xs.length = z) : (List.range z).map (fun i => V.int (xs.getD i 0)) = vints xs := by
  have e := by_place1 (fun i => i) h
  rw [e]
  simp
theorem behind_at {t g b : List Int} {z i : Nat} (ht : t.length = z) (hg : g.length = z) (hb : b.length = z) (hi : i < z) : (behind t g b).getD i 0 = b.getD i 0 - t.getD i 0 + g.getD i 0 := by
  unfold behind
  rw [add_at (sub_len hb ht) hg hi, sub_at hb ht hi]
theorem okBag.nn {z : Nat} {r : List Int} (h : okBag z r) : nonneg r := fun x hx => (h.2 x hx).1
theorem wd_of {z : Nat} {rs : List (List Int)} (h : ∀ r ∈ rs, okBag z r) : Wd z rs := fun r hr => (h r hr).1
theorem getDr {rs : List (List Int)} {d : Nat} (h : d < rs.length) : rs.getD d [] = rs[d] := by
  rw [List.getD_eq_getElem?_getD, List.getElem?_eq_getElem h]
  rfl
/-- a row of doors, as whole numbers -/
abbrev zs (ds : List Nat) : List Int := ds.map fun n : Nat => (n : Int)
theorem zs_get {ds : List Nat} {i : Nat} {x : V} (h : (vints (zs ds))[i]? = some x) : ∃ n : Nat, ds[i]? = some n ∧ x = V.int (n : Int) := by
  rw [List.getElem?_map, List.getElem?_map] at h
  cases e : ds[i]? with
  | none => rw [e] at h; cases h
  | some n => rw [e] at h; exact ⟨n, rfl, (Option.some.inj h).symm⟩
theorem zs_len (ds : List Nat) : (zs ds).length = ds.length := List.length_map ..
end L2
namespace L2
open PySem PySem.Spec PyProof.Rows
theorem size6 (c : Int) : ∃ z : Nat, 1 + c % 6 = (z : Int) ∧ 1 ≤ z ∧ z ≤ 6 := by
  have h1 : 0 ≤ c % 6 := Int.emod_nonneg _ (by decide)
  have h2 : c % 6 < 6 := Int.emod_lt_of_pos _ (by decide)
  exact ⟨(1 + c % 6).toNat, by omega, by omega, by omega⟩
theorem size9 (c : Int) : ∃ z : Nat, c % 9 = (z : Int) ∧ z ≤ 8 := by
  have h1 : 0 ≤ c % 9 := Int.emod_nonneg _ (by decide)
  have h2 : c % 9 < 9 := Int.emod_lt_of_pos _ (by decide)
  exact ⟨(c % 9).toNat, by omega, by omega⟩
theorem size8 (c : Int) : ∃ z : Nat, 1 + c % 8 = (z : Int) ∧ 1 ≤ z ∧ z ≤ 8 := by
  have h1 : 0 ≤ c % 8 := Int.emod_nonneg _ (by decide)
  have h2 : c % 8 < 8 := Int.emod_lt_of_pos _ (by decide)
  exact ⟨(1 + c % 8).toNat, by omega, by omega, by omega⟩
theorem ixN_nat {n i : Nat} (h : i < n) : ixN n (i : Int) = some i := by
  unfold ixN
  rw [if_pos (by omega), if_pos (by omega), Int.toNat_natCast]
theorem set_ints (ns : List Int) (i : Nat) (v : Int) : (vints ns).set i (V.int v) = vints (ns.set i v) := by rw [vints, vints, List.map_set]
end L2
namespace L2
open PySem PySem.Spec PyProof.Rows
theorem pick5 {a b c d e i : Int} (h0 : 0 ≤ i) (h1 : i < 5) : ∃ v : Int, atI [V.int a, V.int b, V.int c, V.int d, V.int e] i = some (V.int v) := by
  obtain ⟨j, rfl⟩ := Int.eq_ofNat_of_zero_le h0
  exact ⟨_, ints_at (ns := [a, b, c, d, e]) (k := j) (by show j < 5; omega)⟩
theorem ahead_nonneg {t g l : List Int} {z : Nat} (ht : t.length = z) (hg : g.length = z) (hl : l.length = z) (tn : nonneg t) : nonneg (ahead t g l) :=
  nonneg_of (ahead_len ht hg hl) fun i hi => by
    unfold ahead
    rw [hi2_at ht (sub_len hl (sub_len hg ht)) hi]
    exact Int.le_trans (nonneg_at tn i) le_mx1
end L2

namespace L2
open PySem PySem.Spec PyProof.Rows SeqAt
/-! ### a comprehension over a range whose items are whole numbers with a promise -/
theorem comp_ints {te : Blk → TE} {H1 : Hp} {Z : List V → Hp → Prop} {lo : Int} {n : Nat} {τ : St} (P : Int → Prop) (hn : n < sizeLine)
    (hs : ∀ B i H, i < n → Same H1 H → ∀ Q' : VK, (∀ m H2, P m → Same H H2 → Q' (.int m) H2) → te B (some (.int (lo + i)) :: τ) H Q')
    (hd : ∀ ns H2, Same H1 H2 → ns.length = n → (∀ m ∈ ns, P m) → Z (vints ns) H2) :
    ∃ W : Nat → Nat → List V → St → Hp → Prop, (∃ m, W 0 m [] (none :: τ) H1) ∧ ∀ B : Blk, CompW (Itr lo n) (gName 0) tTrue (te B) W Z := by
  refine comp_rangeP (g := fun _ => gName 0) (tt := fun _ => tTrue) (fun i ys σ H => ∃ (v : Option V) (ns : List Int), σ = v :: τ ∧ Same H1 H ∧ ys = vints ns ∧ ns.length = i ∧ ∀ m ∈ ns, P m) ⟨none, [], rfl, Same.refl _, rfl, rfl, fun m hm => nomatch hm⟩ ?_ ?_ ?_
  · rintro i ys σ H hi ⟨v, ns, rfl, S, rfl, e, _⟩
    rw [ints_len, e]; omega
  · rintro B i ys σ H hi ⟨v, ns, rfl, S, rfl, e, hp⟩
    dsimp only [gName, tTrue]
    rw [if_pos rfl]
    refine hs B i H hi S _ fun m H2 pm S2 => ⟨_, ns ++ [m], rfl, S.trans S2, (vints_snoc _ _).symm, by rw [List.length_append, e]; rfl, fun k hk => ?_⟩
    rcases List.mem_append.mp hk with q | q
    · exact hp k q
    · rw [List.mem_singleton.mp q]; exact pm
  · rintro ys σ H ⟨v, ns, rfl, S, rfl, e, hp⟩
    exact hd ns H S e hp
/-- what of a list is kept by a test: [b for b in xs if t(b)] -/
theorem comp_keep {K : PySem.W.Frag} {tt : Blk → TT} {te : Blk → TE} {H1 : Hp} {Z : List V → Hp → Prop} {a : Addr} {xs : List Int} {τ : St} (f : Int → Bool) (ha : SqL K H1 a (vints xs)) (hn : xs.length < sizeLine)
    (ht : ∀ B x, x ∈ xs → ∀ Q' : Bool → Hp → Prop, Q' (f x) H1 → tt B (some (.int x) :: τ) H1 Q')
    (he : ∀ B x, x ∈ xs → ∀ Q' : VK, Q' (.int x) H1 → te B (some (.int x) :: τ) H1 Q')
    (hd : Z (vints (xs.filter f)) H1) :
    ∃ W : Nat → Nat → List V → St → Hp → Prop, (∃ m, W 0 m [] (none :: τ) H1) ∧ ∀ B : Blk, CompW (Itl K a) (gName 0) (tt B) (te B) W Z := by
  refine comp_listP (g := fun _ => gName 0) (K := K) (a := a) (xs := vints xs) (fun i ys σ H => (∃ v, σ = v :: τ) ∧ H = H1 ∧ ys = vints ((xs.take i).filter f)) ⟨⟨none, rfl⟩, rfl, rfl⟩ ?_ ?_ ?_
  · rintro i ys σ H hi ⟨_, rfl, rfl⟩
    refine ⟨ha, ?_⟩
    rw [ints_len]
    exact Nat.lt_of_le_of_lt (List.length_filter_le _ _) (by rw [List.length_take]; omega)
  · rintro B i x ys σ H hx ⟨⟨v, rfl⟩, rfl, rfl⟩
    obtain ⟨n, hn1, rfl⟩ := ints_get hx
    have hm := List.mem_of_getElem? hn1
    have e : (xs.take (i + 1)).filter f = (xs.take i).filter f ++ (if f n then [n] else []) := by
      rw [List.take_add_one, hn1, Option.toList_some, List.filter_append]
      congr 1
      cases e : f n <;> simp [e]
    dsimp only [gName]
    refine ht B n hm _ ?_
    cases hf : f n with
    | true =>
      rw [if_pos rfl]
      refine he B n hm _ ⟨⟨_, rfl⟩, rfl, ?_⟩
      rw [e, hf]
      exact (vints_snoc _ _).symm
    | false =>
      rw [if_neg Bool.false_ne_true]
      refine ⟨⟨_, rfl⟩, rfl, ?_⟩
      rw [e, hf]
      simp
  · rintro ys σ H ⟨_, rfl, rfl⟩
    rw [ints_len, List.take_length]
    exact hd
section
variable {X : Cx}
theorem call_any_list (hc : X.calm = true) : CallR X (.builtin "any") (fun xs H Q => ∃ (a : Addr) (bs : List Bool), xs = [.ref a] ∧ SqL X.K H a (bs.map V.bl) ∧ Q (.bl (bs.any id)) H) := by
  intro pins s σ H xs us Q I r h
  obtain ⟨a, bs, e, hq, q⟩ := h
  subst e
  obtain ⟨u, rfl, r1⟩ := vals1 r
  obtain rfl : u = Value.ref a := r1
  obtain ⟨its, rv, p, hz⟩ := I.list hq
  have hal : a < s.heap.objs.size := by obtain ⟨o, e, _⟩ := p.isList; exact Heap.lt_size e
  have hl := rv.length
  rw [List.length_map] at hl
  refine call_any_walk (wpAny_pyIter_list p.isList ⟨s.heap.objs.size, _, _, _, _, _, (fun i => bs.getD i false), rfl, Walks.list (A := X.A.in1) (show X.A.in1.handled = none from I.ok.hd hc) _ a (Nat.ne_of_lt hal) its.toArray, ⟨⟨_, Heap.get?_push_size _ rfl, rfl, rfl⟩, p.isList.push _⟩, fun i v s' Q' E' hv hQ => ?_, fun h' tk hk => ?_⟩)
  · have hv' : its[i]? = some v := by simpa using hv
    have hi : i < bs.length := by rw [hl]; exact (List.getElem?_eq_some_iff.mp hv').1
    have hx : (bs.map V.bl)[i]? = some (V.bl (bs.getD i false)) := by
      rw [List.getElem?_map, List.getElem?_eq_getElem hi]
      simp [List.getD_eq_getElem?_getD, List.getElem?_eq_getElem hi]
    obtain ⟨u, hu, ru⟩ := rv.get hx
    rw [hv'] at hu
    cases hu
    obtain rfl : v = Value.bool (bs.getD i false) := ru
    exact wpAny_truthy_bool hQ
  · have es : (List.range its.toArray.size).any (fun i => bs.getD i false) = bs.any id := by
      rw [List.size_toArray, ← hl]
      rw [Bool.eq_iff_iff, List.any_eq_true, List.any_eq_true]
      constructor
      · rintro ⟨i, hi, z⟩
        have hi := List.mem_range.mp hi
        exact ⟨_, List.getElem_mem hi, by simpa [List.getD_eq_getElem?_getD, List.getElem?_eq_getElem hi] using z⟩
      · rintro ⟨x, hx, z⟩
        obtain ⟨i, hi, rfl⟩ := List.mem_iff_getElem.mp hx
        exact ⟨i, List.mem_range.mpr hi, by simpa [List.getD_eq_getElem?_getD, List.getElem?_eq_getElem hi] using z⟩
    rw [es]
    exact ⟨.bl (bs.any id), H, I.kept fun b o e => hk b o (fun z => by have := List.mem_singleton.mp z; rw [this] at e; exact absurd (Heap.lt_size e) (Nat.lt_irrefl _)) (Heap.get?_push_of_some _ e), rfl, q⟩
theorem bt_any : bootBuiltins "any" = some (.builtin "any") := by decide +kernel
/-- two readings of one expression -/
theorem pe_or2 {e : Expr} {t u : TE} (h : PE X e t) (h' : PE X e u) : PE X e (fun σ H Q => t σ H Q ∨ u σ H Q) := fun pins s σ H Q I q => q.elim (fun q => h pins s σ H Q I q) (fun q => h' pins s σ H Q I q)
end
/-- the parts of a net of the laws of sets -/
structure PartsT (H : Hp) (p pt pg pu : Addr) (ts gs : List Addr) (z : Nat) (tk gv : List (List Int)) (us : List Int) : Prop where
  top : H p = some (.lst [.int (z : Int), .ref pt, .ref pg, .ref pu])
  ht : H pt = some (.lst (ts.map V.ref))
  tr : Rows H ts tk
  hg : H pg = some (.lst (gs.map V.ref))
  gr : Rows H gs gv
  hu : H pu = some (.lst (vints us))
theorem PartsT.same {H H' : Hp} {p pt pg pu : Addr} {ts gs : List Addr} {z : Nat} {tk gv : List (List Int)} {us : List Int} (P : PartsT H p pt pg pu ts gs z tk gv us) (S : Same H H') : PartsT H' p pt pg pu ts gs z tk gv us :=
  ⟨S _ _ P.top, S _ _ P.ht, P.tr.same S, S _ _ P.hg, P.gr.same S, S _ _ P.hu⟩
structure OkT (z : Nat) (tk gv : List (List Int)) (us : List Int) : Prop where
  z1 : 1 ≤ z
  z6 : z ≤ 6
  t8 : tk.length ≤ 8
  gl : gv.length = tk.length
  tk : ∀ r ∈ tk, okBag z r
  gv : ∀ r ∈ gv, okBag z r
  ul : us.length = z
  us : ∀ u ∈ us, 1 ≤ u ∧ u ≤ 250000000
theorem at_in {P : Int → Prop} {xs : List Int} {z i : Nat} (hx : xs.length = z) (hi : i < z) (h : ∀ x ∈ xs, P x) : P (xs.getD i 0) := by
  subst hx
  rw [getD_at hi]
  exact h _ (List.getElem_mem hi)
theorem prod3 {u t : Int} (hu : 1 ≤ u ∧ u ≤ 250000000) (ht : 0 ≤ t ∧ t ≤ 3) : 0 ≤ u * t ∧ u * t ≤ 1000000000 := by
  rcases (show t = 0 ∨ t = 1 ∨ t = 2 ∨ t = 3 by omega) with e | e | e | e <;> rw [e] <;> omega
end L2
namespace L2
open PySem PySem.Spec PyProof.Rows
/-- each item a value of the item -/
theorem comp_list1 {K : PySem.W.Frag} {te : Blk → TE} {H1 : Hp} {Z : List V → Hp → Prop} {a : Addr} {xs : List V} {τ : St} (f : V → V) (ha : SqL K H1 a xs) (hn : xs.length < sizeLine)
    (hs : ∀ B x H, x ∈ xs → Same H1 H → ∀ Q' : VK, (∀ H2, Same H H2 → Q' (f x) H2) → te B (some x :: τ) H Q')
    (hd : ∀ H2, Same H1 H2 → Z (xs.map f) H2) :
    ∃ W : Nat → Nat → List V → St → Hp → Prop, (∃ m, W 0 m [] (none :: τ) H1) ∧ ∀ B : Blk, CompW (Itl K a) (gName 0) tTrue (te B) W Z := by
  refine comp_listP (g := fun _ => gName 0) (tt := fun _ => tTrue) (K := K) (a := a) (xs := xs) (fun i ys σ H => (∃ v, σ = v :: τ) ∧ Same H1 H ∧ ys = (xs.take i).map f) ⟨⟨none, rfl⟩, Same.refl _, rfl⟩ ?_ ?_ ?_
  · rintro i ys σ H hi ⟨_, S, rfl⟩
    refine ⟨S.seq ha, ?_⟩
    rw [List.length_map, List.length_take]; omega
  · rintro B i x ys σ H hx ⟨⟨v, rfl⟩, S, rfl⟩
    dsimp only [gName, tTrue]
    rw [if_pos rfl]
    refine hs B x H (List.mem_of_getElem? hx) S _ fun H2 S2 => ⟨⟨_, rfl⟩, S.trans S2, ?_⟩
    rw [List.take_add_one, hx, Option.toList_some, List.map_append]
    rfl
  · rintro ys σ H ⟨_, S, rfl⟩
    rw [List.take_length]
    exact hd H S
/-- beads lie in a set of bowls -/
def liesB (beads : List Int) (bs : List Nat) : Bool := bs.any fun b => decide (0 < beads.getD b 0)
def posV (beads : List Int) : V → V
  | .int n => .bl (decide (0 < beads.getD n.toNat 0))
  | _ => .non
theorem posV_map (beads : List Int) (bs : List Nat) : (vints (zs bs)).map (posV beads) = (bs.map fun b => decide (0 < beads.getD b 0)).map V.bl := by
  rw [vints, zs, List.map_map, List.map_map, List.map_map]
  refine List.map_congr_left fun b _ => ?_
  simp [posV]
theorem zs_mem {bs : List Nat} {x : V} (h : x ∈ vints (zs bs)) : ∃ b : Nat, b ∈ bs ∧ x = V.int (b : Int) := by
  obtain ⟨n, hn, e⟩ := List.mem_map.mp h
  obtain ⟨b, hb, e2⟩ := List.mem_map.mp hn
  exact ⟨b, hb, by rw [← e, ← e2]⟩
theorem zs_memI {bs : List Nat} {n : Int} (h : n ∈ zs bs) : ∃ b : Nat, b ∈ bs ∧ n = (b : Int) := by
  obtain ⟨b, hb, e⟩ := List.mem_map.mp h
  exact ⟨b, hb, e.symm⟩
theorem lies_any (beads : List Int) (bs : List Nat) : (bs.map fun b => decide (0 < beads.getD b 0)).any id = liesB beads bs := by
  unfold liesB
  rw [List.any_map]
  rfl
theorem lies_filter (beads : List Int) (bs : List Nat) : (!decide ((zs bs).filter (fun n => decide (0 < beads.getD n.toNat 0)) = [])) = liesB beads bs := by
  unfold liesB
  rw [Bool.eq_iff_iff, Bool.not_eq_true', decide_eq_false_iff_not, List.any_eq_true]
  constructor
  · intro h
    obtain ⟨n, hn⟩ := List.exists_mem_of_ne_nil _ h
    obtain ⟨h1, h2⟩ := List.mem_filter.mp hn
    obtain ⟨b, hb, rfl⟩ := zs_memI h1
    exact ⟨b, hb, by simpa using h2⟩
  · rintro ⟨b, hb, h⟩ e
    have : ((b : Nat) : Int) ∈ (zs bs).filter (fun n => decide (0 < beads.getD n.toNat 0)) := List.mem_filter.mpr ⟨List.mem_map.mpr ⟨b, hb, rfl⟩, by simpa using h⟩
    rw [e] at this
    cases this
def trapB (tk gv : List (List Int)) (bs : List Nat) : Bool := (List.range tk.length).all fun k => !liesB (tk.getD k []) bs || liesB (gv.getD k []) bs
theorem at_zs {xs : List Int} {b : Nat} (h : b < xs.length) : atI (vints xs) ((b : Nat) : Int) = some (V.int (xs.getD b 0)) := by
  rw [ints_at h, getD_at h]
def eit2 : List Str := [Str.ofString "a", Str.ofString "b", Str.ofString "c", Str.ofString "d", Str.ofString "e", Str.ofString "f", Str.ofString "g", Str.ofString "h"]
abbrev veit2 : List V := [V.str (Str.ofString "a"), V.str (Str.ofString "b"), V.str (Str.ofString "c"), V.str (Str.ofString "d"), V.str (Str.ofString "e"), V.str (Str.ofString "f"), V.str (Str.ofString "g"), V.str (Str.ofString "h")]
theorem eit2_ok : ∀ y ∈ eit2, okName y = true := by decide +kernel
theorem eit2_nd : eit2.Nodup := by decide +kernel
theorem cut_eit2 (k : Nat) : cutV veit2 none (some (k : Int)) = vstrs (eit2.take k) := by
  refine (cut_take _ _).trans ?_
  show (vstrs eit2).take k = _
  rw [vstrs, vstrs, List.map_take]
def netT (tk gv : List (List Int)) (fs : List Int) : NetV := ⟨six.take fs.length, eit2.take tk.length, tk, gv, fs⟩
theorem netT_len {tk gv : List (List Int)} {fs : List Int} (h6 : fs.length ≤ 6) : (netT tk gv fs).bowls.length = fs.length := by
  show (six.take fs.length).length = _
  rw [List.length_take]
  have : six.length = 6 := rfl
  omega
theorem netT_dlen {tk gv : List (List Int)} {fs : List Int} (h8 : tk.length ≤ 8) : (netT tk gv fs).doors.length = tk.length := by
  show (eit2.take tk.length).length = _
  rw [List.length_take]
  have : eit2.length = 8 := rfl
  omega
theorem netT_ok {tk gv : List (List Int)} {fs us : List Int} (o : OkT fs.length tk gv us) (hf : okBag fs.length fs) : (netT tk gv fs).Ok := by
  have e := netT_len (tk := tk) (gv := gv) o.z6
  have e2 := netT_dlen (gv := gv) (fs := fs) o.t8
  have z1 := o.z1
  have z6 := o.z6
  have t8 := o.t8
  refine ⟨by omega, by omega, by omega, fun y hy => six_ok y (List.mem_of_mem_take hy), fun y hy => eit2_ok y (List.mem_of_mem_take hy), six_nd.sublist (List.take_sublist ..), eit2_nd.sublist (List.take_sublist ..), e2.symm, by rw [e2]; exact o.gl, ?_, ?_, ?_⟩
  · rw [e]; exact o.tk
  · rw [e]; exact o.gv
  · rw [e]; exact hf
end L2
namespace L2
open PySem PySem.Spec PyProof.Rows
theorem pick32 {i : Nat} (h : i < 6) : ∃ v : Int, atI [V.int 1, V.int 2, V.int 4, V.int 8, V.int 16, V.int 32] (0 + (i : Int)) = some (V.int v) ∧ 0 < v ∧ v < 1073741824 := by
  rw [Int.zero_add]
  match i, h with
  | 0, _ => exact ⟨1, by decide, by decide, by decide⟩
  | 1, _ => exact ⟨2, by decide, by decide, by decide⟩
  | 2, _ => exact ⟨4, by decide, by decide, by decide⟩
  | 3, _ => exact ⟨8, by decide, by decide, by decide⟩
  | 4, _ => exact ⟨16, by decide, by decide, by decide⟩
  | 5, _ => exact ⟨32, by decide, by decide, by decide⟩
theorem as_zs {ns : List Int} {z : Nat} (h : ∀ m ∈ ns, 0 ≤ m ∧ m < (z : Int)) : ∃ bs : List Nat, ns = zs bs ∧ bs.length = ns.length ∧ ∀ b ∈ bs, b < z := by
  refine ⟨ns.map Int.toNat, ?_, List.length_map .., fun b hb => ?_⟩
  · rw [zs, List.map_map]
    symm
    refine (List.map_congr_left fun m hm => ?_).trans (List.map_id _)
    have := (h m hm).1
    show ((m.toNat : Nat) : Int) = m
    omega
  · obtain ⟨m, hm, rfl⟩ := List.mem_map.mp hb
    have := h m hm
    omega
end L2

namespace L2
open PySem PySem.Spec PyProof.Rows
/-! ### list(reversed(xs)) -/
section
variable {prog : Program} {w : World} {A : Around} {E : Value → Shared → Prop} {s : Shared}
theorem lri_len : typeLookup (.type "list_reverseiterator") "__len__" = pure none := by rw [typeLookup_type, builtinLookup_eq_fast]; kernel_rfl
theorem lri_hint : typeLookup (.type "list_reverseiterator") "__length_hint__" = pure (some (.builtin "list_reverseiterator.__length_hint__")) := by rw [typeLookup_type, builtinLookup_eq_fast]; kernel_rfl
theorem rev_hint {r : Addr} {Q : Bool → Shared → Prop} (t : s.TypeIs (.ref r) "list_reverseiterator") (q : Q false s) : wpAny (model prog w) A (Builtin.List.listLengthHint (.ref r)) Q E s := by
  unfold Builtin.List.listLengthHint
  refine wpAny_bind (wpAny_specialOf t lri_len ?_)
  show wpAny _ _ (specialOf (Value.ref r) (Str.ofString "__length_hint__") >>= _) _ _ s
  refine wpAny_bind (wpAny_specialOf t lri_hint ?_)
  generalize hid : ("list_reverseiterator.__length_hint__" : String) = n0
  wp_delta
  rw [show splitId n0 = some ("list_reverseiterator", "__length_hint__") from by subst hid; decide +kernel]
  subst hid
  refine wpAny_bind (wpAny_isInstance (T := "list_reverseiterator") (b := true) t (by rw [isSubtype_type]; kernel_rfl) ?_)
  refine wpAny_ite_split (fun z => absurd z (by decide)) (fun _ => ?_)
  refine wpAny_ite_split (fun _ => ?_) (fun z => absurd (by decide +kernel) z)
  refine wpAny_ite_split (fun z => absurd z (by decide)) (fun _ => ?_)
  exact wpAny_pure q
theorem rev_extend {R : Result → Shared → Prop} {it l : Addr} {its : Array Value} (hh : A.handled = none) (hi : s.heap.IsRevIter it l ((its.size : Int) - 1)) (hl : s.heap.IsList l its) (hne : l ≠ it) (S : Addr) (hSi : S ≠ it) (hSl : S ≠ l) (c0 : Nat)
    (hS : s.heap.get? S = some { cls := .type "list", data := .seq #[] c0 }) (hn : its.size ≤ sizeLine)
    (hR : ∀ h' tk acc c', (∀ b o, b ≠ S → b ≠ it → s.heap.get? b = some o → h'.get? b = some o) → h'.get? S = some { cls := .type "list", dict := none, data := .seq acc c', slots := #[] } → ItemsOf (fun i v => its[its.size - 1 - i]? = some v) acc its.size → R (.ok (.ret .none)) { s with heap := h', toks := tk }) :
    wpAny (model prog w) A.in1 (Builtin.List.listExtendWith (.ref S) (.ref it) .none)
      (fun fin s' => match fin with | .done f => R (.ok f) s' | .again c' => c'.quiet = true ∧ codeAny (model prog w) A c' R s') (fun e s' => R (.error e) s') s := by
  have W := Walks.listRev (prog := prog) (w := w) (A := A.in1) hh it l hne its
  have hSf : S ∉ [it, l] := by simp only [List.mem_cons, List.not_mem_nil, or_false, not_or]; exact ⟨hSi, hSl⟩
  have st : 0 ≤ its.size ∧ s.heap.IsRevIter it l ((its.size : Int) - 1 - ((0 : Nat) : Int)) ∧ s.heap.IsList l its := ⟨Nat.zero_le _, by simpa using hi, hl⟩
  unfold Builtin.List.listExtendWith
  refine wpAny_bind (wpAny_typeOf hi.typeIs ?_)
  have a1 : Builtin.List.listSameRef (.ref S) (.ref it) = false := by simp [Builtin.List.listSameRef, hSi]
  have a2 : (Value.type "list_reverseiterator" == Value.type "list") = false := by decide
  have a3 : (Value.type "list_reverseiterator" == Value.type "tuple") = false := by decide
  simp only [a1, a2, a3, Bool.or_false, Bool.false_eq_true, if_false]
  refine wpAny_bind (wpAny_pyIter_revIter hi ?_)
  refine wpAny_bind (wpAny_holding (rev_hint hi.typeIs ?_))
  refine wpAny_ite_split (fun z => absurd z (by decide +kernel)) (fun _ => wpAny_pure ⟨plainId_quiet F.plain_extend_loop _, ?_⟩)
  refine codeAny_extend_loopS W.toS hn S hSf .none its.size 0 _ #[] c0 rfl (Nat.zero_le _) st hS (ItemsOf.nil _) fun s' acc c' hm hS' ha => ?_
  rw [Moved.eq_with hm]
  refine hR s'.heap s'.toks acc c' (fun b o h1 h2 e => hm.heap b o (fun hb => ?_) e) hS' ha
  rcases List.mem_cons.mp hb with z | z
  · exact h1 z
  · exact h2 (List.mem_singleton.mp z)
theorem rev_list {Q : Value → Shared → Prop} {it l : Addr} {its : Array Value} (hh : A.handled = none) (hi : s.heap.IsRevIter it l ((its.size : Int) - 1)) (hl : s.heap.IsList l its) (hne : l ≠ it) (hn : its.size ≤ sizeLine)
    (hQ : ∀ h' tk acc c', (∀ b o, b ≠ it → s.heap.get? b = some o → h'.get? b = some o) → h'.get? s.heap.objs.size = some { cls := .type "list", dict := none, data := .seq acc c', slots := #[] } → ItemsOf (fun i v => its[its.size - 1 - i]? = some v) acc its.size → Q (.ref s.heap.objs.size) { s with heap := h', toks := tk }) :
    wpAny (model prog w) A (call (.type "list") [.ref it]) Q E s := by
  refine callType_codes (Q₁ := fun v s1 => v = .ref s.heap.objs.size ∧ s1 = { s with heap := s.heap.push { cls := .type "list", data := .seq #[] } }) F.called_list (F.typeCall_list_1 _) F.entry_list_init (code_list_new _ ⟨rfl, rfl⟩) fun v s1 hv => ?_
  obtain ⟨rfl, rfl⟩ := hv
  have g0 : (s.heap.push { cls := .type "list", data := .seq #[] }).get? s.heap.objs.size = some { cls := .type "list", data := .seq #[] } := Heap.get?_push_size _ rfl
  have lti : it < s.heap.objs.size := by obtain ⟨o, e, _⟩ := hi; exact Heap.lt_size e
  have ltl : l < s.heap.objs.size := by obtain ⟨o, e, _⟩ := hl; exact Heap.lt_size e
  refine ⟨⟨_, g0, rfl⟩, F.args_list_init_2 _ _, ?_⟩
  show wpAny _ _ (do let old ← Builtin.List.listItems (.ref s.heap.objs.size); Builtin.List.listUpdate (.ref s.heap.objs.size) (fun _ => #[]); letGo old.toList.reverse; Builtin.List.listExtendWith (.ref s.heap.objs.size) (.ref it) .none) _ _ _
  refine wpAny_bind ?_
  unfold Builtin.List.listItems
  refine wpAny_bind (wpAny_seqItems g0 rfl (wpAny_pure ?_))
  show wpAny _ _ (updateSeq s.heap.objs.size (fun _ => #[]) >>= fun _ => letGo (#[] : Array Value).toList.reverse >>= fun _ => Builtin.List.listExtendWith (.ref s.heap.objs.size) (.ref it) .none) _ _ _
  refine wpAny_bind (wpAny_updateSeq g0 rfl ?_)
  have g1 := Heap.get?_update_self (Obj.mapSeq (fun _ => (#[] : Array Value))) g0 rfl
  have kp : ∀ b o, b ≠ s.heap.objs.size → s.heap.get? b = some o → ((s.heap.push { cls := .type "list", data := .seq #[] }).update s.heap.objs.size (Obj.mapSeq (fun _ => (#[] : Array Value)))).get? b = some o :=
    fun b o hb e => (Heap.get?_update_other _ _ (Ne.symm hb)).trans (Heap.get?_push_of_some _ e)
  refine wpAny_bind (wpAny_letGo ?_)
  refine rev_extend (A := A.in1) hh (hi.at fun o e => kp _ o (Nat.ne_of_lt lti) e) (hl.at fun o e => kp _ o (Nat.ne_of_lt ltl) e) hne _ (Nat.ne_of_gt lti) (Nat.ne_of_gt ltl) _ g1 hn fun h' tk acc c' hk hS' ha => ?_
  exact ⟨rfl, hQ h' tk acc c' (fun b o hb e => hk b o (Nat.ne_of_lt (Heap.lt_size e)) hb (kp b o (Nat.ne_of_lt (Heap.lt_size e)) e)) hS' ha⟩
end
section
variable {X : Cx}
def tListRev (K : PySem.W.Frag) (ta : TA) : TE := fun σ H Q => ta σ H fun vs H1 => ∃ a xs, vs = [.ref a] ∧ SqL K H1 a xs ∧ ∀ p, H1 p = none → Q (.ref p) (upd H1 p (.lst xs.reverse))
theorem Vals.rev : ∀ {xs : List V} {us : List Value}, Vals xs us → Vals xs.reverse us.reverse
  | _, _, .nil => .nil
  | _, _, .cons r t => by
    rw [List.reverse_cons, List.reverse_cons]
    exact (Vals.rev t).append (.cons r .nil)
theorem pe_listRev {ea : Expr} {ta : TA} {p p2 pos pos2 : Pos} (hc : X.calm = true) (hgl : Gl X "list") (hml : X.mg "list" = none) (hg : Gl X "reversed") (hm : X.mg "reversed" = none) (ha : PA X [ea] ta) (hs : starEach [ea] X.env = [(false, eval ea X.env)] := by rfl)
    (hs2 : starEach [.Call (.Name "reversed" p2) [ea] [] pos2] X.env = [(false, eval (.Call (.Name "reversed" p2) [ea] [] pos2) X.env)] := by rfl) :
    PE X (.Call (.Name "list" p) [.Call (.Name "reversed" p2) [ea] [] pos2] [] pos) (tListRev X.K ta) := by
  intro pins s σ H Q I h
  refine Call_ (ld_blt I hgl hml bt_list (PyProof.Rows.callWith_type1 ?_ hs2 rfl))
  rw [hs2]
  show wpAny _ _ (spliced ((false, eval (.Call (.Name "reversed" p2) [ea] [] pos2) X.env) :: backTo pos [])) _ _ s
  refine Calls.spliced_cons (Call_ (ld_blt I hg hm (by rfl : bootBuiltins "reversed" = some (.type "reversed")) (PyProof.Rows.callWith_type1 (thn (ha pos2 pins s σ H _ I h) fun us s1 ⟨vs, H1, I1, r1, q1⟩ => ?_) hs rfl)))
  obtain ⟨a, xs, e, qa, q⟩ := q1
  subst e
  cases r1 with
  | cons r rr =>
    cases rr
    cases r
    obtain ⟨its, rv, p1, z1⟩ := I1.list qa
    have hl := rv.length
    refine call_reversed_list p1.isList (Calls.spliced_nil ?_)
    have g0 : (s1.heap.push (revObj a ((its.toArray.size : Int) - 1))).IsRevIter s1.heap.objs.size a ((its.toArray.size : Int) - 1) := ⟨_, Heap.get?_push_size _ rfl, rfl, rfl⟩
    have lt : a < s1.heap.objs.size := by obtain ⟨o, e, _⟩ := p1.isList; exact Heap.lt_size e
    refine rev_list (s := { s1 with heap := s1.heap.push (revObj a ((its.toArray.size : Int) - 1)) }) (I1.ok.hd hc) g0 (p1.isList.at fun o e => Heap.get?_push_of_some _ e) (Nat.ne_of_lt lt) (by rw [List.size_toArray]; omega) fun h' tk acc c' hk hS ha => ?_
    have kp : ∀ b o, s1.heap.get? b = some o → h'.get? b = some o := fun b o e => hk b o (Nat.ne_of_lt (Heap.lt_size e)) (Heap.get?_push_of_some _ e)
    have hfr : H1 (s1.heap.push (revObj a ((its.toArray.size : Int) - 1))).objs.size = none := I1.hok.fresh (by simp)
    have hacc : acc.toList = its.reverse := by
      refine List.ext_getElem? fun i => ?_
      have hsz : acc.size = its.length := by rw [ha.1, List.size_toArray]
      by_cases hi : i < its.length
      · have e1 := ha.2 i (acc[i]'(by omega)) (by rw [Array.getElem?_eq_getElem])
        rw [Array.getElem?_toList, Array.getElem?_eq_getElem (by omega), List.getElem?_reverse hi]
        rw [← e1]
        simp
      · rw [List.getElem?_eq_none (by rw [Array.length_toList]; omega), List.getElem?_eq_none (by rw [List.length_reverse]; omega)]
    refine ⟨.ref _, upd H1 _ (.lst xs.reverse), I1.laid (t' := tk) (h' := h') kp (by simp) (show ObjOk X.prog X.w _ h' _ (.lst xs.reverse) from ⟨by rw [List.length_reverse]; exact z1, its.reverse, c', rv.rev, ?_⟩), rfl, q _ hfr⟩
    rw [← hacc, Array.toArray_toList]
    exact hS
end
end L2
namespace L2
open PySem PySem.Spec PyProof.Rows
/-! ### tallies -/
def tgU (z : Nat) (tk gv : List (List Int)) (ms : List Int) : Nat → List Int
  | 0 => List.replicate z 0
  | i + 1 => add (tgU z tk gv ms i) ((sub (gv.getD i []) (tk.getD i [])).map fun y => ms.getD i 0 * y)
theorem tgU_len {z : Nat} {tk gv : List (List Int)} (wt : Wd z tk) (wg : Wd z gv) (hl : gv.length = tk.length) (ms : List Int) : ∀ {i : Nat}, i ≤ tk.length → (tgU z tk gv ms i).length = z
  | 0, _ => List.length_replicate
  | i + 1, h => add_len (tgU_len wt wg hl ms (by omega)) (by rw [List.length_map]; exact sub_len (wg.at (by omega)) (wt.at (by omega)))
def cntL (n : Nat) (ds : List Nat) : List Int := (List.range n).map fun d => ((ds.count d : Nat) : Int)
theorem cntL_len (n : Nat) (ds : List Nat) : (cntL n ds).length = n := by unfold cntL; rw [List.length_map, List.length_range]
theorem cntL_at {n i : Nat} {ds : List Nat} (h : i < n) : (cntL n ds).getD i 0 = ((ds.count i : Nat) : Int) := by
  unfold cntL
  rw [List.getD_eq_getElem?_getD, List.getElem?_map, List.getElem?_range h]
  rfl
theorem cnt_at {n i : Nat} {ds : List Nat} (h : i < n) : (cntL n (ds.take 0)).getD i 0 = 0 := by
  rw [cntL_at h]
  simp
theorem count_zs (ds : List Nat) (k : Nat) : (zs ds).count (k : Int) = ds.count k := by
  induction ds with
  | nil => rfl
  | cons d ds ih =>
    show List.count (k : Int) ((d : Int) :: zs ds) = _
    rw [List.count_cons, List.count_cons, ih]
    by_cases e : d = k
    · subst e; simp
    · have e2 : ¬ ((d : Int) = (k : Int)) := by omega
      simp [e, e2]
theorem cnt_rev (n : Nat) (ds : List Nat) : cntL n ds.reverse = cntL n ds := by
  unfold cntL
  simp
theorem cnt_abs {n : Nat} {ds : List Nat} (h : ds.length ≤ 100000) : ∀ m ∈ cntL n ds, m.natAbs < 10 ^ 70 := fun m hm => by
  obtain ⟨d, _, rfl⟩ := List.mem_map.mp hm
  have := List.count_le_length (a := d) (l := ds)
  have e : ((ds.count d : Nat) : Int).natAbs = ds.count d := Int.natAbs_natCast _
  rw [e]
  exact Nat.lt_of_le_of_lt (Nat.le_trans this h) (by decide +kernel)
theorem ext_at {xs ys : List Int} {z : Nat} (h1 : xs.length = z) (h2 : ys.length = z) (h : ∀ k, k < z → xs.getD k 0 = ys.getD k 0) : xs = ys := by
  refine List.ext_getElem (by omega) fun i hi hj => ?_
  have := h i (by omega)
  rwa [getD_at hi, getD_at hj] at this
theorem set_at {xs : List Int} {k : Nat} {v : Int} (h : k < xs.length) : (xs.set k v).getD k 0 = v := by
  rw [List.getD_eq_getElem?_getD, List.getElem?_set_self h]
  rfl
theorem set_ne {xs : List Int} {k j : Nat} {v : Int} (h : k ≠ j) : (xs.set k v).getD j 0 = xs.getD j 0 := by
  rw [List.getD_eq_getElem?_getD, List.getElem?_set_ne h, ← List.getD_eq_getElem?_getD]
theorem map_at {f : Int → Int} {xs : List Int} {k : Nat} (h : k < xs.length) : (xs.map f).getD k 0 = f (xs.getD k 0) := by
  rw [List.getD_eq_getElem?_getD, List.getElem?_map, List.getElem?_eq_getElem h, getD_at h]
  rfl
theorem cnt_snoc {n i k : Nat} {ds : List Nat} (hk : ds[i]? = some k) (kn : k < n) : (cntL n (ds.take i)).set k ((cntL n (ds.take i)).getD k 0 + 1) = cntL n (ds.take (i + 1)) := by
  refine ext_at (z := n) (by rw [List.length_set]; exact cntL_len _ _) (cntL_len _ _) fun j hj => ?_
  have e : (ds.take (i + 1)).count j = (ds.take i).count j + (if k = j then 1 else 0) := by
    rw [List.take_add_one, hk, Option.toList_some, List.count_append, List.count_cons]
    by_cases e : k = j <;> simp [e]
  rw [cntL_at (ds := ds.take (i + 1)) hj, e]
  by_cases q : k = j
  · subst q
    rw [set_at (by rw [cntL_len]; exact hj), cntL_at hj, if_pos rfl]
    omega
  · rw [set_ne q, cntL_at hj, if_neg q]
    omega
theorem sub_abs {xs ys : List Int} {z : Nat} (h1 : xs.length = z) (h2 : ys.length = z) (b1 : ∀ x ∈ xs, 0 ≤ x ∧ x ≤ 1000000000) (b2 : ∀ x ∈ ys, 0 ≤ x ∧ x ≤ 1000000000) : ∀ y ∈ sub xs ys, y.natAbs ≤ 1000000000 := fun y hy => by
  obtain ⟨i, hi, rfl⟩ := List.mem_iff_getElem.mp hy
  unfold sub at hi ⊢
  rw [List.length_zipWith] at hi
  rw [List.getElem_zipWith]
  have a1 := b1 _ (List.getElem_mem (show i < xs.length by omega))
  have a2 := b2 _ (List.getElem_mem (show i < ys.length by omega))
  omega
theorem zs_app (ds : List Nat) : (zs ds).reverse = zs ds.reverse := by rw [zs, zs, List.map_reverse]
theorem zs_rev (ds : List Nat) : (vints (zs ds)).reverse = vints (zs ds.reverse) := by rw [← zs_app, vints, vints, List.map_reverse]
end L2

namespace L2
open PySem PySem.Spec PyProof.Rows
/-! ### noting a frame on an exception keeps each object's class and dict -/
def DK (h h' : Heap) : Prop := ∀ b o, h.get? b = some o → ∃ o', h'.get? b = some o' ∧ o'.cls = o.cls ∧ o'.dict = o.dict
theorem DK.refl (h : Heap) : DK h h := fun _ o e => ⟨o, e, rfl, rfl⟩
theorem DK.trans {h1 h2 h3 : Heap} (a : DK h1 h2) (b : DK h2 h3) : DK h1 h3 := fun c o e =>
  let ⟨_, e1, c1, d1⟩ := a c o e
  let ⟨o2, e2, c2, d2⟩ := b c _ e1
  ⟨o2, e2, c2.trans c1, d2.trans d1⟩
structure KD {α : Type} (t : Sem α) : Prop where
  out : ∀ (M : Model) (G : PySem.Ctx) (P : α → Pos → Shared → Prop) (F : Value → Pos → Shared → Prop) (p : Pos) (s : Shared), Sem.wp M G t P F p s → Sem.wp M G t (fun a p' s' => P a p' s' ∧ DK s.heap s'.heap) F p s
namespace KD
variable {α β : Type}
theorem ret (a : α) : KD (Pure.pure a : Sem α) := ⟨fun _ _ _ _ _ s h => ⟨h, DK.refl s.heap⟩⟩
theorem uns (w : String) : KD (PySem.unsupported w : Sem α) := ⟨fun _ _ _ _ _ _ h => h⟩
theorem andThen {m : Sem α} {f : α → Sem β} (hm : KD m) (hf : ∀ a, KD (f a)) : KD (m >>= f) := ⟨fun M G P F p s h => by
  rw [Sem.wp_bind'] at h ⊢
  refine Sem.wp_mono M G m (fun a p' s' z => ?_) (fun _ _ _ x => x) p s (hm.out M G _ F p s h)
  exact Sem.wp_mono M G (f a) (fun b p2 s2 y => ⟨y.1, z.2.trans y.2⟩) (fun _ _ _ x => x) p' s' ((hf a).out M G P F p' s' z.1)⟩
theorem cond {c : Prop} [Decidable c] {t u : Sem α} (ht : KD t) (hu : KD u) : KD (if c then t else u) := by split <;> assumption
theorem ld (a : Addr) : KD (PySem.load a) := ⟨fun _ _ _ _ _ s h => by obtain ⟨o, e, q⟩ := h; exact ⟨o, e, q, DK.refl s.heap⟩⟩
theorem stk : KD PySem.stack := ⟨fun M G P F p s h => by
  unfold PySem.stack at h ⊢
  rw [Sem.wp_stack] at h ⊢
  exact ⟨h, DK.refl s.heap⟩⟩
theorem new (o : Obj) : KD (PySem.alloc o) := ⟨fun M G P F p s h => ⟨h, fun b u e => ⟨u, Heap.get?_push_of_some _ e, rfl, rfl⟩⟩⟩
theorem upd (a : Addr) (f : Obj → Obj) (k : ∀ o, (f o).isFreed = o.isFreed ∧ (f o).cls = o.cls ∧ (f o).dict = o.dict) : KD (PySem.update a f) := ⟨fun M G P F p s h => by
  obtain ⟨e, q⟩ := h
  refine ⟨e, q, fun b o hb => ?_⟩
  show ∃ o', (s.heap.update a f).get? b = some o' ∧ _
  by_cases hba : b = a
  · subst hba
    exact ⟨f o, Heap.get?_update_self f hb ((k o).1.trans (Heap.get?_some_iff.mp hb).2), (k o).2.1, (k o).2.2⟩
  · exact ⟨o, (Heap.get?_update_other _ _ (Ne.symm hba)).trans hb, rfl, rfl⟩⟩
theorem fld (v : Value) (i : Nat) : KD (PySem.field v i) := ⟨fun _ G P F p s h => by
  obtain ⟨a, o, vs, x, e, ho, hd, hx, q⟩ := (wp_field_iff G v i P F p s).mp h
  exact (wp_field_iff G v i _ F p s).mpr ⟨a, o, vs, x, e, ho, hd, hx, q, DK.refl s.heap⟩⟩
theorem setFld (v : Value) (i : Nat) (x : Value) : KD (PySem.setField v i x) := ⟨fun _ G P F p s h => by
  obtain ⟨a, o, vs, e, ho, hd, hi, q⟩ := (wp_setField_iff G v i x P F p s).mp h
  refine (wp_setField_iff G v i x _ F p s).mpr ⟨a, o, vs, e, ho, hd, hi, q, fun b ob hb => ?_⟩
  show ∃ o', (s.heap.update a _).get? b = some o' ∧ _
  by_cases hba : b = a
  · subst hba
    rw [ho] at hb
    cases hb
    have z := Heap.get?_update_self (Obj.mapFields (·.setIfInBounds i x)) ho (Obj.isFreed_of_fields (Obj.data_mapFields hd _))
    refine ⟨_, z, Obj.cls_mapFields _ _, ?_⟩
    obtain ⟨c, d, dt, sl⟩ := o
    cases dt <;> rfl
  · exact ⟨ob, (Heap.get?_update_other _ _ (Ne.symm hba)).trans hb, rfl, rfl⟩⟩
theorem any {t : Sem α} (k : KD t) {M : Model} {A : Around} {Q : α → Shared → Prop} {E : Value → Shared → Prop} {s : Shared} (h : wpAny M A t Q E s) : wpAny M A t (fun a s' => Q a s' ∧ DK s.heap s'.heap) E s :=
  fun G p hG => k.out M G _ _ p s (h G p hG)
end KD
theorem kd_import (env : Env) (outer : List Env) : KD (behindIsImport env outer) := by
  unfold behindIsImport
  (repeat' with_reducible first | assumption | exact KD.ret _ | exact KD.uns _ | exact KD.fld _ _ | exact KD.setFld _ _ _ | exact KD.ld _ | exact KD.stk | exact KD.new _ | apply KD.cond | apply KD.andThen | intro _ | split)
theorem kd_caller : KD underTheClaimsCaller := by
  unfold underTheClaimsCaller
  (repeat' with_reducible first | assumption | exact KD.ret _ | exact KD.uns _ | exact KD.fld _ _ | exact KD.setFld _ _ _ | exact KD.ld _ | exact KD.stk | exact KD.new _ | apply KD.cond | apply KD.andThen | intro _ | split)
theorem kd_back (env : Env) (i : Bool) (l : List Env) : KD (keptBack env i l) := by
  have := kd_caller
  cases l <;> unfold keptBack <;> (repeat' with_reducible first | assumption | exact KD.ret _ | exact KD.uns _ | exact KD.fld _ _ | exact KD.setFld _ _ _ | exact KD.ld _ | exact KD.stk | exact KD.new _ | apply KD.cond | apply KD.andThen | intro _ | split)
theorem kd_ready : ∀ l : List Env, KD (readyFrames l)
  | [] => KD.ret _
  | env :: outer => by
    have ih := kd_ready outer
    have h1 := kd_import env outer
    have h2 := fun i => kd_back env i outer
    unfold readyFrames
    (repeat' with_reducible first | assumption | exact KD.ret _ | exact KD.uns _ | exact KD.fld _ _ | exact KD.setFld _ _ _ | exact KD.ld _ | exact KD.stk | exact KD.new _ | apply KD.cond | apply KD.andThen | intro _ | split)
    all_goals first | exact h2 _ | exact KD.upd _ _ (fun o => ⟨by obtain ⟨c, d, dt, sl⟩ := o; cases dt <;> rfl, rfl, rfl⟩) | skip
theorem kd_frameObject (l : List Env) : KD (frameObject l) := by
  cases l with
  | nil => exact KD.ret _
  | cons env outer =>
    have := kd_ready (env :: outer)
    unfold frameObject
    (repeat' with_reducible first | assumption | exact KD.ret _ | exact KD.uns _ | exact KD.fld _ _ | exact KD.setFld _ _ _ | exact KD.ld _ | exact KD.stk | exact KD.new _ | apply KD.cond | apply KD.andThen | intro _ | split)
theorem kd_frameOf (env : Env) : KD (PySem.frameOf env) := by
  have h1 : KD frameEnvs := by unfold frameEnvs; (repeat' with_reducible first | assumption | exact KD.ret _ | exact KD.uns _ | exact KD.fld _ _ | exact KD.setFld _ _ _ | exact KD.ld _ | exact KD.stk | exact KD.new _ | apply KD.cond | apply KD.andThen | intro _ | split)
  have h2 := kd_frameObject
  unfold PySem.frameOf
  (repeat' with_reducible first | assumption | exact KD.ret _ | exact KD.uns _ | exact KD.fld _ _ | exact KD.setFld _ _ _ | exact KD.ld _ | exact KD.stk | exact KD.new _ | apply KD.cond | apply KD.andThen | intro _ | split)
  all_goals first | exact h2 _ | skip
theorem kd_place (f : Addr) (b : Bool) : KD (entryPlaceOf f b) := by
  unfold entryPlaceOf
  (repeat' with_reducible first | assumption | exact KD.ret _ | exact KD.uns _ | exact KD.fld _ _ | exact KD.setFld _ _ _ | exact KD.ld _ | exact KD.stk | exact KD.new _ | apply KD.cond | apply KD.andThen | intro _ | split)
theorem kd_newObj (T : String) (vs : Array Value) : KD (newObj (.type T) (.fields vs)) := by
  unfold newObj newObjAsIs
  dsimp only
  (repeat' with_reducible first | assumption | exact KD.ret _ | exact KD.uns _ | exact KD.fld _ _ | exact KD.setFld _ _ _ | exact KD.ld _ | exact KD.stk | exact KD.new _ | apply KD.cond | apply KD.andThen | intro _ | split)
theorem kd_note (e : Value) (env : Env) : KD (noteFrame e env) := by
  have h1 := kd_frameOf env
  have h2 := kd_place
  unfold noteFrame EntryCells.newEntry newFields
  (repeat' with_reducible first | assumption | exact KD.ret _ | exact KD.uns _ | exact KD.fld _ _ | exact KD.setFld _ _ _ | exact KD.ld _ | exact KD.stk | exact KD.new _ | apply KD.cond | apply KD.andThen | intro _ | split)
  all_goals first | exact h2 _ _ | exact kd_newObj _ _ | skip
theorem kd_flight (e : Value) (f : Option Addr) : KD (setFlight e f) := by
  unfold setFlight
  (repeat' with_reducible first | assumption | exact KD.ret _ | exact KD.uns _ | exact KD.fld _ _ | exact KD.setFld _ _ _ | exact KD.ld _ | exact KD.stk | exact KD.new _ | apply KD.cond | apply KD.andThen | intro _ | split)
theorem kd_leaving (env : Env) (e : Value) : KD (leaving env e) := by
  have h1 := kd_note e env
  have h2 := kd_flight e none
  unfold leaving
  (repeat' with_reducible first | assumption | exact KD.ret _ | exact KD.uns _ | exact KD.fld _ _ | exact KD.setFld _ _ _ | exact KD.ld _ | exact KD.stk | exact KD.new _ | apply KD.cond | apply KD.andThen | intro _ | split)
end L2

namespace L2
open PySem PySem.Spec PyProof.Rows
/-! ### an exception that flies: all that is tracked, and all that was there ahead of the call, stands in a base that the noting keeps -/
def Fly (l : List Env) (H : Hp) (h : Heap) (a : Addr) (cls : Value) (dx : Option Addr) (H' : Hp) (h' : Heap) : Prop :=
  ∃ (B : Heap) (a0 : Value), Heap.FlyingW B l a cls a0 h' ∧ (∀ b o, h.get? b = some o → H b = none → b ∉ frs l → B.get? b = some o) ∧ (∀ b u o, H' b = some u → h'.get? b = some o → B.get? b = some o) ∧ ∃ oe, h'.get? a = some oe ∧ oe.dict = dx
def CXF (P : Program) (w : World) : CXT := fun outer H s E e s' =>
  ∃ (a : Addr) (cls : Value) (dx : Option Addr) (H' : Hp), e = .ref a ∧ s'.os = s.os ∧ AllBare s'.gens ∧ Un (frs outer) [] H H' s.heap s'.heap ∧ HOk P w H' s'.heap ∧ H' a = none ∧ s.heap.get? a = none ∧ Fly outer H s.heap a cls dx H' s'.heap ∧ E cls dx H'
theorem ObjOk.has {P : Program} {w : World} {H : Hp} {h : Heap} {a : Addr} {o : HO} (x : ObjOk P w H h a o) : ∃ ob, h.get? a = some ob := by
  cases o with
  | lst xs => obtain ⟨_, _, _, _, e⟩ := x; exact ⟨_, e⟩
  | tup xs => obtain ⟨_, _, _, ob, e, _⟩ := x; exact ⟨_, e⟩
  | dK kvs => obtain ⟨_, _, _, _, o, _, _, e, _⟩ := x; exact ⟨_, e⟩
  | dT kvs => obtain ⟨_, _, _, _, o, _, _, e, _⟩ := x; exact ⟨_, e⟩
  | set S n => obtain ⟨o, _, _, _, e, _⟩ := x; exact ⟨_, e⟩
  | ins C dx fs => obtain ⟨_, _, _, e, _⟩ := x; exact ⟨_, e⟩
  | own y => obtain ⟨_, e⟩ := x; exact ⟨_, e⟩
  | xd fs => obtain ⟨_, ⟨_, _, _, e, _⟩, _⟩ := x; exact ⟨_, e⟩
  | rng lo hi => obtain ⟨_, _, _, e⟩ := x; exact ⟨_, e⟩
  | frz ob u => obtain ⟨e, _⟩ := x; exact ⟨_, e⟩
  | tbl ps => exact ⟨_, x⟩
  | met f y => exact ⟨_, x⟩
  | ext φ => obtain ⟨_, ⟨_, e⟩, _⟩ := x; exact ⟨_, e⟩
section
variable {P : Program} {w : World}
theorem HOk.based {H' : Hp} {h' h'' B : Heap} (ok : HOk P w H' h') (T : ∀ b u o, H' b = some u → h'.get? b = some o → B.get? b = some o) (st : B.StaysIn h'') : HOk P w H' h'' := fun a o e => by
  refine (ok a o e).stay (fun b u hb q => ?_) (fun _ q => q) fun _ _ q => q
  rcases hb with rfl | hb
  · exact st b u (T b _ u e q)
  · exact st b u (T b _ u hb q)
/-- one more noting: the frames l' are those of l, but perhaps for frames that were not there ahead -/
theorem Un.flown {l l' : List Env} {H H' : Hp} {h h' h'' B : Heap} {a : Addr} {cls a0 : Value} (u : Un (frs l') [] H H' h h') (F : Heap.FlyingW B l a cls a0 h') (st : B.StaysIn h'') (up : h'.UpToSlots h'') (dk : DK h' h'')
    (old : ∀ b o, h.get? b = some o → H b = none → b ∉ frs l → B.get? b = some o) (sub : ∀ b ∈ frs l', b ∈ frs l) (nw : ∀ b ∈ frs l, b ∉ frs l' → h.get? b = none) : Un (frs l') [] H H' h h'' where
  keep := fun b o e n hb _ => by
    by_cases hl : b ∈ frs l
    · rw [nw b hl hb] at e; cases e
    · exact st b o (old b o e n hl)
  slot := fun b o e n hb hx => by
    obtain ⟨sl, e1⟩ := u.slot b o e n hb hx
    obtain ⟨_, ob, ho, nf⟩ := F.2.2.1.mem (sub b hb)
    rw [e1] at ho
    cases ho
    obtain ⟨sl', e2⟩ := up b _ e1 nf
    exact ⟨sl', e2⟩
  free := u.free
  there := fun b o e hx => by
    obtain ⟨o', e1⟩ := u.there b o e hx
    obtain ⟨o2, e2, _⟩ := dk b o' e1
    exact ⟨o2, e2⟩
  tups := u.tups
  frzs := u.frzs
  tbls := u.tbls
variable {K : PySem.W.Frag} {mg : Str → Option Value} {base : Heap} {N : List Str} {qual : Str} {scope : Scope} {f : Addr} {cd : Value} {A : Around} {outer : List Env} {s : Shared} {H : Hp} {E : XK}
theorem frs_cons {env : Env} {l : List Env} {L : Addr} (h : env.frame = some L) : frs (env :: l) = L :: frs l := by
  unfold frs
  rw [List.filterMap_cons, h]
theorem passF : Passes (CXF P w) (cxOf (CXF P w) P w K mg base N qual scope f cd A outer s H E) E := by
  intro pins σ H1 s1 e s' I hc
  obtain ⟨a, cls, dx, H', rfl, os, bare, un, hok, na, ha, ⟨B, a0, F, b1, b2, oe, he, hd⟩, q⟩ := hc
  have J := I.call' (H' := H') os un hok bare (fun b z => absurd z (by simp))
  have eL : (cxOf (CXF P w) P w K mg base N qual scope f cd A outer s H E).env.frame = some s.heap.objs.size := rfl
  have hfs : frs ((cxOf (CXF P w) P w K mg base N qual scope f cd A outer s H E).stack) = s.heap.objs.size :: frs outer := frs_cons eL
  show wpAny _ _ (leaving _ (.ref a)) _ _ _
  refine wpAny_mono ((kd_leaving _ _).any (wpAny_leaves_onW (Q := fun _ s'' => Heap.FlyingW B outer a cls a0 s''.heap ∧ s'.heap.UpToSlots s''.heap ∧ s'' = { s' with heap := s''.heap }) I.ok.frames eL F fun h' F' U => ⟨F', U, rfl⟩)) (fun _ s'' z => ?_) fun _ _ z => z
  obtain ⟨⟨F', U, es⟩, dk⟩ := z
  obtain ⟨oe', he', _, hd'⟩ := dk a oe he
  have old : ∀ b o, s.heap.get? b = some o → H b = none → b ∉ frs ((cxOf (CXF P w) P w K mg base N qual scope f cd A outer s H E).stack) → B.get? b = some o := fun b o e n hb => by
    have hb' : b ∉ frs outer := fun z => hb (by rw [hfs]; exact List.mem_cons_of_mem _ z)
    exact b1 b o (I.base.keep b o e n hb' (fun z => absurd z (by simp [cxOf]))) (I.base.free b o e n (fun z => absurd z (by simp [cxOf]))) hb
  have nw : ∀ b ∈ frs ((cxOf (CXF P w) P w K mg base N qual scope f cd A outer s H E).stack), b ∉ frs outer → s.heap.get? b = none := fun b hb nb => by
    rw [hfs] at hb
    rcases List.mem_cons.mp hb with z | z
    · rw [z]; exact Heap.get?_none_of_le (Nat.le_refl _)
    · exact absurd z nb
  have sub : ∀ b ∈ frs outer, b ∈ frs ((cxOf (CXF P w) P w K mg base N qual scope f cd A outer s H E).stack) := fun b hb => by
    rw [hfs]; exact List.mem_cons_of_mem _ hb
  have na' : s.heap.get? a = none := by
    cases z : s.heap.get? a with
    | none => rfl
    | some o => obtain ⟨o', e'⟩ := I.base.there a o z (fun z => absurd z (by simp [cxOf])); rw [ha] at e'; cases e'
  refine ⟨a, cls, dx, H', rfl, by rw [es]; exact J.os, by rw [es]; exact bare, J.base.flown F F'.1 U dk old sub nw, hok.based b2 F'.1, na, na', ⟨B, a0, F', fun b o e n hb => ?_, fun b u o hu ho => ?_, oe', he', hd'.trans hd⟩, q⟩
  · by_cases hs : b ∈ frs ((cxOf (CXF P w) P w K mg base N qual scope f cd A outer s H E).stack)
    · rw [nw b hs hb] at e; cases e
    · exact old b o e n hs
  · obtain ⟨ob, hob⟩ := (hok b u hu).has
    have z := b2 b u ob hu hob
    rw [F'.1 b ob z] at ho
    cases ho
    exact z
/-! ### raise C(..) of an own class -/
def RaiseOk (X : Cx) (C : Addr) (E : XK) : Prop := ∀ (pins : List (Addr × Obj)) (σ : St) (H : Hp) (s : Shared) (e : Addr) (h' : Heap) (vs : List Value), Inv X pins σ H s → Heap.MadeExcOf s.heap h' e (.ref C) vs → E (.ref C) none H → X.xe (.ref e) { s with heap := h' }
theorem raiseF {C : Addr} : RaiseOk (cxOf (CXF P w) P w K mg base N qual scope f cd A outer s H E) C E := by
  intro pins σ H1 s1 e h1 vs I hx q
  have eL : (cxOf (CXF P w) P w K mg base N qual scope f cd A outer s H E).env.frame = some s.heap.objs.size := rfl
  generalize hl : frs ((cxOf (CXF P w) P w K mg base N qual scope f cd A outer s H E).stack) = fs
  have hfs : fs = s.heap.objs.size :: frs outer := by rw [← hl]; exact frs_cons eL
  have FF := PySem.W.funFrames_hide (as := fs) I.stack (fun env he a ha => by rw [← hl]; exact List.mem_filterMap.mpr ⟨env, he, ha⟩)
  have st : (PySem.W.hideAll s1.heap fs).StaysIn s1.heap := fun b o z => PySem.W.of_hideAll _ z
  obtain ⟨t, het, _, _⟩ := hx.there
  have ne : H1 e = none := by
    cases z : H1 e with
    | none => rfl
    | some u => obtain ⟨ob, hob⟩ := (I.hok e u z).has; rw [hx.new] at hob; cases hob
  show wpAny _ _ (leaving _ (.ref e)) _ _ _
  refine wpAny_mono ((kd_leaving _ _).any (wpAny_leaves_madeW (Q := fun _ s'' => (∃ t, Heap.FlyingW (PySem.W.hideAll s1.heap fs) outer e (.ref C) (.ref t) s''.heap) ∧ h1.UpToSlots s''.heap ∧ s'' = { s1 with heap := s''.heap }) (s := { s1 with heap := h1 }) I.ok.frames eL st FF hx fun h' t F' _ _ U => ⟨⟨t, F'⟩, U, rfl⟩)) (fun _ s'' z => ?_) fun _ _ z => z
  obtain ⟨⟨⟨t', F'⟩, U, es⟩, dk⟩ := z
  obtain ⟨oe', he', _, hd'⟩ := dk e _ het
  have kp : ∀ b o, s1.heap.get? b = some o → b ∉ fs → (PySem.W.hideAll s1.heap fs).get? b = some o := fun b o z nb => PySem.W.hideAll_get _ z nb
  have exN : ∀ b : Addr, b ∉ (cxOf (CXF P w) P w K mg base N qual scope f cd A outer s H E).ex := fun b z => absurd z (by simp [cxOf])
  have old : ∀ b o, s.heap.get? b = some o → H b = none → b ∉ frs outer → (PySem.W.hideAll s1.heap fs).get? b = some o := fun b o e' n hb => by
    refine kp b o (I.base.keep b o e' n hb (exN b)) fun z => ?_
    rw [hfs] at z
    rcases List.mem_cons.mp z with z | z
    · rw [z] at e'; exact absurd (Heap.lt_size e') (Nat.lt_irrefl _)
    · exact hb z
  have trk : ∀ b u o, H1 b = some u → s1.heap.get? b = some o → (PySem.W.hideAll s1.heap fs).get? b = some o := fun b u o hu ho => by
    refine kp b o ho fun z => ?_
    have := I.stkFree b (by rw [hl]; exact z)
    rw [this] at hu; cases hu
  have trk' : ∀ b u o, H1 b = some u → s''.heap.get? b = some o → (PySem.W.hideAll s1.heap fs).get? b = some o := fun b u o hu ho => by
    obtain ⟨ob, hob⟩ := (I.hok b u hu).has
    have z := trk b u ob hu hob
    rw [F'.1 b ob z] at ho
    cases ho
    exact z
  have na' : s.heap.get? e = none := by
    cases z : s.heap.get? e with
    | none => rfl
    | some o => obtain ⟨o', e'⟩ := I.base.there e o z (exN e); rw [hx.new] at e'; cases e'
  refine ⟨e, .ref C, none, H1, rfl, by rw [es]; exact I.os, by rw [es]; exact I.bare, ⟨fun b o e' n hb _ => F'.1 b o (old b o e' n hb), fun b o e' n hb hx' => ?_, fun b o e' n hx' => I.base.free b o e' n (exN b), fun b o e' hx' => ?_, I.base.tups, I.base.frzs, I.base.tbls⟩, I.hok.based trk F'.1, ne, na', ⟨_, _, F', old, trk', oe', he', hd'⟩, q⟩
  · obtain ⟨sl, e1⟩ := I.base.slot b o e' n hb (exN b)
    obtain ⟨_, ob, ho, nf⟩ := I.stack.mem (b := b) (by show b ∈ frs _; rw [hl, hfs]; exact List.mem_cons_of_mem _ hb)
    rw [e1] at ho
    cases ho
    obtain ⟨sl', e2⟩ := U b _ (hx.keeps _ _ e1) nf
    exact ⟨sl', e2⟩
  · obtain ⟨o', e1⟩ := I.base.there b o e' (exN b)
    obtain ⟨o2, e2, _⟩ := dk b o' (hx.keeps _ _ e1)
    exact ⟨o2, e2⟩
end
end L2

namespace L2
open PySem PySem.Spec PyProof.Rows
abbrev excMro : List Value := [.type "ValueError", .type "Exception", .type "BaseException", .type "object"]
/-- an own class of exceptions: its object, and the classes above it -/
def ExcCls (h : Heap) (C : Addr) (bm : List Value) (N : Addr) (mN : Str → Option Value) : Prop :=
  ∃ nm qn bs hdct sn sub ab col dd k0 k1 k2 k3 k5, h.get? C = some (excClassObj nm qn C N bs bm hdct sn sub ab col dd k0 k1 k2 k3 k5 "ValueError.__new__") ∧ h.Ns N mN ∧ OwnTail h excMro bm
/-- .. read off the written part; ini: what its own namespace has for __init__ -/
def ecIn (K : PySem.W.Frag) (C : Addr) (bm : List Value) : Bool := match K.lookup C with
  | some ⟨.type "type", _, .cls cd, sl⟩ => (match cd.mro, sl.toList with
    | .ref C' :: tl, [_, _, _, _, some (.builtin n), _] => C' == C && tl == bm && n == "ValueError.__new__" && !cd.hasDel && PySem.W.tailIn K excMro bm && PySem.W.nsOkIn K cd.ns
    | _, _ => false)
  | _ => false
theorem ExcCls.of {K : PySem.W.Frag} {h : Heap} {C : Addr} {bm : List Value} (X : K.In h) (q : ecIn K C bm = true) : ∃ N mN, ExcCls h C bm N mN ∧ (PySem.W.clsIn K C).map (·.ns) = some N := by
  unfold ecIn at q
  split at q
  case h_2 => cases q
  case h_1 d cd sl lk =>
    split at q
    case h_2 => cases q
    case h_1 C2 tl a b c d2 n e2 hm hs =>
      simp only [Bool.and_eq_true, beq_iff_eq, Bool.not_eq_true'] at q
      obtain ⟨⟨⟨⟨⟨c1, c2⟩, c3⟩, c4⟩, c5⟩, c6⟩ := q
      subst c1 c2 c3
      obtain ⟨l⟩ := sl
      dsimp only at hs
      subst hs
      obtain ⟨nm, bs, mro, ns, qn, hd, sn, sub, ab, col, del⟩ := cd
      dsimp only at hm c4 c6
      subst hm c4
      exact ⟨ns, _, ⟨nm, qn, bs, hd, sn, sub, ab, col, d, a, b, c, d2, e2, X _ _ lk, .of_isNs (PySem.W.isNs_of_in X c6), PySem.W.tail_of_in X c5⟩, by unfold PySem.W.clsIn; rw [lk]; rfl⟩
theorem ExcCls.keeps {h h' : Heap} {C : Addr} {bm : List Value} {N : Addr} {mN : Str → Option Value} (x : ExcCls h C bm N mN) (k : ∀ b o, h.get? b = some o → h'.get? b = some o) : ExcCls h' C bm N mN := by
  obtain ⟨nm, qn, bs, hd, sn, sub, ab, col, dd, k0, k1, k2, k3, k5, e, n, t⟩ := x
  exact ⟨nm, qn, bs, hd, sn, sub, ab, col, dd, k0, k1, k2, k3, k5, k _ _ e, n.keeps k, t.keeps k⟩
/-- a plain one: no __init__ of its own -/
structure XPlain (K : PySem.W.Frag) (C : Addr) (bm : List Value) : Prop where
  ec : ecIn K C bm = true
  ni : ((PySem.W.clsIn K C).map (·.ns)).bind (fun N => PySem.W.nsIn K N "__init__") = some none
section
variable {X : Cx} {C : Addr} {bm : List Value} {E : XK}
def tRaise (C : Addr) (E : XK) (t : TA) : TS := fun _ σ H => t σ H fun vs H1 => vs.length ≤ sizeLine ∧ E (.ref C) none H1
theorem ps_raise {x : Str} {np cpos pos : Pos} {e : Expr} {es : List Expr} {t : TA} (R : RaiseOk X C E) (c : XPlain X.K C bm) (hg : Gl X x) (hm : X.mg x = some (.ref C)) (ha : PA X (e :: es) t) (hc : X.calm = true := by rfl)
    (hdb : (x == ("__debug__" : Str)) = false := by decide) (he : starEach (e :: es) X.env = (false, eval e X.env) :: starEach es X.env := by rfl) (hpl : (backTo cpos (starEach (e :: es) X.env)).any (·.1) = false := by rfl) :
    PS X (.Raise (some (.Call (.Name x np) (e :: es) [] cpos)) none pos) (tRaise C E t) := by
  intro pins s σ H D I h
  obtain ⟨N, mN, xc, hN⟩ := ExcCls.of I.ok.mod.kin c.ec
  have nin : mN "__init__" = none := by
    have z := c.ni
    rw [hN] at z
    obtain ⟨_, _, _, _, _, _, _, _, _, _, _, _, _, _, _, n, _⟩ := xc
    exact PySem.W.ns_none_of I.ok.mod.kin n z
  obtain ⟨nm, qn, bs, hd, sn, sub, ab, col, dd, k0, k1, k2, k3, k5, e0, n0, t0⟩ := xc
  refine wpAny_Raise_call_subT (C := C) (N := N) (mN := mN) (nm := nm) (q := qn) (bs := bs) (bm := bm) (hdct := hd) (sn := sn) (sub := sub) (ab := ab) (col := col) (dd := dd) (k0 := k0) (k1 := k1) (k2 := k2) (k3 := k3) (k5 := k5) PySem.F.excBase_ValueError (t0.hasType PySem.F.excBase_ValueError.hasBase) (I.ok.hd hc) hpl nin (ld_glob I hg hm ⟨rfl, ?_⟩ hdb)
  have z := ha cpos pins s σ H _ I h
  rw [he] at z ⊢
  refine Calls.evalArgs_plain (thn z fun us s1 ⟨vs, H1, I1, r, hl, q⟩ => ⟨rfl, by rw [← r.length]; exact hl, I1.bk _ _ e0, n0.keeps I1.bk, t0.keeps I1.bk, fun h' a hx => R pins σ H1 s1 a h' _ I1 hx q⟩)
end
/-! ### a call that may raise, within try -/
def PX (X : Cx) (ex : Expr) (tx : St → Hp → VK → XK → Prop) : Prop :=
  ∀ (pins : List (Addr × Obj)) (s : Shared) (σ : St) (H : Hp) (Q : VK) (E : XK), Inv X pins σ H s → tx σ H Q E → wpAny (model X.prog X.w) X.A (eval ex X.env) (EP X pins σ Q) (fun e s' => ∃ H1 s1, Inv X pins σ H1 s1 ∧ CXF X.prog X.w X.stack H1 s1 E e s') s
def PB (X : Cx) (body : List Stmt) (tb : Ends → XK → St → Hp → Prop) : Prop :=
  ∀ (pins : List (Addr × Obj)) (s : Shared) (σ : St) (H : Hp) (D : Ends) (E : XK), Inv X pins σ H s → tb D E σ H → wpAny (model X.prog X.w) X.A (execs body X.env) (SP X pins D) (fun e s' => ∃ H1 s1, Inv X pins σ H1 s1 ∧ CXF X.prog X.w X.stack H1 s1 E e s') s
section
variable {X : Cx} {k : Nat} {f : Addr} {fd : FuncData} {ps : List Str} {sp : Sp} {x : Str} {p pos : Pos} {e : Expr} {es : List Expr} {t : TA}
theorem px_call (F : FnOk X.prog X.w X.K X.mg X.base (CXF X.prog X.w) k f fd ps sp) (hr : Room k X.A) (hg : Gl X x) (hm : X.mg x = some (.ref f)) (hk : PySem.W.keepIn X.K (.ref f) = true) (hb : Binds X.K fd ps [])
    (ha : PA X.nox (e :: es) t) (hdb : (x == ("__debug__" : Str)) = false := by decide) (he : starEach (e :: es) X.env = (false, eval e X.env) :: starEach es X.env := by rfl) (hpl : (backTo pos (starEach es X.env)).any (·.1) = false := by rfl) :
    PX X (.Call (.Name x p) (e :: es) [] pos) (fun σ H Q E => t σ H fun vs H1 => sp vs H1 Q E) := by
  intro pins s σ H Q E I h
  refine wpAny_Call_Name_kw (ld_glob I hg hm ?_ hdb)
  refine PySem.W.callWith_K (h₀ := X.base) I.ok.mod.kin hk (wpAny_mono (ha pos pins s σ H _ (I.wish _) h) (fun us s1 ⟨vs, H1, I1', r, q⟩ => ?_) fun _ _ z => False.elim z) he hpl
  have I1 := I1'.unwish
  refine ⟨I1.kIn, ?_⟩
  have hl : us.length = ps.length := by rw [← r.length]; exact F.len _ _ _ _ q
  have bnd := hb s1 us I1.kIn (by rw [List.append_nil]; exact hl)
  rw [List.append_nil] at bnd
  refine wpAny_call (codeAny_mono (F.run X.A X.stack s1 H1 ⟨us, []⟩ us vs Q E hr I1.env0 bnd r q) fun r s' hq => ?_)
  cases r with
  | error e => exact ⟨H1, s1, I1, hq⟩
  | ok fl =>
    cases fl with
    | ret u => exact I1.after hq
    | next => exact False.elim hq
    | brk => exact False.elim hq
    | cont => exact False.elim hq
theorem pb_expr {ex : Expr} {tx : St → Hp → VK → XK → Prop} (hx : PX X ex tx) (hs : swapsWith ex none pos.line X.env = pure false := by rfl) : PB X [.Expr ex pos] (fun D E σ H => tx σ H (fun _ H1 => D.nx σ H1) E) := by
  intro pins s σ H D E I h
  refine wpAny_execs_cons (thn (wpAny_Expr_any (Q := fun fl s1 => fl = .next ∧ SP X pins D .next s1) (thn (hx pins s σ H _ E I h) fun v s1 ⟨y, H1, I1, r1, q1⟩ => ⟨rfl, σ, H1, I1, q1⟩) I.quiet hs) fun fl s1 q => ?_)
  obtain ⟨rfl, q⟩ := q
  exact wpAny_execs_nil q
theorem pb_set {i : Nat} {y : Str} {ex : Expr} {pos' : Pos} {tx : St → Hp → VK → XK → Prop} (hN : X.N.Nodup) (hi : X.N[i]? = some y) (hy : Loc X.env.scope y) (hx : PX X ex tx) (hs : swapsWith ex (some (.Name y pos')) pos.line X.env = pure false := by rfl)
    (hf : X.fn y = true ∨ X.env.scope.names.lookup y = some .local := by first | exact .inl rfl | exact .inr rfl | assumption) : PB X [.Assign [.Name y pos'] ex pos] (fun D E σ H => tx σ H (fun v H1 => D.nx (σ.set i (some v)) H1) E) := by
  intro pins s σ H D E I h
  refine wpAny_execs_cons (thn (wpAny_Assign_Name (Q := fun fl s1 => fl = .next ∧ SP X pins D .next s1) (thn (hx pins s σ H _ E I h) fun v s1 ⟨y, H1, I1, r1, q1⟩ => store_ok I1 hN hi hy r1 (fun s2 I2 => ⟨rfl, _, H1, I2, q1⟩) hf) hs) fun fl s1 q => ?_)
  obtain ⟨rfl, q⟩ := q
  exact wpAny_execs_nil q
end
end L2

namespace L2
open PySem PySem.Spec PyProof.Rows
/-! ### within an except suite: the exception is held -/
abbrev Cx.hold (X : Cx) (e : Addr) (o : Obj) : Cx := { X with A := X.A.mark (some (.ref e)), calm := false, pn := X.pn ++ [(e, o)], xe := fun _ _ => False }
section
variable {X : Cx} {pins : List (Addr × Obj)} {σ : St} {H : Hp} {s : Shared} {a : Addr} {o : Obj}
theorem Cx.Ok.hold (ok : X.Ok) (e : Addr) (o : Obj) : (X.hold e o).Ok :=
  ⟨ok.mod, ok.kind, ok.glob, ok.blt, ok.above, ok.inj, ok.has, ok.cab, (fun z => Bool.noConfusion z), ok.frames, ok.stk, ok.exf, ok.bs, ok.bsz, ok.noex, ok.exfs, ok.funs, ok.frf⟩
theorem Inv.hold (I : Inv X pins σ H s) (h1 : s.heap.get? a = some o) (h2 : H a = none) (h3 : a ≠ X.env.locals) (h4 : a ∉ X.fs) (h5 : ∀ v, o.data ≠ .cell v) : Inv (X.hold a o) pins σ H s := by
  refine ⟨I.ok.hold a o, I.os, I.bare, I.base, I.loc, I.cell, I.free, I.freeC, fun p hp => ?_, I.hok, I.len⟩
  have hp : p ∈ (X.pn ++ [(a, o)]) ++ pins := hp
  rcases List.mem_append.mp hp with hp | hp
  · rcases List.mem_append.mp hp with hp | hp
    · exact I.pin p (List.mem_append_left _ hp)
    · cases List.mem_singleton.mp hp
      exact ⟨h1, h2, h3, h4, h5⟩
  · exact I.pin p (List.mem_append_right _ hp)
theorem Inv.unhold (ok : X.Ok) (I : Inv (X.hold a o) pins σ H s) : Inv X pins σ H s := by
  refine ⟨ok, I.os, I.bare, I.base, I.loc, I.cell, I.free, I.freeC, fun p hp => I.pin p ?_, I.hok, I.len⟩
  show p ∈ (X.pn ++ [(a, o)]) ++ pins
  rcases List.mem_append.mp hp with hp | hp
  · exact List.mem_append_left _ (List.mem_append_left _ hp)
  · exact List.mem_append_right _ hp
/-- the name of the exception goes -/
theorem gone_ok {M : Model} {A : Around} {E : Value → Shared → Prop} {i : Nat} {n : Str} {pos : Pos} {Q : Unit → Shared → Prop} (I : Inv X pins σ H s) (hN : X.N.Nodup) (hi : X.N[i]? = some n) (hl : X.env.scope.names.lookup n = some .local)
    (h : ∀ s', Inv X pins (σ.set i none) H s' → Q () s') : wpAny M A (do bindName X.env n .none; unbindBehindTheSuite X.env n pos) Q E s := by
  have hcls : (X.env.scope.kind == .class || (X.env.scope.kind == .module && X.env.locals != X.env.globals)) = false := by rw [I.ok.kind]; rfl
  refine wpAny_bind (wpAny_bindName (store_ok I hN hi (.inl hl) (v := .non) (u := .none) rfl (fun s1 J => ?_) (.inr hl)))
  unfold unbindBehindTheSuite
  refine wpAny_onRaise ?_
  obtain ⟨m, hn, hlk⟩ := id J.loc
  have hiσ : i < σ.length := by rw [I.len]; exact (List.getElem?_eq_some_iff.mp hi).1
  obtain ⟨u, _, lk⟩ := hlk i n .non hi (List.getElem?_set_self hiσ) (.inl hl)
  have hv : m n = some u := by
    rcases lk with ⟨_, z⟩ | ⟨z, _⟩
    · exact z
    · have z : X.env.scope.names.lookup n = some .cell ∨ X.env.scope.names.lookup n = some .free := z
      rw [hl] at z
      rcases z with z | z <;> cases z
  refine wpAny_unbindName_local hl hn hv hcls fun h' u' hn' hs => ?_
  obtain ⟨oL, _, _, hoL, _⟩ := id hn
  have cne := J.cne
  have old : ∀ b o, X.s₀.heap.get? b = some o → b ≠ X.env.locals := fun b o e => Nat.ne_of_lt (Nat.lt_of_lt_of_le (Heap.lt_size e) J.ok.above)
  refine h _ ⟨J.ok, J.os, J.bare, ⟨fun b o e n hb hx => (hs.2 b (old b o e)).trans (J.base.keep b o e n hb hx), fun b o e n hb hx => ?_, J.base.free, fun b o e hx => ?_, J.base.tups, J.base.frzs, J.base.tbls⟩, ⟨_, hn', fun j y v' e1 e2 e3 => ?_⟩, fun y c e => ?_, J.free, J.freeC, fun p hp => ?_, fun b ob e => ?_, by simpa using I.len⟩
  · obtain ⟨sl, e1⟩ := J.base.slot b o e n hb hx
    exact ⟨sl, (hs.2 b (old b o e)).trans e1⟩
  · obtain ⟨o', e1⟩ := J.base.there b o e hx
    exact ⟨o', (hs.2 b (old b o e)).trans e1⟩
  · by_cases hj : j = i
    · subst hj
      rw [List.getElem?_set_self hiσ] at e2
      cases e2
    · rw [List.getElem?_set_ne (Ne.symm hj)] at e2
      obtain ⟨w', r', q⟩ := hlk j y v' e1 (by rw [List.getElem?_set_ne (Ne.symm hj)]; exact e2) e3
      refine ⟨w', r', ?_⟩
      rcases q with ⟨k, e⟩ | ⟨k, c, e, z⟩
      · refine .inl ⟨k, ?_⟩
        have ne : y ≠ n := fun e => hj (nodup_ix hN e1 (e ▸ hi))
        show (if y = n then u' else m y) = some w'
        rw [if_neg ne]
        exact e
      · exact .inr ⟨k, c, e, z.sameBut hs (cne y c e)⟩
  · obtain ⟨w', z⟩ := J.cell y c e
    exact ⟨w', z.sameBut hs (cne y c e)⟩
  · obtain ⟨e, n, ne, nf, d⟩ := J.pin p hp
    exact ⟨(hs.2 p.1 ne).trans e, n, ne, nf, d⟩
  · refine (J.hok b ob e).stay (fun c w' hc q => (hs.2 c ?_).trans q) (fun _ q => q) fun _ _ q => q
    rintro rfl
    rcases hc with z | hc
    · rw [← z, J.free] at e; cases e
    · rw [J.free] at hc; cases hc
end
/-! ### the clause's test -/
theorem exc_matches {M : Model} {A : Around} {E : Value → Shared → Prop} {s : Shared} {e C D : Addr} {oe : Obj} {bm bd : List Value} {N N' : Addr} {mN mN' : Str → Option Value} {Q : Bool → Shared → Prop} (hC : ExcCls s.heap C bm N mN) (hD : ExcCls s.heap D bd N' mN')
    (he : s.heap.get? e = some oe) (hcls : oe.cls = .ref C) (q : Q ((Value.ref C :: bm).contains (.ref D)) s) : wpAny M A (excMatches (.ref e) (.ref D)) Q E s := by
  obtain ⟨nm, qn, bs, hd, sn, sub, ab, col, dd, k0, k1, k2, k3, k5, e0, n0, t0⟩ := hC
  obtain ⟨nm', qn', bs', hd', sn', sub', ab', col', dd', k0', k1', k2', k3', k5', e0', n0', t0'⟩ := hD
  have hb : (Value.ref D :: bd).contains (.type "BaseException") = true := by rw [List.contains_cons, t0'.hasType PySem.F.excBase_ValueError.hasBase, Bool.or_true]
  have f := tc_notTuple
  obtain ⟨hp, g, d, t, os⟩ := s
  generalize hr : (Value.ref C :: bm).contains (.ref D) = r at q
  unfold excMatches
  repeat (first | (with_reducible refine wpAny_loadPart_at he ?_; rw [hcls]) | with_reducible refine wpAny_loadPart_at e0' ?_ | (with_reducible refine wpAny_isSubtype_exc e0' ?_; rw [hb]) | (with_reducible refine wpAny_isSubtype_exc e0 ?_; rw [hr]) | wp_step)
  cases r <;> (wp_walk; exact q)
end L2

namespace L2
open PySem PySem.Spec PyProof.Rows
/-- an exception's object, of the class at C, with its own dict at dx -/
structure XObj (o : Obj) (C : Addr) (dx : Option Addr) : Prop where
  cls : o.cls = .ref C
  dict : o.dict = dx
  no : PySem.W.notCls o = true
/-- C is caught by a clause that names D -/
structure Caught (K : PySem.W.Frag) (C D : Addr) : Prop where
  w : ∃ bm bd, ecIn K C bm = true ∧ ecIn K D bd = true ∧ (Value.ref C :: bm).contains (.ref D) = true
def afterS (D : Ends) (i : Nat) : Ends := { nx := fun σ H => D.nx (σ.set i none) H, rt := D.rt, bk := fun σ H => D.bk (σ.set i none) H, ct := fun σ H => D.ct (σ.set i none) H }
def tTryAs (K : PySem.W.Frag) (Dc : Addr) (i : Nat) (tb : Ends → XK → St → Hp → Prop) (th : Addr → Obj → TS) : TS := fun D σ H =>
  tb D (fun cls dx H' => ∃ C, cls = .ref C ∧ Caught K C Dc ∧ ∀ e o, H' e = none → XObj o C dx → th e o (afterS D i) (σ.set i (some (.ref e))) H') σ H
def tTry0 (K : PySem.W.Frag) (Dc : Addr) (tb : Ends → XK → St → Hp → Prop) (th : Addr → Obj → TS) : TS := fun D σ H =>
  tb D (fun cls dx H' => ∃ C, cls = .ref C ∧ Caught K C Dc ∧ ∀ e o, H' e = none → XObj o C dx → th e o D σ H') σ H
section
variable {X : Cx} {body suite : List Stmt} {b₀ : Stmt} {np hp pos : Pos} {cn n : Str} {i : Nat} {Dc : Addr} {tb : Ends → XK → St → Hp → Prop} {th : Addr → Obj → TS}
/-- up to the clause's suite -/
theorem to_suite {pins : List (Addr × Obj)} {σ : St} {a : Addr} {s' : Shared} {name : Option Str} {Q : Flow → Shared → Prop} {W : Value → Option Addr → Hp → Prop} (hst : X.stack = X.env :: X.outer) (hfr : X.env.frame = some X.env.locals)
    (hg : Gl X cn) (hm : X.mg cn = some (.ref Dc)) (hdb : (cn == ("__debug__" : Str)) = false)
    (z : ∃ H1 s1, Inv X.nox pins σ H1 s1 ∧ CXF X.prog X.w X.nox.stack H1 s1 (fun cls dx H' => ∃ C, cls = .ref C ∧ Caught X.K C Dc ∧ W cls dx H') (.ref a) s')
    (k : ∀ (h5 : Heap) (H' : Hp) (C : Addr) (oe : Obj), Inv (X.nox.hold a oe) pins σ H' { s' with heap := h5 } → H' a = none → oe.cls = .ref C → W (.ref C) oe.dict H' →
      (∀ Q' : Unit → Shared → Prop, (∀ h6 oe6, Inv (X.nox.hold a oe6) pins σ H' { s' with heap := h6 } → XObj oe6 C oe.dict → Q' () { s' with heap := h6 }) → ∀ (A' : Around) (E' : Value → Shared → Prop), wpAny (model X.prog X.w) A' (setFlight (.ref a) none) Q' E' { s' with heap := h5 }) →
      codeAny (model X.prog X.w) (X.A.mark (some (.ref a))) (.handlers (.ref a) [.ExceptHandler none name (b₀ :: suite) hp] X.env) (fun r s₂ => match r with
          | .ok f => (match name with
            | none => Q f s₂
            | some n => wpAny (model X.prog X.w) X.A (do bindName X.env n .none; unbindBehindTheSuite X.env n hp) (fun _ s₃ => Q f s₃) (fun _ _ => False) s₂)
          | .error x => cameBackBy (model X.prog X.w) X.A X.env (fun _ _ => False) x s₂) { s' with heap := h5 }) :
    wpAny (model X.prog X.w) X.A (noteFrame (.ref a) X.env) (fun _ s₂ => wpAny (model X.prog X.w) X.A (setFlight (.ref a) none) (fun _ s₃ =>
      wpAny (model X.prog X.w) X.A (handleBy (.ref a) X.env [.ExceptHandler (some (.Name cn np)) name (b₀ :: suite) hp]) Q (fun _ _ => False) s₃) (fun _ _ => False) s₂) (fun _ _ => False) s' := by
  obtain ⟨H1, s1, I1, a', cls, dx, H', ea, os, bare, un, hok, na, ha, ⟨B, a0, F, b1, b2, oe, he, hd⟩, C, rfl, ⟨bm, bd, cc, cd, cm⟩, q⟩ := z
  cases ea
  have F : Heap.FlyingW B (X.env :: X.outer) a (.ref C) a0 s'.heap := hst ▸ F
  have fr : X.A.frames = some (X.env :: X.outer) := hst ▸ I1.ok.frames
  have un : Un (frs (X.env :: X.outer)) [] H1 H' s1.heap s'.heap := hst ▸ un
  have b1 : ∀ b o, s1.heap.get? b = some o → H1 b = none → b ∉ frs (X.env :: X.outer) → B.get? b = some o := hst ▸ b1
  have aL : a ≠ X.env.locals := fun z => by
    obtain ⟨_, ⟨o, _, _, ho, _⟩, _⟩ := I1.loc
    rw [z] at ha
    rw [show s1.heap.get? X.env.locals = some o from ho] at ha
    cases ha
  have aF : a ∉ X.fs := fun z => by
    obtain ⟨_, o, ho, _⟩ := I1.funs.mem z
    rw [ha] at ho; cases ho
  have land : ∀ h5, Heap.FlyingW B (X.env :: X.outer) a (.ref C) a0 h5 → s'.heap.UpToSlots h5 → DK s'.heap h5 → ∃ oe5, Inv (X.nox.hold a oe5) pins σ H' { s' with heap := h5 } ∧ XObj oe5 C dx := fun h5 F5 U5 K5 => by
    obtain ⟨oe5, he5, c5, d5⟩ := K5 a oe he
    obtain ⟨o', vs, ho', hc', hd', _⟩ := F5.first
    rw [he5] at ho'
    cases ho'
    have u5 := un.flown F F5.1 U5 K5 b1 (fun b hb => hb) (fun b h1 h2 => absurd h1 h2)
    have J := I1.call' (s' := { s' with heap := h5 }) (ch := []) os (by show Un (frs X.stack) _ _ _ _ _; rw [hst]; exact u5) (hok.based b2 F5.1) bare (fun b z => absurd z (by simp))
    exact ⟨oe5, J.hold he5 na aL aF (fun v z => by rw [hd'] at z; cases z), hc', d5.trans hd, by unfold PySem.W.notCls; rw [hd']⟩
  refine wpAny_mono ((kd_note _ _).any (wpAny_looks_onW (Q := fun _ s2 => ∃ h4, s2 = { s' with heap := h4 } ∧ Heap.HeldW B (X.env :: X.outer) a (.ref C) a0 X.env.locals h4 ∧ s'.heap.UpToSlots h4) fr hfr F fun h4 x U => ⟨h4, rfl, x, U⟩)) (fun _ s2 z2 => ?_) fun _ _ z => z
  obtain ⟨⟨h4, rfl, held, U4⟩, dk4⟩ := z2
  refine wpAny_mono ((kd_flight _ _).any (wpAny_landsW (Q := fun _ s3 => ∃ h5, s3 = { s' with heap := h5 } ∧ Heap.FlyingW B (X.env :: X.outer) a (.ref C) a0 h5 ∧ h4.UpToSlots h5) held fun h5 x U => ⟨h5, rfl, x, U⟩)) (fun _ s3 z3 => ?_) fun _ _ z => z
  obtain ⟨⟨h5, rfl, F5, U5⟩, dk5⟩ := z3
  have dk : DK s'.heap h5 := dk4.trans dk5
  obtain ⟨oe5, J5, c5, d5, n5⟩ := land h5 F5 (U4.trans U5) dk
  obtain ⟨N, mN, xc, _⟩ := ExcCls.of I1.ok.mod.kin cc
  obtain ⟨N', mN', xd, _⟩ := ExcCls.of I1.ok.mod.kin cd
  have at5 := (J5.pin (a, oe5) (List.mem_append_left _ (List.mem_append_right _ (List.mem_singleton.mpr rfl)))).1
  refine wpAny_handleBy_cons (codeAny_handlers_test (ld_glob J5 hg hm ?_ hdb)) (by intro q; cases q)
  refine exc_matches (xc.keeps J5.bk) (xd.keeps J5.bk) at5 c5 ?_
  rw [cm]
  refine k h5 H' C oe5 J5 na c5 (by rw [d5]; exact q) fun Q' hQ A' E' => ?_
  refine wpAny_mono ((kd_flight _ _).any (lands_againW (Q := fun _ s3 => ∃ h6, s3 = { s' with heap := h6 } ∧ Heap.FlyingW B (X.env :: X.outer) a (.ref C) a0 h6 ∧ h5.UpToSlots h6) F5 fun h6 x U => ⟨h6, rfl, x, U⟩)) (fun _ s3 z3 => ?_) fun _ _ z => z
  obtain ⟨⟨h6, rfl, F6, U6⟩, dk6⟩ := z3
  obtain ⟨oe6, J6, c6, d6, n6⟩ := land h6 F6 ((U4.trans U5).trans U6) (dk.trans dk6)
  exact hQ h6 oe6 J6 ⟨c6, d6.trans d5.symm, n6⟩
theorem ps_tryAs (hN : X.N.Nodup) (hg : Gl X cn) (hm : X.mg cn = some (.ref Dc)) (hb : PB X.nox body tb) (hh : ∀ e o, PSs (X.nox.hold e o) (b₀ :: suite) (th e o)) (hi : X.N[i]? = some n := by rfl) (hl : X.env.scope.names.lookup n = some .local := by rfl)
    (hst : X.stack = X.env :: X.outer := by rfl) (hfr : X.env.frame = some X.env.locals := by rfl) (hdb : (cn == ("__debug__" : Str)) = false := by decide) :
    PS X.nox (.Try body [.ExceptHandler (some (.Name cn np)) (some n) (b₀ :: suite) hp] [] [] pos) (tTryAs X.K Dc i tb th) := by
  intro pins s σ H D I h
  refine wpAny_Try_except (wpAny_mono (hb pins s σ H D _ I h) (fun fl s1 q => ?_) fun e s' z => ?_)
  · cases fl with
    | next => exact wpAny_execs_nil q
    | brk => exact q
    | cont => exact q
    | ret u => exact q
  · obtain ⟨a, rfl⟩ : ∃ a, e = .ref a := by obtain ⟨_, _, _, a, _, _, _, ea, _⟩ := z; exact ⟨a, ea⟩
    refine to_suite (X := X) (pins := pins) (σ := σ) (name := some n) (W := fun cls dx H' => ∃ C, cls = .ref C ∧ ∀ e o, H' e = none → XObj o C dx → th e o (afterS D i) (σ.set i (some (.ref e))) H') hst hfr hg hm hdb ?_ fun h5 H' C oe J5 na c5 q land => ?_
    · obtain ⟨H1, s1, I1, a', cls, dx, H', r1, r2, r3, r4, r5, r6, r7, r8, C, rfl, ct, q⟩ := z
      exact ⟨H1, s1, I1, a', _, dx, H', r1, r2, r3, r4, r5, r6, r7, r8, C, rfl, ct, C, rfl, q⟩
    · obtain ⟨C', e', q⟩ := q
      cases e'
      refine codeAny_handlers_suite_as (land _ (fun h6 oe6 J6 x6 => ?_) _ _)
      refine store_ok (X := X.nox.hold a oe6) J6 hN hi (.inl hl) (v := .ref a) (u := .ref a) rfl (fun s7 J7 => ?_) (.inr hl)
      refine wpAny_mono (hh a oe6 pins s7 _ H' (afterS D i) J7 (q a oe6 na x6)) (fun fl s8 z => ?_) (fun _ _ z => False.elim z)
      cases fl with
      | next => obtain ⟨σ', H2, J8, q8⟩ := z; exact gone_ok (X := X.nox) (Inv.unhold I.ok J8) hN hi hl fun s9 J9 => ⟨_, H2, J9, q8⟩
      | brk => obtain ⟨σ', H2, J8, q8⟩ := z; exact gone_ok (X := X.nox) (Inv.unhold I.ok J8) hN hi hl fun s9 J9 => ⟨_, H2, J9, q8⟩
      | cont => obtain ⟨σ', H2, J8, q8⟩ := z; exact gone_ok (X := X.nox) (Inv.unhold I.ok J8) hN hi hl fun s9 J9 => ⟨_, H2, J9, q8⟩
      | ret u => obtain ⟨v, σ', H2, J8, r8, q8⟩ := z; exact gone_ok (X := X.nox) (Inv.unhold I.ok J8) hN hi hl fun s9 J9 => ⟨v, _, H2, J9, r8, q8⟩
theorem ps_try0 (hg : Gl X cn) (hm : X.mg cn = some (.ref Dc)) (hb : PB X.nox body tb) (hh : ∀ e o, PSs (X.nox.hold e o) (b₀ :: suite) (th e o))
    (hst : X.stack = X.env :: X.outer := by rfl) (hfr : X.env.frame = some X.env.locals := by rfl) (hdb : (cn == ("__debug__" : Str)) = false := by decide) :
    PS X.nox (.Try body [.ExceptHandler (some (.Name cn np)) none (b₀ :: suite) hp] [] [] pos) (tTry0 X.K Dc tb th) := by
  intro pins s σ H D I h
  refine wpAny_Try_except (wpAny_mono (hb pins s σ H D _ I h) (fun fl s1 q => ?_) fun e s' z => ?_)
  · cases fl with
    | next => exact wpAny_execs_nil q
    | brk => exact q
    | cont => exact q
    | ret u => exact q
  · obtain ⟨a, rfl⟩ : ∃ a, e = .ref a := by obtain ⟨_, _, _, a, _, _, _, ea, _⟩ := z; exact ⟨a, ea⟩
    refine to_suite (X := X) (pins := pins) (σ := σ) (name := none) (W := fun cls dx H' => ∃ C, cls = .ref C ∧ ∀ e o, H' e = none → XObj o C dx → th e o D σ H') hst hfr hg hm hdb ?_ fun h5 H' C oe J5 na c5 q land => ?_
    · obtain ⟨H1, s1, I1, a', cls, dx, H', r1, r2, r3, r4, r5, r6, r7, r8, C, rfl, ct, q⟩ := z
      exact ⟨H1, s1, I1, a', _, dx, H', r1, r2, r3, r4, r5, r6, r7, r8, C, rfl, ct, C, rfl, q⟩
    · obtain ⟨C', e', q⟩ := q
      cases e'
      refine codeAny_handlers_suite (land _ (fun h6 oe6 J6 x6 => ?_) _ _)
      refine wpAny_mono (hh a oe6 pins _ _ H' D J6 (q a oe6 na x6)) (fun fl s8 z => ?_) (fun _ _ z => False.elim z)
      cases fl with
      | next => obtain ⟨σ', H2, J8, q8⟩ := z; exact ⟨σ', H2, Inv.unhold I.ok J8, q8⟩
      | brk => obtain ⟨σ', H2, J8, q8⟩ := z; exact ⟨σ', H2, Inv.unhold I.ok J8, q8⟩
      | cont => obtain ⟨σ', H2, J8, q8⟩ := z; exact ⟨σ', H2, Inv.unhold I.ok J8, q8⟩
      | ret u => obtain ⟨v, σ', H2, J8, r8, q8⟩ := z; exact ⟨v, σ', H2, Inv.unhold I.ok J8, r8, q8⟩
end
end L2

namespace L2
open PySem PySem.Spec PyProof.Rows PySem.W
/-! ### an exception's attributes -/
structure XAttr (K : PySem.W.Frag) (C : Addr) : Prop where
  ga : findIn K (.ref C) "__getattribute__" = some (some (.builtin "BaseException.__getattribute__"))
  gh : findIn K (.ref C) "__getattr__" = some none
  mb : mroIn K C (.type "BaseException") = some true
  mo : mroIn K C (.type "object") = some true
  ca : findIn K (.ref C) "__class__" = some (some (.builtin "object.__class__"))
  cg : specialIn K (.builtin "object.__class__") "__get__" = some (some (.builtin "getset_descriptor.__get__"))
  ck : takesIn K (.builtin "object.__class__") = some true
section
variable {prog : Program} {w : World} {A : Around} {E : Value → Shared → Prop} {s : Shared} {K : PySem.W.Frag} {x C : Addr} {ox : Obj} {od : Option Obj} {name : Str} {tk : Tok}
theorem xa_check {M : Model} {nv : Value} {Q : Unit → Shared → Prop} (X : K.In s.heap) (I : InstAt s.heap x ox C od) (hb : mroIn K C (.type "BaseException") = some true) (hq : Q () s) :
    wpAny M A (checkBuiltinCall "BaseException.__getattribute__" ⟨[.ref x, nv], []⟩) Q E s := by
  have hk : builtinKind "BaseException.__getattribute__" = some .slot := by decide +kernel
  have hs : splitId "BaseException.__getattribute__" = some ("BaseException", "__getattribute__") := by decide +kernel
  have ha := F.args_bexc_ga (.ref x) nv
  have L : Looks M s.heap (isInstance (.ref x) (.type "BaseException")) true := I.type.andThen (looks_mroIn X hb)
  obtain ⟨h, g, d, t, os⟩ := s
  simp only [checkBuiltinCall, hk, hs]
  refine wpAny_bind (L.at ?_)
  repeat (any_goals (first | assumption | wp_step))
theorem xa_by {fill expr : Bool} {Q : Value → Shared → Prop} (X : K.In s.heap) (I : InstAt s.heap x ox C od) (a : XAttr K C)
    (h : ∀ A', wpAny (model prog w) A' (Builtin.«object.__getattribute__» ⟨[.ref x, .str name tk], []⟩) (fun fin s' => match fin with | .done (.ret v) => wpAny (model prog w) A (handedOut v) Q E s' | _ => False) (fun _ _ => False) s) :
    wpAny (model prog w) A (getAttrBy (.ref x) (.str name tk) fill expr) Q E s := by
  have L0 := I.type (M := model prog w)
  have L1 := looks_findIn (M := model prog w) X a.ga
  have L2 : Looks (model prog w) s.heap (hookBefore (.ref C)) none := looks_hook X (show findIn K (.ref C) "__getattr__" = _ from a.gh)
  obtain ⟨hh, g, d, t, os⟩ := s
  unfold getAttrBy
  refine wpAny_holding (wpAny_bind (L0.at (wpAny_bind (L1.at ?_))))
  have e1 : (onTheHeap (.ref C) && Value.builtin "BaseException.__getattribute__" == .builtin "object.__getattribute__") = false := by
    rw [show (Value.builtin "BaseException.__getattribute__" == Value.builtin "object.__getattribute__") = false from by decide +kernel]; rfl
  show wpAny _ _ (if (onTheHeap (.ref C) && Value.builtin "BaseException.__getattribute__" == .builtin "object.__getattribute__") = true then _ else _) _ _ _
  rw [if_neg (by rw [e1]; exact Bool.false_ne_true)]
  unfold getAttrByItsOwn
  refine wpAny_bind (L2.at (wpAny_bind (wpAny_attempt (wpAny_holding ?_))))
  unfold callGetattribute
  rw [if_neg (by cases expr <;> exact Bool.false_ne_true)]
  unfold boundAndCalled
  refine wpAny_bind (wpAny_of_eq (PySem.F.attr_ValueError.ga.bind (.ref x)) ?_)
  refine wpAny_call (codeAny_call_builtin PySem.F.attr_ValueError.ga.plain F.entry_bexc_ga (xa_check X I a.mb ?_))
  refine wpAny_mono (h _) (fun fin s' z => ?_) fun _ _ z => False.elim z
  rcases fin with (_ | _ | _ | _) | _ <;> first | exact z | exact z.elim
theorem xa_value {expr : Bool} {v : Value} {Q : Value → Shared → Prop} (X : K.In s.heap) (I : InstAt s.heap x ox C od) (a : XAttr K C) (hf : findObj K C od name = some (.value v)) (hh : handedIn v = true) (hq : Q v { s with toks := s.toks + 1 }) :
    wpAny (model prog w) A (getAttr (.ref x) name expr) Q E s := by
  obtain ⟨hp, g, d, t, os⟩ := s
  unfold getAttr
  refine wpAny_bind (wpAny_mkText (xa_by X I a fun A' => ?_))
  have L0 := I.type (M := model prog w)
  have L1 := looks_find (M := model prog w) X I hf
  unfold Builtin.«object.__getattribute__»
  refine wpAny_bind (wpAny_pure (wpAny_bind (wpAny_pure (wpAny_bind (L0.at (wpAny_bind (L1.at ?_)))))))
  refine wpAny_pure ?_
  show wpAny _ _ (handedOut v) _ _ _
  rw [handedOut_of hh]
  exact wpAny_pure hq
theorem fo_data {g a : Value} (hc : (clsIn K C).isSome = true) (e1 : findIn K (.ref C) name = some (some a)) (e2 : specialIn K a "__get__" = some (some g)) (e3 : takesIn K a = some true) : findObj K C od name = some (.bind g a) := by
  obtain ⟨cd, z⟩ := Option.isSome_iff_exists.mp hc
  unfold findObj
  rw [z]
  simp [e1, e2, e3]
theorem xa_class {Q : Option Value → Shared → Prop} (hc : (clsIn K C).isSome = true) (X : K.In s.heap) (I : InstAt s.heap x ox C od) (a : XAttr K C) (hq : Q (some (.ref C)) { s with toks := s.toks + 1 }) :
    wpAny (model prog w) A (getAttr? (.ref x) "__class__") Q E s := by
  obtain ⟨hp, g, d, t, os⟩ := s
  unfold getAttr? getAttrBy?
  refine wpAny_bind (wpAny_mkText (wpAny_bind (wpAny_attempt (xa_by (s := ⟨hp, g, d, t + 1, os⟩) X I a fun A' => ?_))))
  have L0 := I.type (M := model prog w)
  have L1 := looks_find (M := model prog w) X I (fo_data (od := od) hc a.ca a.cg a.ck)
  unfold Builtin.«object.__getattribute__»
  refine wpAny_bind (wpAny_pure (wpAny_bind (wpAny_pure (wpAny_bind (L0.at (wpAny_bind (L1.at ?_)))))))
  refine wpAny_bind (wpAny_holding (wpAny_call (class_get (s := ⟨hp, g, d, t + 1, os⟩) X I a.mo ?_)))
  exact wpAny_pure (wpAny_pure (wpAny_pure hq))
/-! ### isinstance of a held exception -/
theorem kitx_exc (hc : (clsIn K C).isSome = true) (a : XAttr K C) : KitX K (.ref x) (.ref C) (fun h => InstAt h x ox C od) where
  ty := fun _ _ _ I => I.type
  it := fun _ _ X _ => by
    unfold clsIn at hc
    split at hc
    case h_2 => cases hc
    case h_1 cd lk =>
      intro A1 Q1 E1 s1 k1 q1
      unfold isType loadHead
      exact wpAny_bind (wpAny_loadPart (k1 _ _ (X _ _ lk)) (wpAny_pure q1))
  ne := fun h tp dd its n sl X htp => by
    unfold clsIn at hc
    split at hc
    case h_2 => cases hc
    case h_1 cd lk =>
      refine Bool.eq_false_iff.mpr fun q => ?_
      have e : C = tp := Value.ref.inj (beq_iff_eq.mp q)
      subst e
      have z := (X _ _ lk).symm.trans htp
      cases z
  ca := fun X I k => xa_class hc X I a k
end
/-- what is known of the class of a held exception -/
structure XIs (K : PySem.W.Frag) (C : Addr) : Prop where
  cl : (clsIn K C).isSome = true
  at_ : XAttr K C
section
variable {X : Cx} {pins : List (Addr × Obj)} {σ : St} {H : Hp} {s : Shared} {e C : Addr} {o : Obj} {dx : Option Addr}
/-- the own dict of an exception: none, or one that is tracked -/
def XDict (H : Hp) (dx : Option Addr) : Prop := ∀ d, dx = some d → ∃ fs, H d = some (.xd fs)
theorem Inv.held (I : Inv X pins σ H s) (hm : (e, o) ∈ X.pn) (x : XObj o C dx) (hd : XDict H dx) : ∃ od, InstAt s.heap e o C od := by
  have at1 := (I.pin _ (List.mem_append_left _ hm)).1
  cases dx with
  | none => exact ⟨none, at1, x.cls, x.no, by rw [x.dict]; trivial⟩
  | some d =>
    obtain ⟨fs, hf⟩ := hd d rfl
    obtain ⟨od, ho⟩ := (I.hok d _ hf).has
    exact ⟨some od, at1, x.cls, x.no, by rw [x.dict]; exact ho⟩
theorem vals_refs : ∀ {ds : List Addr} {its : List Value}, Vals (ds.map V.ref) its → its = ds.map Value.ref
  | [], _, .nil => rfl
  | d :: ds, _, .cons a t => by
    obtain rfl := (show _ = Value.ref d from a)
    rw [vals_refs t]
    rfl
def clsV : V → Value → Prop := fun v c => (∃ n, v = .ty n ∧ c = .type n) ∨ (∃ D, v = .ref D ∧ c = .ref D)
theorem call_isX : CallR X (.builtin "isinstance") (fun xs H Q => ∃ (e : Addr) (o : Obj) (C : Addr) (dx : Option Addr) (v : V) (c : Value) (b : Bool), xs = [.ref e, v] ∧ (e, o) ∈ X.pn ∧ XObj o C dx ∧ XDict H dx ∧ XIs X.K C ∧ clsV v c ∧ kitOne X.K (.ref C) c = some b ∧ Q (.bl b) H) := by
  intro pins s σ H xs us Q I r h
  obtain ⟨e, o, C, dx, v, c, b, rfl, hm, xo, xd, xi, cv, k, q⟩ := h
  obtain ⟨u1, u2, rfl, r1, r2⟩ := vals2 r
  obtain rfl : u1 = Value.ref e := r1
  obtain ⟨od, J⟩ := I.held hm xo xd
  have e2 : u2 = c := by
    rcases cv with ⟨n, rfl, rfl⟩ | ⟨D, rfl, rfl⟩
    · exact r2
    · exact r2
  subst e2
  exact kia_one (kitx_exc (od := od) (ox := o) xi.cl xi.at_) I.kIn J k (fun z => nomatch z) fun tk => ⟨.bl b, H, I.tok tk, rfl, q⟩
theorem call_isXT : CallR X (.builtin "isinstance") (fun xs H Q => ∃ (e : Addr) (o : Obj) (C tp : Addr) (dx : Option Addr) (ds : List Addr) (b : Bool), xs = [.ref e, .ref tp] ∧ H tp = some (.tup (ds.map V.ref)) ∧ (e, o) ∈ X.pn ∧ XObj o C dx ∧ XDict H dx ∧ XIs X.K C ∧ kitAny X.K (.ref C) (ds.map Value.ref) = some b ∧ Q (.bl b) H) := by
  intro pins s σ H xs us Q I r h
  obtain ⟨e, o, C, tp, dx, ds, b, rfl, ht, hm, xo, xd, xi, k, q⟩ := h
  obtain ⟨u1, u2, rfl, r1, r2⟩ := vals2 r
  obtain rfl : u1 = Value.ref e := r1
  obtain rfl : u2 = Value.ref tp := r2
  obtain ⟨od, J⟩ := I.held hm xo xd
  obtain ⟨_, its, rv, p⟩ := (show ObjOk X.prog X.w H s.heap tp (.tup (ds.map V.ref)) from I.hok tp _ ht)
  obtain ⟨⟨oc, od2, oda, sl⟩, h1, h2, h3⟩ := p
  have ei : its = ds.map Value.ref := vals_refs rv
  subst ei
  obtain ⟨n, h3⟩ := h3
  dsimp only at h2 h3
  subst h2 h3
  exact kia_tup (kitx_exc (od := od) (ox := o) xi.cl xi.at_) I.kIn J h1 k (fun z => nomatch z) fun tk => ⟨.bl b, H, I.tok tk, rfl, q⟩
end
/-! ### the answers about classes, from the classes above -/
theorem ec_lookup {K : PySem.W.Frag} {C : Addr} {bm : List Value} (q : ecIn K C bm = true) : ∃ d cd sl, K.lookup C = some ⟨.type "type", d, .cls cd, sl⟩ ∧ cd.mro = .ref C :: bm := by
  unfold ecIn at q
  split at q
  case h_2 => cases q
  case h_1 d cd sl lk =>
    split at q
    case h_2 => cases q
    case h_1 C2 tl a b c d2 n e2 hm hs =>
      simp only [Bool.and_eq_true, beq_iff_eq, Bool.not_eq_true'] at q
      obtain ⟨⟨⟨⟨⟨c1, c2⟩, _⟩, _⟩, _⟩, _⟩ := q
      subst c1 c2
      exact ⟨d, cd, sl, lk, hm⟩
theorem ec_cls {K : PySem.W.Frag} {C : Addr} {bm : List Value} (q : ecIn K C bm = true) : (clsIn K C).isSome = true := by
  obtain ⟨d, cd, sl, lk, _⟩ := ec_lookup q
  unfold clsIn
  rw [lk]
  rfl
theorem ec_mro {K : PySem.W.Frag} {C : Addr} {bm : List Value} (q : ecIn K C bm = true) (v : Value) : mroIn K C v = some ((Value.ref C :: bm).contains v) := by
  obtain ⟨d, cd, sl, lk, hm⟩ := ec_lookup q
  unfold mroIn clsIn
  rw [lk]
  show (if cd.mro.isEmpty then none else some (cd.mro.contains v)) = _
  rw [hm]
  rfl
theorem ec_one {K : PySem.W.Frag} {C D : Addr} {bm bd : List Value} (q : ecIn K C bm = true) (qd : ecIn K D bd = true) : kitOne K (.ref C) (.ref D) = some ((Value.ref C :: bm).contains (.ref D)) := by
  unfold kitOne
  by_cases z : (Value.ref C == Value.ref D) = true
  · rw [if_pos z, List.contains_cons, show (Value.ref D == Value.ref C) = true from by rw [beq_iff_eq] at z ⊢; exact z.symm]
    rfl
  · rw [if_neg z]
    unfold kitCls
    obtain ⟨d, cd, sl, lk, _⟩ := ec_lookup qd
    have ty : typeIn K (.ref D) = some (.type "type") := by
      show Option.map (fun x => x.cls) (K.lookup D) = _
      rw [lk]
      rfl
    show (if ((clsIn K D).isSome && typeIn K (.ref D) == some (.type "type")) = true then subIn K (.ref C) (.ref D) else none) = _
    rw [ec_cls qd, ty]
    exact ec_mro q _
theorem ec_type {K : PySem.W.Frag} {C : Addr} {bm : List Value} (q : ecIn K C bm = true) {T : String} (hT : kitMeta T = true) : kitOne K (.ref C) (.type T) = some ((Value.ref C :: bm).contains (.type T)) := by
  unfold kitOne
  rw [if_neg (by simp)]
  unfold kitCls
  dsimp only
  rw [if_pos hT]
  exact ec_mro q _
theorem kitMeta_VE : kitMeta "ValueError" = true := by decide +kernel
end L2

namespace L2
open PySem PySem.Spec PyProof.Rows
theorem bt_ValueError : bootBuiltins "ValueError" = some (.type "ValueError") := PyProof.Rows.Boot.«ValueError»
section
variable {P : Program} {w : World} {K : PySem.W.Frag} {mg : Str → Option Value} {base : Heap}
/-- a def out of which an exception may fly -/
theorem Fun.okF {x qual : Str} {st : Stmt} {f : Addr} {fd : FuncData} {N ps : List Str} {k : Nat} {sp : Sp} (F : Fun K x qual st f fd) (S : FnScope N ps (defScope st)) (len : ∀ vs H Q E, sp vs H Q E → vs.length = ps.length)
    (hb : ∀ (cdv : Value) (A : Around) (outer : List Env) (s : Shared) (H : Hp) (vs : List V) (Q : VK) (E : XK), Room k (A.deeper (envOfC qual (defScope st) s.heap.objs.size f cdv)) → sp vs H Q E →
      ∃ t, PSs (cxOf (CXF P w) P w K mg base N qual (defScope st) f cdv A outer s H E) (defBody st) t ∧ t { nx := fun _ H' => Q .non H', rt := Q } (start N vs) H) : FnOk P w K mg base (CXF P w) (k + 1) f fd ps sp := by
  obtain ⟨oc, od, kV, doc, pm, an, cdv, ct, osl, rfl, lk, hcd⟩ := F.ex
  exact fn_of lk hcd S len fun A outer s H vs Q E hr hsp => hb cdv A outer s H vs Q E hr hsp
/-- .. called where none may -/
theorem FnOk.never {k : Nat} {f : Addr} {fd : FuncData} {ps : List Str} {sp : Sp} (F : FnOk P w K mg base (CXF P w) k f fd ps sp) : FnOk P w K mg base CX0 k f fd ps (fun vs H Q _ => sp vs H Q E0) := by
  refine ⟨fun vs H Q E h => F.len vs H Q E0 h, fun A outer s H args us vs Q E hr he hb r h => codeAny_mono (F.run A outer s H args us vs Q E0 hr he hb r h) fun r s' q => ?_⟩
  cases r with
  | error e =>
    obtain ⟨_, _, _, _, _, _, _, _, _, _, _, _, z⟩ := q
    exact z
  | ok fl => cases fl <;> exact q
end
/-! ### bags of unlike lengths -/
abbrev small (xs : List Int) : Prop := ∀ x ∈ xs, x.natAbs < 10 ^ 60
def spU (C : Addr) (K : PySem.W.Frag) : Sp := fun vs H Q E => ∃ (a b : Addr) (xs ys : List Int), vs = [.ref a, .ref b] ∧ SqL K H a (vints xs) ∧ SqL K H b (vints ys) ∧ xs.length ≤ 70 ∧ small xs ∧ small ys ∧
  (xs.length = ys.length → ∀ (v : V) (H' : Hp), Same H H' → Q v H') ∧ (xs.length ≠ ys.length → E (.ref C) none H)
def spUB (C : Addr) (K : PySem.W.Frag) : Sp := fun vs H Q E => ∃ (a b : Addr) (xs ys : List Int), vs = [.ref a, .ref b] ∧ SqL K H a (vints xs) ∧ SqL K H b (vints ys) ∧ xs.length ≤ 70 ∧ ys.length ≤ 70 ∧
  (xs.length = ys.length → ∀ (v : Bool) (H' : Hp), Same H H' → Q (.bl v) H') ∧ (xs.length ≠ ys.length → E (.ref C) none H)
/-! ### the answers of isinstance for a class right under another -/
section
open PySem.W
variable {K : PySem.W.Frag} {C D A : Addr} {bd : List Value}
theorem ec_no (q : ecIn K C (.ref A :: excMro) = true) (qd : ecIn K D bd = true) (h1 : D ≠ C) (h2 : D ≠ A) : kitOne K (.ref C) (.ref D) = some false := by
  rw [ec_one q qd]
  simp [h1, h2]
theorem ec_self (q : ecIn K C (.ref A :: excMro) = true) : kitOne K (.ref C) (.ref C) = some true := by
  rw [ec_one q q]
  simp
theorem ec_up (q : ecIn K C (.ref A :: excMro) = true) (qd : ecIn K A bd = true) : kitOne K (.ref C) (.ref A) = some true := by
  rw [ec_one q qd]
  simp
theorem ec_VE (q : ecIn K C (.ref A :: excMro) = true) : kitOne K (.ref C) (.type "ValueError") = some true := by
  rw [ec_type q kitMeta_VE]
  simp
theorem caught_self (q : ecIn K C (.ref A :: excMro) = true) : Caught K C C := ⟨_, _, q, q, by simp⟩
theorem caught_up (q : ecIn K C (.ref A :: excMro) = true) (qd : ecIn K A bd = true) : Caught K C A := ⟨_, _, q, qd, by simp⟩
theorem noDict {H : Hp} : XDict H none := fun _ z => nomatch z
end
end L2

namespace Law
open PySem L2
def top (i : Nat) : Stmt := PySem.Challenge.pw_beadhall_k09_unlike_bags.main.body.getD i (.Pass ⟨0, 0, 0, 0⟩)
abbrev s_law_bag_of : Stmt := top 23
abbrev s_refuse_unlike : Stmt := top 10
abbrev s_plus : Stmt := top 11
abbrev s_less : Stmt := top 12
abbrev s_higher : Stmt := top 13
abbrev s_weighed : Stmt := top 14
abbrev s_beneath : Stmt := top 15
abbrev s_above : Stmt := top 16
abbrev s_is_outermost : Stmt := top 20
abbrev s_outermost : Stmt := top 19
abbrev s_peaks : Stmt := top 17
abbrev s_law_list_of : Stmt := top 24
abbrev s_floors : Stmt := top 18
abbrev s_law_asked : Stmt := top 25
abbrev s_law_refused : Stmt := top 26
abbrev s_law : Stmt := top 27
def sp_law_bag_of (K : PySem.W.Frag) : Sp := fun vs H Q _ => ∃ (c : Int) (z : Nat), vs = [.int c, .int z] ∧ z ≤ 6 ∧ ∀ (p : Addr) (ns : List Int) (H' : Hp), H p = none → Same H H' → H' p = some (.lst (vints ns)) → ns.length = z → small ns → Q (.ref p) H'
def sp_refuse_unlike (C : Addr) (K : PySem.W.Frag) : Sp := fun vs H Q E => ∃ (a b : Addr) (xs ys : List V), vs = [.ref a, .ref b] ∧ SqL K H a xs ∧ SqL K H b ys ∧ (xs.length = ys.length → Q .non H) ∧ (xs.length ≠ ys.length → E (.ref C) none H)
def sp_plus (C : Addr) (K : PySem.W.Frag) : Sp := spU C K
def sp_less (C : Addr) (K : PySem.W.Frag) : Sp := spU C K
def sp_higher (C : Addr) (K : PySem.W.Frag) : Sp := spU C K
def sp_weighed (C : Addr) (K : PySem.W.Frag) : Sp := spU C K
def sp_beneath (C : Addr) (K : PySem.W.Frag) : Sp := spUB C K
def sp_above (C : Addr) (K : PySem.W.Frag) : Sp := spUB C K
def sp_is_outermost (fb fa : Addr) (K : PySem.W.Frag) : Sp := fun vs H Q _ => ∃ (c p f : Addr) (as : List Addr) (rs : List (List Int)) (r : List Int) (z : Nat), vs = [.ref c, .ref p, .ref f] ∧ (f = fb ∨ f = fa) ∧ SqL K H c (vints r) ∧ H p = some (.lst (as.map V.ref)) ∧ Rows H as rs ∧ rs.length ≤ 63 ∧
  (∀ r ∈ rs, r.length = z) ∧ r.length = z ∧ z ≤ 6 ∧ ∀ (b : Bool) H', Same H H' → Q (.bl b) H'
def sp_outermost (C fb fa : Addr) (K : PySem.W.Frag) : Sp := fun vs H Q E => ∃ (p f : Addr) (as : List Addr) (rs : List (List Int)) (z : Nat), vs = [.ref p, .ref f] ∧ (f = fb ∨ f = fa) ∧ H p = some (.lst (as.map V.ref)) ∧ Rows H as rs ∧ rs.length ≤ 63 ∧ (∀ r0, rs[0]? = some r0 → r0.length = z) ∧ z ≤ 6 ∧
  ((∀ r ∈ rs, r.length = z) → ∀ (v : V) H', Same H H' → Q v H') ∧ ((¬ ∀ r ∈ rs, r.length = z) → E (.ref C) none H)
def sp_peaks (C : Addr) (K : PySem.W.Frag) : Sp := fun vs H Q E => ∃ (p : Addr) (as : List Addr) (rs : List (List Int)) (z : Nat), vs = [.ref p] ∧ H p = some (.lst (as.map V.ref)) ∧ Rows H as rs ∧ rs.length ≤ 63 ∧ (∀ r0, rs[0]? = some r0 → r0.length = z) ∧ z ≤ 6 ∧
  ((∀ r ∈ rs, r.length = z) → ∀ (v : V) H', Same H H' → Q v H') ∧ ((¬ ∀ r ∈ rs, r.length = z) → E (.ref C) none H)
def sp_law_list_of (K : PySem.W.Frag) : Sp := fun vs H Q _ => ∃ (c : Int) (a b : Addr) (xs ys : List Int), vs = [.int c, .ref a, .ref b] ∧ SqL K H a (vints xs) ∧ SqL K H b (vints ys) ∧ xs.length ≤ 70 ∧ ys.length ≤ 70 ∧
  ∀ (p : Addr) (as : List Addr) (n j : Nat) (H' : Hp), H p = none → Same H H' → H' p = some (.lst (as.map V.ref)) → Rows H' as ((List.replicate n xs).set j ys) → 2 ≤ n → n ≤ 5 → j < n → Q (.ref p) H'
def sp_floors (C : Addr) (K : PySem.W.Frag) : Sp := fun vs H Q E => ∃ (p : Addr) (as : List Addr) (rs : List (List Int)) (z : Nat), vs = [.ref p] ∧ H p = some (.lst (as.map V.ref)) ∧ Rows H as rs ∧ rs.length ≤ 63 ∧ (∀ r0, rs[0]? = some r0 → r0.length = z) ∧ z ≤ 6 ∧
  ((∀ r ∈ rs, r.length = z) → ∀ (v : V) H', Same H H' → Q v H') ∧ ((¬ ∀ r ∈ rs, r.length = z) → E (.ref C) none H)
def sp_law_asked (C : Addr) (K : PySem.W.Frag) : Sp := fun vs H Q E => ∃ (w c : Int) (a b : Addr) (xs ys : List Int), vs = [.int w, .int c, .ref a, .ref b] ∧ SqL K H a (vints xs) ∧ SqL K H b (vints ys) ∧ xs.length ≤ 6 ∧ ys.length ≤ 6 ∧ small xs ∧ small ys ∧
  (xs.length = ys.length → ∀ (v : V) (H' : Hp), Same H H' → Q v H') ∧ (xs.length ≠ ys.length → ∀ (H' : Hp), Same H H' → E (.ref C) none H')
def sp_law_refused (C : Addr) (K : PySem.W.Frag) : Sp := fun vs H Q _ => ∃ (w c : Int) (a b : Addr) (xs ys : List Int), vs = [.int w, .int c, .ref a, .ref b] ∧ SqL K H a (vints xs) ∧ SqL K H b (vints ys) ∧ xs.length ≤ 6 ∧ ys.length ≤ 6 ∧ small xs ∧ small ys ∧
  ∀ H', Same H H' → Q (.str (if xs.length = ys.length then "nothing" else "refused")) H'
def sp_law (K : PySem.W.Frag) : Sp := fun vs H Q _ => ∃ (a : Addr) (ns : List Int), vs = [.ref a] ∧ SqL K H a (vints ns) ∧ ns.length ≤ 63 ∧ ∀ H', Q (.bl true) H'
structure Txt (K : PySem.W.Frag) (mg : Str → Option Value) (f_law_bag_of f_refuse_unlike f_plus f_less f_higher f_weighed f_beneath f_above f_is_outermost f_outermost f_peaks f_law_list_of f_floors f_law_asked f_law_refused f_law C_HallError C_Unlike C_BadNet C_BadText C_NoGo C_TooWide C_BadAsk C_BadPaper : Addr) (d_law_bag_of d_refuse_unlike d_plus d_less d_higher d_weighed d_beneath d_above d_is_outermost d_outermost d_peaks d_law_list_of d_floors d_law_asked d_law_refused d_law : FuncData) : Prop where
  F_law_bag_of : Fun K "_law_bag_of" "_law_bag_of" s_law_bag_of f_law_bag_of d_law_bag_of
  m_law_bag_of : mg "_law_bag_of" = some (.ref f_law_bag_of)
  b_law_bag_of : Binds K d_law_bag_of ["cell", "size"] []
  F_refuse_unlike : Fun K "refuse_unlike" "refuse_unlike" s_refuse_unlike f_refuse_unlike d_refuse_unlike
  m_refuse_unlike : mg "refuse_unlike" = some (.ref f_refuse_unlike)
  b_refuse_unlike : Binds K d_refuse_unlike ["ones", "others"] []
  F_plus : Fun K "plus" "plus" s_plus f_plus d_plus
  m_plus : mg "plus" = some (.ref f_plus)
  b_plus : Binds K d_plus ["ones", "others"] []
  F_less : Fun K "less" "less" s_less f_less d_less
  m_less : mg "less" = some (.ref f_less)
  b_less : Binds K d_less ["ones", "others"] []
  F_higher : Fun K "higher" "higher" s_higher f_higher d_higher
  m_higher : mg "higher" = some (.ref f_higher)
  b_higher : Binds K d_higher ["ones", "others"] []
  F_weighed : Fun K "weighed" "weighed" s_weighed f_weighed d_weighed
  m_weighed : mg "weighed" = some (.ref f_weighed)
  b_weighed : Binds K d_weighed ["weights", "ones"] []
  F_beneath : Fun K "beneath" "beneath" s_beneath f_beneath d_beneath
  m_beneath : mg "beneath" = some (.ref f_beneath)
  b_beneath : Binds K d_beneath ["ones", "others"] []
  F_above : Fun K "above" "above" s_above f_above d_above
  m_above : mg "above" = some (.ref f_above)
  b_above : Binds K d_above ["ones", "others"] []
  F_is_outermost : Fun K "is_outermost" "is_outermost" s_is_outermost f_is_outermost d_is_outermost
  m_is_outermost : mg "is_outermost" = some (.ref f_is_outermost)
  b_is_outermost : Binds K d_is_outermost ["row", "rows", "lies"] []
  F_outermost : Fun K "outermost" "outermost" s_outermost f_outermost d_outermost
  m_outermost : mg "outermost" = some (.ref f_outermost)
  b_outermost : Binds K d_outermost ["rows", "lies"] []
  F_peaks : Fun K "peaks" "peaks" s_peaks f_peaks d_peaks
  m_peaks : mg "peaks" = some (.ref f_peaks)
  b_peaks : Binds K d_peaks ["rows"] []
  F_law_list_of : Fun K "_law_list_of" "_law_list_of" s_law_list_of f_law_list_of d_law_list_of
  m_law_list_of : mg "_law_list_of" = some (.ref f_law_list_of)
  b_law_list_of : Binds K d_law_list_of ["cell", "ones", "others"] []
  F_floors : Fun K "floors" "floors" s_floors f_floors d_floors
  m_floors : mg "floors" = some (.ref f_floors)
  b_floors : Binds K d_floors ["rows"] []
  F_law_asked : Fun K "_law_asked" "_law_asked" s_law_asked f_law_asked d_law_asked
  m_law_asked : mg "_law_asked" = some (.ref f_law_asked)
  b_law_asked : Binds K d_law_asked ["way", "cell", "ones", "others"] []
  F_law_refused : Fun K "_law_refused" "_law_refused" s_law_refused f_law_refused d_law_refused
  m_law_refused : mg "_law_refused" = some (.ref f_law_refused)
  b_law_refused : Binds K d_law_refused ["way", "cell", "ones", "others"] []
  F_law : Fun K "law" "law" s_law f_law d_law
  m_law : mg "law" = some (.ref f_law)
  b_law : Binds K d_law ["script"] []
  z_range : mg "range" = none
  z_len : mg "len" = none
  z_zip : mg "zip" = none
  z_max : mg "max" = none
  z_sum : mg "sum" = none
  z_all : mg "all" = none
  z_list : mg "list" = none
  z_isinstance : mg "isinstance" = none
  z_ValueError : mg "ValueError" = none
  mC_HallError : mg "HallError" = some (.ref C_HallError)
  ec_HallError : ecIn K C_HallError excMro = true
  xi_HallError : XIs K C_HallError
  xp_HallError : XPlain K C_HallError excMro
  mC_Unlike : mg "Unlike" = some (.ref C_Unlike)
  ec_Unlike : ecIn K C_Unlike (.ref C_HallError :: excMro) = true
  xi_Unlike : XIs K C_Unlike
  xp_Unlike : XPlain K C_Unlike (.ref C_HallError :: excMro)
  mC_BadNet : mg "BadNet" = some (.ref C_BadNet)
  ec_BadNet : ecIn K C_BadNet (.ref C_HallError :: excMro) = true
  xi_BadNet : XIs K C_BadNet
  xp_BadNet : XPlain K C_BadNet (.ref C_HallError :: excMro)
  mC_BadText : mg "BadText" = some (.ref C_BadText)
  ec_BadText : ecIn K C_BadText (.ref C_HallError :: excMro) = true
  xi_BadText : XIs K C_BadText
  mC_NoGo : mg "NoGo" = some (.ref C_NoGo)
  ec_NoGo : ecIn K C_NoGo (.ref C_HallError :: excMro) = true
  xi_NoGo : XIs K C_NoGo
  mC_TooWide : mg "TooWide" = some (.ref C_TooWide)
  ec_TooWide : ecIn K C_TooWide (.ref C_HallError :: excMro) = true
  xi_TooWide : XIs K C_TooWide
  xp_TooWide : XPlain K C_TooWide (.ref C_HallError :: excMro)
  mC_BadAsk : mg "BadAsk" = some (.ref C_BadAsk)
  ec_BadAsk : ecIn K C_BadAsk (.ref C_HallError :: excMro) = true
  xi_BadAsk : XIs K C_BadAsk
  mC_BadPaper : mg "BadPaper" = some (.ref C_BadPaper)
  ec_BadPaper : ecIn K C_BadPaper (.ref C_HallError :: excMro) = true
  xi_BadPaper : XIs K C_BadPaper
  ne_Unlike_HallError : C_Unlike ≠ C_HallError
  ne_BadNet_HallError : C_BadNet ≠ C_HallError
  ne_BadNet_Unlike : C_BadNet ≠ C_Unlike
  ne_BadText_HallError : C_BadText ≠ C_HallError
  ne_BadText_Unlike : C_BadText ≠ C_Unlike
  ne_BadText_BadNet : C_BadText ≠ C_BadNet
  ne_NoGo_HallError : C_NoGo ≠ C_HallError
  ne_NoGo_Unlike : C_NoGo ≠ C_Unlike
  ne_NoGo_BadNet : C_NoGo ≠ C_BadNet
  ne_NoGo_BadText : C_NoGo ≠ C_BadText
  ne_TooWide_HallError : C_TooWide ≠ C_HallError
  ne_TooWide_Unlike : C_TooWide ≠ C_Unlike
  ne_TooWide_BadNet : C_TooWide ≠ C_BadNet
  ne_TooWide_BadText : C_TooWide ≠ C_BadText
  ne_TooWide_NoGo : C_TooWide ≠ C_NoGo
  ne_BadAsk_HallError : C_BadAsk ≠ C_HallError
  ne_BadAsk_Unlike : C_BadAsk ≠ C_Unlike
  ne_BadAsk_BadNet : C_BadAsk ≠ C_BadNet
  ne_BadAsk_BadText : C_BadAsk ≠ C_BadText
  ne_BadAsk_NoGo : C_BadAsk ≠ C_NoGo
  ne_BadAsk_TooWide : C_BadAsk ≠ C_TooWide
  ne_BadPaper_HallError : C_BadPaper ≠ C_HallError
  ne_BadPaper_Unlike : C_BadPaper ≠ C_Unlike
  ne_BadPaper_BadNet : C_BadPaper ≠ C_BadNet
  ne_BadPaper_BadText : C_BadPaper ≠ C_BadText
  ne_BadPaper_NoGo : C_BadPaper ≠ C_NoGo
  ne_BadPaper_TooWide : C_BadPaper ≠ C_TooWide
  ne_BadPaper_BadAsk : C_BadPaper ≠ C_BadAsk
section
variable {P : Program} {w : World} {K : PySem.W.Frag} {mg : Str → Option Value} {base : Heap} {f_law_bag_of f_refuse_unlike f_plus f_less f_higher f_weighed f_beneath f_above f_is_outermost f_outermost f_peaks f_law_list_of f_floors f_law_asked f_law_refused f_law C_HallError C_Unlike C_BadNet C_BadText C_NoGo C_TooWide C_BadAsk C_BadPaper : Addr} {d_law_bag_of d_refuse_unlike d_plus d_less d_higher d_weighed d_beneath d_above d_is_outermost d_outermost d_peaks d_law_list_of d_floors d_law_asked d_law_refused d_law : FuncData}
theorem sc_law_bag_of : FnScope ["cell", "size"] ["cell", "size"] (defScope s_law_bag_of) := ⟨rfl, rfl, rfl, by decide +kernel, rfl, by decide +kernel, by decide +kernel⟩
set_option maxHeartbeats 4000000 in
theorem ok_law_bag_of (T : Txt K mg f_law_bag_of f_refuse_unlike f_plus f_less f_higher f_weighed f_beneath f_above f_is_outermost f_outermost f_peaks f_law_list_of f_floors f_law_asked f_law_refused f_law C_HallError C_Unlike C_BadNet C_BadText C_NoGo C_TooWide C_BadAsk C_BadPaper d_law_bag_of d_refuse_unlike d_plus d_less d_higher d_weighed d_beneath d_above d_is_outermost d_outermost d_peaks d_law_list_of d_floors d_law_asked d_law_refused d_law) : FnOk P w K mg base CX0 1 f_law_bag_of d_law_bag_of ["cell", "size"] (sp_law_bag_of K) := by
  refine T.F_law_bag_of.ok sc_law_bag_of (fun vs H Q E h => ?_) (fun cdv A outer s H vs Q E hr h => ?_)
  · obtain ⟨c, z, rfl, hz, hQ⟩ := h
    rfl
  · obtain ⟨c, z, rfl, hz, hQ⟩ := h
    refine ⟨_, (pss_one (ps_ret (pe_comp (N' := ["k", "cell"]) (nt := 1) (caps := [0]) _ _ (CompScope.of (by kernel_rfl)) (pi_range1 (by rfl) T.z_range (pa_cons (pv 1) pa_nil)) (fun _ => (pg_nameC (i := 0) ["k", "cell"] (by decide +kernel) (by rfl))) (fun _ => pts_nil) (fun _ => (pe_op op_mod (pe_op op_add (pe_op op_fdiv (pv 1) pe_int) (pe_op op_mul (pv 0) (pv 1))) (pe_op op_pow pe_int pe_int)))))), ?_⟩
    refine ⟨_, rfl, _, rfl, by omega, by omega, ?_⟩
    refine comp_rangeP (fun j ys σ H3 => ∃ (v : Option V) (ns : List Int), σ = [v, some (.int c)] ∧ Same H H3 ∧ ys = vints ns ∧ ns.length = j ∧ small ns) ⟨none, [], rfl, Same.refl _, rfl, rfl, fun n hn => nomatch hn⟩ ?_ ?_ ?_
    · rintro j ys σ H3 hj ⟨v, ns, rfl, S3, rfl, e, hb⟩
      rw [ints_len, e]
      exact small70 (by omega)
    · rintro B j ys σ H3 hj ⟨v, ns, rfl, S3, rfl, e, hb⟩
      dsimp only [gName, tTrue]
      rw [if_pos rfl]
      refine ⟨_, rfl, _, _, rfl, rfl, ⟨by decide, by decide⟩, _, rfl, _, rfl, _, _, rfl, rfl, .inl ⟨by omega, by omega⟩, _, _, rfl, rfl, _, _, rfl, rfl, ⟨by decide, by decide, by decide⟩, _, _, rfl, rfl, (by show (0 : Int) < 10 ^ 60; decide), ?_⟩
      refine ⟨_, ns ++ [_], rfl, S3, (vints_snoc _ _).symm, by rw [List.length_append, e]; rfl, fun n hn => ?_⟩
      rcases List.mem_append.mp hn with q | q
      · exact hb n q
      · rw [List.mem_singleton.mp q]
        have h1 := Int.emod_nonneg (c / 7 + (0 + (j : Int)) * c) (show (10 ^ 60 : Int) ≠ 0 by decide)
        have h2 := Int.emod_lt_of_pos (c / 7 + (0 + (j : Int)) * c) (show (0 : Int) < 10 ^ 60 by decide)
        show ((c / 7 + (0 + (j : Int)) * c) % 10 ^ 60).natAbs < 10 ^ 60
        omega
    · rintro ys σ H3 ⟨v, ns, rfl, S3, rfl, e, hb⟩ p hp
      exact hQ p ns _ (S3.free hp) (S3.upd hp) upd_same (by rw [e]; omega) hb
theorem sc_refuse_unlike : FnScope ["ones", "others"] ["ones", "others"] (defScope s_refuse_unlike) := ⟨rfl, rfl, rfl, by decide +kernel, rfl, by decide +kernel, by decide +kernel⟩
set_option maxHeartbeats 4000000 in
theorem ok_refuse_unlike (T : Txt K mg f_law_bag_of f_refuse_unlike f_plus f_less f_higher f_weighed f_beneath f_above f_is_outermost f_outermost f_peaks f_law_list_of f_floors f_law_asked f_law_refused f_law C_HallError C_Unlike C_BadNet C_BadText C_NoGo C_TooWide C_BadAsk C_BadPaper d_law_bag_of d_refuse_unlike d_plus d_less d_higher d_weighed d_beneath d_above d_is_outermost d_outermost d_peaks d_law_list_of d_floors d_law_asked d_law_refused d_law) : FnOk P w K mg base (CXF P w) 1 f_refuse_unlike d_refuse_unlike ["ones", "others"] (sp_refuse_unlike C_Unlike K) := by
  refine T.F_refuse_unlike.okF sc_refuse_unlike (fun vs H Q E h => ?_) (fun cdv A outer s H vs Q E hr h => ?_)
  · obtain ⟨a, b, xs, ys, rfl, ha, hb, hQ, hE⟩ := h
    rfl
  · obtain ⟨a, b, xs, ys, rfl, ha, hb, hQ, hE⟩ := h
    refine ⟨_, (pss_one (ps_if (pt_cmpR op_ne (pe_callB call_len_seq (by rfl) T.z_len bt_len (pa_cons (pv 0) pa_nil)) (pe_callB call_len_seq (by rfl) T.z_len bt_len (pa_cons (pv 1) pa_nil)) (nomark _)) (pss_one (ps_raise raiseF T.xp_Unlike (by rfl) T.mC_Unlike (pa_cons pe_str pa_nil))) pss_nil)), ?_⟩
    refine ⟨_, rfl, a, _, rfl, .inl ha, _, rfl, b, _, rfl, .inl hb, rfl, _, rfl, ?_⟩
    refine iteND (fun hne => ?_) (fun he => hQ (by have := vint_eq.mp he; omega))
    exact ⟨by show 1 ≤ sizeLine; decide, hE (fun z => hne (by rw [z]))⟩
theorem sc_plus : FnScope ["ones", "others"] ["ones", "others"] (defScope s_plus) := ⟨rfl, rfl, rfl, by decide +kernel, rfl, by decide +kernel, by decide +kernel⟩
set_option maxHeartbeats 4000000 in
theorem ok_plus (T : Txt K mg f_law_bag_of f_refuse_unlike f_plus f_less f_higher f_weighed f_beneath f_above f_is_outermost f_outermost f_peaks f_law_list_of f_floors f_law_asked f_law_refused f_law C_HallError C_Unlike C_BadNet C_BadText C_NoGo C_TooWide C_BadAsk C_BadPaper d_law_bag_of d_refuse_unlike d_plus d_less d_higher d_weighed d_beneath d_above d_is_outermost d_outermost d_peaks d_law_list_of d_floors d_law_asked d_law_refused d_law) : FnOk P w K mg base (CXF P w) 2 f_plus d_plus ["ones", "others"] (sp_plus C_Unlike K) := by
  have G_refuse_unlike : FnOk P w K mg base (CXF P w) 1 f_refuse_unlike d_refuse_unlike _ (sp_refuse_unlike C_Unlike K) := ok_refuse_unlike T
  refine T.F_plus.okF sc_plus (fun vs H Q E h => ?_) (fun cdv A outer s H vs Q E hr h => ?_)
  · obtain ⟨a, b, xs, ys, rfl, ha, hb, hz, hx, hy, hQ, hE⟩ := h
    rfl
  · obtain ⟨a, b, xs, ys, rfl, ha, hb, hz, hx, hy, hQ, hE⟩ := h
    refine ⟨_, (pss_cons (ps_expr (pe_call G_refuse_unlike (hr.mono (by decide)) (by rfl) T.m_refuse_unlike T.F_refuse_unlike.kp T.b_refuse_unlike .nil passF (pa_cons (pv 0) (pa_cons (pv 1) pa_nil))))
      (pss_one (ps_ret (pe_comp (N' := ["one", "other"]) (nt := 2) (caps := []) _ _ (CompScope.of (by kernel_rfl)) (pi_zip (by rfl) T.z_zip (pa_cons (pv 0) (pa_cons (pv 1) pa_nil))) (fun _ => (pg_tup (by rfl) (pgs_cons (pg_nameC (i := 0) ["one", "other"] (by decide +kernel) (by rfl)) (pgs_cons (pg_nameC (i := 1) ["one", "other"] (by decide +kernel) (by rfl)) pgs_nil)))) (fun _ => pts_nil) (fun _ => (pe_op op_add (pv 0) (pv 1))))))), ?_⟩
    refine ⟨_, rfl, _, rfl, a, b, _, _, rfl, ha, hb, fun hl => ?_, fun hl => hE (by simpa only [ints_len] using hl)⟩
    rw [ints_len, ints_len] at hl
    refine ⟨_, rfl, _, rfl, a, b, _, _, rfl, ha, hb, ?_⟩
    refine comp_zip1 (τ := []) (gInt fun i j => i + j) (by rw [ints_len, ints_len]; exact hl) (by rw [ints_len]; exact small70 hz) ha hb ?_ ?_
    · intro B x w H2 hx' hw S Q' hq
      obtain ⟨i, hi, rfl⟩ := ints_mem hx'
      obtain ⟨j, hj, rfl⟩ := ints_mem hw
      exact ⟨_, rfl, _, rfl, _, _, rfl, rfl, hq H2 (Same.refl _)⟩
    · intro H2 S p hp
      exact hQ hl _ _ (S.upd hp)
theorem sc_less : FnScope ["ones", "others"] ["ones", "others"] (defScope s_less) := ⟨rfl, rfl, rfl, by decide +kernel, rfl, by decide +kernel, by decide +kernel⟩
set_option maxHeartbeats 4000000 in
theorem ok_less (T : Txt K mg f_law_bag_of f_refuse_unlike f_plus f_less f_higher f_weighed f_beneath f_above f_is_outermost f_outermost f_peaks f_law_list_of f_floors f_law_asked f_law_refused f_law C_HallError C_Unlike C_BadNet C_BadText C_NoGo C_TooWide C_BadAsk C_BadPaper d_law_bag_of d_refuse_unlike d_plus d_less d_higher d_weighed d_beneath d_above d_is_outermost d_outermost d_peaks d_law_list_of d_floors d_law_asked d_law_refused d_law) : FnOk P w K mg base (CXF P w) 2 f_less d_less ["ones", "others"] (sp_less C_Unlike K) := by
  have G_refuse_unlike : FnOk P w K mg base (CXF P w) 1 f_refuse_unlike d_refuse_unlike _ (sp_refuse_unlike C_Unlike K) := ok_refuse_unlike T
  refine T.F_less.okF sc_less (fun vs H Q E h => ?_) (fun cdv A outer s H vs Q E hr h => ?_)
  · obtain ⟨a, b, xs, ys, rfl, ha, hb, hz, hx, hy, hQ, hE⟩ := h
    rfl
  · obtain ⟨a, b, xs, ys, rfl, ha, hb, hz, hx, hy, hQ, hE⟩ := h
    refine ⟨_, (pss_cons (ps_expr (pe_call G_refuse_unlike (hr.mono (by decide)) (by rfl) T.m_refuse_unlike T.F_refuse_unlike.kp T.b_refuse_unlike .nil passF (pa_cons (pv 0) (pa_cons (pv 1) pa_nil))))
      (pss_one (ps_ret (pe_comp (N' := ["one", "other"]) (nt := 2) (caps := []) _ _ (CompScope.of (by kernel_rfl)) (pi_zip (by rfl) T.z_zip (pa_cons (pv 0) (pa_cons (pv 1) pa_nil))) (fun _ => (pg_tup (by rfl) (pgs_cons (pg_nameC (i := 0) ["one", "other"] (by decide +kernel) (by rfl)) (pgs_cons (pg_nameC (i := 1) ["one", "other"] (by decide +kernel) (by rfl)) pgs_nil)))) (fun _ => pts_nil) (fun _ => (pe_op op_sub (pv 0) (pv 1))))))), ?_⟩
    refine ⟨_, rfl, _, rfl, a, b, _, _, rfl, ha, hb, fun hl => ?_, fun hl => hE (by simpa only [ints_len] using hl)⟩
    rw [ints_len, ints_len] at hl
    refine ⟨_, rfl, _, rfl, a, b, _, _, rfl, ha, hb, ?_⟩
    refine comp_zip1 (τ := []) (gInt fun i j => i - j) (by rw [ints_len, ints_len]; exact hl) (by rw [ints_len]; exact small70 hz) ha hb ?_ ?_
    · intro B x w H2 hx' hw S Q' hq
      obtain ⟨i, hi, rfl⟩ := ints_mem hx'
      obtain ⟨j, hj, rfl⟩ := ints_mem hw
      exact ⟨_, rfl, _, rfl, _, _, rfl, rfl, hq H2 (Same.refl _)⟩
    · intro H2 S p hp
      exact hQ hl _ _ (S.upd hp)
theorem sc_higher : FnScope ["ones", "others"] ["ones", "others"] (defScope s_higher) := ⟨rfl, rfl, rfl, by decide +kernel, rfl, by decide +kernel, by decide +kernel⟩
set_option maxHeartbeats 4000000 in
theorem ok_higher (T : Txt K mg f_law_bag_of f_refuse_unlike f_plus f_less f_higher f_weighed f_beneath f_above f_is_outermost f_outermost f_peaks f_law_list_of f_floors f_law_asked f_law_refused f_law C_HallError C_Unlike C_BadNet C_BadText C_NoGo C_TooWide C_BadAsk C_BadPaper d_law_bag_of d_refuse_unlike d_plus d_less d_higher d_weighed d_beneath d_above d_is_outermost d_outermost d_peaks d_law_list_of d_floors d_law_asked d_law_refused d_law) : FnOk P w K mg base (CXF P w) 2 f_higher d_higher ["ones", "others"] (sp_higher C_Unlike K) := by
  have G_refuse_unlike : FnOk P w K mg base (CXF P w) 1 f_refuse_unlike d_refuse_unlike _ (sp_refuse_unlike C_Unlike K) := ok_refuse_unlike T
  refine T.F_higher.okF sc_higher (fun vs H Q E h => ?_) (fun cdv A outer s H vs Q E hr h => ?_)
  · obtain ⟨a, b, xs, ys, rfl, ha, hb, hz, hx, hy, hQ, hE⟩ := h
    rfl
  · obtain ⟨a, b, xs, ys, rfl, ha, hb, hz, hx, hy, hQ, hE⟩ := h
    refine ⟨_, (pss_cons (ps_expr (pe_call G_refuse_unlike (hr.mono (by decide)) (by rfl) T.m_refuse_unlike T.F_refuse_unlike.kp T.b_refuse_unlike .nil passF (pa_cons (pv 0) (pa_cons (pv 1) pa_nil))))
      (pss_one (ps_ret (pe_comp (N' := ["one", "other"]) (nt := 2) (caps := []) _ _ (CompScope.of (by kernel_rfl)) (pi_zip (by rfl) T.z_zip (pa_cons (pv 0) (pa_cons (pv 1) pa_nil))) (fun _ => (pg_tup (by rfl) (pgs_cons (pg_nameC (i := 0) ["one", "other"] (by decide +kernel) (by rfl)) (pgs_cons (pg_nameC (i := 1) ["one", "other"] (by decide +kernel) (by rfl)) pgs_nil)))) (fun _ => pts_nil) (fun _ => (pe_callB (call_max2 rfl) (by rfl) T.z_max bt_max (pa_cons (pv 0) (pa_cons (pv 1) pa_nil)))))))), ?_⟩
    refine ⟨_, rfl, _, rfl, a, b, _, _, rfl, ha, hb, fun hl => ?_, fun hl => hE (by simpa only [ints_len] using hl)⟩
    rw [ints_len, ints_len] at hl
    refine ⟨_, rfl, _, rfl, a, b, _, _, rfl, ha, hb, ?_⟩
    refine comp_zip1 (τ := []) (gInt mx) (by rw [ints_len, ints_len]; exact hl) (by rw [ints_len]; exact small70 hz) ha hb ?_ ?_
    · intro B x w H2 hx' hw S Q' hq
      obtain ⟨i, hi, rfl⟩ := ints_mem hx'
      obtain ⟨j, hj, rfl⟩ := ints_mem hw
      exact ⟨_, rfl, _, rfl, _, _, rfl, hq H2 (Same.refl _)⟩
    · intro H2 S p hp
      exact hQ hl _ _ (S.upd hp)
theorem sc_weighed : FnScope ["weights", "ones"] ["weights", "ones"] (defScope s_weighed) := ⟨rfl, rfl, rfl, by decide +kernel, rfl, by decide +kernel, by decide +kernel⟩
set_option maxHeartbeats 4000000 in
theorem ok_weighed (T : Txt K mg f_law_bag_of f_refuse_unlike f_plus f_less f_higher f_weighed f_beneath f_above f_is_outermost f_outermost f_peaks f_law_list_of f_floors f_law_asked f_law_refused f_law C_HallError C_Unlike C_BadNet C_BadText C_NoGo C_TooWide C_BadAsk C_BadPaper d_law_bag_of d_refuse_unlike d_plus d_less d_higher d_weighed d_beneath d_above d_is_outermost d_outermost d_peaks d_law_list_of d_floors d_law_asked d_law_refused d_law) : FnOk P w K mg base (CXF P w) 2 f_weighed d_weighed ["weights", "ones"] (sp_weighed C_Unlike K) := by
  have G_refuse_unlike : FnOk P w K mg base (CXF P w) 1 f_refuse_unlike d_refuse_unlike _ (sp_refuse_unlike C_Unlike K) := ok_refuse_unlike T
  refine T.F_weighed.okF sc_weighed (fun vs H Q E h => ?_) (fun cdv A outer s H vs Q E hr h => ?_)
  · obtain ⟨a, b, xs, ys, rfl, ha, hb, hz, hx, hy, hQ, hE⟩ := h
    rfl
  · obtain ⟨a, b, xs, ys, rfl, ha, hb, hz, hx, hy, hQ, hE⟩ := h
    refine ⟨_, (pss_cons (ps_expr (pe_call G_refuse_unlike (hr.mono (by decide)) (by rfl) T.m_refuse_unlike T.F_refuse_unlike.kp T.b_refuse_unlike .nil passF (pa_cons (pv 0) (pa_cons (pv 1) pa_nil))))
      (pss_one (ps_ret (pe_callB (call_sum_list rfl) (by rfl) T.z_sum bt_sum (pa_cons (pe_comp (N' := ["weight", "one"]) (nt := 2) (caps := []) _ _ (CompScope.of (by kernel_rfl)) (pi_zip (by rfl) T.z_zip (pa_cons (pv 0) (pa_cons (pv 1) pa_nil))) (fun _ => (pg_tup (by rfl) (pgs_cons (pg_nameC (i := 0) ["weight", "one"] (by decide +kernel) (by rfl)) (pgs_cons (pg_nameC (i := 1) ["weight", "one"] (by decide +kernel) (by rfl)) pgs_nil)))) (fun _ => pts_nil) (fun _ => (pe_op op_mulB (pv 0) (pv 1)))) pa_nil))))), ?_⟩
    refine ⟨_, rfl, _, rfl, a, b, _, _, rfl, ha, hb, fun hl => ?_, fun hl => hE (by simpa only [ints_len] using hl)⟩
    rw [ints_len, ints_len] at hl
    refine ⟨_, rfl, _, rfl, a, b, _, _, rfl, ha, hb, ?_⟩
    refine comp_zip1 (τ := []) (gInt fun i j => i * j) (by rw [ints_len, ints_len]; exact hl) (by rw [ints_len]; exact small70 hz) ha hb ?_ ?_
    · intro B x w H2 hx' hw S Q' hq
      obtain ⟨i, hi, rfl⟩ := ints_mem hx'
      obtain ⟨j, hj, rfl⟩ := ints_mem hw
      exact ⟨_, rfl, _, rfl, _, _, rfl, rfl, ⟨p70 (Nat.lt_of_lt_of_le (hx i hi) (by decide)), p70 (Nat.lt_of_lt_of_le (hy j hj) (by decide))⟩, hq H2 (Same.refl _)⟩
    · intro H2 S p hp
      rw [zip_ints (f := fun i j => i * j) fun _ _ => rfl]
      exact ⟨p, _, rfl, SqL.of upd_same, hQ hl _ _ (S.upd hp)⟩
theorem sc_beneath : FnScope ["ones", "others"] ["ones", "others"] (defScope s_beneath) := ⟨rfl, rfl, rfl, by decide +kernel, rfl, by decide +kernel, by decide +kernel⟩
set_option maxHeartbeats 4000000 in
theorem ok_beneath (T : Txt K mg f_law_bag_of f_refuse_unlike f_plus f_less f_higher f_weighed f_beneath f_above f_is_outermost f_outermost f_peaks f_law_list_of f_floors f_law_asked f_law_refused f_law C_HallError C_Unlike C_BadNet C_BadText C_NoGo C_TooWide C_BadAsk C_BadPaper d_law_bag_of d_refuse_unlike d_plus d_less d_higher d_weighed d_beneath d_above d_is_outermost d_outermost d_peaks d_law_list_of d_floors d_law_asked d_law_refused d_law) : FnOk P w K mg base (CXF P w) 2 f_beneath d_beneath ["ones", "others"] (sp_beneath C_Unlike K) := by
  have G_refuse_unlike : FnOk P w K mg base (CXF P w) 1 f_refuse_unlike d_refuse_unlike _ (sp_refuse_unlike C_Unlike K) := ok_refuse_unlike T
  refine T.F_beneath.okF sc_beneath (fun vs H Q E h => ?_) (fun cdv A outer s H vs Q E hr h => ?_)
  · obtain ⟨a, b, xs, ys, rfl, ha, hb, hz, hz', hQ, hE⟩ := h
    rfl
  · obtain ⟨a, b, xs, ys, rfl, ha, hb, hz, hz', hQ, hE⟩ := h
    refine ⟨_, (pss_cons (ps_expr (pe_call G_refuse_unlike (hr.mono (by decide)) (by rfl) T.m_refuse_unlike T.F_refuse_unlike.kp T.b_refuse_unlike .nil passF (pa_cons (pv 0) (pa_cons (pv 1) pa_nil))))
      (pss_one (ps_ret (pe_callB (call_all_list rfl) (by rfl) T.z_all bt_all (pa_cons (pe_comp (N' := ["one", "other"]) (nt := 2) (caps := []) _ _ (CompScope.of (by kernel_rfl)) (pi_zip (by rfl) T.z_zip (pa_cons (pv 0) (pa_cons (pv 1) pa_nil))) (fun _ => (pg_tup (by rfl) (pgs_cons (pg_nameC (i := 0) ["one", "other"] (by decide +kernel) (by rfl)) (pgs_cons (pg_nameC (i := 1) ["one", "other"] (by decide +kernel) (by rfl)) pgs_nil)))) (fun _ => pts_nil) (fun _ => (pe_cmpR op_le (pv 0) (pv 1) (nomark _)))) pa_nil))))), ?_⟩
    refine ⟨_, rfl, _, rfl, a, b, _, _, rfl, ha, hb, fun hl => ?_, fun hl => hE (by simpa only [ints_len] using hl)⟩
    rw [ints_len, ints_len] at hl
    refine ⟨_, rfl, _, rfl, a, b, _, _, rfl, ha, hb, ?_⟩
    refine comp_zip1 (τ := []) gLe (by rw [ints_len, ints_len]; exact hl) (by rw [ints_len]; exact small70 hz) ha hb ?_ ?_
    · intro B x w H2 hx' hw S Q' hq
      obtain ⟨i, hi, rfl⟩ := ints_mem hx'
      obtain ⟨j, hj, rfl⟩ := ints_mem hw
      exact ⟨_, rfl, _, rfl, _, _, rfl, rfl, hq H2 (Same.refl _)⟩
    · intro H2 S p hp
      rw [zip_bls]
      exact ⟨p, _, rfl, SqL.of upd_same, hQ hl _ _ (S.upd hp)⟩
theorem sc_above : FnScope ["ones", "others"] ["ones", "others"] (defScope s_above) := ⟨rfl, rfl, rfl, by decide +kernel, rfl, by decide +kernel, by decide +kernel⟩
set_option maxHeartbeats 4000000 in
theorem ok_above (T : Txt K mg f_law_bag_of f_refuse_unlike f_plus f_less f_higher f_weighed f_beneath f_above f_is_outermost f_outermost f_peaks f_law_list_of f_floors f_law_asked f_law_refused f_law C_HallError C_Unlike C_BadNet C_BadText C_NoGo C_TooWide C_BadAsk C_BadPaper d_law_bag_of d_refuse_unlike d_plus d_less d_higher d_weighed d_beneath d_above d_is_outermost d_outermost d_peaks d_law_list_of d_floors d_law_asked d_law_refused d_law) : FnOk P w K mg base (CXF P w) 3 f_above d_above ["ones", "others"] (sp_above C_Unlike K) := by
  have G_beneath : FnOk P w K mg base (CXF P w) 2 f_beneath d_beneath _ (sp_beneath C_Unlike K) := ok_beneath T
  refine T.F_above.okF sc_above (fun vs H Q E h => ?_) (fun cdv A outer s H vs Q E hr h => ?_)
  · obtain ⟨a, b, xs, ys, rfl, ha, hb, hz, hz', hQ, hE⟩ := h
    rfl
  · obtain ⟨a, b, xs, ys, rfl, ha, hb, hz, hz', hQ, hE⟩ := h
    refine ⟨_, (pss_one (ps_ret (pe_call G_beneath (hr.mono (by decide)) (by rfl) T.m_beneath T.F_beneath.kp T.b_beneath .nil passF (pa_cons (pv 1) (pa_cons (pv 0) pa_nil))))), ?_⟩
    exact ⟨_, rfl, _, rfl, b, a, ys, xs, rfl, hb, ha, hz', hz, fun e => hQ e.symm, fun e => hE fun z => e z.symm⟩
theorem sc_is_outermost : FnScope ["row", "rows", "lies", "other"] ["row", "rows", "lies"] (defScope s_is_outermost) := ⟨rfl, rfl, rfl, by decide +kernel, rfl, by decide +kernel, by decide +kernel⟩
set_option maxHeartbeats 4000000 in
theorem ok_is_outermost (T : Txt K mg f_law_bag_of f_refuse_unlike f_plus f_less f_higher f_weighed f_beneath f_above f_is_outermost f_outermost f_peaks f_law_list_of f_floors f_law_asked f_law_refused f_law C_HallError C_Unlike C_BadNet C_BadText C_NoGo C_TooWide C_BadAsk C_BadPaper d_law_bag_of d_refuse_unlike d_plus d_less d_higher d_weighed d_beneath d_above d_is_outermost d_outermost d_peaks d_law_list_of d_floors d_law_asked d_law_refused d_law) : FnOk P w K mg base CX0 4 f_is_outermost d_is_outermost ["row", "rows", "lies"] (sp_is_outermost f_beneath f_above K) := by
  have G_beneath : FnOk P w K mg base (CXF P w) 2 f_beneath d_beneath _ (sp_beneath C_Unlike K) := ok_beneath T
  have G_above : FnOk P w K mg base (CXF P w) 3 f_above d_above _ (sp_above C_Unlike K) := ok_above T
  refine T.F_is_outermost.ok sc_is_outermost (fun vs H Q E h => ?_) (fun cdv A outer s H vs Q E hr h => ?_)
  · obtain ⟨c, p, f, as, rs, r, z, rfl, hf, hc, hp, R, hn, hl, hrl, hz, hQ⟩ := h
    rfl
  · obtain ⟨c, p, f, as, rs, r, z, rfl, hf, hc, hp, R, hn, hl, hrl, hz, hQ⟩ := h
    refine ⟨_, (pss_cons (ps_for PassesOwn.never rfl (pi_list (pv 1)) (pg_name (i := 3) sc_is_outermost.nd (by rfl) (Or.inl rfl))
      (pss_one (ps_if (PW.pt (pw_and (pt_cmpR (op_neL hr.units0) (pv 3) (pv 0) (nomark _)) (pw_and1 (pt_val (pe_or2 (pe_callV 2 G_beneath.never (hr.mono (by decide)) T.F_beneath.kp T.b_beneath .nil pass0 (pa_cons (pv 0) (pa_cons (pv 3) pa_nil))) (pe_callV 2 G_above.never (hr.mono (by decide)) T.F_above.kp T.b_above .nil pass0 (pa_cons (pv 0) (pa_cons (pv 3) pa_nil)))))))) (pss_one (ps_ret pe_bl)) pss_nil)))
      (pss_one (ps_ret pe_bl))), ?_⟩
    refine ⟨_, rfl, p, rfl, ⟨_, SqL.of hp⟩, for_list (K := K) (a := p) (xs := as.map V.ref) (fun i σ H2 => ∃ o, σ = [some (.ref c), some (.ref p), some (.ref f), o] ∧ Same H H2) ⟨none, rfl, Same.refl _⟩ (fun i σ H2 _ ⟨_, _, S⟩ => SqL.of (S _ _ hp)) ?_ ?_⟩
    · rintro i x σ H2 hi ⟨o, rfl, S⟩
      obtain ⟨b, hb1, rfl⟩ := refs_get hi
      obtain ⟨t, ht1, hb⟩ := Paired.getL R hb1
      have htl := hl t (List.mem_of_getElem? ht1)
      refine ⟨_, rfl, _, rfl, b, c, t, r, rfl, rfl, SqL.of (S _ _ hb), S.seq hc, _, rfl, ?_⟩
      refine iteND (fun hne => ?_) (fun he => ?_)
      · have go : ∀ (v : Bool) H3, Same H2 H3 → ∃ k, V.bl v = .bl k ∧ if k = true then Q (.bl false) H3 else ∃ o, [some (V.ref c), some (.ref p), some (.ref f), some (.ref b)] = [some (.ref c), some (.ref p), some (.ref f), o] ∧ Same H H3 := fun v H3 S3 => by
          refine ⟨v, rfl, ?_⟩
          cases v with
          | true => exact iteT (hQ false H3 (S.trans S3))
          | false => exact iteF ⟨_, rfl, S.trans S3⟩
        rcases hf with rfl | rfl
        · exact .inl ⟨rfl, _, rfl, _, rfl, c, b, r, t, rfl, S.seq hc, SqL.of (S _ _ hb), by omega, by omega, fun _ v H3 S3 => go v H3 S3, fun e => absurd (by omega) e⟩
        · exact .inr ⟨rfl, _, rfl, _, rfl, c, b, r, t, rfl, S.seq hc, SqL.of (S _ _ hb), by omega, by omega, fun _ v H3 S3 => go v H3 S3, fun e => absurd (by omega) e⟩
      · refine iteF ?_
        exact ⟨_, rfl, S⟩
    · rintro σ H2 ⟨o, rfl, S⟩
      exact hQ true H2 S
theorem sc_outermost : FnScope ["rows", "lies", "row", "found"] ["rows", "lies"] (defScope s_outermost) := ⟨rfl, rfl, rfl, by decide +kernel, rfl, by decide +kernel, by decide +kernel⟩
set_option maxHeartbeats 4000000 in
theorem ok_outermost (T : Txt K mg f_law_bag_of f_refuse_unlike f_plus f_less f_higher f_weighed f_beneath f_above f_is_outermost f_outermost f_peaks f_law_list_of f_floors f_law_asked f_law_refused f_law C_HallError C_Unlike C_BadNet C_BadText C_NoGo C_TooWide C_BadAsk C_BadPaper d_law_bag_of d_refuse_unlike d_plus d_less d_higher d_weighed d_beneath d_above d_is_outermost d_outermost d_peaks d_law_list_of d_floors d_law_asked d_law_refused d_law) : FnOk P w K mg base (CXF P w) 5 f_outermost d_outermost ["rows", "lies"] (sp_outermost C_Unlike f_beneath f_above K) := by
  have G_refuse_unlike : FnOk P w K mg base (CXF P w) 1 f_refuse_unlike d_refuse_unlike _ (sp_refuse_unlike C_Unlike K) := ok_refuse_unlike T
  have G_is_outermost : FnOk P w K mg base CX0 4 f_is_outermost d_is_outermost _ (sp_is_outermost f_beneath f_above K) := ok_is_outermost T
  refine T.F_outermost.okF sc_outermost (fun vs H Q E h => ?_) (fun cdv A outer s H vs Q E hr h => ?_)
  · obtain ⟨p, f, as, rs, z, rfl, hf, hp, R, hn, hl0, hz, hQ, hE⟩ := h
    rfl
  · obtain ⟨p, f, as, rs, z, rfl, hf, hp, R, hn, hl0, hz, hQ, hE⟩ := h
    refine ⟨_, (pss_cons (ps_for PassesOwn.leaving rfl (pi_list (pv 0)) (pg_name (i := 2) sc_outermost.nd (by rfl) (Or.inl rfl))
      (pss_one (ps_expr (pe_call G_refuse_unlike (hr.mono (by decide)) (by rfl) T.m_refuse_unlike T.F_refuse_unlike.kp T.b_refuse_unlike .nil passF (pa_cons (pe_ix ix_list (pv 0) pe_int (fun _ _ => rfl)) (pa_cons (pv 2) pa_nil))))))
      (pss_cons (ps_set (i := 3) sc_outermost.nd rfl (Or.inl rfl) (pe_lst pa_nil))
      (pss_cons (ps_for PassesOwn.leaving rfl (pi_list (pv 0)) (pg_name (i := 2) sc_outermost.nd (by rfl) (Or.inl rfl))
      (pss_one (ps_if (PW.pt (pw_and (pt_cmpR (op_notInR (hu_of hr)) (pv 2) (pv 3) (by with_unfolding_all rfl)) (pw_and1 (pt_val (pe_call G_is_outermost (hr.mono (by decide)) (by rfl) T.m_is_outermost T.F_is_outermost.kp T.b_is_outermost .nil pass0 (pa_cons (pv 2) (pa_cons (pv 0) (pa_cons (pv 1) pa_nil)))))))) (pss_one (ps_expr (pe_bm PySem.F.plainAttrs_list PySem.F.slot_list_append PySem.F.type_list_append mt_append (pv 3) (pa_cons (pe_callTy call_list_of (by rfl) T.z_list bt_list (pa_cons (pv 2) pa_nil)) pa_nil)))) pss_nil)))
      (pss_one (ps_ret (pv 3)))))), ?_⟩
    have hal := R.length
    refine ⟨_, rfl, p, rfl, ⟨_, SqL.of hp⟩, for_list (K := K) (a := p) (xs := as.map V.ref) (fun i σ H2 => ∃ o, σ = [some (.ref p), some (.ref f), o, none] ∧ H2 = H ∧ ∀ r ∈ rs.take i, r.length = z) ⟨none, rfl, rfl, fun r hr => nomatch hr⟩ (fun i σ H2 _ ⟨_, _, e, _⟩ => e ▸ SqL.of hp) ?_ ?_⟩
    · rintro i x σ H2 hi ⟨o, rfl, rfl, hA⟩
      obtain ⟨b, hb1, rfl⟩ := refs_get hi
      obtain ⟨r, hr1, hb⟩ := Paired.getL R hb1
      have h0 : 0 < as.length := by have := (List.getElem?_eq_some_iff.mp hb1).1; omega
      have hb0 : as[0]? = some as[0] := List.getElem?_eq_getElem h0
      obtain ⟨r0, hr0, hb00⟩ := Paired.getL R hb0
      have e0 := hl0 r0 hr0
      refine ⟨_, rfl, p, _, _, _, rfl, rfl, SqL.of hp, atI_nat (j := 0) (v := V.ref as[0]) (by rw [List.getElem?_map, hb0]; rfl), _, rfl, as[0], b, _, _, rfl, SqL.of hb00, SqL.of hb, fun e => ?_, fun e => ?_⟩
      · rw [ints_len, ints_len] at e
        refine ⟨_, rfl, rfl, fun r' hr' => ?_⟩
        rw [List.take_add_one, hr1] at hr'
        rcases List.mem_append.mp hr' with q | q
        · exact hA r' q
        · obtain rfl : r' = r := by simpa using q
          omega
      · rw [ints_len, ints_len] at e
        exact hE fun z' => e (by rw [e0, z' r (List.mem_of_getElem? hr1)])
    rintro σ H2 ⟨o, rfl, rfl, hA⟩
    rw [List.length_map, hal, List.take_length] at hA
    have hl := hA
    refine ⟨by decide, fun pf npf => ?_⟩
    have T0 := (Same.refl H2).upd npf (o := .lst [])
    refine ⟨_, rfl, p, rfl, ⟨_, SqL.of (T0 _ _ hp)⟩, for_list (K := K) (a := p) (xs := as.map V.ref) (fun i σ H3 => ∃ (o : Option V) (fs : List Addr) (ts : List (List Int)), σ = [some (.ref p), some (.ref f), o, some (.ref pf)] ∧ Same H2 H3 ∧ H3 pf = some (.lst (fs.map V.ref)) ∧ Rows H3 fs ts ∧ fs.length ≤ i)
      ⟨_, [], [], rfl, T0, upd_same, .nil, Nat.le_refl _⟩ (fun i σ H3 _ ⟨_, _, _, _, S, _⟩ => SqL.of (S _ _ hp)) ?_ ?_⟩
    · rintro i x σ H3 hi ⟨o', fs, ts, rfl, S, hpf, RF, hfl⟩
      obtain ⟨b, hb1, rfl⟩ := refs_get hi
      obtain ⟨r, hr1, hb⟩ := Paired.getL R hb1
      have hrl := hl r (List.mem_of_getElem? hr1)
      have hi' := (List.getElem?_eq_some_iff.mp hb1).1
      refine ⟨_, rfl, _, rfl, b, pf, fs, _, r, rfl, rfl, SqL.of (S _ _ hb), SqL.of hpf, RF, _, rfl, ?_⟩
      cases hm : memR r ts with
      | true =>
        refine iteF ?_
        refine iteF ?_
        exact ⟨_, fs, ts, rfl, S, hpf, RF, by omega⟩
      | false =>
        refine iteT ?_
        refine ⟨_, rfl, _, rfl, _, rfl, b, p, f, as, rs, r, z, rfl, hf, SqL.of (S _ _ hb), S _ _ hp, R.same S, hn, hl, hrl, hz, fun bb H4 S4 => ⟨_, rfl, ?_⟩⟩
        cases bb with
        | false =>
          refine iteF ?_
          exact ⟨_, fs, ts, rfl, S.trans S4, S4 _ _ hpf, RF.same S4, by omega⟩
        | true =>
          refine iteT ?_
          refine ⟨_, rfl, .inl ⟨rfl, _, SqL.of (S4 _ _ hpf)⟩, _, rfl, b, _, rfl, .inl (SqL.of (S4 _ _ (S _ _ hb))), fun q nq => ?_⟩
          have np : pf ≠ q := ne_of_none (S4 _ _ hpf) nq
          refine ⟨pf, _, _, rfl, rfl, by rw [upd_ne np]; exact S4 _ _ hpf, by rw [List.length_map]; exact small70 (by omega), ?_⟩
          have T4 := (Same.refl H4).upd nq (o := .lst (vints r))
          refine ⟨_, fs ++ [q], ts ++ [r], rfl, ((S.trans S4).trans T4).upd' npf, by rw [upd_same, vrefs_snoc], ?_, by rw [List.length_append]; exact Nat.succ_le_succ hfl⟩
          refine Rows.snoc (Rows.lay ((RF.same S4).same T4) (RF.apart hpf)) ?_
          rw [upd_ne (Ne.symm np), upd_same]
    · rintro σ H3 ⟨o', fs, ts, rfl, S, hpf, RF, _⟩
      exact ⟨_, rfl, hQ hl _ H3 S⟩
theorem sc_peaks : FnScope ["rows"] ["rows"] (defScope s_peaks) := ⟨rfl, rfl, rfl, by decide +kernel, rfl, by decide +kernel, by decide +kernel⟩
set_option maxHeartbeats 4000000 in
theorem ok_peaks (T : Txt K mg f_law_bag_of f_refuse_unlike f_plus f_less f_higher f_weighed f_beneath f_above f_is_outermost f_outermost f_peaks f_law_list_of f_floors f_law_asked f_law_refused f_law C_HallError C_Unlike C_BadNet C_BadText C_NoGo C_TooWide C_BadAsk C_BadPaper d_law_bag_of d_refuse_unlike d_plus d_less d_higher d_weighed d_beneath d_above d_is_outermost d_outermost d_peaks d_law_list_of d_floors d_law_asked d_law_refused d_law) : FnOk P w K mg base (CXF P w) 6 f_peaks d_peaks ["rows"] (sp_peaks C_Unlike K) := by
  have G_outermost : FnOk P w K mg base (CXF P w) 5 f_outermost d_outermost _ (sp_outermost C_Unlike f_beneath f_above K) := ok_outermost T
  have G_beneath : FnOk P w K mg base (CXF P w) 2 f_beneath d_beneath _ (sp_beneath C_Unlike K) := ok_beneath T
  refine T.F_peaks.okF sc_peaks (fun vs H Q E h => ?_) (fun cdv A outer s H vs Q E hr h => ?_)
  · obtain ⟨p, as, rs, z, rfl, hp, R, hn, hl0, hz, hQ, hE⟩ := h
    rfl
  · obtain ⟨p, as, rs, z, rfl, hp, R, hn, hl0, hz, hQ, hE⟩ := h
    refine ⟨_, (pss_one (ps_ret (pe_call G_outermost (hr.mono (by decide)) (by rfl) T.m_outermost T.F_outermost.kp T.b_outermost .nil passF (pa_cons (pv 0) (pa_cons (pe_glob (v := .ref f_beneath) (by rfl) T.m_beneath rfl) pa_nil))))), ?_⟩
    exact ⟨_, rfl, p, _, as, rs, z, rfl, .inl rfl, hp, R, hn, hl0, hz, hQ, hE⟩
theorem Paired.setAt {α β : Type} {F : α → β → Prop} {a : α} {b : β} (f : F a b) : ∀ {l₁ : List α} {l₂ : List β} (i : Nat), Paired F l₁ l₂ → Paired F (l₁.set i a) (l₂.set i b)
  | _, _, _, .nil => .nil
  | _, _, 0, .cons _ t => .cons f t
  | _, _, i + 1, .cons r t => .cons r (Paired.setAt f i t)
theorem sc_law_list_of : FnScope ["cell", "ones", "others", "rows"] ["cell", "ones", "others"] (defScope s_law_list_of) := ⟨rfl, rfl, rfl, by decide +kernel, rfl, by decide +kernel, by decide +kernel⟩
set_option maxHeartbeats 4000000 in
theorem ok_law_list_of (T : Txt K mg f_law_bag_of f_refuse_unlike f_plus f_less f_higher f_weighed f_beneath f_above f_is_outermost f_outermost f_peaks f_law_list_of f_floors f_law_asked f_law_refused f_law C_HallError C_Unlike C_BadNet C_BadText C_NoGo C_TooWide C_BadAsk C_BadPaper d_law_bag_of d_refuse_unlike d_plus d_less d_higher d_weighed d_beneath d_above d_is_outermost d_outermost d_peaks d_law_list_of d_floors d_law_asked d_law_refused d_law) : FnOk P w K mg base CX0 1 f_law_list_of d_law_list_of ["cell", "ones", "others"] (sp_law_list_of K) := by
  refine T.F_law_list_of.ok sc_law_list_of (fun vs H Q E h => ?_) (fun cdv A outer s H vs Q E hr h => ?_)
  · obtain ⟨c, a, b, xs, ys, rfl, ha, hb, hx, hy, hQ⟩ := h
    rfl
  · obtain ⟨c, a, b, xs, ys, rfl, ha, hb, hx, hy, hQ⟩ := h
    refine ⟨_, (pss_cons (ps_setComp (i := 3) (N' := ["k", "ones"]) (nt := 1) (caps := [1]) _ _ (CompScope.of (by kernel_rfl)) sc_law_list_of.nd rfl rfl (pi_range1 (by rfl) T.z_range (pa_cons (pe_op op_add pe_int (pe_op op_mod (pe_op op_fdiv (pv 0) pe_int) pe_int)) pa_nil)) (fun _ => (pg_nameC (i := 0) ["k", "ones"] (by decide +kernel) (by rfl))) (fun _ => pts_nil) (fun _ => (pe_callTy call_list_of (by rfl) T.z_list bt_list (pa_cons (pv 1) pa_nil))))
      (pss_cons (ps_asg (pe_callTy call_list_of (by rfl) T.z_list bt_list (pa_cons (pv 2) pa_nil)) (pg_sub (pv 3) (pe_op op_mod (pe_op op_fdiv (pv 0) pe_int) (pe_callB call_len_seq (by rfl) T.z_len bt_len (pa_cons (pv 3) pa_nil))) set_list))
      (pss_one (ps_ret (pv 3))))), ?_⟩
    have d1 := Int.emod_nonneg (c / 3) (show (4 : Int) ≠ 0 by decide)
    have d2 := Int.emod_lt_of_pos (c / 3) (show (0 : Int) < 4 by decide)
    refine ⟨_, rfl, _, _, rfl, rfl, ⟨by decide, by decide⟩, _, _, rfl, rfl, (by show (0 : Int) < 4; decide), _, _, rfl, rfl, _, rfl, by omega, by omega, ?_⟩
    have hn : ∃ n : Nat, n = (2 + c / 3 % 4).toNat ∧ 2 ≤ n ∧ n ≤ 5 := ⟨_, rfl, by omega, by omega⟩
    obtain ⟨n, en, n2, n5⟩ := hn
    refine comp_rangeP (fun i ys σ H2 => ∃ (v : Option V) (as : List Addr), σ = [v, some (.ref a)] ∧ Same H H2 ∧ ys = as.map V.ref ∧ Rows H2 as (List.replicate i xs)) ⟨none, [], rfl, Same.refl _, rfl, .nil⟩ ?_ ?_ ?_
    · rintro i ys σ H2 hi ⟨v, as, rfl, S, rfl, R⟩
      have := R.length
      rw [List.length_replicate] at this
      rw [List.length_map, this]
      exact small70 (by omega)
    · rintro B i ys σ H2 hi ⟨v, as, rfl, S, rfl, R⟩
      dsimp only [gName, tTrue]
      rw [if_pos rfl]
      refine ⟨_, rfl, a, _, rfl, .inl (S.seq ha), fun q nq => ⟨_, as ++ [q], rfl, S.upd nq, by rw [List.map_append]; rfl, ?_⟩⟩
      rw [List.replicate_succ']
      exact (R.same ((Same.refl H2).upd nq)).snoc upd_same
    · rintro zs σ H2 ⟨v, as, rfl, S, rfl, R⟩ p np
      have hl := R.length
      rw [List.length_replicate] at hl
      have S1 := S.upd np (o := .lst (as.map V.ref))
      refine ⟨_, rfl, b, _, rfl, .inl (S1.seq hb), fun q nq => ?_⟩
      have npq : p ≠ q := ne_of_none upd_same nq
      have T := (Same.refl (upd H2 p (.lst (as.map V.ref)))).upd nq (o := .lst (vints ys))
      have e1 := Int.emod_nonneg (c / 5) (show ((as.map V.ref).length : Int) ≠ 0 by rw [List.length_map, hl]; omega)
      have e2 := Int.emod_lt_of_pos (c / 5) (show (0 : Int) < ((as.map V.ref).length : Int) by rw [List.length_map, hl]; omega)
      obtain ⟨j, hj⟩ := Int.eq_ofNat_of_zero_le e1
      have hjn : j < n := by rw [hj, List.length_map, hl] at e2; omega
      refine ⟨_, rfl, _, rfl, _, _, rfl, rfl, ⟨by decide, by decide⟩, _, rfl, p, _, rfl, .inl (SqL.of (T _ _ upd_same)), _, _, rfl, rfl, (by rw [List.length_map, hl]; show (0 : Int) < _; omega), p, _, _, j, rfl, rfl, T _ _ upd_same, by rw [hj]; exact ixN_nat (by rw [List.length_map, hl]; omega), ?_⟩
      rw [show (as.map V.ref).set j (V.ref q) = (as.set j q).map V.ref from by rw [List.map_set]]
      refine ⟨_, rfl, hQ p (as.set j q) n j _ (S.free np) ((S1.trans T).upd' (S.free np)) upd_same ?_ n2 n5 hjn⟩
      have R2 : Rows (upd (upd H2 p (.lst (as.map V.ref))) q (.lst (vints ys))) (as.set j q) ((List.replicate n xs).set j ys) := by
        rw [en]
        exact Paired.setAt (by show _ = _; rw [upd_same]) j ((R.same ((Same.refl H2).upd np)).same T)
      refine Rows.lay R2 fun b' hb' z => ?_
      rcases List.mem_or_eq_of_mem_set hb' with h1 | h1
      · have R1 := R.same ((Same.refl H2).upd np (o := .lst (as.map V.ref)))
        exact (Rows.apart R1 upd_same) b' h1 z
      · rw [h1] at z; exact npq z.symm
theorem sc_floors : FnScope ["rows"] ["rows"] (defScope s_floors) := ⟨rfl, rfl, rfl, by decide +kernel, rfl, by decide +kernel, by decide +kernel⟩
set_option maxHeartbeats 4000000 in
theorem ok_floors (T : Txt K mg f_law_bag_of f_refuse_unlike f_plus f_less f_higher f_weighed f_beneath f_above f_is_outermost f_outermost f_peaks f_law_list_of f_floors f_law_asked f_law_refused f_law C_HallError C_Unlike C_BadNet C_BadText C_NoGo C_TooWide C_BadAsk C_BadPaper d_law_bag_of d_refuse_unlike d_plus d_less d_higher d_weighed d_beneath d_above d_is_outermost d_outermost d_peaks d_law_list_of d_floors d_law_asked d_law_refused d_law) : FnOk P w K mg base (CXF P w) 6 f_floors d_floors ["rows"] (sp_floors C_Unlike K) := by
  have G_outermost : FnOk P w K mg base (CXF P w) 5 f_outermost d_outermost _ (sp_outermost C_Unlike f_beneath f_above K) := ok_outermost T
  have G_above : FnOk P w K mg base (CXF P w) 3 f_above d_above _ (sp_above C_Unlike K) := ok_above T
  refine T.F_floors.okF sc_floors (fun vs H Q E h => ?_) (fun cdv A outer s H vs Q E hr h => ?_)
  · obtain ⟨p, as, rs, z, rfl, hp, R, hn, hl0, hz, hQ, hE⟩ := h
    rfl
  · obtain ⟨p, as, rs, z, rfl, hp, R, hn, hl0, hz, hQ, hE⟩ := h
    refine ⟨_, (pss_one (ps_ret (pe_call G_outermost (hr.mono (by decide)) (by rfl) T.m_outermost T.F_outermost.kp T.b_outermost .nil passF (pa_cons (pv 0) (pa_cons (pe_glob (v := .ref f_above) (by rfl) T.m_above rfl) pa_nil))))), ?_⟩
    exact ⟨_, rfl, p, _, as, rs, z, rfl, .inr rfl, hp, R, hn, hl0, hz, hQ, hE⟩
theorem row_lens {n j : Nat} {xs ys : List Int} (h2 : 2 ≤ n) (hj : j < n) : ∃ z, (∀ r0, ((List.replicate n xs).set j ys)[0]? = some r0 → r0.length = z) ∧ (z = xs.length ∨ z = ys.length) ∧ ((∀ r ∈ (List.replicate n xs).set j ys, r.length = z) ↔ xs.length = ys.length) := by
  have hx : xs ∈ (List.replicate n xs).set j ys := by
    refine List.mem_iff_getElem?.mpr ?_
    by_cases h0 : j = 0
    · exact ⟨1, by rw [List.getElem?_set_ne (by omega), List.getElem?_replicate, if_pos (by omega)]⟩
    · exact ⟨0, by rw [List.getElem?_set_ne (by omega), List.getElem?_replicate, if_pos (by omega)]⟩
  have hy : ys ∈ (List.replicate n xs).set j ys := List.mem_iff_getElem?.mpr ⟨j, by rw [List.getElem?_set_self (by rw [List.length_replicate]; exact hj)]⟩
  have all : ∀ r ∈ (List.replicate n xs).set j ys, r = xs ∨ r = ys := fun r hr => by
    rcases List.mem_or_eq_of_mem_set hr with h | h
    · exact .inl (List.mem_replicate.mp h).2
    · exact .inr h
  have fin : ∀ z, (z = xs.length ∨ z = ys.length) → ((∀ r ∈ (List.replicate n xs).set j ys, r.length = z) ↔ xs.length = ys.length) := fun z hz => by
    constructor
    · intro h
      rw [h xs hx, h ys hy]
    · intro e r hr
      rcases all r hr with h | h <;> rcases hz with h' | h' <;> (rw [h, h']; try omega)
  by_cases h0 : j = 0
  · subst h0
    refine ⟨ys.length, fun r0 e => ?_, .inr rfl, fin _ (.inr rfl)⟩
    rw [List.getElem?_set_self (by rw [List.length_replicate]; exact hj)] at e
    cases e; rfl
  · refine ⟨xs.length, fun r0 e => ?_, .inl rfl, fin _ (.inl rfl)⟩
    rw [List.getElem?_set_ne h0, List.getElem?_replicate, if_pos (by omega)] at e
    cases e; rfl
theorem sc_law_asked : FnScope ["way", "cell", "ones", "others"] ["way", "cell", "ones", "others"] (defScope s_law_asked) := ⟨rfl, rfl, rfl, by decide +kernel, rfl, by decide +kernel, by decide +kernel⟩
set_option maxHeartbeats 4000000 in
theorem ok_law_asked (T : Txt K mg f_law_bag_of f_refuse_unlike f_plus f_less f_higher f_weighed f_beneath f_above f_is_outermost f_outermost f_peaks f_law_list_of f_floors f_law_asked f_law_refused f_law C_HallError C_Unlike C_BadNet C_BadText C_NoGo C_TooWide C_BadAsk C_BadPaper d_law_bag_of d_refuse_unlike d_plus d_less d_higher d_weighed d_beneath d_above d_is_outermost d_outermost d_peaks d_law_list_of d_floors d_law_asked d_law_refused d_law) : FnOk P w K mg base (CXF P w) 7 f_law_asked d_law_asked ["way", "cell", "ones", "others"] (sp_law_asked C_Unlike K) := by
  have G_plus : FnOk P w K mg base (CXF P w) 2 f_plus d_plus _ (sp_plus C_Unlike K) := ok_plus T
  have G_less : FnOk P w K mg base (CXF P w) 2 f_less d_less _ (sp_less C_Unlike K) := ok_less T
  have G_higher : FnOk P w K mg base (CXF P w) 2 f_higher d_higher _ (sp_higher C_Unlike K) := ok_higher T
  have G_weighed : FnOk P w K mg base (CXF P w) 2 f_weighed d_weighed _ (sp_weighed C_Unlike K) := ok_weighed T
  have G_beneath : FnOk P w K mg base (CXF P w) 2 f_beneath d_beneath _ (sp_beneath C_Unlike K) := ok_beneath T
  have G_peaks : FnOk P w K mg base (CXF P w) 6 f_peaks d_peaks _ (sp_peaks C_Unlike K) := ok_peaks T
  have G_law_list_of : FnOk P w K mg base CX0 1 f_law_list_of d_law_list_of _ (sp_law_list_of K) := ok_law_list_of T
  have G_floors : FnOk P w K mg base (CXF P w) 6 f_floors d_floors _ (sp_floors C_Unlike K) := ok_floors T
  refine T.F_law_asked.okF sc_law_asked (fun vs H Q E h => ?_) (fun cdv A outer s H vs Q E hr h => ?_)
  · obtain ⟨w', c, a, b, xs, ys, rfl, ha, hb, hx, hy, sx, sy, hQ, hE⟩ := h
    rfl
  · obtain ⟨w', c, a, b, xs, ys, rfl, ha, hb, hx, hy, sx, sy, hQ, hE⟩ := h
    refine ⟨_, (pss_cons (ps_if (pt_cmpR op_eq (pv 0) pe_int (nomark _)) (pss_one (ps_ret (pe_call G_plus (hr.mono (by decide)) (by rfl) T.m_plus T.F_plus.kp T.b_plus .nil passF (pa_cons (pv 2) (pa_cons (pv 3) pa_nil))))) pss_nil)
      (pss_cons (ps_if (pt_cmpR op_eq (pv 0) pe_int (nomark _)) (pss_one (ps_ret (pe_call G_less (hr.mono (by decide)) (by rfl) T.m_less T.F_less.kp T.b_less .nil passF (pa_cons (pv 2) (pa_cons (pv 3) pa_nil))))) pss_nil)
      (pss_cons (ps_if (pt_cmpR op_eq (pv 0) pe_int (nomark _)) (pss_one (ps_ret (pe_call G_higher (hr.mono (by decide)) (by rfl) T.m_higher T.F_higher.kp T.b_higher .nil passF (pa_cons (pv 2) (pa_cons (pv 3) pa_nil))))) pss_nil)
      (pss_cons (ps_if (pt_cmpR op_eq (pv 0) pe_int (nomark _)) (pss_one (ps_ret (pe_call G_weighed (hr.mono (by decide)) (by rfl) T.m_weighed T.F_weighed.kp T.b_weighed .nil passF (pa_cons (pv 2) (pa_cons (pv 3) pa_nil))))) pss_nil)
      (pss_cons (ps_if (pt_cmpR op_eq (pv 0) pe_int (nomark _)) (pss_one (ps_ret (pe_call G_beneath (hr.mono (by decide)) (by rfl) T.m_beneath T.F_beneath.kp T.b_beneath .nil passF (pa_cons (pv 2) (pa_cons (pv 3) pa_nil))))) pss_nil)
      (pss_cons (ps_if (pt_cmpR op_eq (pv 0) pe_int (nomark _)) (pss_one (ps_ret (pe_call G_peaks (hr.mono (by decide)) (by rfl) T.m_peaks T.F_peaks.kp T.b_peaks .nil passF (pa_cons (pe_call G_law_list_of (hr.mono (by decide)) (by rfl) T.m_law_list_of T.F_law_list_of.kp T.b_law_list_of .nil pass0 (pa_cons (pv 1) (pa_cons (pv 2) (pa_cons (pv 3) pa_nil)))) pa_nil)))) pss_nil)
      (pss_one (ps_ret (pe_call G_floors (hr.mono (by decide)) (by rfl) T.m_floors T.F_floors.kp T.b_floors .nil passF (pa_cons (pe_call G_law_list_of (hr.mono (by decide)) (by rfl) T.m_law_list_of T.F_law_list_of.kp T.b_law_list_of .nil pass0 (pa_cons (pv 1) (pa_cons (pv 2) (pa_cons (pv 3) pa_nil)))) pa_nil)))))))))), ?_⟩
    have hx70 : xs.length ≤ 70 := by omega
    have hy70 : ys.length ≤ 70 := by omega
    refine ⟨_, rfl, rfl, _, rfl, ?_⟩
    refine iteD (fun _ => ?_) (fun _ => ?_)
    · exact ⟨_, rfl, _, rfl, a, b, xs, ys, rfl, ha, hb, hx70, sx, sy, hQ, fun e => hE e H (Same.refl H)⟩
    refine ⟨_, rfl, rfl, _, rfl, ?_⟩
    refine iteD (fun _ => ?_) (fun _ => ?_)
    · exact ⟨_, rfl, _, rfl, a, b, xs, ys, rfl, ha, hb, hx70, sx, sy, hQ, fun e => hE e H (Same.refl H)⟩
    refine ⟨_, rfl, rfl, _, rfl, ?_⟩
    refine iteD (fun _ => ?_) (fun _ => ?_)
    · exact ⟨_, rfl, _, rfl, a, b, xs, ys, rfl, ha, hb, hx70, sx, sy, hQ, fun e => hE e H (Same.refl H)⟩
    refine ⟨_, rfl, rfl, _, rfl, ?_⟩
    refine iteD (fun _ => ?_) (fun _ => ?_)
    · exact ⟨_, rfl, _, rfl, a, b, xs, ys, rfl, ha, hb, hx70, sx, sy, hQ, fun e => hE e H (Same.refl H)⟩
    refine ⟨_, rfl, rfl, _, rfl, ?_⟩
    refine iteD (fun _ => ?_) (fun _ => ?_)
    · exact ⟨_, rfl, _, rfl, a, b, xs, ys, rfl, ha, hb, hx70, hy70, fun e v => hQ e _, fun e => hE e H (Same.refl H)⟩
    refine ⟨_, rfl, rfl, _, rfl, ?_⟩
    refine iteD (fun _ => ?_) (fun _ => ?_)
    · refine ⟨_, rfl, _, rfl, _, rfl, c, a, b, xs, ys, rfl, ha, hb, hx70, hy70, fun p as n j H' np S hp R n2 n5 hj => ?_⟩
      obtain ⟨z, h0, hz, hi⟩ := row_lens (xs := xs) (ys := ys) n2 hj
      exact ⟨p, as, _, z, rfl, hp, R, by rw [List.length_set, List.length_replicate]; omega, h0, by omega, fun e v H2 S2 => hQ (hi.mp e) v H2 (S.trans S2), fun e => hE (fun z => e (hi.mpr z)) H' S⟩
    · refine ⟨_, rfl, _, rfl, _, rfl, c, a, b, xs, ys, rfl, ha, hb, hx70, hy70, fun p as n j H' np S hp R n2 n5 hj => ?_⟩
      obtain ⟨z, h0, hz, hi⟩ := row_lens (xs := xs) (ys := ys) n2 hj
      exact ⟨p, as, _, z, rfl, hp, R, by rw [List.length_set, List.length_replicate]; omega, h0, by omega, fun e v H2 S2 => hQ (hi.mp e) v H2 (S.trans S2), fun e => hE (fun z => e (hi.mpr z)) H' S⟩
theorem sc_law_refused : FnScope ["way", "cell", "ones", "others", "told", "e"] ["way", "cell", "ones", "others"] (defScope s_law_refused) := ⟨rfl, rfl, rfl, by decide +kernel, rfl, by decide +kernel, by decide +kernel⟩
set_option maxHeartbeats 4000000 in
theorem ok_law_refused (T : Txt K mg f_law_bag_of f_refuse_unlike f_plus f_less f_higher f_weighed f_beneath f_above f_is_outermost f_outermost f_peaks f_law_list_of f_floors f_law_asked f_law_refused f_law C_HallError C_Unlike C_BadNet C_BadText C_NoGo C_TooWide C_BadAsk C_BadPaper d_law_bag_of d_refuse_unlike d_plus d_less d_higher d_weighed d_beneath d_above d_is_outermost d_outermost d_peaks d_law_list_of d_floors d_law_asked d_law_refused d_law) : FnOk P w K mg base CX0 8 f_law_refused d_law_refused ["way", "cell", "ones", "others"] (sp_law_refused C_Unlike K) := by
  have G_law_asked : FnOk P w K mg base (CXF P w) 7 f_law_asked d_law_asked _ (sp_law_asked C_Unlike K) := ok_law_asked T
  refine T.F_law_refused.ok sc_law_refused (fun vs H Q E h => ?_) (fun cdv A outer s H vs Q E hr h => ?_)
  · obtain ⟨w', c, a, b, xs, ys, rfl, ha, hb, hx, hy, sx, sy, hQ⟩ := h
    rfl
  · obtain ⟨w', c, a, b, xs, ys, rfl, ha, hb, hx, hy, sx, sy, hQ⟩ := h
    refine ⟨_, (pss_cons (ps_set (i := 4) sc_law_refused.nd rfl (Or.inl rfl) pe_str)
      (pss_cons (ps_tryAs (i := 5) sc_law_refused.nd (by rfl) T.mC_Unlike (pb_expr (px_call G_law_asked (hr.mono (by decide)) (by rfl) T.m_law_asked T.F_law_asked.kp T.b_law_asked (pa_cons (pv 0) (pa_cons (pv 1) (pa_cons (pv 2) (pa_cons (pv 3) pa_nil)))))) (fun _ _ => (pss_cons (ps_set (i := 4) sc_law_refused.nd rfl (Or.inl rfl) pe_str)
      (pss_cons (ps_if (PW.pt (pw_or (pt_not (pt_val (pe_callB call_isX (by rfl) T.z_isinstance bt_isinstance (pa_cons (pv 5) (pa_cons (pe_glob (v := .ref C_HallError) (by rfl) T.mC_HallError rfl) pa_nil))))) (pw_or1 (pt_not (pt_val (pe_callB call_isX (by rfl) T.z_isinstance bt_isinstance (pa_cons (pv 5) (pa_cons (pe_bltn (v := .ty "ValueError") (by rfl) T.z_ValueError bt_ValueError rfl) pa_nil)))))))) (pss_one (ps_set (i := 4) sc_law_refused.nd rfl (Or.inl rfl) pe_str)) pss_nil)
      (pss_cons (ps_if (PW.pt (pw_or (pt_val (pe_callB call_isX (by rfl) T.z_isinstance bt_isinstance (pa_cons (pv 5) (pa_cons (pe_glob (v := .ref C_BadNet) (by rfl) T.mC_BadNet rfl) pa_nil)))) (pw_or (pt_val (pe_callB call_isX (by rfl) T.z_isinstance bt_isinstance (pa_cons (pv 5) (pa_cons (pe_glob (v := .ref C_BadText) (by rfl) T.mC_BadText rfl) pa_nil)))) (pw_or1 (pt_val (pe_callB call_isX (by rfl) T.z_isinstance bt_isinstance (pa_cons (pv 5) (pa_cons (pe_glob (v := .ref C_NoGo) (by rfl) T.mC_NoGo rfl) pa_nil)))))))) (pss_one (ps_set (i := 4) sc_law_refused.nd rfl (Or.inl rfl) pe_str)) pss_nil)
      (pss_one (ps_if (PW.pt (pw_or (pt_val (pe_callB call_isX (by rfl) T.z_isinstance bt_isinstance (pa_cons (pv 5) (pa_cons (pe_glob (v := .ref C_TooWide) (by rfl) T.mC_TooWide rfl) pa_nil)))) (pw_or (pt_val (pe_callB call_isX (by rfl) T.z_isinstance bt_isinstance (pa_cons (pv 5) (pa_cons (pe_glob (v := .ref C_BadAsk) (by rfl) T.mC_BadAsk rfl) pa_nil)))) (pw_or1 (pt_val (pe_callB call_isX (by rfl) T.z_isinstance bt_isinstance (pa_cons (pv 5) (pa_cons (pe_glob (v := .ref C_BadPaper) (by rfl) T.mC_BadPaper rfl) pa_nil)))))))) (pss_one (ps_set (i := 4) sc_law_refused.nd rfl (Or.inl rfl) pe_str)) pss_nil)))))))
      (pss_one (ps_ret (pv 4))))), ?_⟩
    refine ⟨_, rfl, _, rfl, _, rfl, _, rfl, w', c, a, b, xs, ys, rfl, ha, hb, hx, hy, sx, sy, fun e v H' S => ?_, fun e H' S => ?_⟩
    · have q := hQ H' S
      rw [if_pos e] at q
      exact ⟨_, rfl, q⟩
    · have q := hQ H' S
      rw [if_neg e] at q
      refine ⟨_, rfl, caught_self T.ec_Unlike, fun e o ne xo => ?_⟩
      have m : (e, o) ∈ ([] ++ [(e, o)] : List (Addr × Obj)) := by simp
      have no : ∀ {D : Addr}, ecIn K D (.ref C_HallError :: excMro) = true → D ≠ C_Unlike → D ≠ C_HallError → PySem.W.kitOne K (.ref C_Unlike) (.ref D) = some false := fun q h1 h2 => ec_no T.ec_Unlike q h1 h2
      refine ⟨_, rfl, e, o, _, _, _, _, true, rfl, m, xo, noDict, T.xi_Unlike, .inr ⟨_, rfl, rfl⟩, ec_up T.ec_Unlike T.ec_HallError, _, rfl, ?_⟩
      refine iteF ?_
      refine ⟨_, rfl, e, o, _, _, _, _, true, rfl, m, xo, noDict, T.xi_Unlike, .inl ⟨_, rfl, rfl⟩, ec_VE T.ec_Unlike, _, rfl, ?_⟩
      refine iteF ?_
      refine ⟨_, rfl, e, o, _, _, _, _, false, rfl, m, xo, noDict, T.xi_Unlike, .inr ⟨_, rfl, rfl⟩, no T.ec_BadNet T.ne_BadNet_Unlike T.ne_BadNet_HallError, _, rfl, ?_⟩
      refine iteF ?_
      refine ⟨_, rfl, e, o, _, _, _, _, false, rfl, m, xo, noDict, T.xi_Unlike, .inr ⟨_, rfl, rfl⟩, no T.ec_BadText T.ne_BadText_Unlike T.ne_BadText_HallError, _, rfl, ?_⟩
      refine iteF ?_
      refine ⟨_, rfl, e, o, _, _, _, _, false, rfl, m, xo, noDict, T.xi_Unlike, .inr ⟨_, rfl, rfl⟩, no T.ec_NoGo T.ne_NoGo_Unlike T.ne_NoGo_HallError, _, rfl, ?_⟩
      refine iteF ?_
      refine ⟨_, rfl, e, o, _, _, _, _, false, rfl, m, xo, noDict, T.xi_Unlike, .inr ⟨_, rfl, rfl⟩, no T.ec_TooWide T.ne_TooWide_Unlike T.ne_TooWide_HallError, _, rfl, ?_⟩
      refine iteF ?_
      refine ⟨_, rfl, e, o, _, _, _, _, false, rfl, m, xo, noDict, T.xi_Unlike, .inr ⟨_, rfl, rfl⟩, no T.ec_BadAsk T.ne_BadAsk_Unlike T.ne_BadAsk_HallError, _, rfl, ?_⟩
      refine iteF ?_
      refine ⟨_, rfl, e, o, _, _, _, _, false, rfl, m, xo, noDict, T.xi_Unlike, .inr ⟨_, rfl, rfl⟩, no T.ec_BadPaper T.ne_BadPaper_Unlike T.ne_BadPaper_HallError, _, rfl, ?_⟩
      refine iteF ?_
      exact ⟨_, rfl, q⟩
theorem sc_law : FnScope ["script", "at", "cell", "ones", "others", "due"] ["script"] (defScope s_law) := ⟨rfl, rfl, rfl, by decide +kernel, rfl, by decide +kernel, by decide +kernel⟩
set_option maxHeartbeats 4000000 in
theorem ok_law (T : Txt K mg f_law_bag_of f_refuse_unlike f_plus f_less f_higher f_weighed f_beneath f_above f_is_outermost f_outermost f_peaks f_law_list_of f_floors f_law_asked f_law_refused f_law C_HallError C_Unlike C_BadNet C_BadText C_NoGo C_TooWide C_BadAsk C_BadPaper d_law_bag_of d_refuse_unlike d_plus d_less d_higher d_weighed d_beneath d_above d_is_outermost d_outermost d_peaks d_law_list_of d_floors d_law_asked d_law_refused d_law) : FnOk P w K mg base CX0 9 f_law d_law ["script"] (sp_law K) := by
  have G_law_bag_of : FnOk P w K mg base CX0 1 f_law_bag_of d_law_bag_of _ (sp_law_bag_of K) := ok_law_bag_of T
  have G_law_refused : FnOk P w K mg base CX0 8 f_law_refused d_law_refused _ (sp_law_refused C_Unlike K) := ok_law_refused T
  refine T.F_law.ok sc_law (fun vs H Q E h => ?_) (fun cdv A outer s H vs Q E hr h => ?_)
  · obtain ⟨a, ns, rfl, hS, hl, hQ⟩ := h
    rfl
  · obtain ⟨a, ns, rfl, hS, hl, hQ⟩ := h
    refine ⟨_, (pss_cons (ps_set (i := 1) sc_law.nd rfl (Or.inl rfl) pe_int)
      (pss_cons (ps_for PassesOwn.never rfl (pi_list (pv 0)) (pg_name (i := 2) sc_law.nd (by rfl) (Or.inl rfl))
      (pss_cons (ps_set (i := 3) sc_law.nd rfl (Or.inl rfl) (pe_call G_law_bag_of (hr.mono (by decide)) (by rfl) T.m_law_bag_of T.F_law_bag_of.kp T.b_law_bag_of .nil pass0 (pa_cons (pv 2) (pa_cons (pe_op op_mod (pv 2) pe_int) pa_nil))))
      (pss_cons (ps_set (i := 4) sc_law.nd rfl (Or.inl rfl) (pe_call G_law_bag_of (hr.mono (by decide)) (by rfl) T.m_law_bag_of T.F_law_bag_of.kp T.b_law_bag_of .nil pass0 (pa_cons (pe_op op_fdiv (pv 2) pe_int) (pa_cons (pe_op op_mod (pe_op op_fdiv (pv 2) pe_int) pe_int) pa_nil))))
      (pss_cons (ps_if (pt_cmpR op_eq (pe_op op_mod (pe_op op_fdiv (pv 2) pe_int) pe_int) pe_int (nomark _)) (pss_one (ps_set (i := 4) sc_law.nd rfl (Or.inl rfl) (pe_call G_law_bag_of (hr.mono (by decide)) (by rfl) T.m_law_bag_of T.F_law_bag_of.kp T.b_law_bag_of .nil pass0 (pa_cons (pe_op op_fdiv (pv 2) pe_int) (pa_cons (pe_op op_mod (pv 2) pe_int) pa_nil))))) pss_nil)
      (pss_cons (ps_set (i := 5) sc_law.nd rfl (Or.inl rfl) pe_str)
      (pss_cons (ps_if (pt_cmpR op_ne (pe_callB call_len_seq (by rfl) T.z_len bt_len (pa_cons (pv 3) pa_nil)) (pe_callB call_len_seq (by rfl) T.z_len bt_len (pa_cons (pv 4) pa_nil)) (nomark _)) (pss_one (ps_set (i := 5) sc_law.nd rfl (Or.inl rfl) pe_str)) pss_nil)
      (pss_cons (ps_if (pt_cmpR op_ne (pe_call G_law_refused (hr.mono (by decide)) (by rfl) T.m_law_refused T.F_law_refused.kp T.b_law_refused .nil pass0 (pa_cons (pe_op op_mod (pe_op op_add (pe_op op_fdiv (pv 2) pe_int) (pv 1)) pe_int) (pa_cons (pv 2) (pa_cons (pv 3) (pa_cons (pv 4) pa_nil))))) (pv 5) (nomark _)) (pss_one (ps_ret pe_bl)) pss_nil)
      (pss_one (ps_set (i := 1) sc_law.nd rfl (Or.inl rfl) (pe_op op_add (pv 1) pe_int))))))))))
      (pss_one (ps_ret pe_bl)))), ?_⟩
    refine ⟨_, rfl, a, rfl, ⟨_, hS⟩, for_list (K := K) (a := a) (xs := vints ns) (fun i σ H2 => ∃ (o1 o2 o3 o4 : Option V), σ = [some (.ref a), some (.int i), o1, o2, o3, o4] ∧ Same H H2) ⟨_, _, _, _, rfl, Same.refl _⟩ (fun i σ H2 _ ⟨_, _, _, _, _, S⟩ => S.seq hS) ?_ ?_⟩
    · rintro i x σ H2 hi ⟨o1, o2, o3, o4, rfl, S⟩
      obtain ⟨c, rfl⟩ : ∃ c, x = V.int c := by
        rw [List.getElem?_map] at hi
        obtain ⟨c, _, rfl⟩ := Option.map_eq_some_iff.mp hi
        exact ⟨c, rfl⟩
      have m7 : ∀ z : Int, (z % 7).toNat ≤ 6 ∧ V.int (z % 7) = V.int (((z % 7).toNat : Nat) : Int) := fun z => by
        have h1 := Int.emod_nonneg z (show (7 : Int) ≠ 0 by decide)
        have h2 := Int.emod_lt_of_pos z (show (0 : Int) < 7 by decide)
        exact ⟨by omega, by rw [Int.toNat_of_nonneg h1]⟩
      refine ⟨_, rfl, _, rfl, _, _, rfl, rfl, (by show (0 : Int) < 7; decide), c, _, (by show [V.int c, V.int (c % 7)] = _; rw [(m7 c).2]), (m7 c).1, fun pa xs H3 na S3 hpa ex sx => ?_⟩
      have hx6 : xs.length ≤ 6 := by rw [ex]; exact (m7 c).1
      refine ⟨_, rfl, _, _, rfl, rfl, ⟨by decide, by decide⟩, _, rfl, _, _, rfl, rfl, ⟨by decide, by decide⟩, _, _, rfl, rfl, (by show (0 : Int) < 7; decide), c / 2, _, (by show [V.int (c / 2), V.int (c / 49 % 7)] = _; rw [(m7 (c / 49)).2]), (m7 (c / 49)).1, fun pb ys H4 nb S4 hpb ey sy => ?_⟩
      have hy6 : ys.length ≤ 6 := by rw [ey]; exact (m7 _).1
      refine ⟨_, rfl, _, _, rfl, rfl, ⟨by decide, by decide⟩, _, _, rfl, rfl, (by show (0 : Int) < 3; decide), rfl, _, rfl, ?_⟩
      refine iteD (fun _ => ?_) (fun _ => ?_)
      · refine ⟨_, rfl, _, _, rfl, rfl, ⟨by decide, by decide⟩, _, rfl, _, _, rfl, rfl, (by show (0 : Int) < 7; decide), c / 2, _, (by show [V.int (c / 2), V.int (c % 7)] = _; rw [(m7 c).2]), (m7 c).1, fun pb ys H5 nb S5 hpb ey sy => ?_⟩
        have hy6 : ys.length ≤ 6 := by rw [ey]; exact (m7 _).1
        have S5 := S4.trans S5
        refine ⟨_, rfl, pa, _, rfl, .inl (SqL.of (S5 _ _ hpa)), _, rfl, pb, _, rfl, .inl (SqL.of hpb), rfl, _, rfl, ?_⟩
        by_cases hl5 : xs.length = ys.length
        · refine iteND (fun hne => absurd (by rw [ints_len, ints_len, hl5]) hne) (fun _ => ?_)
          refine ⟨_, rfl, _, _, rfl, rfl, ⟨by decide, by decide⟩, _, rfl, _, _, rfl, rfl, _, _, rfl, rfl, (by show (0 : Int) < 7; decide), _, rfl, _, rfl, _, rfl, _, c, pa, pb, xs, ys, rfl, SqL.of (S5 _ _ hpa), SqL.of hpb, hx6, hy6, sx, sy, fun H6 S6 => ?_⟩
          rw [if_pos hl5]
          refine ⟨_, rfl, rfl, _, rfl, ?_⟩
          refine iteND (fun hne => absurd rfl hne) (fun _ => ?_)
          refine ⟨_, rfl, _, _, rfl, rfl, _, _, _, _, rfl, (S.trans S3).trans (S5.trans S6)⟩
        · refine iteND (fun hne => ?_) (fun e => absurd (by have := vint_eq.mp e; simp only [ints_len] at this; omega) hl5)
          refine ⟨_, rfl, _, _, rfl, rfl, ⟨by decide, by decide⟩, _, rfl, _, _, rfl, rfl, _, _, rfl, rfl, (by show (0 : Int) < 7; decide), _, rfl, _, rfl, _, rfl, _, c, pa, pb, xs, ys, rfl, SqL.of (S5 _ _ hpa), SqL.of hpb, hx6, hy6, sx, sy, fun H6 S6 => ?_⟩
          rw [if_neg hl5]
          refine ⟨_, rfl, rfl, _, rfl, ?_⟩
          refine iteND (fun hne => absurd rfl hne) (fun _ => ?_)
          refine ⟨_, rfl, _, _, rfl, rfl, _, _, _, _, rfl, (S.trans S3).trans (S5.trans S6)⟩
      · refine ⟨_, rfl, pa, _, rfl, .inl (SqL.of (S4 _ _ hpa)), _, rfl, pb, _, rfl, .inl (SqL.of hpb), rfl, _, rfl, ?_⟩
        by_cases hl5 : xs.length = ys.length
        · refine iteND (fun hne => absurd (by rw [ints_len, ints_len, hl5]) hne) (fun _ => ?_)
          refine ⟨_, rfl, _, _, rfl, rfl, ⟨by decide, by decide⟩, _, rfl, _, _, rfl, rfl, _, _, rfl, rfl, (by show (0 : Int) < 7; decide), _, rfl, _, rfl, _, rfl, _, c, pa, pb, xs, ys, rfl, SqL.of (S4 _ _ hpa), SqL.of hpb, hx6, hy6, sx, sy, fun H6 S6 => ?_⟩
          rw [if_pos hl5]
          refine ⟨_, rfl, rfl, _, rfl, ?_⟩
          refine iteND (fun hne => absurd rfl hne) (fun _ => ?_)
          refine ⟨_, rfl, _, _, rfl, rfl, _, _, _, _, rfl, (S.trans S3).trans (S4.trans S6)⟩
        · refine iteND (fun hne => ?_) (fun e => absurd (by have := vint_eq.mp e; simp only [ints_len] at this; omega) hl5)
          refine ⟨_, rfl, _, _, rfl, rfl, ⟨by decide, by decide⟩, _, rfl, _, _, rfl, rfl, _, _, rfl, rfl, (by show (0 : Int) < 7; decide), _, rfl, _, rfl, _, rfl, _, c, pa, pb, xs, ys, rfl, SqL.of (S4 _ _ hpa), SqL.of hpb, hx6, hy6, sx, sy, fun H6 S6 => ?_⟩
          rw [if_neg hl5]
          refine ⟨_, rfl, rfl, _, rfl, ?_⟩
          refine iteND (fun hne => absurd rfl hne) (fun _ => ?_)
          refine ⟨_, rfl, _, _, rfl, rfl, _, _, _, _, rfl, (S.trans S3).trans (S4.trans S6)⟩
    · rintro σ H2 ⟨o1, o2, o3, o4, rfl, S⟩
      exact hQ H2
end
set_option maxHeartbeats 0 in
theorem all_mk {l : PySem.W.OpenLaw} {w : World} {K : PySem.W.Frag} {h : Heap} {mg : Str → Option Value} {fa f_law_bag_of f_refuse_unlike f_plus f_less f_higher f_weighed f_beneath f_above f_is_outermost f_outermost f_peaks f_law_list_of f_floors f_law_asked f_law_refused f_law C_HallError C_Unlike C_BadNet C_BadText C_NoGo C_TooWide C_BadAsk C_BadPaper : Addr} (X : K.In h) (G : h.Ns mainGlobals mg) (hfa : mg "law" = some (.ref fa))
    {od_law_bag_of an_law_bag_of : Option Addr} {sl_law_bag_of : Array (Option Value)} {oc_law_bag_of kV_law_bag_of dc_law_bag_of pm_law_bag_of cd_law_bag_of ct_law_bag_of : Value}
    {od_refuse_unlike an_refuse_unlike : Option Addr} {sl_refuse_unlike : Array (Option Value)} {oc_refuse_unlike kV_refuse_unlike dc_refuse_unlike pm_refuse_unlike cd_refuse_unlike ct_refuse_unlike : Value}
    {od_plus an_plus : Option Addr} {sl_plus : Array (Option Value)} {oc_plus kV_plus dc_plus pm_plus cd_plus ct_plus : Value}
    {od_less an_less : Option Addr} {sl_less : Array (Option Value)} {oc_less kV_less dc_less pm_less cd_less ct_less : Value}
    {od_higher an_higher : Option Addr} {sl_higher : Array (Option Value)} {oc_higher kV_higher dc_higher pm_higher cd_higher ct_higher : Value}
    {od_weighed an_weighed : Option Addr} {sl_weighed : Array (Option Value)} {oc_weighed kV_weighed dc_weighed pm_weighed cd_weighed ct_weighed : Value}
    {od_beneath an_beneath : Option Addr} {sl_beneath : Array (Option Value)} {oc_beneath kV_beneath dc_beneath pm_beneath cd_beneath ct_beneath : Value}
    {od_above an_above : Option Addr} {sl_above : Array (Option Value)} {oc_above kV_above dc_above pm_above cd_above ct_above : Value}
    {od_is_outermost an_is_outermost : Option Addr} {sl_is_outermost : Array (Option Value)} {oc_is_outermost kV_is_outermost dc_is_outermost pm_is_outermost cd_is_outermost ct_is_outermost : Value}
    {od_outermost an_outermost : Option Addr} {sl_outermost : Array (Option Value)} {oc_outermost kV_outermost dc_outermost pm_outermost cd_outermost ct_outermost : Value}
    {od_peaks an_peaks : Option Addr} {sl_peaks : Array (Option Value)} {oc_peaks kV_peaks dc_peaks pm_peaks cd_peaks ct_peaks : Value}
    {od_law_list_of an_law_list_of : Option Addr} {sl_law_list_of : Array (Option Value)} {oc_law_list_of kV_law_list_of dc_law_list_of pm_law_list_of cd_law_list_of ct_law_list_of : Value}
    {od_floors an_floors : Option Addr} {sl_floors : Array (Option Value)} {oc_floors kV_floors dc_floors pm_floors cd_floors ct_floors : Value}
    {od_law_asked an_law_asked : Option Addr} {sl_law_asked : Array (Option Value)} {oc_law_asked kV_law_asked dc_law_asked pm_law_asked cd_law_asked ct_law_asked : Value}
    {od_law_refused an_law_refused : Option Addr} {sl_law_refused : Array (Option Value)} {oc_law_refused kV_law_refused dc_law_refused pm_law_refused cd_law_refused ct_law_refused : Value}
    {od_law an_law : Option Addr} {sl_law : Array (Option Value)} {oc_law kV_law dc_law pm_law cd_law ct_law : Value}
    (aC_HallError : PySem.W.nsIn K mainGlobals "HallError" = some (some (.ref C_HallError)))
    (aC_Unlike : PySem.W.nsIn K mainGlobals "Unlike" = some (some (.ref C_Unlike)))
    (aC_BadNet : PySem.W.nsIn K mainGlobals "BadNet" = some (some (.ref C_BadNet)))
    (aC_BadText : PySem.W.nsIn K mainGlobals "BadText" = some (some (.ref C_BadText)))
    (aC_NoGo : PySem.W.nsIn K mainGlobals "NoGo" = some (some (.ref C_NoGo)))
    (aC_TooWide : PySem.W.nsIn K mainGlobals "TooWide" = some (some (.ref C_TooWide)))
    (aC_BadAsk : PySem.W.nsIn K mainGlobals "BadAsk" = some (some (.ref C_BadAsk)))
    (aC_BadPaper : PySem.W.nsIn K mainGlobals "BadPaper" = some (some (.ref C_BadPaper)))
    (a_law_bag_of : PySem.W.nsIn K mainGlobals "_law_bag_of" = some (some (.ref f_law_bag_of)))
    (l_law_bag_of : K.lookup f_law_bag_of = some ⟨oc_law_bag_of, od_law_bag_of, .func (PySem.W.fnOf "_law_bag_of" "_law_bag_of" (defArgs s_law_bag_of) (defBody s_law_bag_of) (defScope s_law_bag_of) .none kV_law_bag_of dc_law_bag_of pm_law_bag_of an_law_bag_of cd_law_bag_of ct_law_bag_of), sl_law_bag_of⟩)
    (c_law_bag_of : PySem.W.codeIn K cd_law_bag_of "_law_bag_of" = true)
    (k_law_bag_of : PySem.W.keepIn K (.ref f_law_bag_of) = true)
    (a_refuse_unlike : PySem.W.nsIn K mainGlobals "refuse_unlike" = some (some (.ref f_refuse_unlike)))
    (l_refuse_unlike : K.lookup f_refuse_unlike = some ⟨oc_refuse_unlike, od_refuse_unlike, .func (PySem.W.fnOf "refuse_unlike" "refuse_unlike" (defArgs s_refuse_unlike) (defBody s_refuse_unlike) (defScope s_refuse_unlike) .none kV_refuse_unlike dc_refuse_unlike pm_refuse_unlike an_refuse_unlike cd_refuse_unlike ct_refuse_unlike), sl_refuse_unlike⟩)
    (c_refuse_unlike : PySem.W.codeIn K cd_refuse_unlike "refuse_unlike" = true)
    (k_refuse_unlike : PySem.W.keepIn K (.ref f_refuse_unlike) = true)
    (a_plus : PySem.W.nsIn K mainGlobals "plus" = some (some (.ref f_plus)))
    (l_plus : K.lookup f_plus = some ⟨oc_plus, od_plus, .func (PySem.W.fnOf "plus" "plus" (defArgs s_plus) (defBody s_plus) (defScope s_plus) .none kV_plus dc_plus pm_plus an_plus cd_plus ct_plus), sl_plus⟩)
    (c_plus : PySem.W.codeIn K cd_plus "plus" = true)
    (k_plus : PySem.W.keepIn K (.ref f_plus) = true)
    (a_less : PySem.W.nsIn K mainGlobals "less" = some (some (.ref f_less)))
    (l_less : K.lookup f_less = some ⟨oc_less, od_less, .func (PySem.W.fnOf "less" "less" (defArgs s_less) (defBody s_less) (defScope s_less) .none kV_less dc_less pm_less an_less cd_less ct_less), sl_less⟩)
    (c_less : PySem.W.codeIn K cd_less "less" = true)
    (k_less : PySem.W.keepIn K (.ref f_less) = true)
    (a_higher : PySem.W.nsIn K mainGlobals "higher" = some (some (.ref f_higher)))
    (l_higher : K.lookup f_higher = some ⟨oc_higher, od_higher, .func (PySem.W.fnOf "higher" "higher" (defArgs s_higher) (defBody s_higher) (defScope s_higher) .none kV_higher dc_higher pm_higher an_higher cd_higher ct_higher), sl_higher⟩)
    (c_higher : PySem.W.codeIn K cd_higher "higher" = true)
    (k_higher : PySem.W.keepIn K (.ref f_higher) = true)
    (a_weighed : PySem.W.nsIn K mainGlobals "weighed" = some (some (.ref f_weighed)))
    (l_weighed : K.lookup f_weighed = some ⟨oc_weighed, od_weighed, .func (PySem.W.fnOf "weighed" "weighed" (defArgs s_weighed) (defBody s_weighed) (defScope s_weighed) .none kV_weighed dc_weighed pm_weighed an_weighed cd_weighed ct_weighed), sl_weighed⟩)
    (c_weighed : PySem.W.codeIn K cd_weighed "weighed" = true)
    (k_weighed : PySem.W.keepIn K (.ref f_weighed) = true)
    (a_beneath : PySem.W.nsIn K mainGlobals "beneath" = some (some (.ref f_beneath)))
    (l_beneath : K.lookup f_beneath = some ⟨oc_beneath, od_beneath, .func (PySem.W.fnOf "beneath" "beneath" (defArgs s_beneath) (defBody s_beneath) (defScope s_beneath) .none kV_beneath dc_beneath pm_beneath an_beneath cd_beneath ct_beneath), sl_beneath⟩)
    (c_beneath : PySem.W.codeIn K cd_beneath "beneath" = true)
    (k_beneath : PySem.W.keepIn K (.ref f_beneath) = true)
    (a_above : PySem.W.nsIn K mainGlobals "above" = some (some (.ref f_above)))
    (l_above : K.lookup f_above = some ⟨oc_above, od_above, .func (PySem.W.fnOf "above" "above" (defArgs s_above) (defBody s_above) (defScope s_above) .none kV_above dc_above pm_above an_above cd_above ct_above), sl_above⟩)
    (c_above : PySem.W.codeIn K cd_above "above" = true)
    (k_above : PySem.W.keepIn K (.ref f_above) = true)
    (a_is_outermost : PySem.W.nsIn K mainGlobals "is_outermost" = some (some (.ref f_is_outermost)))
    (l_is_outermost : K.lookup f_is_outermost = some ⟨oc_is_outermost, od_is_outermost, .func (PySem.W.fnOf "is_outermost" "is_outermost" (defArgs s_is_outermost) (defBody s_is_outermost) (defScope s_is_outermost) .none kV_is_outermost dc_is_outermost pm_is_outermost an_is_outermost cd_is_outermost ct_is_outermost), sl_is_outermost⟩)
    (c_is_outermost : PySem.W.codeIn K cd_is_outermost "is_outermost" = true)
    (k_is_outermost : PySem.W.keepIn K (.ref f_is_outermost) = true)
    (a_outermost : PySem.W.nsIn K mainGlobals "outermost" = some (some (.ref f_outermost)))
    (l_outermost : K.lookup f_outermost = some ⟨oc_outermost, od_outermost, .func (PySem.W.fnOf "outermost" "outermost" (defArgs s_outermost) (defBody s_outermost) (defScope s_outermost) .none kV_outermost dc_outermost pm_outermost an_outermost cd_outermost ct_outermost), sl_outermost⟩)
    (c_outermost : PySem.W.codeIn K cd_outermost "outermost" = true)
    (k_outermost : PySem.W.keepIn K (.ref f_outermost) = true)
    (a_peaks : PySem.W.nsIn K mainGlobals "peaks" = some (some (.ref f_peaks)))
    (l_peaks : K.lookup f_peaks = some ⟨oc_peaks, od_peaks, .func (PySem.W.fnOf "peaks" "peaks" (defArgs s_peaks) (defBody s_peaks) (defScope s_peaks) .none kV_peaks dc_peaks pm_peaks an_peaks cd_peaks ct_peaks), sl_peaks⟩)
    (c_peaks : PySem.W.codeIn K cd_peaks "peaks" = true)
    (k_peaks : PySem.W.keepIn K (.ref f_peaks) = true)
    (a_law_list_of : PySem.W.nsIn K mainGlobals "_law_list_of" = some (some (.ref f_law_list_of)))
    (l_law_list_of : K.lookup f_law_list_of = some ⟨oc_law_list_of, od_law_list_of, .func (PySem.W.fnOf "_law_list_of" "_law_list_of" (defArgs s_law_list_of) (defBody s_law_list_of) (defScope s_law_list_of) .none kV_law_list_of dc_law_list_of pm_law_list_of an_law_list_of cd_law_list_of ct_law_list_of), sl_law_list_of⟩)
    (c_law_list_of : PySem.W.codeIn K cd_law_list_of "_law_list_of" = true)
    (k_law_list_of : PySem.W.keepIn K (.ref f_law_list_of) = true)
    (a_floors : PySem.W.nsIn K mainGlobals "floors" = some (some (.ref f_floors)))
    (l_floors : K.lookup f_floors = some ⟨oc_floors, od_floors, .func (PySem.W.fnOf "floors" "floors" (defArgs s_floors) (defBody s_floors) (defScope s_floors) .none kV_floors dc_floors pm_floors an_floors cd_floors ct_floors), sl_floors⟩)
    (c_floors : PySem.W.codeIn K cd_floors "floors" = true)
    (k_floors : PySem.W.keepIn K (.ref f_floors) = true)
    (a_law_asked : PySem.W.nsIn K mainGlobals "_law_asked" = some (some (.ref f_law_asked)))
    (l_law_asked : K.lookup f_law_asked = some ⟨oc_law_asked, od_law_asked, .func (PySem.W.fnOf "_law_asked" "_law_asked" (defArgs s_law_asked) (defBody s_law_asked) (defScope s_law_asked) .none kV_law_asked dc_law_asked pm_law_asked an_law_asked cd_law_asked ct_law_asked), sl_law_asked⟩)
    (c_law_asked : PySem.W.codeIn K cd_law_asked "_law_asked" = true)
    (k_law_asked : PySem.W.keepIn K (.ref f_law_asked) = true)
    (a_law_refused : PySem.W.nsIn K mainGlobals "_law_refused" = some (some (.ref f_law_refused)))
    (l_law_refused : K.lookup f_law_refused = some ⟨oc_law_refused, od_law_refused, .func (PySem.W.fnOf "_law_refused" "_law_refused" (defArgs s_law_refused) (defBody s_law_refused) (defScope s_law_refused) .none kV_law_refused dc_law_refused pm_law_refused an_law_refused cd_law_refused ct_law_refused), sl_law_refused⟩)
    (c_law_refused : PySem.W.codeIn K cd_law_refused "_law_refused" = true)
    (k_law_refused : PySem.W.keepIn K (.ref f_law_refused) = true)
    (a_law : PySem.W.nsIn K mainGlobals "law" = some (some (.ref f_law)))
    (l_law : K.lookup f_law = some ⟨oc_law, od_law, .func (PySem.W.fnOf "law" "law" (defArgs s_law) (defBody s_law) (defScope s_law) .none kV_law dc_law pm_law an_law cd_law ct_law), sl_law⟩)
    (c_law : PySem.W.codeIn K cd_law "law" = true)
    (k_law : PySem.W.keepIn K (.ref f_law) = true)
    (ec_HallError : ecIn K C_HallError excMro = true)
    (xp_HallError : ((PySem.W.clsIn K C_HallError).map (·.ns)).bind (fun N => PySem.W.nsIn K N "__init__") = some none)
    (xga_HallError : PySem.W.findIn K (.ref C_HallError) "__getattribute__" = some (some (.builtin "BaseException.__getattribute__")))
    (xgh_HallError : PySem.W.findIn K (.ref C_HallError) "__getattr__" = some none)
    (xca_HallError : PySem.W.findIn K (.ref C_HallError) "__class__" = some (some (.builtin "object.__class__")))
    (xcg_HallError : PySem.W.specialIn K (.builtin "object.__class__") "__get__" = some (some (.builtin "getset_descriptor.__get__")))
    (xck_HallError : PySem.W.takesIn K (.builtin "object.__class__") = some true)
    (ec_Unlike : ecIn K C_Unlike (.ref C_HallError :: excMro) = true)
    (xp_Unlike : ((PySem.W.clsIn K C_Unlike).map (·.ns)).bind (fun N => PySem.W.nsIn K N "__init__") = some none)
    (xga_Unlike : PySem.W.findIn K (.ref C_Unlike) "__getattribute__" = some (some (.builtin "BaseException.__getattribute__")))
    (xgh_Unlike : PySem.W.findIn K (.ref C_Unlike) "__getattr__" = some none)
    (xca_Unlike : PySem.W.findIn K (.ref C_Unlike) "__class__" = some (some (.builtin "object.__class__")))
    (xcg_Unlike : PySem.W.specialIn K (.builtin "object.__class__") "__get__" = some (some (.builtin "getset_descriptor.__get__")))
    (xck_Unlike : PySem.W.takesIn K (.builtin "object.__class__") = some true)
    (ec_BadNet : ecIn K C_BadNet (.ref C_HallError :: excMro) = true)
    (xp_BadNet : ((PySem.W.clsIn K C_BadNet).map (·.ns)).bind (fun N => PySem.W.nsIn K N "__init__") = some none)
    (xga_BadNet : PySem.W.findIn K (.ref C_BadNet) "__getattribute__" = some (some (.builtin "BaseException.__getattribute__")))
    (xgh_BadNet : PySem.W.findIn K (.ref C_BadNet) "__getattr__" = some none)
    (xca_BadNet : PySem.W.findIn K (.ref C_BadNet) "__class__" = some (some (.builtin "object.__class__")))
    (xcg_BadNet : PySem.W.specialIn K (.builtin "object.__class__") "__get__" = some (some (.builtin "getset_descriptor.__get__")))
    (xck_BadNet : PySem.W.takesIn K (.builtin "object.__class__") = some true)
    (ec_BadText : ecIn K C_BadText (.ref C_HallError :: excMro) = true)
    (xga_BadText : PySem.W.findIn K (.ref C_BadText) "__getattribute__" = some (some (.builtin "BaseException.__getattribute__")))
    (xgh_BadText : PySem.W.findIn K (.ref C_BadText) "__getattr__" = some none)
    (xca_BadText : PySem.W.findIn K (.ref C_BadText) "__class__" = some (some (.builtin "object.__class__")))
    (xcg_BadText : PySem.W.specialIn K (.builtin "object.__class__") "__get__" = some (some (.builtin "getset_descriptor.__get__")))
    (xck_BadText : PySem.W.takesIn K (.builtin "object.__class__") = some true)
    (ec_NoGo : ecIn K C_NoGo (.ref C_HallError :: excMro) = true)
    (xga_NoGo : PySem.W.findIn K (.ref C_NoGo) "__getattribute__" = some (some (.builtin "BaseException.__getattribute__")))
    (xgh_NoGo : PySem.W.findIn K (.ref C_NoGo) "__getattr__" = some none)
    (xca_NoGo : PySem.W.findIn K (.ref C_NoGo) "__class__" = some (some (.builtin "object.__class__")))
    (xcg_NoGo : PySem.W.specialIn K (.builtin "object.__class__") "__get__" = some (some (.builtin "getset_descriptor.__get__")))
    (xck_NoGo : PySem.W.takesIn K (.builtin "object.__class__") = some true)
    (ec_TooWide : ecIn K C_TooWide (.ref C_HallError :: excMro) = true)
    (xp_TooWide : ((PySem.W.clsIn K C_TooWide).map (·.ns)).bind (fun N => PySem.W.nsIn K N "__init__") = some none)
    (xga_TooWide : PySem.W.findIn K (.ref C_TooWide) "__getattribute__" = some (some (.builtin "BaseException.__getattribute__")))
    (xgh_TooWide : PySem.W.findIn K (.ref C_TooWide) "__getattr__" = some none)
    (xca_TooWide : PySem.W.findIn K (.ref C_TooWide) "__class__" = some (some (.builtin "object.__class__")))
    (xcg_TooWide : PySem.W.specialIn K (.builtin "object.__class__") "__get__" = some (some (.builtin "getset_descriptor.__get__")))
    (xck_TooWide : PySem.W.takesIn K (.builtin "object.__class__") = some true)
    (ec_BadAsk : ecIn K C_BadAsk (.ref C_HallError :: excMro) = true)
    (xga_BadAsk : PySem.W.findIn K (.ref C_BadAsk) "__getattribute__" = some (some (.builtin "BaseException.__getattribute__")))
    (xgh_BadAsk : PySem.W.findIn K (.ref C_BadAsk) "__getattr__" = some none)
    (xca_BadAsk : PySem.W.findIn K (.ref C_BadAsk) "__class__" = some (some (.builtin "object.__class__")))
    (xcg_BadAsk : PySem.W.specialIn K (.builtin "object.__class__") "__get__" = some (some (.builtin "getset_descriptor.__get__")))
    (xck_BadAsk : PySem.W.takesIn K (.builtin "object.__class__") = some true)
    (ec_BadPaper : ecIn K C_BadPaper (.ref C_HallError :: excMro) = true)
    (xga_BadPaper : PySem.W.findIn K (.ref C_BadPaper) "__getattribute__" = some (some (.builtin "BaseException.__getattribute__")))
    (xgh_BadPaper : PySem.W.findIn K (.ref C_BadPaper) "__getattr__" = some none)
    (xca_BadPaper : PySem.W.findIn K (.ref C_BadPaper) "__class__" = some (some (.builtin "object.__class__")))
    (xcg_BadPaper : PySem.W.specialIn K (.builtin "object.__class__") "__get__" = some (some (.builtin "getset_descriptor.__get__")))
    (xck_BadPaper : PySem.W.takesIn K (.builtin "object.__class__") = some true)
    (ne_Unlike_HallError : C_Unlike ≠ C_HallError)
    (ne_BadNet_HallError : C_BadNet ≠ C_HallError)
    (ne_BadNet_Unlike : C_BadNet ≠ C_Unlike)
    (ne_BadText_HallError : C_BadText ≠ C_HallError)
    (ne_BadText_Unlike : C_BadText ≠ C_Unlike)
    (ne_BadText_BadNet : C_BadText ≠ C_BadNet)
    (ne_NoGo_HallError : C_NoGo ≠ C_HallError)
    (ne_NoGo_Unlike : C_NoGo ≠ C_Unlike)
    (ne_NoGo_BadNet : C_NoGo ≠ C_BadNet)
    (ne_NoGo_BadText : C_NoGo ≠ C_BadText)
    (ne_TooWide_HallError : C_TooWide ≠ C_HallError)
    (ne_TooWide_Unlike : C_TooWide ≠ C_Unlike)
    (ne_TooWide_BadNet : C_TooWide ≠ C_BadNet)
    (ne_TooWide_BadText : C_TooWide ≠ C_BadText)
    (ne_TooWide_NoGo : C_TooWide ≠ C_NoGo)
    (ne_BadAsk_HallError : C_BadAsk ≠ C_HallError)
    (ne_BadAsk_Unlike : C_BadAsk ≠ C_Unlike)
    (ne_BadAsk_BadNet : C_BadAsk ≠ C_BadNet)
    (ne_BadAsk_BadText : C_BadAsk ≠ C_BadText)
    (ne_BadAsk_NoGo : C_BadAsk ≠ C_NoGo)
    (ne_BadAsk_TooWide : C_BadAsk ≠ C_TooWide)
    (ne_BadPaper_HallError : C_BadPaper ≠ C_HallError)
    (ne_BadPaper_Unlike : C_BadPaper ≠ C_Unlike)
    (ne_BadPaper_BadNet : C_BadPaper ≠ C_BadNet)
    (ne_BadPaper_BadText : C_BadPaper ≠ C_BadText)
    (ne_BadPaper_NoGo : C_BadPaper ≠ C_NoGo)
    (ne_BadPaper_TooWide : C_BadPaper ≠ C_TooWide)
    (ne_BadPaper_BadAsk : C_BadPaper ≠ C_BadAsk)
    (z_range : PySem.W.nsIn K mainGlobals "range" = some none)
    (z_len : PySem.W.nsIn K mainGlobals "len" = some none)
    (z_zip : PySem.W.nsIn K mainGlobals "zip" = some none)
    (z_max : PySem.W.nsIn K mainGlobals "max" = some none)
    (z_sum : PySem.W.nsIn K mainGlobals "sum" = some none)
    (z_all : PySem.W.nsIn K mainGlobals "all" = some none)
    (z_list : PySem.W.nsIn K mainGlobals "list" = some none)
    (z_isinstance : PySem.W.nsIn K mainGlobals "isinstance" = some none)
    (z_ValueError : PySem.W.nsIn K mainGlobals "ValueError" = some none)
    : ∃ fd : FuncData, (∀ (s : Shared) (v : Value), BindsTo s fd ⟨[v], []⟩ [("script", v)]) ∧ ∀ base : Heap, K.In base → base.Ns mainGlobals mg → FnOk l.prog w K mg base CX0 9 fa fd ["script"] (sp_law K) := by
  have e := hfa.symm.trans (PySem.W.mg_of X G a_law)
  cases e
  have F_law_bag_of := fun_mk (st := s_law_bag_of) l_law_bag_of c_law_bag_of k_law_bag_of
  have b_law_bag_of := F_law_bag_of.binds (ps := ["cell", "size"]) fun _ _ _ _ _ _ us hl => match us, hl with | [_, _], _ => rfl
  have F_refuse_unlike := fun_mk (st := s_refuse_unlike) l_refuse_unlike c_refuse_unlike k_refuse_unlike
  have b_refuse_unlike := F_refuse_unlike.binds (ps := ["ones", "others"]) fun _ _ _ _ _ _ us hl => match us, hl with | [_, _], _ => rfl
  have F_plus := fun_mk (st := s_plus) l_plus c_plus k_plus
  have b_plus := F_plus.binds (ps := ["ones", "others"]) fun _ _ _ _ _ _ us hl => match us, hl with | [_, _], _ => rfl
  have F_less := fun_mk (st := s_less) l_less c_less k_less
  have b_less := F_less.binds (ps := ["ones", "others"]) fun _ _ _ _ _ _ us hl => match us, hl with | [_, _], _ => rfl
  have F_higher := fun_mk (st := s_higher) l_higher c_higher k_higher
  have b_higher := F_higher.binds (ps := ["ones", "others"]) fun _ _ _ _ _ _ us hl => match us, hl with | [_, _], _ => rfl
  have F_weighed := fun_mk (st := s_weighed) l_weighed c_weighed k_weighed
  have b_weighed := F_weighed.binds (ps := ["weights", "ones"]) fun _ _ _ _ _ _ us hl => match us, hl with | [_, _], _ => rfl
  have F_beneath := fun_mk (st := s_beneath) l_beneath c_beneath k_beneath
  have b_beneath := F_beneath.binds (ps := ["ones", "others"]) fun _ _ _ _ _ _ us hl => match us, hl with | [_, _], _ => rfl
  have F_above := fun_mk (st := s_above) l_above c_above k_above
  have b_above := F_above.binds (ps := ["ones", "others"]) fun _ _ _ _ _ _ us hl => match us, hl with | [_, _], _ => rfl
  have F_is_outermost := fun_mk (st := s_is_outermost) l_is_outermost c_is_outermost k_is_outermost
  have b_is_outermost := F_is_outermost.binds (ps := ["row", "rows", "lies"]) fun _ _ _ _ _ _ us hl => match us, hl with | [_, _, _], _ => rfl
  have F_outermost := fun_mk (st := s_outermost) l_outermost c_outermost k_outermost
  have b_outermost := F_outermost.binds (ps := ["rows", "lies"]) fun _ _ _ _ _ _ us hl => match us, hl with | [_, _], _ => rfl
  have F_peaks := fun_mk (st := s_peaks) l_peaks c_peaks k_peaks
  have b_peaks := F_peaks.binds (ps := ["rows"]) fun _ _ _ _ _ _ us hl => match us, hl with | [_], _ => rfl
  have F_law_list_of := fun_mk (st := s_law_list_of) l_law_list_of c_law_list_of k_law_list_of
  have b_law_list_of := F_law_list_of.binds (ps := ["cell", "ones", "others"]) fun _ _ _ _ _ _ us hl => match us, hl with | [_, _, _], _ => rfl
  have F_floors := fun_mk (st := s_floors) l_floors c_floors k_floors
  have b_floors := F_floors.binds (ps := ["rows"]) fun _ _ _ _ _ _ us hl => match us, hl with | [_], _ => rfl
  have F_law_asked := fun_mk (st := s_law_asked) l_law_asked c_law_asked k_law_asked
  have b_law_asked := F_law_asked.binds (ps := ["way", "cell", "ones", "others"]) fun _ _ _ _ _ _ us hl => match us, hl with | [_, _, _, _], _ => rfl
  have F_law_refused := fun_mk (st := s_law_refused) l_law_refused c_law_refused k_law_refused
  have b_law_refused := F_law_refused.binds (ps := ["way", "cell", "ones", "others"]) fun _ _ _ _ _ _ us hl => match us, hl with | [_, _, _, _], _ => rfl
  have F_law := fun_mk (st := s_law) l_law c_law k_law
  have b_law := F_law.binds (ps := ["script"]) fun _ _ _ _ _ _ us hl => match us, hl with | [_], _ => rfl
  have T : Txt K mg _ _ _ _ _ _ _ _ _ _ _ _ _ _ _ _ _ _ _ _ _ _ _ _ _ _ _ _ _ _ _ _ _ _ _ _ _ _ _ _ := ⟨F_law_bag_of, PySem.W.mg_of X G a_law_bag_of, b_law_bag_of, F_refuse_unlike, PySem.W.mg_of X G a_refuse_unlike, b_refuse_unlike, F_plus, PySem.W.mg_of X G a_plus, b_plus, F_less, PySem.W.mg_of X G a_less, b_less, F_higher, PySem.W.mg_of X G a_higher, b_higher, F_weighed, PySem.W.mg_of X G a_weighed, b_weighed, F_beneath, PySem.W.mg_of X G a_beneath, b_beneath, F_above, PySem.W.mg_of X G a_above, b_above, F_is_outermost, PySem.W.mg_of X G a_is_outermost, b_is_outermost, F_outermost, PySem.W.mg_of X G a_outermost, b_outermost, F_peaks, PySem.W.mg_of X G a_peaks, b_peaks, F_law_list_of, PySem.W.mg_of X G a_law_list_of, b_law_list_of, F_floors, PySem.W.mg_of X G a_floors, b_floors, F_law_asked, PySem.W.mg_of X G a_law_asked, b_law_asked, F_law_refused, PySem.W.mg_of X G a_law_refused, b_law_refused, F_law, PySem.W.mg_of X G a_law, b_law, PySem.W.mg_none_of X G z_range, PySem.W.mg_none_of X G z_len, PySem.W.mg_none_of X G z_zip, PySem.W.mg_none_of X G z_max, PySem.W.mg_none_of X G z_sum, PySem.W.mg_none_of X G z_all, PySem.W.mg_none_of X G z_list, PySem.W.mg_none_of X G z_isinstance, PySem.W.mg_none_of X G z_ValueError, PySem.W.mg_of X G aC_HallError, ec_HallError, ⟨ec_cls ec_HallError, xga_HallError, xgh_HallError, (ec_mro ec_HallError _).trans rfl, (ec_mro ec_HallError _).trans rfl, xca_HallError, xcg_HallError, xck_HallError⟩, ⟨ec_HallError, xp_HallError⟩, PySem.W.mg_of X G aC_Unlike, ec_Unlike, ⟨ec_cls ec_Unlike, xga_Unlike, xgh_Unlike, (ec_mro ec_Unlike _).trans rfl, (ec_mro ec_Unlike _).trans rfl, xca_Unlike, xcg_Unlike, xck_Unlike⟩, ⟨ec_Unlike, xp_Unlike⟩, PySem.W.mg_of X G aC_BadNet, ec_BadNet, ⟨ec_cls ec_BadNet, xga_BadNet, xgh_BadNet, (ec_mro ec_BadNet _).trans rfl, (ec_mro ec_BadNet _).trans rfl, xca_BadNet, xcg_BadNet, xck_BadNet⟩, ⟨ec_BadNet, xp_BadNet⟩, PySem.W.mg_of X G aC_BadText, ec_BadText, ⟨ec_cls ec_BadText, xga_BadText, xgh_BadText, (ec_mro ec_BadText _).trans rfl, (ec_mro ec_BadText _).trans rfl, xca_BadText, xcg_BadText, xck_BadText⟩, PySem.W.mg_of X G aC_NoGo, ec_NoGo, ⟨ec_cls ec_NoGo, xga_NoGo, xgh_NoGo, (ec_mro ec_NoGo _).trans rfl, (ec_mro ec_NoGo _).trans rfl, xca_NoGo, xcg_NoGo, xck_NoGo⟩, PySem.W.mg_of X G aC_TooWide, ec_TooWide, ⟨ec_cls ec_TooWide, xga_TooWide, xgh_TooWide, (ec_mro ec_TooWide _).trans rfl, (ec_mro ec_TooWide _).trans rfl, xca_TooWide, xcg_TooWide, xck_TooWide⟩, ⟨ec_TooWide, xp_TooWide⟩, PySem.W.mg_of X G aC_BadAsk, ec_BadAsk, ⟨ec_cls ec_BadAsk, xga_BadAsk, xgh_BadAsk, (ec_mro ec_BadAsk _).trans rfl, (ec_mro ec_BadAsk _).trans rfl, xca_BadAsk, xcg_BadAsk, xck_BadAsk⟩, PySem.W.mg_of X G aC_BadPaper, ec_BadPaper, ⟨ec_cls ec_BadPaper, xga_BadPaper, xgh_BadPaper, (ec_mro ec_BadPaper _).trans rfl, (ec_mro ec_BadPaper _).trans rfl, xca_BadPaper, xcg_BadPaper, xck_BadPaper⟩, ne_Unlike_HallError, ne_BadNet_HallError, ne_BadNet_Unlike, ne_BadText_HallError, ne_BadText_Unlike, ne_BadText_BadNet, ne_NoGo_HallError, ne_NoGo_Unlike, ne_NoGo_BadNet, ne_NoGo_BadText, ne_TooWide_HallError, ne_TooWide_Unlike, ne_TooWide_BadNet, ne_TooWide_BadText, ne_TooWide_NoGo, ne_BadAsk_HallError, ne_BadAsk_Unlike, ne_BadAsk_BadNet, ne_BadAsk_BadText, ne_BadAsk_NoGo, ne_BadAsk_TooWide, ne_BadPaper_HallError, ne_BadPaper_Unlike, ne_BadPaper_BadNet, ne_BadPaper_BadText, ne_BadPaper_NoGo, ne_BadPaper_TooWide, ne_BadPaper_BadAsk⟩
  exact ⟨PySem.W.fnOf "law" "law" (defArgs s_law) (defBody s_law) (defScope s_law) .none kV_law dc_law pm_law an_law cd_law ct_law, fun s v => .of_eq rfl, fun base _ _ => ok_law T⟩
theorem walk {l : PySem.W.OpenLaw} {q : Program} {loose : List Str} {XP : (Str → Option Value) → Heap → Prop} {YP : World → Heap → Prop} {d : DefRec} {K : Params → PySem.W.Frag} (hn : l.most = some 63) (hdf : d.params.defaults = [])
    (hY : ∀ (w : World) (h : Heap), YP w h → (K w.params).In h)
    (F : ∀ (w : World) (mg : Str → Option Value) (fa : Addr) (h : Heap), (K w.params).In h → h.Ns mainGlobals mg → mg d.name = some (.ref fa) →
      ∃ fd : FuncData, (∀ (s : Shared) (u : Value), BindsTo s fd ⟨[u], []⟩ [("script", u)]) ∧ ∀ base : Heap, (K w.params).In base → base.Ns mainGlobals mg → FnOk l.prog w (K w.params) mg base CX0 9 fa fd ["script"] (sp_law (K w.params))) :
    PySem.W.WalkO q loose XP YP l.row.toRowW d [] (fun f vs => PySem.call f vs) :=
  L2.walk_of (n := 63) (k := 9) (x := "script") (CX := fun _ => CX0) (sp := fun w => sp_law (K w.params)) hn (by decide) hdf ⟨rfl, by decide, by decide⟩ hY F (fun _ _ a ns hl _ hS => ⟨a, ns, rfl, hS, hl, fun _ => rfl⟩) fun _ _ _ _ _ z => z
end Law
open PySem PySem.W PyProof.Rows
set_option maxRecDepth 100000 in
set_option maxHeartbeats 0 in
theorem PySem.Challenge.cw_beadhall_k09_unlike_bags_holds : PySem.Challenge.rw_beadhall_k09_unlike_bags.Holds := by
  w_on; o_law; k_head; (case hw => w_witness2)
  k_fill
  refine Law.walk (l := PySem.Challenge.rw_beadhall_k09_unlike_bags) rfl rfl (fun w h Y => PySem.W.kIn_of Y) ?F
  case F =>
    intro w mg fa h KX G hmg
    refine' Law.all_mk KX G hmg ?aC_HallError ?aC_Unlike ?aC_BadNet ?aC_BadText ?aC_NoGo ?aC_TooWide ?aC_BadAsk ?aC_BadPaper ?a_law_bag_of ?l_law_bag_of ?c_law_bag_of ?k_law_bag_of ?a_refuse_unlike ?l_refuse_unlike ?c_refuse_unlike ?k_refuse_unlike ?a_plus ?l_plus ?c_plus ?k_plus ?a_less ?l_less ?c_less ?k_less ?a_higher ?l_higher ?c_higher ?k_higher ?a_weighed ?l_weighed ?c_weighed ?k_weighed ?a_beneath ?l_beneath ?c_beneath ?k_beneath ?a_above ?l_above ?c_above ?k_above ?a_is_outermost ?l_is_outermost ?c_is_outermost ?k_is_outermost ?a_outermost ?l_outermost ?c_outermost ?k_outermost ?a_peaks ?l_peaks ?c_peaks ?k_peaks ?a_law_list_of ?l_law_list_of ?c_law_list_of ?k_law_list_of ?a_floors ?l_floors ?c_floors ?k_floors ?a_law_asked ?l_law_asked ?c_law_asked ?k_law_asked ?a_law_refused ?l_law_refused ?c_law_refused ?k_law_refused ?a_law ?l_law ?c_law ?k_law ?ec_HallError ?xp_HallError ?xga_HallError ?xgh_HallError ?xca_HallError ?xcg_HallError ?xck_HallError ?ec_Unlike ?xp_Unlike ?xga_Unlike ?xgh_Unlike ?xca_Unlike ?xcg_Unlike ?xck_Unlike ?ec_BadNet ?xp_BadNet ?xga_BadNet ?xgh_BadNet ?xca_BadNet ?xcg_BadNet ?xck_BadNet ?ec_BadText ?xga_BadText ?xgh_BadText ?xca_BadText ?xcg_BadText ?xck_BadText ?ec_NoGo ?xga_NoGo ?xgh_NoGo ?xca_NoGo ?xcg_NoGo ?xck_NoGo ?ec_TooWide ?xp_TooWide ?xga_TooWide ?xgh_TooWide ?xca_TooWide ?xcg_TooWide ?xck_TooWide ?ec_BadAsk ?xga_BadAsk ?xgh_BadAsk ?xca_BadAsk ?xcg_BadAsk ?xck_BadAsk ?ec_BadPaper ?xga_BadPaper ?xgh_BadPaper ?xca_BadPaper ?xcg_BadPaper ?xck_BadPaper ?ne_Unlike_HallError ?ne_BadNet_HallError ?ne_BadNet_Unlike ?ne_BadText_HallError ?ne_BadText_Unlike ?ne_BadText_BadNet ?ne_NoGo_HallError ?ne_NoGo_Unlike ?ne_NoGo_BadNet ?ne_NoGo_BadText ?ne_TooWide_HallError ?ne_TooWide_Unlike ?ne_TooWide_BadNet ?ne_TooWide_BadText ?ne_TooWide_NoGo ?ne_BadAsk_HallError ?ne_BadAsk_Unlike ?ne_BadAsk_BadNet ?ne_BadAsk_BadText ?ne_BadAsk_NoGo ?ne_BadAsk_TooWide ?ne_BadPaper_HallError ?ne_BadPaper_Unlike ?ne_BadPaper_BadNet ?ne_BadPaper_BadText ?ne_BadPaper_NoGo ?ne_BadPaper_TooWide ?ne_BadPaper_BadAsk ?z_range ?z_len ?z_zip ?z_max ?z_sum ?z_all ?z_list ?z_isinstance ?z_ValueError
    (case aC_HallError => k_is)
    (case aC_Unlike => k_is)
    (case aC_BadNet => k_is)
    (case aC_BadText => k_is)
    (case aC_NoGo => k_is)
    (case aC_TooWide => k_is)
    (case aC_BadAsk => k_is)
    (case aC_BadPaper => k_is)
    (case a_law_bag_of => k_is)
    (case l_law_bag_of => k_is)
    (case c_law_bag_of => k_is)
    (case k_law_bag_of => k_is)
    (case a_refuse_unlike => k_is)
    (case l_refuse_unlike => k_is)
    (case c_refuse_unlike => k_is)
    (case k_refuse_unlike => k_is)
    (case a_plus => k_is)
    (case l_plus => k_is)
    (case c_plus => k_is)
    (case k_plus => k_is)
    (case a_less => k_is)
    (case l_less => k_is)
    (case c_less => k_is)
    (case k_less => k_is)
    (case a_higher => k_is)
    (case l_higher => k_is)
    (case c_higher => k_is)
    (case k_higher => k_is)
    (case a_weighed => k_is)
    (case l_weighed => k_is)
    (case c_weighed => k_is)
    (case k_weighed => k_is)
    (case a_beneath => k_is)
    (case l_beneath => k_is)
    (case c_beneath => k_is)
    (case k_beneath => k_is)
    (case a_above => k_is)
    (case l_above => k_is)
    (case c_above => k_is)
    (case k_above => k_is)
    (case a_is_outermost => k_is)
    (case l_is_outermost => k_is)
    (case c_is_outermost => k_is)
    (case k_is_outermost => k_is)
    (case a_outermost => k_is)
    (case l_outermost => k_is)
    (case c_outermost => k_is)
    (case k_outermost => k_is)
    (case a_peaks => k_is)
    (case l_peaks => k_is)
    (case c_peaks => k_is)
    (case k_peaks => k_is)
    (case a_law_list_of => k_is)
    (case l_law_list_of => k_is)
    (case c_law_list_of => k_is)
    (case k_law_list_of => k_is)
    (case a_floors => k_is)
    (case l_floors => k_is)
    (case c_floors => k_is)
    (case k_floors => k_is)
    (case a_law_asked => k_is)
    (case l_law_asked => k_is)
    (case c_law_asked => k_is)
    (case k_law_asked => k_is)
    (case a_law_refused => k_is)
    (case l_law_refused => k_is)
    (case c_law_refused => k_is)
    (case k_law_refused => k_is)
    (case a_law => k_is)
    (case l_law => k_is)
    (case c_law => k_is)
    (case k_law => k_is)
    (case ec_HallError => kernel_rfl)
    (case xp_HallError => kernel_rfl)
    (case xga_HallError => k_is)
    (case xgh_HallError => k_is)
    (case xca_HallError => k_is)
    (case xcg_HallError => k_is)
    (case xck_HallError => k_is)
    (case ec_Unlike => kernel_rfl)
    (case xp_Unlike => kernel_rfl)
    (case xga_Unlike => k_is)
    (case xgh_Unlike => k_is)
    (case xca_Unlike => k_is)
    (case xcg_Unlike => k_is)
    (case xck_Unlike => k_is)
    (case ec_BadNet => kernel_rfl)
    (case xp_BadNet => kernel_rfl)
    (case xga_BadNet => k_is)
    (case xgh_BadNet => k_is)
    (case xca_BadNet => k_is)
    (case xcg_BadNet => k_is)
    (case xck_BadNet => k_is)
    (case ec_BadText => kernel_rfl)
    (case xga_BadText => k_is)
    (case xgh_BadText => k_is)
    (case xca_BadText => k_is)
    (case xcg_BadText => k_is)
    (case xck_BadText => k_is)
    (case ec_NoGo => kernel_rfl)
    (case xga_NoGo => k_is)
    (case xgh_NoGo => k_is)
    (case xca_NoGo => k_is)
    (case xcg_NoGo => k_is)
    (case xck_NoGo => k_is)
    (case ec_TooWide => kernel_rfl)
    (case xp_TooWide => kernel_rfl)
    (case xga_TooWide => k_is)
    (case xgh_TooWide => k_is)
    (case xca_TooWide => k_is)
    (case xcg_TooWide => k_is)
    (case xck_TooWide => k_is)
    (case ec_BadAsk => kernel_rfl)
    (case xga_BadAsk => k_is)
    (case xgh_BadAsk => k_is)
    (case xca_BadAsk => k_is)
    (case xcg_BadAsk => k_is)
    (case xck_BadAsk => k_is)
    (case ec_BadPaper => kernel_rfl)
    (case xga_BadPaper => k_is)
    (case xgh_BadPaper => k_is)
    (case xca_BadPaper => k_is)
    (case xcg_BadPaper => k_is)
    (case xck_BadPaper => k_is)
    (case ne_Unlike_HallError => decide)
    (case ne_BadNet_HallError => decide)
    (case ne_BadNet_Unlike => decide)
    (case ne_BadText_HallError => decide)
    (case ne_BadText_Unlike => decide)
    (case ne_BadText_BadNet => decide)
    (case ne_NoGo_HallError => decide)
    (case ne_NoGo_Unlike => decide)
    (case ne_NoGo_BadNet => decide)
    (case ne_NoGo_BadText => decide)
    (case ne_TooWide_HallError => decide)
    (case ne_TooWide_Unlike => decide)
    (case ne_TooWide_BadNet => decide)
    (case ne_TooWide_BadText => decide)
    (case ne_TooWide_NoGo => decide)
    (case ne_BadAsk_HallError => decide)
    (case ne_BadAsk_Unlike => decide)
    (case ne_BadAsk_BadNet => decide)
    (case ne_BadAsk_BadText => decide)
    (case ne_BadAsk_NoGo => decide)
    (case ne_BadAsk_TooWide => decide)
    (case ne_BadPaper_HallError => decide)
    (case ne_BadPaper_Unlike => decide)
    (case ne_BadPaper_BadNet => decide)
    (case ne_BadPaper_BadText => decide)
    (case ne_BadPaper_NoGo => decide)
    (case ne_BadPaper_TooWide => decide)
    (case ne_BadPaper_BadAsk => decide)
    (case z_range => k_is)
    (case z_len => k_is)
    (case z_zip => k_is)
    (case z_max => k_is)
    (case z_sum => k_is)
    (case z_all => k_is)
    (case z_list => k_is)
    (case z_isinstance => k_is)
    (case z_ValueError => k_is)
