import PyProof.Rows.All
import Wide.All
import OpenK.AllK
import Wide.FinOn
import Lean
import PyProof.EqAt
import PyProof.EqKinds
import PyProof.TupleCall
import OpenK.ZGo
import PySem.Challenge.RW_beadhall_k86_well_made
set_option Elab.async false
set_option linter.all false
set_option maxRecDepth 100000
namespace L2
open PySem PySem.Spec PyProof.Rows

/-- a key: an int or a str -/
abbrev Key := Sum Int Str
def keyIs : Key → Value → Bool
  | .inl k, v => Value.isInt k v
  | .inr x, v => Value.isStrOf x v
def keyH (w : World) : Key → Int
  | .inl k => hashInt k
  | .inr x => hashStr w x
theorem keyIs_shape : ∀ {k : Key} {v : Value}, keyIs k v = true → (∃ i t, k = Sum.inl i ∧ v = Value.int i t) ∨ (∃ x t, k = Sum.inr x ∧ v = Value.str x t)
  | .inl i, v, h => by
    obtain ⟨t, e⟩ := Value.isInt_shape (k := i) (v := v) h
    exact .inl ⟨i, t, rfl, e⟩
  | .inr x, v, h => by
    obtain ⟨t, e⟩ := Value.isStrOf_shape (x := x) (v := v) h
    exact .inr ⟨x, t, rfl, e⟩
theorem keyIs_str (x : Str) (t : Tok) : keyIs (.inr x) (.str x t) = true := by simp [keyIs, Value.isStrOf]
theorem key_ll (a b : Int) : decide ((Sum.inl a : Key) = Sum.inl b) = (a == b) := by
  by_cases e : a = b
  · subst e; simp
  · have h : ¬ (Sum.inl a : Key) = Sum.inl b := fun q => e (Sum.inl.inj q)
    rw [decide_eq_false h]
    exact (beq_eq_false_iff_ne.mpr e).symm
theorem key_rr (a b : Str) : decide ((Sum.inr a : Key) = Sum.inr b) = decide (a = b) := by
  by_cases e : a = b
  · subst e; simp
  · have h : ¬ (Sum.inr a : Key) = Sum.inr b := fun q => e (Sum.inr.inj q)
    rw [decide_eq_false h, decide_eq_false e]
theorem key_lr (a : Int) (b : Str) : decide ((Sum.inl a : Key) = Sum.inr b) = false := decide_eq_false (fun q => nomatch q)
theorem key_rl (a : Str) (b : Int) : decide ((Sum.inr a : Key) = Sum.inl b) = false := decide_eq_false (fun q => nomatch q)

def mixKind (prog : Program) (w : World) : PySem.KeyKind prog w Key where
  is := keyIs
  hash := keyH w
  inj := fun v a b ha hb => by
    rcases keyIs_shape ha with ⟨i, t, rfl, rfl⟩ | ⟨x, t, rfl, rfl⟩
    · rcases keyIs_shape hb with ⟨j, u, rfl, e⟩ | ⟨y, u, rfl, e⟩
      · injection e with e1 _; rw [e1]
      · exact nomatch e
    · rcases keyIs_shape hb with ⟨j, u, rfl, e⟩ | ⟨y, u, rfl, e⟩
      · exact nomatch e
      · injection e with e1 _; rw [e1]
  byValue := fun k v h => by
    rcases keyIs_shape h with ⟨i, t, rfl, rfl⟩ | ⟨x, t, rfl, rfl⟩ <;> rfl
  pyHash := fun hv h => by
    rcases keyIs_shape hv with ⟨i, t, rfl, rfl⟩ | ⟨x, t, rfl, rfl⟩
    · exact wpAny_pyHash_int h
    · exact wpAny_pyHash_str h
  eqBool := fun hu hv h => by
    rcases keyIs_shape hu with ⟨i, t, rfl, rfl⟩ | ⟨x, t, rfl, rfl⟩
    · rcases keyIs_shape hv with ⟨j, u, rfl, rfl⟩ | ⟨y, u, rfl, rfl⟩
      · rw [key_ll] at h; exact wpAny_eqBool_int h
      · rw [key_lr] at h; exact SeqAt.EqAt.int_str i t y u _ _ _ _ h
    · rcases keyIs_shape hv with ⟨j, u, rfl, rfl⟩ | ⟨y, u, rfl, rfl⟩
      · rw [key_rl] at h; exact SeqAt.EqAt.str_int x t j u _ _ _ _ h
      · rw [key_rr] at h; exact wpAny_eqBool_str h
  «strs» := fun k x t v h => by
    rcases keyIs_shape h with ⟨i, u, rfl, e⟩ | ⟨y, u, rfl, e⟩
    · exact nomatch e
    · injection e with e1 _
      subst e1
      cases v <;> rfl

theorem mixKind_str (prog : Program) (w : World) (x : Str) (t : Tok) : (mixKind prog w).is (.inr x) (.str x t) = true := keyIs_str x t
end L2

namespace L2
open PySem PySem.Spec PyProof.Rows

/-- a value, without the heap -/
inductive V where
  | non | bl (b : Bool) | int (i : Int) | str (x : Str) | byt (b : Array UInt8) | flt (b : UInt64) | ref (a : Addr) | ty (n : String)
  deriving DecidableEq

def RelV : V → Value → Prop
  | .non, u => u = Value.none
  | .bl b, u => u = Value.bool b
  | .int i, u => ∃ t, u = Value.int i t
  | .str x, u => ∃ t, u = Value.str x t
  | .byt b, u => ∃ t, u = Value.bytes b t
  | .flt b, u => ∃ t, u = Value.float b t
  | .ref a, u => u = Value.ref a
  | .ty n, u => u = Value.type n

abbrev Vals : List V → List Value → Prop := Paired RelV
theorem Vals.length {xs : List V} {us : List Value} (r : Vals xs us) : xs.length = us.length := Paired.length r
theorem Vals.get : ∀ {xs : List V} {us : List Value} {i : Nat} {x : V}, Vals xs us → xs[i]? = some x → ∃ u, us[i]? = some u ∧ RelV x u
  | _, _, _, _, .nil, e => by simp at e
  | _, _, 0, _, .cons r _, e => by simp at e; subst e; exact ⟨_, rfl, r⟩
  | _, _, i + 1, x, .cons _ t, e => by
    obtain ⟨u, h1, h2⟩ := Vals.get (i := i) (x := x) t (by simpa using e)
    exact ⟨u, by simpa using h1, h2⟩
theorem Vals.set {x : V} {u : Value} (r : RelV x u) : ∀ {xs : List V} {us : List Value} (i : Nat), Vals xs us → Vals (xs.set i x) (us.set i u)
  | _, _, _, .nil => .nil
  | _, _, 0, .cons _ t => .cons r t
  | _, _, i + 1, .cons q t => .cons q (Vals.set r i t)
theorem Vals.append : ∀ {xs ys : List V} {us ws : List Value}, Vals xs us → Vals ys ws → Vals (xs ++ ys) (us ++ ws)
  | _, _, _, _, .nil, s => s
  | _, _, _, _, .cons r t, s => .cons r (Vals.append t s)
theorem Vals.take : ∀ {xs : List V} {us : List Value} (n : Nat), Vals xs us → Vals (xs.take n) (us.take n)
  | _, _, 0, _ => .nil
  | _, _, _ + 1, .nil => .nil
  | _, _, n + 1, .cons r t => .cons r (Vals.take n t)
theorem Vals.drop : ∀ {xs : List V} {us : List Value} (n : Nat), Vals xs us → Vals (xs.drop n) (us.drop n)
  | _, _, 0, r => r
  | _, _, _ + 1, .nil => .nil
  | _, _, n + 1, .cons _ t => Vals.drop n t
def RelO : Option V → Option Value → Prop
  | some v, some u => RelV v u
  | none, none => True
  | _, _ => False
def KV {κ : Type} : List (κ × V) → List (κ × Value) → Prop := Paired fun (p : κ × V) (q : κ × Value) => p.1 = q.1 ∧ RelV p.2 q.2

/-- a key of a dict (00_mix): an int or a text -/
def kV : Key → V
  | .inl i => .int i
  | .inr x => .str x

/-- what stands at a tracked address -/
inductive HO where
  /-- a list -/
  | lst (xs : List V)
  /-- a tuple (never changes) -/
  | tup (xs : List V)
  /-- a dict whose keys are ints and texts; one whose keys are tuples of ints and texts (the empty one is both) -/
  | dK (kvs : List (Key × V)) | dT (kvs : List (List Key × V))
  /-- a set of ints: its members, its size -/
  | set (S : Int → Bool) (n : Nat)
  /-- an instance of the class at C, its dict at dx, its attributes -/
  | ins (C dx : Addr) (fs : List (Str × V))
  /-- the dict of the instance at x -/
  | own (x : Addr)
  /-- the dict of an exception -/
  | xd (fs : List (Str × V))
  /-- a bound method, f of x -/
  | met (f x : Addr)
  /-- a range object lo, lo + 1, .. below hi -/
  | rng (lo hi : Int)
  /-- a thing that is known to the object (the script; a dict while a loop walks it): read, never written while it is so -/
  | frz (o : Obj) (u : HO)
  /-- a code object's table -/
  | tbl (ps : Array Value)
  /-- any other thing, by what is true of its one object (a def of one's own: SetO a S n := HO.ext fun h => ..) -/
  | ext (φ : Heap → Prop)

abbrev Hp := Addr → Option HO
def upd (H : Hp) (a : Addr) (o : HO) : Hp := fun b => if b = a then some o else H b
theorem upd_same {H : Hp} {a : Addr} {o : HO} : upd H a o a = some o := by unfold upd; rw [if_pos rfl]
theorem upd_ne {H : Hp} {a b : Addr} {o : HO} (h : b ≠ a) : upd H a o b = H b := by unfold upd; rw [if_neg h]
/-- two objects of different content stand apart -/
theorem ne_of {H : Hp} {a b : Addr} {o u : HO} (h : H a = some o) (h' : H b = some u) (d : o ≠ u) : a ≠ b := by
  intro e; subst e; rw [h] at h'; exact d (Option.some.inj h')
theorem ne_of_none {H : Hp} {a b : Addr} {o : HO} (h : H a = some o) (h' : H b = none) : a ≠ b := by
  intro e; subst e; rw [h] at h'; cases h'

section
variable (P : Program) (w : World)
def ObjOk (H : Hp) (h : Heap) (a : Addr) : HO → Prop
  | .lst xs => xs.length ≤ sizeLine ∧ ∃ (its : List Value) (n : Nat), Vals xs its ∧ h.get? a = some { cls := .type "list", data := .seq its.toArray n }
  | .tup xs => xs.length ≤ sizeLine ∧ ∃ its : List Value, Vals xs its ∧ IsTup h a its.toArray
  | .dK kvs => kvs.length ≤ sizeLine ∧ (a == sysModules) = false ∧ ∃ vs, KV kvs vs ∧ h.DictOf (mixKind P w) a vs
  | .dT kvs => kvs.length ≤ sizeLine ∧ (a == sysModules) = false ∧ ∃ xs : List (List Key × Addr × Value),
      Paired (fun (p : List Key × V) (q : List Key × Addr × Value) => p.1 = q.1 ∧ H q.2.1 = some (.tup (p.1.map kV)) ∧ RelV p.2 q.2.2) kvs xs ∧
      ∃ o es ep, h.get? a = some o ∧ o.ExactDict ∧ o.data = .dict es ep ∧ es.toList = xs.map (entryOfKey (tupleKind (mixKind P w))) ∧ (xs.map (·.1)).Nodup
  | .set S n => h.SetOf (intKind P w) a S n
  | .ins C dx fs => H dx = some (.own a) ∧ fs.length ≤ 1000 ∧ dx ≠ a ∧ h.get? a = some (PySem.W.instObj C dx) ∧
      ∃ mA, h.Ns1 dx mA ∧ (∀ f, RelO (fs.lookup f) (mA f)) ∧ PySem.Within mA (fs.map (·.1))
  | .own _ => ∃ o, h.get? a = some o
  | .xd fs => ∃ mA, h.Ns1 a mA ∧ ∀ f, RelO (fs.lookup f) (mA f)
  | .rng lo hi => ∃ t u v, h.get? a = some { cls := .type "range", data := .fields #[.int lo t, .int hi u, .int 1 v] }
  | .frz o u => h.get? a = some o ∧ ObjOk H h a u
  | .tbl ps => h.get? a = some { cls := .none, data := .fields ps }
  | .met f x => h.get? a = some (PySem.W.methodObj (.ref f) (.ref x))
  | .ext φ => φ h ∧ (∃ o, h.get? a = some o) ∧ ∀ h1 h2 : Heap, φ h1 → (∀ o, h1.get? a = some o → h2.get? a = some o) → φ h2
/-- the abstract heap is held -/
def HOk (H : Hp) (h : Heap) : Prop := ∀ a o, H a = some o → ObjOk P w H h a o
end

section
variable {P : Program} {w : World} {H H' : Hp} {h h' : Heap} {a : Addr} {o : HO}
theorem ObjOk.lt (x : ObjOk P w H h a o) : a < h.objs.size := by
  cases o with
  | lst xs => obtain ⟨_, _, _, _, e⟩ := x; exact Heap.lt_size e
  | tup xs => obtain ⟨_, _, _, p⟩ := x; exact p.lt
  | dK kvs => obtain ⟨_, _, _, _, o, _, _, e, _⟩ := x; exact Heap.lt_size e
  | dT kvs => obtain ⟨_, _, _, _, o, _, _, e, _⟩ := x; exact Heap.lt_size e
  | set S n => obtain ⟨o, _, _, _, e, _⟩ := x; exact Heap.lt_size e
  | ins C dx fs => obtain ⟨_, _, _, e, _⟩ := x; exact Heap.lt_size e
  | own y => obtain ⟨_, e⟩ := x; exact Heap.lt_size e
  | xd fs => obtain ⟨_, ⟨_, _, _, e, _⟩, _⟩ := x; exact Heap.lt_size e
  | rng lo hi => obtain ⟨_, _, _, e⟩ := x; exact Heap.lt_size e
  | frz ob u => obtain ⟨e, _⟩ := x; exact Heap.lt_size e
  | tbl ps => exact Heap.lt_size (show h.get? a = some _ from x)
  | met f y => exact Heap.lt_size (show h.get? a = some _ from x)
  | ext φ => obtain ⟨_, ⟨_, e⟩, _⟩ := x; exact Heap.lt_size e
theorem Paired.mapP {α β : Type} {F G : α → β → Prop} : ∀ {l₁ : List α} {l₂ : List β}, Paired F l₁ l₂ → (∀ a b, F a b → G a b) → Paired G l₁ l₂
  | _, _, .nil, _ => .nil
  | _, _, .cons r t, f => .cons (f _ _ r) (Paired.mapP t f)
/-- what an object's description leans on: its own object, its own dict, the tuples -/
theorem ObjOk.stay (x : ObjOk P w H h a o) (k : ∀ b u, (b = a ∨ H b = some (.own a)) → h.get? b = some u → h'.get? b = some u)
    (ho : ∀ b, H b = some (.own a) → H' b = some (.own a)) (ht : ∀ b xs, H b = some (.tup xs) → H' b = some (.tup xs)) : ObjOk P w H' h' a o := by
  induction o with
  | lst xs => obtain ⟨z, its, n, r, e⟩ := x; exact ⟨z, its, n, r, k _ _ (.inl rfl) e⟩
  | tup xs => obtain ⟨z, its, r, ob, e, c⟩ := x; exact ⟨z, its, r, ob, k _ _ (.inl rfl) e, c⟩
  | dK kvs => obtain ⟨z, y, vs, r, ob, es, ep, e, c⟩ := x; exact ⟨z, y, vs, r, ob, es, ep, k _ _ (.inl rfl) e, c⟩
  | dT kvs =>
    obtain ⟨z, y, xs, r, ob, es, ep, e, c⟩ := x
    exact ⟨z, y, xs, Paired.mapP r fun p q z => ⟨z.1, ht _ _ z.2.1, z.2.2⟩, ob, es, ep, k _ _ (.inl rfl) e, c⟩
  | set S n => obtain ⟨ob, es, ep, t, e, c⟩ := x; exact ⟨ob, es, ep, t, k _ _ (.inl rfl) e, c⟩
  | ins C dx fs =>
    obtain ⟨d, z, ne, e, mA, ⟨od, es, ep, e2, c⟩, r⟩ := x
    exact ⟨ho _ d, z, ne, k _ _ (.inl rfl) e, mA, ⟨od, es, ep, k _ _ (.inr d) e2, c⟩, r⟩
  | own y => obtain ⟨ob, e⟩ := x; exact ⟨ob, k _ _ (.inl rfl) e⟩
  | xd fs => obtain ⟨mA, ⟨od, es, ep, e, c⟩, r⟩ := x; exact ⟨mA, ⟨od, es, ep, k _ _ (.inl rfl) e, c⟩, r⟩
  | rng lo hi => obtain ⟨t, u, v, e⟩ := x; exact ⟨t, u, v, k _ _ (.inl rfl) e⟩
  | frz ob u ih => obtain ⟨e, q⟩ := x; exact ⟨k _ _ (.inl rfl) e, ih q⟩
  | tbl ps =>
    have e : h.get? a = some { cls := .none, data := .fields ps } := x
    show h'.get? a = some { cls := .none, data := .fields ps }
    exact k a _ (.inl rfl) e
  | met f y =>
    have e : h.get? a = some (PySem.W.methodObj (.ref f) (.ref y)) := x
    show h'.get? a = some (PySem.W.methodObj (.ref f) (.ref y))
    exact k a _ (.inl rfl) e
  | ext φ => obtain ⟨p, ⟨o, e⟩, st⟩ := x; exact ⟨st _ _ p fun o q => k _ _ (.inl rfl) q, ⟨o, k _ _ (.inl rfl) e⟩, st⟩
theorem HOk.lt (x : HOk P w H h) (e : H a = some o) : a < h.objs.size := (x a o e).lt
theorem HOk.fresh (x : HOk P w H h) (e : h.objs.size ≤ a) : H a = none := by
  cases q : H a with
  | none => rfl
  | some u => exact absurd (Nat.lt_of_lt_of_le (x.lt q) e) (Nat.lt_irrefl _)
/-- every object of the heap is kept -/
theorem HOk.kept (x : HOk P w H h) (k : ∀ b u, h.get? b = some u → h'.get? b = some u) : HOk P w H h' := fun a o e =>
  (x a o e).stay (fun b u _ q => k b u q) (fun _ q => q) fun _ _ q => q
/-- a new object is laid and tracked -/
theorem HOk.laid (x : HOk P w H h) (k : ∀ b u, h.get? b = some u → h'.get? b = some u) (hp : h.objs.size ≤ a) (new : ObjOk P w (upd H a o) h' a o) : HOk P w (upd H a o) h' := fun b u e => by
  have hn := x.fresh hp
  by_cases hb : b = a
  · subst hb; rw [upd_same] at e; cases e; exact new
  · rw [upd_ne hb] at e
    exact (x b u e).stay (fun c v _ q => k c v q) (fun c q => by rw [upd_ne (ne_of_none q hn)]; exact q) fun c xs q => by rw [upd_ne (ne_of_none q hn)]; exact q
end

/-- what may be read as u: it is u, or a known u -/
def Rd (H : Hp) (a : Addr) (u : HO) : Prop := H a = some u ∨ ∃ o, H a = some (.frz o u)
theorem Rd.of {H : Hp} {a : Addr} {u : HO} (h : H a = some u) : Rd H a u := .inl h
theorem Rd.ok {P : Program} {w : World} {H : Hp} {h : Heap} {a : Addr} {u : HO} (r : Rd H a u) (x : HOk P w H h) : ObjOk P w H h a u := by
  rcases r with r | ⟨o, r⟩
  · exact x a u r
  · obtain ⟨_, q⟩ := x a _ r
    exact q
/-- what may be written -/
def Mut : Option HO → Prop
  | some (.lst _) => True
  | some (.dK _) => True
  | some (.dT _) => True
  | some (.set _ _) => True
  | some (.ins _ _ _) => True
  | some (.ext _) => True
  | _ => False
section
variable {P : Program} {w : World} {H : Hp} {h h' : Heap} {x e : Addr} {o' : HO}
/-- the object at e is changed: x itself, or the dict of the instance x -/
theorem HOk.write (ok : HOk P w H h) (mu : Mut (H x)) (he : e = x ∨ H e = some (.own x)) (k : ∀ b u, b ≠ e → h.get? b = some u → h'.get? b = some u) (heo : ∃ u, h'.get? e = some u)
    (new : ObjOk P w (upd H x o') h' x o') : HOk P w (upd H x o') h' := fun b u q => by
  have nown : ∀ c y, H c = some (.own y) → c ≠ x := fun c y r z => by subst z; rw [r] at mu; exact mu
  have ntup : ∀ c xs, H c = some (.tup xs) → c ≠ x := fun c xs r z => by subst z; rw [r] at mu; exact mu
  by_cases hb : b = x
  · subst hb; rw [upd_same] at q; cases q; exact new
  · rw [upd_ne hb] at q
    by_cases hbe : b = e
    · have q' : H b = some (.own x) := by
        rcases he with z | z
        · exact absurd (hbe.trans z) hb
        · rw [hbe]; exact z
      rw [q] at q'; cases q'
      obtain ⟨v, hv⟩ := heo
      exact ⟨v, by rw [hbe]; exact hv⟩
    · refine (ok b u q).stay (fun c v hc r => k c v ?_ r) (fun c r => by rw [upd_ne (nown c b r)]; exact r) fun c xs r => by rw [upd_ne (ntup c xs r)]; exact r
      rcases hc with rfl | hc
      · exact hbe
      · rintro rfl
        rcases he with z | z
        · exact nown c b hc z
        · rw [hc] at z; cases z; exact hb rfl
end

structure Un (fs ex : List Addr) (H H' : Hp) (h h' : Heap) : Prop where
  keep : ∀ b o, h.get? b = some o → H b = none → b ∉ fs → b ∉ ex → h'.get? b = some o
  slot : ∀ b o, h.get? b = some o → H b = none → b ∈ fs → b ∉ ex → ∃ sl, h'.get? b = some { o with slots := sl }
  free : ∀ b o, h.get? b = some o → H b = none → b ∉ ex → H' b = none
  there : ∀ b o, h.get? b = some o → b ∉ ex → ∃ o', h'.get? b = some o'
  tups : ∀ b xs, H b = some (.tup xs) → H' b = some (.tup xs)
  frzs : ∀ b o u, H b = some (.frz o u) → H' b = some (.frz o u)
  tbls : ∀ b ps, H b = some (.tbl ps) → ∃ more, H' b = some (.tbl (ps ++ more))
section
variable {fs fs' ex ex' : List Addr} {H H1 H2 : Hp} {h h1 h2 h' : Heap} {a x e : Addr} {o : HO}
theorem Un.any (u : Un fs ex H H1 h h1) {b : Addr} {ob : Obj} (q : h.get? b = some ob) (n : H b = none) (hx : b ∉ ex) : ∃ sl, h1.get? b = some { ob with slots := sl } := by
  by_cases hb : b ∈ fs
  · exact u.slot b ob q n hb hx
  · exact ⟨ob.slots, u.keep b ob q n hb hx⟩
theorem Un.kept (k : ∀ b u, h.get? b = some u → h'.get? b = some u) : Un fs ex H H h h' :=
  ⟨fun b ob q _ _ _ => k b ob q, fun b ob q _ _ _ => ⟨ob.slots, k b ob q⟩, fun _ _ _ n _ => n, fun b ob q _ => ⟨ob, k b ob q⟩, fun _ _ q => q, fun _ _ _ q => q, fun _ ps q => ⟨#[], by rw [q]; simp⟩⟩
theorem Un.refl : Un fs ex H H h h := Un.kept fun _ _ q => q
theorem Un.laid (k : ∀ b u, h.get? b = some u → h'.get? b = some u) (hp : h.objs.size ≤ a) (hn : H a = none) : Un fs ex H (upd H a o) h h' where
  keep := fun b u q _ _ _ => k b u q
  slot := fun b u q _ _ _ => ⟨u.slots, k b u q⟩
  free := fun b u q n _ => by rw [upd_ne (Nat.ne_of_lt (Nat.lt_of_lt_of_le (Heap.lt_size q) hp))]; exact n
  there := fun b u q _ => ⟨u, k b u q⟩
  tups := fun b xs q => by rw [upd_ne (ne_of_none q hn)]; exact q
  frzs := fun b u xs q => by rw [upd_ne (ne_of_none q hn)]; exact q
  tbls := fun b ps q => ⟨#[], by rw [upd_ne (ne_of_none q hn), q]; simp⟩
theorem Un.write (mu : Mut (H x)) (he : e = x ∨ H e = some (.own x)) (k : ∀ b u, b ≠ e → h.get? b = some u → h'.get? b = some u) (heo : ∃ u, h'.get? e = some u) : Un fs ex H (upd H x o) h h' := by
  have hx : ∀ b, H b = none → b ≠ x := fun b n z => by subst z; rw [n] at mu; exact mu
  have hb : ∀ b, H b = none → b ≠ e := fun b n z => by
    subst z
    rcases he with r | r
    · exact hx b n r
    · rw [n] at r; cases r
  have hm : ∀ b u, H b = some u → ¬ Mut (some u) → b ≠ x := fun b u q nm z => by subst z; rw [q] at mu; exact nm mu
  refine ⟨fun b u q n _ _ => k b u (hb b n) q, fun b u q n _ _ => ⟨u.slots, k b u (hb b n) q⟩, fun b u q n _ => by rw [upd_ne (hx b n)]; exact n, fun b u q _ => ?_,
    fun b xs q => by rw [upd_ne (hm b _ q fun z => z)]; exact q, fun b u xs q => by rw [upd_ne (hm b _ q fun z => z)]; exact q, fun b ps q => ⟨#[], by rw [upd_ne (hm b _ q fun z => z), q]; simp⟩⟩
  by_cases hbe : b = e
  · subst hbe; exact heo
  · exact ⟨u, k b u hbe q⟩
end

def trk (h : Heap) (H : Hp) : List Addr := (List.range h.objs.size).filter fun a => (H a).isSome
def hidT (h : Heap) (H : Hp) : Heap := PySem.W.hideAll h (trk h H)
theorem hidT_size (h : Heap) (H : Hp) : (hidT h H).objs.size = h.objs.size := PySem.W.hideAll_size _ _
theorem hidT_get {h : Heap} {H : Hp} {b : Addr} {o : Obj} (e : h.get? b = some o) (n : H b = none) : (hidT h H).get? b = some o :=
  PySem.W.hideAll_get _ e fun hm => by
    have q : (H b).isSome = true := (List.mem_filter.mp hm).2
    rw [n] at q; simp at q
theorem of_hidT {h : Heap} {H : Hp} {b : Addr} {o : Obj} (e : (hidT h H).get? b = some o) : h.get? b = some o ∧ H b = none := by
  have e' : h.get? b = some o := PySem.W.of_hideAll (trk h H) e
  refine ⟨e', ?_⟩
  cases q : H b with
  | none => rfl
  | some x =>
    have hm : b ∈ trk h H := List.mem_filter.mpr ⟨List.mem_range.mpr (Heap.lt_size e'), by simp [q]⟩
    have z : (hidT h H).get? b = none := PySem.W.hideAll_none (trk h H) hm
    rw [z] at e; cases e

end L2

namespace L2
open PySem PySem.Spec PyProof.Rows

/-- the module's facts, over the base: the heap at the law's entry without what is tracked there -/
structure Mod (K : PySem.W.Frag) (mg : Str → Option Value) (base : Heap) : Prop where
  kin : K.In base
  glob : base.Ns mainGlobals mg
  blt : ∃ mb, base.Ns builtinsNs mb ∧ ∀ x : Str, x ≠ "__name__" → mb x = bootBuiltins x
  nolimit : base.NoLimit

/-- the context: a def's body (or a comprehension's block) running. base: fixed through the whole law; s₀, H₀: the entry; outer: the frames whose slots others may change (a def's callers); stack: all frames that run;
   ex: iterators that were made ahead of the entry and are walked here (a comprehension's); fn: the names whose cells were made at the entry (a def: all; a comprehension's block: its own); calm: not within an except suite; pn: pins that every state bears; xe: what is wanted of an exception that leaves the code -/
structure Cx where
  prog : Program
  w : World
  K : PySem.W.Frag
  mg : Str → Option Value
  base : Heap
  A : Around
  N : List Str
  s₀ : Shared
  H₀ : Hp
  env : Env
  outer : List Env
  stack : List Env
  ex : List Addr
  fn : Str → Bool
  calm : Bool
  pn : List (Addr × Obj)
  xe : Value → Shared → Prop
/-- the callers' frames -/
def frs (l : List Env) : List Addr := l.filterMap (·.frame)
abbrev Cx.fs (X : Cx) : List Addr := frs X.outer

def Vis (sc : Scope) (x : Str) : Prop := sc.names.lookup x = some .local ∨ sc.names.lookup x = some .cell ∨ sc.names.lookup x = some .free
def Loc (sc : Scope) (x : Str) : Prop := sc.names.lookup x = some .local ∨ sc.names.lookup x = some .cell
def Look (env : Env) (h : Heap) (m : Str → Option Value) (x : Str) (u : Value) : Prop :=
  (env.kindOf x = some .local ∧ m x = some u) ∨ ((env.kindOf x = some .cell ∨ env.kindOf x = some .free) ∧ ∃ c, env.cells.lookup x = some c ∧ h.IsCell c (some u))

structure Cx.Ok (X : Cx) : Prop where
  mod : Mod X.K X.mg X.base
  kind : X.env.scope.kind = .function
  glob : X.env.globals = mainGlobals
  blt : X.env.builtins = builtinsNs
  above : X.s₀.heap.objs.size ≤ X.env.locals
  inj : ∀ x y c, X.env.cells.lookup x = some c → X.env.cells.lookup y = some c → x = y
  has : ∀ x, (X.env.kindOf x = some .cell ∨ X.env.kindOf x = some .free) → ∃ c, X.env.cells.lookup x = some c
  cab : ∀ x c, X.fn x = true → X.env.cells.lookup x = some c → X.s₀.heap.objs.size ≤ c
  hd : X.calm = true → X.A.handled = none
  frames : X.A.frames = some X.stack
  stk : X.stack = X.outer ∨ (X.stack = X.env :: X.outer ∧ X.env.frame = some X.env.locals)
  exf : ∀ b ∈ X.ex, b ≠ X.env.locals ∧ ∀ x c, X.env.cells.lookup x = some c → c ≠ b
  bs : ∀ b o, X.base.get? b = some o → X.s₀.heap.get? b = some o ∧ X.H₀ b = none
  bsz : X.base.objs.size ≤ X.s₀.heap.objs.size
  noex : ∀ b o, X.base.get? b = some o → b ∉ X.ex
  exfs : ∀ b ∈ X.ex, b ∉ X.fs
  funs : X.s₀.heap.FunFrames X.base X.outer
  frf : ∀ b ∈ X.fs, X.H₀ b = none

structure Inv (X : Cx) (pins : List (Addr × Obj)) (σ : List (Option V)) (H : Hp) (s : Shared) : Prop where
  ok : X.Ok
  os : s.os = X.s₀.os
  bare : AllBare s.gens
  base : Un X.fs X.ex X.H₀ H X.s₀.heap s.heap
  loc : ∃ m, s.heap.Ns X.env.locals m ∧ ∀ (i : Nat) (x : Str) (v : V), X.N[i]? = some x → σ[i]? = some (some v) → Vis X.env.scope x → ∃ u, RelV v u ∧ Look X.env s.heap m x u
  cell : ∀ x c, X.env.cells.lookup x = some c → ∃ v, s.heap.IsCell c v
  free : H X.env.locals = none
  freeC : ∀ x c, X.env.cells.lookup x = some c → H c = none
  pin : ∀ p ∈ X.pn ++ pins, s.heap.get? p.1 = some p.2 ∧ H p.1 = none ∧ p.1 ≠ X.env.locals ∧ p.1 ∉ X.fs ∧ ∀ v, p.2.data ≠ .cell v
  hok : HOk X.prog X.w H s.heap
  len : σ.length = X.N.length

section
variable {X : Cx} {pins : List (Addr × Obj)} {σ : List (Option V)} {H H' : Hp} {s : Shared} {h' : Heap}

theorem Cx.Ok.nofr (ok : X.Ok) {b : Addr} {o : Obj} (e : X.base.get? b = some o) : b ∉ X.fs := fun hb => by
  have := (ok.funs.mem hb).1
  rw [e] at this; cases this
theorem Inv.bs (I : Inv X pins σ H s) : ∀ b o, X.base.get? b = some o → s.heap.get? b = some o ∧ H b = none := fun b o e =>
  ⟨I.base.keep b o (I.ok.bs b o e).1 (I.ok.bs b o e).2 (I.ok.nofr e) (I.ok.noex b o e), I.base.free b o (I.ok.bs b o e).1 (I.ok.bs b o e).2 (I.ok.noex b o e)⟩
theorem Inv.bk (I : Inv X pins σ H s) : ∀ b o, X.base.get? b = some o → s.heap.get? b = some o := fun b o e => (I.bs b o e).1
theorem Inv.mod (I : Inv X pins σ H s) : Mod X.K X.mg X.base := I.ok.mod
theorem Inv.kIn (I : Inv X pins σ H s) : X.K.In s.heap := I.ok.mod.kin.keeps I.bk
theorem Inv.lt (I : Inv X pins σ H s) : X.env.locals < s.heap.objs.size := let ⟨_, hn, _⟩ := I.loc; hn.lt
theorem Inv.sz (I : Inv X pins σ H s) : X.s₀.heap.objs.size ≤ s.heap.objs.size := Nat.le_trans I.ok.above (Nat.le_of_lt I.lt)
theorem Inv.nofs (I : Inv X pins σ H s) {a : Addr} (h : s.heap.objs.size ≤ a) : a ∉ X.fs := fun hb => by
  obtain ⟨_, o, ho, _⟩ := I.ok.funs.mem hb
  exact absurd (Nat.lt_of_lt_of_le (Heap.lt_size ho) (Nat.le_trans I.sz h)) (Nat.lt_irrefl _)
theorem Inv.cne (I : Inv X pins σ H s) : ∀ x c, X.env.cells.lookup x = some c → c ≠ X.env.locals := fun x c e z => by
  obtain ⟨v, o, ho, hd⟩ := I.cell x c e
  obtain ⟨m, ⟨o', es, ep, ho', hd', _⟩, _⟩ := I.loc
  rw [z, ho'] at ho; cases ho; rw [hd'] at hd; cases hd
theorem Inv.funs (I : Inv X pins σ H s) : s.heap.FunFrames X.base X.outer := by
  have all : ∀ (l : List Env), (∀ b ∈ frs l, b ∈ X.fs) → X.s₀.heap.FunFrames X.base l → s.heap.FunFrames X.base l := by
    intro l
    induction l with
    | nil => intro _ _; trivial
    | cons env r ih =>
      intro hs hl
      obtain ⟨hk, ⟨L, o, hf, hn, ho, hd⟩, hr⟩ := hl
      have hL : L ∈ X.fs := hs L (by unfold frs; rw [List.filterMap_cons, hf]; exact List.mem_cons_self)
      obtain ⟨sl, e⟩ := I.base.slot L o ho (I.ok.frf L hL) hL fun z => I.ok.exfs L z hL
      exact ⟨hk, ⟨L, _, hf, hn, e, hd⟩, ih (fun b hb => hs b (by unfold frs; rw [List.filterMap_cons, hf]; exact List.mem_cons_of_mem _ hb)) hr⟩
  exact all X.outer (fun _ hb => hb) I.ok.funs

/-- the frames that run, for a call -/
theorem Inv.stack (I : Inv X pins σ H s) : s.heap.FunFrames X.base X.stack := by
  rcases I.ok.stk with e | ⟨e, hf⟩
  · rw [e]; exact I.funs
  · rw [e]
    obtain ⟨m, hn, _⟩ := I.loc
    refine .cons (by rw [I.ok.kind]; decide) hf hn ?_ I.funs
    exact Heap.get?_none_of_le (Nat.le_trans I.ok.bsz I.ok.above)
theorem Inv.stkSub (I : Inv X pins σ H s) : ∀ b ∈ frs X.stack, b ∈ X.env.locals :: X.fs := fun b hb => by
  rcases I.ok.stk with e | ⟨e, hf⟩
  · rw [e] at hb; exact List.mem_cons_of_mem _ hb
  · rw [e] at hb
    unfold frs at hb
    rw [List.filterMap_cons, hf] at hb
    exact hb
theorem Inv.stkFree (I : Inv X pins σ H s) : ∀ b ∈ frs X.stack, H b = none := fun b hb => by
  rcases List.mem_cons.mp (I.stkSub b hb) with e | hb
  · rw [e]; exact I.free
  · obtain ⟨_, o, ho, _⟩ := I.ok.funs.mem hb
    exact I.base.free b o ho (I.ok.frf b hb) fun z => I.ok.exfs b z hb

/-- THE STEP: the untracked objects but the frame and the records at ch are kept (the callers' frames up to slots), the frame's map is kept, the new abstract heap is held -/
theorem Inv.step {g' : Array GenState} {t' : Nat} {d' : Drawn} {ch : List Addr} (I : Inv X pins σ H s)
    (hch : ∀ b ∈ ch, (b ∈ X.ex ∨ X.s₀.heap.objs.size ≤ b) ∧ b ≠ X.env.locals ∧ (∀ x c, X.env.cells.lookup x = some c → c ≠ b) ∧ ∀ p ∈ X.pn ++ pins, p.1 ≠ b)
    (keep : ∀ b o, b ≠ X.env.locals → b ∉ X.fs → b ∉ ch → s.heap.get? b = some o → H b = none → h'.get? b = some o)
    (slot : ∀ b o, b ≠ X.env.locals → b ∈ X.fs → b ∉ ch → s.heap.get? b = some o → H b = none → ∃ sl, h'.get? b = some { o with slots := sl }) (free : ∀ b o, b ∉ ch → s.heap.get? b = some o → H b = none → H' b = none)
    (there : ∀ b o, b ∉ ch → s.heap.get? b = some o → ∃ o', h'.get? b = some o')
    (tups : ∀ b xs, H b = some (.tup xs) → H' b = some (.tup xs)) (frzs : ∀ b o u, H b = some (.frz o u) → H' b = some (.frz o u)) (tbls : ∀ b ps, H b = some (.tbl ps) → ∃ more, H' b = some (.tbl (ps ++ more)))
    (ns : ∀ m, s.heap.Ns X.env.locals m → h'.Ns X.env.locals m) (hok : HOk X.prog X.w H' h') (hg : AllBare g') :
    Inv X pins σ H' { s with heap := h', gens := g', drawn := d', toks := t' } := by
  have neL : ∀ b o, X.s₀.heap.get? b = some o → b ≠ X.env.locals := fun b o e => Nat.ne_of_lt (Nat.lt_of_lt_of_le (Heap.lt_size e) I.ok.above)
  have neC : ∀ b o, X.s₀.heap.get? b = some o → b ∉ X.ex → b ∉ ch := fun b o e hx hb => by
    rcases (hch b hb).1 with z | z
    · exact hx z
    · exact absurd (Nat.lt_of_lt_of_le (Heap.lt_size e) z) (Nat.lt_irrefl _)
  have cellK : ∀ x c, X.env.cells.lookup x = some c → ∀ v, s.heap.IsCell c v → h'.IsCell c v := fun x c e v ⟨o, ho, hd⟩ => by
    have nch : c ∉ ch := fun z => (hch c z).2.2.1 x c e rfl
    by_cases hc : c ∈ X.fs
    · obtain ⟨sl, q⟩ := slot c o (I.cne x c e) hc nch ho (I.freeC x c e)
      exact ⟨_, q, hd⟩
    · exact ⟨o, keep c o (I.cne x c e) hc nch ho (I.freeC x c e), hd⟩
  refine ⟨I.ok, I.os, hg, ⟨fun b o e n hb hx => ?_, fun b o e n hb hx => ?_, fun b o e n hx => ?_, fun b o e hx => ?_, fun b xs e => tups b xs (I.base.tups b xs e), fun b o xs e => frzs b o xs (I.base.frzs b o xs e), fun b ps e => ?_⟩, ?_, fun x c e => ?_, ?_, fun x c e => ?_, fun p hp => ?_, hok, I.len⟩
  · exact keep b o (neL b o e) hb (neC b o e hx) (I.base.keep b o e n hb hx) (I.base.free b o e n hx)
  · obtain ⟨sl, e1⟩ := I.base.slot b o e n hb hx
    obtain ⟨sl', e2⟩ := slot b _ (neL b o e) hb (neC b o e hx) e1 (I.base.free b o e n hx)
    exact ⟨sl', e2⟩
  · obtain ⟨o', e1⟩ := I.base.there b o e hx
    exact free b o' (neC b o e hx) e1 (I.base.free b o e n hx)
  · obtain ⟨o', e1⟩ := I.base.there b o e hx
    exact there b o' (neC b o e hx) e1
  · obtain ⟨m1, e1⟩ := I.base.tbls b ps e
    obtain ⟨m2, e2⟩ := tbls b _ e1
    exact ⟨m1 ++ m2, by rw [e2, Array.append_assoc]⟩
  · obtain ⟨m, hn, hl⟩ := I.loc
    refine ⟨m, ns m hn, fun i x v e1 e2 e3 => ?_⟩
    obtain ⟨u, r, l⟩ := hl i x v e1 e2 e3
    refine ⟨u, r, ?_⟩
    rcases l with l | ⟨k, c, e, z⟩
    · exact .inl l
    · exact .inr ⟨k, c, e, cellK x c e _ z⟩
  · obtain ⟨v, z⟩ := I.cell x c e
    exact ⟨v, cellK x c e v z⟩
  · obtain ⟨m, ⟨o, _, _, ho, _⟩, _⟩ := I.loc
    exact free _ o (fun z => (hch _ z).2.1 rfl) ho I.free
  · obtain ⟨v, o, ho, hd⟩ := I.cell x c e
    exact free c o (fun z => (hch c z).2.2.1 x c e rfl) ho (I.freeC x c e)
  · obtain ⟨e, n, ne, nf, d⟩ := I.pin p hp
    have nch : p.1 ∉ ch := fun z => (hch p.1 z).2.2.2 p hp rfl
    exact ⟨keep p.1 p.2 ne nf nch e n, free p.1 p.2 nch e n, ne, nf, d⟩
/-- .. where the frame's own object is kept too -/
theorem Inv.un {t' : Nat} (I : Inv X pins σ H s) (u : Un X.fs [] H H' s.heap h') (hok : HOk X.prog X.w H' h') : Inv X pins σ H' { s with heap := h', toks := t' } := by
  obtain ⟨m, ⟨o, es, ep, ho, r⟩, _⟩ := id I.loc
  obtain ⟨sl, hL⟩ := u.any ho I.free (by simp)
  exact I.step (g' := s.gens) (d' := s.drawn) (ch := []) (fun _ z => nomatch z) (fun b o _ hb _ e n => u.keep b o e n hb (by simp)) (fun b o _ hb _ e n => u.slot b o e n hb (by simp)) (fun b o _ e n => u.free b o e n (by simp)) (fun b o _ e => u.there b o e (by simp)) u.tups u.frzs u.tbls (fun m' hm => by
    obtain ⟨o', es', ep', ho', r'⟩ := hm
    rw [ho] at ho'; cases ho'
    exact ⟨_, es', ep', hL, r'⟩) hok I.bare
/-- behind a call (or a comprehension's block): the slots of this frame may have changed too, the records at ch may have turned -/
theorem Inv.call {g' : Array GenState} {t' : Nat} {d' : Drawn} {ch : List Addr} (I : Inv X pins σ H s) (u : Un (frs X.stack) ch H H' s.heap h') (hok : HOk X.prog X.w H' h') (hg : AllBare g')
    (hch : ∀ b ∈ ch, (b ∈ X.ex ∨ X.s₀.heap.objs.size ≤ b) ∧ b ≠ X.env.locals ∧ (∀ x c, X.env.cells.lookup x = some c → c ≠ b) ∧ ∀ p ∈ X.pn ++ pins, p.1 ≠ b) :
    Inv X pins σ H' { s with heap := h', gens := g', drawn := d', toks := t' } := by
  obtain ⟨m, ⟨o, es, ep, ho, r⟩, _⟩ := id I.loc
  obtain ⟨sl, hL⟩ := u.any ho I.free fun z => (hch _ z).2.1 rfl
  exact I.step (ch := ch) hch (fun b o hL hb hc e n => u.keep b o e n (fun z => (List.mem_cons.mp (I.stkSub b z)).elim hL hb) hc) (fun b o _ _ hc e n => u.any e n hc) (fun b o hc e n => u.free b o e n hc) (fun b o hc e => u.there b o e hc) u.tups u.frzs u.tbls (fun m' hm => by
    obtain ⟨o', es', ep', ho', r'⟩ := hm
    rw [ho] at ho'; cases ho'
    exact ⟨_, es', ep', hL, r'⟩) hok hg
/-- an untracked record of ours (an iterator) has turned -/
theorem Inv.turned {t' : Nat} {it : Addr} (I : Inv X pins σ H s) (k : ∀ b o, b ≠ it → s.heap.get? b = some o → h'.get? b = some o) (hn : H it = none) (hL : it ≠ X.env.locals)
    (h1 : it ∈ X.ex ∨ X.s₀.heap.objs.size ≤ it) (h2 : ∀ x c, X.env.cells.lookup x = some c → c ≠ it) (h3 : ∀ p ∈ X.pn ++ pins, p.1 ≠ it) : Inv X pins σ H { s with heap := h', toks := t' } := by
  have nit : ∀ b u, H b = some u → b ≠ it := fun b u e z => by rw [z, hn] at e; cases e
  refine I.step (g' := s.gens) (d' := s.drawn) (ch := [it]) (fun b hb => ?_) (fun b o _ _ hc e _ => k b o (fun z => hc (by simp [z])) e) (fun b o _ _ hc e _ => ⟨o.slots, k b o (fun z => hc (by simp [z])) e⟩) (fun _ _ _ _ n => n)
    (fun b o hc e => ⟨o, k b o (fun z => hc (by simp [z])) e⟩) (fun _ _ e => e) (fun _ _ _ e => e) (fun b ps e => ⟨#[], by rw [e]; simp⟩) (fun m hm => ?_) (fun b u e => ?_) I.bare
  · have e : b = it := by simpa using hb
    subst e
    exact ⟨h1, hL, h2, h3⟩
  · obtain ⟨o, es, ep, ho, r⟩ := hm
    exact ⟨o, es, ep, k _ o (Ne.symm hL) ho, r⟩
  · refine (I.hok b u e).stay (fun c v hc q => k c v ?_ q) (fun _ q => q) fun _ _ q => q
    rcases hc with z | z
    · rw [z]; exact nit b u e
    · exact nit c _ z
theorem Inv.tok (I : Inv X pins σ H s) (t : Nat) : Inv X pins σ H { s with toks := t } := I.un (h' := s.heap) (t' := t) Un.refl I.hok
/-- all objects kept -/
theorem Inv.kept {t' : Nat} (I : Inv X pins σ H s) (k : ∀ b u, s.heap.get? b = some u → h'.get? b = some u) : Inv X pins σ H { s with heap := h', toks := t' } := I.un (Un.kept k) (I.hok.kept k)
/-- a new object laid and tracked -/
theorem Inv.laid {a : Addr} {o : HO} {t' : Nat} (I : Inv X pins σ H s) (k : ∀ b u, s.heap.get? b = some u → h'.get? b = some u) (hp : s.heap.objs.size ≤ a) (new : ObjOk X.prog X.w (upd H a o) h' a o) :
    Inv X pins σ (upd H a o) { s with heap := h', toks := t' } := I.un (Un.laid k hp (I.hok.fresh hp)) (I.hok.laid k hp new)
/-- an object written -/
theorem Inv.write {x e : Addr} {o : HO} {t' : Nat} (I : Inv X pins σ H s) (mu : Mut (H x)) (he : e = x ∨ H e = some (.own x)) (k : ∀ b u, b ≠ e → s.heap.get? b = some u → h'.get? b = some u) (heo : ∃ u, h'.get? e = some u)
    (new : ObjOk X.prog X.w (upd H x o) h' x o) : Inv X pins σ (upd H x o) { s with heap := h', toks := t' } := I.un (Un.write mu he k heo) (I.hok.write mu he k heo new)
theorem Inv.pins_of {pins' : List (Addr × Obj)} (I : Inv X pins σ H s) (h : ∀ p ∈ pins', s.heap.get? p.1 = some p.2 ∧ H p.1 = none ∧ p.1 ≠ X.env.locals ∧ p.1 ∉ X.fs ∧ ∀ v, p.2.data ≠ .cell v) : Inv X pins' σ H s :=
  ⟨I.ok, I.os, I.bare, I.base, I.loc, I.cell, I.free, I.freeC, fun p hp => (List.mem_append.mp hp).elim (fun z => I.pin p (List.mem_append_left _ z)) (h p), I.hok, I.len⟩

theorem nodup_ix {N : List Str} (hN : N.Nodup) {i j : Nat} {x : Str} (a : N[i]? = some x) (b : N[j]? = some x) : i = j := by
  obtain ⟨h1, e1⟩ := List.getElem?_eq_some_iff.mp a
  obtain ⟨h2, e2⟩ := List.getElem?_eq_some_iff.mp b
  exact (List.getElem_inj hN).mp (e1.trans e2.symm)

/-- a name is stored; what changed -/
theorem store_ok2 {M : Model} {A : Around} {E : Value → Shared → Prop} {i : Nat} {x : Str} {v : V} {u : Value} {Q : Unit → Shared → Prop} (I : Inv X pins σ H s) (hN : X.N.Nodup) (hi : X.N[i]? = some x) (hx : Loc X.env.scope x) (r : RelV v u)
    (h : ∀ s', Inv X pins (σ.set i (some v)) H s' → (∃ a, Heap.SameBut a s.heap s'.heap ∧ (a = X.env.locals ∨ X.env.cells.lookup x = some a)) → Q () s') (hf : X.fn x = true ∨ X.env.scope.names.lookup x = some .local := by first | exact .inl rfl | exact .inr rfl | assumption) : wpAny M A (storeName X.env x u) Q E s := by
  obtain ⟨m, hn, hl⟩ := id I.loc
  have hcls : (X.env.scope.kind == .class || (X.env.scope.kind == .module && X.env.locals != X.env.globals)) = false := by rw [I.ok.kind]; rfl
  have hiσ : i < σ.length := by rw [I.len]; exact (List.getElem?_eq_some_iff.mp hi).1
  have cne := I.cne
  have tracked : ∀ {a : Addr} {h' : Heap}, (∃ o, s.heap.get? a = some o ∧ H a = none) → Heap.SameBut a s.heap h' → HOk X.prog X.w H h' := fun {a h'} ha hs b ob e => by
    obtain ⟨_, _, hfree⟩ := ha
    refine (I.hok b ob e).stay (fun c w' hc q => (hs.2 c ?_).trans q) (fun _ q => q) fun _ _ q => q
    rintro rfl
    rcases hc with rfl | hc
    · rw [hfree] at e; cases e
    · rw [hfree] at hc; cases hc
  rcases hx with hk | hk
  · refine wpAny_storeName_local hk hn (fun h' hn' hs => ?_) hcls
    obtain ⟨oL, _, _, hoL, _⟩ := id hn
    refine h _ ⟨I.ok, I.os, I.bare, ⟨fun b o e n hb hx => ?_, fun b o e n hb hx => ?_, I.base.free, fun b o e hx => ?_, I.base.tups, I.base.frzs, I.base.tbls⟩, ⟨_, hn', fun j y v' e1 e2 e3 => ?_⟩, fun y c e => ?_, I.free, I.freeC, fun p hp => ?_, tracked ⟨oL, hoL, I.free⟩ hs, by simpa using I.len⟩ ⟨_, hs, .inl rfl⟩
    · exact (hs.2 b (Nat.ne_of_lt (Nat.lt_of_lt_of_le (Heap.lt_size e) I.ok.above))).trans (I.base.keep b o e n hb hx)
    · obtain ⟨sl, e1⟩ := I.base.slot b o e n hb hx
      exact ⟨sl, (hs.2 b (Nat.ne_of_lt (Nat.lt_of_lt_of_le (Heap.lt_size e) I.ok.above))).trans e1⟩
    · obtain ⟨o', e1⟩ := I.base.there b o e hx
      exact ⟨o', (hs.2 b (Nat.ne_of_lt (Nat.lt_of_lt_of_le (Heap.lt_size e) I.ok.above))).trans e1⟩
    · by_cases hj : j = i
      · subst hj
        rw [hi] at e1; cases e1
        rw [List.getElem?_set_self hiσ] at e2
        cases e2
        exact ⟨u, r, .inl ⟨hk, by simp⟩⟩
      · rw [List.getElem?_set_ne (Ne.symm hj)] at e2
        obtain ⟨u', r', q⟩ := hl j y v' e1 e2 e3
        refine ⟨u', r', ?_⟩
        rcases q with ⟨k, e⟩ | ⟨k, c, e, z⟩
        · refine .inl ⟨k, ?_⟩
          have : y ≠ x := fun e => hj (nodup_ix hN e1 (e ▸ hi))
          simp [this, e]
        · exact .inr ⟨k, c, e, z.sameBut hs (cne y c e)⟩
    · obtain ⟨w', z⟩ := I.cell y c e
      exact ⟨w', z.sameBut hs (cne y c e)⟩
    · obtain ⟨e, n, ne, nf, d⟩ := I.pin p hp
      exact ⟨(hs.2 p.1 ne).trans e, n, ne, nf, d⟩
  · have hfn : X.fn x = true := by
      rcases hf with z | z
      · exact z
      · rw [z] at hk; cases hk
    obtain ⟨c, hc⟩ := I.ok.has x (.inl hk)
    obtain ⟨w', z⟩ := I.cell x c hc
    refine wpAny_storeName_cell I.ok.kind hk hc z (fun h' hc' hs => ?_)
    obtain ⟨oc, hoc, hocd⟩ := id z
    refine h { s with heap := h' } ⟨I.ok, I.os, I.bare, ⟨fun b o e n hb hx => ?_, fun b o e n hb hx => ?_, I.base.free, fun b o e hx => ?_, I.base.tups, I.base.frzs, I.base.tbls⟩, ⟨m, hn.sameBut hs (Ne.symm (cne x c hc)), fun j y v' e1 e2 e3 => ?_⟩, fun y c' e => ?_, I.free, I.freeC, fun p hp => ?_, tracked ⟨oc, hoc, I.freeC x c hc⟩ hs, by simpa using I.len⟩ ⟨c, hs, .inr hc⟩
    · exact (hs.2 b (Nat.ne_of_lt (Nat.lt_of_lt_of_le (Heap.lt_size e) (I.ok.cab x c hfn hc)))).trans (I.base.keep b o e n hb hx)
    · obtain ⟨sl, e1⟩ := I.base.slot b o e n hb hx
      exact ⟨sl, (hs.2 b (Nat.ne_of_lt (Nat.lt_of_lt_of_le (Heap.lt_size e) (I.ok.cab x c hfn hc)))).trans e1⟩
    · obtain ⟨o', e1⟩ := I.base.there b o e hx
      exact ⟨o', (hs.2 b (Nat.ne_of_lt (Nat.lt_of_lt_of_le (Heap.lt_size e) (I.ok.cab x c hfn hc)))).trans e1⟩
    · by_cases hj : j = i
      · subst hj
        rw [hi] at e1; cases e1
        rw [List.getElem?_set_self hiσ] at e2
        cases e2
        exact ⟨u, r, .inr ⟨.inl hk, c, hc, hc'⟩⟩
      · rw [List.getElem?_set_ne (Ne.symm hj)] at e2
        obtain ⟨u', r', q⟩ := hl j y v' e1 e2 e3
        refine ⟨u', r', ?_⟩
        rcases q with q | ⟨k, c', e, z'⟩
        · exact .inl q
        · refine .inr ⟨k, c', e, z'.sameBut hs ?_⟩
          rintro rfl
          exact hj (nodup_ix hN e1 (I.ok.inj _ _ _ e hc ▸ hi))
    · by_cases hcc : c' = c
      · subst hcc; exact ⟨_, hc'⟩
      · obtain ⟨w2, z2⟩ := I.cell y c' e
        exact ⟨w2, z2.sameBut hs hcc⟩
    · obtain ⟨e, n, ne, nf, d⟩ := I.pin p hp
      refine ⟨(hs.2 p.1 ?_).trans e, n, ne, nf, d⟩
      intro q
      rw [q, hoc] at e
      have q' : oc = p.2 := Option.some.inj e
      exact d w' (by rw [← q']; exact hocd)
theorem store_ok {M : Model} {A : Around} {E : Value → Shared → Prop} {i : Nat} {x : Str} {v : V} {u : Value} {Q : Unit → Shared → Prop} (I : Inv X pins σ H s) (hN : X.N.Nodup) (hi : X.N[i]? = some x) (hx : Loc X.env.scope x) (r : RelV v u)
    (h : ∀ s', Inv X pins (σ.set i (some v)) H s' → Q () s') (hf : X.fn x = true ∨ X.env.scope.names.lookup x = some .local := by first | exact .inl rfl | exact .inr rfl | assumption) : wpAny M A (storeName X.env x u) Q E s :=
  store_ok2 I hN hi hx r (fun s' I' _ => h s' I') hf
/-- behind a call or a block, the state as it is -/
theorem Inv.call' {s' : Shared} {ch : List Addr} (I : Inv X pins σ H s) (ho : s'.os = s.os) (u : Un (frs X.stack) ch H H' s.heap s'.heap) (hok : HOk X.prog X.w H' s'.heap) (hg : AllBare s'.gens)
    (hch : ∀ b ∈ ch, (b ∈ X.ex ∨ X.s₀.heap.objs.size ≤ b) ∧ b ≠ X.env.locals ∧ (∀ x c, X.env.cells.lookup x = some c → c ≠ b) ∧ ∀ p ∈ X.pn ++ pins, p.1 ≠ b) : Inv X pins σ H' s' := by
  obtain ⟨h', g', d', t', o'⟩ := s'
  have e : o' = s.os := ho
  subst e
  exact I.call (g' := g') (t' := t') (d' := d') u hok hg hch
end

/-- an exception: its class, its own dict's address (where it has one), the abstract heap behind it -/
abbrev XK := Value → Option Addr → Hp → Prop
abbrev St := List (Option V)
abbrev VK := V → Hp → Prop
/-- an expression's reading; a test's; an argument list's -/
abbrev TE := St → Hp → VK → Prop
abbrev TT := St → Hp → (Bool → Hp → Prop) → Prop
abbrev TA := St → Hp → (List V → Hp → Prop) → Prop
/-- what is wanted behind a statement -/
structure Ends where
  nx : St → Hp → Prop
  rt : VK
  bk : St → Hp → Prop := fun _ _ => False
  ct : St → Hp → Prop := fun _ _ => False
abbrev TS := Ends → St → Hp → Prop

def EP (X : Cx) (pins : List (Addr × Obj)) (σ : St) (Q : VK) (u : Value) (s' : Shared) : Prop := ∃ v H', Inv X pins σ H' s' ∧ RelV v u ∧ Q v H'
def TP (X : Cx) (pins : List (Addr × Obj)) (σ : St) (Q : Bool → Hp → Prop) (b : Bool) (s' : Shared) : Prop := ∃ H', Inv X pins σ H' s' ∧ Q b H'
def AP (X : Cx) (pins : List (Addr × Obj)) (σ : St) (Q : List V → Hp → Prop) (us : List Value) (s' : Shared) : Prop := ∃ vs H', Inv X pins σ H' s' ∧ Vals vs us ∧ Q vs H'
def SP (X : Cx) (pins : List (Addr × Obj)) (D : Ends) (f : Flow) (s' : Shared) : Prop :=
  match f with
  | .next => ∃ σ' H', Inv X pins σ' H' s' ∧ D.nx σ' H'
  | .brk => ∃ σ' H', Inv X pins σ' H' s' ∧ D.bk σ' H'
  | .cont => ∃ σ' H', Inv X pins σ' H' s' ∧ D.ct σ' H'
  | .ret u => ∃ v σ' H', Inv X pins σ' H' s' ∧ RelV v u ∧ D.rt v H'

def PE (X : Cx) (e : Expr) (t : TE) : Prop :=
  ∀ (pins : List (Addr × Obj)) (s : Shared) (σ : St) (H : Hp) (Q : VK), Inv X pins σ H s → t σ H Q → wpAny (model X.prog X.w) X.A (eval e X.env) (EP X pins σ Q) X.xe s
def PT (X : Cx) (e : Expr) (t : TT) : Prop :=
  ∀ (pins : List (Addr × Obj)) (s : Shared) (σ : St) (H : Hp) (Q : Bool → Hp → Prop), Inv X pins σ H s → t σ H Q → wpAny (model X.prog X.w) X.A (isTrue e X.env (eval e X.env)) (TP X pins σ Q) X.xe s
/-- a test whatever its 'whole' is (and, or) -/
def PW (X : Cx) (e : Expr) (t : TT) : Prop :=
  ∀ (whole : Sem Value) (pins : List (Addr × Obj)) (s : Shared) (σ : St) (H : Hp) (Q : Bool → Hp → Prop), Inv X pins σ H s → t σ H Q → wpAny (model X.prog X.w) X.A (isTrue e X.env whole) (TP X pins σ Q) X.xe s
theorem PW.pt {X : Cx} {e : Expr} {t : TT} (h : PW X e t) : PT X e t := h _
/-- an argument list (no star), from the left -/
def PA (X : Cx) (es : List Expr) (t : TA) : Prop :=
  ∀ (pos : Pos) (pins : List (Addr × Obj)) (s : Shared) (σ : St) (H : Hp) (Q : List V → Hp → Prop), Inv X pins σ H s → t σ H Q → wpAny (model X.prog X.w) X.A (spliced (backTo pos (starEach es X.env))) (AP X pins σ Q) X.xe s
def PS (X : Cx) (st : Stmt) (t : TS) : Prop :=
  ∀ (pins : List (Addr × Obj)) (s : Shared) (σ : St) (H : Hp) (D : Ends), Inv X pins σ H s → t D σ H → wpAny (model X.prog X.w) X.A (exec st X.env) (SP X pins D) X.xe s
def PSs (X : Cx) (st : List Stmt) (t : TS) : Prop :=
  ∀ (pins : List (Addr × Obj)) (s : Shared) (σ : St) (H : Hp) (D : Ends), Inv X pins σ H s → t D σ H → wpAny (model X.prog X.w) X.A (execs st X.env) (SP X pins D) X.xe s
/-- weaken the end -/
theorem thn {α : Type} {t : Sem α} {Q Q' : α → Shared → Prop} {M : Model} {A : Around} {E : Value → Shared → Prop} {s : Shared} (h : wpAny M A t Q E s) (hQ : ∀ a s, Q a s → Q' a s) : wpAny M A t Q' E s := wpAny_mono h hQ fun _ _ x => x
end L2

namespace L2
open PySem PySem.Spec PyProof.Rows
section
variable {X : Cx}

/-- two expressions in a row -/
theorem bin {a b : Expr} {ta tb : TE} (ha : PE X a ta) (hb : PE X b tb) {pins : List (Addr × Obj)} {s : Shared} {σ : St} {H : Hp} {R : V → V → Hp → Prop} (I : Inv X pins σ H s) (h : ta σ H fun x H1 => tb σ H1 fun y H2 => R x y H2)
    {α : Type} {Q : α → Shared → Prop} {f : Value → Value → Sem α}
    (hf : ∀ v u s2 x y H2, Inv X pins σ H2 s2 → RelV x v → RelV y u → R x y H2 → wpAny (model X.prog X.w) X.A (f v u) Q X.xe s2) :
    wpAny (model X.prog X.w) X.A (eval a X.env) (fun v s₁ => wpAny (model X.prog X.w) X.A (eval b X.env) (fun u s₂ => wpAny (model X.prog X.w) X.A (f v u) Q X.xe s₂) X.xe s₁) X.xe s := by
  refine thn (ha pins s σ H _ I h) fun v s1 ⟨x, H1, I1, r1, q1⟩ => ?_
  refine thn (hb pins s1 σ H1 _ I1 q1) fun u s2 ⟨y, H2, I2, r2, q2⟩ => ?_
  exact hf v u s2 x y H2 I2 r1 r2 q2

inductive tVar (i : Nat) (σ : St) (H : Hp) (Q : VK) : Prop
  | mk : ∀ v, (σ[i]? = some (some v)) → (Q v H) → tVar i σ H Q
def tC (v : V) : TE := fun _ H Q => Q v H
theorem pe_var {i : Nat} {x : Str} {pos : Pos} (hN : X.N[i]? = some x) (hv : Vis X.env.scope x) (hd : (x == ("__debug__" : Str)) = false := by decide) (hcd : (x == ("__classdict__" : Str)) = false := by decide) : PE X (.Name x pos) (tVar i) := by
  intro pins s σ H Q I h
  obtain ⟨v, e, h⟩ := h
  obtain ⟨m, hn, hl⟩ := I.loc
  obtain ⟨u, r, l⟩ := hl i x v hN e hv
  have fin : EP X pins σ Q u s := ⟨v, H, I, r, h⟩
  rcases l with ⟨hk, hm⟩ | ⟨hk, c, hc, hcell⟩
  · exact wpAny_Name (wpAny_loadName_local I.ok.kind hk hn hm fin) hd
  · rcases hk with hk | hk
    · exact wpAny_Name (wpAny_loadName_cell I.ok.kind hk hc hcell fin) hd
    · exact wpAny_Name (wpAny_loadName_free I.ok.kind hk hc hcell fin hcd) hd
theorem pe_int {i j pos} : PE X (.Constant (.int i) j pos) (tC (.int i)) := fun _ _ _ H _ I h => wpAny_Constant_int ⟨.int i, H, I.tok _, ⟨_, rfl⟩, h⟩
theorem pe_bl {b j pos} : PE X (.Constant (.bool b) j pos) (tC (.bl b)) := fun _ _ _ H _ I h => Constant_bool ⟨.bl b, H, I, rfl, h⟩
theorem pe_non {j pos} : PE X (.Constant .none j pos) (tC .non) := fun _ _ _ H _ I h => Constant_none ⟨.non, H, I, rfl, h⟩
theorem pe_str {x j pos} : PE X (.Constant (.str x) j pos) (tC (.str x)) := fun _ _ _ H _ I h => Calls.Constant_str ⟨.str x, H, I.tok _, ⟨_, rfl⟩, h⟩

/-- a global name of the def -/
def Gl (X : Cx) (x : Str) : Prop := X.env.kindOf x = some .globalImplicit
theorem ld_glob {E : Value → Shared → Prop} {pins : List (Addr × Obj)} {s : Shared} {σ : St} {H : Hp} {x : Str} {u : Value} {pos : Pos} {Q : Value → Shared → Prop} (I : Inv X pins σ H s) (hg : Gl X x) (hm : X.mg x = some u) (h : Q u s)
    (hd : (x == ("__debug__" : Str)) = false := by decide) : wpAny (model X.prog X.w) X.A (eval (.Name x pos) X.env) Q E s :=
  Calls.Name_function_global I.ok.kind hg (Calls.loadGlobal_global (by rw [I.ok.glob]; exact I.mod.glob.keeps I.bk) hm h) hd
theorem ld_blt {E : Value → Shared → Prop} {pins : List (Addr × Obj)} {s : Shared} {σ : St} {H : Hp} {x : Str} {u : Value} {pos : Pos} {Q : Value → Shared → Prop} (I : Inv X pins σ H s) (hg : Gl X x) (hm : X.mg x = none) (hv : bootBuiltins x = some u) (h : Q u s)
    (hn : x ≠ "__name__" := by decide) (hd : (x == ("__debug__" : Str)) = false := by decide) : wpAny (model X.prog X.w) X.A (eval (.Name x pos) X.env) Q E s := by
  obtain ⟨mb, h1, h2⟩ := I.mod.blt
  exact Calls.Name_function_global I.ok.kind hg (Calls.loadGlobal_builtin (by rw [I.ok.glob]; exact I.mod.glob.keeps I.bk) hm (by rw [I.ok.blt]; exact h1.keeps I.bk) ((h2 x hn).trans hv) h) hd
/-- a module's constant, a class, a function, as a value -/
theorem pe_glob {x : Str} {v : V} {u : Value} {pos : Pos} (hg : Gl X x) (hm : X.mg x = some u) (r : RelV v u) (hd : (x == ("__debug__" : Str)) = false := by decide) : PE X (.Name x pos) (tC v) :=
  fun _ _ _ H _ I h => ld_glob I hg hm ⟨v, H, I, r, h⟩ hd
theorem pe_bltn {x : Str} {v : V} {u : Value} {pos : Pos} (hg : Gl X x) (hm : X.mg x = none) (hv : bootBuiltins x = some u) (r : RelV v u) (hn : x ≠ "__name__" := by decide) (hd : (x == ("__debug__" : Str)) = false := by decide) : PE X (.Name x pos) (tC v) :=
  fun _ _ _ H _ I h => ld_blt I hg hm hv ⟨v, H, I, r, h⟩ hn hd

variable {a b : Expr} {ta tb : TE} {pos : Pos}
def PC (X : Cx) (op : CmpOp) (a b : Expr) (t : TE) : Prop :=
  ∀ (pins : List (Addr × Obj)) (s : Shared) (σ : St) (H : Hp) (Q : VK), Inv X pins σ H s → t σ H Q →
    wpAny (model X.prog X.w) X.A (eval a X.env) (fun v s₁ => wpAny (model X.prog X.w) X.A (eval b X.env) (fun u s₂ => wpAny (model X.prog X.w) X.A (compareOp op v u) (EP X pins σ Q) X.xe s₂) X.xe s₁) X.xe s
/-- a comparison as a value, as a test -/
inductive IsB (Q : Bool → Hp → Prop) (x : V) (H : Hp) : Prop
  | mk : ∀ c, (x = .bl c) → (Q c H) → IsB Q x H
def tB (t : TE) : TT := fun σ H Q => t σ H (IsB Q)
theorem pt_cmp {op : CmpOp} {t : TE} (h : PC X op a b t) (h1 : behindInMarks op b = false := by first | exact nobehind _ (by decide) (by decide) | rfl) : PT X (.Compare a [op] [b] pos) (tB t) := by
  intro pins s σ H Q I hw
  refine wpAny_isTrue_Compare1 (thn (h pins s σ H _ I hw) fun v s1 h1 => thn h1 fun u s2 h2 => thn h2 fun c s3 ⟨x, H1, I1, r1, q1⟩ => ?_) h1
  obtain ⟨d, rfl, q⟩ := q1
  cases r1
  exact wpAny_truthy_bool ⟨H1, I1, q⟩
/-- an expression whose value is a bool, as a test -/
theorem pt_val {e : Expr} {t : TE} (h : PE X e t) (he : ∀ whole, isTrue e X.env whole = (do let v ← whole; standAt e.pos; holding [v] (truthy v)) := by intro _; rfl) : PT X e (tB t) := by
  intro pins s σ H Q I hw
  refine isTrue_plain (thn (h pins s σ H _ I hw) fun v s1 ⟨x, H1, I1, r1, q1⟩ => ?_) (he _)
  obtain ⟨d, rfl, q⟩ := q1
  cases r1
  exact wpAny_truthy_bool ⟨H1, I1, q⟩

variable {tA tB' : TT} {rest : List Expr}
def tAnd (t u : TT) : TT := fun σ H Q => t σ H fun c H1 => if c = true then u σ H1 Q else Q false H1
def tOr (t u : TT) : TT := fun σ H Q => t σ H fun c H1 => if c = true then Q true H1 else u σ H1 Q
def tNot (t : TT) : TT := fun σ H Q => t σ H fun c H1 => Q (!c) H1
theorem pw_and1 (ha : PT X a tA) : PW X (.BoolOp .And [a] pos) tA := by
  intro wh pins s σ H Q I h
  refine isTrue_and (thn (ha pins s σ H Q I h) fun c s1 e => ?_)
  cases c with
  | true => exact isTrue_and_nil e
  | false => exact e
theorem pw_or1 (ha : PT X a tA) : PW X (.BoolOp .Or [a] pos) tA := by
  intro wh pins s σ H Q I h
  refine isTrue_or (thn (ha pins s σ H Q I h) fun c s1 e => ?_)
  cases c with
  | false => exact isTrue_or_nil e
  | true => exact e
theorem pw_and (ha : PT X a tA) (hb : PW X (.BoolOp .And (b :: rest) pos) tB') : PW X (.BoolOp .And (a :: b :: rest) pos) (tAnd tA tB') := by
  intro wh pins s σ H Q I h
  refine isTrue_and (thn (ha pins s σ H _ I h) fun c s1 ⟨H1, I1, q1⟩ => ?_)
  cases c with
  | true => exact hb wh pins s1 σ H1 Q I1 q1
  | false => exact ⟨H1, I1, q1⟩
theorem pw_or (ha : PT X a tA) (hb : PW X (.BoolOp .Or (b :: rest) pos) tB') : PW X (.BoolOp .Or (a :: b :: rest) pos) (tOr tA tB') := by
  intro wh pins s σ H Q I h
  refine isTrue_or (thn (ha pins s σ H _ I h) fun c s1 ⟨H1, I1, q1⟩ => ?_)
  cases c with
  | true => exact ⟨H1, I1, q1⟩
  | false => exact hb wh pins s1 σ H1 Q I1 q1
theorem pt_not (ha : PT X a tA) : PT X (.UnaryOp .Not a pos) (tNot tA) := by
  intro pins s σ H Q I h
  exact isTrue_not (ha pins s σ H (fun c H1 => Q (!c) H1) I h)
/-- .. as values (bools) -/
def tAndV (ta tb : TE) : TE := fun σ H Q => ta σ H fun x H1 => ∃ c, x = .bl c ∧ if c = true then tb σ H1 Q else Q (.bl false) H1
def tOrV (ta tb : TE) : TE := fun σ H Q => ta σ H fun x H1 => ∃ c, x = .bl c ∧ if c = true then Q (.bl true) H1 else tb σ H1 Q
def tNotV (ta : TE) : TE := fun σ H Q => ta σ H fun x H1 => ∃ c, x = .bl c ∧ Q (.bl (!c)) H1
theorem pe_one {op} {t : TE} (h : PE X a t) : PE X (.BoolOp op [a] pos) t := fun pins s σ H Q I hw => BoolOp_one (h pins s σ H Q I hw)
theorem pe_and (ha : PE X a ta) (hb : PE X (.BoolOp .And (b :: rest) pos) tb) : PE X (.BoolOp .And (a :: b :: rest) pos) (tAndV ta tb) := by
  intro pins s σ H Q I h
  refine BoolOp_and (thn (ha pins s σ H _ I h) fun v s1 ⟨x, H1, I1, r1, q1⟩ => ?_)
  obtain ⟨c, rfl, q1⟩ := q1
  cases r1
  refine wpAny_truthy_bool ?_
  cases c with
  | true => exact hb pins s1 σ H1 Q I1 q1
  | false => exact ⟨.bl false, H1, I1, rfl, q1⟩
theorem pe_or (ha : PE X a ta) (hb : PE X (.BoolOp .Or (b :: rest) pos) tb) : PE X (.BoolOp .Or (a :: b :: rest) pos) (tOrV ta tb) := by
  intro pins s σ H Q I h
  refine BoolOp_or (thn (ha pins s σ H _ I h) fun v s1 ⟨x, H1, I1, r1, q1⟩ => ?_)
  obtain ⟨c, rfl, q1⟩ := q1
  cases r1
  refine wpAny_truthy_bool ?_
  cases c with
  | false => exact hb pins s1 σ H1 Q I1 q1
  | true => exact ⟨.bl true, H1, I1, rfl, q1⟩
theorem pe_not (ha : PE X a ta) : PE X (.UnaryOp .Not a pos) (tNotV ta) := by
  intro pins s σ H Q I h
  refine UnaryOp_ (thn (ha pins s σ H _ I h) fun v s1 ⟨x, H1, I1, r1, q1⟩ => ?_)
  obtain ⟨c, rfl, q1⟩ := q1
  cases r1
  exact not_of (wpAny_truthy_bool ⟨.bl (!c), H1, I1, rfl, q1⟩)
end
end L2

namespace L2
open PySem PySem.Spec PyProof.Rows

def SqL (K : PySem.W.Frag) (H : Hp) (a : Addr) (xs : List V) : Prop :=
  Rd H a (.lst xs) ∨
    ∃ (o : Obj) (its : Array Value) (n : Nat), K.lookup a = some o ∧ o.cls = .type "list" ∧ o.dict = none ∧ o.data = .seq its n ∧ its.size ≤ sizeLine ∧ Vals xs its.toList
def SqT (K : PySem.W.Frag) (H : Hp) (a : Addr) (xs : List V) : Prop :=
  Rd H a (.tup xs) ∨
    ∃ (o : Obj) (its : Array Value) (n : Nat), K.lookup a = some o ∧ o.cls = .type "tuple" ∧ o.data = .seq its n ∧ its.size ≤ sizeLine ∧ Vals xs its.toList
def absV : Value → Option V
  | .none => some .non
  | .bool b => some (.bl b)
  | .int i _ => some (.int i)
  | .str x _ => some (.str x)
  | .bytes b _ => some (.byt b)
  | .float b _ => some (.flt b)
  | .ref a => some (.ref a)
  | .type n => some (.ty n)
  | _ => none
theorem RelV.abs {x : V} {u : Value} (r : RelV x u) : absV u = some x := by
  cases x with
  | non => cases r; rfl
  | bl _ => cases r; rfl
  | int _ => obtain ⟨t, rfl⟩ := r; rfl
  | str _ => obtain ⟨t, rfl⟩ := r; rfl
  | byt _ => obtain ⟨t, rfl⟩ := r; rfl
  | flt _ => obtain ⟨t, rfl⟩ := r; rfl
  | ref _ => cases r; rfl
  | ty _ => cases r; rfl
theorem RelV.inj {x y : V} {u : Value} (r : RelV x u) (q : RelV y u) : x = y := Option.some.inj (r.abs.symm.trans q.abs)
theorem Vals.inj : ∀ {xs ys : List V} {us : List Value}, Vals xs us → Vals ys us → xs = ys
  | _, _, _, .nil, .nil => rfl
  | _, _, _, .cons r t, .cons r' t' => by rw [r.inj r', Vals.inj t t']
section
variable {X : Cx} {pins : List (Addr × Obj)} {σ : St} {H : Hp} {s : Shared} {a : Addr} {xs ys : List V}
theorem SqL.of {K : PySem.W.Frag} (h : H a = some (.lst xs)) : SqL K H a xs := .inl (.inl h)
theorem SqT.of {K : PySem.W.Frag} (h : H a = some (.tup xs)) : SqT K H a xs := .inl (.inl h)
theorem Inv.list (I : Inv X pins σ H s) (h : SqL X.K H a xs) : ∃ its : List Value, Vals xs its ∧ PlainL s.heap a its.toArray ∧ xs.length ≤ sizeLine := by
  rcases h with h | ⟨o, its, n, hk, hc, hd, hs, hz, r⟩
  · obtain ⟨z, its, n, r, e⟩ := h.ok I.hok
    exact ⟨its, r, ⟨_, n, e, rfl, rfl, rfl⟩, z⟩
  · refine ⟨its.toList, r, ⟨o, n, I.kIn a o hk, hc, hd, by simpa using hs⟩, ?_⟩
    have e := r.length
    simp only [Array.length_toList] at e
    omega
theorem Inv.tuple (I : Inv X pins σ H s) (h : SqT X.K H a xs) : ∃ its : List Value, Vals xs its ∧ IsTup s.heap a its.toArray ∧ xs.length ≤ sizeLine := by
  rcases h with h | ⟨o, its, n, hk, hc, hs, hz, r⟩
  · obtain ⟨z, its, r, p⟩ := h.ok I.hok
    exact ⟨its, r, p, z⟩
  · refine ⟨its.toList, r, ⟨o, I.kIn a o hk, hc, n, by simpa using hs⟩, ?_⟩
    have e := r.length
    simp only [Array.length_toList] at e
    omega
theorem Inv.list_inj (I : Inv X pins σ H s) (h : SqL X.K H a xs) (h' : SqL X.K H a ys) : xs = ys := by
  obtain ⟨its, r, ⟨o, n, e, _, _, d⟩, _⟩ := I.list h
  obtain ⟨its', r', ⟨o', n', e', _, _, d'⟩, _⟩ := I.list h'
  rw [e] at e'; cases e'
  rw [d] at d'
  injection d' with d1 _
  have : its = its' := by simpa using congrArg Array.toList d1
  subst this
  exact r.inj r'
end

abbrev Cx.wish (X : Cx) (E : Value → Shared → Prop) : Cx := { X with xe := E }
/-- no exception leaves -/
abbrev Cx.nox (X : Cx) : Cx := X.wish fun _ _ => False
theorem Cx.Ok.wish {X : Cx} (ok : X.Ok) (E : Value → Shared → Prop) : (X.wish E).Ok :=
  ⟨ok.mod, ok.kind, ok.glob, ok.blt, ok.above, ok.inj, ok.has, ok.cab, ok.hd, ok.frames, ok.stk, ok.exf, ok.bs, ok.bsz, ok.noex, ok.exfs, ok.funs, ok.frf⟩
theorem Cx.Ok.unwish {X : Cx} {E : Value → Shared → Prop} (ok : (X.wish E).Ok) : X.Ok :=
  ⟨ok.mod, ok.kind, ok.glob, ok.blt, ok.above, ok.inj, ok.has, ok.cab, ok.hd, ok.frames, ok.stk, ok.exf, ok.bs, ok.bsz, ok.noex, ok.exfs, ok.funs, ok.frf⟩
section
variable {X : Cx} {pins : List (Addr × Obj)} {σ : St} {H : Hp} {s : Shared} {E : Value → Shared → Prop}
theorem Inv.wish (I : Inv X pins σ H s) (E : Value → Shared → Prop) : Inv (X.wish E) pins σ H s := ⟨I.ok.wish E, I.os, I.bare, I.base, I.loc, I.cell, I.free, I.freeC, I.pin, I.hok, I.len⟩
theorem Inv.unwish (I : Inv (X.wish E) pins σ H s) : Inv X pins σ H s := ⟨I.ok.unwish, I.os, I.bare, I.base, I.loc, I.cell, I.free, I.freeC, I.pin, I.hok, I.len⟩
theorem SP.unwish {D : Ends} {f : Flow} {s' : Shared} (h : SP (X.wish E) pins D f s') : SP X pins D f s' := by
  cases f with
  | next => obtain ⟨σ', H', I, q⟩ := h; exact ⟨σ', H', I.unwish, q⟩
  | brk => obtain ⟨σ', H', I, q⟩ := h; exact ⟨σ', H', I.unwish, q⟩
  | cont => obtain ⟨σ', H', I, q⟩ := h; exact ⟨σ', H', I.unwish, q⟩
  | ret u => obtain ⟨v, σ', H', I, r, q⟩ := h; exact ⟨v, σ', H', I.unwish, r, q⟩
theorem PSs.nox {st : List Stmt} {t : TS} (h : PSs X.nox st t) : PSs X st t := fun pins s σ H D I hw =>
  wpAny_mono (h pins s σ H D (I.wish _) hw) (fun _ _ q => q.unwish) fun _ _ z => False.elim z
end

section
variable {X : Cx} {st : Stmt} {rest : List Stmt} {t u : TS} {e : Expr} {te : TE} {pos : Pos}
def tNext : TS := fun D σ H => D.nx σ H
def tSeq (t u : TS) : TS := fun D σ H => t { D with nx := u D } σ H
theorem pss_nil : PSs X [] tNext := fun _ _ σ H _ I h => wpAny_execs_nil ⟨σ, H, I, h⟩
theorem pss_cons (h1 : PS X st t) (h2 : PSs X rest u) : PSs X (st :: rest) (tSeq t u) := by
  intro pins s σ H D I h
  refine wpAny_execs_cons (thn (h1 pins s σ H { D with nx := u D } I h) fun f s1 q => ?_)
  cases f with
  | next =>
    obtain ⟨σ', H', I', q⟩ := q
    exact h2 pins s1 σ' H' D I' q
  | ret v => exact q
  | brk => exact q
  | cont => exact q
theorem pss_one (h1 : PS X st t) : PSs X [st] t := by
  intro pins s σ H D I h
  refine wpAny_execs_cons (thn (h1 pins s σ H D I h) fun f s1 q => ?_)
  cases f with
  | next => exact wpAny_execs_nil q
  | ret v => exact q
  | brk => exact q
  | cont => exact q
/-- in a def's body nothing is shown -/
theorem Inv.quiet {pins : List (Addr × Obj)} {σ : St} {H : Hp} {s : Shared} (I : Inv X pins σ H s) : interactive X.env = false := by simp [interactive, I.ok.kind]
/-- an expression whose value is dropped -/
def tDrop (te : TE) : TS := fun D σ H => te σ H fun _ H1 => D.nx σ H1
theorem ps_expr (he : PE X e te) (hs : swapsWith e none pos.line X.env = pure false := by rfl) : PS X (.Expr e pos) (tDrop te) := by
  intro pins s σ H D I h
  exact wpAny_Expr_any (thn (he pins s σ H _ I h) fun v s1 ⟨x, H1, I1, r1, q1⟩ => ⟨σ, H1, I1, q1⟩) I.quiet hs
def tRet (te : TE) : TS := fun D σ H => te σ H D.rt
theorem ps_ret (he : PE X e te) : PS X (.Return (some e) pos) (tRet te) := by
  intro pins s σ H D I h
  exact wpAny_Return_some (thn (he pins s σ H _ I h) fun v s1 ⟨x, H1, I1, r1, q1⟩ => ⟨x, σ, H1, I1, r1, q1⟩)
def tIfS (c : TT) (t u : TS) : TS := fun D σ H => c σ H fun b H1 => if b = true then t D σ H1 else u D σ H1
theorem ps_if {c : Expr} {a b : List Stmt} {tc : TT} (hc : PT X c tc) (ha : PSs X a t) (hb : PSs X b u) : PS X (.If c a b pos) (tIfS tc t u) := by
  intro pins s σ H D I h
  refine wpAny_If (thn (hc pins s σ H _ I h) fun d s1 ⟨H1, I1, q1⟩ => ?_)
  cases d with
  | true => exact ha pins s1 σ H1 D I1 q1
  | false => exact hb pins s1 σ H1 D I1 q1
/-- code that the proof never comes to -/
def tNever : TS := fun _ _ _ => False
theorem ps_never : PS X st tNever := fun _ _ _ _ _ _ h => h.elim
end

abbrev TG := V → St → Hp → (St → Hp → Prop) → Prop
abbrev TGs := List V → St → Hp → (St → Hp → Prop) → Prop
def PG (X : Cx) (target : Expr) (t : TG) : Prop :=
  ∀ (pins : List (Addr × Obj)) (s : Shared) (σ : St) (H : Hp) (v : V) (u : Value) (Q : St → Hp → Prop), Inv X pins σ H s → RelV v u → t v σ H Q →
    wpAny (model X.prog X.w) X.A (assign target X.env u) (fun _ s' => ∃ σ' H', Inv X pins σ' H' s' ∧ Q σ' H') X.xe s
/-- several targets, one after another -/
def PGs (X : Cx) (ts : List Expr) (t : TGs) : Prop :=
  ∀ (pins : List (Addr × Obj)) (s : Shared) (σ : St) (H : Hp) (vs : List V) (us : List Value) (Q : St → Hp → Prop), Inv X pins σ H s → Vals vs us → t vs σ H Q →
    wpAny (model X.prog X.w) X.A (assignInOrder ((assignEach ts X.env).map (·.2)) us) (fun _ s' => ∃ σ' H', Inv X pins σ' H' s' ∧ Q σ' H') X.xe s
/-- o[i] = v, by values -/
abbrev TSet := V → V → V → Hp → (Hp → Prop) → Prop
def PSet (X : Cx) (t : TSet) : Prop :=
  ∀ (pins : List (Addr × Obj)) (s : Shared) (σ : St) (H : Hp) (o i v : V) (ov iv u : Value) (Q : Hp → Prop), Inv X pins σ H s → RelV o ov → RelV i iv → RelV v u → t o i v H Q →
    wpAny (model X.prog X.w) X.A (setItem ov iv u) (fun _ s' => ∃ H', Inv X pins σ H' s' ∧ Q H') X.xe s
section
variable {X : Cx} {pos : Pos}
def gName (i : Nat) : TG := fun v σ H Q => Q (σ.set i (some v)) H
theorem pg_name {i : Nat} {x : Str} (hN : X.N.Nodup) (hi : X.N[i]? = some x) (hx : Loc X.env.scope x) (hf : X.fn x = true ∨ X.env.scope.names.lookup x = some .local := by first | exact .inl rfl | exact .inr rfl | assumption) : PG X (.Name x pos) (gName i) := by
  intro pins s σ H v u Q I r h
  exact wpAny_assign_Name (store_ok I hN hi hx r (fun s' I' => ⟨_, H, I', h⟩) hf)
def gNil : TGs := fun vs σ H Q => vs = [] ∧ Q σ H
inductive gCons (t : TG) (u : TGs) (vs : List V) (σ : St) (H : Hp) (Q : St → Hp → Prop) : Prop
  | mk : ∀ v r, (vs = v :: r) → (t v σ H fun σ' H' => u r σ' H' Q) → gCons t u vs σ H Q
theorem pgs_nil : PGs X [] gNil := by
  intro pins s σ H vs us Q I r h
  obtain ⟨e, h⟩ := h
  subst e
  cases r
  exact assignInOrder_nil ⟨σ, H, I, h⟩
theorem pgs_cons {e : Expr} {es : List Expr} {t : TG} {u : TGs} (h1 : PG X e t) (h2 : PGs X es u)
    (hs : (assignEach (e :: es) X.env).map (·.2) = assign e X.env :: (assignEach es X.env).map (·.2) := by rfl) : PGs X (e :: es) (gCons t u) := by
  intro pins s σ H vs us Q I r h
  obtain ⟨v, vr, e1, h⟩ := h
  subst e1
  cases r with
  | cons r rr =>
    rw [hs]
    refine assignInOrder_cons (thn (h1 pins s σ H _ _ _ I r h) fun _ s1 ⟨σ1, H1, I1, q1⟩ => ?_)
    exact h2 pins s1 σ1 H1 _ _ Q I1 rr q1
/-- (a, b, ..) = a tuple of that length -/
inductive gTup (K : PySem.W.Frag) (n : Nat) (t : TGs) (v : V) (σ : St) (H : Hp) (Q : St → Hp → Prop) : Prop
  | mk : ∀ a xs, (v = .ref a) → (SqT K H a xs) → (xs.length = n) → (t xs σ H Q) → gTup K n t v σ H Q
theorem pg_tup {es : List Expr} {k : Nat} {t : TGs} {n : Nat} (hc : X.calm = true) (h : PGs X es t)
    (hn : (assignEach es X.env).length = n := by rfl) (hst : (assignEach es X.env).findIdx? (·.1) = none := by rfl) : PG X (.Tuple es k pos) (gTup X.K n t) := by
  intro pins s σ H v u Q I r hw
  obtain ⟨a, xs, e1, hq, hl, hw⟩ := hw
  subst e1
  cases r
  obtain ⟨its, rv, ht, hz⟩ := I.tuple hq
  refine assign_Tuple_tuple (I.ok.hd hc) ht (by simp [hn, ← hl, rv.length]) hst fun h' hx => ?_
  have I1 : Inv X pins σ H { s with heap := h' } := I.kept (t' := s.toks) fun b o e => hx b o (Nat.ne_of_lt (Heap.lt_size e)) e
  exact h pins _ σ H xs _ Q I1 (by simpa using rv) hw
/-- o[i] = .. -/
def gSub (to ti : TE) (t : TSet) : TG := fun v σ H Q => to σ H fun o H1 => ti σ H1 fun i H2 => t o i v H2 fun H3 => Q σ H3
theorem pg_sub {o i : Expr} {to ti : TE} {t : TSet} (ho : PE X o to) (hi : PE X i ti) (hs : PSet X t)
    (ha : ∀ v, assign (.Subscript o i pos) X.env v = (do
      let ov ← holding [v] (eval o X.env)
      let iv ← holding [v, ov] (eval i X.env)
      standAt pos
      holding [v, ov, iv] (setItem ov iv v)
      release [v, ov, iv] []) := by intro _; rfl) : PG X (.Subscript o i pos) (gSub to ti t) := by
  intro pins s σ H v u Q I r h
  rw [ha]
  refine wpAny_bind (wpAny_holding (thn (ho pins s σ H _ I h) fun ov s1 ⟨x, H1, I1, r1, q1⟩ => ?_))
  refine wpAny_bind (wpAny_holding (thn (hi pins s1 σ H1 _ I1 q1) fun iv s2 ⟨y, H2, I2, r2, q2⟩ => ?_))
  refine wpAny_bind (wpAny_standAt (wpAny_bind (wpAny_holding (thn (hs pins s2 σ H2 x y v ov iv u _ I2 r1 r2 r q2) fun _ s3 ⟨H3, I3, q3⟩ => ?_))))
  exact wpAny_release ⟨σ, H3, I3, q3⟩
/-- target = value -/
def tAsg (te : TE) (g : TG) : TS := fun D σ H => te σ H fun x H1 => g x σ H1 D.nx
theorem ps_asg {tg e : Expr} {te : TE} {g : TG} (he : PE X e te) (hg : PG X tg g) (hs : swapsWithSole [tg] e pos.line X.env = pure false := by rfl) (hw : swappedStores [tg] e X.env = pure none := by rfl)
    (h1 : (assignEach [tg] X.env).map (·.2) = [assign tg X.env] := by rfl) : PS X (.Assign [tg] e pos) (tAsg te g) := by
  intro pins s σ H D I h
  refine wpAny_Assign_stores (thn (he pins s σ H _ I h) fun v s1 ⟨x, H1, I1, r1, q1⟩ => ?_) hs hw
  rw [h1]
  exact thn (hg pins s1 σ H1 x v _ I1 r1 q1) fun _ s2 q => q
/-- name = value -/
theorem ps_set {i : Nat} {x : Str} {e : Expr} {te : TE} {pos' : Pos} (hN : X.N.Nodup) (hi : X.N[i]? = some x) (hx : Loc X.env.scope x) (he : PE X e te) (hs : swapsWith e (some (.Name x pos')) pos.line X.env = pure false := by rfl) (hf : X.fn x = true ∨ X.env.scope.names.lookup x = some .local := by first | exact .inl rfl | exact .inr rfl | assumption) :
    PS X (.Assign [.Name x pos'] e pos) (tAsg te (gName i)) := by
  intro pins s σ H D I h
  refine wpAny_Assign_Name (thn (he pins s σ H _ I h) fun v s1 ⟨y, H1, I1, r1, q1⟩ => ?_) hs
  exact store_ok I1 hN hi hx r1 (fun s2 I2 => ⟨_, H1, I2, q1⟩) hf
end

section
variable {X : Cx} {pos : Pos}
end

/-- at turn i: it yields x (the heap may grow), or it stops -/
structure It where
  go : Nat → Hp → Prop
  yld : Nat → Hp → V → Hp → Prop
  stop : Nat → Hp → Prop
/-- the iterator's own objects may turn: they are not the frame's, not pinned, younger than the entry (or a comprehension's own) -/
def FpOk (X : Cx) (pins : List (Addr × Obj)) (H : Hp) (b : Addr) : Prop :=
  H b = none ∧ b ≠ X.env.locals ∧ b ∉ X.fs ∧ (b ∈ X.ex ∨ X.s₀.heap.objs.size ≤ b) ∧ (∀ x c, X.env.cells.lookup x = some c → c ≠ b) ∧ ∀ p ∈ X.pn ++ pins, p.1 ≠ b
theorem Inv.fpOk {X : Cx} {pins : List (Addr × Obj)} {σ : St} {H H' : Hp} {s : Shared} {b : Addr} (I : Inv X pins σ H s) (hb : s.heap.objs.size ≤ b) (hn : H' b = none) : FpOk X pins H' b := by
  refine ⟨hn, Nat.ne_of_gt (Nat.lt_of_lt_of_le I.lt hb), I.nofs hb, .inr (Nat.le_trans I.sz hb), fun x c e z => ?_, fun p hp z => ?_⟩
  · obtain ⟨v, q⟩ := I.cell x c e
    exact absurd (Nat.lt_of_lt_of_le q.lt (by rw [z]; exact hb)) (Nat.lt_irrefl _)
  · exact absurd (Nat.lt_of_lt_of_le (Heap.lt_size (I.pin p hp).1) (by rw [z]; exact hb)) (Nat.lt_irrefl _)
structure Turn (P : Program) (w : World) (K : PySem.W.Frag) (tg : Expr) (J : It) (fp : List Addr) (it : Addr) (tn : Nat → Heap → Prop) : Prop where
  mem : it ∈ fp
  obj : ∀ i h, tn i h → ∀ b ∈ fp, ∃ o, h.get? b = some o ∧ ∀ v, o.data ≠ .cell v
  keep : ∀ i h h', tn i h → (∀ b ∈ fp, ∀ o, h.get? b = some o → h'.get? b = some o) → tn i h'
  item : ∀ (X : Cx), X.prog = P → X.w = w → X.K = K → X.calm = true → ∀ (i : Nat) (pins : List (Addr × Obj)) (s : Shared) (σ : St) (H : Hp) (E : Value → Shared → Prop), Inv X pins σ H s → (∀ b ∈ fp, FpOk X pins H b) → tn i s.heap → J.go i H →
    wpAny (model P w) X.A (pyNext (.ref it)) (fun r s1 => ∃ u, r = some u ∧
      wpAny (model P w) X.A (letOwnedTupleGo tg (.ref it) u) (fun _ s2 => ∃ x H', Inv X pins σ H' s2 ∧ RelV x u ∧ J.yld i H x H' ∧ tn (i + 1) s2.heap ∧ ∀ b ∈ fp, H' b = none) E s1) E s
  done : ∀ (X : Cx), X.prog = P → X.w = w → X.K = K → X.calm = true → ∀ (i : Nat) (pins : List (Addr × Obj)) (s : Shared) (σ : St) (H : Hp) (E : Value → Shared → Prop), Inv X pins σ H s → (∀ b ∈ fp, FpOk X pins H b) → tn i s.heap → J.stop i H →
    wpAny (model P w) X.A (pyNext (.ref it)) (fun r s1 => r = none ∧ Inv X pins σ H s1) E s
  self : ∀ (A : Around) (i : Nat) (s : Shared) (Q : Value → Shared → Prop) (E : Value → Shared → Prop), tn i s.heap → Q (.ref it) s → wpAny (model P w) A (pyIter (.ref it)) Q E s
abbrev TI := St → Hp → (It → Hp → Prop) → Prop
/-- an iterator has come -/
def PIE (X : Cx) (pins : List (Addr × Obj)) (σ : St) (tg : Expr) (R : It → Hp → Prop) (itv : Value) (s2 : Shared) : Prop :=
  ∃ (it : Addr) (fp : List Addr) (tn : Nat → Heap → Prop) (J : It) (H' : Hp), itv = .ref it ∧ Inv X pins σ H' s2 ∧ Turn X.prog X.w X.K tg J fp it tn ∧ tn 0 s2.heap ∧ (∀ b ∈ fp, FpOk X pins H' b) ∧ R J H'
def PI (X : Cx) (tg iter : Expr) (wi : TI) : Prop :=
  ∀ (pins : List (Addr × Obj)) (s : Shared) (σ : St) (H : Hp) (R : It → Hp → Prop), Inv X pins σ H s → wi σ H R →
    wpAny (model X.prog X.w) X.A (eval iter X.env) (fun v s1 => wpAny (model X.prog X.w) X.A (pyIter v) (PIE X pins σ tg R) X.xe s1) X.xe s

/-- the step ahead of the store is nothing for an iterator that keeps no tuple -/
theorem go_of {M : Model} {A : Around} {E : Value → Shared → Prop} {s : Shared} {tg : Expr} {it : Addr} {u : Value} {o : Obj} {n : String} {vs : Array Value} {Q : Unit → Shared → Prop} (ho : s.heap.get? it = some o) (hc : o.cls = .type n) (hd : o.data = .fields vs)
    (hn : ["enumerate", "zip", "dict_itemiterator", "dict_reverseitemiterator", "odict_iterator", "itertools.zip_longest", "itertools.pairwise"].contains n = false) (hQ : Q () s) : wpAny M A (letOwnedTupleGo tg (.ref it) u) Q E s := by
  unfold letOwnedTupleGo
  cases tg <;> first
    | exact wpAny_pure hQ
    | (cases u <;> first
        | exact wpAny_pure hQ
        | (refine wpAny_bind (wpAny_load ho ?_)
           rw [hc, hd]
           show wpAny M A (if (["enumerate", "zip", "dict_itemiterator", "dict_reverseitemiterator", "odict_iterator", "itertools.zip_longest", "itertools.pairwise"].contains n && vs[0]? == some (rawInt _)) = true then _ else _) Q E s
           rw [if_neg (by intro h; rw [hn, Bool.false_and] at h; cases h)]
           exact wpAny_pure hQ))

/-- the list at a, as it stands at each turn (a loop may append to it) -/
def Itl (K : PySem.W.Frag) (a : Addr) : It :=
  ⟨fun i H => ∃ xs x, SqL K H a xs ∧ xs[i]? = some x, fun i H x H' => H' = H ∧ ∀ xs, SqL K H a xs → xs[i]? = some x, fun i H => ∃ xs, SqL K H a xs ∧ xs.length ≤ i⟩
/-- lo, lo + 1, .. (n of them) -/
def Itr (lo : Int) (n : Nat) : It := ⟨fun i _ => i < n, fun i H x H' => H' = H ∧ x = .int (lo + i), fun i _ => n ≤ i⟩
theorem turn_list {P : Program} {w : World} {K : PySem.W.Frag} {tg : Expr} (a it : Addr) : Turn P w K tg (Itl K a) [it] it (fun i h => h.IsListIter it a i) where
  mem := by simp
  obj := fun i h st b hb => by
    have e : b = it := by simpa using hb
    subst e
    obtain ⟨o, e, c, d⟩ := st
    exact ⟨o, e, fun v z => by rw [d] at z; cases z⟩
  keep := fun i h h' st k => st.at fun o e => k it (by simp) o e
  item := by
    intro X hP hw hK hc i pins s σ H E I hf st hg
    subst hP hw hK
    obtain ⟨xs, x, hq, hx⟩ := hg
    obtain ⟨its, rv, p, hz⟩ := I.list hq
    obtain ⟨u, hu, ru⟩ := rv.get hx
    obtain ⟨f0, f1, f2, f3, f4, f5⟩ := hf it (by simp)
    refine wpAny_pyNext_list_item st p.isList (x := u) (by simpa using hu) fun h' st' sb => ?_
    have I1 : Inv X pins σ H { s with heap := h' } := I.turned (t' := s.toks) (fun b o hb e => (sb.2 b hb).trans e) f0 f1 f3 f4 f5
    obtain ⟨o, e, c, d⟩ := id st'
    exact ⟨u, rfl, go_of (s := { s with heap := h' }) e c d (by decide) ⟨x, H, I1, ru, ⟨rfl, fun ys hy => by rw [I.list_inj hy hq]; exact hx⟩, st', fun b hb => (hf b hb).1⟩⟩
  done := by
    intro X hP hw hK hc i pins s σ H E I hf st hg
    subst hP hw hK
    obtain ⟨xs, hq, hx⟩ := hg
    obtain ⟨its, rv, p, hz⟩ := I.list hq
    obtain ⟨f0, f1, f2, f3, f4, f5⟩ := hf it (by simp)
    have hl := rv.length
    exact wpAny_pyNext_list_end (I.ok.hd hc) st p.isList (by simp; omega) fun h' eb => ⟨rfl, I.turned (t' := s.toks) (fun b o hb e => eb b o hb e) f0 f1 f3 f4 f5⟩
  self := fun _ _ _ _ _ st h => wpAny_pyIter_listiter st h
theorem turn_range {P : Program} {w : World} {K : PySem.W.Frag} {tg : Expr} (it : Addr) (lo : Int) (n : Nat) : Turn P w K tg (Itr lo n) [it] it (fun i h => IsRangeIter h it (lo + (i : Nat) * 1) ((n : Int) - (i : Nat)) 1) where
  mem := by simp
  obj := fun i h st b hb => by
    have e : b = it := by simpa using hb
    subst e
    exact ⟨_, st, fun v z => by
      have z' : Data.fields _ = Data.cell v := z
      cases z'⟩
  keep := fun i h h' st k => k it (by simp) _ st
  item := by
    intro X hP hw hK hc i pins s σ H E I hf st hg
    subst hP hw hK
    obtain ⟨f0, f1, f2, f3, f4, f5⟩ := hf it (by simp)
    have W := Walks.range (prog := X.prog) (w := X.w) (I.ok.hd hc) it lo 1 n
    refine W.item i s _ _ hg st fun v h' tk hv st' kk => ?_
    obtain ⟨t, rfl⟩ := hv
    have I1 : Inv X pins σ H { s with heap := h', toks := tk } := I.turned (fun b o hb e => kk b o (by simpa using hb) e) f0 f1 f3 f4 f5
    refine ⟨_, rfl, go_of (s := { s with heap := h', toks := tk }) (n := "range_iterator") st' rfl rfl (by decide) ⟨.int (lo + i), H, I1, ⟨t, ?_⟩, ⟨rfl, rfl⟩, st', fun b hb => (hf b hb).1⟩⟩
    rw [Int.mul_one]
  done := by
    intro X hP hw hK hc i pins s σ H E I hf st hg
    subst hP hw hK
    obtain ⟨f0, f1, f2, f3, f4, f5⟩ := hf it (by simp)
    exact wpAny_pyNext_range_end (I.ok.hd hc) st (by have : n ≤ i := hg; omega) fun h' eb => ⟨rfl, I.turned (t' := s.toks) (fun b o hb e => eb b o hb e) f0 f1 f3 f4 f5⟩
  self := fun _ _ _ _ _ st h => wpAny_pyIter_rangeiter st h
end L2

namespace L2
open PySem PySem.Spec PyProof.Rows
section
variable {X : Cx} {tg : Expr}
def iList (K : PySem.W.Frag) (tl : TE) : TI := fun σ H R => tl σ H fun x H1 => ∃ a, x = .ref a ∧ (∃ xs, SqL K H1 a xs) ∧ R (Itl K a) H1
theorem pi_list {l : Expr} {tl : TE} (hl : PE X l tl) : PI X tg l (iList X.K tl) := by
  intro pins s σ H R I h
  refine thn (hl pins s σ H _ I h) fun v s1 ⟨x, H1, I1, r1, q1⟩ => ?_
  obtain ⟨a, e, ⟨xs, hq⟩, q⟩ := q1
  subst e
  cases r1
  obtain ⟨its, rv, p, hz⟩ := I1.list hq
  refine wpAny_pyIter_list p.isList ?_
  refine ⟨s1.heap.objs.size, [s1.heap.objs.size], _, _, H1, rfl, I1.kept (t' := s1.toks) fun b o e => Heap.get?_push_of_some _ e, turn_list a _, ⟨_, Heap.get?_push_size _ rfl, rfl, rfl⟩, fun b hb => ?_, q⟩
  have e : b = s1.heap.objs.size := by simpa using hb
  subst e
  exact I1.fpOk (Nat.le_refl _) (I1.hok.fresh (Nat.le_refl _))
/-- a range object just made, walked -/
theorem range_it {pins : List (Addr × Obj)} {σ : St} {H : Hp} {s : Shared} {R : It → Hp → Prop} {E : Value → Shared → Prop} {lo hi : Int} {t u v : Tok} {tk : Nat} (I : Inv X pins σ H s) (h1 : -(2 ^ 62) ≤ lo) (h2 : lo < 2 ^ 62) (h3 : -(2 ^ 62) ≤ hi) (h4 : hi < 2 ^ 62)
    (q : R (Itr lo (hi - lo).toNat) H) : wpAny (model X.prog X.w) X.A (pyIter (.ref s.heap.objs.size)) (PIE X pins σ tg R) E { s with heap := s.heap.push { cls := .type "range", data := .fields #[.int lo t, .int hi u, .int 1 v] }, toks := tk } := by
  refine wpAny_pyIter_range (IsRange.new ..) (small_one h1 h2 h3 h4) ?_
  have I1 : Inv X pins σ H { s with heap := s.heap.push { cls := .type "range", data := .fields #[.int lo t, .int hi u, .int 1 v] }, toks := tk } := I.kept fun b o e => Heap.get?_push_of_some _ e
  refine ⟨(s.heap.push { cls := .type "range", data := .fields #[.int lo t, .int hi u, .int 1 v] }).objs.size, [(s.heap.push { cls := .type "range", data := .fields #[.int lo t, .int hi u, .int 1 v] }).objs.size], _, _, H, rfl,
    I1.kept (t' := tk) fun b o e => Heap.get?_push_of_some _ e, turn_range _ lo (hi - lo).toNat, ?_, fun b hb => ?_, q⟩
  · have e1 : lo + ((0 : Nat) : Int) * 1 = lo := by simp
    have e2 : (((hi - lo).toNat : Nat) : Int) - ((0 : Nat) : Int) = Builtin.Range.rangeSize lo hi 1 := by rw [rangeSize_one]; split <;> omega
    show IsRangeIter _ _ (lo + ((0 : Nat) : Int) * 1) ((((hi - lo).toNat : Nat) : Int) - ((0 : Nat) : Int)) 1
    rw [e1, e2]
    exact Heap.get?_push_size _ rfl
  · have e : b = (s.heap.push { cls := .type "range", data := .fields #[.int lo t, .int hi u, .int 1 v] }).objs.size := by simpa using hb
    subst e
    exact I1.fpOk (Nat.le_refl _) (I1.hok.fresh (Nat.le_refl _))
def iRng1 (ta : TA) : TI := fun σ H R => ta σ H fun vs H1 => ∃ j : Int, vs = [.int j] ∧ -(2 ^ 62) ≤ j ∧ j < 2 ^ 62 ∧ R (Itr 0 j.toNat) H1
def iRng2 (ta : TA) : TI := fun σ H R => ta σ H fun vs H1 => ∃ i j : Int, vs = [.int i, .int j] ∧ (-(2 ^ 62) ≤ i ∧ i < 2 ^ 62 ∧ -(2 ^ 62) ≤ j ∧ j < 2 ^ 62) ∧ R (Itr i (j - i).toNat) H1
theorem pi_range1 {a : Expr} {ta : TA} {p pos : Pos} (hg : Gl X "range") (hm : X.mg "range" = none) (ha : PA X [a] ta) (hs : starEach [a] X.env = [(false, eval a X.env)] := by rfl) : PI X tg (.Call (.Name "range" p) [a] [] pos) (iRng1 ta) := by
  intro pins s σ H R I h
  refine Call_ (ld_blt I hg hm boot_range (PyProof.Rows.callWith_type1 (thn (ha pos pins s σ H _ I h) fun us s1 ⟨vs, H1, I1, r1, q1⟩ => ?_) hs rfl))
  obtain ⟨j, e, q1, q2, q⟩ := q1
  subst e
  cases r1 with
  | cons r rr =>
    cases rr
    obtain ⟨t, rfl⟩ := r
    exact call_range_1 (range_it I1 (by omega) (by omega) q1 q2 (by simpa using q))
theorem pi_range2 {a b : Expr} {ta : TA} {p pos : Pos} (hg : Gl X "range") (hm : X.mg "range" = none) (ha : PA X [a, b] ta) (hs : starEach [a, b] X.env = [(false, eval a X.env), (false, eval b X.env)] := by rfl) (hs2 : starEach [b] X.env = [(false, eval b X.env)] := by rfl) :
    PI X tg (.Call (.Name "range" p) [a, b] [] pos) (iRng2 ta) := by
  intro pins s σ H R I h
  refine Call_ (ld_blt I hg hm boot_range (PyProof.Rows.callWith_type1 (thn (ha pos pins s σ H _ I h) fun us s1 ⟨vs, H1, I1, r1, q1⟩ => ?_) (by rw [hs, hs2]) (by rw [hs2]; rfl)))
  obtain ⟨i, j, e, ⟨q1, q2, q3, q4⟩, q⟩ := q1
  subst e
  cases r1 with
  | cons r rr =>
    cases rr with
    | cons r' rr =>
      cases rr
      obtain ⟨t, rfl⟩ := r
      obtain ⟨t', rfl⟩ := r'
      exact call_range_2 (range_it I1 q1 q2 q3 q4 q)

/-- W: the invariant by the turn and a measure; N: what the body is to reach -/
def tFor (wi : TI) (g : TG) (tb : TS) : TS := fun D σ H => wi σ H fun J H1 => ∃ W : Nat → Nat → St → Hp → Prop, (∃ m, W 0 m σ H1) ∧ ∀ i m σ H, W i m σ H →
  (J.stop i H ∧ D.nx σ H) ∨ (J.go i H ∧ ∃ N : St → Hp → Prop, (∀ σ' H', N σ' H' → ∃ m', m' < m ∧ W (i + 1) m' σ' H') ∧ ∀ x H', J.yld i H x H' → g x σ H' fun σ2 H2 => tb { D with nx := N, ct := N, bk := D.nx } σ2 H2)
/-- the records at fp as they stand -/
def pinsAt (fp : List Addr) (h : Heap) : List (Addr × Obj) := fp.filterMap fun b => (h.get? b).map fun o => (b, o)
theorem mem_pinsAt {fp : List Addr} {h : Heap} {b : Addr} {o : Obj} (hb : b ∈ fp) (e : h.get? b = some o) : (b, o) ∈ pinsAt fp h := List.mem_filterMap.mpr ⟨b, hb, by rw [e]; rfl⟩
theorem of_pinsAt {fp : List Addr} {h : Heap} {p : Addr × Obj} (hp : p ∈ pinsAt fp h) : p.1 ∈ fp ∧ h.get? p.1 = some p.2 := by
  obtain ⟨b, hb, e⟩ := List.mem_filterMap.mp hp
  cases q : h.get? b with
  | none => rw [q] at e; cases e
  | some o =>
    rw [q] at e
    have e' : (b, o) = p := Option.some.inj e
    subst e'
    exact ⟨hb, q⟩
theorem Inv.pinned {pins : List (Addr × Obj)} {σ : St} {H : Hp} {s : Shared} {fp : List Addr} (I : Inv X pins σ H s) (hf : ∀ b ∈ fp, FpOk X pins H b) (ho : ∀ b ∈ fp, ∃ o, s.heap.get? b = some o ∧ ∀ v, o.data ≠ .cell v) : Inv X (pins ++ pinsAt fp s.heap) σ H s :=
  I.pins_of fun p hp => (List.mem_append.mp hp).elim (fun z => I.pin p (List.mem_append_right _ z)) fun z => by
    obtain ⟨hb, e⟩ := of_pinsAt z
    obtain ⟨f0, f1, f2, _⟩ := hf p.1 hb
    obtain ⟨o, e', d⟩ := ho p.1 hb
    rw [e] at e'; cases e'
    exact ⟨e, f0, f1, f2, d⟩
theorem Inv.unpinned {pins pl : List (Addr × Obj)} {σ : St} {H : Hp} {s : Shared} (I : Inv X (pins ++ pl) σ H s) : Inv X pins σ H s := I.pins_of fun p hp => I.pin p (List.mem_append_right _ (List.mem_append_left _ hp))
theorem ps_for {iter : Expr} {body : List Stmt} {wi : TI} {g : TG} {tb : TS} {pos : Pos} (hp : PassesOwn (model X.prog X.w) X.A X.env X.xe) (hc : X.calm = true) (hi : PI X tg iter wi) (hg : PG X tg g) (hb : PSs X body tb)
    (hs : ∀ x, foldedSetIterable iter X.env x = pure x := by intro _; rfl) : PS X (.For tg iter body [] pos) (tFor wi g tb) := by
  intro pins s σ H D I h
  refine wpAny_For (thn (hi pins s σ H _ I h) fun v s1 h1 => thn h1 fun itv s2 h2 => ?_) hs
  obtain ⟨it, fp, tn, J, H2, e, I2, T, st2, f2, W, ⟨m0, w0⟩, turn⟩ := h2
  subst e
  -- what stays true of the iterator's objects through the loop
  have stat : ∀ {H' : Hp}, (∀ b ∈ fp, H' b = none) → ∀ b ∈ fp, FpOk X pins H' b := fun hn b hb => ⟨hn b hb, (f2 b hb).2⟩
  refine codeAny_forLoop_any (fun n s' => ∃ i σ' H', Inv X pins σ' H' s' ∧ tn i s'.heap ∧ (∀ b ∈ fp, H' b = none) ∧ W i n σ' H') ?_ m0 ⟨0, σ, H2, I2, st2, fun b hb => (f2 b hb).1, w0⟩
  rintro n s3 ⟨i, σ3, H3, I3, st3, fr3, w3⟩
  rcases turn i n σ3 H3 w3 with ⟨stop, qn⟩ | ⟨go, N, hN, step⟩
  · refine wpAny_passesOwn hp (thn (T.done X rfl rfl rfl hc i pins s3 σ3 H3 X.xe I3 (stat fr3) st3 stop) fun r s4 ⟨hr, I4⟩ => ?_)
    subst hr
    exact wpAny_execs_nil ⟨σ3, H3, I4, qn⟩
  · refine wpAny_passesOwn hp (thn (T.item X rfl rfl rfl hc i pins s3 σ3 H3 X.xe I3 (stat fr3) st3 go) fun r s4 ⟨u, hr, h4⟩ => ?_)
    subst hr
    refine wpAny_passesOwn hp (thn h4 fun _ s5 ⟨x, H5, I5, r5, y5, st5, fr5⟩ => ?_)
    have I5' := I5.pinned (stat fr5) (T.obj _ _ st5)
    refine wpAny_passesOwn hp (thn (hg _ s5 σ3 H5 x u _ I5' r5 (step x H5 y5)) fun _ s6 ⟨σ6, H6, I6, q6⟩ => ?_)
    refine wpAny_passesOwn hp (thn (hb _ s6 σ6 H6 _ I6 q6) fun f s7 q7 => ?_)
    have again : ∀ {σ7 : St} {H7 : Hp}, Inv X (pins ++ pinsAt fp s5.heap) σ7 H7 s7 → N σ7 H7 → ∃ m, m < n ∧ ∃ i σ' H', Inv X pins σ' H' s7 ∧ tn i s7.heap ∧ (∀ b ∈ fp, H' b = none) ∧ W i m σ' H' := fun {σ7 H7} I7 n7 => by
      obtain ⟨m', hm, w7⟩ := hN σ7 H7 n7
      refine ⟨m', hm, i + 1, σ7, H7, I7.unpinned, T.keep _ _ _ st5 fun b hb o e => (I7.pin (b, o) (List.mem_append_right _ (List.mem_append_right _ (mem_pinsAt hb e)))).1, fun b hb => ?_, w7⟩
      obtain ⟨o, e, d⟩ := T.obj _ _ st5 b hb
      exact (I7.pin (b, o) (List.mem_append_right _ (List.mem_append_right _ (mem_pinsAt hb e)))).2.1
    cases f with
    | next => obtain ⟨σ7, H7, I7, n7⟩ := q7; exact again I7 n7
    | cont => obtain ⟨σ7, H7, I7, n7⟩ := q7; exact again I7 n7
    | brk => obtain ⟨σ7, H7, I7, q7⟩ := q7; exact ⟨σ7, H7, I7.unpinned, q7⟩
    | ret v => obtain ⟨x7, σ7, H7, I7, r7, q7⟩ := q7; exact ⟨x7, σ7, H7, I7.unpinned, r7, q7⟩
end

/-- over a list that the body leaves as it is -/
theorem for_list {K : PySem.W.Frag} {a : Addr} {xs : List V} {g : TG} {tb : TS} {D : Ends} {σ : St} {H : Hp} (Pv : Nat → St → Hp → Prop) (h0 : Pv 0 σ H) (hl : ∀ i σ H, i ≤ xs.length → Pv i σ H → SqL K H a xs)
    (hs : ∀ i x σ H, xs[i]? = some x → Pv i σ H → g x σ H fun σ2 H2 => tb { D with nx := Pv (i + 1), ct := Pv (i + 1), bk := D.nx } σ2 H2) (hd : ∀ σ H, Pv xs.length σ H → D.nx σ H) :
    ∃ W : Nat → Nat → St → Hp → Prop, (∃ m, W 0 m σ H) ∧ ∀ i m σ H, W i m σ H →
      ((Itl K a).stop i H ∧ D.nx σ H) ∨ ((Itl K a).go i H ∧ ∃ N : St → Hp → Prop, (∀ σ' H', N σ' H' → ∃ m', m' < m ∧ W (i + 1) m' σ' H') ∧ ∀ x H', (Itl K a).yld i H x H' → g x σ H' fun σ2 H2 => tb { D with nx := N, ct := N, bk := D.nx } σ2 H2) := by
  refine ⟨fun i m σ H => m = xs.length - i ∧ i ≤ xs.length ∧ Pv i σ H, ⟨xs.length, by simp, Nat.zero_le _, h0⟩, ?_⟩
  rintro i m σ H ⟨rfl, hi, p⟩
  have q := hl i σ H hi p
  by_cases hlt : i < xs.length
  · refine .inr ⟨⟨xs, xs[i], q, by simp [hlt]⟩, Pv (i + 1), fun σ' H' p' => ⟨xs.length - (i + 1), by omega, rfl, hlt, p'⟩, fun x H' y => ?_⟩
    obtain ⟨e, y⟩ := y
    subst e
    exact hs i x σ _ (y xs q) p
  · have e : i = xs.length := by omega
    subst e
    exact .inl ⟨⟨xs, q, Nat.le_refl _⟩, hd σ H p⟩
theorem for_range {lo : Int} {n : Nat} {g : TG} {tb : TS} {D : Ends} {σ : St} {H : Hp} (Pv : Nat → St → Hp → Prop) (h0 : Pv 0 σ H)
    (hs : ∀ i σ H, i < n → Pv i σ H → g (.int (lo + i)) σ H fun σ2 H2 => tb { D with nx := Pv (i + 1), ct := Pv (i + 1), bk := D.nx } σ2 H2) (hd : ∀ σ H, Pv n σ H → D.nx σ H) :
    ∃ W : Nat → Nat → St → Hp → Prop, (∃ m, W 0 m σ H) ∧ ∀ i m σ H, W i m σ H →
      ((Itr lo n).stop i H ∧ D.nx σ H) ∨ ((Itr lo n).go i H ∧ ∃ N : St → Hp → Prop, (∀ σ' H', N σ' H' → ∃ m', m' < m ∧ W (i + 1) m' σ' H') ∧ ∀ x H', (Itr lo n).yld i H x H' → g x σ H' fun σ2 H2 => tb { D with nx := N, ct := N, bk := D.nx } σ2 H2) := by
  refine ⟨fun i m σ H => m = n - i ∧ i ≤ n ∧ Pv i σ H, ⟨n, by simp, Nat.zero_le _, h0⟩, ?_⟩
  rintro i m σ H ⟨rfl, hi, p⟩
  by_cases hlt : i < n
  · refine .inr ⟨hlt, Pv (i + 1), fun σ' H' p' => ⟨n - (i + 1), by omega, rfl, hlt, p'⟩, fun x H' y => ?_⟩
    obtain ⟨e, y⟩ := y
    subst e y
    exact hs i σ _ hlt p
  · have e : i = n := by omega
    subst e
    exact .inl ⟨Nat.le_refl _, hd σ H p⟩
end L2

namespace L2
open PySem PySem.Spec PyProof.Rows

abbrev R2 := V → V → Hp → VK → Prop
/-- a two-place operation on values: f is binaryOp op, inplaceOp op or compareOp op -/
def OpR (X : Cx) (f : Value → Value → Sem Value) (r : R2) : Prop :=
  ∀ (pins : List (Addr × Obj)) (s : Shared) (σ : St) (H : Hp) (x y : V) (v u : Value) (Q : VK), Inv X pins σ H s → RelV x v → RelV y u → r x y H Q →
    wpAny (model X.prog X.w) X.A (f v u) (EP X pins σ Q) X.xe s
/-- a one-place operation -/
def UnR (X : Cx) (f : Value → Sem Value) (r : V → Hp → VK → Prop) : Prop :=
  ∀ (pins : List (Addr × Obj)) (s : Shared) (σ : St) (H : Hp) (x : V) (v : Value) (Q : VK), Inv X pins σ H s → RelV x v → r x H Q →
    wpAny (model X.prog X.w) X.A (f v) (EP X pins σ Q) X.xe s
/-- a call of a value that is known (a builtin, a type) with values -/
def CallR (X : Cx) (f : Value) (r : List V → Hp → VK → Prop) : Prop :=
  ∀ (pins : List (Addr × Obj)) (s : Shared) (σ : St) (H : Hp) (xs : List V) (us : List Value) (Q : VK), Inv X pins σ H s → Vals xs us → r xs H Q →
    wpAny (model X.prog X.w) X.A (call f us) (EP X pins σ Q) X.xe s
def tOp (r : R2) (ta tb : TE) : TE := fun σ H Q => ta σ H fun x H1 => tb σ H1 fun y H2 => r x y H2 Q
def tUn (r : V → Hp → VK → Prop) (ta : TE) : TE := fun σ H Q => ta σ H fun x H1 => r x H1 Q
/-- ints in, under C, and a value out -/
inductive rI (C : Int → Int → Prop) (g : Int → Int → V) (x : V) (y : V) (H : Hp) (Q : VK) : Prop
  | mk : ∀ i j, (x = .int i) → (y = .int j) → (C i j) → (Q (g i j) H) → rI C g x y H Q
inductive rI0 (g : Int → Int → V) (x : V) (y : V) (H : Hp) (Q : VK) : Prop
  | mk : ∀ i j, (x = .int i) → (y = .int j) → (Q (g i j) H) → rI0 g x y H Q
inductive rU (g : Int → V) (x : V) (H : Hp) (Q : VK) : Prop
  | mk : ∀ i, (x = .int i) → (Q (g i) H) → rU g x H Q

section
variable {X : Cx} {a b c : Expr} {ta tb tc : TE} {pos : Pos}

theorem binT (ha : PE X a ta) (hb : PE X b tb) {pins : List (Addr × Obj)} {s : Shared} {σ : St} {H : Hp} {R : V → V → Hp → Prop} (I : Inv X pins σ H s)
    (h : ta σ H fun x H1 => tb σ H1 fun y H2 => R x y H2) {Q : Value → Shared → Prop} {f : Value → Value → Sem Value}
    (hf : ∀ v u s2 x y H2, Inv X pins σ H2 s2 → RelV x v → RelV y u → R x y H2 → wpAny (model X.prog X.w) X.A (f v u) Q X.xe s2) :
    wpAny (model X.prog X.w) X.A (eval a X.env) (fun v s₁ => wpAny (model X.prog X.w) X.A (eval b X.env) (fun u s₂ => wpAny (model X.prog X.w) X.A (f v u) Q X.xe s₂) X.xe s₁) X.xe s := by
  refine thn (ha pins s σ H _ I h) fun v s1 ⟨x, H1, I1, r1, q1⟩ => ?_
  refine thn (hb pins s1 σ H1 _ I1 q1) fun u s2 ⟨y, H2, I2, r2, q2⟩ => ?_
  exact hf v u s2 x y H2 I2 r1 r2 q2

theorem pe_op {op : Operator} {r : R2} (ho : OpR X (binaryOp op) r) (ha : PE X a ta) (hb : PE X b tb) : PE X (.BinOp a op b pos) (tOp r ta tb) := by
  intro pins s σ H Q I h
  exact wpAny_BinOp (binT ha hb I h fun v u s2 x y H2 I2 rx ry q => ho pins s2 σ H2 x y v u Q I2 rx ry q)
theorem pe_un {op : UnaryOp} {r : V → Hp → VK → Prop} (ho : UnR X (unaryOp op) r) (ha : PE X a ta) : PE X (.UnaryOp op a pos) (tUn r ta) := by
  intro pins s σ H Q I h
  exact UnaryOp_ (thn (ha pins s σ H _ I h) fun v s1 ⟨x, H1, I1, r1, q1⟩ => ho pins s1 σ H1 x v Q I1 r1 q1)
theorem opI {f : Value → Value → Sem Value} {C : Int → Int → Prop} {g : Int → Int → Int}
    (rule : ∀ (i j : Int) (t u : Tok) (s : Shared) (Q : Value → Shared → Prop) (E : Value → Shared → Prop), C i j → Q (.int (g i j) s.toks) { s with toks := s.toks + 1 } → wpAny (model X.prog X.w) X.A (f (.int i t) (.int j u)) Q E s) :
    OpR X f (rI C fun i j => .int (g i j)) := by
  intro pins s σ H x y v u Q I rx ry h
  obtain ⟨i, j, rfl, rfl, hc, q⟩ := h
  obtain ⟨t, rfl⟩ := rx
  obtain ⟨t', rfl⟩ := ry
  exact rule i j t t' s _ _ hc ⟨.int (g i j), H, I.tok _, ⟨_, rfl⟩, q⟩
theorem opI0 {f : Value → Value → Sem Value} {g : Int → Int → Int}
    (rule : ∀ (i j : Int) (t u : Tok) (s : Shared) (Q : Value → Shared → Prop) (E : Value → Shared → Prop), Q (.int (g i j) s.toks) { s with toks := s.toks + 1 } → wpAny (model X.prog X.w) X.A (f (.int i t) (.int j u)) Q E s) :
    OpR X f (rI0 fun i j => .int (g i j)) := by
  intro pins s σ H x y v u Q I rx ry h
  obtain ⟨i, j, rfl, rfl, q⟩ := h
  obtain ⟨t, rfl⟩ := rx
  obtain ⟨t', rfl⟩ := ry
  exact rule i j t t' s _ _ ⟨.int (g i j), H, I.tok _, ⟨_, rfl⟩, q⟩
theorem opB0 {f : Value → Value → Sem Value} {g : Int → Int → Bool}
    (rule : ∀ (i j : Int) (t u : Tok) (s : Shared) (Q : Value → Shared → Prop) (E : Value → Shared → Prop), Q (.bool (g i j)) s → wpAny (model X.prog X.w) X.A (f (.int i t) (.int j u)) Q E s) :
    OpR X f (rI0 fun i j => .bl (g i j)) := by
  intro pins s σ H x y v u Q I rx ry h
  obtain ⟨i, j, rfl, rfl, q⟩ := h
  obtain ⟨t, rfl⟩ := rx
  obtain ⟨t', rfl⟩ := ry
  exact rule i j t t' s _ _ ⟨.bl (g i j), H, I, rfl, q⟩

def CDiv (i j : Int) : Prop := 0 < j ∧ j < 1073741824
def CPow (i j : Int) : Prop := 0 ≤ j ∧ j ≤ 1000000 ∧ i.natAbs < 2 ^ 64
def CMul (i j : Int) : Prop := (-(2 ^ 64) < i ∧ i < 2 ^ 64) ∨ (-(2 ^ 64) < j ∧ j < 2 ^ 64)
theorem CMul.ok {i j : Int} (h : CMul i j) : IntMulOk i j := by
  rcases h with ⟨h1, h2⟩ | ⟨h1, h2⟩
  · exact .of_left (intBits_le_64 h1 h2)
  · exact .of_right (intBits_le_64 h1 h2)
theorem op_add : OpR X (binaryOp .Add) (rI0 fun i j => .int (i + j)) := opI0 fun _ _ _ _ _ _ _ q => add_int q
theorem op_sub : OpR X (binaryOp .Sub) (rI0 fun i j => .int (i - j)) := opI0 fun _ _ _ _ _ _ _ q => sub_int q
theorem op_mul : OpR X (binaryOp .Mult) (rI CMul fun i j => .int (i * j)) := opI fun _ _ _ _ _ _ _ hc q => mul_int q hc.ok
/-- // by a positive divisor -/
theorem op_fdiv : OpR X (binaryOp .FloorDiv) (rI CDiv fun i j => .int (i / j)) := opI fun i j _ _ _ _ _ hc q => by
  have h1 : (0 : Int) < j := hc.1
  have h2 : j < 1073741824 := hc.2
  exact floordiv_int (by omega) (by rw [Int.fdiv_eq_ediv_of_nonneg i (by omega)]; exact q) (.inl (PyProof.noPylong_small (by omega)))
/-- % by a positive divisor of any size -/
theorem op_mod : OpR X (binaryOp .Mod) (rI (fun _ j => 0 < j) fun i j => .int (i % j)) := opI fun i j _ _ _ _ _ hc q => by
  have h1 : (0 : Int) < j := hc
  exact mod_int' (by omega) (by rw [Int.fmod_eq_emod_of_nonneg i (by omega)]; exact q)
theorem op_pow : OpR X (binaryOp .Pow) (rI CPow fun i j => .int (i ^ j.toNat)) := opI fun _ _ _ _ _ _ _ hc q => pow_int_small hc.1 hc.2.1 hc.2.2 q
theorem unI {f : Value → Sem Value} {g : Int → Int}
    (rule : ∀ (i : Int) (t : Tok) (s : Shared) (Q : Value → Shared → Prop) (E : Value → Shared → Prop), Q (.int (g i) s.toks) { s with toks := s.toks + 1 } → wpAny (model X.prog X.w) X.A (f (.int i t)) Q E s) :
    UnR X f (rU fun i => .int (g i)) := by
  intro pins s σ H x v Q I rx h
  obtain ⟨i, rfl, q⟩ := h
  obtain ⟨t, rfl⟩ := rx
  exact rule i t s _ _ ⟨.int (g i), H, I.tok _, ⟨_, rfl⟩, q⟩
theorem un_neg : UnR X (unaryOp .USub) (rU fun i => .int (-i)) := unI fun _ _ _ _ _ q => neg_int q
end

/-- the scalars that == tells apart as data does -/
def scal : V → V → Bool
  | .non, .non => true | .non, .int _ => true | .int _, .non => true | .non, .bl _ => true | .bl _, .non => true | .non, .str _ => true | .str _, .non => true
  | .int _, .int _ => true | .bl _, .bl _ => true | .str _, .str _ => true | .byt _, .byt _ => true
  | .int _, .str _ => true | .str _, .int _ => true | .bl _, .str _ => true | .str _, .bl _ => true
  | _, _ => false
def rEq : R2 := fun x y H Q => scal x y = true ∧ Q (.bl (decide (x = y))) H
def rNe : R2 := fun x y H Q => scal x y = true ∧ Q (.bl (!decide (x = y))) H

theorem dec_int {i j : Int} : decide (V.int i = V.int j) = (i == j) := by
  rw [Bool.eq_iff_iff]
  simp
theorem dec_bl {i j : Bool} : decide (V.bl i = V.bl j) = (i == j) := by
  rw [Bool.eq_iff_iff]
  simp
theorem dec_str {i j : Str} : decide (V.str i = V.str j) = (i == j) := by
  rw [Bool.eq_iff_iff]
  simp
theorem dec_byt {i j : Array UInt8} : decide (V.byt i = V.byt j) = (i.toList == j.toList) := by
  rw [Bool.eq_iff_iff]
  cases i
  cases j
  simp

section
variable {X : Cx} {a b c : Expr} {ta tb tc : TE} {pos : Pos}
theorem fin_bl {pins : List (Addr × Obj)} {σ : St} {H : Hp} {s : Shared} {Q : VK} {k k' : Bool} (I : Inv X pins σ H s) (q : Q (.bl k) H) (e : k = k') : EP X pins σ Q (.bool k') s := by
  subst e
  exact ⟨.bl k, H, I, rfl, q⟩
theorem op_eq : OpR X (compareOp .Eq) rEq := by
  intro pins s σ H x y v u Q I rx ry h
  obtain ⟨hs, q⟩ := h
  cases x with
  | non =>
    cases rx
    cases y with
    | non => cases ry; exact PySem.EqNone.eq_none_none (fin_bl I q (by simp))
    | bl j => cases ry; exact PySem.EqNone.eq_none_bool (fin_bl I q (by simp))
    | int j => obtain ⟨t', rfl⟩ := ry; exact PySem.EqNone.eq_none_int (fin_bl I q (by simp))
    | str j => obtain ⟨t', rfl⟩ := ry; exact PySem.EqNone.eq_none_str (fin_bl I q (by simp))
    | _ => exact absurd (show false = true from hs) Bool.false_ne_true
  | bl i =>
    cases rx
    cases y with
    | non => cases ry; exact PySem.EqNone.eq_bool_none (fin_bl I q (by simp))
    | bl j => cases ry; exact eq_bool (fin_bl I q dec_bl)
    | str j => obtain ⟨t', rfl⟩ := ry; exact PySem.EqMixed.eq_bool_str (fin_bl I q (by simp))
    | _ => exact absurd (show false = true from hs) Bool.false_ne_true
  | int i =>
    obtain ⟨t, rfl⟩ := rx
    cases y with
    | non => cases ry; exact PySem.EqNone.eq_int_none (fin_bl I q (by simp))
    | int j => obtain ⟨t', rfl⟩ := ry; exact eq_int (fin_bl I q dec_int)
    | str j => obtain ⟨t', rfl⟩ := ry; exact PySem.EqMixed.eq_int_str (fin_bl I q (by simp))
    | _ => exact absurd (show false = true from hs) Bool.false_ne_true
  | str i =>
    obtain ⟨t, rfl⟩ := rx
    cases y with
    | non => cases ry; exact PySem.EqNone.eq_str_none (fin_bl I q (by simp))
    | bl j => cases ry; exact PySem.EqMixed.eq_str_bool (fin_bl I q (by simp))
    | int j => obtain ⟨t', rfl⟩ := ry; exact PySem.EqMixed.eq_str_int (fin_bl I q (by simp))
    | str j => obtain ⟨t', rfl⟩ := ry; exact eq_str (fin_bl I q dec_str)
    | _ => exact absurd (show false = true from hs) Bool.false_ne_true
  | byt i =>
    obtain ⟨t, rfl⟩ := rx
    cases y with
    | byt j => obtain ⟨t', rfl⟩ := ry; exact PySem.W.eq_bytes (fin_bl I q dec_byt)
    | _ => exact absurd (show false = true from hs) Bool.false_ne_true
  | _ => cases y <;> exact absurd (show false = true from hs) Bool.false_ne_true
theorem op_ne : OpR X (compareOp .NotEq) rNe := by
  intro pins s σ H x y v u Q I rx ry h
  obtain ⟨hs, q⟩ := h
  cases x with
  | non =>
    cases rx
    cases y with
    | non => cases ry; exact PySem.EqNone.ne_none_none (fin_bl I q (by simp))
    | bl j => cases ry; exact PySem.EqNone.ne_none_bool (fin_bl I q (by simp))
    | int j => obtain ⟨t', rfl⟩ := ry; exact PySem.EqNone.ne_none_int (fin_bl I q (by simp))
    | str j => obtain ⟨t', rfl⟩ := ry; exact PySem.EqNone.ne_none_str (fin_bl I q (by simp))
    | _ => exact absurd (show false = true from hs) Bool.false_ne_true
  | bl i =>
    cases rx
    cases y with
    | non => cases ry; exact PySem.EqNone.ne_bool_none (fin_bl I q (by simp))
    | bl j => cases ry; exact ne_bool (fin_bl I q (congrArg not dec_bl))
    | str j => obtain ⟨t', rfl⟩ := ry; exact PySem.EqMixed.ne_bool_str (fin_bl I q (by simp))
    | _ => exact absurd (show false = true from hs) Bool.false_ne_true
  | int i =>
    obtain ⟨t, rfl⟩ := rx
    cases y with
    | non => cases ry; exact PySem.EqNone.ne_int_none (fin_bl I q (by simp))
    | int j => obtain ⟨t', rfl⟩ := ry; exact ne_int (fin_bl I q (congrArg not dec_int))
    | str j => obtain ⟨t', rfl⟩ := ry; exact PySem.EqMixed.ne_int_str (fin_bl I q (by simp))
    | _ => exact absurd (show false = true from hs) Bool.false_ne_true
  | str i =>
    obtain ⟨t, rfl⟩ := rx
    cases y with
    | non => cases ry; exact PySem.EqNone.ne_str_none (fin_bl I q (by simp))
    | bl j => cases ry; exact PySem.EqMixed.ne_str_bool (fin_bl I q (by simp))
    | int j => obtain ⟨t', rfl⟩ := ry; exact PySem.EqMixed.ne_str_int (fin_bl I q (by simp))
    | str j => obtain ⟨t', rfl⟩ := ry; exact ne_str (fin_bl I q (congrArg not dec_str))
    | _ => exact absurd (show false = true from hs) Bool.false_ne_true
  | byt i =>
    obtain ⟨t, rfl⟩ := rx
    cases y with
    | byt j => obtain ⟨t', rfl⟩ := ry; exact PySem.W.ne_bytes (fin_bl I q (congrArg not dec_byt))
    | _ => exact absurd (show false = true from hs) Bool.false_ne_true
  | _ => cases y <;> exact absurd (show false = true from hs) Bool.false_ne_true

theorem op_lt : OpR X (compareOp .Lt) (rI0 fun i j => .bl (decide (i < j))) := opB0 fun _ _ _ _ _ _ _ q => lt_int q
theorem op_le : OpR X (compareOp .LtE) (rI0 fun i j => .bl (decide (i ≤ j))) := opB0 fun _ _ _ _ _ _ _ q => le_int q
theorem op_gt : OpR X (compareOp .Gt) (rI0 fun i j => .bl (decide (j < i))) := opB0 fun _ _ _ _ _ _ _ q => gt_int q
theorem op_ge : OpR X (compareOp .GtE) (rI0 fun i j => .bl (decide (j ≤ i))) := opB0 fun _ _ _ _ _ _ _ q => ge_int q
/-- is None, is not None: the right side a value none -/
theorem op_isN : OpR X (compareOp .Is) (fun x y H Q => y = .non ∧ Q (.bl (decide (x = .non))) H) := by
  intro pins s σ H x y v u Q I rx ry h
  obtain ⟨rfl, q⟩ := h
  cases ry
  refine is_none_gen (fin_bl I q ?_)
  cases x <;> first
    | (cases rx; rfl)
    | (obtain ⟨t, rfl⟩ := rx; rfl)
theorem nomark (b : Expr) {op : CmpOp} (h : op ≠ .In := by decide) (h2 : op ≠ .NotIn := by decide) : behindInMarks op b = false := by
  have e1 : (op == CmpOp.In) = false := by cases op <;> first | rfl | exact absurd rfl h
  have e2 : (op == CmpOp.NotIn) = false := by cases op <;> first | rfl | exact absurd rfl h2
  cases b <;> simp [behindInMarks, e1, e2]
/-- a comparison as a value; hm: nomark b, or (for in, not in) by with_unfolding_all rfl -/
theorem pe_cmpR {op : CmpOp} {r : R2} (ho : OpR X (compareOp op) r) (ha : PE X a ta) (hb : PE X b tb) (hm : behindInMarks op b = false) : PE X (.Compare a [op] [b] pos) (tOp r ta tb) := by
  intro pins s σ H Q I h
  exact wpAny_Compare1 (binT ha hb I h fun v u s2 x y H2 I2 rx ry q => ho pins s2 σ H2 x y v u Q I2 rx ry q) hm
/-- a reading of a value as a test -/
def tTest (t : TE) : TT := fun σ H Q => t σ H (IsB Q)
theorem pt_cmpR {op : CmpOp} {r : R2} (ho : OpR X (compareOp op) r) (ha : PE X a ta) (hb : PE X b tb) (hm : behindInMarks op b = false) : PT X (.Compare a [op] [b] pos) (tTest (tOp r ta tb)) := by
  intro pins s σ H Q I h
  refine wpAny_isTrue_Compare1 (thn (ha pins s σ H _ I h) fun v s1 ⟨x, H1, I1, r1, q1⟩ => thn (hb pins s1 σ H1 _ I1 q1) fun u s2 ⟨y, H2, I2, r2, q2⟩ =>
    thn (ho pins s2 σ H2 x y v u _ I2 r1 r2 q2) fun c s3 ⟨z, H3, I3, r3, k, e, q3⟩ => ?_) hm
  subst e
  cases r3
  exact wpAny_truthy_bool ⟨H3, I3, q3⟩
/-- a op1 b op2 c -/
def tChain (r r' : R2) (ta tb tc : TE) : TE := fun σ H Q => ta σ H fun x H1 => tb σ H1 fun y H2 => r x y H2 fun z H3 => ∃ k, z = .bl k ∧
  (if k = true then tc σ H3 fun w' H4 => r' y w' H4 Q else Q (.bl false) H3)
theorem pe_chain {op op' : CmpOp} {r r' : R2} (ho : OpR X (compareOp op) r) (ho' : OpR X (compareOp op') r') (ha : PE X a ta) (hb : PE X b tb) (hc : PE X c tc)
    (hm : lastMarks [op, op'] [b, c] = false := by with_unfolding_all rfl) : PE X (.Compare a [op, op'] [b, c] pos) (tChain r r' ta tb tc) := by
  intro pins s σ H Q I h
  refine Compare_chain (thn (ha pins s σ H _ I h) fun v s1 ⟨x, H1, I1, r1, q1⟩ => chain_link (thn (hb pins s1 σ H1 _ I1 q1) fun u s2 ⟨y, H2, I2, r2, q2⟩ =>
    thn (ho pins s2 σ H2 x y v u _ I2 r1 r2 q2) fun d s3 ⟨z, H3, I3, r3, k, e, q3⟩ => ?_)) hm
  subst e
  cases r3
  refine wpAny_truthy_bool ?_
  cases k with
  | false => exact ite_ff ⟨.bl false, H3, I3, rfl, q3⟩
  | true => exact ite_tt (chain_last (thn (hc pins s3 σ H3 _ I3 q3) fun w' s4 ⟨z', H4, I4, r4, q4⟩ => ho' pins s4 σ H4 y z' u w' Q I4 r2 r4 q4))
theorem pt_chain {op op' : CmpOp} {r r' : R2} (ho : OpR X (compareOp op) r) (ho' : OpR X (compareOp op') r') (ha : PE X a ta) (hb : PE X b tb) (hc : PE X c tc)
    (hm : lastMarks [op, op'] [b, c] = false := by with_unfolding_all rfl) : PT X (.Compare a [op, op'] [b, c] pos) (tTest (tChain r r' ta tb tc)) := by
  intro pins s σ H Q I h
  refine isTrue_chain (thn (ha pins s σ H _ I h) fun v s1 ⟨x, H1, I1, r1, q1⟩ => test_link (thn (hb pins s1 σ H1 _ I1 q1) fun u s2 ⟨y, H2, I2, r2, q2⟩ =>
    thn (ho pins s2 σ H2 x y v u _ I2 r1 r2 q2) fun d s3 ⟨z, H3, I3, r3, k, e, q3⟩ => ?_)) hm
  subst e
  cases r3
  refine wpAny_truthy_bool ?_
  cases k with
  | false =>
    obtain ⟨k', e', q'⟩ := q3
    cases e'
    exact ite_ff ⟨H3, I3, q'⟩
  | true =>
    refine ite_tt (test_last (thn (hc pins s3 σ H3 _ I3 q3) fun w' s4 ⟨z', H4, I4, r4, q4⟩ => thn (ho' pins s4 σ H4 y z' u w' _ I4 r2 r4 q4) fun d' s5 ⟨z2, H5, I5, r5, k2, e2, q5⟩ => ?_))
    subst e2
    cases r5
    exact wpAny_truthy_bool ⟨H5, I5, q5⟩

theorem line63 : (sizeLine : Nat) < 2 ^ 63 := by rw [sizeLine_eq]; decide
theorem vals1 {x : V} {us : List Value} (r : Vals [x] us) : ∃ u, us = [u] ∧ RelV x u := by
  cases r with
  | cons r1 r2 => cases r2; exact ⟨_, rfl, r1⟩
theorem vals2 {x y : V} {us : List Value} (r : Vals [x, y] us) : ∃ u w', us = [u, w'] ∧ RelV x u ∧ RelV y w' := by
  cases r with
  | cons r1 r2 =>
    cases r2 with
    | cons r3 r4 => cases r4; exact ⟨_, _, rfl, r1, r3⟩
theorem call_max2 (hc : X.calm = true) : CallR X (.builtin "max") (fun xs H Q => ∃ i j, xs = [.int i, .int j] ∧ Q (.int (if j > i then j else i)) H) := by
  intro pins s σ H xs us Q I r h
  obtain ⟨i, j, rfl, q⟩ := h
  obtain ⟨u, w', rfl, ⟨t, rfl⟩, ⟨t', rfl⟩⟩ := vals2 r
  refine max_two_ints (I.ok.hd hc) fun h' tk k => ⟨_, H, I.kept k, ?_, q⟩
  by_cases hj : j > i
  · rw [if_pos hj, if_pos hj]; exact ⟨_, rfl⟩
  · rw [if_neg hj, if_neg hj]; exact ⟨_, rfl⟩
theorem call_min2 (hc : X.calm = true) : CallR X (.builtin "min") (fun xs H Q => ∃ i j, xs = [.int i, .int j] ∧ Q (.int (if j < i then j else i)) H) := by
  intro pins s σ H xs us Q I r h
  obtain ⟨i, j, rfl, q⟩ := h
  obtain ⟨u, w', rfl, ⟨t, rfl⟩, ⟨t', rfl⟩⟩ := vals2 r
  refine min_two_ints (I.ok.hd hc) fun h' tk k => ⟨_, H, I.kept k, ?_, q⟩
  by_cases hj : j < i
  · rw [if_pos hj, if_pos hj]; exact ⟨_, rfl⟩
  · rw [if_neg hj, if_neg hj]; exact ⟨_, rfl⟩
theorem call_int1 : CallR X (.type "int") (fun xs H Q => (∃ i, xs = [.int i] ∧ Q (.int i) H) ∨ ∃ k, xs = [.bl k] ∧ Q (.int (if k then 1 else 0)) H) := by
  intro pins s σ H xs us Q I r h
  rcases h with ⟨i, rfl, q⟩ | ⟨k, rfl, q⟩
  · obtain ⟨u, rfl, t, rfl⟩ := vals1 r
    exact call_int_int ⟨.int i, H, I, ⟨_, rfl⟩, q⟩
  · obtain ⟨u, rfl, r1⟩ := vals1 r
    cases r1
    exact call_int_bool ⟨.int (if k then 1 else 0), H, I.tok _, ⟨_, rfl⟩, q⟩
end
end L2

namespace L2
open PySem PySem.Spec PyProof.Rows

structure ObjM (h : Heap) (x dx C : Addr) (mA : Str → Option Value) : Prop where
  obj : h.get? x = some (PySem.W.instObj C dx)
  ns : h.Ns1 dx mA
  ne : dx ≠ x

theorem lookIn_ns {h : Heap} {dx : Addr} {mA : Str → Option Value} (n : h.Ns1 dx mA) : ∃ od, h.get? dx = some od ∧ ∀ name, PySem.W.lookIn name od = some (mA name) := by
  obtain ⟨o, es, ep, ho, hd, hk, _, hm⟩ := n
  refine ⟨o, ho, fun name => ?_⟩
  have e := hm name
  unfold nsFind findBy at e
  rw [← Array.find?_toList] at e
  unfold PySem.W.lookIn
  rw [hd]
  try dsimp only
  split
  · rename_i y q
    rw [q] at e
    exact congrArg some e
  · rename_i q
    rw [q] at e
    have a : es.toList.any (·.refKey) = false := by
      rw [List.any_eq_false]
      intro y hy
      obtain ⟨z, t, hkey⟩ := hk y (Array.mem_toList_iff.mp hy)
      simp [DictEntry.refKey, hkey]
    have a' : ¬ es.toList.any (·.refKey) = true := by rw [a]; exact Bool.false_ne_true
    rw [if_neg a']
    exact congrArg some e

theorem ObjM.look {h : Heap} {x dx C : Addr} {mA : Str → Option Value} (I : ObjM h x dx C mA) : ∃ od, PySem.W.InstAt h x (PySem.W.instObj C dx) C (some od) ∧ ∀ name, PySem.W.lookIn name od = some (mA name) :=
  let ⟨od, ho, hl⟩ := lookIn_ns I.ns
  ⟨od, ⟨I.obj, rfl, rfl, ho⟩, hl⟩

section
variable {prog : Program} {w : World} {A : Around} {E : Value → Shared → Prop} {s : Shared} {K : PySem.W.Frag} {x dx C f : Addr} {mA : Str → Option Value} {name : Str} {v : Value}

theorem get_map {expr : Bool} {Q : Value → Shared → Prop} (X : K.In s.heap) (I : ObjM s.heap x dx C mA) (hg : PySem.W.plainGet K C name = true) (hh : PySem.W.hasDictIn K C = true)
    (ha : PySem.W.findIn K (.ref C) name = some none) (hv : mA name = some v) (hv' : PySem.W.handedIn v = true) (h : Q v { s with toks := s.toks + 1 }) :
    wpAny (model prog w) A (getAttr (.ref x) name expr) Q E s := by
  obtain ⟨od, J, hl⟩ := I.look
  exact PySem.W.get_value X J (PySem.W.plainGet_of hg).1 (PySem.W.findObj_own hh ha rfl (by rw [hl, hv])) hv' h

theorem set_map {ns : List Str} {Q : Unit → Shared → Prop} (X : K.In s.heap) (I : ObjM s.heap x dx C mA)
    (hs : PySem.W.findIn K (.ref C) "__setattr__" = some (some (.builtin "object.__setattr__"))) (hp : PySem.W.plainOver K C = true) (ht : PySem.W.takerIn K C name = some none) (hh : PySem.W.hasDictIn K C = true)
    (hw : PySem.Within mA ns) (hsz : ns.length ≤ sizeLine)
    (h : ∀ h', ObjM h' x dx C (fun y => if y = name then some v else mA y) → Heap.SameBut dx s.heap h' → Q () { s with heap := h', toks := s.toks + 2 }) :
    wpAny (model prog w) A (setAttr (.ref x) name v) Q E s := by
  obtain ⟨od, J, hl⟩ := I.look
  refine PySem.W.set_plain X J hs (PySem.W.osa_open (s := { s with toks := s.toks + 1 }) (r := none) X J hp ht fun b => ?_)
  obtain ⟨cd, hc, hd'⟩ := PySem.W.any_some hh
  have hx : s.heap.get? x = some ⟨.ref C, some dx, .plain, #[]⟩ := I.obj
  refine wpAny_bind (wpAny_pure (wpAny_bind (wpAny_bind (wpAny_loadPart hx (wpAny_bind (PySem.W.Looks.here (s := { s with toks := s.toks + 1 }) (PySem.W.looks_clsIn X hc) ?_))))))
  rw [hd']
  refine wpAny_pure (a := some dx) (wpAny_bind (wpAny_pure (wpAny_bind ?_)))
  refine wpAny_nsSet1 (s := { s with toks := s.toks + 1 }) I.ns fun h' hn2 hs2 => ?_
  obtain ⟨oD, esD, epD, hoD, hdD, hcD⟩ := hn2.count (PySem.Within.cons name v hw)
  refine wpAny_bind (wpAny_lookBehind hoD (by rw [hdD]; exact pastItsLine_dict (Nat.le_trans hcD (by rw [List.length_cons]; omega))) ?_)
  exact wpAny_pure (h _ ⟨(hs2.2 _ (Ne.symm I.ne)).trans I.obj, hn2, I.ne⟩ hs2)

/-- C(..): the dict at the heap's end, the instance behind it; then its __init__ -/
theorem make_map {R : Result → Shared → Prop} {vs : List Value} {kw : List (Str × Value)} (X : K.In s.heap) (hm : PySem.W.makesIn K C = true)
    (hi : PySem.W.findIn K (.ref C) "__init__" = some (some (.ref f))) (hf : PySem.W.typeIn K (.ref f) = some (.type "function"))
    (h : codeAny (model prog w) (A.under (.builtin "type.__call__" ⟨.ref C :: vs, kw⟩)) (.call (.ref f) ⟨.ref (s.heap.objs.size + 1) :: vs, kw⟩) (PySem.W.InitBack (s.heap.objs.size + 1) R)
      { s with heap := (s.heap.push PySem.W.emptyDict).push (PySem.W.instObj C s.heap.objs.size) }) :
    codeAny (model prog w) A (.call (.ref C) ⟨vs, kw⟩) R s := by
  obtain ⟨hh, g, d, t, os⟩ := s
  exact PySem.W.make_core (PySem.W.makes_of X hm) (PySem.W.looks_findIn X hi) (fun self => PySem.W.bind_fn X self hf) (.inl rfl) h
end

def putF (f : Str) (v : V) : List (Str × V) → List (Str × V)
  | [] => [(f, v)]
  | (g, x) :: r => if g = f then (g, v) :: r else (g, x) :: putF f v r
theorem lookup_putF (f g : Str) (v : V) : ∀ fs : List (Str × V), (putF f v fs).lookup g = if g = f then some v else fs.lookup g
  | [] => by
    show List.lookup g [(f, v)] = _
    by_cases h : g = f
    · have hb : (g == f) = true := beq_iff_eq.mpr h
      simp only [List.lookup, hb, if_pos h]
    · have hb : (g == f) = false := beq_eq_false_iff_ne.mpr h
      simp only [List.lookup, hb, if_neg h]
  | (k, x) :: r => by
    have ih := lookup_putF f g v r
    rw [show putF f v ((k, x) :: r) = (if k = f then (k, v) :: r else (k, x) :: putF f v r) from rfl]
    by_cases hk : k = f
    · rw [if_pos hk]
      by_cases h : g = k
      · have hb : (g == k) = true := beq_iff_eq.mpr h
        simp only [List.lookup, hb, if_pos (h.trans hk)]
      · have hb : (g == k) = false := beq_eq_false_iff_ne.mpr h
        simp only [List.lookup, hb, if_neg (fun e : g = f => h (e.trans hk.symm))]
    · rw [if_neg hk]
      by_cases h : g = k
      · have hb : (g == k) = true := beq_iff_eq.mpr h
        simp only [List.lookup, hb, if_neg (fun e : g = f => hk (h.symm.trans e))]
      · have hb : (g == k) = false := beq_eq_false_iff_ne.mpr h
        simp only [List.lookup, hb]
        exact ih
theorem keys_putF (f : Str) (v : V) : ∀ fs : List (Str × V), f ∈ (putF f v fs).map (·.1) ∧ ∀ g, g ∈ fs.map (·.1) → g ∈ (putF f v fs).map (·.1)
  | [] => ⟨by simp [putF], fun g h => by simp at h⟩
  | (k, x) :: r => by
    obtain ⟨i1, i2⟩ := keys_putF f v r
    rw [show putF f v ((k, x) :: r) = (if k = f then (k, v) :: r else (k, x) :: putF f v r) from rfl]
    by_cases hk : k = f
    · rw [if_pos hk]
      subst hk
      exact ⟨by simp, fun g h => by simpa using h⟩
    · rw [if_neg hk]
      refine ⟨?_, fun g h => ?_⟩
      · rw [List.map_cons]
        exact List.mem_cons_of_mem _ i1
      · rw [List.map_cons] at h ⊢
        rcases List.mem_cons.mp h with e | e
        · exact List.mem_cons.mpr (.inl e)
        · exact List.mem_cons_of_mem _ (i2 g e)
theorem length_putF (f : Str) (v : V) : ∀ fs : List (Str × V), (putF f v fs).length ≤ fs.length + 1
  | [] => by simp [putF]
  | (k, x) :: r => by
    have ih := length_putF f v r
    rw [show putF f v ((k, x) :: r) = (if k = f then (k, v) :: r else (k, x) :: putF f v r) from rfl]
    by_cases hk : k = f
    · rw [if_pos hk, List.length_cons, List.length_cons]; omega
    · rw [if_neg hk, List.length_cons, List.length_cons]; omega

theorem RelO.some_of {v : V} {o : Option Value} (r : RelO (some v) o) : ∃ u, o = some u ∧ RelV v u := by
  cases o with
  | none => exact (show False from r).elim
  | some u => exact ⟨u, rfl, r⟩
theorem handed_of {v : V} {u : Value} (r : RelV v u) : PySem.W.handedIn u = true := by
  cases v with
  | non => cases (show u = Value.none from r); rfl
  | bl b => cases (show u = Value.bool b from r); rfl
  | int i => obtain ⟨t, e⟩ := (show ∃ t, u = Value.int i t from r); cases e; rfl
  | str x => obtain ⟨t, e⟩ := (show ∃ t, u = Value.str x t from r); cases e; rfl
  | byt b => obtain ⟨t, e⟩ := (show ∃ t, u = Value.bytes b t from r); cases e; rfl
  | flt b => obtain ⟨t, e⟩ := (show ∃ t, u = Value.float b t from r); cases e; rfl
  | ref a => cases (show u = Value.ref a from r); rfl
  | ty n => cases (show u = Value.type n from r); rfl

section
variable {P : Program} {w : World} {H H' : Hp} {h h' : Heap} {a C dx : Addr} {fs fs' : List (Str × V)}
theorem ins_get (hok : HOk P w H h) (e : H a = some (.ins C dx fs)) : ∃ mA, ObjM h a dx C mA ∧ (∀ f, RelO (fs.lookup f) (mA f)) ∧ PySem.Within mA (fs.map (·.1)) ∧ fs.length ≤ 1000 ∧ H dx = some (.own a) := by
  obtain ⟨d, z, ne, ob, mA, n, r, q⟩ := (show ObjOk P w H h a (.ins C dx fs) from hok a _ e)
  exact ⟨mA, ⟨ob, n, ne⟩, r, q, z, d⟩
end

structure Cls (K : PySem.W.Frag) (C : Addr) : Prop where
  pg : PySem.W.plainGet K C Str.empty = true
  hd : PySem.W.hasDictIn K C = true
  po : PySem.W.plainOver K C = true
  sa : PySem.W.findIn K (.ref C) "__setattr__" = some (some (.builtin "object.__setattr__"))
theorem Cls.get {K : PySem.W.Frag} {C : Addr} (c : Cls K C) (f : Str) : PySem.W.plainGet K C f = true := c.pg
/-- no class of it has the name -/
def NoAttr (K : PySem.W.Frag) (C : Addr) (f : Str) : Prop := PySem.W.findIn K (.ref C) f = some none
theorem NoAttr.taker {K : PySem.W.Frag} {C : Addr} {f : Str} (n : NoAttr K C f) : PySem.W.takerIn K C f = some none := by
  unfold PySem.W.takerIn
  rw [show PySem.W.findIn K (.ref C) f = some none from n]
  rfl
section
variable {X : Cx} {pins : List (Addr × Obj)} {σ : St} {H : Hp} {s : Shared} {a C dx : Addr} {fs : List (Str × V)} {f : Str} {v : V} {A : Around} {E : Value → Shared → Prop}

theorem getattr_ok {b : Bool} {Q : Value → Shared → Prop} (I : Inv X pins σ H s) (e : H a = some (.ins C dx fs)) (c : Cls X.K C) (n : NoAttr X.K C f) (l : fs.lookup f = some v)
    (h : ∀ u s', Inv X pins σ H s' → RelV v u → Q u s') : wpAny (model X.prog X.w) A (getAttr (.ref a) f b) Q E s := by
  obtain ⟨mA, O, r, _, _, _⟩ := ins_get I.hok e
  obtain ⟨u, hu, ru⟩ := RelO.some_of (v := v) (o := mA f) (by rw [← l]; exact r f)
  exact get_map I.kIn O (c.get f) c.hd n hu (handed_of ru) (h u _ (I.tok _) ru)

theorem setattr_ok {y : V} {u : Value} {Q : Unit → Shared → Prop} (I : Inv X pins σ H s) (e : H a = some (.ins C dx fs)) (c : Cls X.K C) (n : NoAttr X.K C f) (hl : fs.length < 1000) (ry : RelV y u)
    (h : ∀ s', Inv X pins σ (upd H a (.ins C dx (putF f y fs))) s' → Q () s') : wpAny (model X.prog X.w) A (setAttr (.ref a) f u) Q E s := by
  obtain ⟨mA, O, r, wi, _, ho⟩ := ins_get I.hok e
  have hz : (fs.map (·.1)).length ≤ sizeLine := by rw [List.length_map, sizeLine_eq]; omega
  refine set_map I.kIn O c.sa c.po n.taker c.hd wi hz fun h' O' sb => h _ ?_
  have hd : ∃ o, h'.get? dx = some o := let ⟨o, _, _, e', _⟩ := O'.ns; ⟨o, e'⟩
  refine I.write (x := a) (e := dx) (by rw [e]; exact True.intro) (.inr ho) (fun b q hb z => (sb.2 b hb).trans z) hd ?_
  refine ⟨by rw [upd_ne O.ne]; exact ho, ?_, O.ne, O'.obj, _, O'.ns, fun g => ?_, fun g hg => ?_⟩
  · have := length_putF f y fs; omega
  · show RelO ((putF f y fs).lookup g) (if g = f then some u else mA g)
    rw [lookup_putF]
    by_cases q : g = f
    · rw [if_pos q, if_pos q]; exact ry
    · rw [if_neg q, if_neg q]; exact r g
  · by_cases q : g = f
    · rw [q]; exact (keys_putF f y fs).1
    · refine (keys_putF f y fs).2 g (wi g fun z => hg ?_)
      show (if g = f then some u else mA g) = none
      rw [if_neg q]; exact z

/-- a new instance, tracked, without attributes -/
theorem Inv.made (I : Inv X pins σ H s) : Inv X pins σ (upd (upd H s.heap.objs.size (.own (s.heap.objs.size + 1))) (s.heap.objs.size + 1) (.ins C s.heap.objs.size []))
    { s with heap := (s.heap.push PySem.W.emptyDict).push (PySem.W.instObj C s.heap.objs.size) } := by
  have e1 : (s.heap.push PySem.W.emptyDict).get? s.heap.objs.size = some PySem.W.emptyDict := Heap.get?_push_size s.heap rfl
  have e2 : ((s.heap.push PySem.W.emptyDict).push (PySem.W.instObj C s.heap.objs.size)).get? (s.heap.objs.size + 1) = some (PySem.W.instObj C s.heap.objs.size) := by
    have := Heap.get?_push_size (s.heap.push PySem.W.emptyDict) (o := PySem.W.instObj C s.heap.objs.size) rfl
    rwa [Heap.size_push] at this
  have e3 : (s.heap.push PySem.W.emptyDict).Ns s.heap.objs.size (fun _ => none) := ⟨PySem.W.emptyDict, #[], _, e1, rfl, (fun e he => absurd he (by simp)), fun _ => rfl⟩
  have I1 := I.laid (a := s.heap.objs.size) (o := .own (s.heap.objs.size + 1)) (h' := s.heap.push PySem.W.emptyDict) (t' := s.toks) (fun b u q => Heap.get?_push_of_some _ q) (Nat.le_refl _) ⟨_, e1⟩
  refine I1.laid (a := s.heap.objs.size + 1) (o := .ins C s.heap.objs.size []) (t' := s.toks) (fun b u q => Heap.get?_push_of_some _ q) (Nat.le_of_eq (Heap.size_push _ _)) ?_
  have ne : s.heap.objs.size ≠ s.heap.objs.size + 1 := Nat.ne_of_lt (Nat.lt_succ_self _)
  refine ⟨by rw [upd_ne ne, upd_same], Nat.zero_le _, ne, e2, fun _ => none, (Heap.Ns1.of_empty e3).at fun o q => Heap.get?_push_of_some _ q, fun _ => True.intro, fun y hy => absurd rfl hy⟩

/-- e.f where nothing but the object is asked: through attributeBase (super) and the last hold -/
theorem attr_of {prog : Program} {w : World} {env : Env} {e : Expr} {f : Str} {pos : Pos} {s : Shared} {Q : Value → Shared → Prop} (hb : attributeBase e f env (eval e env) = eval e env)
    (h : wpAny (model prog w) A (eval e env) (fun o s₁ => wpAny (model prog w) A (getAttr o f true) Q E s₁) E s) : wpAny (model prog w) A (eval (.Attribute e f pos) env) Q E s :=
  Attribute_any_ h (by rw [arm_eval_Attribute, hb])
end

/-- e.f, an attribute of the instance -/
inductive HasF (K : PySem.W.Frag) (f : Str) (Q : VK) (x : V) (H : Hp) : Prop
  | mk : ∀ a C dx fs v, (x = .ref a) → (H a = some (.ins C dx fs)) → (Cls K C) → (NoAttr K C f) → (fs.lookup f = some v) → (Q v H) → HasF K f Q x H
def tFld (K : PySem.W.Frag) (ta : TE) (f : Str) : TE := fun σ H Q => ta σ H (HasF K f Q)
/-- e.f = value -/
def sFld (K : PySem.W.Frag) (ta tv : TE) (f : Str) : TS := fun D σ H => tv σ H fun y H1 => ta σ H1 fun x H2 => ∃ a C dx fs, x = .ref a ∧ H2 a = some (.ins C dx fs) ∧ Cls K C ∧ NoAttr K C f ∧ fs.length < 1000 ∧
  D.nx σ (upd H2 a (.ins C dx (putF f y fs)))
section
variable {X : Cx} {o e value : Expr} {f : Str} {pos pos' tpos : Pos} {ta tv : TE}
theorem pe_fld (he : PE X e ta) (hb : attributeBase e f X.env (eval e X.env) = eval e X.env) : PE X (.Attribute e f pos) (tFld X.K ta f) := by
  intro pins s σ H Q I h
  refine attr_of hb (thn (he pins s σ H _ I h) fun u s1 ⟨x, H1, I1, rx, a, C, dx, fs, v, ex, ea, c, n, l, q⟩ => ?_)
  subst ex
  obtain rfl : u = Value.ref a := rx
  exact getattr_ok I1 ea c n l fun u' s2 I2 ru => ⟨v, H1, I2, ru, q⟩
theorem ps_fld (ha : PE X o ta) (hv : PE X value tv) (hs : swapsWith value (some (.Attribute o f pos')) pos.line X.env = pure false) : PS X (.Assign [.Attribute o f pos'] value pos) (sFld X.K ta tv f) := by
  intro pins s σ H D I h
  refine plainObj_wpAny_Assign_Attribute (thn (hv pins s σ H _ I h) fun u s1 ⟨y, H1, I1, ry, q⟩ => thn (ha pins s1 σ H1 _ I1 q) fun ov s2 ⟨x, H2, I2, rx, a, C, dx, fs, ex, ea, c, n, l, q2⟩ => ?_) hs
  subst ex
  obtain rfl : ov = Value.ref a := rx
  exact setattr_ok I2 ea c n l ry fun s3 I3 => ⟨σ, _, I3, q2⟩
end

section
variable {X : Cx} {pins : List (Addr × Obj)} {σ : St} {H : Hp} {s : Shared} {A : Around} {E : Value → Shared → Prop} {Q : Value → Shared → Prop} {c : Value} {b : Bool}
/-- the type of a value, as the fragment's deciders take it; for an instance its class -/
inductive TyOf (K : PySem.W.Frag) (H : Hp) : V → Value → Prop where
  | non : TyOf K H .non (.type "NoneType")
  | bl (x : Bool) : TyOf K H (.bl x) (.type "bool")
  | int (i : Int) : TyOf K H (.int i) (.type "int")
  | str (x : Str) : TyOf K H (.str x) (.type "str")
  | flt (x : UInt64) : TyOf K H (.flt x) (.type "float")
  | lst {a : Addr} {xs : List V} (e : H a = some (.lst xs)) : TyOf K H (.ref a) (.type "list")
  | frz {a : Addr} {o : Obj} {xs : List V} (e : H a = some (.frz o (.lst xs))) : TyOf K H (.ref a) (.type "list")
  | tup {a : Addr} {xs : List V} (e : H a = some (.tup xs)) : TyOf K H (.ref a) (.type "tuple")
  | dK {a : Addr} {kvs : List (Key × V)} (e : H a = some (.dK kvs)) : TyOf K H (.ref a) (.type "dict")
  | dT {a : Addr} {kvs : List (List Key × V)} (e : H a = some (.dT kvs)) : TyOf K H (.ref a) (.type "dict")
  | ins {a C dx : Addr} {fs : List (Str × V)} (e : H a = some (.ins C dx fs)) (cl : Cls K C) (ha : PySem.W.findIn K (.ref C) "__class__" = some (some (.builtin "object.__class__")))
      (hn : PySem.W.specialIn K (.builtin "object.__class__") "__get__" = some (some (.builtin "getset_descriptor.__get__"))) (htk : PySem.W.takesIn K (.builtin "object.__class__") = some true)
      (hm : PySem.W.mroIn K C (.type "object") = some true) : TyOf K H (.ref a) (.ref C)
/-- isinstance(x, c) for one class c, a built-in or an own one: kitOne's answer -/
theorem isinst_ok {x : V} {u t : Value} (I : Inv X pins σ H s) (rx : RelV x u) (ty : TyOf X.K H x t) (e : PySem.W.kitOne X.K t c = some b) (h : ∀ tk, Q (.bool b) { s with toks := tk }) :
    wpAny (model X.prog X.w) A (call (.builtin "isinstance") [u, c]) Q E s := by
  cases ty with
  | non => cases (show u = Value.none from rx); exact PySem.W.kia_one PySem.W.kitx_none I.kIn True.intro e (fun z => nomatch z) h
  | bl y => cases (show u = Value.bool y from rx); exact PySem.W.kia_one PySem.W.kitx_bool I.kIn True.intro e (fun z => nomatch z) h
  | int i => obtain ⟨t, q⟩ := (show ∃ t, u = Value.int i t from rx); cases q; exact PySem.W.kia_one PySem.W.kitx_int I.kIn True.intro e (fun z => nomatch z) h
  | str y => obtain ⟨t, q⟩ := (show ∃ t, u = Value.str y t from rx); cases q; exact PySem.W.kia_one PySem.W.kitx_str I.kIn True.intro e (fun z => nomatch z) h
  | flt y => obtain ⟨t, q⟩ := (show ∃ t, u = Value.float y t from rx); cases q; exact PySem.W.kia_one PySem.W.kitx_float I.kIn True.intro e (fun z => nomatch z) h
  | @lst a xs ea =>
    cases (show u = Value.ref a from rx)
    obtain ⟨_, _, n, _, h1⟩ := (show ObjOk X.prog X.w H s.heap a (.lst xs) from I.hok a _ ea)
    exact PySem.W.kia_one PySem.W.kitx_list I.kIn ⟨_, h1, rfl⟩ e (fun z => nomatch z) h
  | @frz a ob xs ea =>
    cases (show u = Value.ref a from rx)
    obtain ⟨_, _, _, n, _, h1⟩ := (show ObjOk X.prog X.w H s.heap a (.frz ob (.lst xs)) from I.hok a _ ea)
    exact PySem.W.kia_one PySem.W.kitx_list I.kIn ⟨_, h1, rfl⟩ e (fun z => nomatch z) h
  | @tup a xs ea =>
    cases (show u = Value.ref a from rx)
    obtain ⟨_, _, _, p⟩ := (show ObjOk X.prog X.w H s.heap a (.tup xs) from I.hok a _ ea)
    obtain ⟨o, h1, h2, _⟩ := p
    exact PySem.W.kia_one PySem.W.kitx_tuple I.kIn ⟨o, h1, h2⟩ e (fun z => nomatch z) h
  | @dK a kvs ea =>
    cases (show u = Value.ref a from rx)
    obtain ⟨_, _, vs, _, p⟩ := (show ObjOk X.prog X.w H s.heap a (.dK kvs) from I.hok a _ ea)
    obtain ⟨o, es, ep, h1, h2, _⟩ := p
    exact PySem.W.kia_one PySem.W.kitx_dict I.kIn ⟨o, h1, h2.1⟩ e (fun z => nomatch z) h
  | @dT a kvs ea =>
    cases (show u = Value.ref a from rx)
    obtain ⟨_, _, xs, _, o, es, ep, h1, h2, _⟩ := (show ObjOk X.prog X.w H s.heap a (.dT kvs) from I.hok a _ ea)
    exact PySem.W.kia_one PySem.W.kitx_dict I.kIn ⟨o, h1, h2.1⟩ e (fun z => nomatch z) h
  | @ins a C dx fs ea cl ha hn htk hm =>
    cases (show u = Value.ref a from rx)
    obtain ⟨mA, O, _⟩ := ins_get I.hok ea
    obtain ⟨od, J, _⟩ := O.look
    exact PySem.W.kia_one (PySem.W.kitx_own (cl.get _) cl.hd ha hn htk hm) I.kIn J e (fun z => nomatch z) h
end
end L2

namespace L2
open PySem PySem.Spec PyProof.Rows

structure Room (k : Nat) (A : Around) : Prop where
  hd : A.handled = none
  dp : A.depth + 3 * k + 5 < recursionLimit
  un : A.units + 16 * k + 200 < cLine
theorem Room.mono {j k : Nat} {A : Around} (r : Room k A) (h : j ≤ k) : Room j A := ⟨r.hd, by have := r.dp; omega, by have := r.un; omega⟩
theorem Room.deeper {k : Nat} {A : Around} (r : Room (k + 1) A) (env : Env) : Room k (A.deeper env) :=
  ⟨r.hd, by have := r.dp; show A.depth + 1 + 3 * k + 5 < _; omega, by have := r.un; show A.units + 3 + 16 * k + 200 < _; omega⟩
theorem make_depth {A : Around} {C : Addr} {us : List Value} {kw : List (Str × Value)} : (A.under (.builtin "type.__call__" ⟨.ref C :: us, kw⟩)).depth = A.depth + 1 := by
  first | rfl | simp [Around.under, Code.weight, Code.isCreation, Code.isGuard, Code.isCaller, Code.frames, Code.isFrame, guardIds]
theorem make_units {A : Around} {C : Addr} {us : List Value} {kw : List (Str × Value)} : (A.under (.builtin "type.__call__" ⟨.ref C :: us, kw⟩)).units = A.units + 1 := by
  first | rfl | simp [Around.under, Code.cUnits, Code.frames, Code.isFrame]
theorem Room.make {k : Nat} {A : Around} (r : Room (k + 1) A) (C : Addr) (us : List Value) (kw : List (Str × Value)) : Room k (A.under (.builtin "type.__call__" ⟨.ref C :: us, kw⟩)) :=
  ⟨r.hd, by have := r.dp; rw [make_depth]; omega, by have := r.un; rw [make_units]; omega⟩
theorem Room.depth {k : Nat} {A : Around} (r : Room k A) : A.depth < recursionLimit := by have := r.dp; omega
theorem Room.units {k : Nat} {A : Around} (r : Room k A) : A.units + 64 < cLine := by have := r.un; omega
theorem Room.units0 {k : Nat} {A : Around} (r : Room k A) : A.units < cLine := by have := r.un; omega

def tNil : TA := fun _ H Q => Q [] H
def tCons (ta : TE) (tr : TA) : TA := fun σ H Q => ta σ H fun x H1 => tr σ H1 fun xs H2 => Q (x :: xs) H2
section
variable {X : Cx} {e : Expr} {es : List Expr} {te : TE} {t : TA} {pos : Pos}
theorem pa_nil : PA X [] tNil := fun _ _ _ _ H Q I h => Calls.spliced_nil ⟨[], H, I, .nil, h⟩
theorem pa_cons (ha : PE X e te) (hr : PA X es t) (hs : starEach (e :: es) X.env = (false, eval e X.env) :: starEach es X.env := by rfl) : PA X (e :: es) (tCons te t) := by
  intro pos pins s σ H Q I h
  rw [hs]
  show wpAny _ _ (spliced ((false, eval e X.env) :: backTo pos (starEach es X.env))) _ _ s
  refine Calls.spliced_cons (thn (ha pins s σ H _ I h) fun u s1 ⟨x, H1, I1, r1, q1⟩ => ?_)
  exact thn (hr pos pins s1 σ H1 _ I1 q1) fun us s2 ⟨xs, H2, I2, r2, q2⟩ => ⟨x :: xs, H2, I2, .cons r1 r2, q2⟩

/-- a tuple, a list of written items -/
def tTup (t : TA) : TE := fun σ H Q => t σ H fun xs H1 => xs.length ≤ sizeLine ∧ ∀ p, H1 p = none → Q (.ref p) (upd H1 p (.tup xs))
def tLst (t : TA) : TE := fun σ H Q => t σ H fun xs H1 => xs.length ≤ sizeLine ∧ ∀ p, H1 p = none → Q (.ref p) (upd H1 p (.lst xs))
theorem pe_tup {x1} (h : PA X es t) : PE X (.Tuple es x1 pos) (tTup t) := by
  intro pins s σ H Q I hq
  refine wpAny_Tuple_spliced (thn (h pos pins s σ H _ I hq) fun us s1 ⟨xs, H1, I1, r, z, q⟩ => ⟨by rw [← r.length]; exact z, ?_⟩)
  have hf : H1 s1.heap.objs.size = none := I1.hok.fresh (Nat.le_refl _)
  refine ⟨.ref s1.heap.objs.size, upd H1 s1.heap.objs.size (.tup xs), I1.laid (t' := s1.toks) (fun b u e => Heap.get?_push_of_some _ e) (Nat.le_refl _) ?_, rfl, q _ hf⟩
  exact ⟨z, us, r, ⟨_, Heap.get?_push_size _ rfl, rfl, _, rfl⟩⟩
theorem pe_lst (h : PA X es t) : PE X (.List es pos) (tLst t) := by
  intro pins s σ H Q I hq
  refine wpAny_List_spliced (thn (h pos pins s σ H _ I hq) fun us s1 ⟨xs, H1, I1, r, z, q⟩ => ⟨by rw [← r.length]; exact z, ?_⟩)
  have hf : H1 s1.heap.objs.size = none := I1.hok.fresh (Nat.le_refl _)
  refine ⟨.ref s1.heap.objs.size, upd H1 s1.heap.objs.size (.lst xs), I1.laid (t' := s1.toks) (fun b u e => Heap.get?_push_of_some _ e) (Nat.le_refl _) ?_, rfl, q _ hf⟩
  exact ⟨z, us, 0, r, Heap.get?_push_size _ rfl⟩
end

/-- a def's promise: the bound arguments in the parameters' order, the heap, the wanted end, the wanted exception -/
abbrev Sp := List V → Hp → VK → XK → Prop
/-- how an exception lies behind a call (file 08 gives it): the callers' frames, abstract heap and state ahead of the call, the wish, the exception, the state -/
abbrev CXT := List Env → Hp → Shared → XK → Value → Shared → Prop

/-- the state at a call -/
structure Env0 (P : Program) (w : World) (K : PySem.W.Frag) (mg : Str → Option Value) (base : Heap) (A : Around) (outer : List Env) (s : Shared) (H : Hp) : Prop where
  frames : A.frames = some outer
  mod : Mod K mg base
  bs : ∀ b o, base.get? b = some o → s.heap.get? b = some o ∧ H b = none
  bsz : base.objs.size ≤ s.heap.objs.size
  funs : s.heap.FunFrames base outer
  frf : ∀ b ∈ frs outer, H b = none
  hok : HOk P w H s.heap
  bare : AllBare s.gens
/-- a call's end -/
def CE (outer : List Env) (P : Program) (w : World) (H : Hp) (s : Shared) (Q : VK) (u : Value) (s' : Shared) : Prop :=
  ∃ v H', s'.os = s.os ∧ AllBare s'.gens ∧ Un (frs outer) [] H H' s.heap s'.heap ∧ HOk P w H' s'.heap ∧ RelV v u ∧ Q v H'
def CR (CX : CXT) (outer : List Env) (P : Program) (w : World) (H : Hp) (s : Shared) (Q : VK) (E : XK) (r : Result) (s' : Shared) : Prop :=
  match r with
  | .ok (.ret u) => CE outer P w H s Q u s'
  | .ok _ => False
  | .error e => CX outer H s E e s'
structure FnOk (P : Program) (w : World) (K : PySem.W.Frag) (mg : Str → Option Value) (base : Heap) (CX : CXT) (k : Nat) (f : Addr) (fd : FuncData) (ps : List Str) (sp : Sp) : Prop where
  len : ∀ vs H Q E, sp vs H Q E → vs.length = ps.length
  run : ∀ (A : Around) (outer : List Env) (s : Shared) (H : Hp) (args : Args) (us : List Value) (vs : List V) (Q : VK) (E : XK), Room k A → Env0 P w K mg base A outer s H → BindsTo s fd args (ps.zip us) → Vals vs us → sp vs H Q E →
    codeAny (model P w) A (.call (.ref f) args) (CR CX outer P w H s Q E) s
theorem Env0.make {P : Program} {w : World} {K : PySem.W.Frag} {mg : Str → Option Value} {base : Heap} {A : Around} {outer : List Env} {s : Shared} {H : Hp} (e : Env0 P w K mg base A outer s H) (C : Addr) (us : List Value) (kw : List (Str × Value)) :
    Env0 P w K mg base (A.under (.builtin "type.__call__" ⟨.ref C :: us, kw⟩)) outer s H := ⟨by first | exact e.frames | (simpa [Around.under, Code.envs, Code.isFrame, pushEnvs] using e.frames), e.mod, e.bs, e.bsz, e.funs, e.frf, e.hok, e.bare⟩
section
variable {X : Cx} {pins : List (Addr × Obj)} {σ : St} {H : Hp} {s s' : Shared}
/-- from a body: what a callee wants -/
theorem Inv.env0 (I : Inv X pins σ H s) : Env0 X.prog X.w X.K X.mg X.base X.A X.stack s H :=
  ⟨I.ok.frames, I.ok.mod, I.bs, Nat.le_trans I.ok.bsz I.sz, I.stack, I.stkFree, I.hok, I.bare⟩
/-- behind a call -/
theorem Inv.after {Q : VK} {u : Value} (I : Inv X pins σ H s) (h : CE X.stack X.prog X.w H s Q u s') : EP X pins σ Q u s' := by
  obtain ⟨v, H', os, bare, un, hok, r, q⟩ := h
  obtain ⟨hh, g, d, t, os'⟩ := s'
  obtain rfl : os' = s.os := os
  exact ⟨v, H', I.call (h' := hh) (g' := g) (d' := d) (t' := t) (ch := []) un hok bare (fun b z => absurd z (by simp)), r, q⟩
end

/-- f(..): the written arguments, then the defaults dvs; E: what is wanted of an exception -/
def tCall (sp : Sp) (dvs : List V) (E : XK) (t : TA) : TE := fun σ H Q => t σ H fun vs H1 => sp (vs ++ dvs) H1 Q E
/-- C(..): a new instance and its dict, then __init__ -/
def tMake (C : Addr) (sp : Sp) (dvs : List V) (E : XK) (t : TA) : TE := fun σ H Q => t σ H fun vs H1 => ∀ x dx, H1 x = none → H1 dx = none → dx ≠ x →
  sp (.ref x :: (vs ++ dvs)) (upd (upd H1 dx (.own x)) x (.ins C dx [])) (fun v H2 => v = .non ∧ Q (.ref x) H2) E

/-- how the parameters are bound: us the positional arguments, kw the keywords' values by name, ds the defaults that fill up -/
def Binds (K : PySem.W.Frag) (fd : FuncData) (ps : List Str) (ds : List Value) : Prop :=
  ∀ (s : Shared) (us : List Value), K.In s.heap → (us ++ ds).length = ps.length → BindsTo s fd ⟨us, []⟩ (ps.zip (us ++ ds))
/-- every parameter is given -/
theorem Binds.all {K : PySem.W.Frag} {fd : FuncData} {ps : List Str} (h : ∀ us : List Value, us.length = ps.length → bindArgs fd ⟨us, []⟩ = pure (ps.zip us)) : Binds K fd ps [] := fun s us _ hl => by
  rw [List.append_nil] at hl ⊢
  exact .of_eq (h us hl)

/-- an exception of a callee reaches what this body wants of exceptions -/
def Passes (CX : CXT) (X : Cx) (E : XK) : Prop := ∀ (pins : List (Addr × Obj)) (σ : St) (H : Hp) (s : Shared) (e : Value) (s' : Shared), Inv X pins σ H s → CX X.stack H s E e s' → X.xe e s'

section
variable {X : Cx} {CX : CXT} {k : Nat} {f C : Addr} {fd : FuncData} {ps : List Str} {sp : Sp} {dvs : List V} {ds : List Value} {E : XK} {x m : Str} {p pos apos : Pos} {e o : Expr} {es : List Expr} {ta : TE} {t : TA}

/-- the callee runs -/
theorem run_fn {pins : List (Addr × Obj)} {σ : St} {H : Hp} {s : Shared} {Q : VK} {us : List Value} {vs : List V} (F : FnOk X.prog X.w X.K X.mg X.base CX k f fd ps sp) (hr : Room k X.A) (hb : Binds X.K fd ps ds) (hd : Vals dvs ds) (hx : Passes CX X E)
    (I : Inv X pins σ H s) (r : Vals vs us) (h : sp (vs ++ dvs) H Q E) : wpAny (model X.prog X.w) X.A (call (.ref f) us) (EP X pins σ Q) X.xe s := by
  have r2 : Vals (vs ++ dvs) (us ++ ds) := r.append hd
  have hl : (us ++ ds).length = ps.length := by rw [← r2.length]; exact F.len _ _ _ _ h
  refine wpAny_call (codeAny_mono (F.run X.A X.stack s H ⟨us, []⟩ (us ++ ds) (vs ++ dvs) Q E hr I.env0 (hb s us I.kIn hl) r2 h) fun r s' hq => ?_)
  cases r with
  | error e => exact hx pins σ H s e s' I hq
  | ok fl =>
    cases fl with
    | ret u => exact I.after hq
    | next => exact False.elim hq
    | brk => exact False.elim hq
    | cont => exact False.elim hq

theorem pe_call (F : FnOk X.prog X.w X.K X.mg X.base CX k f fd ps sp) (hr : Room k X.A) (hg : Gl X x) (hm : X.mg x = some (.ref f)) (hk : PySem.W.keepIn X.K (.ref f) = true) (hb : Binds X.K fd ps ds) (hd : Vals dvs ds) (hx : Passes CX X E)
    (ha : PA X (e :: es) t) (hdb : (x == ("__debug__" : Str)) = false := by decide) (he : starEach (e :: es) X.env = (false, eval e X.env) :: starEach es X.env := by rfl) (hpl : (backTo pos (starEach es X.env)).any (·.1) = false := by rfl) :
    PE X (.Call (.Name x p) (e :: es) [] pos) (tCall sp dvs E t) := by
  intro pins s σ H Q I h
  refine wpAny_Call_Name_kw (ld_glob I hg hm ?_ hdb)
  refine PySem.W.callWith_K (h₀ := X.base) I.ok.mod.kin hk (thn (ha pos pins s σ H _ I h) fun us s1 ⟨vs, H1, I1, r, q⟩ => ⟨I1.kIn, ?_⟩) he hpl
  exact run_fn F hr hb hd hx I1 r q
/-- what a class must have to be made -/
structure Mk (K : PySem.W.Frag) (C f : Addr) : Prop where
  makes : PySem.W.makesIn K C = true
  init : PySem.W.findIn K (.ref C) "__init__" = some (some (.ref f))
  fn : PySem.W.isFn K (.ref f) = true
  kp : PySem.W.keepIn K (.ref C) = true

theorem run_make {pins : List (Addr × Obj)} {σ : St} {H : Hp} {s : Shared} {Q : VK} {us : List Value} {vs : List V} (M : Mk X.K C f) (F : FnOk X.prog X.w X.K X.mg X.base CX k f fd ps sp) (hr : Room (k + 1) X.A) (hb : Binds X.K fd ps ds) (hd : Vals dvs ds)
    (hx : Passes CX X E) (I : Inv X pins σ H s) (r : Vals vs us)
    (h : ∀ x dx, H x = none → H dx = none → dx ≠ x → sp (.ref x :: (vs ++ dvs)) (upd (upd H dx (.own x)) x (.ins C dx [])) (fun v H2 => v = .non ∧ Q (.ref x) H2) E) :
    wpAny (model X.prog X.w) X.A (call (.ref C) us) (EP X pins σ Q) X.xe s := by
  have hq := h (s.heap.objs.size + 1) s.heap.objs.size (I.hok.fresh (Nat.le_succ _)) (I.hok.fresh (Nat.le_refl _)) (Nat.ne_of_lt (Nat.lt_succ_self _))
  have I2 := Inv.made (C := C) I
  have r2 : Vals (V.ref (s.heap.objs.size + 1) :: (vs ++ dvs)) (Value.ref (s.heap.objs.size + 1) :: (us ++ ds)) := .cons rfl (r.append hd)
  have hl : (Value.ref (s.heap.objs.size + 1) :: us ++ ds).length = ps.length := by
    have e := r2.length
    rw [F.len _ _ _ _ hq] at e
    exact e.symm
  refine wpAny_call (make_map (f := f) I.kIn M.makes M.init (beq_iff_eq.mp M.fn) (codeAny_mono (F.run _ X.stack _ _ ⟨Value.ref (s.heap.objs.size + 1) :: us, []⟩ (Value.ref (s.heap.objs.size + 1) :: (us ++ ds)) _ _ E (hr.make C us [])
    (I2.env0.make C us []) (hb _ (Value.ref (s.heap.objs.size + 1) :: us) I2.kIn hl) r2 hq) fun r s' hq' => ?_))
  cases r with
  | error e => exact hx pins σ _ _ e s' I2 hq'
  | ok fl =>
    cases fl with
    | ret u =>
      obtain ⟨v, H', I3, rv, ev, q3⟩ := I2.after hq'
      subst ev
      exact ⟨rv, ⟨V.ref (s.heap.objs.size + 1), H', I3, rfl, q3⟩⟩
    | next => exact False.elim hq'
    | brk => exact False.elim hq'
    | cont => exact False.elim hq'
theorem pe_make (M : Mk X.K C f) (F : FnOk X.prog X.w X.K X.mg X.base CX k f fd ps sp) (hr : Room (k + 1) X.A) (hg : Gl X x) (hm : X.mg x = some (.ref C)) (hb : Binds X.K fd ps ds) (hd : Vals dvs ds) (hx : Passes CX X E)
    (ha : PA X (e :: es) t) (hdb : (x == ("__debug__" : Str)) = false := by decide) (he : starEach (e :: es) X.env = (false, eval e X.env) :: starEach es X.env := by rfl) (hpl : (backTo pos (starEach es X.env)).any (·.1) = false := by rfl) :
    PE X (.Call (.Name x p) (e :: es) [] pos) (tMake C sp dvs E t) := by
  intro pins s σ H Q I h
  refine wpAny_Call_Name_kw (ld_glob I hg hm ?_ hdb)
  refine PySem.W.callWith_K (h₀ := X.base) I.ok.mod.kin M.kp (thn (ha pos pins s σ H _ I h) fun us s1 ⟨vs, H1, I1, r, q⟩ => ⟨I1.kIn, ?_⟩) he hpl
  exact run_make M F hr hb hd hx I1 r q
end

section
variable {X : Cx} {CX : CXT} {k : Nat} {f C : Addr} {fd : FuncData} {ps ks : List Str} {sp : Sp} {E : XK} {x m : Str} {p pos apos kpos : Pos} {e o : Expr} {es : List Expr} {kws : List Keyword} {te ta : TE} {t tk : TA} {nm : Option Str}
variable {g : List Value → List Value → List Value} {gV : List V → List V → List V}
end

/-- names: the parameters first -/
structure FnScope (N P : List Str) (sc : Scope) : Prop where
  kind : sc.kind = .function
  co : sc.isCoroutine = false
  gen : sc.isGenerator = false
  nd : N.Nodup
  pre : N.take P.length = P
  par : ∀ x ∈ P, sc.names.lookup x = some .local ∨ sc.names.lookup x = some .cell
  nofree : ∀ y ∈ sc.names, y.2 ≠ .free

theorem bindL_out {kindOf : Str → Option NameKind} {x : Str} : ∀ {binds : List (Str × Value)} {m : Str → Option Value}, (∀ v, (x, v) ∉ binds) → bindL kindOf binds m x = m x
  | [], _, _ => rfl
  | (n, v) :: r, m, h => by
    unfold bindL
    rw [bindL_out fun w hw => h w (List.mem_cons_of_mem _ hw)]
    split
    · have : x ≠ n := by rintro rfl; exact h v List.mem_cons_self
      simp [this]
    · rfl
theorem bindC_out {kindOf : Str → Option NameKind} {x : Str} : ∀ {binds : List (Str × Value)} {m : Str → Option Value}, (∀ v, (x, v) ∉ binds) → bindC kindOf binds m x = m x
  | [], _, _ => rfl
  | (n, v) :: r, m, h => by
    unfold bindC
    rw [bindC_out fun w hw => h w (List.mem_cons_of_mem _ hw)]
    split
    · rfl
    · have : x ≠ n := by rintro rfl; exact h v List.mem_cons_self
      simp [this]
theorem bindL_get {kindOf : Str → Option NameKind} {x : Str} {v : Value} : ∀ {P : List Str} {vs : List Value} {i : Nat} {m : Str → Option Value}, P.Nodup → P[i]? = some x → vs[i]? = some v → kindOf x = some .local →
    bindL kindOf (P.zip vs) m x = some v
  | [], _, _, _, _, h, _, _ => by simp at h
  | _ :: _, [], _, _, _, _, h, _ => by simp at h
  | p :: P, w :: vs, 0, m, nd, h1, h2, hk => by
    simp at h1 h2; subst h1; subst h2
    show bindL kindOf ((p, w) :: P.zip vs) m p = _
    unfold bindL
    rw [bindL_out fun v hv => (List.nodup_cons.mp nd).1 (List.of_mem_zip hv).1, if_pos hk]
    simp
  | p :: P, w :: vs, i + 1, m, nd, h1, h2, hk => by
    show bindL kindOf ((p, w) :: P.zip vs) m x = _
    unfold bindL
    exact bindL_get (i := i) (List.nodup_cons.mp nd).2 (by simpa using h1) (by simpa using h2) hk
theorem bindC_get {kindOf : Str → Option NameKind} {x : Str} {v : Value} : ∀ {P : List Str} {vs : List Value} {i : Nat} {m : Str → Option Value}, P.Nodup → P[i]? = some x → vs[i]? = some v → kindOf x ≠ some .local →
    bindC kindOf (P.zip vs) m x = some v
  | [], _, _, _, _, h, _, _ => by simp at h
  | _ :: _, [], _, _, _, _, h, _ => by simp at h
  | p :: P, w :: vs, 0, m, nd, h1, h2, hk => by
    simp at h1 h2; subst h1; subst h2
    show bindC kindOf ((p, w) :: P.zip vs) m p = _
    unfold bindC
    rw [bindC_out fun v hv => (List.nodup_cons.mp nd).1 (List.of_mem_zip hv).1, if_neg hk]
    simp
  | p :: P, w :: vs, i + 1, m, nd, h1, h2, hk => by
    show bindC kindOf ((p, w) :: P.zip vs) m x = _
    unfold bindC
    exact bindC_get (i := i) (List.nodup_cons.mp nd).2 (by simpa using h1) (by simpa using h2) hk

/-- the names' values at the entry -/
def start (N : List Str) (vs : List V) : St := vs.map some ++ List.replicate (N.length - vs.length) none

/-- the context of a def's body, at its entry; an exception leaves the frame, then lies as CX says -/
def cxOf (CX : CXT) (P : Program) (w : World) (K : PySem.W.Frag) (mg : Str → Option Value) (base : Heap) (N : List Str) (qual : Str) (scope : Scope) (f : Addr) (cd : Value) (A : Around) (outer : List Env) (s : Shared) (H : Hp) (E : XK) : Cx where
  prog := P
  w := w
  K := K
  mg := mg
  base := base
  A := A.deeper (envOfC qual scope s.heap.objs.size f cd)
  N := N
  s₀ := s
  H₀ := H
  env := envOfC qual scope s.heap.objs.size f cd
  outer := outer
  stack := envOfC qual scope s.heap.objs.size f cd :: outer
  ex := []
  calm := true
  fn := fun _ => true
  pn := []
  xe := fun e s' => wpAny (model P w) (A.deeper (envOfC qual scope s.heap.objs.size f cd)) (leaving (envOfC qual scope s.heap.objs.size f cd) e) (fun _ s'' => CX outer H s E e s'') (fun e' s'' => CX outer H s E e' s'') s'

theorem cell_has {sc : Scope} {n : Nat} {x : Str} (h : sc.names.lookup x = some .cell) : ∃ c, (cellsFrom n sc.names []).lookup x = some c := by
  have q := PySem.W.cellsFrom_some sc.names n [] (.inl h)
  exact Option.isSome_iff_exists.mp q

theorem inv_start {CX : CXT} {P : Program} {w : World} {K : PySem.W.Frag} {mg : Str → Option Value} {base : Heap} {N ps : List Str} {qual : Str} {scope : Scope} {f : Addr} {cd : Value} {A : Around} {outer : List Env} {s s1 : Shared} {H : Hp} {E : XK} {us : List Value} {vs : List V}
    (S : FnScope N ps scope) (hd : A.handled = none) (e0 : Env0 P w K mg base A outer s H) (hl : vs.length = ps.length) (r : Vals vs us)
    (x : InCallC s s.heap.objs.size (bindL (envOfC qual scope s.heap.objs.size f cd).kindOf (ps.zip us) fun _ => none) (cellsFrom (s.heap.objs.size + 1) scope.names []) (bindC (envOfC qual scope s.heap.objs.size f cd).kindOf (ps.zip us) fun _ => none) s1) :
    Inv (cxOf CX P w K mg base N qual scope f cd A outer s H E) [] (start N vs) H s1 := by
  have hpl : ps.length ≤ N.length := by have := congrArg List.length S.pre; rw [List.length_take] at this; omega
  obtain ⟨h1, tk, rfl, hk⟩ := x.done
  have noA : ∀ b : Addr, b ∉ (cxOf CX P w K mg base N qual scope f cd A outer s H E).ex := fun b z => absurd (show b ∈ ([] : List Addr) from z) (by simp)
  refine ⟨⟨e0.mod, S.kind, rfl, rfl, Nat.le_refl _, fun y z c h1 h2 => ?_, fun y hy => ?_, fun y c _ h => ?_, fun _ => hd, Around.frames_deeper e0.frames, .inr ⟨rfl, rfl⟩, fun b z => absurd z (noA b), e0.bs, e0.bsz, fun b _ _ => noA b, fun b z => absurd z (noA b), e0.funs, e0.frf⟩,
    rfl, e0.bare, Un.kept hk, ⟨_, x.toInCall.ns, fun i y v h1 h2 h3 => ?_⟩, fun y c h => ⟨_, x.cell y c h⟩, e0.hok.fresh (Nat.le_refl _), fun y c h => ?_, fun p hp => absurd (show p ∈ ([] : List (Addr × Obj)) from hp) (by simp), e0.hok.kept hk, ?_⟩
  · exact name_of_addr x.apart (PySem.mem_of_lookup h1) (PySem.mem_of_lookup h2)
  · have hy : scope.names.lookup y = some .cell ∨ scope.names.lookup y = some .free := hy
    rcases hy with hy | hy
    · exact cell_has hy
    · exact absurd rfl (S.nofree _ (PySem.mem_of_lookup hy))
  · exact Nat.le_of_lt (x.above y c (PySem.mem_of_lookup h))
  · have hi : i < vs.length := by
      unfold start at h2
      by_cases hi : i < vs.length
      · exact hi
      · rw [List.getElem?_append_right (by simpa using hi)] at h2
        rw [List.getElem?_replicate] at h2
        split at h2 <;> cases h2
    have ha : vs[i]? = some v := by
      unfold start at h2
      rw [List.getElem?_append_left (by simpa using hi), List.getElem?_map] at h2
      cases e : vs[i]? with
      | none => rw [e] at h2; cases h2
      | some a => rw [e] at h2; cases h2; rfl
    obtain ⟨u, hu, rv⟩ := r.get ha
    have hp : ps[i]? = some y := by
      rw [← S.pre, List.getElem?_take_of_lt (by omega)]; exact h1
    have ndP : ps.Nodup := by rw [← S.pre]; exact S.nd.sublist (List.take_sublist _ _)
    refine ⟨u, rv, ?_⟩
    rcases S.par y (List.mem_of_getElem? hp) with k | k
    · exact .inl ⟨k, bindL_get ndP hp hu k⟩
    · obtain ⟨c, e⟩ := cell_has (n := s.heap.objs.size + 1) k
      refine .inr ⟨.inl k, c, e, ?_⟩
      have q := x.cell y c e
      rw [bindC_get ndP hp hu (by show scope.names.lookup y ≠ _; rw [k]; decide)] at q
      exact q
  · exact e0.hok.fresh (Nat.le_of_lt (x.above y c (PySem.mem_of_lookup h)))
  · unfold start
    show _ = N.length
    rw [List.length_append, List.length_map, List.length_replicate]
    omega

/-- THE RULE: a def (or a method) of the text, by its body. The body's reading t is chosen for each entry; it is run at the parameters' values -/
theorem fn_of {CX : CXT} {P : Program} {w : World} {K : PySem.W.Frag} {mg : Str → Option Value} {base : Heap} {k : Nat} {f : Addr} {name qual : Str} {params : Arguments} {body : List Stmt} {scope : Scope} {dV kV doc pm cdv ct oc : Value} {an od : Option Addr}
    {osl : Array (Option Value)} {N ps : List Str} {sp : Sp} (lk : K.lookup f = some ⟨oc, od, .func (PySem.W.fnOf name qual params body scope dV kV doc pm an cdv ct), osl⟩) (hcd : PySem.W.codeIn K cdv qual = true) (S : FnScope N ps scope)
    (len : ∀ vs H Q E, sp vs H Q E → vs.length = ps.length)
    (hbody : ∀ (A : Around) (outer : List Env) (s : Shared) (H : Hp) (vs : List V) (Q : VK) (E : XK), Room k (A.deeper (envOfC qual scope s.heap.objs.size f cdv)) → sp vs H Q E →
      ∃ t, PSs (cxOf CX P w K mg base N qual scope f cdv A outer s H E) body t ∧ t { nx := fun _ H' => Q .non H', rt := Q } (start N vs) H) :
    FnOk P w K mg base CX (k + 1) f (PySem.W.fnOf name qual params body scope dV kV doc pm an cdv ct) ps sp := by
  refine ⟨len, fun A outer s H args us vs Q E hr e0 hb r hsp => ?_⟩
  have hl := len _ _ _ _ hsp
  have KX : K.In s.heap := e0.mod.kin.keeps fun b o e => (e0.bs b o e).1
  have lim : s.heap.NoLimit := e0.mod.nolimit.keeps fun b o e => (e0.bs b o e).1
  have hkind : ∀ y ∈ ps.zip us, scope.names.lookup y.1 = some .local ∨ (scope.names.lookup y.1 = some .cell ∧ ((cellsFrom (s.heap.objs.size + 1) scope.names []).lookup y.1).isSome = true) := fun ⟨n, v⟩ hy => by
    rcases S.par n (List.of_mem_zip hy).1 with q | q
    · exact .inl q
    · exact .inr ⟨q, PySem.W.cellsFrom_some _ _ _ (.inl q)⟩
  refine codeAny_call_function hr.depth (KX _ _ lk) rfl S.co S.gen rfl (PySem.W.codeRec_of KX hcd) (hb _ _ _ _ ?_)
  refine wpAny_newFunctionEnv_cells S.kind hkind fun env he s1 x => ?_
  subst he
  refine ⟨lim.keeps x.toInCall.keep, codeAny_func ?_⟩
  obtain ⟨t, ht, hq⟩ := hbody A outer s H vs Q E (hr.deeper _) hsp
  have I : Inv (cxOf CX P w K mg base N qual scope f cdv A outer s H E) [] (start N vs) H s1 := inv_start S hr.hd e0 hl r x
  refine wpAny_mono (ht [] s1 (start N vs) H _ I hq) (fun fl s' hs => ?_) fun e s' hs => hs
  have fin : ∀ {σ' : St} {H' : Hp} {v : V} {u : Value}, Inv (cxOf CX P w K mg base N qual scope f cdv A outer s H E) [] σ' H' s' → RelV v u → Q v H' → CE outer P w H s Q u s' :=
    fun {σ' H' v u} J rv q => ⟨v, H', J.os, J.bare, J.base, J.hok, rv, q⟩
  cases fl with
  | ret u =>
    obtain ⟨v, σ', H', J, rv, q⟩ := hs
    exact fin J rv q
  | next =>
    obtain ⟨σ', H', J, q⟩ := hs
    exact fin (v := V.non) (u := Value.none) J rfl q
  | brk =>
    obtain ⟨_, _, _, q⟩ := hs
    exact False.elim q
  | cont =>
    obtain ⟨_, _, _, q⟩ := hs
    exact False.elim q
end L2

namespace L2
open PySem PySem.Spec PyProof.Rows
section
variable {X : Cx} {x : Str} {p pos : Pos} {e : Expr} {es : List Expr} {t : TA} {id T : String} {r : List V → Hp → VK → Prop}

def tCB (r : List V → Hp → VK → Prop) (t : TA) : TE := fun σ H Q => t σ H fun vs H1 => r vs H1 Q
/-- f(e, ..), f a built-in function -/
theorem pe_callB (hc : CallR X (.builtin id) r) (hg : Gl X x) (hm : X.mg x = none) (hv : bootBuiltins x = some (.builtin id)) (ha : PA X (e :: es) t) (hn : x ≠ "__name__" := by decide) (hdb : (x == ("__debug__" : Str)) = false := by decide)
    (he : starEach (e :: es) X.env = (false, eval e X.env) :: starEach es X.env := by rfl) (hpl : (backTo pos (starEach es X.env)).any (·.1) = false := by rfl) : PE X (.Call (.Name x p) (e :: es) [] pos) (tCB r t) := by
  intro pins s σ H Q I h
  refine wpAny_Call_Name_kw (ld_blt I hg hm hv ?_ hn hdb)
  exact PyProof.Rows.callWith_builtin1 (thn (ha pos pins s σ H _ I h) fun us s1 ⟨vs, H1, I1, r1, q1⟩ => hc pins s1 σ H1 vs us Q I1 r1 q1) he hpl
/-- T(e, ..), T a built-in type -/
theorem pe_callTy (hc : CallR X (.type T) r) (hg : Gl X x) (hm : X.mg x = none) (hv : bootBuiltins x = some (.type T)) (ha : PA X (e :: es) t) (hn : x ≠ "__name__" := by decide) (hdb : (x == ("__debug__" : Str)) = false := by decide)
    (he : starEach (e :: es) X.env = (false, eval e X.env) :: starEach es X.env := by rfl) (hpl : (backTo pos (starEach es X.env)).any (·.1) = false := by rfl) : PE X (.Call (.Name x p) (e :: es) [] pos) (tCB r t) := by
  intro pins s σ H Q I h
  refine wpAny_Call_Name_kw (ld_blt I hg hm hv ?_ hn hdb)
  exact PyProof.Rows.callWith_type1 (thn (ha pos pins s σ H _ I h) fun us s1 ⟨vs, H1, I1, r1, q1⟩ => hc pins s1 σ H1 vs us Q I1 r1 q1) he hpl
end
end L2

namespace HT
open PySem PyProof.Rows

section
open PySem.SeqAt
open PySem.AutoSeq1 (wpAny_loadPart')
open PySem.MeetsSeq PySem.MeetsSeq2 PySem.MeetsSeq3

end

section
variable {prog : Program} {w : World} {A : Around} {E : Value → Shared → Prop} {s : Shared}

/-- a slice's bound as a place among n (d where it is left out) -/
def sIx (n d : Nat) : Option Int → Nat
  | none => d
  | some v => if v < 0 then (v + (n : Int)).toNat else min v.toNat n
theorem sIx_none (n d : Nat) : sIx n d none = d := rfl
theorem sIx_nat (n d k : Nat) : sIx n d (some (k : Int)) = min k n := by
  show (if (k : Int) < 0 then ((k : Int) + (n : Int)).toNat else min (k : Int).toNat n) = min k n
  rw [if_neg (by omega), Int.toNat_natCast]
end
end HT

namespace L2
open PySem PySem.Spec PyProof.Rows

abbrev TO := St → Hp → (Option Int → Hp → Prop) → Prop
/-- a slice's part (left out, or an int) -/
def PO (X : Cx) (e : Option Expr) (t : TO) : Prop :=
  ∀ (pins : List (Addr × Obj)) (s : Shared) (σ : St) (H : Hp) (Q : Option Int → Hp → Prop), Inv X pins σ H s → t σ H Q →
    wpAny (model X.prog X.w) X.A (evalPart e X.env) (fun u s' => ∃ o H', Inv X pins σ H' s' ∧ IsPart u o ∧ Q o H') X.xe s
def tNoPart : TO := fun _ H Q => Q none H
inductive IsI (Q : Option Int → Hp → Prop) (x : V) (H : Hp) : Prop
  | mk : ∀ i, (x = .int i) → (Q (some i) H) → IsI Q x H
def tPart (t : TE) : TO := fun σ H Q => t σ H (IsI Q)

section
variable {X : Cx} {e : Expr} {te : TE} {lo hi : Option Expr} {tl th : TO} {pos p2 : Pos}

theorem po_none : PO X none tNoPart := by
  intro pins s σ H Q I h
  rw [evalPart_none]
  exact wpAny_pure ⟨none, H, I, .none, h⟩
theorem po_some (h : PE X e te) : PO X (some e) (tPart te) := by
  intro pins s σ H Q I hw
  rw [evalPart_some]
  refine thn (h pins s σ H _ I hw) fun u s1 ⟨x, H1, I1, r1, q1⟩ => ?_
  obtain ⟨i, rfl, q⟩ := q1
  obtain ⟨t, rfl⟩ := r1
  exact ⟨some i, H1, I1, .int i t, q⟩

/-- what a slice of a value is, by values: the slice object stands at sl -/
def SlR (X : Cx) (r : V → Option Int → Option Int → Hp → VK → Prop) : Prop :=
  ∀ (pins : List (Addr × Obj)) (s : Shared) (σ : St) (H : Hp) (x : V) (v vl vu : Value) (lo hi : Option Int) (sl : Addr) (Q : VK), Inv X pins σ H s → RelV x v → s.heap.IsSliceOf sl vl vu .none → IsPart vl lo → IsPart vu hi → r x lo hi H Q →
    ∃ T id, typeLookup (.type T) "__getitem__" = pure (some (.builtin id)) ∧ s.TypeIs v T ∧ wpAny (model X.prog X.w) X.A (getItem v (.ref sl)) (EP X pins σ Q) X.xe s
def tSl (r : V → Option Int → Option Int → Hp → VK → Prop) (te : TE) (tl th : TO) : TE := fun σ H Q => te σ H fun x H1 => tl σ H1 fun l H2 => th σ H2 fun u H3 => r x l u H3 Q
/-- a[lo:hi], any a -/
theorem pe_slice {r : V → Option Int → Option Int → Hp → VK → Prop} (hr : SlR X r) (he : PE X e te) (hl : PO X lo tl) (hu : PO X hi th) : PE X (.Subscript e (.Slice lo hi none p2) pos) (tSl r te tl th) := by
  intro pins s σ H Q I h
  refine Subscript_ (thn (he pins s σ H _ I h) fun v s1 ⟨x, H1, I1, r1, q1⟩ => ?_)
  refine wpAny_Slice (thn (hl pins s1 σ H1 _ I1 q1) fun vl s2 ⟨l, H2, I2, pl, q2⟩ => thn (hu pins s2 σ H2 _ I2 q2) fun vu s3 ⟨u, H3, I3, pu, q3⟩ => ?_)
  rw [evalPart_none]
  refine wpAny_pure ?_
  have I4 : Inv X pins σ H3 { s3 with heap := s3.heap.push { cls := .type "slice", data := .fields #[vl, vu, .none] } } := I3.kept (t' := s3.toks) fun b ob q => Heap.get?_push_of_some _ q
  obtain ⟨T, id, hT, ht, hg⟩ := hr pins { s3 with heap := s3.heap.push { cls := .type "slice", data := .fields #[vl, vu, .none] } } σ H3 x v vl vu l u s3.heap.objs.size Q I4 r1 (Heap.IsSliceOf.new ..) pl pu q3
  show wpAny (model X.prog X.w) X.A (subscriptTail e (.Slice lo hi none p2) v (.ref s3.heap.objs.size)) (EP X pins σ Q) X.xe { s3 with heap := s3.heap.push { cls := .type "slice", data := .fields #[vl, vu, .none] } }
  exact tail_any (ops := [.ref s3.heap.objs.size, v]) ht hT hg (by with_unfolding_all rfl)

/-- the items of xs[lo:hi] -/
def cutV (xs : List V) (lo hi : Option Int) : List V := (xs.drop (HT.sIx xs.length 0 lo)).take (HT.sIx xs.length xs.length hi - HT.sIx xs.length 0 lo)
theorem cutV_length (xs : List V) (lo hi : Option Int) : (cutV xs lo hi).length ≤ xs.length := by
  unfold cutV
  rw [List.length_take, List.length_drop]
  omega
end
end L2

namespace L2
open PySem PySem.Spec PyProof.Rows

/-- the place that an index of any sign means -/
def ixN (n : Nat) (i : Int) : Option Nat := if 0 ≤ i then (if i < n then some i.toNat else none) else if -(n : Int) ≤ i then some (i + n).toNat else none
def atI {α : Type} (xs : List α) (i : Int) : Option α := (ixN xs.length i).bind fun j => xs[j]?
theorem ixN_seq {n : Nat} {i : Int} {j : Nat} (h : ixN n i = some j) : seqIndex? i n = some j ∧ j < n ∧ -(n : Int) ≤ i ∧ i < n := by
  unfold ixN at h
  by_cases h0 : 0 ≤ i
  · rw [if_pos h0] at h
    by_cases h1 : i < n
    · rw [if_pos h1] at h
      have e : i.toNat = j := Option.some.inj h
      exact ⟨by rw [seqIndex_of h0 h1, e], by omega, by omega, h1⟩
    · rw [if_neg h1] at h; cases h
  · rw [if_neg h0] at h
    by_cases h1 : -(n : Int) ≤ i
    · rw [if_pos h1] at h
      have e : (i + n).toNat = j := Option.some.inj h
      exact ⟨by rw [seqIndex_neg (by omega) h1, e], by omega, h1, by omega⟩
    · rw [if_neg h1] at h; cases h
theorem atI_get {α : Type} {xs : List α} {i : Int} {v : α} (h : atI xs i = some v) : ∃ j, seqIndex? i xs.length = some j ∧ xs[j]? = some v ∧ j < xs.length ∧ -(xs.length : Int) ≤ i ∧ i < xs.length := by
  unfold atI at h
  cases e : ixN xs.length i with
  | none => rw [e] at h; cases h
  | some j =>
    rw [e] at h
    obtain ⟨h1, h2, h3, h4⟩ := ixN_seq e
    exact ⟨j, h1, h, h2, h3, h4⟩
theorem atI_nat {α : Type} {xs : List α} {j : Nat} {v : α} (h : xs[j]? = some v) : atI xs (j : Int) = some v := by
  have hj : j < xs.length := (List.getElem?_eq_some_iff.mp h).1
  have e : ixN xs.length (j : Int) = some j := by
    unfold ixN
    rw [if_pos (by omega), if_pos (by omega)]; simp
  unfold atI; rw [e]; exact h
/-- what stands as an index of a plain subscript -/
def PlainIx (b : Expr) : Prop := ∀ o i, subscripted b false o i = operate [o, i] (getItem o i)
/-- a subscript by values -/
def IxR (X : Cx) (r : R2) : Prop :=
  ∀ (value slice : Expr) (pins : List (Addr × Obj)) (s : Shared) (σ : St) (H : Hp) (x y : V) (v u : Value) (Q : VK), Inv X pins σ H s → RelV x v → RelV y u → r x y H Q →
    subscripted slice false v u = operate [v, u] (getItem v u) → wpAny (model X.prog X.w) X.A (subscriptTail value slice v u) (EP X pins σ Q) X.xe s
/-- a call of a builtin's method by values: the receiver, the arguments -/
def MtR (X : Cx) (id : String) (r : V → List V → Hp → VK → Prop) : Prop :=
  ∀ (pins : List (Addr × Obj)) (s : Shared) (σ : St) (H : Hp) (x : V) (xs : List V) (v : Value) (us : List Value) (Q : VK), Inv X pins σ H s → RelV x v → Vals xs us → r x xs H Q →
    wpAny (model X.prog X.w) X.A (call (.builtin id) (v :: us)) (EP X pins σ Q) X.xe s
section
variable {X : Cx} {a b : Expr} {ta tb : TE} {pos : Pos}
/-- a[b] -/
theorem pe_ix {r : R2} (hr : IxR X r) (ha : PE X a ta) (hb : PE X b tb) (hs : PlainIx b) : PE X (.Subscript a b pos) (tOp r ta tb) := by
  intro pins s σ H Q I h
  exact Subscript_ (binT ha hb I h fun v u s2 x y H2 I2 rx ry q => hr a b pins s2 σ H2 x y v u Q I2 rx ry q (hs _ _))

inductive rIxL (K : PySem.W.Frag) (x : V) (y : V) (H : Hp) (Q : VK) : Prop
  | mk : ∀ p xs i v, (x = .ref p) → (y = .int i) → (SqL K H p xs) → (atI xs i = some v) → (Q v H) → rIxL K x y H Q
inductive rIxT (K : PySem.W.Frag) (x : V) (y : V) (H : Hp) (Q : VK) : Prop
  | mk : ∀ p xs i v, (x = .ref p) → (y = .int i) → (SqT K H p xs) → (atI xs i = some v) → (Q v H) → rIxT K x y H Q
theorem ix_list : IxR X (rIxL X.K) := by
  intro value slice pins s σ H x y v u Q I rx ry h hs
  obtain ⟨p, xs, i, z, rfl, rfl, hq, he, q⟩ := h
  cases rx
  obtain ⟨t, rfl⟩ := ry
  obtain ⟨its, r, pl, hz⟩ := I.list hq
  obtain ⟨j, h1, h2, h3, h4, h5⟩ := atI_get he
  obtain ⟨w, ew, rw'⟩ := r.get h2
  have hl := r.length
  have hn := line63
  have fin : EP X pins σ Q w s := ⟨z, H, I, rw', q⟩
  by_cases h0 : 0 ≤ i
  · have hj : i.toNat = j := by
      rw [seqIndex_of h0 h5] at h1
      exact Option.some.inj h1
    exact item_listR pl.isList h0 (by omega) (by rw [hj]; simpa using ew) fin hs
  · have hj : (i + (its.toArray.size : Int)).toNat = j := by
      rw [seqIndex_neg (by omega) h4] at h1
      rw [List.size_toArray, ← hl]
      exact Option.some.inj h1
    exact subscriptTail_builtinR (x := w) pl.isList.typeIs slot_list_getitem.lookup
      (wpAny_getItem_list_neg (Q := fun r s' => r = w ∧ EP X pins σ Q r s') pl.isList (by omega) (by rw [List.size_toArray] <;> omega) (by omega) (by rw [hj]; simpa using ew) ⟨rfl, fin⟩) hs
theorem ix_tup : IxR X (rIxT X.K) := by
  intro value slice pins s σ H x y v u Q I rx ry h hs
  obtain ⟨p, xs, i, z, rfl, rfl, hq, he, q⟩ := h
  cases rx
  obtain ⟨t, rfl⟩ := ry
  obtain ⟨its, r, pl, hz⟩ := I.tuple hq
  obtain ⟨j, h1, h2, h3, h4, h5⟩ := atI_get he
  obtain ⟨w, ew, rw'⟩ := r.get h2
  have hl := r.length
  have hn := line63
  have fin : EP X pins σ Q w s := ⟨z, H, I, rw', q⟩
  exact subscriptTail_builtinR (x := w) pl.typeIs slot_tuple_getitem.lookup
    (getItem_tuple (j := j) (Q := fun r s' => r = w ∧ EP X pins σ Q r s') pl (by omega) (by omega) (by rw [List.size_toArray, ← hl]; exact h1) (by simpa using ew) ⟨rfl, fin⟩) hs
/-- the list's object behind a store -/
theorem mapSeq_set (its : List Value) (n j : Nat) (u : Value) : Obj.mapSeq (·.setIfInBounds j u) { cls := .type "list", data := .seq its.toArray n } = { cls := .type "list", data := .seq (its.set j u).toArray n } := by
  simp [Obj.mapSeq]
theorem Inv.lst {pins : List (Addr × Obj)} {σ : St} {H : Hp} {s : Shared} {p : Addr} {xs : List V} (I : Inv X pins σ H s) (h : H p = some (.lst xs)) :
    ∃ (its : List Value) (n : Nat), Vals xs its ∧ s.heap.get? p = some { cls := .type "list", data := .seq its.toArray n } ∧ xs.length ≤ sizeLine := by
  obtain ⟨z, its, n, r, e⟩ := I.hok p _ h
  exact ⟨its, n, r, e, z⟩
/-- the list at p is written by an update of its object -/
theorem Inv.lstUpd {pins : List (Addr × Obj)} {σ : St} {H : Hp} {s : Shared} {p : Addr} {xs ys : List V} {its its' : List Value} {n n' : Nat} {f : Obj → Obj} (I : Inv X pins σ H s) (h : H p = some (.lst xs))
    (ho : s.heap.get? p = some { cls := .type "list", data := .seq its.toArray n }) (hf : f { cls := .type "list", data := .seq its.toArray n } = { cls := .type "list", data := .seq its'.toArray n' }) (r : Vals ys its') (hz : ys.length ≤ sizeLine) (t : Nat) :
    Inv X pins σ (upd H p (.lst ys)) { s with heap := s.heap.update p f, toks := t } := by
  have e : (s.heap.update p f).get? p = some { cls := .type "list", data := .seq its'.toArray n' } := by
    rw [Heap.get?_update_self f ho (by rw [hf] <;> rfl), hf]
  refine I.write (x := p) (e := p) (by rw [h]; trivial) (.inl rfl) (fun b u hb q => (Heap.get?_update_other _ _ (Ne.symm hb)).trans q) ⟨_, e⟩ ?_
  exact ⟨hz, its', n', r, e⟩
inductive rSetL (o : V) (i : V) (v : V) (H : Hp) (Q : (Hp → Prop)) : Prop
  | mk : ∀ p xs k j, (o = .ref p) → (i = .int k) → (H p = some (.lst xs)) → (ixN xs.length k = some j) → (Q (upd H p (.lst (xs.set j v)))) → rSetL o i v H Q
theorem set_list : PSet X rSetL := by
  intro pins s σ H o i v ov iv u Q I ro ri rv h
  obtain ⟨p, xs, k, j, rfl, rfl, hp, hj, q⟩ := h
  cases ro
  obtain ⟨t, rfl⟩ := ri
  obtain ⟨its, n, r, ho, hz⟩ := I.lst hp
  obtain ⟨h1, h2, h3, h4⟩ := ixN_seq hj
  have hl := r.length
  have hn := line63
  have I' : Inv X pins σ (upd H p (.lst (xs.set j v))) { s with heap := s.heap.update p (Obj.mapSeq (·.setIfInBounds j u)) } :=
    I.lstUpd hp ho (mapSeq_set its n j u) (r.set rv j) (by rw [List.length_set]; exact hz) s.toks
  by_cases h0 : 0 ≤ k
  · have hk : k.toNat = j := by
      rw [seqIndex_of h0 h4] at h1
      exact Option.some.inj h1
    exact PySem.W.ki_setAt ho h0 (by omega) (by rw [List.size_toArray, ← hl]; exact h4) (by rw [hk]; exact ⟨_, I', q⟩)
  · have hk : (k + (its.toArray.size : Int)).toNat = j := by
      rw [seqIndex_neg (by omega) h3] at h1
      rw [List.size_toArray, ← hl]
      exact Option.some.inj h1
    exact PySem.W.ki_setBack ho (by omega) (by rw [List.size_toArray, ← hl]; exact h3) (by omega) (by rw [hk]; exact ⟨_, I', q⟩)

theorem slice_bounds (lo hi : Option Int) (n : Nat) : (sliceBounds lo hi none n).1 = ((HT.sIx n 0 lo : Nat) : Int) ∧ (sliceBounds lo hi none n).2.1 = ((HT.sIx n n hi : Nat) : Int) ∧ (sliceBounds lo hi none n).2.2 = 1 := by
  refine ⟨?_, ?_, rfl⟩
  · cases lo with
    | none => simp [sliceBounds, HT.sIx]
    | some i =>
      simp only [sliceBounds, HT.sIx, Option.getD_none, show (1 : Int) > 0 by decide, if_true]
      by_cases h : i < 0
      · simp only [h, if_true] <;> omega
      · simp only [h, if_false] <;> omega
  · cases hi with
    | none => simp [sliceBounds, HT.sIx]
    | some i =>
      simp only [sliceBounds, HT.sIx, Option.getD_none, show (1 : Int) > 0 by decide, if_true]
      by_cases h : i < 0
      · simp only [h, if_true] <;> omega
      · simp only [h, if_false] <;> omega
theorem slicePick_cut (its : List Value) (lo hi : Option Int) : slicePick its.toArray lo hi none = ((its.drop (HT.sIx its.length 0 lo)).take (HT.sIx its.length its.length hi - HT.sIx its.length 0 lo)).toArray := by
  obtain ⟨h1, h2, h3⟩ := slice_bounds lo hi its.toArray.size
  unfold slicePick
  rw [h1, h2, h3]
  simp only [sliceRange_one, pick_run, List.size_toArray] <;> rfl
/-- xs[lo:hi] of a list: a new list -/
inductive rSlL (K : PySem.W.Frag) (x : V) (lo : Option Int) (hi : Option Int) (H : Hp) (Q : VK) : Prop
  | mk : ∀ a xs, (x = .ref a) → (SqL K H a xs) → (∀ p, H p = none → Q (.ref p) (upd H p (.lst (cutV xs lo hi)))) → rSlL K x lo hi H Q
theorem sl_list : SlR X (rSlL X.K) := by
  intro pins s σ H x v vl vu lo hi sl Q I rx hs pl pu h
  obtain ⟨a, xs, rfl, hx, q⟩ := h
  cases rx
  obtain ⟨its, r, ht, hz⟩ := I.list hx
  have hlen := r.length
  refine ⟨"list", _, slot_list_getitem.lookup, ht.isList.typeIs, ?_⟩
  refine wpAny_getItem_list_slice ht.isList hs pl pu .none (by simp) ?_ (by rw [List.size_toArray] <;> omega)
  rw [slicePick_cut, ← hlen]
  refine ⟨.ref s.heap.objs.size, _, I.laid (t' := s.toks) (o := .lst (cutV xs lo hi)) (fun b ob q => Heap.get?_push_of_some _ q) (Nat.le_refl _) ?_, rfl, q _ (I.hok.fresh (Nat.le_refl _))⟩
  exact ⟨Nat.le_trans (cutV_length xs lo hi) hz, _, 0, (r.drop (HT.sIx xs.length 0 lo)).take (HT.sIx xs.length xs.length hi - HT.sIx xs.length 0 lo), Heap.get?_push_size _ rfl⟩

def flatV : V → Bool
  | .non => true
  | .bl _ => true
  | .int _ => true
  | .str _ => true
  | _ => false
/-- == of flat values -/
def eqV : V → V → Bool
  | .non, .non => true
  | .bl a, .bl b => a == b
  | .bl a, .int b => (if a then 1 else 0) == b
  | .int a, .bl b => a == (if b then 1 else 0)
  | .int a, .int b => a == b
  | .str a, .str b => a == b
  | _, _ => false
theorem eqAt_V {A : Around} {s : Shared} {y x : V} {u v : Value} (ry : RelV y u) (rx : RelV x v) (fy : flatV y = true) (fx : flatV x = true) : SeqAt.EqAt A s u v (eqV y x) := by
  cases y with
  | non =>
    cases ry
    cases x with
    | non => cases rx; exact SeqAt.EqAt.same _
    | bl b => cases rx; exact SeqAt.EqAt.none_bool b
    | int b => obtain ⟨t, rfl⟩ := rx; exact SeqAt.EqAt.none_int b t
    | str b => obtain ⟨t, rfl⟩ := rx; exact SeqAt.EqAt.none_str b t
    | _ => exact absurd (show false = true from fx) Bool.false_ne_true
  | bl a =>
    cases ry
    cases x with
    | non => cases rx; exact SeqAt.EqAt.bool_none a
    | bl b => cases rx; exact SeqAt.EqAt.bool_bool a b
    | int b => obtain ⟨t, rfl⟩ := rx; exact SeqAt.EqAt.bool_int a b t
    | str b => obtain ⟨t, rfl⟩ := rx; exact SeqAt.EqAt.bool_str a b t
    | _ => exact absurd (show false = true from fx) Bool.false_ne_true
  | int a =>
    obtain ⟨t', rfl⟩ := ry
    cases x with
    | non => cases rx; exact SeqAt.EqAt.int_none a t'
    | bl b => cases rx; exact SeqAt.EqAt.int_bool a t' b
    | int b => obtain ⟨t, rfl⟩ := rx; exact SeqAt.EqAt.int_int a t' b t
    | str b => obtain ⟨t, rfl⟩ := rx; exact SeqAt.EqAt.int_str a t' b t
    | _ => exact absurd (show false = true from fx) Bool.false_ne_true
  | str a =>
    obtain ⟨t', rfl⟩ := ry
    cases x with
    | non => cases rx; exact SeqAt.EqAt.str_none a t'
    | bl b => cases rx; exact SeqAt.EqAt.str_bool a t' b
    | int b => obtain ⟨t, rfl⟩ := rx; exact SeqAt.EqAt.str_int a t' b t
    | str b => obtain ⟨t, rfl⟩ := rx; exact SeqAt.EqAt.str_str a t' b t
    | _ => exact absurd (show false = true from fx) Bool.false_ne_true
  | _ => exact absurd (show false = true from fy) Bool.false_ne_true
/-- the items' answers, read off the values (a value's own answer does not lean on its token) -/
def eqU (x : V) (u : Value) : Bool := match u with
  | .none => eqV .non x
  | .bool b => eqV (.bl b) x
  | .int i _ => eqV (.int i) x
  | .str z _ => eqV (.str z) x
  | _ => false
theorem eqU_of {x y : V} {u : Value} (r : RelV y u) (f : flatV y = true) : eqU x u = eqV y x := by
  cases y with
  | non => cases r; rfl
  | bl b => cases r; rfl
  | int i => obtain ⟨t, rfl⟩ := r; rfl
  | str z => obtain ⟨t, rfl⟩ := r; rfl
  | _ => exact absurd (show false = true from f) Bool.false_ne_true
theorem any_eqU {x : V} : ∀ {xs : List V} {us : List Value}, Vals xs us → xs.all flatV = true → us.any (eqU x) = xs.any fun y => eqV y x
  | _, _, .nil, _ => rfl
  | y :: xs, u :: us, .cons r t, f => by
    rw [List.all_cons, Bool.and_eq_true] at f
    rw [List.any_cons, List.any_cons, eqU_of r f.1, any_eqU t f.2]
theorem mem_eqAt {A : Around} {s : Shared} {x : V} {v : Value} (rx : RelV x v) (fx : flatV x = true) : ∀ {xs : List V} {us : List Value}, Vals xs us → xs.all flatV = true → ∀ u ∈ us, SeqAt.EqAt A s u v (eqU x u)
  | _, _, .nil, _ => fun u hu => by cases hu
  | y :: xs, u :: us, .cons r t, f => fun u' hu => by
    rw [List.all_cons, Bool.and_eq_true] at f
    rcases List.mem_cons.mp hu with rfl | hu
    · rw [eqU_of r f.1]; exact eqAt_V r rx f.1 fx
    · exact mem_eqAt rx fx t f.2 u' hu
def inV (x : V) (xs : List V) : Bool := xs.any fun y => eqV y x
/-- x in a list or tuple of flat items -/
inductive rIn (K : PySem.W.Frag) (neg : Bool) (x : V) (y : V) (H : Hp) (Q : VK) : Prop
  | mk : ∀ p xs, (y = .ref p) → ((SqL K H p xs ∨ SqT K H p xs)) → (flatV x = true) → (xs.all flatV = true) → (Q (.bl (if neg then !inV x xs else inV x xs)) H) → rIn K neg x y H Q
theorem op_in_seq : OpR X (compareOp .In) (rIn X.K false) := by
  intro pins s σ H x y v u Q I rx ry h
  obtain ⟨p, xs, rfl, hq, fx, fs, q⟩ := h
  cases ry
  rcases hq with hq | hq
  · obtain ⟨its, r, pl, hz⟩ := I.list hq
    refine SeqAt.in_listAt (eqU x) pl.isList (fun w hw => mem_eqAt rx fx r fs w (by simpa using hw)) ⟨.bl _, H, I, rfl, ?_⟩
    rw [show its.toArray.any (eqU x) = its.any (eqU x) by simp, any_eqU r fs]
    exact q
  · obtain ⟨its, r, pl, hz⟩ := I.tuple hq
    refine SeqAt.in_tupleAt (eqU x) pl (fun w hw => mem_eqAt rx fx r fs w (by simpa using hw)) ⟨.bl _, H, I, rfl, ?_⟩
    rw [show its.toArray.any (eqU x) = its.any (eqU x) by simp, any_eqU r fs]
    exact q
inductive rLen (K : PySem.W.Frag) (xs : List V) (H : Hp) (Q : VK) : Prop
  | mk : ∀ p ys, (xs = [.ref p]) → (SqL K H p ys ∨ SqT K H p ys) → (Q (.int ys.length) H) → rLen K xs H Q
theorem call_len_seq : CallR X (.builtin "len") (rLen X.K) := by
  intro pins s σ H xs us Q I r h
  obtain ⟨p, ys, rfl, hq, q⟩ := h
  obtain ⟨u, rfl, rx⟩ := vals1 r
  cases rx
  have hn := line63
  rcases hq with hq | hq
  · obtain ⟨its, r', pl, hz⟩ := I.list hq
    have hlen := r'.length
    exact Calls.call_len_list pl.isList (by simp only [List.size_toArray] <;> omega) ⟨.int ys.length, H, I.tok _, ⟨s.toks + 1, by rw [List.size_toArray, hlen]⟩, q⟩
  · obtain ⟨its, r', pl, hz⟩ := I.tuple hq
    have hlen := r'.length
    exact len_tuple pl (by simp only [List.size_toArray] <;> omega) ⟨.int ys.length, H, I.tok _, ⟨s.toks + 1, by rw [List.size_toArray, hlen]⟩, q⟩
theorem call_len_str : CallR X (.builtin "len") (fun xs H Q => ∃ z, xs = [.str z] ∧ z.length ≤ sizeLine ∧ Q (.int z.length) H) := by
  intro pins s σ H xs us Q I r h
  obtain ⟨z, rfl, hz, q⟩ := h
  obtain ⟨u, rfl, t, rfl⟩ := vals1 r
  have hn := line63
  exact len_str (by omega) ⟨.int z.length, H, I.tok _, ⟨_, rfl⟩, q⟩
inductive rLstOf (K : PySem.W.Frag) (xs : List V) (H : Hp) (Q : VK) : Prop
  | mk : ∀ p ys, (xs = [.ref p]) → (SqL K H p ys ∨ SqT K H p ys) → (∀ l, H l = none → Q (.ref l) (upd H l (.lst ys))) → rLstOf K xs H Q
theorem call_list_of : CallR X (.type "list") (rLstOf X.K) := by
  intro pins s σ H xs us Q I r h
  obtain ⟨p, ys, rfl, hq, q⟩ := h
  obtain ⟨u, rfl, rx⟩ := vals1 r
  cases rx
  have fin : ∀ (its : List Value), Vals ys its → ys.length ≤ sizeLine → ∀ (h' : Heap) (c' : Nat), (∀ b o', s.heap.get? b = some o' → h'.get? b = some o') →
      h'.get? s.heap.objs.size = some { cls := .type "list", dict := none, data := .seq its.toArray c', slots := #[] } → EP X pins σ Q (.ref s.heap.objs.size) { s with heap := h' } := fun its r' hz h' c' kp e =>
    ⟨.ref s.heap.objs.size, _, I.laid (t' := s.toks) kp (Nat.le_refl _) (show ObjOk X.prog X.w _ h' _ (.lst ys) from ⟨hz, its, c', r', e⟩), rfl, q _ (I.hok.fresh (Nat.le_refl _))⟩
  rcases hq with hq | hq
  · obtain ⟨its, r', pl, hz⟩ := I.list hq
    have hlen := r'.length
    obtain ⟨o, ho, hc, n, hd⟩ := pl.isList
    exact call_list_seq p (.inl rfl) ho hc hd (fun h' c' kp e => fin its r' hz h' c' kp e) (by simp only [List.size_toArray] <;> omega)
  · obtain ⟨its, r', pl, hz⟩ := I.tuple hq
    have hlen := r'.length
    obtain ⟨o, ho, hc, n, hd⟩ := pl
    exact call_list_seq p (.inr rfl) ho hc hd (fun h' c' kp e => fin its r' hz h' c' kp e) (by simp only [List.size_toArray] <;> omega)
/-- the value is of that builtin type -/
def tyV (K : PySem.W.Frag) (T : String) (x : V) (H : Hp) : Prop := match x with
  | .str _ => T = "str"
  | .int _ => T = "int"
  | .ref p => (T = "list" ∧ ∃ xs, SqL K H p xs) ∨ (T = "tuple" ∧ ∃ o, K.lookup p = some o ∧ o.cls = .type "tuple" ∧ o.dict = none) ∨
      (T = "dict" ∧ ((∃ kvs, H p = some (.dK kvs)) ∨ ∃ kvs, H p = some (.dT kvs))) ∨ (T = "set" ∧ ∃ S n, H p = some (.set S n))
  | _ => False
theorem tyV_is {pins : List (Addr × Obj)} {σ : St} {H : Hp} {s : Shared} {T : String} {x : V} {v : Value} (I : Inv X pins σ H s) (r : RelV x v) (ty : tyV X.K T x H) :
    s.TypeIs v T ∧ ∀ a, v = .ref a → ∃ ob, s.heap.get? a = some ob ∧ ob.dict = none := by
  cases x with
  | str z =>
    obtain ⟨t, rfl⟩ := r
    cases (show T = "str" from ty)
    exact ⟨typeIs_str s z t, fun _ e => nomatch e⟩
  | int i =>
    obtain ⟨t, rfl⟩ := r
    cases (show T = "int" from ty)
    exact ⟨typeIs_int s i t, fun _ e => nomatch e⟩
  | ref p =>
    cases r
    rcases ty with ⟨rfl, xs, hq⟩ | ⟨rfl, o, hk, hc, hd⟩ | ⟨rfl, hk⟩ | ⟨rfl, S, n, hk⟩
    · obtain ⟨its, _, pl, _⟩ := I.list hq
      refine ⟨pl.isList.typeIs, fun a e => ?_⟩
      cases e
      obtain ⟨o, n, e, c, hd, _⟩ := pl
      exact ⟨o, e, hd⟩
    · refine ⟨⟨o, I.kIn p o hk, hc⟩, fun a e => ?_⟩
      cases e
      exact ⟨o, I.kIn _ o hk, hd⟩
    · have z : ∃ o, s.heap.get? p = some o ∧ o.ExactDict := by
        rcases hk with ⟨kvs, hk⟩ | ⟨kvs, hk⟩
        · obtain ⟨_, _, _, _, o, _, _, e, ex, _⟩ := I.hok p _ hk
          exact ⟨o, e, ex⟩
        · obtain ⟨_, _, _, _, o, _, _, e, ex, _⟩ := I.hok p _ hk
          exact ⟨o, e, ex⟩
      obtain ⟨o, e, ex⟩ := z
      refine ⟨⟨o, e, ex.1⟩, fun a e2 => ?_⟩
      cases e2
      exact ⟨o, e, ex.2.1⟩
    · obtain ⟨o, _, _, _, e, ex, _⟩ := I.hok p _ hk
      refine ⟨⟨o, e, ex.1⟩, fun a e2 => ?_⟩
      cases e2
      exact ⟨o, e, ex.2.1⟩
  | _ => exact False.elim ty
def tBM (K : PySem.W.Frag) (T : String) (r : V → List V → Hp → VK → Prop) (to : TE) (t : TA) : TE := fun σ H Q => to σ H fun x H1 => tyV K T x H1 ∧ t σ H1 fun xs H2 => r x xs H2 Q
variable {o e : Expr} {es : List Expr} {to : TE} {t : TA} {name : Str} {apos cpos : Pos} {T id : String} {r : V → List V → Hp → VK → Prop}
theorem pe_bm (pa : PlainAttrs T) (slot : Slot T name id) (hty : typeOf (.builtin id) = pure (.type "method_descriptor")) (hm : MtR X id r) (ho : PE X o to) (ha : PA X (e :: es) t)
    (hbase : attributeBase o name X.env (eval o X.env) = eval o X.env := by rfl)
    (hfew : ((backTo cpos (starEach (e :: es) X.env)).all (fun x => !x.1) && (backToKw cpos (keywordEach [] X.env)).all (fun x => x.1.isSome)
      && decide ((e :: es).length + ([] : List Keyword).length + (if ([] : List Keyword).isEmpty then 0 else 1) < 30)) = true := by rfl)
    (hline : (apos.endLine == cpos.line) = true := by rfl) (hs : starEach (e :: es) X.env = (false, eval e X.env) :: starEach es X.env := by rfl) (hplain : (backTo cpos (starEach es X.env)).any (·.1) = false := by rfl) :
    PE X (.Call (.Attribute o name apos) (e :: es) [] cpos) (tBM X.K T r to t) := by
  intro pins s σ H Q I h
  refine wpAny_Call_method_late hbase hfew hline rfl (thn (ho pins s σ H _ I h) fun v s1 ⟨x, H1, I1, r1, ty, q1⟩ => ?_)
  obtain ⟨h1, h2⟩ := tyV_is I1 r1 ty
  refine ⟨T, id, pa, slot, hty, h1, h2, ?_⟩
  have hA := ha cpos pins s1 σ H1 _ I1 q1
  rw [hs] at hA ⊢
  refine Calls.callWith_builtin (by show (false || (backTo cpos (starEach es X.env)).any (·.1)) = false; rw [hplain] <;> rfl) (Calls.evalArgs_plain ?_)
  exact thn hA fun us s2 ⟨vs, H2, I2, r2, q2⟩ => hm pins s2 σ H2 x vs v us Q I2 r1 r2 q2
/- xs.append(e), list.index on a module's tuple .. are MtR facts of 06m -/
end
end L2

namespace L2
open PySem PySem.Spec PyProof.Rows

def MtM (X : Cx) (id : String) (r : V → List V → Hp → VK → Prop) : Prop :=
  ∀ (pins : List (Addr × Obj)) (s : Shared) (σ : St) (H : Hp) (x : V) (xs : List V) (v : Value) (us : List Value) (Q : VK), Inv X pins σ H s → RelV x v → Vals xs us → r x xs H Q →
    wpAny (model X.prog X.w) X.A (call (.builtin id) (v :: us)) (EP X pins σ Q) X.xe s

theorem Vals.one : ∀ {x : V} {us : List Value}, Vals [x] us → ∃ u, us = [u] ∧ RelV x u
  | _, _, .cons r .nil => ⟨_, rfl, r⟩
section
variable {X : Cx} {pins : List (Addr × Obj)} {σ : St} {H : Hp} {s : Shared} {l b : Addr} {xs ys zs : List V}

theorem Inv.lset {its its' : List Value} {n : Nat} {f : Array Value → Array Value} {t' : Nat} (I : Inv X pins σ H s) (hH : H l = some (.lst xs))
    (e : s.heap.get? l = some { cls := .type "list", data := .seq its.toArray n }) (hf : f its.toArray = its'.toArray) (hv : Vals ys its') (hz : ys.length ≤ sizeLine) :
    Inv X pins σ (upd H l (.lst ys)) { s with heap := s.heap.update l (Obj.mapSeq f), toks := t' } := by
  have q := PySem.IsL.update e f
  rw [hf] at q
  refine I.write (x := l) (e := l) (by rw [hH]; exact trivial) (.inl rfl) (fun b' u hb hu => (Heap.get?_update_other s.heap (Obj.mapSeq f) (Ne.symm hb)).trans hu) ⟨_, q⟩ ?_
  exact ⟨hz, its', _, hv, q⟩
theorem Inv.lnew {its : List Value} {t' : Nat} (I : Inv X pins σ H s) (hv : Vals ys its) (hz : ys.length ≤ sizeLine) :
    Inv X pins σ (upd H s.heap.objs.size (.lst ys)) { s with heap := s.heap.push { cls := .type "list", data := .seq its.toArray }, toks := t' } :=
  I.laid (fun _ _ q => Heap.get?_push_of_some _ q) (Nat.le_refl _) ⟨hz, its, 0, hv, Heap.get?_push_size _ rfl⟩
theorem Inv.fresh (I : Inv X pins σ H s) : H s.heap.objs.size = none := I.hok.fresh (Nat.le_refl _)
theorem Inv.lstM (I : Inv X pins σ H s) (hH : H l = some (.lst xs)) : xs.length ≤ sizeLine ∧ ∃ (its : List Value) (n : Nat), Vals xs its ∧ xs.length = its.length ∧ s.heap.get? l = some { cls := .type "list", data := .seq its.toArray n } := by
  obtain ⟨z, its, n, r, e⟩ := I.hok l _ hH
  exact ⟨z, its, n, r, r.length, e⟩

theorem notLongL {n : Nat} (h : n ≤ sizeLine) : Builtin.List.listTooLong n = false := by
  unfold Builtin.List.listTooLong
  exact decide_eq_false (by omega)
end

section
variable {X : Cx}

inductive rAppend (x : V) (vs : List V) (H : Hp) (Q : VK) : Prop
  | mk : ∀ l xs y, (x = .ref l) → (vs = [y]) → (H l = some (.lst xs)) → (xs.length < sizeLine) → (Q .non (upd H l (.lst (xs ++ [y])))) → rAppend x vs H Q
theorem mt_append : MtM X "list.append" rAppend := by
  intro pins s σ H x vs v us Q I rx rv h
  obtain ⟨l, xs, y, rfl, rfl, hH, hz, q⟩ := h
  cases rx
  obtain ⟨u, rfl, ru⟩ := rv.one
  obtain ⟨z, its, n, r, hl, e⟩ := I.lstM hH
  refine call_meets F.slot_list_append ⟨_, e, rfl⟩ F.entry_list_append (F.args_list_append_2 _ _) (PySem.list_append l its.toArray n u (by rw [List.size_toArray]; omega)) ⟨e, ?_⟩
  refine ⟨.non, _, I.lset (its' := its ++ [u]) hH e (by simp) (r.append (.cons ru .nil)) ?_, rfl, q⟩
  rw [List.length_append, List.length_singleton]
  omega

inductive rExtend (x : V) (vs : List V) (H : Hp) (Q : VK) : Prop
  | mk : ∀ l b xs zs, (x = .ref l) → (vs = [.ref b]) → (H l = some (.lst xs)) → (H b = some (.lst zs)) → (xs.length + zs.length ≤ sizeLine) → (Q .non (upd H l (.lst (xs ++ zs)))) → rExtend x vs H Q
theorem mt_extend : MtM X "list.extend" rExtend := by
  intro pins s σ H x vs v us Q I rx rv h
  obtain ⟨l, b, xs, zs, rfl, rfl, hH, hB, hz, q⟩ := h
  cases rx
  obtain ⟨u, rfl, ru⟩ := rv.one
  cases ru
  obtain ⟨z, its, n, r, hl, e⟩ := I.lstM hH
  obtain ⟨z2, its2, n2, r2, hl2, e2⟩ := I.lstM hB
  have hsz : its.toArray.size + its2.toArray.size ≤ sizeLine := by rw [List.size_toArray, List.size_toArray]; omega
  have hlong : ¬ (!its.toArray.isEmpty && Builtin.List.listTooLong (its.toArray.size + its2.toArray.size)) = true := by
    rw [notLongL hsz, Bool.and_false]
    exact Bool.false_ne_true
  refine call_meets F.slot_list_extend ⟨_, e, rfl⟩ F.entry_list_extend (F.args_list_extend_2 _ _)
    (AutoSeq1.list_extend_list_list_0 l its.toArray n b its2.toArray n2 hlong (by rw [List.size_toArray]; omega) (by omega)) ⟨e, e2, ?_⟩
  refine ⟨.non, _, I.lset (its' := its ++ its2) hH e (by simp) (r.append r2) ?_, rfl, q⟩
  rw [List.length_append]
  omega

inductive rCat (x : V) (y : V) (H : Hp) (Q : VK) : Prop
  | mk : ∀ l b xs zs, (x = .ref l) → (y = .ref b) → (H l = some (.lst xs)) → (H b = some (.lst zs)) → (xs.length + zs.length ≤ sizeLine) → (∀ p, H p = none → Q (.ref p) (upd H p (.lst (xs ++ zs)))) → rCat x y H Q
theorem op_cat : OpR X (binaryOp .Add) rCat := by
  intro pins s σ H x y v u Q I rx ry h
  obtain ⟨l, b, xs, zs, rfl, rfl, hH, hB, hz, q⟩ := h
  cases rx
  cases ry
  obtain ⟨z, its, n, r, hl, e⟩ := I.lstM hH
  obtain ⟨z2, its2, n2, r2, hl2, e2⟩ := I.lstM hB
  refine PySem.P.add_list e e2 ?_ (by rw [List.size_toArray, List.size_toArray]; omega)
  have ea : its.toArray ++ its2.toArray = (its ++ its2).toArray := by simp
  rw [ea]
  exact ⟨.ref _, _, I.lnew (t' := s.toks) (r.append r2) (by rw [List.length_append]; omega), rfl, q _ I.fresh⟩
end

section
variable {prog : Program} {w : World} {A : Around} {E : Value → Shared → Prop} {s : Shared}
end

section
variable {X : Cx}
end
end L2

namespace Att
open PySem PySem.W PySem.Calls PyProof.Rows

theorem ints_of_wellAll {P : Params} {h : Heap} : ∀ (ns : List Int) (vs : List Value), WellAll P h vs (ns.map WData.int) → IntsAre vs ns := by
  intro ns
  induction ns with
  | nil =>
    intro vs w
    rw [List.map_nil] at w
    cases w
    exact .nil
  | cons n ns ih =>
    intro vs w
    rw [List.map_cons] at w
    cases w with
    | cons a b =>
      cases a
      exact .cons _ _ (ih _ b)

theorem script_of {l : OpenLaw} {n : Nat} (hn : l.most = some n) {P : Params} {h : Heap} {args : List WData} {vals : List Value}
    (hpre : l.row.toRowW.claim.pre args = true) (hwl : WellAll P h vals args) :
    ∃ a vs ns, vals = [Value.ref a] ∧ args = [WData.list (ns.map WData.int)] ∧ h.get? a = some { cls := .type "list", data := .seq vs.toArray } ∧ IntsAre vs ns ∧ ns.length ≤ n := by
  have hsh : WShape.hasAll [] args [.list .int] = true := (pre_splitW hpre).1
  have hc : l.pre.holds [] { args := args } = true := (pre_splitW hpre).2
  obtain ⟨d, r, rfl, h1, h2⟩ := hasAllW_cons hsh
  obtain rfl := hasAllW_nil h2
  obtain ⟨xs, rfl, h3⟩ := hasW_list h1
  obtain ⟨ns, rfl⟩ := items_int h3
  have hlen : ns.length ≤ n := by
    unfold OpenLaw.pre at hc
    have h4 : (WTm.not (.lt (.lit (.int (n : Int))) (.len (.arg 0)))).holds [] { args := [.list (ns.map .int)] } = true := by
      have h4 := (holds_andW hc).1
      rw [hn] at h4
      exact h4
    have h5 := condW_of h4 (w_not (w_lt w_lit (w_len_list (w_arg rfl))))
    rw [List.length_map] at h5
    refine Nat.le_of_not_lt fun q => ?_
    have q' : (n : Int) < ((ns.length : Nat) : Int) := by omega
    first
      | (rw [decide_eq_true q'] at h5; exact absurd h5 (by decide))
      | (simp at h5; omega)
  cases hwl with
  | cons w1 w2 =>
    cases w2
    cases w1 with
    | list ho hall => exact ⟨_, _, ns, rfl, rfl, ho, ints_of_wellAll ns _ hall, hlen⟩

theorem post_true (l : OpenLaw) (args : List WData) : l.row.toRowW.claim.post args (.bool true) args = true :=
  postW_of (r := l.row.toRowW) (X := (true == true))
    (show WShape.has [] (.bool true) .bool = true by first | rfl | decide | simp [WShape.has, WShape.arms, WShape.armsAll])
    (show (WTm.eq .res (.lit (.bool true))).value [] { args := args, res := some (.bool true), after := args } = some (.bool (true == true)) from w_eq_bool (w_res rfl) w_lit) rfl

/-- the same from a codeAny of the CALL (for a layer whose function contracts speak of calls) -/
theorem attach_call {l : OpenLaw} {n : Nat} {q : Program} {loose : List Str} {XP : (Str → Option Value) → Heap → Prop} {YP : World → Heap → Prop} {d : DefRec}
    (hn : l.most = some n) (hdf : d.params.defaults = [])
    (call : ∀ (w : World) (s₀ s₁ : Shared) (mg mb : Str → Option Value) (fa : Addr) (o : Obj) (pm cd doc : Value) (a : Addr) (vs : List Value) (ns : List Int),
      Ground q loose [] XP w s₀ mg mb s₁.heap → YP w s₁.heap →
      s₁.heap.get? fa = some o → o.data = .func (docDef d.name d.params d.body d.scope pm cd doc) → s₁.heap.CodeRec cd d.name → mg d.name = some (.ref fa) →
      s₁.heap.get? a = some { cls := .type "list", data := .seq vs.toArray } → IntsAre vs ns → ns.length ≤ n → s₁.gens = #[] →
      codeAny (model l.prog w) callerA (.call (.ref fa) ⟨[.ref a], []⟩) (fun r s' => r = .ok (.ret (.bool true)) ∧ OldK s₁.heap s'.heap ∧ s'.os = s₁.os ∧ AllBare s'.gens) s₁) :
    WalkO q loose XP YP l.row.toRowW d [] (fun f vs => PySem.call f vs) := by
  intro w s₀ s₁ mg mb G Y fa o pm cd doc dV kV ho hd hcd hD hmg hg args vals as hpre hlay hrd hwl hlo
  obtain rfl : dV = .none := Dflts.none hD hdf
  obtain rfl : kV = .none := Dflts.noKw hD
  obtain ⟨a, vs, ns, rfl, rfl, hobj, hints, hlen⟩ := script_of hn hpre hwl
  refine enter_call (codeAny_mono (call w s₀ s₁ mg mb fa o pm cd doc a vs ns G Y ho (fd_plain hd) hcd hmg hobj hints hlen hg) fun r s' hq => ?_)
  obtain ⟨rfl, h2, h3, h4⟩ := hq
  exact ⟨.inl ⟨.bool true, .bool true, [], rfl, fun _ => rfl, .bool true, post_true l _, fun _ => ⟨List.Pairwise.nil, fun _ hm => (nomatch hm)⟩⟩, h2, h3, h4⟩

section
variable {prog : Program} {w : World} {A : Around} {E : Value → Shared → Prop} {s : Shared} {K : Frag}

end
end Att

namespace L2
open PySem PySem.Spec PyProof.Rows

theorem vals_ints : ∀ {vs : List Value} {ns : List Int}, IntsAre vs ns → Vals (ns.map V.int) vs
  | _, _, .nil => .nil
  | _, _, .cons n t h => .cons ⟨t, rfl⟩ (vals_ints h)

/-- nothing is tracked but the script, known to the object (or it is an object of the module) -/
def Only (H : Hp) : Prop := ∀ b, H b = none ∨ ∃ o xs, H b = some (.frz o (.lst xs))

/-- THE HEAD: the law's promise, at the heap behind the top. F, the promise of the law's def, may use that base is part of the heap (so K.In base, base.Ns mainGlobals mg stand in Mod) -/
theorem law_call {P : Program} {w : World} {K : PySem.W.Frag} {mg mb : Str → Option Value} {CX : CXT} {k : Nat} {fa a : Addr} {fd : FuncData} {x : Str} {sp : Sp} {s₁ : Shared} {vs : List Value} {ns : List Int}
    (KX : K.In s₁.heap) (hns : s₁.heap.Ns mainGlobals mg) (hb : s₁.heap.Ns builtinsNs mb) (hbb : ∀ x : Str, x ≠ "__name__" → mb x = bootBuiltins x) (hlim : s₁.heap.NoLimit) (hg : s₁.gens = #[])
    (ha : s₁.heap.get? a = some { cls := .type "list", data := .seq vs.toArray }) (hi : IntsAre vs ns) (hl : ns.length ≤ sizeLine) (hr : Room k callerA)
    (F : ∀ base : Heap, K.In base → base.Ns mainGlobals mg → FnOk P w K mg base CX k fa fd [x] sp) (hbind : ∀ (s : Shared) (u : Value), BindsTo s fd ⟨[u], []⟩ [(x, u)])
    (hsp : ∀ H : Hp, Only H → SqL K H a (ns.map V.int) → sp [.ref a] H (fun v _ => v = .bl true) fun _ _ _ => False)
    (hCX : ∀ H e s', CX [] H s₁ (fun _ _ _ => False) e s' → False) :
    codeAny (model P w) callerA (.call (.ref fa) ⟨[.ref a], []⟩) (fun r s' => r = .ok (.ret (.bool true)) ∧ OldK s₁.heap s'.heap ∧ s'.os = s₁.os ∧ AllBare s'.gens) s₁ := by
  have rv := vals_ints hi
  have lenV := hi.length
  -- from an abstract heap in which nothing but the script may be tracked
  have core : ∀ H : Hp, Only H → SqL K H a (ns.map V.int) → HOk P w H s₁.heap → (∀ b, H b ≠ none → b = a) → (H a ≠ none → K.lookup a = none) →
      codeAny (model P w) callerA (.call (.ref fa) ⟨[.ref a], []⟩) (fun r s' => r = .ok (.ret (.bool true)) ∧ OldK s₁.heap s'.heap ∧ s'.os = s₁.os ∧ AllBare s'.gens) s₁ := by
    intro H hO hS hok hA hK
    have base_of : ∀ {b : Addr} {o : Obj}, s₁.heap.get? b = some o → H b = none → (hidT s₁.heap H).get? b = some o := fun e n => hidT_get e n
    have noA : ∀ {b : Addr} {o : Obj} {es : Array DictEntry} {ep : Nat}, s₁.heap.get? b = some o → o.data = .dict es ep → H b = none := fun {b o es ep} e d => by
      cases q : H b with
      | none => rfl
      | some u =>
        have e' : b = a := hA b (by rw [q]; simp)
        subst e'
        rw [ha] at e; cases e
        have d' : Data.seq vs.toArray _ = Data.dict es ep := d
        cases d'
    have nsK : ∀ {b : Addr} {m : Str → Option Value}, s₁.heap.Ns b m → (hidT s₁.heap H).Ns b m := fun {b m} ⟨o, es, ep, e, d, r⟩ => ⟨o, es, ep, base_of e (noA e d), d, r⟩
    have hKb : K.In (hidT s₁.heap H) := fun b o e => base_of (KX b o e) (by
      cases q : H b with
      | none => rfl
      | some u =>
        have e' : b = a := hA b (by rw [q]; simp)
        subst e'
        rw [hK (by rw [q]; simp)] at e; cases e)
    have hM : Mod K mg (hidT s₁.heap H) := ⟨hKb, nsK hns, ⟨mb, nsK hb, hbb⟩, let ⟨mc, h1, h2⟩ := hlim; ⟨mc, nsK h1, h2⟩⟩
    have e0 : Env0 P w K mg (hidT s₁.heap H) callerA [] s₁ H := ⟨rfl, hM, fun b o e => of_hidT e, Nat.le_of_eq (hidT_size _ _), trivial, fun b hb => absurd (show b ∈ ([] : List Addr) from hb) (by simp), hok, .of_eq hg⟩
    refine codeAny_mono ((F _ hKb (nsK hns)).run callerA [] s₁ H ⟨[.ref a], []⟩ [.ref a] [.ref a] _ _ hr e0 (hbind s₁ (.ref a)) (.cons rfl .nil) (hsp H hO hS)) fun r s' h => ?_
    cases r with
    | error e => exact (hCX H e s' h).elim
    | ok fl =>
      cases fl with
      | next => exact False.elim h
      | brk => exact False.elim h
      | cont => exact False.elim h
      | ret u =>
        obtain ⟨v, H', os, bare, un, hok', r', q⟩ := h
        have q' : v = .bl true := q
        subst q'
        obtain rfl : u = Value.bool true := r'
        refine ⟨rfl, OldK.of_keep fun b o e => ?_, os, bare⟩
        cases q : H b with
        | none => exact un.keep b o e q (by intro z; exact absurd (show b ∈ ([] : List Addr) from z) (by simp)) (by simp)
        | some u =>
          rcases hO b with z | ⟨ob, xs, z⟩
          · rw [q] at z; cases z
          · have z2 := un.frzs b ob _ z
            obtain ⟨e1, _⟩ := hok b _ z
            obtain ⟨e2, _⟩ := hok' b _ z2
            rw [e] at e1; cases e1
            exact e2
  cases hk : K.lookup a with
  | some o =>
    -- the script is one of the module's own objects
    have e := KX a o hk
    rw [ha] at e
    cases e
    refine core (fun _ => none) (fun _ => .inl rfl) (.inr ⟨_, vs.toArray, _, hk, rfl, rfl, rfl, by rw [List.size_toArray, lenV]; exact hl, by simpa using rv⟩) (fun b u z => by have z' : (none : Option HO) = some u := z; cases z') (fun b z => absurd rfl z) fun z => absurd rfl z
  | none =>
    refine core (fun b => if b = a then some (.frz { cls := .type "list", data := .seq vs.toArray } (.lst (ns.map V.int))) else none) (fun b => ?_) (.inl (.inr ⟨{ cls := .type "list", data := .seq vs.toArray }, if_pos rfl⟩)) (fun b u z => ?_) (fun b z => ?_) fun _ => hk
    · by_cases hb : b = a
      · exact .inr ⟨_, _, if_pos hb⟩
      · exact .inl (if_neg hb)
    · by_cases hb : b = a
      · have z' := (if_pos hb).symm.trans z
        cases z'
        subst hb
        exact ⟨ha, by rw [List.length_map]; exact hl, vs, _, rv, ha⟩
      · have z' := (if_neg hb).symm.trans z
        cases z'
    · by_cases hb : b = a
      · exact hb
      · exact absurd (if_neg hb) z
end L2

namespace L2
open PySem PySem.Spec PyProof.Rows

/-- the goal that k_head leaves (case hc), from the law's promise. F gives the function object fd (K's own) once, then the promise over every base -/
theorem walk_of {l : PySem.W.OpenLaw} {n k : Nat} {q : Program} {loose : List Str} {XP : (Str → Option Value) → Heap → Prop} {YP : World → Heap → Prop} {d : DefRec} {K : Params → PySem.W.Frag} {CX : World → CXT} {sp : World → Sp} {x : Str}
    (hn : l.most = some n) (hn2 : n ≤ sizeLine) (hdf : d.params.defaults = []) (hr : Room k callerA)
    (hY : ∀ (w : World) (h : Heap), YP w h → (K w.params).In h)
    (F : ∀ (w : World) (mg : Str → Option Value) (fa : Addr) (h : Heap), (K w.params).In h → h.Ns mainGlobals mg → mg d.name = some (.ref fa) →
      ∃ fd : FuncData, (∀ (s : Shared) (u : Value), BindsTo s fd ⟨[u], []⟩ [(x, u)]) ∧
        ∀ base : Heap, (K w.params).In base → base.Ns mainGlobals mg → FnOk l.prog w (K w.params) mg base (CX w) k fa fd [x] (sp w))
    (hsp : ∀ (w : World) (H : Hp) (a : Addr) (ns : List Int), ns.length ≤ n → Only H → SqL (K w.params) H a (ns.map V.int) → sp w [.ref a] H (fun v _ => v = .bl true) fun _ _ _ => False)
    (hCX : ∀ (w : World) (H : Hp) (s : Shared) (e : Value) (s' : Shared), CX w [] H s (fun _ _ _ => False) e s' → False) :
    PySem.W.WalkO q loose XP YP l.row.toRowW d [] (fun f vs => PySem.call f vs) := by
  refine Att.attach_call hn hdf fun w s₀ s₁ mg mb fa o pm cd doc a vs ns G Y ho hd hcd hmg hobj hints hlen hg => ?_
  have KX := hY w _ Y
  obtain ⟨fd, hb, hF⟩ := F w mg fa _ KX G.T.g hmg
  exact law_call KX G.T.g G.T.b G.T.builtins G.T.nolimit hg hobj hints (Nat.le_trans hlen hn2) hr hF hb (fun H hO hS => hsp w H a ns hlen hO hS) fun H e s' => hCX w H s₁ e s'
end L2

/- THE LAST THEOREM (shape; LID, My.* are yours):
   My.Adr: a structure of the addresses that your layer names (classes, functions); My.Txt K t: a structure (Prop) of the equations over K;
   My.txt_mk : {K} {implicit addresses ..} (e1 : nsIn K mainGlobals "law" = some (some (.ref f))) (e2 : K.lookup f = some ⟨oc, od, .func (fnOf "law" "law" params body scope dV kV doc pm an cdv ct), sl⟩) (e3 : codeIn K cdv "law" = true) .. : ∃ t, My.Txt K t

(the tactic k_is has no namespace: write k_is) -/

namespace L2
open PySem PySem.Spec PyProof.Rows

/-- the j-th statement of a class's body -/
def inClass (s : Stmt) (j : Nat) : Stmt := match s with
  | .ClassDef _ _ _ body _ _ _ _ _ _ _ => body.getD j (.Pass ⟨0, 0, 0, 0⟩)
  | _ => .Pass ⟨0, 0, 0, 0⟩
def defArgs (s : Stmt) : Arguments := match s with
  | .FunctionDef _ a _ _ _ _ _ _ _ _ => a
  | _ => { posonlyargs := [], args := [], vararg := none, kwonlyargs := [], kw_defaults := [], kwarg := none, defaults := [] }
def defBody (s : Stmt) : List Stmt := match s with
  | .FunctionDef _ _ b _ _ _ _ _ _ _ => b
  | _ => []
def defScope (s : Stmt) : Scope := match s with
  | .FunctionDef _ _ _ _ _ _ sc _ _ _ => sc
  | _ => { kind := .function, names := [], isGenerator := false, isCoroutine := false }

abbrev CX0 : CXT := fun _ _ _ _ _ _ => False
abbrev E0 : XK := fun _ _ _ => False
theorem pass0 {X : Cx} : Passes CX0 X E0 := fun _ _ _ _ _ _ _ h => h.elim

structure Fun (K : PySem.W.Frag) (x qual : Str) (st : Stmt) (f : Addr) (fd : FuncData) : Prop where
  ex : ∃ (oc : Value) (od : Option Addr) (kV doc pm : Value) (an : Option Addr) (cdv ct : Value) (osl : Array (Option Value)),
    fd = PySem.W.fnOf x qual (defArgs st) (defBody st) (defScope st) .none kV doc pm an cdv ct ∧ K.lookup f = some ⟨oc, od, .func fd, osl⟩ ∧ PySem.W.codeIn K cdv qual = true
  kp : PySem.W.keepIn K (.ref f) = true
section
variable {P : Program} {w : World} {K : PySem.W.Frag} {mg : Str → Option Value} {base : Heap}
/-- THE RULE for a def: its body as a term of rules, and the reading of that term -/
theorem Fun.ok {x qual : Str} {st : Stmt} {f : Addr} {fd : FuncData} {N ps : List Str} {k : Nat} {sp : Sp} (F : Fun K x qual st f fd) (S : FnScope N ps (defScope st)) (len : ∀ vs H Q E, sp vs H Q E → vs.length = ps.length)
    (hbody : ∀ (cdv : Value) (A : Around) (outer : List Env) (s : Shared) (H : Hp) (vs : List V) (Q : VK) (E : XK), Room k (A.deeper (envOfC qual (defScope st) s.heap.objs.size f cdv)) → sp vs H Q E →
      ∃ t, PSs (cxOf CX0 P w K mg base N qual (defScope st) f cdv A outer s H E).nox (defBody st) t ∧ t { nx := fun _ H' => Q .non H', rt := Q } (start N vs) H) : FnOk P w K mg base CX0 (k + 1) f fd ps sp := by
  obtain ⟨oc, od, kV, doc, pm, an, cdv, ct, osl, rfl, lk, hcd⟩ := F.ex
  refine fn_of lk hcd S len fun A outer s H vs Q E hr hsp => ?_
  obtain ⟨t, h, q⟩ := hbody cdv A outer s H vs Q E hr hsp
  exact ⟨t, h.nox, q⟩
/-- how its arguments bind (no defaults): h is «fun _ _ _ _ _ _ us hl => match us, hl with | [_, _], _ => rfl», one _ a parameter -/
theorem Fun.binds {x qual : Str} {st : Stmt} {f : Addr} {fd : FuncData} {ps : List Str} (F : Fun K x qual st f fd)
    (h : ∀ (kV doc pm : Value) (an : Option Addr) (cdv ct : Value) (us : List Value), us.length = ps.length → bindArgs (PySem.W.fnOf x qual (defArgs st) (defBody st) (defScope st) .none kV doc pm an cdv ct) ⟨us, []⟩ = pure (ps.zip us)) : Binds K fd ps [] := by
  obtain ⟨oc, od, kV, doc, pm, an, cdv, ct, osl, rfl, lk, hcd⟩ := F.ex
  exact .all (h kV doc pm an cdv ct)
theorem fun_mk {x qual : Str} {st : Stmt} {f : Addr} {oc : Value} {od an : Option Addr} {osl : Array (Option Value)} {kV doc pm cdv ct : Value} (l : K.lookup f = some ⟨oc, od, .func (PySem.W.fnOf x qual (defArgs st) (defBody st) (defScope st) .none kV doc pm an cdv ct), osl⟩)
    (c : PySem.W.codeIn K cdv qual = true) (k : PySem.W.keepIn K (.ref f) = true) : Fun K x qual st f (PySem.W.fnOf x qual (defArgs st) (defBody st) (defScope st) .none kV doc pm an cdv ct) := ⟨⟨oc, od, kV, doc, pm, an, cdv, ct, osl, rfl, l, c⟩, k⟩
end
theorem small1000 {n : Nat} (h : n ≤ 1000) : n < sizeLine := Nat.lt_of_le_of_lt h (by decide)

section
variable {X : Cx}
theorem pv (i : Nat) {x : Str} {pos : Pos} (hN : X.N[i]? = some x := by rfl) (hv : Vis X.env.scope x := by first | exact Or.inl rfl | exact Or.inr (Or.inl rfl) | exact Or.inr (Or.inr rfl)) (hd : (x == ("__debug__" : Str)) = false := by decide)
    (hcd : (x == ("__classdict__" : Str)) = false := by decide) : PE X (.Name x pos) (tVar i) := pe_var hN hv hd hcd
end

theorem iteF {A B : Prop} (h : B) : if false = true then A else B := by
  rw [if_neg Bool.false_ne_true]
  exact h
theorem iteT {A B : Prop} (h : A) : if true = true then A else B := by
  rw [if_pos rfl]
  exact h
theorem iteNS {c A B : Prop} [Decidable c] (hc : c) (h : B) : if (!decide c) = true then A else B := by
  rw [decide_eq_true hc]
  exact iteF h

/-- all that was tracked is as it was -/
def Same (H H' : Hp) : Prop := ∀ b o, H b = some o → H' b = some o
theorem Same.refl (H : Hp) : Same H H := fun _ _ h => h
theorem Same.trans {H H1 H2 : Hp} (a : Same H H1) (b : Same H1 H2) : Same H H2 := fun c o h => b c o (a c o h)
theorem Same.free {H H' : Hp} (e : Same H H') {l : Addr} (h : H' l = Option.none) : H l = Option.none := by
  cases q : H l with
  | none => rfl
  | some o =>
    rw [e l o q] at h
    cases h
theorem Same.seq {K : PySem.W.Frag} {H H' : Hp} {a : Addr} {xs : List V} (e : Same H H') (h : SqL K H a xs) : SqL K H' a xs := by
  rcases h with (h | ⟨o, h⟩) | h
  · exact .inl (.inl (e _ _ h))
  · exact .inl (.inr ⟨o, e _ _ h⟩)
  · exact .inr h

end L2
namespace L2
open PySem PySem.Spec PyProof.Rows
structure Df (K : PySem.W.Frag) (mg : Str → Option Value) (x qual : Str) (st : Stmt) (f : Addr) (fd : FuncData) (ps : List Str) : Prop where
  F : Fun K x qual st f fd
  m : mg x = some (.ref f)
  b : Binds K fd ps []
theorem bnd_0 {fd : FuncData} (h : bindArgs fd ⟨[], []⟩ = pure []) : ∀ us : List Value, us.length = ([] : List Str).length → bindArgs fd ⟨us, []⟩ = pure (([] : List Str).zip us) := fun us hl => by
  obtain rfl := List.eq_nil_of_length_eq_zero hl
  exact h
theorem bnd_s {fd : FuncData} {p : Str} {ps : List Str} (h : ∀ a : Value, ∀ us : List Value, us.length = ps.length → bindArgs fd ⟨a :: us, []⟩ = pure ((p, a) :: ps.zip us)) : ∀ us : List Value, us.length = (p :: ps).length → bindArgs fd ⟨us, []⟩ = pure ((p :: ps).zip us) := fun us hl => by
  cases us with
  | nil => cases hl
  | cons a r => exact h a r (Nat.succ.inj hl)
theorem bnd_1 {fd : FuncData} {p : Str} (h : ∀ a : Value, bindArgs fd ⟨[a], []⟩ = pure [(p, a)]) : ∀ us : List Value, us.length = [p].length → bindArgs fd ⟨us, []⟩ = pure ([p].zip us) :=
  bnd_s fun a us hl => by obtain rfl := List.eq_nil_of_length_eq_zero hl; exact h a
theorem bnd_2 {fd : FuncData} {p q : Str} (h : ∀ a b : Value, bindArgs fd ⟨[a, b], []⟩ = pure [(p, a), (q, b)]) : ∀ us : List Value, us.length = [p, q].length → bindArgs fd ⟨us, []⟩ = pure ([p, q].zip us) := fun us hl => by
  match us, hl with
  | [a, b], _ => exact h a b
theorem bnd_3 {fd : FuncData} {p q r : Str} (h : ∀ a b c : Value, bindArgs fd ⟨[a, b, c], []⟩ = pure [(p, a), (q, b), (r, c)]) : ∀ us : List Value, us.length = [p, q, r].length → bindArgs fd ⟨us, []⟩ = pure ([p, q, r].zip us) := fun us hl => by
  match us, hl with
  | [a, b, c], _ => exact h a b c
theorem bnd_4 {fd : FuncData} {p q r t : Str} (h : ∀ a b c d : Value, bindArgs fd ⟨[a, b, c, d], []⟩ = pure [(p, a), (q, b), (r, c), (t, d)]) : ∀ us : List Value, us.length = [p, q, r, t].length → bindArgs fd ⟨us, []⟩ = pure ([p, q, r, t].zip us) := fun us hl => by
  match us, hl with
  | [a, b, c, d], _ => exact h a b c d
theorem bnd_5 {fd : FuncData} {p q r t u : Str} (h : ∀ a b c d e : Value, bindArgs fd ⟨[a, b, c, d, e], []⟩ = pure [(p, a), (q, b), (r, c), (t, d), (u, e)]) : ∀ us : List Value, us.length = [p, q, r, t, u].length → bindArgs fd ⟨us, []⟩ = pure ([p, q, r, t, u].zip us) := fun us hl => by
  match us, hl with
  | [a, b, c, d, e], _ => exact h a b c d e
theorem bnd_6 {fd : FuncData} {p q r t u v : Str} (h : ∀ a b c d e f : Value, bindArgs fd ⟨[a, b, c, d, e, f], []⟩ = pure [(p, a), (q, b), (r, c), (t, d), (u, e), (v, f)]) : ∀ us : List Value, us.length = [p, q, r, t, u, v].length → bindArgs fd ⟨us, []⟩ = pure ([p, q, r, t, u, v].zip us) := fun us hl => by
  match us, hl with
  | [a, b, c, d, e, f], _ => exact h a b c d e f
theorem bnd_7 {fd : FuncData} {p q r t u v x : Str} (h : ∀ a b c d e f g : Value, bindArgs fd ⟨[a, b, c, d, e, f, g], []⟩ = pure [(p, a), (q, b), (r, c), (t, d), (u, e), (v, f), (x, g)]) : ∀ us : List Value, us.length = [p, q, r, t, u, v, x].length → bindArgs fd ⟨us, []⟩ = pure ([p, q, r, t, u, v, x].zip us) := fun us hl => by
  match us, hl with
  | [a, b, c, d, e, f, g], _ => exact h a b c d e f g
section
variable {K : PySem.W.Frag} {h : Heap} {mg : Str → Option Value} {x : Str} {st : Stmt} {f : Addr} {ps : List Str} {oc : Value} {od an : Option Addr} {osl : Array (Option Value)} {kV doc pm cdv ct : Value}
theorem df_mk (X : K.In h) (G : h.Ns mainGlobals mg) (a : PySem.W.nsIn K mainGlobals x = some (some (.ref f)))
    (l : K.lookup f = some ⟨oc, od, .func (PySem.W.fnOf x x (defArgs st) (defBody st) (defScope st) .none kV doc pm an cdv ct), osl⟩) (c : PySem.W.codeIn K cdv x = true) (k : PySem.W.keepIn K (.ref f) = true)
    (b : ∀ us : List Value, us.length = ps.length → bindArgs (PySem.W.fnOf x x (defArgs st) (defBody st) (defScope st) .none kV doc pm an cdv ct) ⟨us, []⟩ = pure (ps.zip us)) :
    Df K mg x x st f (PySem.W.fnOf x x (defArgs st) (defBody st) (defScope st) .none kV doc pm an cdv ct) ps := ⟨fun_mk (st := st) l c k, PySem.W.mg_of X G a, .all b⟩
end
end L2

namespace L2
open PySem PySem.Spec PyProof.Rows

section
variable {X : Cx} {pins : List (Addr × Obj)} {σ : St} {H : Hp} {s : Shared} {h' : Heap}
theorem Inv.track {p : Addr} {o : HO} (I : Inv X pins σ H s) (f : FpOk X pins H p) (new : ObjOk X.prog X.w (upd H p o) s.heap p o) : Inv X pins σ (upd H p o) s := by
  obtain ⟨f0, f1, f2, f3, f4, f5⟩ := f
  have nu : ∀ b u, H b = some u → b ≠ p := fun b u e z => by rw [z, f0] at e; cases e
  refine I.step (h' := s.heap) (g' := s.gens) (d' := s.drawn) (t' := s.toks) (ch := [p]) (fun b hb => ?_) (fun b o _ _ _ e _ => e) (fun b o _ _ _ e _ => ⟨o.slots, e⟩)
    (fun b o hc _ n => by rw [upd_ne (fun z => hc (by simp [z]))]; exact n) (fun b o _ e => ⟨o, e⟩) (fun b xs e => by rw [upd_ne (nu _ _ e)]; exact e) (fun b o u e => by rw [upd_ne (nu _ _ e)]; exact e)
    (fun b ps e => ⟨#[], by rw [upd_ne (nu _ _ e), e]; simp⟩) (fun m hm => hm) (fun b u e => ?_) I.bare
  · have e : b = p := by simpa using hb
    subst e
    exact ⟨f3, f1, f4, f5⟩
  · by_cases hb : b = p
    · subst hb
      rw [upd_same] at e
      cases e
      exact new
    · rw [upd_ne hb] at e
      exact (I.hok b u e).stay (fun c v _ q => q) (fun c q => by rw [upd_ne (nu _ _ q)]; exact q) fun c xs q => by rw [upd_ne (nu _ _ q)]; exact q
theorem Inv.turnedL {t' : Nat} {ch : List Addr} (I : Inv X pins σ H s) (k : ∀ b o, b ∉ ch → s.heap.get? b = some o → h'.get? b = some o) (hf : ∀ b ∈ ch, FpOk X pins H b) : Inv X pins σ H { s with heap := h', toks := t' } := by
  have nit : ∀ b u, H b = some u → b ∉ ch := fun b u e z => by rw [(hf b z).1] at e; cases e
  refine I.step (g' := s.gens) (d' := s.drawn) (ch := ch) (fun b hb => ?_) (fun b o _ _ hc e _ => k b o hc e) (fun b o _ _ hc e _ => ⟨o.slots, k b o hc e⟩) (fun _ _ _ _ n => n)
    (fun b o hc e => ⟨o, k b o hc e⟩) (fun _ _ e => e) (fun _ _ _ e => e) (fun b ps e => ⟨#[], by rw [e]; simp⟩) (fun m hm => ?_) (fun b u e => ?_) I.bare
  · obtain ⟨f0, f1, f2, f3, f4, f5⟩ := hf b hb
    exact ⟨f3, f1, f4, f5⟩
  · obtain ⟨o, es, ep, ho, r⟩ := hm
    exact ⟨o, es, ep, k _ o (fun z => (hf _ z).2.1 rfl) ho, r⟩
  · refine (I.hok b u e).stay (fun c v hc q => k c v ?_ q) (fun _ q => q) fun _ _ q => q
    rcases hc with z | z
    · rw [z]; exact nit b u e
    · exact nit c _ z
end

def closL (env : Env) : List (Str × NameKind) → List (Str × Addr) → List (Str × Addr)
  | [], cs => cs
  | (n, k) :: r, cs => if k == .free then (match env.cells.lookup n with | some c => closL env r ((n, c) :: cs) | none => closL env r cs) else closL env r cs
theorem closL_sub {env : Env} : ∀ {ns : List (Str × NameKind)} {cs : List (Str × Addr)}, (∀ p ∈ cs, env.cells.lookup p.1 = some p.2) → ∀ p ∈ closL env ns cs, env.cells.lookup p.1 = some p.2
  | [], _, h => h
  | (n, k) :: r, cs, h => by
    unfold closL
    split
    · split
      · rename_i c e
        exact closL_sub (ns := r) fun p hp => by
          rcases List.mem_cons.mp hp with rfl | hp
          · exact e
          · exact h p hp
      · exact closL_sub (ns := r) h
    · exact closL_sub (ns := r) h
theorem closL_sub0 {env : Env} {ns : List (Str × NameKind)} : ∀ p ∈ closL env ns [], env.cells.lookup p.1 = some p.2 := closL_sub fun p h => by cases h
theorem closL_mono {env : Env} : ∀ {ns : List (Str × NameKind)} {cs : List (Str × Addr)} {p : Str × Addr}, p ∈ cs → p ∈ closL env ns cs
  | [], _, _, h => h
  | (n, k) :: r, cs, p, h => by
    unfold closL
    split
    · split
      · exact closL_mono (ns := r) (List.mem_cons_of_mem _ h)
      · exact closL_mono (ns := r) h
    · exact closL_mono (ns := r) h
theorem closL_mem {env : Env} {x : Str} {c : Addr} (hc : env.cells.lookup x = some c) : ∀ {ns : List (Str × NameKind)} {cs : List (Str × Addr)}, (x, NameKind.free) ∈ ns → (x, c) ∈ closL env ns cs
  | [], _, h => nomatch h
  | (n, k) :: r, cs, h => by
    unfold closL
    rcases List.mem_cons.mp h with e | h
    · cases e
      rw [if_pos (by rfl), hc]
      exact closL_mono List.mem_cons_self
    · split
      · split
        · exact closL_mem hc (ns := r) h
        · exact closL_mem hc (ns := r) h
      · exact closL_mem hc (ns := r) h
theorem lookup_of_all {cs : List (Str × Addr)} {env : Env} (h : ∀ p ∈ cs, env.cells.lookup p.1 = some p.2) {x : Str} {c : Addr} (e : cs.lookup x = some c) : env.cells.lookup x = some c := h (x, c) (PySem.mem_of_lookup e)
theorem lookup_of_mem {x : Str} {c : Addr} : ∀ {cs : List (Str × Addr)}, (x, c) ∈ cs → ∃ c', cs.lookup x = some c'
  | [], h => nomatch h
  | (n, d) :: r, h => by
    by_cases e : x = n
    · subst e
      exact ⟨d, by simp [List.lookup]⟩
    · have hb : (x == n) = false := beq_eq_false_iff_ne.mpr e
      rcases List.mem_cons.mp h with z | z
      · cases z
        exact absurd rfl e
      · obtain ⟨c', q⟩ := lookup_of_mem z
        exact ⟨c', by simp [List.lookup, hb, q]⟩
theorem closureFor_loop {env : Env} : ∀ (ns : List (Str × NameKind)) (cs : List (Str × Addr)), (∀ x ∈ ns, x.2 = .free → ∃ c, env.cells.lookup x.1 = some c) →
    (forIn ns cs fun x r => (if (x.2 == NameKind.free) = true then (do let c ← cellOf env x.1; pure (ForInStep.yield ((x.1, c) :: r))) else pure (ForInStep.yield r) : Sem (ForInStep (List (Str × Addr))))) = (pure (closL env ns cs) : Sem (List (Str × Addr)))
  | [], cs, _ => rfl
  | (n, k) :: r, cs, h => by
    have ih := fun cs => closureFor_loop r cs fun x hx => h x (List.mem_cons_of_mem _ hx)
    rw [List.forIn_cons]
    unfold closL
    cases hk : (k == NameKind.free) with
    | false =>
      simp only [Bool.false_eq_true, if_false]
      exact ih cs
    | true =>
      obtain ⟨c, hc⟩ := h (n, k) List.mem_cons_self (by simpa using hk)
      have hc' : env.cells.lookup n = some c := hc
      simp only [if_true]
      unfold cellOf
      rw [hc']
      exact ih ((n, c) :: cs)
theorem closureFor_eq {scope : Scope} {env : Env} (h : ∀ x ∈ scope.names, x.2 = .free → ∃ c, env.cells.lookup x.1 = some c) : closureFor scope env = pure (closL env scope.names []) := by
  have e := closureFor_loop scope.names [] h
  have e2 : closureFor scope env = (forIn scope.names [] (fun x r => (if (x.2 == NameKind.free) = true then (do let c ← cellOf env x.1; pure (ForInStep.yield ((x.1, c) :: r))) else pure (ForInStep.yield r) : Sem (ForInStep (List (Str × Addr))))) >>= fun z => pure z : Sem (List (Str × Addr))) := rfl
  rw [e2, e]
  rfl
end L2

namespace L2
open PySem PySem.Spec PyProof.Rows

structure CompScope (osc : Scope) (N : List Str) (scope : Scope) (N' : List Str) (nt : Nat) (caps : List Nat) : Prop where
  kind : scope.kind = .function
  nocell : ∀ y ∈ scope.names, y.2 ≠ .cell
  names : ∀ y ∈ scope.names, y.2 = .local → scope.names.lookup y.1 = some .local
  frees : ∀ y ∈ scope.names, y.2 = .free → osc.names.lookup y.1 = some .cell ∨ osc.names.lookup y.1 = some .free
  capt : caps.map (fun j => N[j]?) = (N'.drop nt).map some
  capf : ∀ x ∈ N'.drop nt, scope.names.lookup x = some .free
  len : nt ≤ N'.length
  nd : N'.Nodup

/-- the block's names at its entry: the targets unset, then the captured ones -/
def sgm (nt : Nat) (caps : List Nat) (σ : St) : St := List.replicate nt none ++ caps.map fun j => (σ[j]?).getD none

/-- a block's own things: its names' record, the state and heap at its entry, its iterator -/
structure Blk where
  C : Addr
  s : Shared
  H : Hp
  fp : List Addr
def cxComp (X : Cx) (N' : List Str) (scope : Scope) (B : Blk) : Cx :=
  { X with N := N', s₀ := B.s, H₀ := B.H, env := compEnvC scope (closL X.env scope.names []) B.C X.env, outer := X.stack, ex := B.fp, fn := fun _ => false, xe := fun _ _ => False }

theorem mem_relabel {scope : Scope} {env : Env} {x : Str} {k : NameKind} (h : (x, k) ∈ (relabel scope env).names) : ∃ k0, (x, k0) ∈ scope.names ∧ (k = k0 ∨ (k = .cell ∧ k0 = .free)) := by
  obtain ⟨⟨n, k0⟩, hm, e⟩ := List.mem_map.mp h
  try dsimp only at e
  split at e
  · rename_i hc
    cases e
    refine ⟨k0, hm, .inr ⟨rfl, ?_⟩⟩
    simp only [Bool.and_eq_true, beq_iff_eq] at hc
    exact hc.1.1
  · cases e
    exact ⟨_, hm, .inl rfl⟩
theorem lookup_relabel_free {env : Env} : ∀ {names : List (Str × NameKind)} {x : Str}, names.lookup x = some .free →
    (names.map fun (n, k) => if (k == NameKind.free && env.scope.kind == .function && env.kindOf n == some .cell) then (n, NameKind.cell) else (n, k)).lookup x = some .cell ∨
    (names.map fun (n, k) => if (k == NameKind.free && env.scope.kind == .function && env.kindOf n == some .cell) then (n, NameKind.cell) else (n, k)).lookup x = some .free
  | [], _, h => by simp at h
  | (n, k) :: r, x, h => by
    have ih := @lookup_relabel_free env r x
    rw [List.map_cons]
    cases hx : x == n with
    | true =>
      simp only [List.lookup_cons, hx] at h
      cases h
      try dsimp only
      split
      · left; simp only [List.lookup_cons, hx]
      · right; simp only [List.lookup_cons, hx]
    | false =>
      simp only [List.lookup_cons, hx] at h
      try dsimp only
      split
      · simp only [List.lookup_cons, hx]; exact ih h
      · simp only [List.lookup_cons, hx]; exact ih h

section
variable {X : Cx} {pins : List (Addr × Obj)} {σ : St} {H : Hp} {s₂ : Shared} {scope : Scope} {N' : List Str} {nt : Nat} {caps : List Nat} {fp : List Addr} {C : Addr}

theorem comp_ok (I : Inv X pins σ H s₂) (S : CompScope X.env.scope X.N scope N' nt caps) (f2 : ∀ b ∈ fp, FpOk X pins H b) (hlt : ∀ b ∈ fp, b < s₂.heap.objs.size) (hC : s₂.heap.objs.size ≤ C) :
    (cxComp X N' scope ⟨C, s₂, H, fp⟩).Ok where
  mod := I.ok.mod
  kind := S.kind
  glob := I.ok.glob
  blt := I.ok.blt
  above := hC
  inj := fun x y c h1 h2 => I.ok.inj x y c (lookup_of_all closL_sub0 h1) (lookup_of_all closL_sub0 h2)
  has := fun x hx => by
    have hm : ∃ k, (k = NameKind.cell ∨ k = NameKind.free) ∧ (x, k) ∈ (relabel scope X.env).names := by
      rcases hx with e | e
      · exact ⟨_, .inl rfl, PySem.mem_of_lookup e⟩
      · exact ⟨_, .inr rfl, PySem.mem_of_lookup e⟩
    obtain ⟨k, hk, hm⟩ := hm
    obtain ⟨k0, h0, e⟩ := mem_relabel hm
    have hf : k0 = .free := by
      rcases e with e | ⟨_, e⟩
      · rcases hk with z | z
        · exact absurd (e.symm.trans z) (S.nocell _ h0)
        · exact e.symm.trans z
      · exact e
    subst hf
    obtain ⟨c, hc⟩ := I.ok.has x (S.frees _ h0 rfl)
    exact lookup_of_mem (closL_mem hc h0)
  cab := fun x c h => absurd (show false = true from h) Bool.false_ne_true
  hd := I.ok.hd
  frames := I.ok.frames
  stk := .inl rfl
  exf := fun b hb => ⟨Nat.ne_of_lt (Nat.lt_of_lt_of_le (hlt b hb) hC), fun x c e => (f2 b hb).2.2.2.2.1 x c (lookup_of_all closL_sub0 e)⟩
  bs := I.bs
  bsz := Nat.le_trans I.ok.bsz I.sz
  noex := fun b o e hb => by
    rcases (f2 b hb).2.2.2.1 with z | z
    · exact I.ok.noex b o e z
    · exact absurd (Nat.lt_of_lt_of_le (Heap.lt_size e) (Nat.le_trans I.ok.bsz z)) (Nat.lt_irrefl _)
  exfs := fun b hb hf => by
    rcases List.mem_cons.mp (I.stkSub b hf) with e | e
    · exact (f2 b hb).2.1 e
    · exact (f2 b hb).2.2.1 e
  funs := I.stack
  frf := I.stkFree

theorem inv_comp {h₁ : Heap} {tk : Nat} {m0 : Str → Option Value} (I : Inv X pins σ H s₂) (S : CompScope X.env.scope X.N scope N' nt caps) (f2 : ∀ b ∈ fp, FpOk X pins H b) (hlt : ∀ b ∈ fp, b < s₂.heap.objs.size)
    (hC : s₂.heap.objs.size ≤ C) (hns : h₁.Ns C m0) (old : ∀ b o, s₂.heap.get? b = some o → h₁.get? b = some o) :
    Inv (cxComp X N' scope ⟨C, s₂, H, fp⟩) pins (sgm nt caps σ) H { s₂ with heap := h₁, toks := tk } := by
  have hl := congrArg List.length S.capt
  rw [List.length_map, List.length_map, List.length_drop] at hl
  have sub : ∀ {x c}, (closL X.env scope.names []).lookup x = some c → X.env.cells.lookup x = some c := fun e => lookup_of_all closL_sub0 e
  refine ⟨comp_ok I S f2 hlt hC, rfl, I.bare, Un.kept old, ⟨m0, hns, fun i x v e1 e2 e3 => ?_⟩, fun x c e => ?_, I.hok.fresh hC, fun x c e => I.freeC x c (sub e), fun p hp => ?_, I.hok.kept old, ?_⟩
  · have e1' : N'[i]? = some x := e1
    have e2' : (List.replicate nt none ++ caps.map fun j => (σ[j]?).getD none)[i]? = some (some v) := e2
    have hi : nt ≤ i := by
      rcases Nat.lt_or_ge i nt with z | z
      · rw [List.getElem?_append_left (by simpa using z), List.getElem?_replicate, if_pos z] at e2'
        cases e2'
      · exact z
    rw [List.getElem?_append_right (by simpa using hi), List.length_replicate, List.getElem?_map] at e2'
    cases hj : caps[i - nt]? with
    | none => rw [hj] at e2'; cases e2'
    | some j =>
      rw [hj] at e2'
      have e3' : (σ[j]?).getD none = some v := Option.some.inj e2'
      have hσ : σ[j]? = some (some v) := by
        cases q : σ[j]? with
        | none => rw [q] at e3'; cases e3'
        | some o => rw [q] at e3'; have z : o = some v := e3'; rw [z]
      have hd : (N'.drop nt)[i - nt]? = some x := by rw [List.getElem?_drop, Nat.add_sub_cancel' hi]; exact e1'
      have hN : X.N[j]? = some x := by
        have q := congrArg (fun l => l[i - nt]?) S.capt
        have q : (caps.map fun j => X.N[j]?)[i - nt]? = ((N'.drop nt).map some)[i - nt]? := q
        rw [List.getElem?_map, List.getElem?_map, hj, hd] at q
        exact Option.some.inj q
      have hfx := S.capf x (List.mem_of_getElem? hd)
      have hko := S.frees (x, .free) (PySem.mem_of_lookup hfx) rfl
      have vis : Vis X.env.scope x := .inr hko
      obtain ⟨m, hn, hl'⟩ := I.loc
      obtain ⟨u, r, l⟩ := hl' j x v hN hσ vis
      refine ⟨u, r, .inr ⟨?_, ?_⟩⟩
      · exact lookup_relabel_free hfx
      · rcases l with ⟨k, _⟩ | ⟨_, c, e, z⟩
        · have k' : X.env.scope.names.lookup x = some .local := k
          rcases hko with q | q <;> (rw [k'] at q; cases q)
        · obtain ⟨c', q⟩ := lookup_of_mem (closL_mem e (PySem.mem_of_lookup hfx) (cs := []))
          have q2 := sub q
          rw [e] at q2
          cases q2
          obtain ⟨o, ho, hd'⟩ := z
          exact ⟨c, q, o, old _ _ ho, hd'⟩
  · obtain ⟨v, o, ho, hd'⟩ := I.cell x c (sub e)
    exact ⟨v, o, old _ _ ho, hd'⟩
  · obtain ⟨a, b, c, d, e⟩ := I.pin p hp
    refine ⟨old _ _ a, b, Nat.ne_of_lt (Nat.lt_of_lt_of_le (Heap.lt_size a) hC), fun hf => ?_, e⟩
    rcases List.mem_cons.mp (I.stkSub p.1 hf) with z | z
    · exact c z
    · exact d z
  · show (List.replicate nt none ++ caps.map fun j => (σ[j]?).getD none).length = N'.length
    rw [List.length_append, List.length_replicate, List.length_map]
    have := S.len
    omega
end

def PTs (X : Cx) (ifs : List Expr) (t : TT) : Prop :=
  ∀ (pins : List (Addr × Obj)) (s : Shared) (σ : St) (H : Hp) (Q : Bool → Hp → Prop), Inv X pins σ H s → t σ H Q →
    wpAny (model X.prog X.w) X.A (forIn ifs true fun c r => if r = true then do let ok ← isTrue c X.env (eval c X.env); pure (ForInStep.yield ok) else pure (ForInStep.yield r)) (TP X pins σ Q) X.xe s
def tTrue : TT := fun _ H Q => Q true H
theorem pts_nil {X : Cx} : PTs X [] tTrue := fun _ _ _ H _ I h => wpAny_tests_nil ⟨H, I, h⟩
theorem pts_one {X : Cx} {c : Expr} {t : TT} (h : PT X c t) : PTs X [c] t := fun pins s σ H Q I q => wpAny_tests_one (h pins s σ H Q I q)

section
variable {prog : Program} {w : World} {A : Around} {R : Result → Shared → Prop} {s : Shared}
theorem codeAny_compLoop_go {elt target iter : Expr} {ifs : List Expr} {scope : Scope} {pos : Pos} {it acc : Value} {env : Env} (I : Nat → Shared → Prop)
    (turn : ∀ n s, I n s → wpAny (model prog w) A (pyNext it) (fun r s₁ => match r with
      | none => R (.ok .next) s₁
      | some v => wpAny (model prog w) A (letOwnedTupleGo target it v) (fun _ s₁' => wpAny (model prog w) A (assign target env v) (fun _ s₂ =>
          wpAny (model prog w) A (forIn ifs true fun c r => if r = true then do let ok ← isTrue c env (eval c env); pure (ForInStep.yield ok) else pure (ForInStep.yield r)) (fun ok s₃ =>
            if ok = true then wpAny (model prog w) A (eval elt env) (fun x s₄ =>
              wpAny (model prog w) A (call (.builtin "list.append") [acc, x]) (fun _ s₅ => ∃ m, m < n ∧ I m s₅) (notedBy (model prog w) A env fun e s' => R (.error e) s') s₄) (notedBy (model prog w) A env fun e s' => R (.error e) s') s₃
            else ∃ m, m < n ∧ I m s₃) (notedBy (model prog w) A env fun e s' => R (.error e) s') s₂) (notedBy (model prog w) A env fun e s' => R (.error e) s') s₁') (notedBy (model prog w) A env fun e s' => R (.error e) s') s₁)
      (notedBy (model prog w) A env fun e s' => R (.error e) s') s)
    (n : Nat) (h : I n s) : codeAny (model prog w) A (.compLoop (.ListComp elt [⟨target, iter, ifs, 0⟩] scope pos) 0 it acc env) R s := by
  refine codeAny_loop rfl I (fun n s hI => ?_) n h
  show wpAny _ A ((compTurn (.ListComp elt [⟨target, iter, ifs, 0⟩] scope pos) 0 it acc env).onRaise (fun x => do noteFrame x env; theTreesLotGoes x)) _ _ s
  refine wpAny_noted ?_
  rw [compTurn_list]
  refine wpAny_bind (wpAny_standAt (wpAny_bind (wpAny_mono (turn n s hI) (fun r s₁ h₁ => ?_) fun _ _ h' => h')))
  cases r with
  | none => exact wpAny_pure h₁
  | some v =>
    refine wpAny_bind (wpAny_mono h₁ (fun _ s₁' h₁' => ?_) fun _ _ h' => h')
    refine wpAny_bind (wpAny_mono h₁' (fun _ s₂ h₂ => wpAny_bind (wpAny_mono h₂ (fun ok s₃ h₃ => ?_) fun _ _ h' => h')) fun _ _ h' => h')
    cases ok with
    | false => exact wpAny_pure ⟨rfl, h₃⟩
    | true =>
      exact wpAny_bind (wpAny_bind (wpAny_mono h₃ (fun x s₄ h₄ => wpAny_bind (wpAny_mono h₄ (fun _ s₅ h₅ => wpAny_pure (wpAny_pure ⟨rfl, h₅⟩)) fun _ _ h' => h')) fun _ _ h' => h'))
end

section
variable {X : Cx} {pins : List (Addr × Obj)} {σ : St} {H : Hp} {s₂ : Shared} {scope : Scope} {N' : List Str} {nt : Nat} {caps : List Nat} {tg elt iter : Expr} {ifs : List Expr} {pos : Pos} {g : Blk → TG} {tt : Blk → TT} {te : Blk → TE}

/-- one turn and the end, by what the block wants -/
def CompW (J : It) (g : TG) (tt : TT) (te : TE) (W : Nat → Nat → List V → St → Hp → Prop) (Z : List V → Hp → Prop) : Prop :=
  ∀ i m ys σ' H', W i m ys σ' H' → (J.stop i H' ∧ Z ys H') ∨ (J.go i H' ∧ ys.length < sizeLine ∧ ∃ N : List V → St → Hp → Prop, (∀ zs σ2 H2, N zs σ2 H2 → ∃ m', m' < m ∧ W (i + 1) m' zs σ2 H2) ∧
    ∀ x H2, J.yld i H' x H2 → g x σ' H2 fun σ2 H3 => tt σ2 H3 fun b H4 => if b = true then te σ2 H4 fun y H5 => N (ys ++ [y]) σ2 H5 else N ys σ2 H4)

abbrev lobj (its : List Value) (n : Nat) : Obj := { cls := .type "list", data := .seq its.toArray n }

theorem comp_run {J : It} {it : Addr} {fp : List Addr} {tn : Nat → Heap → Prop} {W : Nat → Nat → List V → St → Hp → Prop} {Z : List V → Hp → Prop} {RR : Value → Addr → Result → Shared → Prop} {E : Value → Shared → Prop}
    (hc : X.calm = true) (S : CompScope X.env.scope X.N scope N' nt caps)
    (hg : ∀ B, PG (cxComp X N' scope B) tg (g B)) (ht : ∀ B, PTs (cxComp X N' scope B) ifs (tt B)) (he : ∀ B, PE (cxComp X N' scope B) elt (te B))
    (I : Inv X pins σ H s₂) (T : Turn X.prog X.w X.K tg J fp it tn) (st : tn 0 s₂.heap) (f2 : ∀ b ∈ fp, FpOk X pins H b) (w0 : ∃ m, W 0 m [] (sgm nt caps σ) H) (turn : ∀ B, CompW J (g B) (tt B) (te B) W Z)
    (hRR : ∀ D C s' ys H', Z ys H' → H' D = none → Inv X pins σ (upd H' D (.lst ys)) s' → FpOk X pins (upd H' D (.lst ys)) C → (∃ m, s'.heap.Ns C m) → RR (.ref D) C (.ok .next) s') :
    wpAny (model X.prog X.w) X.A (newList []) (fun acc s₃ => wpAny (model X.prog X.w) X.A (newFunctionEnv scope X.env.globals (closL X.env scope.names []) [] X.env.qual none .none (some X.env)) (fun cenv s₄ =>
      codeAny (model X.prog X.w) X.A (.compStart (.ListComp elt [⟨tg, iter, ifs, 0⟩] scope pos) 0 (.ref it) acc { cenv with scope := relabel scope X.env }) (RR acc cenv.locals) s₄) E s₃) E s₂ := by
  refine wpAny_newObj_type (wpAny_newFunctionEnv S.nocell (by intro y hy; simp at hy) (fun h₁ hns₁ hsb₁ => ?_) S.kind)
  try dsimp only at hns₁ hsb₁ ⊢
  generalize hH2 : s₂.heap.push { cls := .type "list", dict := none, data := .seq ([] : List Value).toArray } = G2 at hns₁ hsb₁ ⊢
  have hCe : G2.objs.size = s₂.heap.objs.size + 1 := by rw [← hH2, Heap.size_push]
  have hDC : s₂.heap.objs.size ≠ G2.objs.size := by rw [hCe]; exact Nat.ne_of_lt (Nat.lt_succ_self _)
  have hCle : s₂.heap.objs.size ≤ G2.objs.size := by rw [hCe]; exact Nat.le_succ _
  have hlt : ∀ b ∈ fp, b < s₂.heap.objs.size := fun b hb => let ⟨o, e, _⟩ := T.obj 0 _ st b hb; Heap.lt_size e
  have old : ∀ b o, s₂.heap.get? b = some o → h₁.get? b = some o := fun b o e =>
    hsb₁.extBut b o (Nat.ne_of_lt (Nat.lt_of_lt_of_le (Heap.lt_size e) hCle)) (Heap.get?_push_of_some _ (hH2 ▸ Heap.get?_push_of_some _ e))
  have hacc : h₁.get? s₂.heap.objs.size = some (lobj [] 0) := hsb₁.extBut _ _ hDC (Heap.get?_push_of_some _ (hH2 ▸ Heap.get?_push_size _ rfl))
  generalize hD : s₂.heap.objs.size = D at hacc hDC hCle hCe
  generalize G2.objs.size = C at hns₁ hsb₁ hDC hCle hCe ⊢
  have hlt' : ∀ b ∈ fp, b < D := fun b hb => hD ▸ hlt b hb
  have hpl : ∀ p ∈ X.pn ++ pins, p.1 < D := fun p hp => hD ▸ Heap.lt_size (I.pin p hp).1
  have hcl : ∀ x c, X.env.cells.lookup x = some c → c < D := fun x c e => let ⟨v, q⟩ := I.cell x c e; hD ▸ q.lt
  have hfsl : ∀ b ∈ frs X.stack, b < D := fun b hb => by
    rcases List.mem_cons.mp (I.stkSub b hb) with z | z
    · rw [z, ← hD]; exact I.lt
    · rw [← hD]
      refine Nat.lt_of_not_le fun q => I.nofs q z
  -- the iterator's and the list's own addresses within the block
  have fD : ∀ {H' : Hp} {pl : List (Addr × Obj)}, H' D = none → (∀ p ∈ X.pn ++ pl, p.1 < D) → FpOk (cxComp X N' scope ⟨C, s₂, H, fp⟩) pl H' D := fun {H' pl} hn hp =>
    ⟨hn, hDC, fun z => Nat.lt_irrefl _ (hfsl D z), .inr (by show s₂.heap.objs.size ≤ D; rw [hD]; exact Nat.le_refl _), fun x c e z => Nat.lt_irrefl D (by have := hcl x c (lookup_of_all closL_sub0 e); rw [z] at this; exact this),
      fun p q z => Nat.lt_irrefl D (by have := hp p q; rw [z] at this; exact this)⟩
  have fI : ∀ {H' : Hp} {n : Nat} {its : List Value}, (∀ b ∈ fp, H' b = none) → ∀ b ∈ fp, FpOk (cxComp X N' scope ⟨C, s₂, H, fp⟩) (pins ++ [(D, lobj its n)]) H' b := fun {H' n its} hn b hb => by
    obtain ⟨g0, g1, g2, g3, g4, g5⟩ := f2 b hb
    refine ⟨hn b hb, Nat.ne_of_lt (Nat.lt_of_lt_of_le (hlt' b hb) hCle), fun z => ?_, .inl hb, fun x c e => g4 x c (lookup_of_all closL_sub0 e), fun p hp z => ?_⟩
    · rcases List.mem_cons.mp (I.stkSub b z) with q | q
      · exact g1 q
      · exact g2 q
    · have hp' : p ∈ X.pn ++ (pins ++ [(D, lobj its n)]) := hp
      rw [← List.append_assoc] at hp'
      rcases List.mem_append.mp hp' with q | q
      · exact g5 p q z
      · have e : p = (D, lobj its n) := by simpa using q
        rw [e] at z
        have := hlt' b hb
        rw [← z] at this
        exact Nat.lt_irrefl _ this
  have pinD : ∀ {σ' : St} {H' : Hp} {s' : Shared} {its : List Value} {n : Nat} {pl : List (Addr × Obj)}, Inv (cxComp X N' scope ⟨C, s₂, H, fp⟩) (pins ++ pl) σ' H' s' → H' D = none → s'.heap.get? D = some (lobj its n) → Inv (cxComp X N' scope ⟨C, s₂, H, fp⟩) (pins ++ [(D, lobj its n)]) σ' H' s' :=
    fun {σ' H' s' its n pl} J hn ho => J.pins_of fun p hp => by
      rcases List.mem_append.mp hp with q | q
      · exact J.pin p (List.mem_append_right _ (List.mem_append_left _ q))
      · have e : p = (D, lobj its n) := by simpa using q
        subst e
        exact ⟨ho, hn, hDC, fun z => Nat.lt_irrefl _ (hfsl D z), fun v z => by cases z⟩
  have I1 : Inv (cxComp X N' scope ⟨C, s₂, H, fp⟩) (pins ++ [(D, lobj [] 0)]) (sgm nt caps σ) H { s₂ with heap := h₁, toks := s₂.toks + ([] : List (Str × Value)).length } :=
    pinD (pl := []) (by rw [List.append_nil]; exact inv_comp I S f2 hlt (by rw [hD]; exact hCle) hns₁ old) (I.hok.fresh (by rw [hD]; exact Nat.le_refl _)) hacc
  have st1 : tn 0 h₁ := T.keep 0 _ _ st fun b _ o e => old b o e
  have loop : ∀ s₃ : Shared, s₃ = { s₂ with heap := h₁, toks := s₂.toks + ([] : List (Str × Value)).length } →
      codeAny (model X.prog X.w) X.A (.compLoop (.ListComp elt [⟨tg, iter, ifs, 0⟩] scope pos) 0 (.ref it) (.ref D) (cxComp X N' scope ⟨C, s₂, H, fp⟩).env) (RR (.ref D) C) s₃ := by
    rintro s₃ rfl
    obtain ⟨m0, w0⟩ := w0
    refine codeAny_compLoop_go (fun k s' => ∃ i ys σ' H' its n, Inv (cxComp X N' scope ⟨C, s₂, H, fp⟩) (pins ++ [(D, lobj its n)]) σ' H' s' ∧ Vals ys its ∧ tn i s'.heap ∧ (∀ b ∈ fp, H' b = none) ∧ ys.length ≤ sizeLine ∧ W i k ys σ' H') ?_ m0
      ⟨0, [], _, H, [], 0, I1, .nil, st1, fun b hb => (f2 b hb).1, Nat.zero_le _, w0⟩
    rintro k s' ⟨i, ys, σ', H', its, n, I', rv, st', fr', hz, w'⟩
    rcases turn ⟨C, s₂, H, fp⟩ i k ys σ' H' w' with ⟨stop, z⟩ | ⟨go, hlen, NN, hNN, step⟩
    · refine thn (T.done (cxComp X N' scope ⟨C, s₂, H, fp⟩) rfl rfl rfl hc i _ s' σ' H' _ I' (fI fr') st' stop) fun r s1 ⟨hr, J⟩ => ?_
      subst hr
      have pd := J.pin (D, lobj its n) (List.mem_append_right _ (List.mem_append_right _ List.mem_cons_self))
      have hDn : H' D = none := pd.2.1
      have J0 : Inv X pins σ H' s1 := I.call' (ch := fp) J.os J.base J.hok J.bare fun b hb => ⟨(f2 b hb).2.2.2.1, (f2 b hb).2.1, (f2 b hb).2.2.2.2.1, (f2 b hb).2.2.2.2.2⟩
      have J1 : Inv X pins σ (upd H' D (.lst ys)) s1 := J0.track (I.fpOk (by rw [hD]; exact Nat.le_refl _) hDn) ⟨hz, its, n, rv, pd.1⟩
      obtain ⟨mC, hnC, _⟩ := J.loc
      exact hRR D C s1 ys H' z hDn J1 (I.fpOk (by rw [hD]; exact hCle) (by rw [upd_ne (Ne.symm hDC)]; exact J.free)) ⟨mC, hnC⟩
    · refine thn (T.item (cxComp X N' scope ⟨C, s₂, H, fp⟩) rfl rfl rfl hc i _ s' σ' H' _ I' (fI fr') st' go) fun r s1 ⟨u, hr, h1⟩ => ?_
      subst hr
      refine thn h1 fun _ s5 ⟨x, H5, I5, r5, y5, st5, fr5⟩ => ?_
      have I5' := I5.pinned (fI fr5) (T.obj _ _ st5)
      refine wpAny_mono (hg ⟨C, s₂, H, fp⟩ _ s5 σ' H5 x u _ I5' r5 (step x H5 y5)) (fun _ s6 ⟨σ6, H6, I6, q6⟩ => ?_) fun _ _ z => z.elim
      refine wpAny_mono (ht ⟨C, s₂, H, fp⟩ _ s6 σ6 H6 _ I6 q6) (fun b s7 ⟨H7, I7, q7⟩ => ?_) fun _ _ z => z.elim
      have keepT : ∀ {σ8 : St} {H8 : Hp} {s8 : Shared}, Inv (cxComp X N' scope ⟨C, s₂, H, fp⟩) ((pins ++ [(D, lobj its n)]) ++ pinsAt fp s5.heap) σ8 H8 s8 → tn (i + 1) s8.heap ∧ (∀ b ∈ fp, H8 b = none) ∧ s8.heap.get? D = some (lobj its n) ∧ H8 D = none := fun {σ8 H8 s8} I8 => by
        refine ⟨T.keep _ _ _ st5 fun b hb o e => (I8.pin (b, o) (List.mem_append_right _ (List.mem_append_right _ (mem_pinsAt hb e)))).1, fun b hb => ?_, ?_⟩
        · obtain ⟨o, e, _⟩ := T.obj _ _ st5 b hb
          exact (I8.pin (b, o) (List.mem_append_right _ (List.mem_append_right _ (mem_pinsAt hb e)))).2.1
        · have pd := I8.pin (D, lobj its n) (List.mem_append_right _ (List.mem_append_left _ (List.mem_append_right _ List.mem_cons_self)))
          exact ⟨pd.1, pd.2.1⟩
      cases b with
      | false =>
        rw [if_neg Bool.false_ne_true] at q7 ⊢
        obtain ⟨m', hm, w7⟩ := hNN _ _ _ q7
        obtain ⟨t7, f7, _, _⟩ := keepT I7
        exact ⟨m', hm, i + 1, ys, σ6, H7, its, n, I7.unpinned, rv, t7, f7, hz, w7⟩
      | true =>
        rw [if_pos rfl] at q7 ⊢
        refine wpAny_mono (he ⟨C, s₂, H, fp⟩ _ s7 σ6 H7 _ I7 q7) (fun v s8 ⟨y, H8, I8, r8, q8⟩ => ?_) fun _ _ z => z.elim
        obtain ⟨m', hm, w8⟩ := hNN _ _ _ q8
        obtain ⟨t8, f8, o8, n8⟩ := keepT I8
        have hlv := rv.length
        refine append_at o8 (fun h9 sb9 o9 => ?_) (by rw [List.size_toArray, ← hlv]; exact hz)
        have I8' : Inv (cxComp X N' scope ⟨C, s₂, H, fp⟩) (pins ++ []) σ6 H8 s8 := by
          rw [List.append_nil]
          exact I8.unpinned.unpinned
        have ep : ((its.toArray.push v)) = (its ++ [v]).toArray := by simp
        rw [ep] at o9
        have I9 : Inv (cxComp X N' scope ⟨C, s₂, H, fp⟩) (pins ++ []) σ6 H8 { s8 with heap := h9 } :=
          I8'.turnedL (t' := s8.toks) (ch := [D]) (fun b o hb e => sb9.extBut b o (fun z => hb (by simp [z])) e) (fun b hb => by
            have e : b = D := by simpa using hb
            subst e
            exact fD n8 (by rw [List.append_nil]; exact hpl))
        refine ⟨m', hm, i + 1, ys ++ [y], σ6, H8, its ++ [v], n + 1, pinD I9 n8 o9, rv.append (.cons r8 .nil), T.keep _ _ _ t8 fun b hb o e => sb9.extBut b o (Nat.ne_of_lt (hlt' b hb)) e, f8, ?_, w8⟩
        rw [List.length_append, List.length_singleton]
        exact hlen
  exact codeAny_compStart_list (loop _ rfl) (T.self X.A 0 _ _ _ st1 (loop _ rfl))

/-- [elt for tg in iter if ..] -/
def tComp (nt : Nat) (caps : List Nat) (wi : TI) (g : Blk → TG) (tt : Blk → TT) (te : Blk → TE) : TE := fun σ H Q => wi σ H fun J H1 =>
  ∃ (W : Nat → Nat → List V → St → Hp → Prop), (∃ m, W 0 m [] (sgm nt caps σ) H1) ∧ ∀ B, CompW J (g B) (tt B) (te B) W fun ys H' => ∀ p, H' p = none → Q (.ref p) (upd H' p (.lst ys))

theorem pe_comp {wi : TI} (osc : Scope) (N : List Str) (S : CompScope osc N scope N' nt caps) (hi : PI X tg iter wi)
    (hg : ∀ B, PG (cxComp X N' scope B) tg (g B)) (ht : ∀ B, PTs (cxComp X N' scope B) ifs (tt B)) (he : ∀ B, PE (cxComp X N' scope B) elt (te B))
    (hc : X.calm = true := by rfl) (hosc : X.env.scope = osc := by rfl) (hNN : X.N = N := by rfl) (hs : ∀ x, foldedSetIterable iter X.env x = pure x := by intro _; rfl) : PE X (.ListComp elt [⟨tg, iter, ifs, 0⟩] scope pos) (tComp nt caps wi g tt te) := by
  subst hosc hNN
  intro pins s σ H Q I h
  have hfr : ∀ x ∈ scope.names, x.2 = .free → ∃ c, X.env.cells.lookup x.1 = some c := fun x hx hf => I.ok.has x.1 (S.frees x hx hf)
  rw [eval_ListComp]
  refine wpAny_comprehension_free (use := none) rfl hs (closureFor_eq hfr) S.kind S.names (thn (hi pins s σ H _ I h) fun v s1 h1 => thn h1 fun itv s2 h2 => ?_)
  obtain ⟨it, fp, tn, J, H2, e, I2, T, st2, f2, W, w0, turn⟩ := h2
  subst e
  refine comp_run (RR := fun acc C => compPost (model X.prog X.w) X.A X.xe none (EP X pins σ Q) acc C) hc S hg ht he I2 T st2 f2 w0 turn ?_
  intro D C s' ys H' z hn J' fC ⟨m, hm⟩
  refine ⟨m, hm, fun h'' sb => ⟨.ref D, _, J'.turnedL (t' := s'.toks) (ch := [C]) (fun b o hb e => sb.extBut b o (fun z => hb (by simp [z])) e) (fun b hb => ?_), rfl, z D hn⟩⟩
  have e : b = C := by simpa using hb
  subst e
  exact fC
/-- name = [elt for ..] where the model stores ahead of letting the block's names go -/
theorem ps_setComp {wi : TI} {i : Nat} {y : Str} {py spos : Pos} (osc : Scope) (N : List Str) (S : CompScope osc N scope N' nt caps) (hN : X.N.Nodup) (hiN : X.N[i]? = some y) (hy : X.env.scope.names.lookup y = some .local) (hi : PI X tg iter wi)
    (hg : ∀ B, PG (cxComp X N' scope B) tg (g B)) (ht : ∀ B, PTs (cxComp X N' scope B) ifs (tt B)) (he : ∀ B, PE (cxComp X N' scope B) elt (te B))
    (hsw : swapsWith (.ListComp elt [⟨tg, iter, ifs, 0⟩] scope pos) (some (.Name y py)) spos.line X.env = pure true := by rfl)
    (hc : X.calm = true := by rfl) (hosc : X.env.scope = osc := by rfl) (hNN : X.N = N := by rfl) (hs : ∀ x, foldedSetIterable iter X.env x = pure x := by intro _; rfl) : PS X (.Assign [.Name y py] (.ListComp elt [⟨tg, iter, ifs, 0⟩] scope pos) spos) (tAsg (tComp nt caps wi g tt te) (gName i)) := by
  subst hosc hNN
  intro pins s σ H D0 I h
  have hfr : ∀ x ∈ scope.names, x.2 = .free → ∃ c, X.env.cells.lookup x.1 = some c := fun x hx hf => I.ok.has x.1 (S.frees x hx hf)
  rw [exec_Assign_Name_used _ _ _ _ hsw]
  refine wpAny_bind (wpAny_standAt (wpAny_bind ?_))
  show wpAny _ _ (do let _ ← comprehension (.ListComp elt [⟨tg, iter, ifs, 0⟩] scope pos) scope X.env _ (newList []) false (eval iter X.env) (some (assign (.Name y py) X.env))) _ _ s
  refine wpAny_bind (wpAny_mono (wpAny_comprehension_free (use := some (assign (.Name y py) X.env)) (Q := fun _ s' => SP X pins D0 .next s') rfl hs (closureFor_eq hfr) S.kind S.names
    (thn (hi pins s σ H _ I h) fun v s1 h1 => thn h1 fun itv s2 h2 => ?_)) (fun _ s' hq => wpAny_pure (wpAny_pure hq)) fun _ _ e => e)
  obtain ⟨it, fp, tn, J, H2, e, I2, T, st2, f2, W, w0, turn⟩ := h2
  subst e
  refine comp_run (RR := fun acc C => compPost (model X.prog X.w) X.A X.xe (some (assign (.Name y py) X.env)) (fun _ s' => SP X pins D0 .next s') acc C) hc S hg ht he I2 T st2 f2 w0 turn ?_
  intro D C s' ys H' z hn J' fC ⟨m, hm⟩
  show wpAny _ _ (assign (.Name y py) X.env (.ref D)) _ _ s'
  refine wpAny_assign_Name (store_ok2 (v := .ref D) J' hN hiN (.inl hy) rfl (fun s'' J'' ⟨a, sb, ha⟩ => ?_) (.inr hy))
  have hCa : C ≠ a := by
    rcases ha with q | q
    · rw [q]; exact fC.2.1
    · exact Ne.symm (fC.2.2.2.2.1 _ _ q)
  refine ⟨m, hm.sameBut sb hCa, fun h'' sb' => ⟨_, _, J''.turnedL (t' := s''.toks) (ch := [C]) (fun b o hb e => sb'.extBut b o (fun z => hb (by simp [z])) e) (fun b hb => ?_), z D hn⟩⟩
  have e : b = C := by simpa using hb
  subst e
  exact fC
end

section
variable {X : Cx}
end

section
variable {K : PySem.W.Frag} {g : Blk → TG} {tt : Blk → TT} {te : Blk → TE} {Z : List V → Hp → Prop} {σ0 : St} {H1 : Hp}
theorem comp_listP {a : Addr} {xs : List V} (Pv : Nat → List V → St → Hp → Prop) (h0 : Pv 0 [] σ0 H1) (hl : ∀ i ys σ H, i ≤ xs.length → Pv i ys σ H → SqL K H a xs ∧ ys.length < sizeLine)
    (hs : ∀ B i x ys σ H, xs[i]? = some x → Pv i ys σ H → g B x σ H fun σ2 H3 => tt B σ2 H3 fun b H4 => if b = true then te B σ2 H4 fun y H5 => Pv (i + 1) (ys ++ [y]) σ2 H5 else Pv (i + 1) ys σ2 H4)
    (hd : ∀ ys σ H, Pv xs.length ys σ H → Z ys H) : ∃ W : Nat → Nat → List V → St → Hp → Prop, (∃ m, W 0 m [] σ0 H1) ∧ ∀ B, CompW (Itl K a) (g B) (tt B) (te B) W Z := by
  refine ⟨fun i m ys σ H => m = xs.length - i ∧ i ≤ xs.length ∧ Pv i ys σ H, ⟨xs.length, by simp, Nat.zero_le _, h0⟩, ?_⟩
  rintro B i m ys σ H ⟨rfl, hi, p⟩
  obtain ⟨q, hz⟩ := hl i ys σ H hi p
  by_cases hlt : i < xs.length
  · refine .inr ⟨⟨xs, xs[i], q, by simp [hlt]⟩, hz, Pv (i + 1), fun zs σ' H' p' => ⟨xs.length - (i + 1), by omega, rfl, hlt, p'⟩, fun x H' y => ?_⟩
    obtain ⟨e, y⟩ := y
    subst e
    exact hs B i x ys σ _ (y xs q) p
  · have e : i = xs.length := by omega
    subst e
    exact .inl ⟨⟨xs, q, Nat.le_refl _⟩, hd ys σ H p⟩
theorem comp_rangeP {lo : Int} {n : Nat} (Pv : Nat → List V → St → Hp → Prop) (h0 : Pv 0 [] σ0 H1) (hl : ∀ i ys σ H, i ≤ n → Pv i ys σ H → ys.length < sizeLine)
    (hs : ∀ B i ys σ H, i < n → Pv i ys σ H → g B (.int (lo + i)) σ H fun σ2 H3 => tt B σ2 H3 fun b H4 => if b = true then te B σ2 H4 fun y H5 => Pv (i + 1) (ys ++ [y]) σ2 H5 else Pv (i + 1) ys σ2 H4)
    (hd : ∀ ys σ H, Pv n ys σ H → Z ys H) : ∃ W : Nat → Nat → List V → St → Hp → Prop, (∃ m, W 0 m [] σ0 H1) ∧ ∀ B, CompW (Itr lo n) (g B) (tt B) (te B) W Z := by
  refine ⟨fun i m ys σ H => m = n - i ∧ i ≤ n ∧ Pv i ys σ H, ⟨n, by simp, Nat.zero_le _, h0⟩, ?_⟩
  rintro B i m ys σ H ⟨rfl, hi, p⟩
  by_cases hlt : i < n
  · refine .inr ⟨hlt, hl i ys σ H hi p, Pv (i + 1), fun zs σ' H' p' => ⟨n - (i + 1), by omega, rfl, hlt, p'⟩, fun x H' y => ?_⟩
    obtain ⟨e, y⟩ := y
    subst e y
    exact hs B i ys σ _ hlt p
  · have e : i = n := by omega
    subst e
    exact .inl ⟨Nat.le_refl _, hd ys σ H p⟩
end
/-- what was untracked and is laid leaves the rest -/
protected theorem Same.upd {H H' : Hp} (e : Same H H') {p : Addr} {o : HO} (h : H' p = none) : Same H (L2.upd H' p o) := fun b u q => by
  have q' := e b u q
  rw [upd_ne (ne_of_none q' h)]
  exact q'
protected theorem Same.upd' {H H' : Hp} (e : Same H H') {p : Addr} {o : HO} (h : H p = none) : Same H (L2.upd H' p o) := fun b u q => by
  rw [upd_ne (ne_of_none q h)]
  exact e b u q
theorem Same.seqT {K : PySem.W.Frag} {H H' : Hp} {a : Addr} {xs : List V} (e : Same H H') (h : SqT K H a xs) : SqT K H' a xs := by
  rcases h with (h | ⟨o, h⟩) | h
  · exact .inl (.inl (e _ _ h))
  · exact .inl (.inr ⟨o, e _ _ h⟩)
  · exact .inr h
/-- one target over a range, the element a value that leaves what was tracked -/
theorem comp_range1 {te : Blk → TE} {H1 : Hp} {Z : List V → Hp → Prop} {lo : Int} {n : Nat} {τ : St} (f : Nat → V) (hn : n < sizeLine)
    (hs : ∀ B i H, i < n → Same H1 H → ∀ Q' : VK, (∀ H2, Same H H2 → Q' (f i) H2) → te B (some (.int (lo + i)) :: τ) H Q')
    (hd : ∀ H2, Same H1 H2 → Z ((List.range n).map f) H2) :
    ∃ W : Nat → Nat → List V → St → Hp → Prop, (∃ m, W 0 m [] (none :: τ) H1) ∧ ∀ B : Blk, CompW (Itr lo n) (gName 0) tTrue (te B) W Z := by
  refine comp_rangeP (g := fun _ => gName 0) (tt := fun _ => tTrue) (fun i ys σ H => (∃ v, σ = v :: τ) ∧ Same H1 H ∧ ys = (List.range i).map f) ⟨⟨none, rfl⟩, Same.refl _, rfl⟩ (fun i ys σ H hi ⟨_, _, e⟩ => ?_) (fun B i ys σ H hi ⟨⟨v, e⟩, S, ey⟩ => ?_) (fun ys σ H ⟨_, S, e⟩ => ?_)
  · rw [e, List.length_map, List.length_range]; omega
  · subst e
    try dsimp only [gName, tTrue]
    rw [if_pos rfl]
    refine hs B i H hi S _ fun H2 S2 => ⟨⟨_, rfl⟩, S.trans S2, ?_⟩
    rw [ey, List.range_succ, List.map_append]
    rfl
  · rw [e]
    exact hd H S
end L2

namespace L2
open PySem PySem.Spec PyProof.Rows
section
variable {X : Cx}
inductive rIsOf (K : PySem.W.Frag) (xs : List V) (H : Hp) (Q : VK) : Prop
  | mk : ∀ x n t b, (xs = [x, .ty n]) → (TyOf K H x t) → (PySem.W.kitOne K t (.type n) = some b) → (Q (.bl b) H) → rIsOf K xs H Q
theorem call_isinst : CallR X (.builtin "isinstance") (rIsOf X.K) := by
  intro pins s σ H xs us Q I r h
  obtain ⟨x, n, t, b, e, ty, k, q⟩ := h
  subst e
  obtain ⟨u, v, rfl, r1, r2⟩ := vals2 r
  obtain rfl : v = Value.type n := r2
  exact isinst_ok I r1 ty k fun tk => ⟨.bl b, H, I.tok tk, rfl, q⟩
inductive rAllOf (K : PySem.W.Frag) (xs : List V) (H : Hp) (Q : VK) : Prop
  | mk : ∀ (a : Addr) (bs : List Bool), (xs = [.ref a]) → (SqL K H a (bs.map V.bl)) → (Q (.bl (bs.all id)) H) → rAllOf K xs H Q
theorem call_all_list (hc : X.calm = true) : CallR X (.builtin "all") (rAllOf X.K) := by
  intro pins s σ H xs us Q I r h
  obtain ⟨a, bs, e, hq, q⟩ := h
  subst e
  obtain ⟨u, rfl, r1⟩ := vals1 r
  obtain rfl : u = Value.ref a := r1
  obtain ⟨its, rv, p, hz⟩ := I.list hq
  have hal : a < s.heap.objs.size := by obtain ⟨o, e, _⟩ := p.isList; exact Heap.lt_size e
  have hl := rv.length
  rw [List.length_map] at hl
  refine call_all_walk (wpAny_pyIter_list p.isList ⟨s.heap.objs.size, _, _, _, _, _, (fun i => bs.getD i false), rfl, Walks.list (A := X.A.in1) (show X.A.in1.handled = none from I.ok.hd hc) _ a (Nat.ne_of_lt hal) its.toArray, ⟨⟨_, Heap.get?_push_size _ rfl, rfl, rfl⟩, p.isList.push _⟩, fun i v s' Q' E' hv hQ => ?_, fun h' tk hk => ?_⟩)
  · have hv' : its[i]? = some v := by simpa using hv
    have hi : i < bs.length := by rw [hl]; exact (List.getElem?_eq_some_iff.mp hv').1
    have hx : (bs.map V.bl)[i]? = some (V.bl (bs.getD i false)) := by
      rw [List.getElem?_map, List.getElem?_eq_getElem hi]
      simp [List.getD_eq_getElem?_getD, List.getElem?_eq_getElem hi]
    obtain ⟨u, hu, ru⟩ := rv.get hx
    rw [hv'] at hu
    cases hu
    obtain rfl : v = Value.bool (bs.getD i false) := ru
    exact wpAny_truthy_bool hQ
  · have es : (List.range its.toArray.size).all (fun i => bs.getD i false) = bs.all id := by
      rw [List.size_toArray, ← hl]
      rw [Bool.eq_iff_iff, List.all_eq_true, List.all_eq_true]
      constructor
      · intro z x hx
        obtain ⟨i, hi, rfl⟩ := List.mem_iff_getElem.mp hx
        have := z i (List.mem_range.mpr hi)
        simpa [List.getD_eq_getElem?_getD, List.getElem?_eq_getElem hi] using this
      · intro z i hi
        have hi := List.mem_range.mp hi
        have := z _ (List.getElem_mem hi)
        simpa [List.getD_eq_getElem?_getD, List.getElem?_eq_getElem hi] using this
    rw [es]
    exact ⟨.bl (bs.all id), H, I.kept fun b o e => hk b o (fun z => by have := List.mem_singleton.mp z; rw [this] at e; exact absurd (Heap.lt_size e) (Nat.lt_irrefl _)) (Heap.get?_push_of_some _ e), rfl, q⟩
end
end L2

namespace L2
open PySem PySem.Spec PyProof.Rows

def compOkB (osc : Scope) (N : List Str) (scope : Scope) (N' : List Str) (nt : Nat) (caps : List Nat) : Bool :=
  decide (scope.kind = .function) && decide (∀ y ∈ scope.names, y.2 ≠ .cell) && decide (∀ y ∈ scope.names, y.2 = .local → scope.names.lookup y.1 = some .local) &&
  decide (∀ y ∈ scope.names, y.2 = .free → osc.names.lookup y.1 = some .cell ∨ osc.names.lookup y.1 = some .free) && decide (caps.map (fun j => N[j]?) = (N'.drop nt).map some) &&
  decide (∀ x ∈ N'.drop nt, scope.names.lookup x = some .free) && decide (nt ≤ N'.length) && decide N'.Nodup
theorem CompScope.of {osc : Scope} {N : List Str} {scope : Scope} {N' : List Str} {nt : Nat} {caps : List Nat} (h : compOkB osc N scope N' nt caps = true) : CompScope osc N scope N' nt caps := by
  unfold compOkB at h
  simp only [Bool.and_eq_true, decide_eq_true_eq] at h
  obtain ⟨⟨⟨⟨⟨⟨⟨a, b⟩, c⟩, d⟩, e⟩, f⟩, g⟩, i⟩ := h
  exact ⟨a, b, c, d, e, f, g, i⟩

section
variable {X : Cx} {tg : Expr}
end
theorem pg_nameC {X : Cx} {i : Nat} {x : Str} {pos : Pos} (N : List Str) (hN : N.Nodup) (hi : N[i]? = some x) (hx : X.env.scope.names.lookup x = some .local := by rfl) (hXN : X.N = N := by rfl) : PG X (.Name x pos) (gName i) :=
  pg_name (by rw [hXN]; exact hN) (by rw [hXN]; exact hi) (.inl hx) (.inr hx)

theorem bt_all : bootBuiltins "all" = some (.builtin "all") := by decide +kernel
theorem bt_len : bootBuiltins "len" = some (.builtin "len") := by decide +kernel
theorem bt_max : bootBuiltins "max" = some (.builtin "max") := by decide +kernel
theorem bt_min : bootBuiltins "min" = some (.builtin "min") := by decide +kernel
theorem bt_isinstance : bootBuiltins "isinstance" = some (.builtin "isinstance") := by decide +kernel
theorem bt_list : bootBuiltins "list" = some (.type "list") := by decide +kernel
theorem bt_int : bootBuiltins "int" = some (.type "int") := by decide +kernel
theorem bt_bool : bootBuiltins "bool" = some (.type "bool") := by decide +kernel
theorem bt_set : bootBuiltins "set" = some (.type "set") := by decide +kernel
end L2

namespace L2
open PySem PySem.Spec PyProof.Rows
abbrev vints (ns : List Int) : List V := ns.map V.int
theorem iteD {p A B : Prop} [Decidable p] (h1 : p → A) (h2 : ¬ p → B) : if decide p = true then A else B := by
  by_cases h : p
  · rw [if_pos (decide_eq_true h)]
    exact h1 h
  · rw [if_neg (by rw [decide_eq_false h]; exact Bool.false_ne_true)]
    exact h2 h
theorem iteND {p A B : Prop} [Decidable p] (h1 : ¬ p → A) (h2 : p → B) : if (!decide p) = true then A else B := by
  by_cases h : p
  · rw [decide_eq_true h]
    exact iteF (h2 h)
  · rw [decide_eq_false h]
    exact iteT (h1 h)
theorem ints_get {ns : List Int} {i : Nat} {x : V} (h : (vints ns)[i]? = some x) : ∃ n, ns[i]? = some n ∧ x = V.int n := by
  rw [List.getElem?_map] at h
  cases e : ns[i]? with
  | none => rw [e] at h; cases h
  | some n => rw [e] at h; exact ⟨n, rfl, (Option.some.inj h).symm⟩
theorem ints_len (ns : List Int) : (vints ns).length = ns.length := List.length_map ..
theorem ints_at {ns : List Int} {k : Nat} (h : k < ns.length) : atI (vints ns) (k : Int) = some (V.int (ns[k])) := by
  refine atI_nat ?_
  rw [List.getElem?_map, List.getElem?_eq_getElem h]
  rfl
/-- a list of lists of vints, tracked -/
def Rows (H : Hp) (as : List Addr) (rs : List (List Int)) : Prop := Paired (fun (a : Addr) (r : List Int) => H a = some (.lst (vints r))) as rs
theorem Rows.same {H H' : Hp} {as : List Addr} {rs : List (List Int)} (h : Rows H as rs) (S : Same H H') : Rows H' as rs := Paired.mapP h fun a r e => S _ _ e
theorem Rows.snoc {H : Hp} {as : List Addr} {rs : List (List Int)} {a : Addr} {r : List Int} (h : Rows H as rs) (e : H a = some (.lst (vints r))) : Rows H (as ++ [a]) (rs ++ [r]) := Paired.snoc h e
theorem Rows.length {H : Hp} {as : List Addr} {rs : List (List Int)} (h : Rows H as rs) : as.length = rs.length := Paired.length h
theorem Paired.getL {α β : Type} {F : α → β → Prop} : ∀ {l₁ : List α} {l₂ : List β} {i : Nat} {a : α}, Paired F l₁ l₂ → l₁[i]? = some a → ∃ b, l₂[i]? = some b ∧ F a b
  | _, _, _, _, .nil, e => by simp at e
  | _, _, 0, _, .cons r _, e => by simp at e; subst e; exact ⟨_, rfl, r⟩
  | _, _, i + 1, a, .cons _ t, e => by
    obtain ⟨u, h1, h2⟩ := Paired.getL (i := i) (a := a) t (by simpa using e)
    exact ⟨u, by simpa using h1, h2⟩
theorem small70 {n : Nat} (h : n ≤ 70) : n < sizeLine := Nat.lt_of_le_of_lt h (by decide)
end L2
namespace L2
open PySem PySem.Spec PyProof.Rows
def CDivB (i j : Int) : Prop := 0 < j ∧ j.natAbs < 2 ^ 1000
theorem op_fdivB {X : Cx} : OpR X (binaryOp .FloorDiv) (rI CDivB fun i j => .int (i / j)) := opI fun i j _ _ _ _ _ hc q => by
  have e : i.fdiv j = i / j := Int.fdiv_eq_ediv_of_nonneg _ (Int.le_of_lt hc.1)
  refine floordiv_int (Int.ne_of_gt hc.1) (by rw [e]; exact q) (.inl (PyProof.noPylong_of_log2 ?_))
  have hx : j.natAbs ≠ 0 := by have := hc.1; omega
  exact Nat.lt_of_lt_of_le ((Nat.log2_lt hx).mpr hc.2) (by decide)
theorem at_place {xs : List Int} {z i : Nat} (hx : xs.length = z) (hi : i < z) : atI (vints xs) (0 + (i : Int)) = some (V.int (xs.getD i 0)) := by
  subst hx
  rw [Int.zero_add, ints_at hi]
  simp [List.getD_eq_getElem?_getD, List.getElem?_eq_getElem hi]
end L2
namespace L2
open PySem PySem.Spec PyProof.Rows
end L2
namespace L2
open PySem PySem.Spec PyProof.Rows
theorem vints_snoc (ns : List Int) (n : Int) : vints (ns ++ [n]) = vints ns ++ [V.int n] := by rw [vints, List.map_append]; rfl
theorem vrefs_snoc (as : List Addr) (a : Addr) : (as ++ [a]).map V.ref = as.map V.ref ++ [V.ref a] := by rw [List.map_append]; rfl
theorem Rows.lay {H : Hp} {as : List Addr} {rs : List (List Int)} {p : Addr} {o : HO} (R : Rows H as rs) (h : ∀ b ∈ as, b ≠ p) : Rows (upd H p o) as rs := by
  induction R with
  | nil => exact .nil
  | cons q _ ih => exact .cons (by rw [upd_ne (h _ List.mem_cons_self)]; exact q) (ih fun b hb => h b (List.mem_cons_of_mem _ hb))
theorem Rows.apart {H : Hp} {as : List Addr} {rs : List (List Int)} {p : Addr} (R : Rows H as rs) (h : H p = some (.lst (as.map V.ref))) : ∀ b ∈ as, b ≠ p := fun b hb z => by
  subst z
  obtain ⟨k, hk, e1⟩ := List.mem_iff_getElem.mp hb
  obtain ⟨r, _, e2⟩ := Paired.getL R (List.getElem?_eq_some_iff.mpr ⟨hk, e1⟩)
  rw [h] at e2
  have e3 : as.map V.ref = vints r := by injection (Option.some.inj e2)
  have e4 : (as.map V.ref)[k]? = (vints r)[k]? := by rw [e3]
  rw [List.getElem?_map, List.getElem?_map, List.getElem?_eq_getElem hk] at e4
  cases q : r[k]? with
  | none => rw [q] at e4; cases e4
  | some n => rw [q] at e4; cases e4
theorem Rows.mem {H : Hp} {as : List Addr} {rs : List (List Int)} {b : Addr} (R : Rows H as rs) (hb : b ∈ as) : ∃ r, r ∈ rs ∧ H b = some (.lst (vints r)) := by
  obtain ⟨k, hk, e1⟩ := List.mem_iff_getElem.mp hb
  obtain ⟨r, h1, e2⟩ := Paired.getL R (List.getElem?_eq_some_iff.mpr ⟨hk, e1⟩)
  exact ⟨r, List.mem_of_getElem? h1, e2⟩
/-- a block of statements behind which one thing holds on every way -/
theorem seq_join {t rest : TS} {D : Ends} {σ : St} {H : Hp} (I : St → Hp → Prop) (tl : ∀ σ' H', I σ' H' → rest D σ' H') (hd : ∀ N : St → Hp → Prop, (∀ σ' H', I σ' H' → N σ' H') → t { D with nx := N } σ H) : tSeq t rest D σ H := hd _ tl
theorem refs_get {as : List Addr} {i : Nat} {x : V} (h : (as.map V.ref)[i]? = some x) : ∃ b, as[i]? = some b ∧ x = V.ref b := by
  rw [List.getElem?_map] at h
  cases e : as[i]? with
  | none => rw [e] at h; cases h
  | some b => rw [e] at h; exact ⟨b, rfl, (Option.some.inj h).symm⟩
theorem strs_get {as : List Str} {i : Nat} {x : V} (h : (as.map V.str)[i]? = some x) : ∃ b, as[i]? = some b ∧ x = V.str b := by
  rw [List.getElem?_map] at h
  cases e : as[i]? with
  | none => rw [e] at h; cases h
  | some b => rw [e] at h; exact ⟨b, rfl, (Option.some.inj h).symm⟩
end L2

namespace L2
open PySem PySem.Spec PyProof.Rows PySem.SeqAt
theorem all_eq_dec {xs ys : List Int} (h : xs.length = ys.length) : (List.range xs.length).all (fun j => eqV ((vints xs).getD j .non) ((vints ys).getD j .non)) = decide (xs = ys) := by
  rw [Bool.eq_iff_iff, List.all_eq_true, decide_eq_true_eq]
  constructor
  · intro z
    refine List.ext_getElem h fun i h1 h2 => ?_
    have q := z i (List.mem_range.mpr h1)
    simp only [vints, List.getD_eq_getElem?_getD, List.getElem?_map, List.getElem?_eq_getElem h1, List.getElem?_eq_getElem h2, Option.map_some, Option.getD_some, eqV, beq_iff_eq] at q
    exact q
  · rintro rfl i hi
    have h1 := List.mem_range.mp hi
    simp only [vints, List.getD_eq_getElem?_getD, List.getElem?_map, List.getElem?_eq_getElem h1, Option.map_some, Option.getD_some, eqV, beq_self_eq_true]
section
variable {X : Cx} {pins : List (Addr × Obj)} {σ : St} {H : Hp} {s : Shared} {A : Around} {a b : Addr} {xs ys : List Int}
theorem ints_eqAt {its its2 : List Value} (rv : Vals (vints xs) its) (rw' : Vals (vints ys) its2) : ∀ j (h1 : j < its.toArray.size) (h2 : j < its2.toArray.size), EqAt A s its.toArray[j] its2.toArray[j] (eqV ((vints xs).getD j .non) ((vints ys).getD j .non)) := by
  intro j h1 h2
  have l1 := rv.length
  have l2 := rw'.length
  have k1 : j < (vints xs).length := by rw [l1]; simpa using h1
  have k2 : j < (vints ys).length := by rw [l2]; simpa using h2
  obtain ⟨u, hu, ru⟩ := rv.get (List.getElem?_eq_getElem k1)
  obtain ⟨v, hv, rv2⟩ := rw'.get (List.getElem?_eq_getElem k2)
  have e1 : its.toArray[j] = u := by
    have := (List.getElem?_eq_some_iff.mp hu).2
    simpa using this
  have e2 : its2.toArray[j] = v := by
    have := (List.getElem?_eq_some_iff.mp hv).2
    simpa using this
  rw [e1, e2]
  have f : ∀ {zs : List Int} (k : j < (vints zs).length), flatV (vints zs)[j] = true ∧ (vints zs).getD j .non = (vints zs)[j] := fun {zs} k => by
    refine ⟨?_, ?_⟩
    · simp only [vints, List.getElem_map]; rfl
    · rw [List.getD_eq_getElem?_getD, List.getElem?_eq_getElem k]; rfl
  rw [(f k1).2, (f k2).2]
  exact eqAt_V ru rv2 (f k1).1 (f k2).1
theorem rc_ints (I : Inv X pins σ H s) (hu : A.units < cLine) (qa : SqL X.K H a (vints xs)) (qb : SqL X.K H b (vints ys)) : RcAt A s (.ref a) (.ref b) (decide (xs = ys)) := by
  obtain ⟨its, rv, p, _⟩ := I.list qa
  obtain ⟨its2, rw', p2, _⟩ := I.list qb
  have l1 := rv.length
  have l2 := rw'.length
  rw [ints_len] at l1 l2
  by_cases h : xs.length = ys.length
  · have q := RcAt.lists (A := A) p.isList p2.isList (by simp; omega) hu (ints_eqAt rv rw')
    have e : its.toArray.size = xs.length := by simp; omega
    rw [e, all_eq_dec h] at q
    exact q
  · have e : decide (xs = ys) = false := decide_eq_false fun z => h (by rw [z])
    rw [e]
    exact RcAt.lists_lengths p.isList p2.isList (by simp; omega) hu
inductive rEqL (K : PySem.W.Frag) (x : V) (y : V) (H : Hp) (Q : VK) : Prop
  | mk : ∀ a b xs ys, (x = .ref a) → (y = .ref b) → (SqL K H a (vints xs)) → (SqL K H b (vints ys)) → (Q (.bl (decide (xs = ys))) H) → rEqL K x y H Q
theorem op_eqL (hu : X.A.units < cLine) : OpR X (compareOp .Eq) (rEqL X.K) := by
  intro pins s σ H x y v u Q I rx ry h
  obtain ⟨a, b, xs, ys, rfl, rfl, qa, qb, q⟩ := h
  cases rx
  cases ry
  exact rc_ints I hu qa qb _ _ _ _ ⟨.bl _, H, I, rfl, q⟩
end
end L2

namespace L2
open PySem PySem.Spec PyProof.Rows
section
variable {R : List Int → List Int → Bool} {all : List (List Int)}
end
end L2
namespace L2
open PySem PySem.Spec PyProof.Rows
section
variable {X : Cx} {CX : CXT} {k i : Nat} {f : Addr} {fd : FuncData} {ps : List Str} {sp : Sp} {dvs : List V} {ds : List Value} {E : XK} {x : Str} {p pos : Pos} {e : Expr} {es : List Expr} {t : TA}
end
end L2

namespace L2
open PySem PySem.Spec PyProof.Rows

def put1 {κ : Type} [DecidableEq κ] (acc : List κ) (x : κ) : List κ := if x ∈ acc then acc else acc ++ [x]
def metK {κ : Type} [DecidableEq κ] (val : Nat → κ) : Nat → List κ
  | 0 => []
  | i + 1 => put1 (metK val i) (val i)
theorem metK_le {κ : Type} [DecidableEq κ] (val : Nat → κ) : ∀ i, (metK val i).length ≤ i
  | 0 => Nat.le_refl _
  | i + 1 => by
    have ih := metK_le val i
    unfold metK put1
    split
    · omega
    · rw [List.length_append, List.length_singleton]; omega
theorem metK_mem {κ : Type} [DecidableEq κ] (val : Nat → κ) : ∀ (i : Nat) (x : κ), x ∈ metK val i ↔ ∃ j, j < i ∧ val j = x
  | 0, x => ⟨fun h => (by cases h), fun ⟨j, h, _⟩ => absurd h (Nat.not_lt_zero _)⟩
  | i + 1, x => by
    have ih := metK_mem val i
    have e : x ∈ metK val (i + 1) ↔ x ∈ metK val i ∨ x = val i := by
      show x ∈ put1 (metK val i) (val i) ↔ _
      unfold put1
      split
      · rename_i h
        exact ⟨.inl, fun q => q.elim id fun z => z ▸ h⟩
      · rw [List.mem_append, List.mem_singleton]
    rw [e, ih x]
    constructor
    · rintro (⟨j, h, e⟩ | e)
      · exact ⟨j, by omega, e⟩
      · exact ⟨i, by omega, e.symm⟩
    · rintro ⟨j, h, e'⟩
      rcases Nat.lt_succ_iff_lt_or_eq.mp h with q | q
      · exact .inl ⟨j, q, e'⟩
      · subst q; exact .inr e'.symm
/-- as many as there are, where no two are alike -/
theorem metK_all {κ : Type} [DecidableEq κ] (val : Nat → κ) : ∀ n, (∀ i j, i < n → j < n → val i = val j → i = j) → (metK val n).length = n
  | 0, _ => rfl
  | n + 1, h => by
    have ih := metK_all val n fun i j hi hj e => h i j (by omega) (by omega) e
    have nm : val n ∉ metK val n := fun q => by
      obtain ⟨j, hj, e⟩ := (metK_mem val n _).mp q
      have := h j n (by omega) (by omega) e
      omega
    show (put1 (metK val n) (val n)).length = n + 1
    unfold put1
    rw [if_neg nm, List.length_append, ih]
    rfl
abbrev setO (led : Bool) : Obj := { cls := .type "set", dict := none, data := .set #[] 0 (.fresh 0 0 led) }
section
variable {prog : Program} {w : World} {A : Around} {R : Result → Shared → Prop} {I : Addr} {fp wr : List Addr} {G : Array GenState → Array GenState → Prop} {n : Nat} {P : Nat → Value → Prop} {St : Nat → Shared → Prop}
variable {κ : Type} [DecidableEq κ] {knd : PySem.KeyKind prog w κ}
theorem setOf_as {h : Heap} {a : Addr} {S S' : κ → Bool} {n n' : Nat} (hS : h.SetOf knd a S n) (e : ∀ k, S k = S' k) (en : n = n') : h.SetOf knd a S' n' := by
  have q : S = S' := funext e
  rw [← q, ← en]
  exact hS
theorem set_loop (W : WalksS prog w A.in1 I fp wr G n P St) (S : Addr) (hSf : S ∉ fp) (val : Nat → κ) (hval : ∀ i v, P i v → knd.is (val i) v = true ∧ v.scannable = true) (hb : n + 1 < scanBound) :
    ∀ (k i : Nat) (s : Shared), n - i = k → i ≤ n → St i s → s.heap.SetOf knd S (fun x => decide (x ∈ metK val i)) (metK val i).length →
      (∀ s', Moved (S :: wr) G s s' → s'.heap.SetOf knd S (fun x => decide (x ∈ metK val n)) (metK val n).length → R (.ok (.ret .none)) s') →
      codeAny (model prog w) A (.builtin "set.update.loop" ⟨[.ref S, .ref I], []⟩) R s := by
  have nw : S ∉ wr := fun z => hSf (W.sub _ z)
  have sub : ∀ b ∈ wr, b ∈ S :: wr := fun b z => List.mem_cons_of_mem _ z
  intro k
  induction k with
  | zero =>
    intro i s hk hi st hS fin
    obtain rfl : i = n := by omega
    refine codeAny_builtin PyProof.Rows.F.entry_set_update_loop ?_
    rw [Around.under_plainId PyProof.Rows.F.plain_set_update_loop _]
    show wpAny _ A.in1 (pyNext (.ref I) >>= _) _ _ s
    refine wpAny_bind (W.done s _ _ st fun s' mv => ?_)
    show wpAny _ A.in1 (ret Value.none) _ _ s'
    obtain ⟨o, es, ep, t, ho, more⟩ := hS
    exact wpAny_pure (fin s' (mv.mono sub) ⟨o, es, ep, t, mv.heap S _ nw ho, more⟩)
  | succ k ih =>
    intro i s hk hi st hS fin
    have lt : i < n := by omega
    refine codeAny_builtin PyProof.Rows.F.entry_set_update_loop ?_
    rw [Around.under_plainId PyProof.Rows.F.plain_set_update_loop _]
    show wpAny _ A.in1 (pyNext (.ref I) >>= _) _ _ s
    refine wpAny_bind (W.item i s _ _ lt st fun v s' pv st' mv => ?_)
    obtain ⟨kv, sv⟩ := hval i v pv
    have hS1 : s'.heap.SetOf knd S (fun x => decide (x ∈ metK val i)) (metK val i).length := by
      obtain ⟨o, es, ep, tb, ho, more⟩ := hS
      exact ⟨o, es, ep, tb, mv.heap S _ nw ho, more⟩
    show wpAny _ A.in1 (holding [v] (setAdd S v) >>= _) _ _ s'
    refine wpAny_bind (wpAny_holding ?_)
    unfold setAdd
    refine wpAny_holding (wpAny_bind (knd.pyHash (k := val i) kv ?_))
    have room : (metK val i).length + 1 < scanBound := by have := metK_le val i; omega
    refine wpAny_setAddHashed_of (knd := knd) (s := { s' with toks := s'.toks + 1 }) kv sv hS1 room fun h' sb hS2 => ?_
    have hS3 : h'.SetOf knd S (fun x => decide (x ∈ metK val (i + 1))) (metK val (i + 1)).length := by
      refine setOf_as hS2 (fun x => ?_) ?_
      · show (decide (x ∈ metK val i) || decide (x = val i)) = decide (x ∈ put1 (metK val i) (val i))
        unfold put1
        split
        · rename_i hm
          by_cases e : x = val i
          · subst e; simp [hm]
          · simp [e]
        · simp
      · show (if decide (val i ∈ metK val i) = true then _ else _) = (put1 (metK val i) (val i)).length
        unfold put1
        by_cases hm : val i ∈ metK val i
        · rw [if_pos hm, if_pos (decide_eq_true hm)]
        · rw [if_neg hm, if_neg (by simp [hm]), List.length_append]; rfl
    refine wpAny_pure ⟨plainId_quiet PyProof.Rows.F.plain_set_update_loop _, ih (i + 1) _ (by omega) lt (W.frame _ s' _ _ st' (Nat.le_succ _) fun b hb o e => ?_) hS3 fun s2 mv2 hS4 => ?_⟩
    · rw [sb.2 b (fun z : b = S => hSf (z ▸ hb))]; exact e
    · refine fin s2 (Moved.trans W.gtrans ((mv.mono sub).then_heap (Nat.le_succ _) fun b o hb e => ?_) mv2) hS4
      rw [sb.2 b (fun z : b = S => hb (z ▸ List.mem_cons_self))]; exact e
end
section
variable {prog : Program} {w : World} {A : Around} {E : Value → Shared → Prop} {s : Shared} {κ : Type} [DecidableEq κ] {knd : PySem.KeyKind prog w κ}
set_option maxHeartbeats 3200000 in
theorem set_from {l : Addr} {items : Array Value} {val : Nat → κ} {Q : Value → Shared → Prop} (hh : A.handled = none) (hl : s.heap.IsList l items) (hval : ∀ i v, items[i]? = some v → knd.is (val i) v = true ∧ v.scannable = true) (hb : items.size + 1 < scanBound)
    (h : ∀ (h' : Heap) (tk : Nat), h'.SetOf knd s.heap.objs.size (fun x => decide (x ∈ metK val items.size)) (metK val items.size).length → (∀ b o, b < s.heap.objs.size → s.heap.get? b = some o → h'.get? b = some o) →
      Q (.ref s.heap.objs.size) { s with heap := h', toks := tk }) : wpAny (model prog w) A (call (.type "set") [.ref l]) Q E s := by
  obtain ⟨c, tl, hmro⟩ := PySem.F.called_set.mro
  have hmade := PySem.F.called_set.made
  have hsub := PySem.F.called_set.sub
  refine wpAny_call (codeAny_of_tree ?_)
  show wpAny _ _ (callAny (.type "set") _) _ _ _
  refine wpAny_pure ⟨Code.quiet_builtin _ (by decide +kernel), codeAny_builtin PySem.F.entry_type_call ?_⟩
  rw [Around.under_plain (weight_type_call_type "set" [.ref l] []) rfl]
  have g1 := PySem.F.called_set.notType
  have g2 := PySem.F.called_set.canCreate
  have g3 := PySem.F.typeCall_set_1 (.ref l)
  repeat (any_goals (first | assumption | wp_step))
  refine codeAny_mono (code_set_new_1 (.ref l) (E := E) (Q₁ := fun obj s₁ => ∃ led : Bool, obj = .ref s.heap.objs.size ∧ s₁ = { s with heap := s.heap.push (setO led) }) fun led => ⟨led, rfl, rfl⟩) fun r s₁ hr => ?_
  cases r with
  | error e => exact hr
  | ok fl =>
    cases fl with
    | ret obj =>
      obtain ⟨led, rfl, rfl⟩ := hr
      have at0 : (s.heap.push (setO led)).get? s.heap.objs.size = some (setO led) := Heap.get?_push_size _ rfl
      have hT : Shared.TypeIs { s with heap := s.heap.push (setO led) } (.ref s.heap.objs.size) "set" := ⟨_, at0, rfl⟩
      have g4 := PySem.F.called_set.init.lookup
      have g5 := PySem.F.called_set.init.bind (.ref s.heap.objs.size)
      repeat (any_goals (first | assumption | wp_step))
      refine codeAny_mono (codeAny_call_builtin (R := wants (fun r s₂ => r = .none ∧ ∃ h' tk, s₂ = { s with heap := h', toks := tk } ∧ h'.SetOf knd s.heap.objs.size (fun x => decide (x ∈ metK val items.size)) (metK val items.size).length ∧
          (∀ b o, b < s.heap.objs.size → s.heap.get? b = some o → h'.get? b = some o)) E) PySem.F.called_set.init.plain PySem.F.entry_set_init (check_set_init_1 hT ?_)) fun r₂ s₂ hr₂ => ?_
      · obtain ⟨⟨ocls, odict, odata, oslots⟩, hol, hcl, nl, hdl⟩ := hl
        simp only at hcl hdl
        subst hcl; subst hdl
        have hol' : (s.heap.push (setO led)).get? l = some { cls := .type "list", dict := odict, data := .seq items nl, slots := oslots } := Heap.get?_push_of_some _ hol
        have k1 := PySem.F.sub_list_set
        have k2 := PySem.F.sub_list_frozenset
        have k3 : (Value.type "list" == Value.type "dict") = false := by decide
        have hl1 : (s.heap.push (setO led)).IsList l items := ⟨_, hol', rfl, nl, rfl⟩
        unfold Builtin.«set.__init__» noKeywords Builtin.Frozenset.updateFrom
        generalize hPI : pyIter = PI
        wp_walk
        subst hPI
        refine wpAny_pyIter_list hl1 (wpAny_bind (wpAny_runValue ?_))
        have ll : l < s.heap.objs.size := Heap.lt_size hol
        have h3 : A.in1.in1.in1.handled = none := by simp [hh]
        have nI : l ≠ (s.heap.push (setO led)).objs.size := by
          rw [Heap.size_push]
          exact Nat.ne_of_lt (Nat.lt_succ_of_lt ll)
        have nS : s.heap.objs.size ∉ [(s.heap.push (setO led)).objs.size, l] := by
          rw [Heap.size_push, List.mem_cons, List.mem_singleton, not_or]
          exact ⟨Nat.ne_of_lt (Nat.lt_succ_self _), Nat.ne_of_gt ll⟩
        refine set_loop (knd := knd) ((Walks.list h3 _ l nI items).toS) s.heap.objs.size nS val hval hb (items.size - 0) 0 _ (by omega) (Nat.zero_le _) ⟨⟨_, Heap.get?_push_size _ rfl, rfl, rfl⟩, (hl1.push _)⟩ ?hS0 ?hR
        case hS0 =>
          have at1 : ((s.heap.push (setO led)).push { cls := .type "list_iterator", data := .fields #[.ref l, .int 0 0] }).get? s.heap.objs.size = some (setO led) := Heap.get?_push_of_some _ at0
          exact setOf_as ((PyProof.Rows.setObjOf_fresh (knd := knd) led).setOf at1 (by unfold scanBound; omega)) (fun _ => by simp [metK]) rfl
        case hR =>
          intro s' mv hS'
          obtain ⟨h', g', d', tk', os'⟩ := s'
          obtain rfl : g' = s.gens := mv.gens
          obtain rfl : d' = s.drawn := mv.drawn
          obtain rfl : os' = s.os := mv.os
          show wpAny _ _ _ _ _ _
          refine wpAny_pure ?_
          show wpAny _ _ (ret Value.none) _ _ _
          refine wpAny_pure ⟨rfl, h', tk', rfl, hS', fun b o hb e => mv.heap b o ?_ (Heap.get?_push_of_some _ (Heap.get?_push_of_some _ e))⟩
          rw [List.mem_cons, List.mem_singleton, Heap.size_push, not_or]
          exact ⟨Nat.ne_of_lt hb, Nat.ne_of_lt (Nat.lt_succ_of_lt hb)⟩
      · cases r₂ with
        | error e => exact hr₂
        | ok fl₂ =>
          cases fl₂ with
          | ret r =>
            obtain ⟨rfl, h', tk, rfl, hS', hk'⟩ := hr₂
            repeat (any_goals (first | assumption | wp_step))
            exact h _ _ hS' hk'
          | _ => exact hr₂.elim
    | _ => exact hr.elim
end
end L2

namespace L2
open PySem PySem.Spec PyProof.Rows
def setHO (P : Program) (w : World) (p : Addr) (n : Nat) : HO := .ext fun h => ∃ S, h.SetOf (strKind P w) p S n
def metS (ys : List Str) : Nat := (metK (fun i => ys.getD i Str.empty) ys.length).length
theorem metS_all {ys : List Str} (h : ys.Nodup) : metS ys = ys.length := by
  refine metK_all _ _ fun i j hi hj e => ?_
  simp only [List.getD_eq_getElem?_getD, List.getElem?_eq_getElem hi, List.getElem?_eq_getElem hj, Option.getD_some] at e
  exact (List.getElem_inj h).mp e
section
variable {X : Cx}
theorem call_set_strs (hc : X.calm = true) : CallR X (.type "set") (fun xs H Q => ∃ (a : Addr) (ys : List Str), xs = [.ref a] ∧ SqL X.K H a (ys.map V.str) ∧ ys.length ≤ 70 ∧ ∀ p, H p = none → Q (.ref p) (upd H p (setHO X.prog X.w p (metS ys)))) := by
  intro pins s σ H xs us Q I r h
  obtain ⟨a, ys, e, hq, hl, q⟩ := h
  subst e
  obtain ⟨u, rfl, r1⟩ := vals1 r
  obtain rfl : u = Value.ref a := r1
  obtain ⟨its, rv, p, hz⟩ := I.list hq
  have len := rv.length
  rw [List.length_map] at len
  refine set_from (knd := strKind X.prog X.w) (val := fun i => ys.getD i Str.empty) (I.ok.hd hc) p.isList (fun i v hv => ?_) (by rw [List.size_toArray, ← len]; unfold scanBound; omega) fun h' tk hS hk => ?_
  · have hv' : its[i]? = some v := by simpa using hv
    have hi : i < ys.length := by rw [len]; exact (List.getElem?_eq_some_iff.mp hv').1
    have hx : (ys.map V.str)[i]? = some (V.str (ys.getD i Str.empty)) := by
      rw [List.getElem?_map, List.getElem?_eq_getElem hi]
      simp [List.getD_eq_getElem?_getD, List.getElem?_eq_getElem hi]
    obtain ⟨u, hu, ru⟩ := rv.get hx
    rw [hv'] at hu
    cases hu
    obtain ⟨t, rfl⟩ := ru
    exact ⟨keyIs_str _ t, rfl⟩
  · have es : its.toArray.size = ys.length := by rw [List.size_toArray, len]
    rw [es] at hS
    have I1 : Inv X pins σ H { s with heap := h', toks := tk } := I.kept fun b o e => hk b o (Heap.lt_size e) e
    have I2 := I1.track (o := setHO X.prog X.w s.heap.objs.size (metS ys)) (I.fpOk (Nat.le_refl _) (I.hok.fresh (Nat.le_refl _))) ⟨⟨_, hS⟩, (by obtain ⟨o, _, _, _, ho, _⟩ := hS; exact ⟨o, ho⟩), fun h1 h2 ⟨S, hS1⟩ k => (by
      obtain ⟨o, es, ep, t, ho, more⟩ := hS1
      exact ⟨S, o, es, ep, t, k o ho, more⟩)⟩
    exact ⟨.ref s.heap.objs.size, _, I2, rfl, q _ (I.hok.fresh (Nat.le_refl _))⟩
theorem call_len_setS : CallR X (.builtin "len") (fun xs H Q => ∃ (p : Addr) (n : Nat), xs = [.ref p] ∧ H p = some (setHO X.prog X.w p n) ∧ Q (.int n) H) := by
  intro pins s σ H xs us Q I r h
  obtain ⟨p, n, e, hp, q⟩ := h
  subst e
  obtain ⟨u, rfl, r1⟩ := vals1 r
  obtain rfl : u = Value.ref p := r1
  obtain ⟨⟨S, o, es, ep, t, ho, hex, hd, _, _, hb, hf, hn⟩, _⟩ := I.hok p _ hp
  have hb' : (es.size : Int) < 2 ^ 63 := by unfold scanBound at hb; omega
  refine call_len_set ho hex hd hf hb' ?_
  rw [hn]
  exact ⟨.int n, H, I.tok _, ⟨_, rfl⟩, q⟩

def Itx (x : Str) : It := ⟨fun i _ => i < x.cps.size, fun i H v H' => H' = H ∧ ∃ c, x.cps[i]? = some c ∧ v = .str ⟨#[c]⟩, fun i _ => x.cps.size ≤ i⟩
theorem turn_str {P : Program} {w : World} {K : PySem.W.Frag} {tg : Expr} (it : Addr) (x : Str) (t : Tok) : Turn P w K tg (Itx x) [it] it (fun i h => i ≤ x.cps.size ∧ h.IsStrIter it "str_ascii_iterator" x t i) where
  mem := by simp
  obj := fun i h st b hb => by
    have e : b = it := by simpa using hb
    subst e
    obtain ⟨_, o, e, c, d⟩ := st
    exact ⟨o, e, fun v z => by rw [d] at z; cases z⟩
  keep := fun i h h' st k => let ⟨l, o, e, r⟩ := st; ⟨l, o, k it (by simp) o e, r⟩
  item := by
    intro X hP hw hK hc i pins s σ H E I hf st hg
    subst hP hw hK
    obtain ⟨f0, f1, f2, f3, f4, f5⟩ := hf it (by simp)
    have hi : i < x.cps.size := hg
    refine (Walks.strAscii (prog := X.prog) (w := X.w) (I.ok.hd hc) it x t).item i s _ _ hi st.2 fun v h' tk hv st' kk => ?_
    obtain ⟨c, u, hcx, rfl⟩ := hv
    have I1 : Inv X pins σ H { s with heap := h', toks := tk } := I.turned (fun b o hb e => kk b o (by simpa using hb) e) f0 f1 f3 f4 f5
    obtain ⟨o, e, c', d⟩ := id st'
    exact ⟨_, rfl, go_of (s := { s with heap := h', toks := tk }) e c' d (by decide) ⟨.str ⟨#[c]⟩, H, I1, ⟨_, rfl⟩, ⟨rfl, c, hcx, rfl⟩, ⟨hi, st'⟩, fun b hb => (hf b hb).1⟩⟩
  done := by
    intro X hP hw hK hc i pins s σ H E I hf st hg
    subst hP hw hK
    obtain ⟨f0, f1, f2, f3, f4, f5⟩ := hf it (by simp)
    have hi : x.cps.size ≤ i := hg
    obtain ⟨hle, st⟩ := st
    have e : i = x.cps.size := by omega
    subst e
    exact (Walks.strAscii (prog := X.prog) (w := X.w) (I.ok.hd hc) it x t).done s _ _ st fun h' tk kk => ⟨rfl, I.turned (fun b o hb e => kk b o (by simpa using hb) e) f0 f1 f3 f4 f5⟩
  self := fun _ _ _ _ _ st h => wpAny_pyIter_striter_ascii st.2 h
def iStr (tl : TE) : TI := fun σ H R => tl σ H fun v H1 => ∃ x : Str, v = .str x ∧ x.cps.all (· < 128) = true ∧ R (Itx x) H1
theorem pi_str {tg l : Expr} {tl : TE} (hl : PE X l tl) : PI X tg l (iStr tl) := by
  intro pins s σ H R I h
  refine thn (hl pins s σ H _ I h) fun v s1 ⟨y, H1, I1, r1, q1⟩ => ?_
  obtain ⟨x, e, ha, q⟩ := q1
  subst e
  obtain ⟨t, rfl⟩ := r1
  refine wpAny_pyIter_ascii ha ?_
  refine ⟨s1.heap.objs.size, [s1.heap.objs.size], _, _, H1, rfl, I1.kept (t' := s1.toks) fun b o e => Heap.get?_push_of_some _ e, turn_str _ x t, ⟨Nat.zero_le _, _, Heap.get?_push_size _ rfl, rfl, rfl⟩, fun b hb => ?_, q⟩
  have e : b = s1.heap.objs.size := by simpa using hb
  subst e
  exact I1.fpOk (Nat.le_refl _) (I1.hok.fresh (Nat.le_refl _))
theorem comp_strP {g : Blk → TG} {tt : Blk → TT} {te : Blk → TE} {Z : List V → Hp → Prop} {σ0 : St} {H1 : Hp} {x : Str} (Pv : Nat → List V → St → Hp → Prop) (h0 : Pv 0 [] σ0 H1) (hl : ∀ i ys σ H, i ≤ x.cps.size → Pv i ys σ H → ys.length < sizeLine)
    (hs : ∀ B i c ys σ H, x.cps[i]? = some c → Pv i ys σ H → g B (.str ⟨#[c]⟩) σ H fun σ2 H3 => tt B σ2 H3 fun b H4 => if b = true then te B σ2 H4 fun y H5 => Pv (i + 1) (ys ++ [y]) σ2 H5 else Pv (i + 1) ys σ2 H4)
    (hd : ∀ ys σ H, Pv x.cps.size ys σ H → Z ys H) : ∃ W : Nat → Nat → List V → St → Hp → Prop, (∃ m, W 0 m [] σ0 H1) ∧ ∀ B, CompW (Itx x) (g B) (tt B) (te B) W Z := by
  refine ⟨fun i m ys σ H => m = x.cps.size - i ∧ i ≤ x.cps.size ∧ Pv i ys σ H, ⟨x.cps.size, by simp, Nat.zero_le _, h0⟩, ?_⟩
  rintro B i m ys σ H ⟨rfl, hi, p⟩
  by_cases hlt : i < x.cps.size
  · refine .inr ⟨hlt, hl i ys σ H hi p, Pv (i + 1), fun zs σ' H' p' => ⟨x.cps.size - (i + 1), by omega, rfl, hlt, p'⟩, fun v H' y => ?_⟩
    obtain ⟨e, c, hc, e2⟩ := y
    subst e e2
    exact hs B i c ys σ _ hc p
  · have e : i = x.cps.size := by omega
    subst e
    exact .inl ⟨Nat.le_refl _, hd ys σ H p⟩
theorem op_le_str : OpR X (compareOp .LtE) (fun x y H Q => ∃ i j, x = .str i ∧ y = .str j ∧ Q (.bl (!decide (j.cps.toList < i.cps.toList))) H) := by
  intro pins s σ H x y v u Q I rx ry h
  obtain ⟨i, j, rfl, rfl, q⟩ := h
  obtain ⟨t, rfl⟩ := rx
  obtain ⟨t', rfl⟩ := ry
  exact PySem.P.le_str ⟨.bl _, H, I, rfl, q⟩
end
def okSign (c : Nat) : Bool := decide (97 ≤ c) && decide (c ≤ 122)
def okName (x : Str) : Bool := decide (1 ≤ x.length) && decide (x.length ≤ 8) && x.cps.toList.all okSign
theorem le_one {c d : Nat} : (!decide (([d] : List Nat) < [c])) = decide (c ≤ d) := by
  have e : ([d] < [c]) ↔ d < c := by
    constructor
    · intro h
      cases h with
      | cons h => cases h
      | rel h => exact h
    · exact fun h => .rel h
  rw [Bool.eq_iff_iff, Bool.not_eq_true', decide_eq_false_iff_not, decide_eq_true_eq, e]
  omega
theorem okName_ascii {x : Str} (h : okName x = true) : x.cps.all (· < 128) = true := by
  unfold okName at h
  rw [Bool.and_eq_true] at h
  rw [← Array.all_toList, List.all_eq_true]
  intro c hc
  have := List.all_eq_true.mp h.2 c hc
  unfold okSign at this
  rw [Bool.and_eq_true, decide_eq_true_eq, decide_eq_true_eq] at this
  exact decide_eq_true (by omega)
end L2
namespace L2
open PySem PySem.Spec PyProof.Rows
structure NetV where
  bowls : List Str
  doors : List Str
  takes : List (List Int)
  gives : List (List Int)
  first : List Int
def okBag (n : Nat) (r : List Int) : Prop := r.length = n ∧ ∀ x ∈ r, 0 ≤ x ∧ x ≤ 1000000000
structure NetV.Ok (N : NetV) : Prop where
  b1 : 1 ≤ N.bowls.length
  b6 : N.bowls.length ≤ 6
  d8 : N.doors.length ≤ 8
  bn : ∀ y ∈ N.bowls, okName y = true
  dn : ∀ y ∈ N.doors, okName y = true
  bd : N.bowls.Nodup
  dd : N.doors.Nodup
  tl : N.takes.length = N.doors.length
  gl : N.gives.length = N.doors.length
  tk : ∀ r ∈ N.takes, okBag N.bowls.length r
  gv : ∀ r ∈ N.gives, okBag N.bowls.length r
  fs : okBag N.bowls.length N.first
abbrev nf1 (b : V) : List (Str × V) := [("bowls", b)]
abbrev nf2 (b d : V) : List (Str × V) := [("bowls", b), ("doors", d)]
abbrev nf3 (b d t : V) : List (Str × V) := [("bowls", b), ("doors", d), ("takes", t)]
abbrev nf4 (b d t g : V) : List (Str × V) := [("bowls", b), ("doors", d), ("takes", t), ("gives", g)]
abbrev nf5 (b d t g f : V) : List (Str × V) := [("bowls", b), ("doors", d), ("takes", t), ("gives", g), ("first", f)]
abbrev netF (b d t g f : Addr) : List (Str × V) := nf5 (.ref b) (.ref d) (.ref t) (.ref g) (.ref f)
abbrev vstrs (ys : List Str) : List V := ys.map V.str
structure NetIn (C : Addr) (H : Hp) (x dx b d t g f : Addr) (ts gs : List Addr) (N : NetV) : Prop where
  ob : H x = some (.ins C dx (netF b d t g f))
  hb : H b = some (.lst (vstrs N.bowls))
  hd : H d = some (.lst (vstrs N.doors))
  ht : H t = some (.lst (ts.map V.ref))
  tr : Rows H ts N.takes
  hg : H g = some (.lst (gs.map V.ref))
  gr : Rows H gs N.gives
  hf : H f = some (.lst (vints N.first))
theorem NetIn.same {C : Addr} {H H' : Hp} {x dx b d t g f : Addr} {ts gs : List Addr} {N : NetV} (n : NetIn C H x dx b d t g f ts gs N) (S : Same H H') : NetIn C H' x dx b d t g f ts gs N :=
  ⟨S _ _ n.ob, S _ _ n.hb, S _ _ n.hd, S _ _ n.ht, n.tr.same S, S _ _ n.hg, n.gr.same S, S _ _ n.hf⟩
/-- copies of the rows of a list of lists: [list(bag) for bag in rows] -/
theorem comp_copies {K : PySem.W.Frag} {K' : Blk → PySem.W.Frag} {Z : List V → Hp → Prop} {H1 : Hp} {a : Addr} {as : List Addr} {rs : List (List Int)} {τ : St} (hK : ∀ B, K' B = K) (ha : SqL K H1 a (as.map V.ref)) (R : Rows H1 as rs) (hn : rs.length ≤ 64)
    (hd : ∀ H2 bs, Same H1 H2 → Rows H2 bs rs → (∀ b ∈ bs, H1 b = none) → Z (bs.map V.ref) H2) :
    ∃ W : Nat → Nat → List V → St → Hp → Prop, (∃ m, W 0 m [] (none :: τ) H1) ∧ ∀ B : Blk, CompW (Itl K a) (gName 0) tTrue (tCB (rLstOf (K' B)) (tCons (tVar 0) tNil)) W Z := by
  have hal := R.length
  refine comp_listP (g := fun _ => gName 0) (tt := fun _ => tTrue) (K := K) (a := a) (xs := as.map V.ref) (fun i zs σ H4 => ∃ (o : Option V) (bs : List Addr), σ = o :: τ ∧ Same H1 H4 ∧ zs = bs.map V.ref ∧ Rows H4 bs (rs.take i) ∧ bs.length = i ∧ ∀ b ∈ bs, H1 b = none) ⟨none, [], rfl, Same.refl _, rfl, .nil, rfl, (fun b hb => by cases hb)⟩ ?_ ?_ ?_
  · rintro i zs σ H4 hi ⟨o, bs, rfl, S, rfl, RB, e, _⟩
    rw [List.length_map] at hi
    refine ⟨S.seq ha, ?_⟩
    rw [List.length_map]
    exact small70 (by omega)
  · rintro B i x zs σ H4 hx ⟨o, bs, rfl, S, rfl, RB, e, fr⟩
    obtain ⟨b, hb1, rfl⟩ := refs_get hx
    obtain ⟨r, hr1, hb⟩ := Paired.getL R hb1
    try dsimp only [gName, tTrue]
    rw [if_pos rfl]
    refine ⟨_, rfl, b, _, rfl, .inl (by rw [hK]; exact SqL.of (S _ _ hb)), fun q nq => ⟨_, bs ++ [q], rfl, S.upd nq, (vrefs_snoc _ _).symm, ?_, (by rw [List.length_append, e]; rfl), fun c hc => ?_⟩⟩
    · rw [List.take_add_one, hr1, Option.toList_some]
      exact (RB.same ((Same.refl H4).upd nq)).snoc upd_same
    · rcases List.mem_append.mp hc with z | z
      · exact fr c z
      · rw [List.mem_singleton.mp z]; exact S.free nq
  · rintro zs σ H4 ⟨o, bs, rfl, S, rfl, RB, e, fr⟩
    rw [List.length_map, hal, List.take_length] at RB
    exact hd H4 bs S RB fr
theorem all_map_sign (x : Str) : (x.cps.toList.map okSign).all id = x.cps.toList.all okSign := by
  rw [List.all_map]
  rfl
end L2
namespace L2
open PySem PySem.Spec PyProof.Rows
section
variable {b d t g f : V}
theorem put_n2 : putF "doors" d (nf1 b) = nf2 b d := by
  show (if (("bowls" : Str) = "doors") then _ else (("bowls" : Str), b) :: putF "doors" d []) = _
  rw [if_neg (by decide +kernel)]
  rfl
theorem put_n3 : putF "takes" t (nf2 b d) = nf3 b d t := by
  show (if (("bowls" : Str) = "takes") then _ else (("bowls" : Str), b) :: (if (("doors" : Str) = "takes") then _ else (("doors" : Str), d) :: putF "takes" t [])) = _
  rw [if_neg (by decide +kernel), if_neg (by decide +kernel)]
  rfl
theorem put_n4 : putF "gives" g (nf3 b d t) = nf4 b d t g := by
  show (if (("bowls" : Str) = "gives") then _ else (("bowls" : Str), b) :: (if (("doors" : Str) = "gives") then _ else (("doors" : Str), d) :: (if (("takes" : Str) = "gives") then _ else (("takes" : Str), t) :: putF "gives" g []))) = _
  rw [if_neg (by decide +kernel), if_neg (by decide +kernel), if_neg (by decide +kernel)]
  rfl
theorem put_n5 : putF "first" f (nf4 b d t g) = nf5 b d t g f := by
  show (if (("bowls" : Str) = "first") then _ else (("bowls" : Str), b) :: (if (("doors" : Str) = "first") then _ else (("doors" : Str), d) :: (if (("takes" : Str) = "first") then _ else (("takes" : Str), t) :: (if (("gives" : Str) = "first") then _ else (("gives" : Str), g) :: putF "first" f [])))) = _
  rw [if_neg (by decide +kernel), if_neg (by decide +kernel), if_neg (by decide +kernel), if_neg (by decide +kernel)]
  rfl
end
/-- all that was tracked is as it was, but for the object at x -/
def But (x : Addr) (H H' : Hp) : Prop := ∀ c u, H c = some u → c ≠ x → H' c = some u
theorem But.trans {x : Addr} {H H1 H2 : Hp} (a : But x H H1) (b : But x H1 H2) : But x H H2 := fun c u e n => b c u (a c u e n) n
theorem Same.but {x : Addr} {H H' : Hp} (S : Same H H') : But x H H' := fun c u e _ => S c u e
theorem But.step {x q : Addr} {H : Hp} {o o' : HO} (hq : H q = none) : But x H (upd (upd H q o) x o') := fun c u e n => by
  rw [upd_ne n, upd_ne (ne_of_none e hq)]
  exact e
theorem But.seq {K : PySem.W.Frag} {x : Addr} {C dx : Addr} {fs : List (Str × V)} {H H' : Hp} {c : Addr} {zs : List V} (k : But x H H') (hx : H x = some (.ins C dx fs)) (h : SqL K H c zs) : SqL K H' c zs := by
  rcases h with (h | ⟨o, h⟩) | h
  · exact .inl (.inl (k _ _ h (ne_of h hx (by intro z; cases z))))
  · exact .inl (.inr ⟨o, k _ _ h (ne_of h hx (by intro z; cases z))⟩)
  · exact .inr h
theorem But.rows {x : Addr} {C dx : Addr} {fs : List (Str × V)} {H H' : Hp} {as : List Addr} {rs : List (List Int)} (k : But x H H') (hx : H x = some (.ins C dx fs)) (R : Rows H as rs) : Rows H' as rs :=
  Paired.mapP R fun a r e => k _ _ e (ne_of e hx (by intro z; cases z))
theorem But.free {x : Addr} {C dx : Addr} {fs : List (Str × V)} {H H' : Hp} {q : Addr} {o : HO} (k : But x H H') (hx : H' x = some o) (hq : H' q = none) : H q = none := by
  cases e : H q with
  | none => rfl
  | some u =>
    have n : q ≠ x := Ne.symm (ne_of_none hx hq)
    rw [k q u e n] at hq
    cases hq
end L2

namespace L2
open PySem PySem.Spec PyProof.Rows PySem.Builtin.Str

section
variable {X : Cx}
end

end L2
namespace L2
open PySem PySem.Spec PyProof.Rows
end L2

namespace L2
open PySem PySem.Spec PyProof.Rows
structure InsOk (K : PySem.W.Frag) (C : Addr) : Prop where
  ha : PySem.W.findIn K (.ref C) "__class__" = some (some (.builtin "object.__class__"))
  hn : PySem.W.specialIn K (.builtin "object.__class__") "__get__" = some (some (.builtin "getset_descriptor.__get__"))
  htk : PySem.W.takesIn K (.builtin "object.__class__") = some true
  hm : PySem.W.mroIn K C (.type "object") = some true
theorem InsOk.ty {K : PySem.W.Frag} {C : Addr} (i : InsOk K C) (cl : Cls K C) {H : Hp} {a dx : Addr} {fs : List (Str × V)} (e : H a = some (.ins C dx fs)) : TyOf K H (.ref a) (.ref C) := .ins e cl i.ha i.hn i.htk i.hm
structure PartsIn (H : Hp) (p b d t g f : Addr) (ts gs : List Addr) (N : NetV) : Prop where
  top : H p = some (.lst [.ref b, .ref d, .ref t, .ref g, .ref f])
  hb : H b = some (.lst (vstrs N.bowls))
  hd : H d = some (.lst (vstrs N.doors))
  ht : H t = some (.lst (ts.map V.ref))
  tr : Rows H ts N.takes
  hg : H g = some (.lst (gs.map V.ref))
  gr : Rows H gs N.gives
  hf : H f = some (.lst (vints N.first))
theorem Rows.get : ∀ {H : Hp} {as : List Addr} {rs : List (List Int)} {i : Nat}, Rows H as rs → (h : i < rs.length) → ∃ a, as[i]? = some a ∧ H a = some (.lst (vints (rs[i])))
  | _, _, _, 0, .cons r _, _ => ⟨_, rfl, r⟩
  | H, _, _, i + 1, .cons _ rs, h => Rows.get (H := H) (i := i) rs (Nat.lt_of_succ_lt_succ h)
theorem getD_at {xs : List Int} {k : Nat} (h : k < xs.length) : xs.getD k 0 = xs[k] := by
  rw [List.getD_eq_getElem?_getD, List.getElem?_eq_getElem h]
  rfl
end L2

namespace L2
open PySem PySem.Spec PyProof.Rows
structure CompScopeC (osc : Scope) (N : List Str) (scope : Scope) (N' : List Str) (nt : Nat) (caps : List Nat) : Prop where
  kind : scope.kind = .function
  cells : ∀ y ∈ scope.names, y.2 = .cell → scope.names.lookup y.1 = some .cell
  names : ∀ y ∈ scope.names, y.2 = .local → scope.names.lookup y.1 = some .local
  frees : ∀ y ∈ scope.names, y.2 = .free → osc.names.lookup y.1 = some .cell ∨ osc.names.lookup y.1 = some .free
  capt : caps.map (fun j => N[j]?) = (N'.drop nt).map some
  capf : ∀ x ∈ N'.drop nt, scope.names.lookup x = some .free
  len : nt ≤ N'.length
  nd : N'.Nodup
def compOkC (osc : Scope) (N : List Str) (scope : Scope) (N' : List Str) (nt : Nat) (caps : List Nat) : Bool :=
  decide (scope.kind = .function) && decide (∀ y ∈ scope.names, y.2 = .cell → scope.names.lookup y.1 = some .cell) && decide (∀ y ∈ scope.names, y.2 = .local → scope.names.lookup y.1 = some .local) &&
  decide (∀ y ∈ scope.names, y.2 = .free → osc.names.lookup y.1 = some .cell ∨ osc.names.lookup y.1 = some .free) && decide (caps.map (fun j => N[j]?) = (N'.drop nt).map some) &&
  decide (∀ x ∈ N'.drop nt, scope.names.lookup x = some .free) && decide (nt ≤ N'.length) && decide N'.Nodup
theorem CompScopeC.of {osc : Scope} {N : List Str} {scope : Scope} {N' : List Str} {nt : Nat} {caps : List Nat} (h : compOkC osc N scope N' nt caps = true) : CompScopeC osc N scope N' nt caps := by
  unfold compOkC at h
  simp only [Bool.and_eq_true, decide_eq_true_eq] at h
  obtain ⟨⟨⟨⟨⟨⟨⟨a, b⟩, c⟩, d⟩, e⟩, f⟩, g⟩, i⟩ := h
  exact ⟨a, b, c, d, e, f, g, i⟩
abbrev cellsC (X : Cx) (scope : Scope) (C : Addr) : List (Str × Addr) := cellsFrom (C + 1) scope.names (closL X.env scope.names [])
def cxCompC (X : Cx) (N' : List Str) (scope : Scope) (B : Blk) : Cx :=
  { X with N := N', s₀ := B.s, H₀ := B.H, env := compEnvC scope (cellsC X scope B.C) B.C X.env, outer := X.stack, ex := B.fp, fn := fun x => decide (scope.names.lookup x = some .cell), xe := fun _ _ => False }
section
variable {X : Cx} {pins : List (Addr × Obj)} {σ : St} {H : Hp} {s₂ : Shared} {scope : Scope} {N' : List Str} {nt : Nat} {caps : List Nat} {fp : List Addr} {C : Addr}
end
section
variable {X : Cx} {pins : List (Addr × Obj)} {σ : St} {H : Hp} {s₂ : Shared} {scope : Scope} {N' : List Str} {nt : Nat} {caps : List Nat} {tg elt iter : Expr} {ifs : List Expr} {pos : Pos} {g : Blk → TG} {tt : Blk → TT} {te : Blk → TE}
end
end L2

namespace L2
open PySem PySem.Spec PyProof.Rows
section
variable {X : Cx}
end
end L2

namespace L2
open PySem PySem.Spec PyProof.Rows SeqAt
section
variable {X : Cx} {pins : List (Addr × Obj)} {σ : St} {H : Hp} {s : Shared} {A : Around} {a b : Addr}
theorem rc_true {xs ys : List V} (I : Inv X pins σ H s) (hu : A.units < cLine) (qa : SqL X.K H a xs) (qb : SqL X.K H b ys) (hl : xs.length = ys.length)
    (he : ∀ (j : Nat) (x y : V) (u v : Value), xs[j]? = some x → ys[j]? = some y → RelV x u → RelV y v → EqAt A.in1 s u v true) : RcAt A s (.ref a) (.ref b) true ∧ RcNeAt A s (.ref a) (.ref b) false := by
  obtain ⟨its, rv, p, _⟩ := I.list qa
  obtain ⟨its2, rw', p2, _⟩ := I.list qb
  have l1 := rv.length
  have l2 := rw'.length
  have hh : ∀ j (h1 : j < its.toArray.size) (h2 : j < its2.toArray.size), EqAt A.in1 s its.toArray[j] its2.toArray[j] ((fun _ => true) j) := fun j h1 h2 => by
    rw [List.size_toArray] at h1 h2
    obtain ⟨u, hu1, ru⟩ := rv.get (i := j) (List.getElem?_eq_getElem (by omega))
    obtain ⟨v, hv1, rv2⟩ := rw'.get (i := j) (List.getElem?_eq_getElem (by omega))
    rw [List.getElem_toArray, List.getElem_toArray, (List.getElem?_eq_some_iff.mp hu1).2, (List.getElem?_eq_some_iff.mp hv1).2]
    exact he j _ _ u v (List.getElem?_eq_getElem (by omega)) (List.getElem?_eq_getElem (by omega)) ru rv2
  have all : ∀ n : Nat, ((List.range n).all fun _ => true) = true := fun n => by simp
  have q := RcAt.lists (A := A) p.isList p2.isList (by simp; omega) hu hh
  have q2 := RcNeAt.lists (A := A) p.isList p2.isList (by simp; omega) hu hh
  rw [all] at q q2
  exact ⟨q, q2⟩
theorem eq_of_rc (h : RcAt A s (.ref a) (.ref b) true) : EqAt A s (.ref a) (.ref b) true := by
  by_cases e : a = b
  · subst e; exact EqAt.same _
  · exact EqAt.of_refs e h
theorem in1_units {A : Around} : A.in1.units = A.units + 1 := by
  first | rfl | (simp [Around.in1, Around.units])
end
/-- but for these addresses all that was tracked stays -/
def ButL (A : List Addr) (H H' : Hp) : Prop := ∀ c u, H c = some u → c ∉ A → H' c = some u
theorem Rows.memE {H : Hp} : ∀ {as : List Addr} {rs : List (List Int)}, Rows H as rs → ∀ a ∈ as, ∃ r ∈ rs, H a = some (.lst (vints r))
  | _, _, .nil, a, h => nomatch h
  | _, _, .cons (b := r) e R, a, h => by
    rcases List.mem_cons.mp h with q | q
    · subst q; exact ⟨r, List.mem_cons_self .., e⟩
    · obtain ⟨r', h1, h2⟩ := Rows.memE R a q
      exact ⟨r', List.mem_cons_of_mem _ h1, h2⟩
theorem PartsIn.has {H : Hp} {p b d t g f : Addr} {ts gs : List Addr} {N : NetV} (P : PartsIn H p b d t g f ts gs N) : ∀ a ∈ [p, b, d, t, g, f] ++ ts ++ gs, ∃ o, H a = some o := by
  intro a ha
  rcases List.mem_append.mp ha with ha | ha
  · rcases List.mem_append.mp ha with ha | ha
    · simp only [List.mem_cons, List.not_mem_nil, or_false] at ha
      rcases ha with rfl | rfl | rfl | rfl | rfl | rfl
      · exact ⟨_, P.top⟩
      · exact ⟨_, P.hb⟩
      · exact ⟨_, P.hd⟩
      · exact ⟨_, P.ht⟩
      · exact ⟨_, P.hg⟩
      · exact ⟨_, P.hf⟩
    · obtain ⟨r, _, e⟩ := P.tr.memE a ha; exact ⟨_, e⟩
  · obtain ⟨r, _, e⟩ := P.gr.memE a ha; exact ⟨_, e⟩
theorem ButL.seq {A : List Addr} {K : PySem.W.Frag} {H H' : Hp} {a : Addr} {xs : List V} (k : ButL A H H') (h : SqL K H a xs) (n : ∀ u, H a = some u → a ∉ A) : SqL K H' a xs := by
  rcases h with (h | ⟨o, h⟩) | h
  · exact .inl (.inl (k _ _ h (n _ h)))
  · exact .inl (.inr ⟨o, k _ _ h (n _ h)⟩)
  · exact .inr h
end L2

namespace L2
open PySem PySem.Spec PyProof.Rows
section
variable {X : Cx} {e : Expr} {es : List Expr} {te : TE} {tr : TJ}
end
end L2

namespace L2
open PySem PySem.Spec PyProof.Rows
section
variable {X : Cx}
end
end L2

namespace L2
open PySem PySem.Spec PyProof.Rows SeqAt
section
variable {X : Cx}
end
end L2

namespace L2
open PySem PySem.Spec PyProof.Rows
def RiseA (xs : Array Nat) : Prop := xs.toList.Pairwise (· < ·)
theorem RiseA.lt {xs : Array Nat} (h : RiseA xs) {i j : Nat} (ij : i < j) (hj : j < xs.size) : xs[i]'(by omega) < xs[j] := by
  have := List.pairwise_iff_getElem.mp h i j (by rw [Array.length_toList]; omega) (by rw [Array.length_toList]; exact hj) ij
  simpa using this
theorem below_go {xs : Array Nat} (h : RiseA xs) (j : Nat) : ∀ (fuel lo hi : Nat), hi - lo ≤ fuel → lo ≤ hi → hi ≤ xs.size → (∀ (i : Nat) (hi : i < xs.size), i < lo → xs[i] < j) → (∀ (i : Nat) (h' : i < xs.size), hi ≤ i → j ≤ xs[i]) →
    ∃ p, SetTable.below.go xs j fuel lo hi = p ∧ p ≤ xs.size ∧ (∀ (i : Nat) (hi : i < xs.size), i < p → xs[i] < j) ∧ ∀ (i : Nat) (h' : i < xs.size), p ≤ i → j ≤ xs[i] := by
  intro fuel
  induction fuel with
  | zero =>
    intro lo hi hf hl hs a b
    refine ⟨lo, rfl, by omega, a, fun i h' hp => b i h' (by omega)⟩
  | succ fuel ih =>
    intro lo hi hf hl hs a b
    unfold SetTable.below.go
    by_cases c : lo < hi
    · rw [if_pos c]
      have m1 : (lo + hi) / 2 < xs.size := by omega
      have em : xs.getD ((lo + hi) / 2) j = xs[(lo + hi) / 2] := by simp [Array.getD, m1]
      try dsimp only
      rw [em]
      by_cases d : xs[(lo + hi) / 2] < j
      · rw [if_pos d]
        refine ih ((lo + hi) / 2 + 1) hi (by omega) (by omega) hs (fun i hi' hp => ?_) b
        rcases Nat.lt_succ_iff_lt_or_eq.mp hp with q | q
        · exact Nat.lt_trans (h.lt q m1) d
        · subst q; exact d
      · rw [if_neg d]
        refine ih lo ((lo + hi) / 2) (by omega) (by omega) (by omega) a fun i h' hp => ?_
        rcases Nat.lt_or_eq_of_le hp with q | q
        · exact Nat.le_trans (Nat.le_of_not_lt d) (Nat.le_of_lt (h.lt q h'))
        · subst q; exact Nat.le_of_not_lt d
    · rw [if_neg c]
      exact ⟨lo, rfl, by omega, a, fun i h' hp => b i h' (by omega)⟩
theorem below_spec {xs : Array Nat} (h : RiseA xs) (j : Nat) : SetTable.below xs j ≤ xs.size ∧ (∀ (i : Nat) (hi : i < xs.size), i < SetTable.below xs j → xs[i] < j) ∧ ∀ (i : Nat) (h' : i < xs.size), SetTable.below xs j ≤ i → j ≤ xs[i] := by
  obtain ⟨p, e, r⟩ := below_go h j xs.size 0 xs.size (by omega) (by omega) (by omega) (fun i hi h => absurd h (Nat.not_lt_zero _)) (fun i h' hp => absurd h' (by omega))
  unfold SetTable.below
  rw [e]
  exact r
/-- behind the place before -/
theorem below_next {xs : Array Nat} (h : RiseA xs) {i : Nat} (hi : i < xs.size) : SetTable.below xs (xs[i] + 1) = i + 1 := by
  obtain ⟨a, b, c⟩ := below_spec h (xs[i] + 1)
  rcases Nat.lt_trichotomy (SetTable.below xs (xs[i] + 1)) (i + 1) with q | q | q
  · have := c i hi (by omega)
    omega
  · exact q
  · have h1 := b (i + 1) (by omega) q
    have h2 := h.lt (show i < i + 1 by omega) (show i + 1 < xs.size by omega)
    omega
theorem below_zero {xs : Array Nat} (h : RiseA xs) : SetTable.below xs 0 = 0 := by
  obtain ⟨a, b, c⟩ := below_spec h 0
  refine Nat.le_zero.mp (Nat.le_of_not_lt fun q => ?_)
  have := b 0 (by omega) q
  omega
theorem insertAt_rise {xs : Array Nat} (h : RiseA xs) {j : Nat} (nj : ∀ (i : Nat) (hi : i < xs.size), xs[i] ≠ j) : RiseA (SetTable.insertAt xs (SetTable.below xs j) j) := by
  obtain ⟨a, b, c⟩ := below_spec h j
  generalize SetTable.below xs j = p at a b c
  unfold RiseA SetTable.insertAt
  simp only [Array.toList_append, Array.toList_push, Array.toList_extract, List.extract_eq_take_drop, List.drop_zero, Nat.sub_zero]
  rw [List.pairwise_append, List.pairwise_append]
  have tk : ∀ x ∈ xs.toList.take p, x < j := fun x hx => by
    obtain ⟨i, hi, rfl⟩ := List.mem_iff_getElem.mp hx
    rw [List.length_take, Array.length_toList] at hi
    rw [List.getElem_take]
    simpa using b i (by omega) (by omega)
  have dr : ∀ x ∈ (xs.toList.drop p).take (xs.size - p), j < x := fun x hx => by
    have hx := List.mem_of_mem_take hx
    obtain ⟨i, hi, rfl⟩ := List.mem_iff_getElem.mp hx
    rw [List.length_drop, Array.length_toList] at hi
    rw [List.getElem_drop]
    have h1 := c (p + i) (by omega) (by omega)
    have h2 := nj (p + i) (by omega)
    have : j < xs[p + i]'(by omega) := by omega
    simpa using this
  refine ⟨⟨h.sublist (List.take_sublist _ _), List.pairwise_singleton _ _, fun x hx y hy => by rw [List.mem_singleton.mp hy]; exact tk x hx⟩, (h.sublist (List.drop_sublist _ _)).sublist (List.take_sublist _ _), fun x hx y hy => ?_⟩
  rcases List.mem_append.mp hx with q | q
  · exact Nat.lt_trans (tk x q) (dr y hy)
  · rw [List.mem_singleton.mp q]; exact dr y hy
/-- what a table keeps while numbers are added alone -/
structure TabI (led : Bool) (t : SetTable) : Prop where
  rise : RiseA t.place
  nd : t.dummies = #[]
  led : t.led = led
theorem TabI.fresh (led : Bool) : TabI led (SetTable.fresh 0 0 led) := ⟨List.Pairwise.nil, rfl, rfl⟩
theorem TabI.standIn {led : Bool} {t : SetTable} (h : TabI led t) (n : Nat) : TabI led (t.standIn n) := ⟨by
  unfold RiseA SetTable.standIn
  simp only [Array.toList_range]
  exact List.pairwise_lt_range, rfl, h.led⟩
theorem TabI.orStandIn {led : Bool} {t : SetTable} (h : TabI led t) (n : Nat) : TabI led (t.orStandIn n) := by
  unfold SetTable.orStandIn
  split
  · exact h
  · exact h.standIn n
theorem has_empty (j : Nat) : SetTable.has #[] j = false := by
  unfold SetTable.has
  simp
theorem slot_empty {t : SetTable} (hn : t.dummies = #[]) {j : Nat} (h : t.slot j = .empty) : t.place[SetTable.below t.place j]? ≠ some j := by
  unfold SetTable.slot at h
  rw [hn, has_empty] at h
  intro e
  simp [e] at h
theorem slot_nodummy {t : SetTable} (hn : t.dummies = #[]) {j : Nat} : t.slot j ≠ .dummy := by
  unfold SetTable.slot
  rw [hn, has_empty]
  try dsimp only
  split
  · intro h; cases h
  · intro h; simp at h
theorem probe_go {t : SetTable} (hn : t.dummies = #[]) (ha : Nat → Int) (h : Int) : ∀ (fuel : Nat) (p : SetTable.Probe) (j : Nat) (d : Option Nat), p.dummy = none → SetTable.probe.go t ha h fuel p = some (.empty j d) → d = none ∧ t.slot j = .empty := by
  intro fuel
  induction fuel with
  | zero => intro p j d _ e; unfold SetTable.probe.go at e; cases e
  | succ fuel ih =>
    intro p j d pd e
    unfold SetTable.probe.go at e
    have ad : (t.advance p).dummy = none := by
      unfold SetTable.advance
      split
      · exact pd
      · exact pd
    cases hs : t.slot p.j with
    | empty =>
      rw [hs] at e
      try dsimp only at e
      injection e with e
      injection e with e1 e2
      exact ⟨by rw [← e2]; exact pd, by rw [← e1]; exact hs⟩
    | dummy => exact absurd hs (slot_nodummy hn)
    | live i =>
      rw [hs] at e
      try dsimp only at e
      split at e
      · cases e
      · exact ih _ _ _ ad e
theorem free_new {led : Bool} {t : SetTable} (T : TabI led t) {h : Int} {j : Nat} {b : Bool} (e : t.freeSlot h = some (j, b)) : ∀ (i : Nat) (hi : i < t.place.size), t.place[i] ≠ j := by
  unfold SetTable.freeSlot at e
  split at e
  · rename_i j' d hp
    unfold SetTable.probe at hp
    obtain ⟨rfl, hs⟩ := probe_go T.nd _ _ _ _ _ _ rfl hp
    injection e with e
    injection e with e1 _
    have e1 : j' = j := e1
    subst e1
    have ne := slot_empty T.nd hs
    obtain ⟨a, b', c⟩ := below_spec T.rise j'
    intro i hi z
    generalize SetTable.below t.place j' = p at ne a b' c
    rcases Nat.lt_or_ge i p with q | q
    · have := b' i hi q
      omega
    · rcases Nat.lt_or_eq_of_le q with r | r
      · have h1 := c p (by omega) (Nat.le_refl _)
        have h2 := T.rise.lt r hi
        omega
      · subst r
        exact ne (by rw [Array.getElem?_eq_getElem hi, z])
  · cases e
theorem TabI.lay {led : Bool} {t : SetTable} (T : TabI led t) (es : Array (Int × Value)) (h : Int) (x : Value) : TabI led (layNew t es h x).2.1 := by
  unfold layNew
  split
  · rename_i slot wd hf
    refine TabI.orStandIn ?_ _
    refine ⟨?_, ?_, T.led⟩
    · exact insertAt_rise T.rise (free_new T hf)
    · show (if SetTable.has t.dummies slot = true then _ else t.dummies) = #[]
      rw [T.nd, has_empty]
      rfl
  · exact T.standIn _
theorem TabI.relay {led : Bool} {t : SetTable} (T : TabI led t) (es : Array (Int × Value)) (n : Nat) : TabI led (relayAll t es n).2.1 := by
  unfold relayAll
  split
  · rename_i t' order hr
    have T' : TabI led t' := by
      unfold SetTable.relaid SetTable.laid at hr
      cases ho : SetTable.layClean (SetTable.sizeAbove n - 1) (es.map (·.1)) with
      | none => rw [ho] at hr; cases hr
      | some ow =>
        rw [ho] at hr
        have hr := Option.some.inj hr
        injection hr with h1 h2
        subst h1
        refine ⟨?_, rfl, T.led⟩
        unfold RiseA
        have key : ∀ l : List Nat, l.Pairwise (· < ·) → ((l.filterMap fun j => (ow.getD j none).map (j, ·)).map (·.1)).Pairwise (· < ·) := fun l hl => by
          have sub : ∀ l : List Nat, ((l.filterMap fun j => (ow.getD j none).map (j, ·)).map (·.1)).Sublist l := fun l => by
            induction l with
            | nil => exact List.Sublist.slnil
            | cons y l ih =>
              cases hy : ow.getD y none with
              | none => rw [List.filterMap_cons_none (by rw [hy]; rfl)]; exact ih.cons _
              | some v => rw [List.filterMap_cons_some (by rw [hy]; rfl)]; exact ih.cons₂ _
          exact hl.sublist (sub l)
        simpa using key _ List.pairwise_lt_range
    try dsimp only
    split
    · exact T'
    · exact T.standIn _
  · exact T.standIn _
section
variable {prog : Program} {w : World} {A : Around} {E : Value → Shared → Prop} {s : Shared}
/-- a set with these elements, in this order -/
def SetL (prog : Program) (w : World) (led : Bool) (h : Heap) (a : Addr) (es : List (Int × Value)) : Prop :=
  ∃ o ep t, h.get? a = some o ∧ o.ExactSet ∧ o.data = .set es.toArray ep t ∧ ElemsOf (intKind prog w) es ∧ es.length < scanBound ∧ t.fits es.length = true ∧ TabI led t
theorem setL_put {led : Bool} {h : Heap} {a : Addr} {o : Obj} {es : Array (Int × Value)} {ep : Nat} {t : SetTable} (ho : h.get? a = some o) (hex : o.ExactSet) (hd : o.data = .set es ep t) {es' : Array (Int × Value)} {t' : SetTable} (hel : ElemsOf (intKind prog w) es'.toList) (hb : es'.size < scanBound) (hf : t'.fits es'.size = true) (T : TabI led t') :
    (h.update a (Obj.putSet es' t')).get? a = some { o with data := .set es' (ep + 1) t' } ∧ SetL prog w led (h.update a (Obj.putSet es' t')) a es'.toList := by
  have hg : (h.update a (Obj.putSet es' t')).get? a = some { o with data := .set es' (ep + 1) t' } := by
    have := Heap.get?_update_self (Obj.putSet es' t') ho (by rw [putSet_of es' t' hd]; rfl)
    rw [putSet_of es' t' hd] at this
    exact this
  exact ⟨hg, _, ep + 1, t', hg, hex, by rw [Array.toArray_toList], hel, by rw [Array.length_toList]; exact hb, by rw [Array.length_toList]; exact hf, T⟩
end
/-- the number of an element -/
def keyE (e : Int × Value) : Int := match e.2 with | .int k _ => k | _ => 0
theorem key_is {P : Program} {w : World} {e : Int × Value} {es : List (Int × Value)} (h : ElemsOf (intKind P w) es) (he : e ∈ es) : ∃ t, e.2 = .int (keyE e) t := by
  obtain ⟨⟨k, hk, _⟩, _⟩ := h e he
  obtain ⟨t, ht⟩ := Value.isInt_shape (k := k) (v := e.2) (by simpa [intKind] using hk)
  exact ⟨t, by unfold keyE; rw [ht]⟩
theorem key_mem {P : Program} {w : World} {es : List (Int × Value)} (h : ElemsOf (intKind P w) es) {k : Int} : (∃ e ∈ es, (intKind P w).is k e.2 = true) ↔ k ∈ es.map keyE := by
  rw [List.mem_map]
  constructor
  · rintro ⟨e, he, hk⟩
    obtain ⟨t, ht⟩ := Value.isInt_shape (k := k) (v := e.2) (by simpa [intKind] using hk)
    exact ⟨e, he, by unfold keyE; rw [ht]⟩
  · rintro ⟨e, he, rfl⟩
    obtain ⟨t, ht⟩ := key_is h he
    exact ⟨e, he, by rw [ht]; simp [intKind, Value.isInt]⟩
section
variable {prog : Program} {w : World} {A : Around} {R : Result → Shared → Prop} {I : Addr} {fp wr : List Addr} {G : Array GenState → Array GenState → Prop} {n : Nat} {P : Nat → Value → Prop} {St : Nat → Shared → Prop}
end
section
variable {prog : Program} {w : World} {A : Around} {E : Value → Shared → Prop} {s : Shared}
/-- a new set is led, unless sets go by the text -/
theorem set_newI (a : Value) {Q₁ : Value → Shared → Prop} (h : Q₁ (.ref s.heap.objs.size) { s with heap := s.heap.push (setO (!w.params.followText "set-order")) }) :
    codeAny (model prog w) A (.call (.builtin "set.__new__") ⟨[.type "set", a], []⟩) (wants Q₁ E) s := by
  refine codeAny_of_tree ?_
  show wpAny _ A.in1 (do checkBuiltinCall "set.__new__" ⟨[.type "set", a], []⟩; again (.builtin "set.__new__" ⟨[.type "set", a], []⟩)) _ _ s
  refine wpAny_bind (wpAny_of_eq (PySem.F.newCall_set_1 a) (wpAny_pure ⟨plainId_quiet PySem.F.plain_set_new _, codeAny_builtin PySem.F.entry_set_new ?_⟩))
  rw [Around.under_plainId PySem.F.plain_set_new _]
  unfold Builtin.«set.__new__» Builtin.Frozenset.newClass
  have hsub := (show isSubtype (.type "set") (.type "set") = pure true by rw [isSubtype_type]; kernel_rfl)
  obtain ⟨hp, g, d, tk, os⟩ := s
  try dsimp only
  wp_walk
  refine wpAny_askSetting (wpAny_pure ?_)
  try dsimp only
  simp only [newObj]
  exact wpAny_bind (wpAny_alloc (wpAny_pure (wpAny_pure h)))
end
end L2

namespace L2
open PySem PySem.Spec PyProof.Rows
def SameH (es es' : Array (Int × Value)) : Prop := es.map (·.1) = es'.map (·.1)
theorem SameH.size {es es' : Array (Int × Value)} (h : SameH es es') : es.size = es'.size := by
  have := congrArg Array.size h
  rw [Array.size_map, Array.size_map] at this
  exact this
theorem insertAt_map {α β : Type} (f : α → β) (xs : Array α) (p : Nat) (x : α) : (SetTable.insertAt xs p x).map f = SetTable.insertAt (xs.map f) p (f x) := by
  unfold SetTable.insertAt
  simp [Array.map_append, Array.map_push, Array.map_extract]
theorem layNew_same {t : SetTable} {es es' : Array (Int × Value)} (e : SameH es es') (h : Int) (x x' : Value) : SameH (layNew t es h x).1 (layNew t es' h x').1 ∧ (layNew t es h x).2 = (layNew t es' h x').2 := by
  unfold layNew
  cases t.freeSlot h with
  | none => exact ⟨by unfold SameH at e ⊢; simp [Array.map_push, e], by rw [e.size]⟩
  | some p =>
    have s1 : SameH (SetTable.insertAt es (t.put p.1).2 (h, x)) (SetTable.insertAt es' (t.put p.1).2 (h, x')) := by
      unfold SameH at e ⊢
      rw [insertAt_map, insertAt_map, e]
    exact ⟨s1, by dsimp only; rw [s1.size]⟩
theorem pick_map {es : Array (Int × Value)} (order : Array Nat) : (order.filterMap (es[·]?)).map (·.1) = order.filterMap ((es.map (·.1))[·]?) := by
  rw [← Array.toList_inj]
  simp only [Array.toList_map, Array.toList_filterMap, List.map_filterMap, Array.getElem?_map]
theorem relay_same {t : SetTable} {es es' : Array (Int × Value)} (e : SameH es es') (n : Nat) : SameH (relayAll t es n).1 (relayAll t es' n).1 ∧ (relayAll t es n).2 = (relayAll t es' n).2 := by
  unfold relayAll
  rw [show es.map (·.1) = es'.map (·.1) from e, e.size]
  cases t.relaid (es'.map (·.1)) n with
  | none => exact ⟨e, rfl⟩
  | some p =>
    obtain ⟨t', order⟩ := p
    have s1 : SameH (order.filterMap (es[·]?)) (order.filterMap (es'[·]?)) := by
      unfold SameH
      rw [pick_map, pick_map, show es.map (·.1) = es'.map (·.1) from e]
    try dsimp only
    rw [s1.size]
    split
    · exact ⟨s1, rfl⟩
    · exact ⟨e, rfl⟩
/-- a number added to a shadow -/
def addP (p : Array (Int × Value) × SetTable) (k : Int) : Array (Int × Value) × SetTable :=
  let L := layNew p.2 p.1 (hashInt k) (.int k 0)
  if (!L.2.2.1 && L.2.1.tooFull) = true then ((relayAll L.2.1 L.1 (SetTable.grown L.1.size)).1, (relayAll L.2.1 L.1 (SetTable.grown L.1.size)).2.1) else (L.1, L.2.1)
def mkP (led : Bool) (l : List Int) : Array (Int × Value) × SetTable := l.foldl addP (#[], SetTable.fresh 0 0 led)
end L2

namespace L2
open PySem PySem.Spec PyProof.Rows
section
variable {prog : Program} {w : World} {A : Around} {E : Value → Shared → Prop} {s : Shared}
/-- a set of numbers whose table is that of a shadow -/
def SetK (prog : Program) (w : World) (led : Bool) (h : Heap) (a : Addr) (l : List Int) (es : List (Int × Value)) : Prop :=
  ∃ o ep t, h.get? a = some o ∧ o.ExactSet ∧ o.data = .set es.toArray ep t ∧ ElemsOf (intKind prog w) es ∧ es.length < scanBound ∧ t.fits es.length = true ∧ TabI led t ∧ SameH es.toArray (mkP led l).1 ∧ t = (mkP led l).2
theorem mkP_snoc {led : Bool} {l : List Int} {k : Int} : mkP led (l ++ [k]) = addP (mkP led l) k := by
  unfold mkP
  rw [List.foldl_append]
  rfl
theorem setK_put {led : Bool} {h : Heap} {a : Addr} {o : Obj} {es : Array (Int × Value)} {ep : Nat} {t : SetTable} (ho : h.get? a = some o) (hex : o.ExactSet) (hd : o.data = .set es ep t) {es' : Array (Int × Value)} {t' : SetTable} (hel : ElemsOf (intKind prog w) es'.toList) (hb : es'.size < scanBound) (hf : t'.fits es'.size = true) (T : TabI led t') {l : List Int} (s1 : SameH es' (mkP led l).1) (s2 : t' = (mkP led l).2) :
    SetK prog w led (h.update a (Obj.putSet es' t')) a l es'.toList := by
  obtain ⟨hg, _⟩ := setL_put (prog := prog) (w := w) ho hex hd hel hb hf T
  exact ⟨_, ep + 1, t', hg, hex, by rw [Array.toArray_toList], hel, by rw [Array.length_toList]; exact hb, by rw [Array.length_toList]; exact hf, T, by rw [Array.toArray_toList]; exact s1, s2⟩
theorem add_tailK {g : Bool → Sem Unit} (hg : ∀ (b : Bool) (s₁ : Shared) (Q' : Unit → Shared → Prop), Q' () s₁ → wpAny (model prog w) A (g b) Q' E s₁) {led : Bool} {a : Addr} {o : Obj} {es : Array (Int × Value)} {ep : Nat} {t : SetTable} (ho : s.heap.get? a = some o) (hex : o.ExactSet) (hd : o.data = .set es ep t)
    {es1 : Array (Int × Value)} {t2 : SetTable} (hel1 : ElemsOf (intKind prog w) es1.toList) (hb1 : es1.size < scanBound) (hf2 : t2.fits es1.size = true) (T2 : TabI led t2) {wasDummy : Bool} {l : List Int} {k : Int} {gave : Bool}
    (sh : SameH es1 (layNew (mkP led l).2 (mkP led l).1 (hashInt k) (.int k 0)).1) (st : (t2, wasDummy, gave) = (layNew (mkP led l).2 (mkP led l).1 (hashInt k) (.int k 0)).2) {R : Option Bool → Shared → Prop}
    (h : ∀ (h' : Heap) (es' : List (Int × Value)), Heap.SameBut a s.heap h' → SetK prog w led h' a (l ++ [k]) es' → es'.Perm es1.toList → R (some true) { s with heap := h' }) :
    wpAny (model prog w) A (do
        storeSet a es1 t2
        if (!wasDummy && t2.tooFull) = true then do
            g (relayAll t2 es1 (SetTable.grown es1.size)).2.2
            storeSet a (relayAll t2 es1 (SetTable.grown es1.size)).1 (relayAll t2 es1 (SetTable.grown es1.size)).2.1
            pure (some true)
          else pure (some true)) R E s := by
  refine wpAny_bind (wpAny_storeSet_of ho hd ?_ (fits_of_scanBound hb1))
  obtain ⟨ho1, _⟩ := setL_put (prog := prog) (w := w) ho hex hd hel1 hb1 hf2 T2
  have hs1 := Heap.SameBut.update s.heap a (Obj.putSet es1 t2)
  have e1 : t2 = (layNew (mkP led l).2 (mkP led l).1 (hashInt k) (.int k 0)).2.1 := congrArg (·.1) st
  have e2 : wasDummy = (layNew (mkP led l).2 (mkP led l).1 (hashInt k) (.int k 0)).2.2.1 := congrArg (·.2.1) st
  by_cases c : (!wasDummy && t2.tooFull) = true
  · have em : mkP led (l ++ [k]) = ((relayAll t2 (layNew (mkP led l).2 (mkP led l).1 (hashInt k) (.int k 0)).1 (SetTable.grown es1.size)).1, (relayAll t2 (layNew (mkP led l).2 (mkP led l).1 (hashInt k) (.int k 0)).1 (SetTable.grown es1.size)).2.1) := by
      rw [mkP_snoc]
      unfold addP
      try dsimp only
      rw [← e1, ← e2, if_pos c, sh.size]
    rw [if_pos c]
    have sr := relay_same (t := t2) sh (SetTable.grown es1.size)
    have hp := relayAll_perm t2 es1 (SetTable.grown es1.size)
    have hfr := relayAll_fits t2 es1 (SetTable.grown es1.size)
    have hT := T2.relay es1 (SetTable.grown es1.size)
    have m1 : SameH (relayAll t2 es1 (SetTable.grown es1.size)).1 (mkP led (l ++ [k])).1 := by rw [em]; exact sr.1
    have m2 : (relayAll t2 es1 (SetTable.grown es1.size)).2.1 = (mkP led (l ++ [k])).2 := by rw [em, sr.2]
    generalize relayAll t2 es1 (SetTable.grown es1.size) = Rl at hp hfr hT m1 m2 ⊢
    obtain ⟨es2, t3, gave2⟩ := Rl
    try dsimp only at hp hfr hT m1 m2 ⊢
    have hb2 : es2.size < scanBound := by rw [← Array.length_toList, hp.length_eq, Array.length_toList]; exact hb1
    refine wpAny_bind (hg _ _ _ (wpAny_bind (wpAny_storeSet_of ho1 rfl ?_ (fits_of_scanBound hb2))))
    exact wpAny_pure (h _ _ (hs1.trans (Heap.SameBut.update _ a _)) (setK_put ho1 hex rfl (hel1.perm hp) hb2 hfr hT m1 m2) hp)
  · rw [if_neg c]
    have em : mkP led (l ++ [k]) = ((layNew (mkP led l).2 (mkP led l).1 (hashInt k) (.int k 0)).1, t2) := by
      rw [mkP_snoc]
      unfold addP
      try dsimp only
      rw [← e1, ← e2, if_neg c]
    exact wpAny_pure (h _ _ hs1 (setK_put ho hex hd hel1 hb1 hf2 T2 (by rw [em]; exact sh) (by rw [em])) (List.Perm.refl _))
theorem add_numK {led : Bool} {a : Addr} {l : List Int} {es : List (Int × Value)} {k : Int} {tk : Tok} {Q : Bool → Shared → Prop} (hS : SetK prog w led s.heap a l es) (room : es.length + 1 < scanBound)
    (hin : (∃ e ∈ es, (intKind prog w).is k e.2 = true) → Q false s)
    (hnew : (¬ ∃ e ∈ es, (intKind prog w).is k e.2 = true) → ∀ (h' : Heap) (es' : List (Int × Value)), Heap.SameBut a s.heap h' → SetK prog w led h' a (l ++ [k]) es' → es'.Perm (es ++ [((intKind prog w).hash k, .int k tk)]) → Q true { s with heap := h' }) :
    wpAny (model prog w) A (setAddHashed a (.int k tk) ((intKind prog w).hash k)) Q E s := by
  obtain ⟨o, ep, t, ho, hex, hd, hel, hb, hf, T, sh0, st0⟩ := hS
  have hkey : (intKind prog w).is k (.int k tk) = true := by simp [intKind, Value.isInt]
  have hf' : t.fits es.toArray.size = true := by rw [List.size_toArray]; exact hf
  have hel' : ElemsOf (intKind prog w) es.toArray.toList := by rw [List.toList_toArray]; exact hel
  unfold setAddHashed setAddHashedIn
  refine wpAny_holding (wpAny_bind (wpAny_setState_of ho hd hf' ?_))
  try dsimp only
  rw [byScan_of (knd := intKind prog w) (x := .int k tk) rfl (by rw [List.size_toArray]; exact hb) hel']
  simp only [↓reduceIte]
  unfold setAddByScan
  refine wpAny_bind (wpAny_bind (wpAny_rule (wpAny_bind (wpAny_setScan_of hkey ho hd hf' hel' ?_))))
  rw [List.toList_toArray]
  cases hr : List.findIdx? (fun e => (intKind prog w).is k e.2) es with
  | some j =>
    try dsimp only
    obtain ⟨hj, hpj, _⟩ := List.findIdx?_eq_some_iff_getElem.mp hr
    exact wpAny_pure (wpAny_pure (hin ⟨_, List.getElem_mem hj, hpj⟩))
  | none =>
    try dsimp only
    have hnew := hnew fun ⟨e, he, hp⟩ => by
      have := List.findIdx?_eq_none_iff.mp hr e he
      rw [hp] at this
      cases this
    have hperm := layNew_perm t es.toArray ((intKind prog w).hash k) (.int k tk)
    have hfits := layNew_fits t es.toArray ((intKind prog w).hash k) (.int k tk)
    have hT := T.lay es.toArray ((intKind prog w).hash k) (.int k tk)
    have sl := layNew_same (t := t) sh0 ((intKind prog w).hash k) (.int k tk) (.int k 0)
    rw [st0] at sl
    rw [st0] at hperm hfits hT ⊢
    have hk : (intKind prog w).hash k = hashInt k := rfl
    rw [hk] at sl hperm hfits hT ⊢
    generalize layNew (mkP led l).2 es.toArray (hashInt k) (.int k tk) = L at hperm hfits hT sl ⊢
    obtain ⟨es1, t1, wasDummy, gave⟩ := L
    try dsimp only at hperm hfits hT sl ⊢
    rw [Array.toList_push, List.toList_toArray] at hperm
    have hel1 : ElemsOf (intKind prog w) es1.toList := (hel.push hkey rfl).perm hperm
    have hb1 : es1.size < scanBound := by
      rw [← Array.length_toList, hperm.length_eq, List.length_append]
      exact room
    have hgw : ∀ (b : Bool) (s₁ : Shared) (Q' : Unit → Shared → Prop), Q' () s₁ → wpAny (model prog w) A (match b with | true => rule "set.scan.the-table-gave-way" | false => pure ()) Q' E s₁ := fun b s₁ Q' hq => by
      cases b
      · exact wpAny_pure hq
      · exact wpAny_rule hq
    refine wpAny_bind (hgw _ _ _ ?_)
    split
    · rw [hashByValue_scannable 8 (x := .int k tk) rfl]
      refine wpAny_bind (wpAny_pure ?_)
      simp only [plainKind, ↓reduceIte]
      exact add_tailK hgw ho hex hd hel1 hb1 hfits hT sl.1 sl.2 fun h' es' s1 s2 s3 => wpAny_pure (hnew h' es' s1 s2 (s3.trans hperm))
    · refine wpAny_bind (wpAny_pure ?_)
      simp only [↓reduceIte]
      exact add_tailK hgw ho hex hd hel1 hb1 hfits hT sl.1 sl.2 fun h' es' s1 s2 s3 => wpAny_pure (hnew h' es' s1 s2 (s3.trans hperm))
end
theorem SetK.moved {prog : Program} {w : World} {led : Bool} {h h' : Heap} {a : Addr} {l : List Int} {es : List (Int × Value)} (hS : SetK prog w led h a l es) (k : ∀ o, h.get? a = some o → h'.get? a = some o) : SetK prog w led h' a l es := by
  obtain ⟨o, ep, t, ho, more⟩ := hS
  exact ⟨o, ep, t, k o ho, more⟩
theorem SetK.els {prog : Program} {w : World} {led : Bool} {h : Heap} {a : Addr} {l : List Int} {es : List (Int × Value)} (hS : SetK prog w led h a l es) : ElemsOf (intKind prog w) es := by
  obtain ⟨o, ep, t, _, _, _, hel, _⟩ := hS
  exact hel
section
variable {prog : Program} {w : World} {A : Around} {R : Result → Shared → Prop} {I : Addr} {fp wr : List Addr} {G : Array GenState → Array GenState → Prop} {n : Nat} {P : Nat → Value → Prop} {St : Nat → Shared → Prop}
theorem set_loopK (W : WalksS prog w A.in1 I fp wr G n P St) (S : Addr) (hSf : S ∉ fp) (val : Nat → Int) (hval : ∀ i v, P i v → ∃ t, v = .int (val i) t) (hb : n + 1 < scanBound) {led : Bool} :
    ∀ (k i : Nat) (s : Shared), n - i = k → i ≤ n → St i s → (∃ es, SetK prog w led s.heap S (metK val i) es ∧ (es.map keyE).Perm (metK val i)) →
      (∀ s', Moved (S :: wr) G s s' → (∃ es, SetK prog w led s'.heap S (metK val n) es ∧ (es.map keyE).Perm (metK val n)) → R (.ok (.ret .none)) s') →
      codeAny (model prog w) A (.builtin "set.update.loop" ⟨[.ref S, .ref I], []⟩) R s := by
  have nw : S ∉ wr := fun z => hSf (W.sub _ z)
  have sub : ∀ b ∈ wr, b ∈ S :: wr := fun b z => List.mem_cons_of_mem _ z
  intro k
  induction k with
  | zero =>
    intro i s hk hi st hS fin
    obtain rfl : i = n := by omega
    refine codeAny_builtin PyProof.Rows.F.entry_set_update_loop ?_
    rw [Around.under_plainId PyProof.Rows.F.plain_set_update_loop _]
    show wpAny _ A.in1 (pyNext (.ref I) >>= _) _ _ s
    refine wpAny_bind (W.done s _ _ st fun s' mv => ?_)
    show wpAny _ A.in1 (ret Value.none) _ _ s'
    obtain ⟨es, hS, pe⟩ := hS
    exact wpAny_pure (fin s' (mv.mono sub) ⟨es, hS.moved fun o ho => mv.heap S _ nw ho, pe⟩)
  | succ k ih =>
    intro i s hk hi st hS fin
    have lt : i < n := by omega
    refine codeAny_builtin PyProof.Rows.F.entry_set_update_loop ?_
    rw [Around.under_plainId PyProof.Rows.F.plain_set_update_loop _]
    show wpAny _ A.in1 (pyNext (.ref I) >>= _) _ _ s
    refine wpAny_bind (W.item i s _ _ lt st fun v s' pv st' mv => ?_)
    obtain ⟨t, rfl⟩ := hval i v pv
    obtain ⟨es, hS, pe⟩ := hS
    have hS1 : SetK prog w led s'.heap S (metK val i) es := hS.moved fun o ho => mv.heap S _ nw ho
    show wpAny _ A.in1 (holding [.int (val i) t] (setAdd S (.int (val i) t)) >>= _) _ _ s'
    refine wpAny_bind (wpAny_holding ?_)
    unfold setAdd
    refine wpAny_holding (wpAny_bind ((intKind prog w).pyHash (k := val i) (by simp [intKind, Value.isInt]) ?_))
    have lm := pe.length_eq
    rw [List.length_map] at lm
    have room : es.length + 1 < scanBound := by have := metK_le val i; omega
    have go : ∀ (h' : Heap) (es' : List (Int × Value)), Heap.SameBut S s'.heap h' → SetK prog w led h' S (metK val (i + 1)) es' → (es'.map keyE).Perm (metK val (i + 1)) → codeAny (model prog w) A (.builtin "set.update.loop" ⟨[.ref S, .ref I], []⟩) R { s' with heap := h', toks := s'.toks + 1 } := fun h' es' sb hS3 pe' => by
      refine ih (i + 1) _ (by omega) lt (W.frame _ s' _ _ st' (Nat.le_succ _) fun b hb o e => ?_) ⟨es', hS3, pe'⟩ fun s2 mv2 hS4 => ?_
      · rw [sb.2 b (fun z : b = S => hSf (z ▸ hb))]; exact e
      · refine fin s2 (Moved.trans W.gtrans ((mv.mono sub).then_heap (Nat.le_succ _) fun b o hb e => ?_) mv2) hS4
        rw [sb.2 b (fun z : b = S => hb (z ▸ List.mem_cons_self))]; exact e
    refine add_numK (s := { s' with toks := s'.toks + 1 }) hS1 room (fun hin => ?_) fun hnew h' es' sb hS3 pm => ?_
    · have m : val i ∈ metK val i := pe.mem_iff.mp ((key_mem hS1.els).mp hin)
      refine wpAny_pure ⟨plainId_quiet PyProof.Rows.F.plain_set_update_loop _, go s'.heap es (Heap.SameBut.refl S s'.heap) (by rw [show metK val (i + 1) = metK val i from if_pos m]; exact hS1) ?_⟩
      show (es.map keyE).Perm (put1 (metK val i) (val i))
      unfold put1
      rw [if_pos m]
      exact pe
    · have m : val i ∉ metK val i := fun z => hnew ((key_mem hS1.els).mpr (pe.mem_iff.mpr z))
      refine wpAny_pure ⟨plainId_quiet PyProof.Rows.F.plain_set_update_loop _, go h' es' sb (by rw [show metK val (i + 1) = metK val i ++ [val i] from if_neg m]; exact hS3) ?_⟩
      show (es'.map keyE).Perm (put1 (metK val i) (val i))
      unfold put1
      rw [if_neg m]
      refine (pm.map keyE).trans ?_
      rw [List.map_append]
      exact pe.append_right _
end
section
variable {prog : Program} {w : World} {A : Around} {E : Value → Shared → Prop} {s : Shared}
set_option maxHeartbeats 3200000 in
theorem set_fromK {l : Addr} {items : Array Value} {val : Nat → Int} {Q : Value → Shared → Prop} (hh : A.handled = none) (hl : s.heap.IsList l items) (hval : ∀ (i : Nat) (v : Value), items[i]? = some v → ∃ t, v = Value.int (val i) t) (hb : items.size + 1 < scanBound)
    (h : ∀ (h' : Heap) (tk : Nat) (es : List (Int × Value)), SetK prog w (!w.params.followText "set-order") h' s.heap.objs.size (metK val items.size) es → (es.map keyE).Perm (metK val items.size) → (∀ b o, b < s.heap.objs.size → s.heap.get? b = some o → h'.get? b = some o) →
      Q (.ref s.heap.objs.size) { s with heap := h', toks := tk }) : wpAny (model prog w) A (call (.type "set") [.ref l]) Q E s := by
  obtain ⟨c, tl, hmro⟩ := PySem.F.called_set.mro
  have hmade := PySem.F.called_set.made
  have hsub := PySem.F.called_set.sub
  refine wpAny_call (codeAny_of_tree ?_)
  show wpAny _ _ (callAny (.type "set") _) _ _ _
  refine wpAny_pure ⟨Code.quiet_builtin _ (by decide +kernel), codeAny_builtin PySem.F.entry_type_call ?_⟩
  rw [Around.under_plain (weight_type_call_type "set" [.ref l] []) rfl]
  have g1 := PySem.F.called_set.notType
  have g2 := PySem.F.called_set.canCreate
  have g3 := PySem.F.typeCall_set_1 (.ref l)
  repeat (any_goals (first | assumption | wp_step))
  refine codeAny_mono (set_newI (.ref l) (E := E) (Q₁ := fun obj s₁ => ∃ led : Bool, (!w.params.followText "set-order") = led ∧ obj = .ref s.heap.objs.size ∧ s₁ = { s with heap := s.heap.push (setO led) }) ⟨_, rfl, rfl, rfl⟩) fun r s₁ hr => ?_
  cases r with
  | error e => exact hr
  | ok fl =>
    cases fl with
    | ret obj =>
      obtain ⟨led, hled, rfl, rfl⟩ := hr
      have at0 : (s.heap.push (setO led)).get? s.heap.objs.size = some (setO led) := Heap.get?_push_size _ rfl
      have hT : Shared.TypeIs { s with heap := s.heap.push (setO led) } (.ref s.heap.objs.size) "set" := ⟨_, at0, rfl⟩
      have g4 := PySem.F.called_set.init.lookup
      have g5 := PySem.F.called_set.init.bind (.ref s.heap.objs.size)
      repeat (any_goals (first | assumption | wp_step))
      refine codeAny_mono (codeAny_call_builtin (R := wants (fun r s₂ => r = .none ∧ ∃ h' tk, s₂ = { s with heap := h', toks := tk } ∧ (∃ es, SetK prog w led h' s.heap.objs.size (metK val items.size) es ∧ (es.map keyE).Perm (metK val items.size)) ∧
          (∀ b o, b < s.heap.objs.size → s.heap.get? b = some o → h'.get? b = some o)) E) PySem.F.called_set.init.plain PySem.F.entry_set_init (check_set_init_1 hT ?_)) fun r₂ s₂ hr₂ => ?_
      · obtain ⟨⟨ocls, odict, odata, oslots⟩, hol, hcl, nl, hdl⟩ := hl
        simp only at hcl hdl
        subst hcl; subst hdl
        have hol' : (s.heap.push (setO led)).get? l = some { cls := .type "list", dict := odict, data := .seq items nl, slots := oslots } := Heap.get?_push_of_some _ hol
        have k1 := PySem.F.sub_list_set
        have k2 := PySem.F.sub_list_frozenset
        have k3 : (Value.type "list" == Value.type "dict") = false := by decide
        have hl1 : (s.heap.push (setO led)).IsList l items := ⟨_, hol', rfl, nl, rfl⟩
        unfold Builtin.«set.__init__» noKeywords Builtin.Frozenset.updateFrom
        generalize hPI : pyIter = PI
        wp_walk
        subst hPI
        refine wpAny_pyIter_list hl1 (wpAny_bind (wpAny_runValue ?_))
        have ll : l < s.heap.objs.size := Heap.lt_size hol
        have h3 : A.in1.in1.in1.handled = none := by simp [hh]
        have nI : l ≠ (s.heap.push (setO led)).objs.size := by
          rw [Heap.size_push]
          exact Nat.ne_of_lt (Nat.lt_succ_of_lt ll)
        have nS : s.heap.objs.size ∉ [(s.heap.push (setO led)).objs.size, l] := by
          rw [Heap.size_push, List.mem_cons, List.mem_singleton, not_or]
          exact ⟨Nat.ne_of_lt (Nat.lt_succ_self _), Nat.ne_of_gt ll⟩
        refine set_loopK (led := led) ((Walks.list h3 _ l nI items).toS) s.heap.objs.size nS val hval hb (items.size - 0) 0 _ (by omega) (Nat.zero_le _) ⟨⟨_, Heap.get?_push_size _ rfl, rfl, rfl⟩, (hl1.push _)⟩ ?hS0 ?hR
        case hS0 =>
          have at1 : ((s.heap.push (setO led)).push { cls := .type "list_iterator", data := .fields #[.ref l, .int 0 0] }).get? s.heap.objs.size = some (setO led) := Heap.get?_push_of_some _ at0
          exact ⟨[], ⟨_, 0, _, at1, ⟨rfl, rfl, rfl⟩, rfl, fun e he => (nomatch he), by unfold scanBound; decide, rfl, TabI.fresh led, rfl, rfl⟩, List.Perm.nil⟩
        case hR =>
          intro s' mv hS'
          obtain ⟨h', g', d', tk', os'⟩ := s'
          obtain rfl : g' = s.gens := mv.gens
          obtain rfl : d' = s.drawn := mv.drawn
          obtain rfl : os' = s.os := mv.os
          show wpAny _ _ _ _ _ _
          refine wpAny_pure ?_
          show wpAny _ _ (ret Value.none) _ _ _
          refine wpAny_pure ⟨rfl, h', tk', rfl, hS', fun b o hb e => mv.heap b o ?_ (Heap.get?_push_of_some _ (Heap.get?_push_of_some _ e))⟩
          rw [List.mem_cons, List.mem_singleton, Heap.size_push, not_or]
          exact ⟨Nat.ne_of_lt hb, Nat.ne_of_lt (Nat.lt_succ_of_lt hb)⟩
      · cases r₂ with
        | error e => exact hr₂
        | ok fl₂ =>
          cases fl₂ with
          | ret r =>
            obtain ⟨rfl, h', tk, rfl, hS', hk'⟩ := hr₂
            repeat (any_goals (first | assumption | wp_step))
            obtain ⟨es, hS', pe⟩ := hS'
            rw [← hled] at hS'
            exact h _ _ es hS' pe hk'
          | _ => exact hr₂.elim
    | _ => exact hr.elim
end
end L2

namespace L2
open PySem PySem.Spec PyProof.Rows SeqAt
section
variable {X : Cx}
end
section
variable {X : Cx}
end
def six : List Str := [Str.ofString "a", Str.ofString "b", Str.ofString "c", Str.ofString "d", Str.ofString "e", Str.ofString "f"]
theorem six_ok : ∀ y ∈ six, okName y = true := by decide +kernel
theorem six_nd : six.Nodup := by decide +kernel
theorem cut_take (xs : List V) (k : Nat) : cutV xs none (some (k : Int)) = xs.take k := by
  unfold cutV
  rw [HT.sIx_none, HT.sIx_nat, List.drop_zero, Nat.sub_zero]
  by_cases h : k ≤ xs.length
  · rw [Nat.min_eq_left h]
  · rw [Nat.min_eq_right (by omega), List.take_of_length_le (Nat.le_refl _), List.take_of_length_le (by omega)]
abbrev vsix : List V := [V.str (Str.ofString "a"), V.str (Str.ofString "b"), V.str (Str.ofString "c"), V.str (Str.ofString "d"), V.str (Str.ofString "e"), V.str (Str.ofString "f")]
theorem cut_six (k : Nat) : cutV vsix none (some (k : Int)) = vstrs (six.take k) := by
  refine (cut_take _ _).trans ?_
  show (vstrs six).take k = _
  rw [vstrs, vstrs, List.map_take]
/-- a row of doors, as whole numbers -/
abbrev zs (ds : List Nat) : List Int := ds.map fun n : Nat => (n : Int)
theorem zs_len (ds : List Nat) : (zs ds).length = ds.length := List.length_map ..
end L2
namespace L2
open PySem PySem.Spec PyProof.Rows
theorem size6 (c : Int) : ∃ z : Nat, 1 + c % 6 = (z : Int) ∧ 1 ≤ z ∧ z ≤ 6 := by
  have h1 : 0 ≤ c % 6 := Int.emod_nonneg _ (by decide)
  have h2 : c % 6 < 6 := Int.emod_lt_of_pos _ (by decide)
  exact ⟨(1 + c % 6).toNat, by omega, by omega, by omega⟩
theorem size9 (c : Int) : ∃ z : Nat, c % 9 = (z : Int) ∧ z ≤ 8 := by
  have h1 : 0 ≤ c % 9 := Int.emod_nonneg _ (by decide)
  have h2 : c % 9 < 9 := Int.emod_lt_of_pos _ (by decide)
  exact ⟨(c % 9).toNat, by omega, by omega⟩
theorem ixN_nat {n i : Nat} (h : i < n) : ixN n (i : Int) = some i := by
  unfold ixN
  rw [if_pos (by omega), if_pos (by omega), Int.toNat_natCast]
end L2
namespace L2
open PySem PySem.Spec PyProof.Rows
end L2

namespace L2
open PySem PySem.Spec PyProof.Rows SeqAt
theorem comp_ints {te : Blk → TE} {H1 : Hp} {Z : List V → Hp → Prop} {lo : Int} {n : Nat} {τ : St} (P : Int → Prop) (hn : n < sizeLine)
    (hs : ∀ B i H, i < n → Same H1 H → ∀ Q' : VK, (∀ m H2, P m → Same H H2 → Q' (.int m) H2) → te B (some (.int (lo + i)) :: τ) H Q')
    (hd : ∀ ns H2, Same H1 H2 → ns.length = n → (∀ m ∈ ns, P m) → Z (vints ns) H2) :
    ∃ W : Nat → Nat → List V → St → Hp → Prop, (∃ m, W 0 m [] (none :: τ) H1) ∧ ∀ B : Blk, CompW (Itr lo n) (gName 0) tTrue (te B) W Z := by
  refine comp_rangeP (g := fun _ => gName 0) (tt := fun _ => tTrue) (fun i ys σ H => ∃ (v : Option V) (ns : List Int), σ = v :: τ ∧ Same H1 H ∧ ys = vints ns ∧ ns.length = i ∧ ∀ m ∈ ns, P m) ⟨none, [], rfl, Same.refl _, rfl, rfl, fun m hm => nomatch hm⟩ ?_ ?_ ?_
  · rintro i ys σ H hi ⟨v, ns, rfl, S, rfl, e, _⟩
    rw [ints_len, e]; omega
  · rintro B i ys σ H hi ⟨v, ns, rfl, S, rfl, e, hp⟩
    try dsimp only [gName, tTrue]
    rw [if_pos rfl]
    refine hs B i H hi S _ fun m H2 pm S2 => ⟨_, ns ++ [m], rfl, S.trans S2, (vints_snoc _ _).symm, by rw [List.length_append, e]; rfl, fun k hk => ?_⟩
    rcases List.mem_append.mp hk with q | q
    · exact hp k q
    · rw [List.mem_singleton.mp q]; exact pm
  · rintro ys σ H ⟨v, ns, rfl, S, rfl, e, hp⟩
    exact hd ns H S e hp
/-- what of a list is kept by a test: [b for b in xs if t(b)] -/
theorem comp_keep {K : PySem.W.Frag} {tt : Blk → TT} {te : Blk → TE} {H1 : Hp} {Z : List V → Hp → Prop} {a : Addr} {xs : List Int} {τ : St} (f : Int → Bool) (ha : SqL K H1 a (vints xs)) (hn : xs.length < sizeLine)
    (ht : ∀ B x, x ∈ xs → ∀ Q' : Bool → Hp → Prop, Q' (f x) H1 → tt B (some (.int x) :: τ) H1 Q')
    (he : ∀ B x, x ∈ xs → ∀ Q' : VK, Q' (.int x) H1 → te B (some (.int x) :: τ) H1 Q')
    (hd : Z (vints (xs.filter f)) H1) :
    ∃ W : Nat → Nat → List V → St → Hp → Prop, (∃ m, W 0 m [] (none :: τ) H1) ∧ ∀ B : Blk, CompW (Itl K a) (gName 0) (tt B) (te B) W Z := by
  refine comp_listP (g := fun _ => gName 0) (K := K) (a := a) (xs := vints xs) (fun i ys σ H => (∃ v, σ = v :: τ) ∧ H = H1 ∧ ys = vints ((xs.take i).filter f)) ⟨⟨none, rfl⟩, rfl, rfl⟩ ?_ ?_ ?_
  · rintro i ys σ H hi ⟨_, rfl, rfl⟩
    refine ⟨ha, ?_⟩
    rw [ints_len]
    exact Nat.lt_of_le_of_lt (List.length_filter_le _ _) (by rw [List.length_take]; omega)
  · rintro B i x ys σ H hx ⟨⟨v, rfl⟩, rfl, rfl⟩
    obtain ⟨n, hn1, rfl⟩ := ints_get hx
    have hm := List.mem_of_getElem? hn1
    have e : (xs.take (i + 1)).filter f = (xs.take i).filter f ++ (if f n then [n] else []) := by
      rw [List.take_add_one, hn1, Option.toList_some, List.filter_append]
      congr 1
      cases e : f n <;> simp [e]
    try dsimp only [gName]
    refine ht B n hm _ ?_
    cases hf : f n with
    | true =>
      rw [if_pos rfl]
      refine he B n hm _ ⟨⟨_, rfl⟩, rfl, ?_⟩
      rw [e, hf]
      exact (vints_snoc _ _).symm
    | false =>
      rw [if_neg Bool.false_ne_true]
      refine ⟨⟨_, rfl⟩, rfl, ?_⟩
      rw [e, hf]
      simp
  · rintro ys σ H ⟨_, rfl, rfl⟩
    rw [ints_len, List.take_length]
    exact hd
section
variable {X : Cx}
inductive rAnyOf (K : PySem.W.Frag) (xs : List V) (H : Hp) (Q : VK) : Prop
  | mk : ∀ (a : Addr) (bs : List Bool), (xs = [.ref a]) → (SqL K H a (bs.map V.bl)) → (Q (.bl (bs.any id)) H) → rAnyOf K xs H Q
theorem call_any_list (hc : X.calm = true) : CallR X (.builtin "any") (rAnyOf X.K) := by
  intro pins s σ H xs us Q I r h
  obtain ⟨a, bs, e, hq, q⟩ := h
  subst e
  obtain ⟨u, rfl, r1⟩ := vals1 r
  obtain rfl : u = Value.ref a := r1
  obtain ⟨its, rv, p, hz⟩ := I.list hq
  have hal : a < s.heap.objs.size := by obtain ⟨o, e, _⟩ := p.isList; exact Heap.lt_size e
  have hl := rv.length
  rw [List.length_map] at hl
  refine call_any_walk (wpAny_pyIter_list p.isList ⟨s.heap.objs.size, _, _, _, _, _, (fun i => bs.getD i false), rfl, Walks.list (A := X.A.in1) (show X.A.in1.handled = none from I.ok.hd hc) _ a (Nat.ne_of_lt hal) its.toArray, ⟨⟨_, Heap.get?_push_size _ rfl, rfl, rfl⟩, p.isList.push _⟩, fun i v s' Q' E' hv hQ => ?_, fun h' tk hk => ?_⟩)
  · have hv' : its[i]? = some v := by simpa using hv
    have hi : i < bs.length := by rw [hl]; exact (List.getElem?_eq_some_iff.mp hv').1
    have hx : (bs.map V.bl)[i]? = some (V.bl (bs.getD i false)) := by
      rw [List.getElem?_map, List.getElem?_eq_getElem hi]
      simp [List.getD_eq_getElem?_getD, List.getElem?_eq_getElem hi]
    obtain ⟨u, hu, ru⟩ := rv.get hx
    rw [hv'] at hu
    cases hu
    obtain rfl : v = Value.bool (bs.getD i false) := ru
    exact wpAny_truthy_bool hQ
  · have es : (List.range its.toArray.size).any (fun i => bs.getD i false) = bs.any id := by
      rw [List.size_toArray, ← hl]
      rw [Bool.eq_iff_iff, List.any_eq_true, List.any_eq_true]
      constructor
      · rintro ⟨i, hi, z⟩
        have hi := List.mem_range.mp hi
        exact ⟨_, List.getElem_mem hi, by simpa [List.getD_eq_getElem?_getD, List.getElem?_eq_getElem hi] using z⟩
      · rintro ⟨x, hx, z⟩
        obtain ⟨i, hi, rfl⟩ := List.mem_iff_getElem.mp hx
        exact ⟨i, List.mem_range.mpr hi, by simpa [List.getD_eq_getElem?_getD, List.getElem?_eq_getElem hi] using z⟩
    rw [es]
    exact ⟨.bl (bs.any id), H, I.kept fun b o e => hk b o (fun z => by have := List.mem_singleton.mp z; rw [this] at e; exact absurd (Heap.lt_size e) (Nat.lt_irrefl _)) (Heap.get?_push_of_some _ e), rfl, q⟩
theorem bt_any : bootBuiltins "any" = some (.builtin "any") := by decide +kernel
/-- two readings of one expression -/
theorem pe_or2 {e : Expr} {t u : TE} (h : PE X e t) (h' : PE X e u) : PE X e (fun σ H Q => t σ H Q ∨ u σ H Q) := fun pins s σ H Q I q => q.elim (fun q => h pins s σ H Q I q) (fun q => h' pins s σ H Q I q)
end
/-- the parts of a net of the laws of sets -/
structure PartsT (H : Hp) (p pt pg pu : Addr) (ts gs : List Addr) (z : Nat) (tk gv : List (List Int)) (us : List Int) : Prop where
  top : H p = some (.lst [.int (z : Int), .ref pt, .ref pg, .ref pu])
  ht : H pt = some (.lst (ts.map V.ref))
  tr : Rows H ts tk
  hg : H pg = some (.lst (gs.map V.ref))
  gr : Rows H gs gv
  hu : H pu = some (.lst (vints us))
theorem PartsT.same {H H' : Hp} {p pt pg pu : Addr} {ts gs : List Addr} {z : Nat} {tk gv : List (List Int)} {us : List Int} (P : PartsT H p pt pg pu ts gs z tk gv us) (S : Same H H') : PartsT H' p pt pg pu ts gs z tk gv us :=
  ⟨S _ _ P.top, S _ _ P.ht, P.tr.same S, S _ _ P.hg, P.gr.same S, S _ _ P.hu⟩
structure OkT (z : Nat) (tk gv : List (List Int)) (us : List Int) : Prop where
  z1 : 1 ≤ z
  z6 : z ≤ 6
  t8 : tk.length ≤ 8
  gl : gv.length = tk.length
  tk : ∀ r ∈ tk, okBag z r
  gv : ∀ r ∈ gv, okBag z r
  ul : us.length = z
  us : ∀ u ∈ us, 1 ≤ u ∧ u ≤ 250000000
theorem at_in {P : Int → Prop} {xs : List Int} {z i : Nat} (hx : xs.length = z) (hi : i < z) (h : ∀ x ∈ xs, P x) : P (xs.getD i 0) := by
  subst hx
  rw [getD_at hi]
  exact h _ (List.getElem_mem hi)
theorem prod3 {u t : Int} (hu : 1 ≤ u ∧ u ≤ 250000000) (ht : 0 ≤ t ∧ t ≤ 3) : 0 ≤ u * t ∧ u * t ≤ 1000000000 := by
  rcases (show t = 0 ∨ t = 1 ∨ t = 2 ∨ t = 3 by omega) with e | e | e | e <;> rw [e] <;> omega
end L2
namespace L2
open PySem PySem.Spec PyProof.Rows
def eit2 : List Str := [Str.ofString "a", Str.ofString "b", Str.ofString "c", Str.ofString "d", Str.ofString "e", Str.ofString "f", Str.ofString "g", Str.ofString "h"]
abbrev veit2 : List V := [V.str (Str.ofString "a"), V.str (Str.ofString "b"), V.str (Str.ofString "c"), V.str (Str.ofString "d"), V.str (Str.ofString "e"), V.str (Str.ofString "f"), V.str (Str.ofString "g"), V.str (Str.ofString "h")]
theorem eit2_ok : ∀ y ∈ eit2, okName y = true := by decide +kernel
theorem eit2_nd : eit2.Nodup := by decide +kernel
theorem cut_eit2 (k : Nat) : cutV veit2 none (some (k : Int)) = vstrs (eit2.take k) := by
  refine (cut_take _ _).trans ?_
  show (vstrs eit2).take k = _
  rw [vstrs, vstrs, List.map_take]
def netT (tk gv : List (List Int)) (fs : List Int) : NetV := ⟨six.take fs.length, eit2.take tk.length, tk, gv, fs⟩
theorem netT_len {tk gv : List (List Int)} {fs : List Int} (h6 : fs.length ≤ 6) : (netT tk gv fs).bowls.length = fs.length := by
  show (six.take fs.length).length = _
  rw [List.length_take]
  have : six.length = 6 := rfl
  omega
theorem netT_dlen {tk gv : List (List Int)} {fs : List Int} (h8 : tk.length ≤ 8) : (netT tk gv fs).doors.length = tk.length := by
  show (eit2.take tk.length).length = _
  rw [List.length_take]
  have : eit2.length = 8 := rfl
  omega
theorem netT_ok {tk gv : List (List Int)} {fs us : List Int} (o : OkT fs.length tk gv us) (hf : okBag fs.length fs) : (netT tk gv fs).Ok := by
  have e := netT_len (tk := tk) (gv := gv) o.z6
  have e2 := netT_dlen (gv := gv) (fs := fs) o.t8
  have z1 := o.z1
  have z6 := o.z6
  have t8 := o.t8
  refine ⟨by omega, by omega, by omega, fun y hy => six_ok y (List.mem_of_mem_take hy), fun y hy => eit2_ok y (List.mem_of_mem_take hy), six_nd.sublist (List.take_sublist ..), eit2_nd.sublist (List.take_sublist ..), e2.symm, by rw [e2]; exact o.gl, ?_, ?_, ?_⟩
  · rw [e]; exact o.tk
  · rw [e]; exact o.gv
  · rw [e]; exact hf
end L2
namespace L2
open PySem PySem.Spec PyProof.Rows
end L2

namespace L2
open PySem PySem.Spec PyProof.Rows
section
variable {prog : Program} {w : World} {A : Around} {E : Value → Shared → Prop} {s : Shared}
end
section
variable {X : Cx}
end
end L2
namespace L2
open PySem PySem.Spec PyProof.Rows
end L2

namespace L2
open PySem PySem.Spec PyProof.Rows
section
variable {prog : Program} {w : World} {A : Around} {R : Result → Shared → Prop} {I S : Addr} {fp wr : List Addr} {n : Nat} {P : Nat → Value → Prop} {St : Nat → Heap → Prop}
end
section
variable {X : Cx} {p pos kp : Pos} {e e2 : Expr} {t tk : TA}
end
end L2
namespace L2
open PySem PySem.Spec PyProof.Rows SeqAt
end L2
namespace L2
open PySem PySem.Spec PyProof.Rows SeqAt
section
variable {X : Cx}
end
end L2
namespace L2
open PySem PySem.Spec PyProof.Rows SeqAt
end L2
namespace L2
open PySem PySem.Spec PyProof.Rows SeqAt
end L2
namespace L2
open PySem PySem.Spec PyProof.Rows SeqAt
end L2

namespace L2
open PySem PySem.Spec PyProof.Rows SeqAt
end L2
namespace L2
open PySem PySem.Spec PyProof.Rows SeqAt
end L2
namespace L2
open PySem PySem.Spec PyProof.Rows SeqAt
end L2
namespace L2
end L2
namespace L2
open PySem PySem.Spec PyProof.Rows SeqAt
end L2
namespace L2
open PySem PySem.Spec PyProof.Rows SeqAt
end L2

namespace L2
open PySem PySem.Spec PyProof.Rows SeqAt
end L2
namespace L2
open PySem PySem.Spec PyProof.Rows SeqAt
end L2
namespace L2
open PySem PySem.Spec PyProof.Rows SeqAt
end L2
namespace L2
end L2

namespace L2
open PySem PySem.Spec PyProof.Rows SeqAt
section
variable {X : Cx}
theorem are_vals : ∀ {its : List Value} {ns : List Int}, IntsAre its ns → Vals (vints ns) its
  | [], ns, h => by
    have := h.length
    cases ns with
    | nil => exact .nil
    | cons a b => simp at this
  | v :: its, ns, h => by
    cases h with
    | cons n t r => exact .cons ⟨t, rfl⟩ (are_vals r)
end
end L2
namespace L2
open PySem PySem.Spec PyProof.Rows SeqAt
theorem bt_sorted : bootBuiltins "sorted" = some (.builtin "sorted") := by decide +kernel
end L2
namespace L2
open PySem PySem.Spec PyProof.Rows SeqAt
theorem zs_pairwise {l : List Nat} (h : l.Pairwise (· ≤ ·)) : (zs l).Pairwise (· ≤ ·) := by
  unfold zs
  exact List.pairwise_map.mpr (h.imp fun h => by omega)
end L2
namespace L2
open PySem PySem.Spec PyProof.Rows SeqAt
end L2

namespace L2
open PySem PySem.Spec PyProof.Rows

end L2

namespace L2
open PySem PySem.Spec PyProof.Rows









end L2

namespace L2
open PySem PySem.Spec PyProof.Rows



end L2

namespace L2
open PySem PySem.Spec PyProof.Rows

end L2

namespace L2
open PySem PySem.Spec PyProof.Rows











end L2

namespace L2
open PySem PySem.Spec PyProof.Rows


end L2

namespace L2
open PySem PySem.Spec PyProof.Rows




end L2

namespace L2
open PySem PySem.Spec PyProof.Rows










end L2

namespace L2
open PySem PySem.Spec PyProof.Rows









end L2

namespace L2
open PySem PySem.Spec PyProof.Rows

end L2

namespace L2
open PySem PySem.Spec PyProof.Rows

section
variable {κ : Type} [DecidableEq κ]
end


section
variable {P : Program} {w : World} {H : Hp} {h : Heap} {a : Addr}
end

section
variable {X : Cx} {pins : List (Addr × Obj)} {σ : St} {H : Hp} {s : Shared} {a : Addr} {y v : V} {u r : Value} {o : Option V} {A : Around} {E : Value → Shared → Prop}

end




/-- the element of a subscription, not a slice -/
def NoSl (i : Expr) : Prop := ∀ ov iv, subscripted i false ov iv = operate [ov, iv] (getItem ov iv)
theorem subD_of {prog : Program} {w : World} {A : Around} {E : Value → Shared → Prop} {s : Shared} {env : Env} {value slice : Expr} {pos : Pos} {T id : String} {Q : Value → Shared → Prop}
    (hl : typeLookup (.type T) "__getitem__" = pure (some (.builtin id))) (hs : NoSl slice)
    (h : wpAny (model prog w) A (eval value env) (fun o s₁ => wpAny (model prog w) A (eval slice env) (fun i s₂ => s₂.TypeIs o T ∧ wpAny (model prog w) A (getItem o i) Q E s₂) E s₁) E s) :
    wpAny (model prog w) A (eval (.Subscript value slice pos) env) Q E s := by
  refine Subscript_ (wpAny_mono h (fun o s₁ h₁ => wpAny_mono h₁ (fun i s₂ h₂ => ?_) fun _ _ x => x) fun _ _ x => x)
  obtain ⟨hT, h₂⟩ := h₂
  unfold subscriptTail
  refine wpAny_bind ?_
  rw [getitemInPython_of_ne hT.not_modules]
  refine wpAny_bind (wpAny_specialOf hT hl ?_)
  have fin : wpAny (model prog w) A (subscripted slice false o i) (fun r s₃ => wpAny (model prog w) A (letTemporaryGo value o r >>= fun _ => pure r) Q E s₃) E s₂ := by
    rw [hs o i]
    exact wpAny_operating (wpAny_mono h₂ (fun r s₃ h₃ => wpAny_bind (wpAny_letTemporaryGo (wpAny_pure h₃))) fun _ _ x => x)
  first
    | exact wpAny_pure (wpAny_bind fin)
    | exact wpAny_bind (wpAny_pure (wpAny_bind fin))
    | exact wpAny_bind fin

section
variable {X : Cx} {o i e value : Expr} {pos pos' tpos : Pos} {td ty tv : TE}
end


section
variable {X : Cx} {pos : Pos}
end

section
variable {X : Cx} {pins : List (Addr × Obj)} {σ : St} {H : Hp} {s : Shared} {a : Addr} {y d : V} {u r : Value} {o : Option V} {A : Around} {E : Value → Shared → Prop}
end

section
variable {X : Cx} {o e f : Expr} {apos cpos : Pos} {td ty tx : TE}
end





end L2

namespace Att
open PySem PySem.W PySem.Calls PyProof.Rows


end Att

namespace L2
open PySem PySem.Spec PyProof.Rows

end L2

namespace L2
open PySem PySem.Spec PyProof.Rows

end L2

/- THE LAST THEOREM (shape; LID, My.* are yours):
   My.Adr: a structure of the addresses that your layer names (classes, functions); My.Txt K t: a structure (Prop) of the equations over K;
   My.txt_mk : {K} {implicit addresses ..} (e1 : nsIn K mainGlobals "law" = some (some (.ref f))) (e2 : K.lookup f = some ⟨oc, od, .func (fnOf "law" "law" params body scope dV kV doc pm an cdv ct), sl⟩) (e3 : codeIn K cdv "law" = true) .. : ∃ t, My.Txt K t

(the tactic k_is has no namespace: write k_is) -/

namespace L2
open PySem PySem.Spec PyProof.Rows





end L2


namespace L2
open PySem PySem.Spec PyProof.Rows SeqAt
section
variable {prog : Program} {w : World} {A : Around} {E : Value → Shared → Prop} {s : Shared}
theorem collect_src {T : String} {r d : Addr} {n : Nat} {P : Nat → Value → Prop} {OK : Heap → Prop} {R : List Value → Shared → Prop} (K : W.KdlSrc prog w T r d n P OK) (hh : A.handled = none) (ok : OK s.heap) (hn : n ≤ sizeLine)
    (q : ∀ (h' : Heap) (tk : Nat) (acc : Array Value), (∀ b o, s.heap.get? b = some o → h'.get? b = some o) → s.heap.objs.size ≤ h'.objs.size → ItemsOf P acc n → R acc.toList { s with heap := h', toks := tk }) :
    wpAny (model prog w) A (collect (.ref r)) R E s := by
  obtain ⟨t1, t2⟩ := K.there _ ok
  have hg : (s.heap.push { cls := .type "list", data := .seq #[] }).get? s.heap.objs.size = some { cls := .type "list", data := .seq #[] } := Heap.get?_push_size _ rfl
  refine wpAny_bind (wpAny_runValue (codeAny_builtin entry_proto_collect' ?_))
  rw [Around.under_plainId F.plain_proto_collect _]
  show wpAny _ A.in1 (newList [] >>= _) _ _ s
  refine wpAny_bind (wpAny_newList ?_ (by simp))
  refine wpAny_pure ⟨plainId_quiet F.plain_list_iadd _, codeAny_builtin entry_list_iadd' ?_⟩
  rw [Around.under_plainId F.plain_list_iadd _]
  show wpAny _ A.in1 (slotArgs "__iadd__" 1 ⟨[.ref s.heap.objs.size, .ref r], []⟩ >>= _) _ _ _
  refine wpAny_bind (wpAny_of_eq (show slotArgs "__iadd__" 1 ⟨[.ref s.heap.objs.size, .ref r], []⟩ = pure (.ref s.heap.objs.size, [.ref r]) from rfl) ?_)
  refine W.kdl_extend (R := fun r s' => match r with
    | .ok (.ret v) => wpAny (model prog w) A (match v with
      | Value.ref a => do
        let o ← load a
        match o.data with
        | Data.seq xs _ => pure xs.toList
        | _ => unsupported "internal:collect"
      | _ => unsupported "internal:collect") R E s'
    | .ok _ => False
    | .error e => E e s') (s := { s with heap := s.heap.push { cls := .type "list", data := .seq #[] } }) K hh (K.keep _ _ ok fun b _ o e => Heap.get?_push_of_some _ e) s.heap.objs.size (Nat.ne_of_gt t1) (Nat.ne_of_gt t2) (.ref s.heap.objs.size) 0 hg (fun h' tk acc c kp h1 it => ?_) hn
  refine wpAny_bind (wpAny_load h1 (wpAny_pure (q h' tk acc (fun b o e => ?_) (Nat.le_of_lt (Heap.lt_size h1)) it)))
  exact kp b o (Nat.ne_of_lt (Heap.lt_size e)) (Heap.get?_push_of_some _ e)
end
section
variable {X : Cx}
variable {p pos kp : Pos} {e e2 : Expr} {t tk : TA}
end
end L2

namespace L2
open PySem PySem.Spec PyProof.Rows
theorem slot_si_next : Slot "set_iterator" "__next__" "set_iterator.__next__" :=
  Slot.of (owner := "set_iterator") (n := "__next__") (by rw [typeLookup_type, builtinLookup_eq_fast]; kernel_rfl) (by decide +kernel) (by decide +kernel) (by decide +kernel) (by first | exact .inl (by decide +kernel) | exact .inr (by decide +kernel)) (by rw [isSubtype_type]; kernel_rfl)
theorem entry_si_next : entryFor table "set_iterator.__next__" = some Builtin.«set_iterator.__next__» := entryFor_of_tree (by kernel_rfl)
theorem owner_si : Manifest.owners.lookup (String.ofList ['r', 'o', 't', 'a', 'r', 'e', 't', 'i', '_', 't', 'e', 's'].reverse) = some Manifest.sig_set_iterator := by kernel_rfl
theorem args_si_next (a : Value) : argsOk "set_iterator.__next__" ⟨[a], []⟩ := by
  unfold argsOk; rw [signature?_of (id := "set_iterator.__next__") (n := ['_', '_', 't', 'x', 'e', 'n', '_', '_']) (o := ['r', 'o', 't', 'a', 'r', 'e', 't', 'i', '_', 't', 'e', 's']) (by kernel_rfl) owner_si]; kernel_rfl
theorem slot_si_iter : Slot "set_iterator" "__iter__" "set_iterator.__iter__" :=
  Slot.of (owner := "set_iterator") (n := "__iter__") (by rw [typeLookup_type, builtinLookup_eq_fast]; kernel_rfl) (by decide +kernel) (by decide +kernel) (by decide +kernel) (by first | exact .inl (by decide +kernel) | exact .inr (by decide +kernel)) (by rw [isSubtype_type]; kernel_rfl)
theorem entry_si_iter : entryFor table "set_iterator.__iter__" = some Builtin.«dict_keyiterator.__iter__» :=
  entryFor_alias (id' := "dict_keyiterator.__iter__") (by kernel_rfl) rfl (by decide +kernel) (by kernel_rfl)
theorem args_si_iter (a : Value) : argsOk "set_iterator.__iter__" ⟨[a], []⟩ := by
  unfold argsOk; rw [signature?_of (id := "set_iterator.__iter__") (n := ['_', '_', 'r', 'e', 't', 'i', '_', '_']) (o := ['r', 'o', 't', 'a', 'r', 'e', 't', 'i', '_', 't', 'e', 's']) (by kernel_rfl) owner_si]; kernel_rfl
theorem entry_seti : entryFor table "set.__iter__" = some Builtin.«frozenset.__iter__» :=
  entryFor_alias (id' := "frozenset.__iter__") (by kernel_rfl) rfl (by decide +kernel) (by kernel_rfl)
theorem pick_go {α : Type} (next : Nat → Nat) : ∀ (fuel k : Nat) (left : List α) (out : Array α), left.length = fuel → (pickOrder.go next fuel k left out).toList.Perm (out.toList ++ left) := by
  intro fuel
  induction fuel with
  | zero =>
    intro k left out h
    rw [List.length_eq_zero_iff.mp h, List.append_nil]
    exact List.Perm.refl _
  | succ fuel ih =>
    intro k left out h
    have hlt : next k % left.length < left.length := Nat.mod_lt _ (by omega)
    unfold pickOrder.go
    rw [List.getElem?_eq_getElem hlt]
    try dsimp only
    refine (ih (k + 1) (left.eraseIdx (next k % left.length)) _ (by rw [List.length_eraseIdx_of_lt hlt]; omega)).trans ?_
    rw [Array.toList_push, List.append_assoc]
    refine List.Perm.append_left _ ?_
    show (left[next k % left.length] :: left.eraseIdx (next k % left.length)).Perm left
    generalize next k % left.length = j at hlt ⊢
    rw [List.eraseIdx_eq_take_drop_succ]
    have e : left = left.take j ++ left[j] :: left.drop (j + 1) := by rw [← List.drop_eq_getElem_cons hlt, List.take_append_drop]
    refine List.perm_middle.symm.trans ?_
    rw [← e]
theorem pick_perm {α : Type} (next : Nat → Nat) (xs : Array α) : (pickOrder next xs).toList.Perm xs.toList := by
  unfold pickOrder
  have := pick_go next xs.size 0 xs.toList #[] (by simp)
  simpa using this
/-- a set with these entries, in this table -/
def SetA (h : Heap) (a : Addr) (es : List (Int × Value)) (ep : Nat) (t : SetTable) : Prop := ∃ o, h.get? a = some o ∧ o.ExactSet ∧ o.data = .set es.toArray ep t
def SiA (h : Heap) (I a : Addr) (slot i n ep : Nat) : Prop := ∃ o, h.get? I = some o ∧ o.cls = .type "set_iterator" ∧ o.data = .fields #[.int slot 0, .int i 0, .ref a, .int n 0, .int ep 0]
/-- in which order it is walked -/
def walkS (w : World) (a : Addr) (ep : Nat) (es : List (Int × Value)) : List Value :=
  if w.params.followText "set-order" then (pickOrder (w.params.setOrder a ep) es.toArray).toList.map (·.2) else es.map (·.2)
theorem walkS_perm (w : World) (a : Addr) (ep : Nat) (es : List (Int × Value)) : (walkS w a ep es).Perm (es.map (·.2)) := by
  unfold walkS
  split
  · exact (by simpa using pick_perm (w.params.setOrder a ep) es.toArray : (pickOrder (w.params.setOrder a ep) es.toArray).toList.Perm es).map _
  · exact List.Perm.refl _
theorem walkS_len (w : World) (a : Addr) (ep : Nat) (es : List (Int × Value)) : (walkS w a ep es).length = es.length := by rw [(walkS_perm w a ep es).length_eq, List.length_map]
structure Walkable (w : World) (es : List (Int × Value)) (t : SetTable) : Prop where
  fits : t.fits es.length = true
  rise : RiseA t.place
  led : w.params.followText "set-order" = false → t.led = true ∧ t.plain = true
theorem SetA.type {s : Shared} {a : Addr} {es ep t} (h : SetA s.heap a es ep t) : s.TypeIs (.ref a) "set" := let ⟨o, ho, hx, _⟩ := h; ⟨o, ho, hx.1⟩
theorem SiA.type {s : Shared} {I a : Addr} {sl i n ep} (h : SiA s.heap I a sl i n ep) : s.TypeIs (.ref I) "set_iterator" := let ⟨o, ho, hx, _⟩ := h; ⟨o, ho, hx⟩
theorem SetA.at' {h h' : Heap} {a : Addr} {es ep t} (x : SetA h a es ep t) (e : ∀ o, h.get? a = some o → h'.get? a = some o) : SetA h' a es ep t := let ⟨o, ho, r⟩ := x; ⟨o, e _ ho, r⟩
theorem SiA.at' {h h' : Heap} {I a : Addr} {sl i n ep} (x : SiA h I a sl i n ep) (e : ∀ o, h.get? I = some o → h'.get? I = some o) : SiA h' I a sl i n ep := let ⟨o, ho, r⟩ := x; ⟨o, e _ ho, r⟩
section
variable {prog : Program} {w : World} {A : Around} {E : Value → Shared → Prop} {s : Shared} {a I : Addr} {es : List (Int × Value)} {ep : Nat} {t : SetTable}
theorem drawn_no (T : Walkable w es t) {Q : Bool → Shared → Prop} (hs : SetA s.heap a es ep t) (h : Q false s) : wpAny (model prog w) A (setDrawn a) Q E s := by
  obtain ⟨o, ho, hx, hd⟩ := hs
  unfold setDrawn
  refine wpAny_bind (wpAny_setState_of ho hd (by rw [List.size_toArray]; exact T.fits) ?_)
  try dsimp only
  unfold setsByText
  refine wpAny_bind (wpAny_bind (wpAny_askSetting (wpAny_pure ?_)))
  refine wpAny_pure ?_
  cases e : w.params.followText "set-order" with
  | true =>
    show Q (!(w.params.followText "set-order") && _) s
    rw [e]
    exact h
  | false =>
    have hp := (T.led e).2
    show Q (!(w.params.followText "set-order") && (!t.plain && _)) s
    rw [e, hp]
    exact h
theorem iter_set (T : Walkable w es t) {Q : Value → Shared → Prop} (hs : SetA s.heap a es ep t) (h : Q (.ref s.heap.objs.size) { s with heap := s.heap.push { cls := .type "set_iterator", data := .fields #[.int ((0 : Nat) : Int) 0, .int ((0 : Nat) : Int) 0, .ref a, .int es.length 0, .int ep 0] } }) :
    wpAny (model prog w) A (pyIter (.ref a)) Q E s := by
  obtain ⟨o, ho, hx, hd⟩ := id hs
  refine wpAny_pyIter_slot hs.type PySem.F.slot_set_iter (wpAny_call_entry PySem.F.slot_set_iter hs.type entry_seti ?_ (PySem.F.args_set_iter_1 _))
  unfold Builtin.«frozenset.__iter__» Builtin.Frozenset.slot0
  refine wpAny_bind (wpAny_bind (wpAny_of_eq (show slotArgs "__iter__" 0 ⟨[.ref a], []⟩ = pure (.ref a, []) from rfl) ?_))
  refine wpAny_pure ?_
  unfold Builtin.Frozenset.sizeOf
  refine wpAny_bind (wpAny_bind (wpAny_setEntries_of ho hd (by rw [List.size_toArray]; exact T.fits) (wpAny_pure ?_)))
  refine wpAny_bind (drawn_no T hs ?_)
  rw [if_neg Bool.false_ne_true]
  refine wpAny_bind (wpAny_pure ?_)
  refine wpAny_bind (wpAny_setEpoch_of ho hd (by rw [List.size_toArray]; exact T.fits) ?_)
  unfold newFields
  refine wpAny_bind (wpAny_newObj_type (wpAny_pure ⟨_, rfl, "set_iterator", _, ⟨_, Heap.get?_push_size _ rfl, rfl⟩, slot_si_next.lookup, ?_⟩))
  simpa [rawInt] using h
theorem next_set (T : Walkable w es t) {Q : Option (Value × Nat) → Shared → Prop} {sl i : Nat} (hs : SetA s.heap a es ep t) (hb : w.params.followText "set-order" = false → SetTable.below t.place sl = i)
    (h1 : ∀ (x : Value) (sl' : Nat), (walkS w a ep es)[i]? = some x → (w.params.followText "set-order" = false → SetTable.below t.place sl' = i + 1) → Q (some (x, sl')) s)
    (h2 : (walkS w a ep es)[i]? = none → Q none s) : wpAny (model prog w) A (setNext a sl i ep) Q E s := by
  obtain ⟨o, ho, hx, hd⟩ := id hs
  have hf : t.fits es.toArray.size = true := by rw [List.size_toArray]; exact T.fits
  unfold setNext
  refine wpAny_bind (wpAny_setState_of ho hd hf ?_)
  try dsimp only
  unfold setsByText
  refine wpAny_bind (wpAny_bind (wpAny_askSetting (wpAny_pure ?_)))
  try dsimp only
  cases e : w.params.followText "set-order" with
  | true =>
    rw [show (model prog w).w = w from rfl, e]
    simp only [bne_self_eq_false, Bool.false_eq_true, if_false, if_true]
    refine wpAny_bind ?_
    unfold setWalk
    refine wpAny_bind (wpAny_setState_of ho hd hf ?_)
    try dsimp only
    unfold setsByText
    refine wpAny_bind (wpAny_bind (wpAny_askSetting (wpAny_pure ?_)))
    try dsimp only
    rw [show (model prog w).w = w from rfl, e]
    simp only [if_true]
    refine wpAny_bind (wpAny_askSetting (wpAny_pure (wpAny_pure ?_)))
    have ew : walkS w a ep es = (pickOrder (w.params.setOrder a ep) es.toArray).toList.map (·.2) := by unfold walkS; rw [if_pos e]
    rw [ew, List.getElem?_map, Array.getElem?_toList] at h1 h2
    show Q (((pickOrder (w.params.setOrder a ep) es.toArray)[i]?).map fun e => (e.2, sl)) s
    cases hg : (pickOrder (w.params.setOrder a ep) es.toArray)[i]? with
    | none => rw [hg] at h2; exact h2 rfl
    | some y => rw [hg] at h1; exact h1 y.2 sl rfl (fun z => by rw [e] at z; cases z)
  | false =>
    have ⟨hl, hp⟩ := T.led e
    have hb := hb e
    rw [show (model prog w).w = w from rfl, e]
    simp only [Bool.false_eq_true, if_false]
    refine wpAny_ite_split (fun hab => ?_) (fun _ => ?_)
    · have hab : (!t.plain && _) = true := hab
      rw [hp] at hab
      cases hab
    refine wpAny_bind ?_
    show wpAny _ _ (if (!t.led && !es.toArray.isEmpty) = true then _ else _) _ _ s
    rw [hl, if_neg (by rw [Bool.not_true, Bool.false_and]; decide)]
    refine wpAny_pure (wpAny_pure ?_)
    have ew : walkS w a ep es = es.map (·.2) := by unfold walkS; rw [if_neg (by rw [e]; decide)]
    rw [ew, List.getElem?_map] at h1 h2
    have hsz : t.place.size = es.length := by
      have := T.fits
      unfold SetTable.fits at this
      rw [Bool.and_eq_true, beq_iff_eq] at this
      exact this.1
    rw [hb]
    cases hg : es[i]? with
    | none =>
      rw [hg] at h2
      have : es.toArray[i]? = none := by rw [List.getElem?_toArray]; exact hg
      rw [this]
      exact h2 rfl
    | some y =>
      rw [hg] at h1
      have hi : i < es.length := (List.getElem?_eq_some_iff.mp hg).1
      have e1 : es.toArray[i]? = some y := by rw [List.getElem?_toArray]; exact hg
      have e2 : t.place[i]? = some (t.place[i]'(by omega)) := Array.getElem?_eq_getElem (by omega)
      rw [e1, e2]
      exact h1 y.2 (t.place[i]'(by omega) + 1) rfl fun _ => below_next T.rise (by omega)
theorem pyNext_set {Q : Option Value → Shared → Prop} (T : Walkable w es t) {sl i : Nat} (hh : A.handled = none) (hs : SetA s.heap a es ep t) (hI : SiA s.heap I a sl i es.length ep) (hb : w.params.followText "set-order" = false → SetTable.below t.place sl = i)
    (h1 : ∀ (x : Value) (sl' : Nat) (h' : Heap), (walkS w a ep es)[i]? = some x → (w.params.followText "set-order" = false → SetTable.below t.place sl' = i + 1) → SiA h' I a sl' (i + 1) es.length ep → Heap.SameBut I s.heap h' → Q (some x) { s with heap := h' })
    (h2 : (walkS w a ep es)[i]? = none → ∀ h', Heap.ExtBut I s.heap h' → Q none { s with heap := h' }) : wpAny (model prog w) A (pyNext (.ref I)) Q E s := by
  obtain ⟨oa, hoa, hxa, hda⟩ := id hs
  obtain ⟨o, ho, hc, hd⟩ := id hI
  have hf : t.fits es.toArray.size = true := by rw [List.size_toArray]; exact T.fits
  unfold pyNext
  refine wpAny_bind (wpAny_attempt (wpAny_callSpecial?_slot (name := Str.ofString "__next__") hI.type slot_si_next (wpAny_call_entry slot_si_next hI.type entry_si_next ?_ (args_si_next _))))
  unfold Builtin.«set_iterator.__next__»
  refine wpAny_bind (wpAny_of_eq (show slotArgs "__next__" 0 ⟨[.ref I], []⟩ = pure (.ref I, []) from rfl) ?_)
  refine wpAny_bind (wpAny_fieldsOf ho hd ?_)
  try dsimp only
  refine wpAny_bind (wpAny_setEntries_of hoa hda hf ?_)
  rw [List.size_toArray, if_neg (by simp)]
  rw [Int.toNat_natCast, Int.toNat_natCast, Int.toNat_natCast]
  refine wpAny_bind (next_set T hs hb (fun x sl' hw hb' => ?_) fun hw => ?_)
  · try dsimp only
    refine wpAny_bind (wpAny_setField ho hd (by simp) ?_)
    have hd1 : (Obj.mapFields (·.setIfInBounds 0 (rawInt (sl' : Int))) o).data = .fields #[.int sl' 0, .int i 0, .ref a, .int es.length 0, .int ep 0] := by rw [Obj.data_mapFields hd]; simp [rawInt]
    have ho1 := Heap.get?_update_self (Obj.mapFields (·.setIfInBounds 0 (rawInt (sl' : Int)))) ho (Obj.isFreed_of_fields (Obj.data_mapFields hd _))
    refine wpAny_bind (wpAny_setField ho1 hd1 (by simp) ?_)
    have hI' : SiA ((s.heap.update I (Obj.mapFields (·.setIfInBounds 0 (rawInt (sl' : Int))))).update I (Obj.mapFields (·.setIfInBounds 1 (rawInt ((i : Int) + 1))))) I a sl' (i + 1) es.length ep :=
      ⟨_, Heap.get?_update_self _ ho1 (Obj.isFreed_of_fields (Obj.data_mapFields hd1 _)), (Obj.cls_mapFields ..).trans ((Obj.cls_mapFields ..).trans hc), by rw [Obj.data_mapFields hd1]; simp [rawInt]⟩
    exact wpAny_pure ⟨_, rfl, wpAny_pure (h1 x sl' _ hw hb' hI' ((Heap.SameBut.update ..).trans (Heap.SameBut.update ..)))⟩
  · try dsimp only
    refine wpAny_bind (wpAny_setField ho hd (by simp) ?_)
    refine wpAny_bind ?_
    simp only [newExc, newTuple]
    refine wpAny_bind (wpAny_newObj_type ?_ (by size_fits))
    refine wpAny_bind (m := firstArgMember _ _) (wpAny_of_eq (a := Value.none) (by first | rfl | (simp only [firstArgMember]; rfl)) ?_)
    refine wpAny_newObj_type ?_ (by size_fits)
    simp only [raiseNew]
    refine wpAny_bind (wpAny_handled ?_)
    rw [show A.in1.handled = none from hh]
    refine wpAny_bind (wpAny_pure (wpAny_throw ?_))
    refine wpAny_bind (wpAny_isInstance (T := "StopIteration") (b := true) ⟨_, Heap.get?_push_size _ rfl, rfl⟩ isSubtype_stop ?_)
    exact wpAny_pure (h2 hw _ (((Heap.SameBut.update ..).extBut.push _).push _))
theorem walks_set (T : Walkable w es t) (hh : A.handled = none) (I a : Addr) (hne : a ≠ I) :
    Walks prog w A I [I, a] [I] es.length (fun i v => (walkS w a ep es)[i]? = some v) (fun i h => ∃ sl, SiA h I a sl i es.length ep ∧ (w.params.followText "set-order" = false → SetTable.below t.place sl = i) ∧ SetA h a es ep t) where
  sub := fun b hb => by simp at hb; simp [hb]
  frame := fun i h h' ⟨sl, h1, h2, h3⟩ hk => ⟨sl, h1.at' fun o e => hk I (by simp) o e, h2, h3.at' fun o e => hk a (by simp) o e⟩
  item := fun i s Q E hi ⟨sl, h1, h2, h3⟩ hQ => by
    refine pyNext_set T hh h3 h1 h2 (fun x sl' h' hw hb hI' hs' => ?_) fun hw => ?_
    · exact hQ x h' s.toks hw ⟨sl', hI', hb, h3.at' fun o e => hs'.extBut a o hne e⟩ fun b o hb e => hs'.extBut b o (fun h => hb (by simp [h])) e
    · rw [List.getElem?_eq_none_iff, walkS_len] at hw
      omega
  done := fun s Q E ⟨sl, h1, h2, h3⟩ hQ => by
    refine pyNext_set T hh h3 h1 h2 (fun x sl' h' hw _ _ _ => ?_) fun hw h' he' => hQ h' s.toks fun b o hb e => he' b o (fun h => hb (by simp [h])) e
    have := (List.getElem?_eq_some_iff.mp hw).1
    rw [walkS_len] at this
    omega
  self := fun i s Q E ⟨sl, h1, h2, h3⟩ hQ => by
    refine wpAny_pyIter_slot h1.type slot_si_iter (wpAny_call_entry slot_si_iter h1.type entry_si_iter ?_ (args_si_iter _))
    show wpAny _ _ (ret (.ref I)) _ _ s
    exact wpAny_pure ⟨_, rfl, "set_iterator", _, h1.type, slot_si_next.lookup, hQ⟩
theorem hint_set {Q : Bool → Shared → Prop} {r : Addr} (hT : s.TypeIs (.ref r) "set") (h : Q false s) : wpAny (model prog w) A (Builtin.List.listLengthHint (.ref r)) Q E s := by
  unfold Builtin.List.listLengthHint
  refine wpAny_bind (wpAny_specialOf hT PySem.F.slot_set_len.lookup ?_)
  generalize hid : ("set.__len__" : String) = id0
  wp_delta
  rw [show splitId id0 = some ("set", "__len__") from by subst hid; decide +kernel]
  subst hid
  refine wpAny_bind (wpAny_isInstance (T := "set") (b := true) hT (by rw [isSubtype_type]; kernel_rfl) ?_)
  refine wpAny_ite_split (fun hab => absurd hab (by decide)) (fun _ => ?_)
  refine wpAny_ite_split (fun _ => ?_) (fun hab => absurd (by decide +kernel) hab)
  refine wpAny_bind (wpAny_typeOf hT ?_)
  exact wpAny_pure h
theorem kdl_set (T : Walkable w es t) : W.KdlSrc prog w "set" a a es.length (fun i v => (walkS w a ep es)[i]? = some v) (fun h => SetA h a es ep t) where
  type := fun _ hm => hm.type
  there := fun _ ⟨_, ho, _⟩ => ⟨Heap.lt_size ho, Heap.lt_size ho⟩
  keep := fun _ _ hm hk => hm.at' fun o e => hk a (.inl rfl) o e
  notList := by decide
  notTuple := by decide
  hint := fun _ _ _ _ hm hq => hint_set hm.type hq
  iter := fun _ s hh hm => ⟨_, _, (fun _ _ hq => iter_set T hm hq), walks_set T hh _ a (Nat.ne_of_lt (let ⟨_, ho, _⟩ := hm; Heap.lt_size ho)),
    ⟨0, ⟨_, Heap.get?_push_size _ rfl, rfl, rfl⟩, fun _ => below_zero T.rise, hm.at' fun o e => Heap.get?_push_of_some _ e⟩⟩
end
end L2

namespace L2
open PySem PySem.Spec PyProof.Rows
def stP (S : List Nat) : Array (Int × Value) × SetTable :=
  (S.toArray.map fun (k : Nat) => ((k : Int), Value.int (k : Int) 0), { mask := if S.length < 5 then 7 else 31, place := S.toArray, dummies := #[], finger := 0, led := true, moves := if S.length < 5 then 0 else 1, plain := true })
def subsN : Nat → List (List Nat)
  | 0 => [[]]
  | n + 1 => subsN n ++ (subsN n).map (· ++ [n])
theorem subsN_filter (g : Nat → Bool) : ∀ n, (List.range n).filter g ∈ subsN n
  | 0 => by rw [List.range_zero, List.filter_nil]; exact List.mem_singleton.mpr rfl
  | n + 1 => by
    rw [List.range_succ, List.filter_append]
    unfold subsN
    rw [List.mem_append]
    cases e : g n with
    | true => exact .inr (List.mem_map.mpr ⟨_, subsN_filter g n, by simp [e]⟩)
    | false => exact .inl (by simpa [e] using subsN_filter g n)
def insN (S : List Nat) (k : Nat) : List Nat := (List.range 6).filter fun x => x == k || S.contains x
def okStep (S : List Nat) (k : Nat) : Bool :=
  S.contains k || (decide ((addP (stP S) (k : Int)).2 = (stP (insN S k)).2) && decide ((addP (stP S) (k : Int)).1.toList.map (·.1) = (stP (insN S k)).1.toList.map (·.1)))
theorem okSteps : ((subsN 6).all fun S => (List.range 6).all fun k => okStep S k) = true := by decide +kernel
theorem addP_same {p p' : Array (Int × Value) × SetTable} (h1 : SameH p.1 p'.1) (h2 : p.2 = p'.2) (k : Int) : SameH (addP p k).1 (addP p' k).1 ∧ (addP p k).2 = (addP p' k).2 := by
  obtain ⟨es, t⟩ := p
  obtain ⟨es', t'⟩ := p'
  try dsimp only at h1 h2
  subst h2
  have sl := layNew_same (t := t) h1 (hashInt k) (.int k 0) (.int k 0)
  unfold addP
  try dsimp only
  generalize layNew t es (hashInt k) (.int k 0) = L at sl ⊢
  generalize layNew t es' (hashInt k) (.int k 0) = L' at sl ⊢
  obtain ⟨a, b⟩ := L
  obtain ⟨a', b'⟩ := L'
  try dsimp only at sl ⊢
  obtain ⟨s1, rfl⟩ := sl
  split
  · rw [s1.size]
    have sr := relay_same (t := b.1) s1 (SetTable.grown a'.size)
    exact ⟨sr.1, by dsimp only; rw [sr.2]⟩
  · exact ⟨s1, rfl⟩
theorem mkP_is : ∀ (n : Nat) (l : List Int), l.length = n → l.Nodup → (∀ x ∈ l, 0 ≤ x ∧ x < 6) → SameH (mkP true l).1 (stP ((List.range 6).filter fun (x : Nat) => decide ((x : Int) ∈ l))).1 ∧ (mkP true l).2 = (stP ((List.range 6).filter fun (x : Nat) => decide ((x : Int) ∈ l))).2 := by
  intro n
  induction n with
  | zero =>
    intro l hl _ _
    rw [List.length_eq_zero_iff.mp hl]
    have : ((List.range 6).filter fun (x : Nat) => decide ((x : Int) ∈ ([] : List Int))) = [] := by decide
    rw [this]
    exact ⟨(show Array.map (·.1) (#[] : Array (Int × Value)) = _ from by decide +kernel), rfl⟩
  | succ n ih =>
    intro l hl nd hb
    obtain ⟨l', k, rfl⟩ : ∃ l' k, l = l' ++ [k] := by
      rcases List.eq_nil_or_concat l with h | ⟨l', k, h⟩
      · rw [h] at hl; cases hl
      · exact ⟨l', k, by rw [h, List.concat_eq_append]⟩
    have hl' : l'.length = n := by simpa using hl
    obtain ⟨nd1, _, nd2⟩ := List.nodup_append.mp nd
    have hk : k ∉ l' := fun h => nd2 k h k (by simp) rfl
    obtain ⟨i1, i2⟩ := ih l' hl' nd1 fun x hx => hb x (by simp [hx])
    obtain ⟨k0, k6⟩ := hb k (by simp)
    obtain ⟨m, rfl⟩ := Int.eq_ofNat_of_zero_le k0
    have hS := subsN_filter (fun (x : Nat) => decide ((x : Int) ∈ l')) 6
    have ok := List.all_eq_true.mp (List.all_eq_true.mp okSteps _ hS) m (List.mem_range.mpr (by omega))
    have nc : ((List.range 6).filter fun (x : Nat) => decide ((x : Int) ∈ l')).contains m = false := by
      rw [Bool.eq_false_iff]
      intro h
      rw [List.contains_iff_mem, List.mem_filter] at h
      exact hk (by simpa using h.2)
    unfold okStep at ok
    rw [nc, Bool.false_or, Bool.and_eq_true, decide_eq_true_eq, decide_eq_true_eq] at ok
    have ei : insN ((List.range 6).filter fun (x : Nat) => decide ((x : Int) ∈ l')) m = (List.range 6).filter fun (x : Nat) => decide ((x : Int) ∈ l' ++ [(m : Int)]) := by
      unfold insN
      refine List.filter_congr fun x hx => ?_
      rw [Bool.eq_iff_iff]
      simp only [Bool.or_eq_true, beq_iff_eq, List.contains_iff_mem, List.mem_filter, hx, true_and, decide_eq_true_eq, List.mem_append, List.mem_singleton]
      constructor
      · rintro (h | h)
        · exact .inr (by rw [h])
        · exact .inl h
      · rintro (h | h)
        · exact .inr h
        · exact .inl (Int.ofNat.inj h)
    rw [mkP_snoc, ← ei]
    obtain ⟨a1, a2⟩ := addP_same i1 i2 (m : Int)
    exact ⟨a1.trans (by
      have := ok.2
      apply Array.toList_inj.mp
      rw [Array.toList_map, Array.toList_map]
      exact this), a2.trans ok.1⟩
theorem mkP_plain {l : List Int} (nd : l.Nodup) (hb : ∀ x ∈ l, 0 ≤ x ∧ x < 6) : (mkP true l).2.plain = true := by
  rw [(mkP_is l.length l rfl nd hb).2]
  rfl
section
variable {X : Cx}
/-- a set of small whole numbers, by those that are in it -/
def setI (P : Program) (w : World) (p : Addr) (l : List Int) : HO := .ext fun h => ∃ es ep t, SetA h p es ep t ∧ Walkable w es t ∧ ElemsOf (intKind P w) es ∧ (es.map keyE).Perm l
theorem metK_nodup {κ : Type} [DecidableEq κ] (val : Nat → κ) : ∀ i, (metK val i).Nodup
  | 0 => List.nodup_nil
  | i + 1 => by
    show (put1 (metK val i) (val i)).Nodup
    unfold put1
    split
    · exact metK_nodup val i
    · next h => exact List.nodup_append.mpr ⟨metK_nodup val i, by simp, fun a ha b hb e => h (by rw [List.mem_singleton] at hb; rw [← hb, ← e]; exact ha)⟩
/-- set(xs) of numbers from 0 to 5 -/
theorem call_setI (hc : X.calm = true) : CallR X (.type "set") (fun xs H Q => ∃ (a : Addr) (ns : List Int), xs = [.ref a] ∧ SqL X.K H a (vints ns) ∧ ns.length ≤ 1000 ∧ (∀ x ∈ ns, 0 ≤ x ∧ x < 6) ∧ ∀ l : List Int, l.Nodup → (∀ x, x ∈ l ↔ x ∈ ns) → ∀ p, H p = none → Q (.ref p) (upd H p (setI X.prog X.w p l))) := by
  intro pins s σ H xs us Q I r h
  obtain ⟨a, ns, e, hq, hl, hb, q⟩ := h
  subst e
  obtain ⟨u, rfl, r1⟩ := vals1 r
  obtain rfl : u = Value.ref a := r1
  obtain ⟨its, rv, p, hz⟩ := I.list hq
  have len := rv.length
  rw [ints_len] at len
  refine set_fromK (val := fun i => ns.getD i 0) (I.ok.hd hc) p.isList (fun i v hv => ?_) (by rw [List.size_toArray, ← len]; unfold scanBound; omega) fun h' tk es hS pe hk => ?_
  · have hv' : its[i]? = some v := by simpa using hv
    have hi : i < ns.length := by rw [len]; exact (List.getElem?_eq_some_iff.mp hv').1
    have hx : (vints ns)[i]? = some (V.int (ns.getD i 0)) := by
      rw [List.getElem?_map, List.getElem?_eq_getElem hi]
      simp [List.getD_eq_getElem?_getD, List.getElem?_eq_getElem hi]
    obtain ⟨u, hu, ru⟩ := rv.get hx
    rw [hv'] at hu
    cases hu
    exact ru
  · have es0 : its.toArray.size = ns.length := by rw [List.size_toArray, len]
    rw [es0] at hS pe
    have nd := metK_nodup (fun i => ns.getD i 0) ns.length
    have hm : ∀ x, x ∈ metK (fun i => ns.getD i 0) ns.length ↔ x ∈ ns := fun x => by
      rw [metK_mem]
      constructor
      · rintro ⟨j, hj, e⟩
        rw [← e, List.getD_eq_getElem?_getD, List.getElem?_eq_getElem hj]
        exact List.getElem_mem hj
      · intro h
        obtain ⟨j, hj, e⟩ := List.getElem_of_mem h
        exact ⟨j, hj, by rw [List.getD_eq_getElem?_getD, List.getElem?_eq_getElem hj]; exact e⟩
    generalize metK (fun i => ns.getD i 0) ns.length = l at hS pe nd hm
    obtain ⟨o, ep, t, ho, hex, hd, hel, hsb, hf, T, sh, st⟩ := hS
    have W1 : Walkable X.w es t := ⟨hf, T.rise, fun e => by
      have hl : t.led = true := by rw [T.led, e]; rfl
      refine ⟨hl, ?_⟩
      rw [st, e]
      exact mkP_plain nd fun x hx => hb x ((hm x).mp hx)⟩
    have I1 : Inv X pins σ H { s with heap := h', toks := tk } := I.kept fun b o e => hk b o (Heap.lt_size e) e
    have I2 := I1.track (o := setI X.prog X.w s.heap.objs.size l) (I.fpOk (Nat.le_refl _) (I.hok.fresh (Nat.le_refl _))) ⟨⟨es, ep, t, ⟨o, ho, hex, hd⟩, W1, hel, pe⟩, ⟨o, ho⟩, fun h1 h2 ⟨es, ep, t, h3, h4⟩ k => ⟨es, ep, t, h3.at' k, h4⟩⟩
    exact ⟨.ref s.heap.objs.size, _, I2, rfl, q l nd hm _ (I.hok.fresh (Nat.le_refl _))⟩
theorem ints_by : ∀ {xs ys : List Value} {l : List Int}, xs.Perm ys → IntsAre ys l → ∃ l', IntsAre xs l' ∧ l'.Perm l := by
  intro xs ys l h
  induction h generalizing l with
  | nil => intro h; cases h; exact ⟨[], .nil, .nil⟩
  | cons x _ ih =>
    intro h
    cases h with
    | cons n t r =>
      obtain ⟨l', h1, h2⟩ := ih r
      exact ⟨n :: l', .cons n t h1, h2.cons _⟩
  | swap x y _ =>
    intro h
    cases h with
    | cons n t r =>
      cases r with
      | cons m u r => exact ⟨m :: n :: _, .cons m u (.cons n t r), .swap ..⟩
  | trans _ _ ih1 ih2 =>
    intro h
    obtain ⟨l1, h1, p1⟩ := ih2 h
    obtain ⟨l2, h2, p2⟩ := ih1 h1
    exact ⟨l2, h2, p2.trans p1⟩
theorem elems_ints {P : Program} {w : World} : ∀ {es : List (Int × Value)}, ElemsOf (intKind P w) es → IntsAre (es.map (·.2)) (es.map keyE)
  | [], _ => .nil
  | e :: es, h => by
    obtain ⟨t, ht⟩ := key_is h List.mem_cons_self
    rw [List.map_cons, List.map_cons, ht]
    exact .cons _ t (elems_ints fun x hx => h x (List.mem_cons_of_mem _ hx))
/-- sorted of such a set -/
theorem call_sortedS (hc : X.calm = true) : CallR X (.builtin "sorted") (fun xs H Q => ∃ (a : Addr) (l : List Int), xs = [.ref a] ∧ H a = some (setI X.prog X.w a l) ∧ l.length < 64 ∧ ∀ ns' : List Int, ns'.Perm l → ns'.Pairwise (· ≤ ·) → ∀ p, H p = none → Q (.ref p) (upd H p (.lst (vints ns')))) := by
  intro pins s σ H xs us Q I r h
  obtain ⟨a, l, e, hq, h64, q⟩ := h
  subst e
  obtain ⟨u, rfl, r1⟩ := vals1 r
  obtain rfl : u = Value.ref a := r1
  obtain ⟨⟨es, ep, t, hS, T, hel, pe⟩, _⟩ := I.hok a _ hq
  have el : es.length = l.length := by rw [← pe.length_eq, List.length_map]
  refine Calls.call_function_entry kind_sorted plain_sorted entry_sorted (args_sorted1 _) ?_
  show wpAny _ X.A.in1 (checkCount "sorted" 1 1 1 >>= _) _ _ s
  refine wpAny_bind (wpAny_pure ?_)
  refine wpAny_bind (collect_src (A := X.A.in1) (kdl_set (ep := ep) T) (I.ok.hd hc) hS (by rw [sizeLine_eq]; omega) fun h' tk acc kp hsz it => ?_)
  have ea : acc.toList = walkS X.w a ep es := by
    refine List.ext_getElem? fun j => ?_
    by_cases hj : j < es.length
    · have h1 : j < acc.size := by rw [it.1]; exact hj
      have := it.2 j acc[j] (Array.getElem?_eq_getElem h1)
      rw [this, Array.getElem?_toList, Array.getElem?_eq_getElem h1]
    · rw [List.getElem?_eq_none (by rw [Array.length_toList, it.1]; omega), List.getElem?_eq_none (by rw [walkS_len]; omega)]
  obtain ⟨l1, hi, p1⟩ := ints_by (walkS_perm X.w a ep es) (elems_ints hel)
  rw [← ea] at hi
  have al : acc.toList.length = l.length := by rw [Array.length_toList, it.1, el]
  have l1l : l1.length = l.length := (p1.trans pe).length_eq
  refine wpAny_bind (wpAny_newList ?_ (by rw [sizeLine_eq]; omega))
  have hg : (h'.push { cls := .type "list", data := .seq acc.toList.toArray }).get? h'.objs.size = some (seqObj "list" acc.toList.toArray 0) := Heap.get?_push_size _ rfl
  refine wpAny_bind (wpAny_holding (wpAny_call_entry slot_list_sort ⟨_, hg, rfl⟩ entry_list_sort ?_ (args_list_sort _)))
  refine list_sort_tree (s := { s with heap := h'.push { cls := .type "list", data := .seq acc.toList.toArray }, toks := tk }) hg hi (by omega) fun out ns' a1 a2 a3 => ?_
  refine ⟨_, rfl, wpAny_pure ⟨_, rfl, ?_⟩⟩
  obtain ⟨c, hc⟩ := sortedHeap_at (out := out) hg
  have hv := are_vals a1
  refine ⟨.ref _, upd H _ (.lst (vints ns')), I.laid (t' := tk) (fun b o e => ?_) hsz (show ObjOk X.prog X.w _ _ _ (.lst (vints ns')) from ⟨?_, out.toList, c, hv, by rw [Array.toArray_toList]; exact hc⟩), rfl, q ns' (a2.trans (p1.trans pe)) a3 _ (I.hok.fresh hsz)⟩
  · have hb := Heap.lt_size (kp b o e)
    rw [sortedHeap_old (Nat.ne_of_lt hb) (by rw [size_push']; exact Nat.lt_succ_of_lt hb)]
    exact Heap.get?_push_of_some _ (kp b o e)
  · rw [ints_len, a2.length_eq, l1l]; exact Nat.le_of_lt (small70 (by omega))
end
end L2

namespace L2
open PySem PySem.Spec PyProof.Rows SeqAt
inductive Rsn where
  | no
  | yes (t : Bool) (ws : List Int)
def kindS : Bool → Str
  | true => "trap"
  | false => "weight"
def RsnIn (H : Hp) (v : V) : Rsn → Prop
  | .no => v = .non
  | .yes t ws => ∃ a l, v = .ref a ∧ H a = some (.tup [.str (kindS t), .ref l]) ∧ H l = some (.lst (vints ws))
theorem RsnIn.same {H H' : Hp} {v : V} : ∀ {r : Rsn}, RsnIn H v r → Same H H' → RsnIn H' v r
  | .no, h, _ => h
  | .yes _ _, ⟨a, l, e, h1, h2⟩, S => ⟨a, l, e, S _ _ h1, S _ _ h2⟩
end L2

namespace L2
open PySem PySem.Spec PyProof.Rows
section
variable {X : Cx}
end
end L2
namespace L2
open PySem PySem.Spec PyProof.Rows PySem.SeqAt
section
variable {X : Cx} {pins : List (Addr × Obj)} {σ : St} {H : Hp} {s : Shared} {A : Around} {a b : Addr}
theorem rcT_true {xs ys : List V} (I : Inv X pins σ H s) (hu : A.units < cLine) (qa : SqT X.K H a xs) (qb : SqT X.K H b ys) (hl : xs.length = ys.length)
    (he : ∀ (j : Nat) (x y : V) (u v : Value), xs[j]? = some x → ys[j]? = some y → RelV x u → RelV y v → EqAt A.in1 s u v true) : RcAt A s (.ref a) (.ref b) true ∧ RcNeAt A s (.ref a) (.ref b) false := by
  obtain ⟨its, rv, p, _⟩ := I.tuple qa
  obtain ⟨its2, rw', p2, _⟩ := I.tuple qb
  have l1 := rv.length
  have l2 := rw'.length
  have hh : ∀ j (h1 : j < its.toArray.size) (h2 : j < its2.toArray.size), EqAt A.in1 s its.toArray[j] its2.toArray[j] ((fun _ => true) j) := fun j h1 h2 => by
    rw [List.size_toArray] at h1 h2
    obtain ⟨u, hu1, ru⟩ := rv.get (i := j) (List.getElem?_eq_getElem (by omega))
    obtain ⟨v, hv1, rv2⟩ := rw'.get (i := j) (List.getElem?_eq_getElem (by omega))
    rw [List.getElem_toArray, List.getElem_toArray, (List.getElem?_eq_some_iff.mp hu1).2, (List.getElem?_eq_some_iff.mp hv1).2]
    exact he j _ _ u v (List.getElem?_eq_getElem (by omega)) (List.getElem?_eq_getElem (by omega)) ru rv2
  have hsz : (its.toArray.size == its2.toArray.size) = true := by simp; omega
  have q := RcAt.tuples (A := A) (show s.heap.IsTuple a its.toArray from p) (show s.heap.IsTuple b its2.toArray from p2) hu hh
  have q2 := RcNeAt.tuples (A := A) (show s.heap.IsTuple a its.toArray from p) (show s.heap.IsTuple b its2.toArray from p2) hu hh
  rw [hsz] at q q2
  simp only [Bool.and_true, List.all_eq_true] at q q2
  have al : ∀ n : Nat, ((List.range n).all fun _ => true) = true := fun n => by simp
  rw [al] at q q2
  exact ⟨q, q2⟩
end
end L2

namespace L2
open PySem PySem.Spec PyProof.Rows PySem.SeqAt
def vm : Option Int → V
  | none => .non
  | some i => .int i
abbrev vmk (ms : List (Option Int)) : List V := ms.map vm
theorem vmk_mem {ms : List (Option Int)} {x : V} (h : x ∈ vmk ms) : ∃ o, o ∈ ms ∧ x = vm o := by
  obtain ⟨n, hn, e⟩ := List.mem_map.mp h
  exact ⟨n, hn, e.symm⟩
theorem flat_mk (ms : List (Option Int)) : ∀ x ∈ vmk ms, flatV x = true ∧ eqV x x = true := fun x hx => by
  obtain ⟨o, _, rfl⟩ := vmk_mem hx
  cases o with
  | none => exact ⟨rfl, rfl⟩
  | some i => exact ⟨rfl, by simp [vm, eqV]⟩
section
variable {X : Cx}
end
end L2
namespace L2
open PySem PySem.Spec PyProof.Rows
end L2

namespace L2
open PySem PySem.Spec PyProof.Rows PySem.SeqAt
section
variable {X : Cx} {pins : List (Addr × Obj)} {σ : St} {H : Hp} {s : Shared} {A : Around} {a b : Addr} {l h : List (Option Int)}
end
end L2

namespace L2
open PySem PySem.Spec PyProof.Rows PySem.SeqAt
section
variable {X : Cx} {tg : Expr}
end
abbrev Mark := List (Option Int)
def MRows (H : Hp) (as : List Addr) (ms : List Mark) : Prop := Paired (fun (a : Addr) (r : Mark) => H a = some (.lst (vmk r))) as ms
theorem MRows.same {H H' : Hp} {as : List Addr} {ms : List Mark} (h : MRows H as ms) (S : Same H H') : MRows H' as ms := Paired.mapP h fun _ _ e => S _ _ e
section
variable {X : Cx} {pins : List (Addr × Obj)} {σ : St} {H : Hp} {s : Shared} {A : Around} {a b : Addr}
end
end L2
namespace L2
open PySem PySem.Spec PyProof.Rows
end L2
namespace L2
open PySem PySem.Spec PyProof.Rows
end L2

namespace L2
open PySem PySem.Spec PyProof.Rows
structure DctK (w : World) (K : PySem.W.Frag) (a : Addr) (kfs : List (Str × Addr)) : Prop where
  ob : ∃ o es ep, K.lookup a = some o ∧ o.ExactDict ∧ o.data = .dict es ep ∧ Paired (fun (e : DictEntry) (p : Str × Addr) => (∃ t, e.key = .str p.1 t) ∧ e.val = .ref p.2 ∧ e.hash = keyH w (.inr p.1)) es.toList kfs
  nd : (kfs.map (·.1)).Nodup
  ns : (a == sysModules) = false
def kvOf (kfs : List (Str × Addr)) : List (Key × Value) := kfs.map fun p => ((Sum.inr p.1 : Key), Value.ref p.2)
def atF (kfs : List (Str × Addr)) (k : Str) : Option Addr := (kfs.find? fun p => decide (p.1 = k)).map (·.2)
theorem valueAt_kv (k : Str) : ∀ kfs : List (Str × Addr), valueAt (kvOf kfs) (Sum.inr k : Key) = (atF kfs k).map Value.ref
  | [] => rfl
  | p :: r => by
    have ih := valueAt_kv k r
    unfold valueAt kvOf atF at ih ⊢
    rw [List.map_cons, List.find?_cons, List.find?_cons]
    by_cases e : p.1 = k
    · have e1 : decide ((Sum.inr p.1 : Key) = Sum.inr k) = true := decide_eq_true (by rw [e])
      simp only [e1, decide_eq_true e]
      rfl
    · have e1 : decide ((Sum.inr p.1 : Key) = Sum.inr k) = false := decide_eq_false (fun z => e (Sum.inr.inj z))
      simp only [e1, decide_eq_false e]
      exact ih
theorem DctK.dict {P : Program} {w : World} {K : PySem.W.Frag} {a : Addr} {kfs : List (Str × Addr)} (d : DctK w K a kfs) {h : Heap} (X : K.In h) : h.DictOf (mixKind P w) a (kvOf kfs) := by
  obtain ⟨o, es, ep, hk, ex, ed, pr⟩ := d.ob
  have keys : ∀ {l : List DictEntry} {m : List (Str × Addr)}, Paired (fun (e : DictEntry) (p : Str × Addr) => (∃ t, e.key = .str p.1 t) ∧ e.val = .ref p.2 ∧ e.hash = keyH w (.inr p.1)) l m → (∀ e ∈ l, ∃ k, (mixKind P w).is k e.key = true ∧ e.hash = (mixKind P w).hash k) ∧ Pairs (mixKind P w) l (kvOf m) := by
    intro l m q
    induction q with
    | nil => exact ⟨fun e h => (nomatch h), .nil⟩
    | @cons e p es ps h t ih =>
      obtain ⟨⟨t', h1⟩, h2, h3⟩ := h
      have i : (mixKind P w).is (Sum.inr p.1) e.key = true := by rw [h1]; exact mixKind_str P w p.1 t'
      refine ⟨fun e' h' => ?_, .cons i h2 ih.2⟩
      rcases List.mem_cons.mp h' with z | z
      · rw [z]; exact ⟨Sum.inr p.1, i, h3⟩
      · exact ih.1 e' z
  obtain ⟨k1, k2⟩ := keys pr
  refine ⟨o, es, ep, X a o hk, ex, ed, fun e he => k1 e (Array.mem_toList_iff.mpr he), k2, ?_⟩
  have : (kvOf kfs).map (·.1) = (kfs.map (·.1)).map fun s => (Sum.inr s : Key) := by
    unfold kvOf
    rw [List.map_map, List.map_map]
    rfl
  rw [this]
  exact List.Pairwise.map _ (fun x y h z => h (Sum.inr.inj z)) d.nd
section
variable {X : Cx} {a f : Addr} {kfs : List (Str × Addr)}
def rGIn (a : Addr) (kfs : List (Str × Addr)) : R2 := fun x y H Q => ∃ k : Str, x = .str k ∧ y = .ref a ∧ Q (.bl (atF kfs k).isSome) H
theorem op_gin (d : DctK X.w X.K a kfs) : OpR X (compareOp .In) (rGIn a kfs) := by
  intro pins s σ H x y v u Q I rx ry h
  obtain ⟨k, rfl, rfl, q⟩ := h
  obtain ⟨t, rfl⟩ := rx
  cases ry
  refine wpAny_in_of (mixKind_str X.prog X.w k t) d.ns (d.dict I.kIn).mapOf ?_
  rw [valueAt_kv, Option.isSome_map]
  exact ⟨.bl _, H, I.tok _, rfl, q⟩
theorem arm_eval_Call_Sub (o i : Expr) (p : Pos) (args : List Expr) (keywords : List Keyword) (pos : Pos) (env : Env) : eval (.Call (.Subscript o i p) args keywords pos) env = (do
    callWith pos (← eval (.Subscript o i p) env) [] (backTo pos (starEach args env)) (backToKw pos (keywordEach keywords env))) := rfl
def tCallD (a : Addr) (kfs : List (Str × Addr)) (f : Addr) (sp : Sp) (dvs : List V) (E : XK) (td ti : TE) (t : TA) : TE := fun σ H Q => td σ H fun x H1 => ti σ H1 fun y H2 => ∃ k : Str, x = .ref a ∧ y = .str k ∧ atF kfs k = some f ∧ t σ H2 fun vs H3 => sp (vs ++ dvs) H3 Q E
theorem pe_callD {CX : CXT} {k : Nat} {fd : FuncData} {ps : List Str} {sp : Sp} {ds : List Value} {dvs : List V} {E : XK} {o i e : Expr} {es : List Expr} {p1 pos : Pos} {td ti : TE} {t : TA} (d : DctK X.w X.K a kfs) (F : FnOk X.prog X.w X.K X.mg X.base CX k f fd ps sp) (hr : Room k X.A) (hk : PySem.W.keepIn X.K (.ref f) = true) (hb : Binds X.K fd ps ds) (hd : Vals dvs ds) (hx : Passes CX X E) (ho : PE X o td) (hi : PE X i ti) (hs : NoSl i) (ha : PA X (e :: es) t)
    (he : starEach (e :: es) X.env = (false, eval e X.env) :: starEach es X.env := by rfl) (hpl : (backTo pos (starEach es X.env)).any (·.1) = false := by rfl) :
    PE X (.Call (.Subscript o i p1) (e :: es) [] pos) (tCallD a kfs f sp dvs E td ti t) := by
  intro pins s σ H Q I h
  rw [arm_eval_Call_Sub]
  refine wpAny_bind (subD_of PySem.F.slot_dict_getitem.lookup hs (thn (ho pins s σ H _ I h) fun u s1 ⟨x, H1, I1, rx, q1⟩ => thn (hi pins s1 σ H1 _ I1 q1) fun iv s2 ⟨y, H2, I2, ry, k', ex, ey, ef, q2⟩ => ?_))
  subst ex ey
  cases rx
  obtain ⟨t', rfl⟩ := ry
  have dd := d.dict (P := X.prog) I2.kIn
  refine ⟨dd.typeIs, wpAny_getItem_of (mixKind_str X.prog X.w k' t') dd.mapOf (by rw [valueAt_kv, ef]; rfl) ?_⟩
  refine PySem.W.callWith_K (h₀ := X.base) I2.ok.mod.kin hk (thn (ha pos pins _ σ H2 _ (I2.tok _) q2) fun us s3 ⟨vs, H3, I3, r3, q3⟩ => ⟨I3.kIn, ?_⟩) he hpl
  exact run_fn F hr hb hd hx I3 r3 q3
end
end L2

namespace L2
open PySem PySem.Spec PyProof.Rows SeqAt
def Lk (K : PySem.W.Frag) (H : Hp) : Nat → V → V → Prop
  | 0, x, y => flatV x = true ∧ flatV y = true ∧ eqV x y = true
  | n + 1, x, y => (flatV x = true ∧ flatV y = true ∧ eqV x y = true) ∨ ∃ a b xs ys, x = .ref a ∧ y = .ref b ∧ Paired (Lk K H n) xs ys ∧ ((SqL K H a xs ∧ SqL K H b ys) ∨ (SqT K H a xs ∧ SqT K H b ys))
theorem Lk.refl0 {K : PySem.W.Frag} {H : Hp} {n : Nat} {x : V} (h : flatV x = true) (h2 : eqV x x = true) : Lk K H n x x := by
  cases n with
  | zero => exact ⟨h, h, h2⟩
  | succ n => exact .inl ⟨h, h, h2⟩
theorem Lk.int {K : PySem.W.Frag} {H : Hp} {n : Nat} (i : Int) : Lk K H n (.int i) (.int i) := Lk.refl0 rfl (beq_self_eq_true i)
theorem Lk.str {K : PySem.W.Frag} {H : Hp} {n : Nat} (i : Str) : Lk K H n (.str i) (.str i) := Lk.refl0 rfl (beq_self_eq_true i)
theorem Lk.non {K : PySem.W.Frag} {H : Hp} {n : Nat} : Lk K H n .non .non := Lk.refl0 rfl rfl
theorem Lk.ints {K : PySem.W.Frag} {H : Hp} {n : Nat} : ∀ (l : List Int), Paired (Lk K H n) (vints l) (vints l)
  | [] => .nil
  | i :: l => .cons (.int i) (Lk.ints l)
theorem Lk.marks {K : PySem.W.Frag} {H : Hp} {n : Nat} : ∀ (l : List (Option Int)), Paired (Lk K H n) (vmk l) (vmk l)
  | [] => .nil
  | none :: l => .cons .non (Lk.marks l)
  | some i :: l => .cons (.int i) (Lk.marks l)
theorem Lk.lst {K : PySem.W.Frag} {H : Hp} {n : Nat} {a b : Addr} {xs ys : List V} (h : Paired (Lk K H n) xs ys) (ha : H a = some (.lst xs)) (hb : H b = some (.lst ys)) : Lk K H (n + 1) (.ref a) (.ref b) :=
  .inr ⟨a, b, xs, ys, rfl, rfl, h, .inl ⟨SqL.of ha, SqL.of hb⟩⟩
theorem Lk.tup {K : PySem.W.Frag} {H : Hp} {n : Nat} {a b : Addr} {xs ys : List V} (h : Paired (Lk K H n) xs ys) (ha : H a = some (.tup xs)) (hb : H b = some (.tup ys)) : Lk K H (n + 1) (.ref a) (.ref b) :=
  .inr ⟨a, b, xs, ys, rfl, rfl, h, .inr ⟨SqT.of ha, SqT.of hb⟩⟩
section
variable {X : Cx} {pins : List (Addr × Obj)} {σ : St} {H : Hp} {s : Shared}
theorem Lk.eqAt (I : Inv X pins σ H s) : ∀ (n : Nat) (A : Around) (x y : V) (u v : Value), A.units + n < cLine → Lk X.K H n x y → RelV x u → RelV y v → EqAt A s u v true
  | 0, A, x, y, u, v, _, h, ru, rv => by
    have q := eqAt_V (A := A) (s := s) ru rv h.1 h.2.1
    rw [h.2.2] at q
    exact q
  | n + 1, A, x, y, u, v, hu, h, ru, rv => by
    rcases h with h | ⟨a, b, xs, ys, rfl, rfl, h, q⟩
    · have q := eqAt_V (A := A) (s := s) ru rv h.1 h.2.1
      rw [h.2.2] at q
      exact q
    · cases ru
      cases rv
      have he : ∀ (j : Nat) (x y : V) (u v : Value), xs[j]? = some x → ys[j]? = some y → RelV x u → RelV y v → EqAt A.in1 s u v true := fun j x y u v hx hy ru rv => by
        obtain ⟨y', hy', l⟩ := Paired.getL h hx
        rw [hy] at hy'
        cases hy'
        exact Lk.eqAt I n A.in1 x y u v (by rw [in1_units]; omega) l ru rv
      rcases q with ⟨qa, qb⟩ | ⟨qa, qb⟩
      · exact eq_of_rc (rc_true I (by omega) qa qb (Paired.length h) he).1
      · exact eq_of_rc (rcT_true I (by omega) qa qb (Paired.length h) he).1
inductive rLk (K : PySem.W.Frag) (n : Nat) (v : Bool) (x : V) (y : V) (H : Hp) (Q : VK) : Prop
  | mk : ∀ (a b : Addr), (x = .ref a) → (y = .ref b) → (Lk K H n x y) → (Q (.bl v) H) → rLk K n v x y H Q
theorem rc_lk {n : Nat} {a b : Addr} (I : Inv X pins σ H s) (hu : X.A.units + n < cLine) (h : Lk X.K H n (.ref a) (.ref b)) : RcAt X.A s (.ref a) (.ref b) true ∧ RcNeAt X.A s (.ref a) (.ref b) false := by
  cases n with
  | zero => cases h.1
  | succ n =>
    rcases h with h | ⟨a', b', xs, ys, e1, e2, h, q⟩
    · cases h.1
    cases e1
    cases e2
    have he : ∀ (j : Nat) (x y : V) (u v : Value), xs[j]? = some x → ys[j]? = some y → RelV x u → RelV y v → EqAt X.A.in1 s u v true := fun j x y u v hx hy ru rv => by
      obtain ⟨y', hy', l⟩ := Paired.getL h hx
      rw [hy] at hy'
      cases hy'
      exact Lk.eqAt I n X.A.in1 x y u v (by rw [in1_units]; omega) l ru rv
    rcases q with ⟨qa, qb⟩ | ⟨qa, qb⟩
    · exact rc_true I (by omega) qa qb (Paired.length h) he
    · exact rcT_true I (by omega) qa qb (Paired.length h) he
end
section
variable {X : Cx}
theorem op_neLk (n : Nat) (hu : X.A.units + n < cLine) : OpR X (compareOp .NotEq) (rLk X.K n false) := by
  intro pins s σ H x y v u Q I rx ry h
  obtain ⟨a, b, rfl, rfl, l, q⟩ := h
  cases rx
  cases ry
  exact (rc_lk I hu l).2 _ _ _ _ ⟨.bl _, H, I, rfl, q⟩
def insAt {α : Type} (l : List α) (k : Nat) (x : α) : List α := l.take k ++ x :: l.drop k
inductive rInsert (x : V) (vs : List V) (H : Hp) (Q : VK) : Prop
  | mk : ∀ (l : Addr) (xs : List V) (i : Int) (y : V), (x = .ref l) → (vs = [.int i, y]) → (H l = some (.lst xs)) → (0 ≤ i) → (i ≤ xs.length) → (xs.length < 1000) → (Q .non (upd H l (.lst (insAt xs i.toNat y)))) → rInsert x vs H Q
theorem mt_insert : MtM X "list.insert" rInsert := by
  intro pins s σ H x vs v us Q I rx rv h
  obtain ⟨l, xs, i, y, rfl, rfl, hH, h0, hk, hz, q⟩ := h
  cases rx
  obtain ⟨u1, u, rfl, ⟨t, rfl⟩, ru⟩ := vals2 rv
  obtain ⟨z, its, n, r, hl, e⟩ := I.lstM hH
  have hlen := r.length
  have sl : 1001 ≤ sizeLine := by rw [sizeLine_eq]; decide
  have k1 : -(2 ^ 63) ≤ i := by omega
  have k2 : i < 2 ^ 63 := by omega
  have hf : ¬ (!Builtin.List.listFitsIndex i) = true := by rw [fitsIndex_both k1 k2]; exact Bool.false_ne_true
  have hs : its.toArray.size ≤ sizeLine := by rw [List.size_toArray]; omega
  refine call_meets F.slot_list_insert ⟨_, e, rfl⟩ F.entry_list_insert (F.args_list_insert_3 _ _ _) (AutoSeq1.list_insert_list_int_val_1 l its.toArray n i t u hf hs) ⟨e, ?_⟩
  refine ⟨.non, _, I.lset (its' := insAt its i.toNat u) hH e ?_ ?_ ?_, rfl, q⟩
  · have hmin : min i.toNat its.toArray.size = i.toNat := by rw [List.size_toArray]; omega
    try dsimp only
    rw [if_neg (by omega), hmin]
    apply Array.toList_inj.mp
    simp only [insAt, Array.toList_append, Array.toList_push, Array.toList_extract, List.extract_eq_take_drop, Nat.sub_zero, List.drop_zero, List.append_assoc, List.cons_append, List.nil_append, List.size_toArray]
    have td : (its.drop i.toNat).take (its.length - i.toNat) = its.drop i.toNat := List.take_of_length_le (by rw [List.length_drop]; exact Nat.le_refl _)
    rw [td]
  · unfold insAt
    exact (r.take _).append (.cons ru (r.drop _))
  · unfold insAt
    simp
    omega
end
inductive MkK where
  | fence | room | wants
def mkW : MkK → Str
  | .fence => "fence"
  | .room => "room"
  | .wants => "wants"
def wrS : Bool → Str
  | true => "run"
  | false => "branch"
def stS : Bool → Str
  | true => "dry"
  | false => "wet"
inductive Pap where
  | wr (r : Bool) (bs : List (Int × List Int))
  | mk (k : MkK) (ms : List Mark)
  | fall (ws : List Int)
  | sum (ws : List Int) (p : Int)
  | st (d : Bool) (bs : List Int)
  | kept (rs : List Rsn)
  | most (bs : List (Int × List Int)) (q : Pap)
def wordP : Pap → Str
  | .wr r _ => wrS r
  | .mk k _ => mkW k
  | .fall _ => "fall"
  | .sum _ _ => "sum"
  | .st d _ => stS d
  | .kept _ => "kept"
  | .most _ _ => "most"
def BAt (H : Hp) (a : Addr) (b : Int × List Int) : Prop := ∃ q, H a = some (.tup [.int b.1, .ref q]) ∧ H q = some (.lst (vints b.2))
def BRows (H : Hp) (as : List Addr) (bs : List (Int × List Int)) : Prop := Paired (BAt H) as bs
theorem BRows.same {H H' : Hp} {as : List Addr} {bs : List (Int × List Int)} (h : BRows H as bs) (S : Same H H') : BRows H' as bs := Paired.mapP h fun _ _ ⟨q, e1, e2⟩ => ⟨q, S _ _ e1, S _ _ e2⟩
def PapIn (H : Hp) : V → Pap → Prop
  | v, .wr r bs => ∃ a l as, v = .ref a ∧ H a = some (.tup [.str (wrS r), .ref l]) ∧ H l = some (.lst (as.map V.ref)) ∧ BRows H as bs
  | v, .mk k ms => ∃ a l as, v = .ref a ∧ H a = some (.tup [.str (mkW k), .ref l]) ∧ H l = some (.lst (as.map V.ref)) ∧ MRows H as ms
  | v, .fall ws => ∃ a l, v = .ref a ∧ H a = some (.tup [.str "fall", .ref l]) ∧ H l = some (.lst (vints ws))
  | v, .sum ws p => ∃ a l, v = .ref a ∧ H a = some (.tup [.str "sum", .ref l, .int p]) ∧ H l = some (.lst (vints ws))
  | v, .st d bs => ∃ a l, v = .ref a ∧ H a = some (.tup [.str (stS d), .ref l]) ∧ H l = some (.lst (vints bs))
  | v, .kept rs => ∃ a l vs, v = .ref a ∧ H a = some (.tup [.str "kept", .ref l]) ∧ H l = some (.lst vs) ∧ Paired (RsnIn H) vs rs
  | v, .most bs q => ∃ a l as u, v = .ref a ∧ H a = some (.tup [.str "most", .ref l, u]) ∧ H l = some (.lst (as.map V.ref)) ∧ BRows H as bs ∧ PapIn H u q
theorem PapIn.same {H H' : Hp} (S : Same H H') : ∀ {P : Pap} {v : V}, PapIn H v P → PapIn H' v P
  | .wr _ _, _, ⟨a, l, as, e, h1, h2, h3⟩ => ⟨a, l, as, e, S _ _ h1, S _ _ h2, h3.same S⟩
  | .mk _ _, _, ⟨a, l, as, e, h1, h2, h3⟩ => ⟨a, l, as, e, S _ _ h1, S _ _ h2, h3.same S⟩
  | .fall _, _, ⟨a, l, e, h1, h2⟩ => ⟨a, l, e, S _ _ h1, S _ _ h2⟩
  | .sum _ _, _, ⟨a, l, e, h1, h2⟩ => ⟨a, l, e, S _ _ h1, S _ _ h2⟩
  | .st _ _, _, ⟨a, l, e, h1, h2⟩ => ⟨a, l, e, S _ _ h1, S _ _ h2⟩
  | .kept _, _, ⟨a, l, vs, e, h1, h2, h3⟩ => ⟨a, l, vs, e, S _ _ h1, S _ _ h2, Paired.mapP h3 fun _ _ h => h.same S⟩
  | .most _ _, _, ⟨a, l, as, u, e, h1, h2, h3, h4⟩ => ⟨a, l, as, u, e, S _ _ h1, S _ _ h2, h3.same S, PapIn.same S h4⟩
/-- two that tell the same paper are told alike -/
theorem pair_of {α : Type} {F : V → α → Prop} {G : V → V → Prop} : ∀ {us vs : List V} {ps : List α}, Paired F us ps → Paired F vs ps → (∀ u v p, F u p → F v p → G u v) → Paired G us vs
  | _, _, _, .nil, .nil, _ => .nil
  | _, _, _, .cons h t, .cons h' t', g => .cons (g _ _ _ h h') (pair_of t t' g)
theorem pair_ofR {α : Type} {F : Addr → α → Prop} {G : V → V → Prop} : ∀ {us vs : List Addr} {ps : List α}, Paired F us ps → Paired F vs ps → (∀ u v p, F u p → F v p → G (.ref u) (.ref v)) → Paired G (us.map V.ref) (vs.map V.ref)
  | _, _, _, .nil, .nil, _ => .nil
  | _, _, _, .cons h t, .cons h' t', g => .cons (g _ _ _ h h') (pair_ofR t t' g)
theorem lk_brows {K : PySem.W.Frag} {H : Hp} {as as' : List Addr} {bs : List (Int × List Int)} (h : BRows H as bs) (h' : BRows H as' bs) : Paired (Lk K H 2) (as.map V.ref) (as'.map V.ref) :=
  pair_ofR h h' fun _ _ _ ⟨_, e1, e2⟩ ⟨_, f1, f2⟩ => .tup (.cons (.int _) (.cons (.lst (Lk.ints _) e2 f2) .nil)) e1 f1
theorem lk_mrows {K : PySem.W.Frag} {H : Hp} {as as' : List Addr} {ms : List Mark} (h : MRows H as ms) (h' : MRows H as' ms) : Paired (Lk K H 1) (as.map V.ref) (as'.map V.ref) :=
  pair_ofR h h' fun _ _ _ e1 f1 => .lst (Lk.marks _) e1 f1
theorem lk_rsn {K : PySem.W.Frag} {H : Hp} {u v : V} : ∀ {r : Rsn}, RsnIn H u r → RsnIn H v r → Lk K H 2 u v
  | .no, h, h' => by rw [show u = V.non from h, show v = V.non from h']; exact .non
  | .yes t ws, ⟨a, l, e, h1, h2⟩, ⟨a', l', e', h1', h2'⟩ => by
    rw [e, e']
    exact .tup (.cons (.str _) (.cons (.lst (Lk.ints _) h2 h2') .nil)) h1 h1'
theorem Lk.up {K : PySem.W.Frag} {H : Hp} : ∀ (n : Nat) {x y : V}, Lk K H n x y → Lk K H (n + 1) x y
  | 0, _, _, h => .inl h
  | n + 1, _, _, h => by
    rcases h with h | ⟨a, b, xs, ys, e1, e2, p, q⟩
    · exact .inl h
    · exact .inr ⟨a, b, xs, ys, e1, e2, Paired.mapP p fun _ _ h => Lk.up n h, q⟩
theorem Lk.ups {K : PySem.W.Frag} {H : Hp} {n : Nat} {x y : V} (m : Nat) (h : Lk K H n x y) : Lk K H (n + m) x y := by
  induction m with
  | zero => exact h
  | succ m ih => exact Lk.up _ ih
/-- how deep a paper is told -/
def deepP : Pap → Nat
  | .most _ q => deepP q + 1
  | _ => 4
theorem deepP_ge : ∀ P : Pap, 4 ≤ deepP P
  | .wr _ _ => Nat.le_refl _
  | .mk _ _ => Nat.le_refl _
  | .fall _ => Nat.le_refl _
  | .sum _ _ => Nat.le_refl _
  | .st _ _ => Nat.le_refl _
  | .kept _ => Nat.le_refl _
  | .most _ q => Nat.le_succ_of_le (deepP_ge q)
theorem pap_lk {K : PySem.W.Frag} {H : Hp} : ∀ {P : Pap} {u v : V}, PapIn H u P → PapIn H v P → Lk K H (deepP P) u v
  | .wr _ _, _, _, ⟨a, l, as, e, h1, h2, h3⟩, ⟨a', l', as', e', h1', h2', h3'⟩ => by
    rw [e, e']
    exact .tup (.cons (.str _) (.cons (.lst (lk_brows h3 h3') h2 h2') .nil)) h1 h1'
  | .mk _ _, _, _, ⟨a, l, as, e, h1, h2, h3⟩, ⟨a', l', as', e', h1', h2', h3'⟩ => by
    rw [e, e']
    exact Lk.ups (n := 3) 1 (.tup (.cons (.str _) (.cons (.lst (lk_mrows h3 h3') h2 h2') .nil)) h1 h1')
  | .fall _, _, _, ⟨a, l, e, h1, h2⟩, ⟨a', l', e', h1', h2'⟩ => by
    rw [e, e']
    exact Lk.ups (n := 2) 2 (.tup (.cons (.str _) (.cons (.lst (Lk.ints _) h2 h2') .nil)) h1 h1')
  | .sum _ _, _, _, ⟨a, l, e, h1, h2⟩, ⟨a', l', e', h1', h2'⟩ => by
    rw [e, e']
    exact Lk.ups (n := 2) 2 (.tup (.cons (.str _) (.cons (.lst (Lk.ints _) h2 h2') (.cons (.int _) .nil))) h1 h1')
  | .st _ _, _, _, ⟨a, l, e, h1, h2⟩, ⟨a', l', e', h1', h2'⟩ => by
    rw [e, e']
    exact Lk.ups (n := 2) 2 (.tup (.cons (.str _) (.cons (.lst (Lk.ints _) h2 h2') .nil)) h1 h1')
  | .kept _, _, _, ⟨a, l, vs, e, h1, h2, h3⟩, ⟨a', l', vs', e', h1', h2', h3'⟩ => by
    rw [e, e']
    exact .tup (.cons (.str _) (.cons (.lst (pair_of h3 h3' fun _ _ _ h h' => lk_rsn h h') h2 h2') .nil)) h1 h1'
  | .most _ q, _, _, ⟨a, l, as, w, e, h1, h2, h3, h4⟩, ⟨a', l', as', w', e', h1', h2', h3', h4'⟩ => by
    rw [e, e']
    have d := deepP_ge q
    have k1 : Lk K H (deepP q) (.ref l) (.ref l') := by
      have := Lk.ups (K := K) (n := 3) (deepP q - 3) (.lst (lk_brows h3 h3') h2 h2')
      rwa [show 3 + (deepP q - 3) = deepP q by omega] at this
    exact .tup (.cons (.str _) (.cons k1 (.cons (pap_lk h4 h4') .nil))) h1 h1'
def doorsB (m : Nat) (ds : List Int) : Bool := ds.all fun d => decide (0 ≤ d) && decide (d < (m : Int))
def runB (m : Nat) (bs : List (Int × List Int)) : Bool := bs.all fun b => decide (b.1 ≥ 0) && doorsB m b.2
def brB (m : Nat) (bs : List (Int × List Int)) : Bool := doorsB m (bs.map (·.1))
def numB : Option Int → Bool
  | none => true
  | some n => decide (n ≥ 0)
def mkB (w : Nat) (m : Mark) : Bool := decide (m.length = w) && m.all numB
def mksB (w : Nat) (ms : List Mark) : Bool := ms.all (mkB w)
def noneB (m : Mark) : Bool := m.any fun x => x.isNone
def bagsB (w : Nat) (ms : List Mark) : Bool := mksB w ms && !(ms.any noneB)
def wideB (w : Nat) (ws : List Int) : Bool := decide (ws.length = w)
def srtS (bs : List Int) : List Int := zs ((List.range 6).filter fun (x : Nat) => decide ((x : Int) ∈ bs))
def setWB (w : Nat) (bs : List Int) : Bool := (bs.all fun b => decide (0 ≤ b) && decide (b < (w : Int))) && decide (bs = srtS bs)
def rsnWB (w : Nat) : Rsn → Bool
  | .no => true
  | .yes true bs => setWB w bs
  | .yes false ws => wideB w ws
def innB (w : Nat) : Pap → Bool
  | .mk .fence ms => mksB w ms
  | .mk .room ms => bagsB w ms
  | .fall ws => wideB w ws
  | _ => false
def wmB (w m : Nat) : Pap → Bool
  | .wr true bs => runB m bs
  | .wr false bs => brB m bs
  | .mk .fence ms => mksB w ms
  | .mk _ ms => bagsB w ms
  | .fall ws => wideB w ws
  | .sum ws _ => wideB w ws
  | .st _ bs => setWB w bs
  | .kept rs => rs.all (rsnWB w)
  | .most bs q => runB m bs && innB w q
/-- what a paper holds is not too long -/
def FitP : Pap → Prop
  | .wr _ bs => bs.length ≤ 1000 ∧ ∀ c ∈ bs, c.2.length ≤ 1000
  | .mk _ ms => ms.length ≤ 1000 ∧ ∀ c ∈ ms, c.length ≤ 1000
  | .fall ws => ws.length ≤ 1000
  | .sum ws _ => ws.length ≤ 1000
  | .st _ bs => bs.length ≤ 1000
  | .kept rs => rs.length ≤ 1000 ∧ ∀ k bs, Rsn.yes k bs ∈ rs → bs.length ≤ 1000
  | .most bs q => bs.length ≤ 1000 ∧ (∀ c ∈ bs, c.2.length ≤ 1000) ∧ FitP q
/-- each item a truth of what it tells -/
theorem comp_bp {α : Type} {K : PySem.W.Frag} {te : Blk → TE} {H1 : Hp} {Z : List V → Hp → Prop} {a : Addr} {xs : List V} {τ : St} {ps : List α} {F : V → α → Prop} (f : α → Bool) (ha : SqL K H1 a xs) (R : Paired F xs ps) (hn : ps.length ≤ 1000)
    (hs : ∀ B x c H, c ∈ ps → F x c → Same H1 H → ∀ Q' : VK, (∀ H2, Same H H2 → Q' (.bl (f c)) H2) → te B (some x :: τ) H Q')
    (hd : ∀ H2, Same H1 H2 → Z ((ps.map f).map V.bl) H2) :
    ∃ W : Nat → Nat → List V → St → Hp → Prop, (∃ m, W 0 m [] (none :: τ) H1) ∧ ∀ B : Blk, CompW (Itl K a) (gName 0) tTrue (te B) W Z := by
  have hl := Paired.length R
  refine comp_listP (g := fun _ => gName 0) (tt := fun _ => tTrue) (K := K) (a := a) (xs := xs) (fun i ys σ H => (∃ v, σ = v :: τ) ∧ Same H1 H ∧ ys = ((ps.take i).map f).map V.bl) ⟨⟨none, rfl⟩, Same.refl _, rfl⟩ ?_ ?_ ?_
  · rintro i ys σ H hi ⟨_, S, rfl⟩
    refine ⟨S.seq ha, ?_⟩
    rw [List.length_map, List.length_map, List.length_take]
    exact small1000 (by omega)
  · rintro B i x ys σ H hx ⟨⟨v, rfl⟩, S, rfl⟩
    obtain ⟨c, hc, hF⟩ := Paired.getL R hx
    try dsimp only [gName, tTrue]
    rw [if_pos rfl]
    refine hs B x c H (List.mem_of_getElem? hc) hF S _ fun H2 S2 => ⟨⟨_, rfl⟩, S.trans S2, ?_⟩
    rw [List.take_add_one, hc, Option.toList_some, List.map_append, List.map_append]
    rfl
  · rintro ys σ H ⟨_, S, rfl⟩
    rw [hl, List.take_length]
    exact hd H S
/-- the same over pairs: for k, l in xs -/
theorem comp_bp2 {K K' : PySem.W.Frag} {te : Blk → TE} {H1 : Hp} {Z : List V → Hp → Prop} {a : Addr} {as : List Addr} {τ : St} {ps : List (Int × List Int)} (f : Int × List Int → V) (ha : SqL K H1 a (as.map V.ref)) (R : BRows H1 as ps) (hn : ps.length ≤ 1000)
    (hs : ∀ B q c H, c ∈ ps → H1 q = some (.lst (vints c.2)) → Same H1 H → ∀ Q' : VK, (∀ H2, Same H H2 → Q' (f c) H2) → te B (some (.int c.1) :: some (.ref q) :: τ) H Q')
    (hd : ∀ H2, Same H1 H2 → Z (ps.map f) H2) :
    ∃ W : Nat → Nat → List V → St → Hp → Prop, (∃ m, W 0 m [] (none :: none :: τ) H1) ∧ ∀ B : Blk, CompW (Itl K a) (gTup K' 2 (gCons (gName 0) (gCons (gName 1) gNil))) tTrue (te B) W Z := by
  have hl := Paired.length R
  refine comp_listP (g := fun _ => gTup K' 2 (gCons (gName 0) (gCons (gName 1) gNil))) (tt := fun _ => tTrue) (K := K) (a := a) (xs := as.map V.ref) (fun i ys σ H => (∃ v u, σ = v :: u :: τ) ∧ Same H1 H ∧ ys = (ps.take i).map f) ⟨⟨none, none, rfl⟩, Same.refl _, rfl⟩ ?_ ?_ ?_
  · rintro i ys σ H hi ⟨_, S, rfl⟩
    rw [List.length_map] at hi
    refine ⟨S.seq ha, ?_⟩
    rw [List.length_map, List.length_take]
    exact small1000 (by omega)
  · rintro B i x ys σ H hx ⟨⟨v, u, rfl⟩, S, rfl⟩
    obtain ⟨p, hp, rfl⟩ := refs_get hx
    obtain ⟨c, hc, q, e1, e2⟩ := Paired.getL R hp
    refine ⟨p, _, rfl, SqT.of (S _ _ e1), rfl, _, _, rfl, _, _, rfl, rfl, ?_⟩
    try dsimp only [gName, gNil, tTrue]
    rw [if_pos rfl]
    refine hs B q c H (List.mem_of_getElem? hc) e2 S _ fun H2 S2 => ⟨⟨_, _, rfl⟩, S.trans S2, ?_⟩
    rw [List.take_add_one, hc, Option.toList_some, List.map_append]
    rfl
  · rintro ys σ H ⟨_, S, rfl⟩
    rw [List.length_map, hl, List.take_length]
    exact hd H S
theorem ints_pair : ∀ l : List Int, Paired (fun v i => v = V.int i) (vints l) l
  | [] => .nil
  | _ :: l => .cons rfl (ints_pair l)
theorem mk_pair : ∀ m : Mark, Paired (fun v i => v = vm i) (vmk m) m
  | [] => .nil
  | _ :: l => .cons rfl (mk_pair l)
theorem refs_pair {α : Type} {F : Addr → α → Prop} : ∀ {as : List Addr} {ps : List α}, Paired F as ps → Paired (fun v p => ∃ a, v = V.ref a ∧ F a p) (as.map V.ref) ps
  | _, _, .nil => .nil
  | _, _, .cons h t => .cons ⟨_, rfl, h⟩ (refs_pair t)
theorem all_id {α : Type} (f : α → Bool) (l : List α) : (l.map f).all id = l.all f := by rw [List.all_map]; rfl
theorem any_id {α : Type} (f : α → Bool) (l : List α) : (l.map f).any id = l.any f := by rw [List.any_map]; rfl
theorem vm_inN : ∀ m : Mark, inV .non (vmk m) = noneB m
  | [] => rfl
  | none :: m => rfl
  | some n :: m => by
    have := vm_inN m
    unfold inV noneB at this ⊢
    rw [show vmk (some n :: m) = V.int n :: vmk m from rfl, List.any_cons, List.any_cons, this]
    rfl
theorem perm_srt {l bs : List Int} (nd : l.Nodup) (hm : ∀ x, x ∈ l ↔ x ∈ bs) (hb : ∀ x ∈ bs, 0 ≤ x ∧ x < 6) : l.Perm (srtS bs) := by
  refine (List.perm_ext_iff_of_nodup nd ?_).mpr fun x => ?_
  · unfold srtS zs
    exact List.Pairwise.map _ (fun a b h e => h (Int.ofNat.inj e)) (List.nodup_range.filter _)
  · rw [hm x]
    unfold srtS zs
    rw [List.mem_map]
    constructor
    · intro h
      obtain ⟨h0, h6⟩ := hb x h
      obtain ⟨k, rfl⟩ := Int.eq_ofNat_of_zero_le h0
      exact ⟨k, List.mem_filter.mpr ⟨List.mem_range.mpr (by omega), by simpa using h⟩, rfl⟩
    · rintro ⟨k, h, rfl⟩
      simpa using (List.mem_filter.mp h).2
theorem len_srt (bs : List Int) : (srtS bs).length ≤ 6 := by
  unfold srtS
  rw [zs_len]
  exact Nat.le_trans (List.length_filter_le _ _) (by rw [List.length_range]; exact Nat.le_refl _)
theorem sorted_set {l ns bs : List Int} (nd : l.Nodup) (hm : ∀ x, x ∈ l ↔ x ∈ bs) (hb : ∀ x ∈ bs, 0 ≤ x ∧ x < 6) (p : ns.Perm l) (s : ns.Pairwise (· ≤ ·)) : ns = srtS bs := by
  have s2 : (srtS bs).Pairwise (· ≤ ·) := zs_pairwise ((List.Pairwise.filter _ List.pairwise_lt_range).imp fun h => Nat.le_of_lt h)
  exact List.Perm.eq_of_pairwise (fun a b _ _ h4 h5 => Int.le_antisymm h4 h5) s s2 (p.trans (perm_srt nd hm hb))
theorem flatA_mk (m : Mark) : (vmk m).all flatV = true := List.all_eq_true.mpr fun x hx => (flat_mk m x hx).1
def pickP (r b m g w s k o : Addr) : Pap → Addr
  | .wr true _ => r
  | .wr false _ => b
  | .mk .fence _ => m
  | .mk _ _ => g
  | .fall _ => w
  | .sum _ _ => w
  | .st _ _ => s
  | .kept _ => k
  | .most _ _ => o
theorem atMk {r b m g w s k o : Addr} : ∀ P : Pap, atF [("run", r), ("branch", b), ("fence", m), ("room", g), ("wants", g), ("fall", w), ("sum", w), ("dry", s), ("wet", s), ("kept", k), ("most", o)] (wordP P) = some (pickP r b m g w s k o P)
  | .wr true _ => rfl
  | .wr false _ => rfl
  | .mk .fence _ => rfl
  | .mk .room _ => rfl
  | .mk .wants _ => rfl
  | .fall _ => rfl
  | .sum _ _ => rfl
  | .st true _ => rfl
  | .st false _ => rfl
  | .kept _ => rfl
  | .most _ _ => rfl
def pickI (m g w : Addr) : Pap → Option Addr
  | .mk .fence _ => some m
  | .mk .room _ => some g
  | .fall _ => some w
  | _ => none
theorem atBd {m g w : Addr} : ∀ P : Pap, atF [("fence", m), ("room", g), ("fall", w)] (wordP P) = pickI m g w P
  | .wr true _ => rfl
  | .wr false _ => rfl
  | .mk .fence _ => rfl
  | .mk .room _ => rfl
  | .mk .wants _ => rfl
  | .fall _ => rfl
  | .sum _ _ => rfl
  | .st true _ => rfl
  | .st false _ => rfl
  | .kept _ => rfl
  | .most _ _ => rfl
/-- its first two parts -/
theorem PapIn.top {H : Hp} : ∀ {P : Pap} {v : V}, PapIn H v P → ∃ a l r, v = .ref a ∧ H a = some (.tup (.str (wordP P) :: .ref l :: r))
  | .wr _ _, _, ⟨a, l, _, e, h1, _⟩ => ⟨a, l, [], e, h1⟩
  | .mk _ _, _, ⟨a, l, _, e, h1, _⟩ => ⟨a, l, [], e, h1⟩
  | .fall _, _, ⟨a, l, e, h1, _⟩ => ⟨a, l, [], e, h1⟩
  | .sum _ p, _, ⟨a, l, e, h1, _⟩ => ⟨a, l, [.int p], e, h1⟩
  | .st _ _, _, ⟨a, l, e, h1, _⟩ => ⟨a, l, [], e, h1⟩
  | .kept _, _, ⟨a, l, _, e, h1, _⟩ => ⟨a, l, [], e, h1⟩
  | .most _ _, _, ⟨a, l, _, u, e, h1, _⟩ => ⟨a, l, [u], e, h1⟩
theorem or_b {t u : TT} {σ : St} {H : Hp} {K : Bool → Hp → Prop} {p q : Prop} [Decidable p] [Decidable q] (ht : ∀ K' : Bool → Hp → Prop, K' (decide p) H → t σ H K') (hu : ∀ K' : Bool → Hp → Prop, K' (decide q) H → u σ H K') (hk : K (decide (p ∨ q)) H) : tOr t u σ H K := by
  unfold tOr
  refine ht _ ?_
  by_cases h : p
  · rw [decide_eq_true (show p ∨ q from .inl h)] at hk
    show if decide p = true then _ else _
    rw [if_pos (decide_eq_true h)]
    exact hk
  · show if decide p = true then _ else _
    rw [if_neg (by simpa using h)]
    refine hu _ ?_
    have e : decide (p ∨ q) = decide q := by
      by_cases hq : q
      · rw [decide_eq_true hq, decide_eq_true (show p ∨ q from .inr hq)]
      · rw [decide_eq_false hq, decide_eq_false (fun z => z.elim h hq)]
    rw [← e]
    exact hk
theorem and_b {t u : TT} {σ : St} {H : Hp} {K : Bool → Hp → Prop} {p q : Prop} [Decidable p] [Decidable q] (ht : ∀ K' : Bool → Hp → Prop, K' (decide p) H → t σ H K') (hu : p → ∀ K' : Bool → Hp → Prop, K' (decide q) H → u σ H K') (hk : K (decide (p ∧ q)) H) : tAnd t u σ H K := by
  unfold tAnd
  refine ht _ ?_
  by_cases h : p
  · show if decide p = true then _ else _
    rw [if_pos (decide_eq_true h)]
    refine hu h _ ?_
    have e : decide (p ∧ q) = decide q := by
      by_cases hq : q
      · rw [decide_eq_true hq, decide_eq_true (show p ∧ q from ⟨h, hq⟩)]
      · rw [decide_eq_false hq, decide_eq_false (fun z => hq z.2)]
    rw [← e]
    exact hk
  · show if decide p = true then _ else _
    rw [if_neg (by simpa using h)]
    rw [decide_eq_false (fun z : p ∧ q => h z.1)] at hk
    exact hk
theorem hu5_of {A : Around} {k : Nat} (hr : Room k A) : A.units + 5 < cLine := Nat.lt_of_le_of_lt (Nat.add_le_add_left (by decide : 5 ≤ 64) _) hr.units
end L2

namespace L2
open PySem PySem.Spec PyProof.Rows
def mixF (c k : Int) : Int := ((c + 7919 * k * k + k) % 2147483647 * ((c + 7919 * k * k + k) % 2147483647) % 1000000007 + c / 2147483647) * 48271 % 998244353
theorem mixF_b (c k : Int) : 0 ≤ mixF c k ∧ mixF c k < 998244353 := ⟨Int.emod_nonneg _ (by decide), Int.emod_lt_of_pos _ (by decide)⟩
def greatF (t : Int) : Int := if t % 3 = 0 then t % 5 else if t % 3 = 1 then t else t * t * t * t * t * t % 10 ^ 60
theorem greatF_lo {t : Int} (h : 0 ≤ t) : 0 ≤ greatF t := by
  unfold greatF
  split
  · exact Int.emod_nonneg _ (by decide)
  · split
    · exact h
    · exact Int.emod_nonneg _ (by decide)
theorem gm_lo (c k : Int) : 0 ≤ greatF (mixF c k) := greatF_lo (mixF_b c k).1
def beadsF (c : Int) (w : Nat) : List Int := (List.range w).map fun (b : Nat) => greatF (mixF c b)
def markF (c : Int) (w : Nat) : Mark := (List.range w).map fun (b : Nat) => if mixF c (10 + b) % 3 = 0 then none else some (greatF (mixF c b))
def weightsF (c : Int) (w : Nat) : List Int := (List.range w).map fun (b : Nat) => greatF (mixF c b) * (1 - 2 * (mixF c (20 + b) % 2))
def setF (c : Int) (w : Nat) : List Int := zs ((List.range w).filter fun (b : Nat) => decide (mixF c (30 + b) % 2 = 1))
def rowF (c : Int) (m : Nat) : List Int := if m = 0 then [] else (List.range (c % 4).toNat).map fun (k : Nat) => mixF c (40 + k) % (m : Int)
inductive Part where
  | wr (b : Int × List Int)
  | mk (m : Mark)
  | rs (r : Rsn)
def partF (sort : Nat) (c : Int) (w m : Nat) : Part :=
  if sort < 2 then .wr (greatF (mixF c 50), rowF c m)
  else if sort = 2 then .wr (mixF c 51 % max 1 (m : Int), [mixF c 52 % 5 - 1])
  else if sort = 3 then .mk (markF c w)
  else if sort < 6 then .mk ((beadsF c w).map some)
  else if c % 3 = 0 then .rs .no
  else if c % 2 = 0 then .rs (.yes true (setF c w)) else .rs (.yes false (weightsF c w))
def badBagF (c : Int) (w : Nat) : List Int :=
  if c % 3 = 0 then beadsF c (w - 1) else if c % 3 = 1 then beadsF c (w + 1) else (beadsF c w).set (c / 3 % (w : Int)).toNat (-1 - greatF c)
def badSetF (c : Int) (w : Nat) : List Int :=
  if c % 4 = 0 then setF c w ++ [(w : Int) + c / 4 % 3]
  else if c % 4 = 1 then (-1 - c / 4 % 3) :: setF c w
  else if c % 4 = 2 ∨ w = 1 then (setF c w).filter (fun b => decide (b < c / 4 % (w : Int))) ++ [c / 4 % (w : Int), c / 4 % (w : Int)] ++ (setF c w).filter (fun b => decide (b > c / 4 % (w : Int)))
  else (zs (List.range w)).filter (fun b => decide (b > c / 4 % (w : Int))) ++ zs (List.range (c / 4 % (w : Int) + 1).toNat) ++ [c / 64 % (c / 4 % (w : Int) + 1)]
def strayF (c : Int) (m : Nat) : Int := if c / 4 % 2 = 0 then (m : Int) + c / 8 % 3 else -1 - c / 8 % 3
def badF (sort : Nat) (c : Int) (w m : Nat) : Part :=
  if sort < 2 then (if c % 2 = 0 then .wr (-1 - c / 8, rowF (c / 16) m) else .wr (1 + c / 8 % 2, insAt (rowF (c / 16) m) (c / 64 % ((rowF (c / 16) m).length + 1 : Int)).toNat (strayF c m)))
  else if sort = 2 then .wr (strayF c m, [])
  else if sort < 6 then .mk ((badBagF c w).map some)
  else if c % 2 = 0 then .rs (.yes true (badSetF (c / 2) w)) else .rs (.yes false (weightsF c (if c / 2 % 2 = 0 then w + 1 else w - 1)))
def rowsF (sort : Nat) (c : Int) (w m : Nat) : List Part :=
  if sort = 2 ∧ m = 0 then [] else (List.range (c % 4).toNat).map fun (k : Nat) => partF sort (mixF c (60 + k)) w m
def partsF (sort : Nat) (c : Int) (w m : Nat) (bad : Bool) : List Part :=
  if bad then insAt (rowsF sort c w m) (c / 4 % ((rowsF sort c w m).length + 1 : Int)).toNat (badF sort (mixF c 70) w m) else rowsF sort c w m
def getW : Part → Int × List Int
  | .wr b => b
  | _ => (0, [])
def getM : Part → Mark
  | .mk m => m
  | _ => []
def getR : Part → Rsn
  | .rs r => r
  | _ => .no
def papL (sort : Nat) (ps : List Part) : Pap :=
  if sort < 2 then .wr true (ps.map getW) else if sort = 2 then .wr false (ps.map getW) else if sort = 3 then .mk .fence (ps.map getM) else if sort = 4 then .mk .room (ps.map getM) else if sort = 5 then .mk .wants (ps.map getM) else .kept (ps.map getR)
def otherF (sort : Nat) (c : Int) (w : Nat) (bad : Bool) : Pap :=
  if sort > 8 then .st (decide (sort = 9)) (if bad then badSetF c w else setF c w)
  else if sort = 7 then .fall (weightsF c (if bad then (if c % 2 = 0 then w + 1 else w - 1) else w))
  else .sum (weightsF c (if bad then (if c % 2 = 0 then w + 1 else w - 1) else w)) (mixF c 80 % 9 - 2)
def listF (sort : Nat) (c : Int) (w m : Nat) (bad : Bool) : Pap := papL sort (partsF sort c w m bad)
def withF (c : Int) (bad : Bool) : Bool := bad && decide (c / 12 / 3 % 2 = 1)
def papF (c : Int) (w m : Nat) (bad : Bool) : Pap :=
  if c % 12 < 7 then listF (c % 12).toNat (c / 12) w m bad
  else if c % 12 < 11 then otherF (c % 12).toNat (c / 12) w bad
  else if c / 12 % 3 = 2 then .most ((partsF 0 (c / 12 / 6) w m (bad && !withF c bad)).map getW) (otherF 7 (c / 12 / 6) w (withF c bad))
  else .most ((partsF 0 (c / 12 / 6) w m (bad && !withF c bad)).map getW) (listF (3 + (c / 12 % 3).toNat) (c / 12 / 6) w m (withF c bad))
def okPart (w m sort : Nat) (p : Part) : Bool :=
  if sort < 2 then (decide ((getW p).1 ≥ 0) && doorsB m (getW p).2)
  else if sort = 2 then (decide (0 ≤ (getW p).1) && decide ((getW p).1 < (m : Int)))
  else if sort = 3 then mkB w (getM p)
  else if sort < 6 then (mkB w (getM p) && !noneB (getM p))
  else rsnWB w (getR p)
theorem bags_all (w : Nat) : ∀ ms : List Mark, bagsB w ms = ms.all fun m => mkB w m && !noneB m
  | [] => rfl
  | m :: ms => by
    have ih := bags_all w ms
    unfold bagsB mksB at ih ⊢
    rw [List.all_cons, List.any_cons, List.all_cons, ← ih]
    cases mkB w m <;> cases noneB m <;> cases ms.all (mkB w) <;> cases ms.any noneB <;> rfl
theorem wm_papL (w m : Nat) {sort : Nat} (h : sort < 7) (ps : List Part) : wmB w m (papL sort ps) = ps.all (okPart w m sort) := by
  rcases (show sort = 0 ∨ sort = 1 ∨ sort = 2 ∨ sort = 3 ∨ sort = 4 ∨ sort = 5 ∨ sort = 6 by omega) with e | e | e | e | e | e | e <;> subst e
  · show runB m (ps.map getW) = _
    unfold runB
    rw [List.all_map]; rfl
  · show runB m (ps.map getW) = _
    unfold runB
    rw [List.all_map]; rfl
  · show brB m (ps.map getW) = _
    unfold brB doorsB
    rw [List.map_map, List.all_map]; rfl
  · show mksB w (ps.map getM) = _
    unfold mksB
    rw [List.all_map]; rfl
  · show bagsB w (ps.map getM) = _
    rw [bags_all, List.all_map]; rfl
  · show bagsB w (ps.map getM) = _
    rw [bags_all, List.all_map]; rfl
  · show (ps.map getR).all (rsnWB w) = _
    rw [List.all_map]; rfl
theorem inn_papL (w m : Nat) {sort : Nat} (h : sort = 3 ∨ sort = 4) (ps : List Part) : innB w (papL sort ps) = wmB w m (papL sort ps) := by
  rcases h with e | e <;> subst e <;> rfl
theorem wm_most (w m : Nat) (ps : List Part) (q : Pap) : wmB w m (.most (ps.map getW) q) = (ps.all (okPart w m 0) && innB w q) := by
  show (runB m (ps.map getW) && _) = _
  have h := wm_papL w m (sort := 0) (by decide) ps
  rw [← h]
  rfl
theorem setF_mem {c : Int} {w : Nat} {x : Int} (h : x ∈ setF c w) : 0 ≤ x ∧ x < w := by
  unfold setF zs at h
  obtain ⟨k, hk, rfl⟩ := List.mem_map.mp h
  have := List.mem_range.mp (List.mem_filter.mp hk).1
  omega
theorem zs_nd {l : List Nat} (h : l.Nodup) : (zs l).Nodup := by
  unfold zs
  exact List.Pairwise.map _ (fun a b h e => h (Int.ofNat.inj e)) h
theorem srt_nd (bs : List Int) : (srtS bs).Nodup := zs_nd (List.nodup_range.filter _)
theorem setF_ok {c : Int} {w : Nat} (h : w ≤ 6) : setWB w (setF c w) = true := by
  unfold setWB
  rw [Bool.and_eq_true, List.all_eq_true, decide_eq_true_eq]
  refine ⟨fun x hx => ?_, ?_⟩
  · obtain ⟨h1, h2⟩ := setF_mem hx
    rw [decide_eq_true h1, decide_eq_true h2]; rfl
  · exact sorted_set (zs_nd (List.nodup_range.filter _)) (fun x => Iff.rfl) (fun x hx => by have := setF_mem hx; omega) (List.Perm.refl _) (zs_pairwise ((List.Pairwise.filter _ List.pairwise_lt_range).imp fun h => Nat.le_of_lt h))
theorem set_out {w : Nat} {bs : List Int} {x : Int} (hx : x ∈ bs) (h : ¬ (0 ≤ x ∧ x < w)) : setWB w bs = false := by
  unfold setWB
  rw [show (bs.all fun b => decide (0 ≤ b) && decide (b < (w : Int))) = false from Bool.eq_false_iff.mpr fun z => h ?_]
  · rfl
  · have := List.all_eq_true.mp z x hx
    rw [Bool.and_eq_true, decide_eq_true_eq, decide_eq_true_eq] at this
    exact this
theorem set_dup {w : Nat} {bs : List Int} (h : ¬ bs.Nodup) : setWB w bs = false := by
  unfold setWB
  rw [decide_eq_false (fun z => h (by rw [z]; exact srt_nd bs)), Bool.and_false]
theorem badSet_ok {c : Int} {w : Nat} (h1 : 1 ≤ w) (hc : 0 ≤ c) : setWB w (badSetF c w) = false := by
  unfold badSetF
  split
  · exact set_out (x := (w : Int) + c / 4 % 3) (by simp) (by have := Int.emod_nonneg (c / 4) (show (3 : Int) ≠ 0 by decide); omega)
  split
  · exact set_out (x := -1 - c / 4 % 3) (by simp) (by have := Int.emod_nonneg (c / 4) (show (3 : Int) ≠ 0 by decide); omega)
  split
  · refine set_dup fun z => ?_
    rw [List.append_assoc, List.nodup_append] at z
    have := (List.nodup_append.mp z.2.1).1
    simp at this
  · refine set_dup fun z => ?_
    have a0 : 0 ≤ c / 4 % (w : Int) := Int.emod_nonneg _ (by omega)
    have x0 : 0 ≤ c / 64 % (c / 4 % (w : Int) + 1) := Int.emod_nonneg _ (by omega)
    have x1 : c / 64 % (c / 4 % (w : Int) + 1) < c / 4 % (w : Int) + 1 := Int.emod_lt_of_pos _ (by omega)
    rw [List.nodup_append] at z
    refine z.2.2 _ ?_ _ (List.mem_singleton.mpr rfl) rfl
    rw [List.mem_append]
    refine .inr ?_
    unfold zs
    obtain ⟨k, hk⟩ := Int.eq_ofNat_of_zero_le x0
    exact List.mem_map.mpr ⟨k, List.mem_range.mpr (by omega), hk.symm⟩
theorem beads_len (c : Int) (w : Nat) : (beadsF c w).length = w := by unfold beadsF; rw [List.length_map, List.length_range]
theorem weights_len (c : Int) (w : Nat) : (weightsF c w).length = w := by unfold weightsF; rw [List.length_map, List.length_range]
theorem row_doors (c : Int) (m : Nat) : doorsB m (rowF c m) = true := by
  unfold doorsB rowF
  split
  · rfl
  · rw [List.all_eq_true]
    intro x hx
    obtain ⟨k, _, rfl⟩ := List.mem_map.mp hx
    rw [decide_eq_true (Int.emod_nonneg _ (by omega)), decide_eq_true (Int.emod_lt_of_pos _ (by omega))]
    rfl
theorem stray_out {c : Int} {m : Nat} : (decide (0 ≤ strayF c m) && decide (strayF c m < (m : Int))) = false := by
  have h3 := Int.emod_nonneg (c / 8) (show (3 : Int) ≠ 0 by decide)
  unfold strayF
  split
  · rw [decide_eq_false (show ¬ (m : Int) + c / 8 % 3 < m by omega), Bool.and_false]
  · rw [decide_eq_false (show ¬ 0 ≤ -1 - c / 8 % 3 by omega), Bool.false_and]
theorem all_ins {α : Type} (f : α → Bool) (l : List α) (k : Nat) (x : α) : (insAt l k x).all f = (f x && l.all f) := by
  unfold insAt
  rw [List.all_append, List.all_cons]
  conv => rhs; rw [← List.take_append_drop k l, List.all_append]
  cases (l.take k).all f <;> cases f x <;> rfl
theorem mk_bag (w : Nat) (r : List Int) (hl : r.length = w) (h : ∀ x ∈ r, 0 ≤ x) : mkB w (r.map some) = true := by
  unfold mkB
  rw [List.length_map, decide_eq_true hl, Bool.true_and, List.all_map, List.all_eq_true]
  exact fun x hx => decide_eq_true (h x hx)
theorem no_none (r : List Int) : noneB (r.map some) = false := by
  unfold noneB
  rw [List.any_map, List.any_eq_false]
  intro x _
  simp
theorem part_good {sort : Nat} {c : Int} {w m : Nat} (h7 : sort < 7) (w6 : w ≤ 6) (h2 : ¬ (sort = 2 ∧ m = 0)) : okPart w m sort (partF sort c w m) = true := by
  rcases (show sort < 2 ∨ sort = 2 ∨ sort = 3 ∨ (3 < sort ∧ sort < 6) ∨ sort = 6 by omega) with e | e | e | e | e
  · unfold okPart partF
    rw [if_pos e, if_pos e]
    show (decide (greatF (mixF c 50) ≥ 0) && doorsB m (rowF c m)) = true
    rw [decide_eq_true (gm_lo c 50), row_doors]; rfl
  · subst e
    have hm : 1 ≤ m := by omega
    show (decide (0 ≤ mixF c 51 % max 1 (m : Int)) && decide (mixF c 51 % max 1 (m : Int) < (m : Int))) = true
    have em : max 1 (m : Int) = m := by omega
    rw [em, decide_eq_true (Int.emod_nonneg _ (by omega)), decide_eq_true (Int.emod_lt_of_pos _ (by omega))]; rfl
  · subst e
    show mkB w (markF c w) = true
    unfold mkB markF
    rw [List.length_map, List.length_range, decide_eq_true rfl, Bool.true_and, List.all_map, List.all_eq_true]
    intro b _
    show numB (if mixF c (10 + b) % 3 = 0 then none else some (greatF (mixF c b))) = true
    split
    · rfl
    · exact decide_eq_true (gm_lo c b)
  · unfold okPart partF
    rw [if_neg (by omega), if_neg (by omega), if_neg (by omega), if_pos e.2, if_neg (by omega), if_neg (by omega), if_neg (by omega), if_pos e.2]
    show (mkB w ((beadsF c w).map some) && !noneB ((beadsF c w).map some)) = true
    rw [mk_bag w _ (beads_len c w) (fun x hx => by obtain ⟨b, _, rfl⟩ := List.mem_map.mp hx; exact gm_lo c b), no_none]; rfl
  · subst e
    show rsnWB w (getR (if c % 3 = 0 then .rs .no else if c % 2 = 0 then .rs (.yes true (setF c w)) else .rs (.yes false (weightsF c w)))) = true
    split
    · rfl
    split
    · exact setF_ok w6
    · exact decide_eq_true (weights_len c w)
theorem badBag_bad {c : Int} {w : Nat} (h1 : 1 ≤ w) (hc : 0 ≤ c) : mkB w ((badBagF c w).map some) = false := by
  unfold badBagF mkB
  split
  · rw [List.length_map, beads_len, decide_eq_false (by omega), Bool.false_and]
  split
  · rw [List.length_map, beads_len, decide_eq_false (by omega), Bool.false_and]
  · have hg := greatF_lo hc
    have a0 : 0 ≤ c / 3 % (w : Int) := Int.emod_nonneg _ (by omega)
    have a1 : c / 3 % (w : Int) < w := Int.emod_lt_of_pos _ (by omega)
    have : (((beadsF c w).set (c / 3 % (w : Int)).toNat (-1 - greatF c)).map some).all numB = false := by
      rw [List.all_map, Bool.eq_false_iff]
      intro z
      have := List.all_eq_true.mp z (-1 - greatF c) (List.mem_set (by rw [beads_len]; omega) _)
      have : -1 - greatF c ≥ 0 := of_decide_eq_true this
      omega
    rw [this, Bool.and_false]
theorem part_bad {sort : Nat} {c : Int} {w m : Nat} (h7 : sort < 7) (h1 : 1 ≤ w) (hc : 0 ≤ c) : okPart w m sort (badF sort c w m) = false := by
  rcases (show sort < 2 ∨ sort = 2 ∨ sort = 3 ∨ (3 < sort ∧ sort < 6) ∨ sort = 6 by omega) with e | e | e | e | e
  · unfold okPart badF
    rw [if_pos e, if_pos e]
    split
    · show (decide (-1 - c / 8 ≥ 0) && _) = false
      have : 0 ≤ c / 8 := Int.ediv_nonneg hc (by decide)
      rw [decide_eq_false (by omega), Bool.false_and]
    · show (_ && doorsB m (insAt _ _ (strayF c m))) = false
      unfold doorsB
      rw [all_ins, stray_out, Bool.false_and, Bool.and_false]
  · subst e
    exact stray_out
  · subst e
    exact badBag_bad h1 hc
  · unfold okPart badF
    rw [if_neg (by omega), if_neg (by omega), if_neg (by omega), if_pos e.2, if_neg (by omega), if_neg (by omega), if_pos e.2]
    show (mkB w ((badBagF c w).map some) && _) = false
    rw [badBag_bad h1 hc, Bool.false_and]
  · subst e
    show rsnWB w (getR (if c % 2 = 0 then .rs (.yes true (badSetF (c / 2) w)) else .rs (.yes false (weightsF c (if c / 2 % 2 = 0 then w + 1 else w - 1))))) = false
    split
    · exact badSet_ok h1 (Int.ediv_nonneg hc (by decide))
    · refine decide_eq_false ?_
      rw [weights_len]
      split <;> omega
theorem parts_all {sort : Nat} {c : Int} {w m : Nat} {bad : Bool} (h7 : sort < 7) (h1 : 1 ≤ w) (w6 : w ≤ 6) : (partsF sort c w m bad).all (okPart w m sort) = !bad := by
  have hr : (rowsF sort c w m).all (okPart w m sort) = true := by
    unfold rowsF
    split
    · rfl
    · next h => rw [List.all_map, List.all_eq_true]; exact fun k _ => part_good h7 w6 h
  unfold partsF
  cases bad with
  | false => exact hr
  | true =>
    rw [if_pos rfl, all_ins, part_bad h7 h1 (mixF_b c 70).1]
    rfl
theorem wide_len {c : Int} {w : Nat} {d : Int} (h1 : 1 ≤ w) (bad : Bool) : wideB w (weightsF c (if bad then (if d % 2 = 0 then w + 1 else w - 1) else w)) = !bad := by
  unfold wideB
  rw [weights_len]
  cases bad with
  | false => exact decide_eq_true rfl
  | true =>
    rw [if_pos rfl]
    refine decide_eq_false ?_
    split <;> omega
theorem other_wm {sort : Nat} {c : Int} {w m : Nat} {bad : Bool} (h1 : 1 ≤ w) (w6 : w ≤ 6) (hc : 0 ≤ c) : wmB w m (otherF sort c w bad) = !bad := by
  unfold otherF
  split
  · show setWB w _ = _
    cases bad with
    | false => exact setF_ok w6
    | true => exact badSet_ok h1 hc
  split
  · exact wide_len h1 bad
  · exact wide_len h1 bad
theorem list_wm {sort : Nat} {c : Int} {w m : Nat} {bad : Bool} (h7 : sort < 7) (h1 : 1 ≤ w) (w6 : w ≤ 6) : wmB w m (listF sort c w m bad) = !bad := by
  unfold listF
  rw [wm_papL w m h7, parts_all h7 h1 w6]
theorem pap_wm {c : Int} {w m : Nat} {bad : Bool} (hc : 0 ≤ c) (h1 : 1 ≤ w) (w6 : w ≤ 6) : wmB w m (papF c w m bad) = !bad := by
  have s0 : 0 ≤ c % 12 := Int.emod_nonneg _ (by decide)
  have r0 : 0 ≤ c / 12 := Int.ediv_nonneg hc (by decide)
  have r6 : 0 ≤ c / 12 / 6 := Int.ediv_nonneg r0 (by decide)
  have i0 : 0 ≤ c / 12 % 3 := Int.emod_nonneg _ (by decide)
  have i3 : c / 12 % 3 < 3 := Int.emod_lt_of_pos _ (by decide)
  have two : ∀ x : Bool, (!(bad && !x) && !x) = !bad ∨ (x = true ∧ bad = false) := fun x => by cases x <;> cases bad <;> simp
  have hw : ¬ (withF c bad = true ∧ bad = false) := fun ⟨h, e⟩ => by unfold withF at h; rw [e] at h; cases h
  unfold papF
  split
  · exact list_wm (by omega) h1 w6
  split
  · exact other_wm h1 w6 r0
  split
  · rw [wm_most, parts_all (by decide) h1 w6, show innB w (otherF 7 (c / 12 / 6) w (withF c bad)) = wmB w m (otherF 7 (c / 12 / 6) w (withF c bad)) from rfl, other_wm h1 w6 r6]
    exact (two _).resolve_right hw
  · have hs : 3 + (c / 12 % 3).toNat = 3 ∨ 3 + (c / 12 % 3).toNat = 4 := by omega
    rw [wm_most, parts_all (by decide) h1 w6, show listF (3 + (c / 12 % 3).toNat) (c / 12 / 6) w m (withF c bad) = papL _ _ from rfl, inn_papL w m hs, wm_papL w m (by omega), parts_all (by omega) h1 w6]
    exact (two _).resolve_right hw
def PartIn (H : Hp) (v : V) : Part → Prop
  | .wr b => ∃ a, v = .ref a ∧ BAt H a b
  | .mk m => ∃ a, v = .ref a ∧ H a = some (.lst (vmk m))
  | .rs r => RsnIn H v r
theorem PartIn.same {H H' : Hp} (S : Same H H') {v : V} : ∀ {p : Part}, PartIn H v p → PartIn H' v p
  | .wr _, ⟨a, e, q, h1, h2⟩ => ⟨a, e, q, S _ _ h1, S _ _ h2⟩
  | .mk _, ⟨a, e, h⟩ => ⟨a, e, S _ _ h⟩
  | .rs _, h => RsnIn.same h S
def KindP (sort : Nat) : Part → Prop
  | .wr b => sort < 3 ∧ b.2.length ≤ 100
  | .mk m => 3 ≤ sort ∧ sort < 6 ∧ m.length ≤ 100
  | .rs .no => sort = 6
  | .rs (.yes _ bs) => sort = 6 ∧ bs.length ≤ 100
theorem kind_W {H : Hp} {sort : Nat} (h : sort < 3) : ∀ {vs : List V} {ps : List Part}, Paired (PartIn H) vs ps → (∀ p ∈ ps, KindP sort p) → ∃ as, vs = as.map V.ref ∧ BRows H as (ps.map getW)
  | _, _, .nil, _ => ⟨[], rfl, .nil⟩
  | _, _, .cons (b := p) hp t, hk => by
    obtain ⟨as, e, R⟩ := kind_W h t fun q hq => hk q (List.mem_cons_of_mem _ hq)
    have k := hk p List.mem_cons_self
    cases p with
    | wr b => obtain ⟨a, e1, h1⟩ := hp; exact ⟨a :: as, by rw [e, e1]; rfl, .cons h1 R⟩
    | mk m => exact absurd k.1 (by omega)
    | rs r => cases r with
      | no => exact absurd (show sort = 6 from k) (by omega)
      | yes _ _ => exact absurd k.1 (by omega)
theorem kind_M {H : Hp} {sort : Nat} (h : 3 ≤ sort ∧ sort < 6) : ∀ {vs : List V} {ps : List Part}, Paired (PartIn H) vs ps → (∀ p ∈ ps, KindP sort p) → ∃ as, vs = as.map V.ref ∧ MRows H as (ps.map getM)
  | _, _, .nil, _ => ⟨[], rfl, .nil⟩
  | _, _, .cons (b := p) hp t, hk => by
    obtain ⟨as, e, R⟩ := kind_M h t fun q hq => hk q (List.mem_cons_of_mem _ hq)
    have k := hk p List.mem_cons_self
    cases p with
    | wr b => exact absurd k.1 (by omega)
    | mk m => obtain ⟨a, e1, h1⟩ := hp; exact ⟨a :: as, by rw [e, e1]; rfl, .cons h1 R⟩
    | rs r => cases r with
      | no => exact absurd (show sort = 6 from k) (by omega)
      | yes _ _ => exact absurd k.1 (by omega)
theorem kind_R {H : Hp} : ∀ {vs : List V} {ps : List Part}, Paired (PartIn H) vs ps → (∀ p ∈ ps, KindP 6 p) → Paired (RsnIn H) vs (ps.map getR)
  | _, _, .nil, _ => .nil
  | _, _, .cons (b := p) hp t, hk => by
    have k := hk p List.mem_cons_self
    refine .cons ?_ (kind_R t fun q hq => hk q (List.mem_cons_of_mem _ hq))
    cases p with
    | wr b => exact absurd k.1 (by omega)
    | mk m => exact absurd k.2.1 (by omega)
    | rs r => exact hp
def wordN (sort : Nat) : Str := if sort < 2 then "run" else if sort = 2 then "branch" else if sort = 3 then "fence" else if sort = 4 then "room" else if sort = 5 then "wants" else "kept"
theorem papL_in {H : Hp} {sort : Nat} {a l : Addr} {vs : List V} {ps : List Part} (h7 : sort < 7) (ha : H a = some (.tup [.str (wordN sort), .ref l])) (hl : H l = some (.lst vs)) (hp : Paired (PartIn H) vs ps) (hk : ∀ p ∈ ps, KindP sort p) : PapIn H (.ref a) (papL sort ps) := by
  rcases (show sort = 0 ∨ sort = 1 ∨ sort = 2 ∨ sort = 3 ∨ sort = 4 ∨ sort = 5 ∨ sort = 6 by omega) with e | e | e | e | e | e | e <;> subst e
  · obtain ⟨as, e, R⟩ := kind_W (by decide) hp hk; exact ⟨a, l, as, rfl, ha, by rw [hl, e], R⟩
  · obtain ⟨as, e, R⟩ := kind_W (by decide) hp hk; exact ⟨a, l, as, rfl, ha, by rw [hl, e], R⟩
  · obtain ⟨as, e, R⟩ := kind_W (by decide) hp hk; exact ⟨a, l, as, rfl, ha, by rw [hl, e], R⟩
  · obtain ⟨as, e, R⟩ := kind_M (by decide) hp hk; exact ⟨a, l, as, rfl, ha, by rw [hl, e], R⟩
  · obtain ⟨as, e, R⟩ := kind_M (by decide) hp hk; exact ⟨a, l, as, rfl, ha, by rw [hl, e], R⟩
  · obtain ⟨as, e, R⟩ := kind_M (by decide) hp hk; exact ⟨a, l, as, rfl, ha, by rw [hl, e], R⟩
  · exact ⟨a, l, vs, rfl, ha, hl, kind_R hp hk⟩
theorem fit_W {sort : Nat} {ps : List Part} (hk : ∀ p ∈ ps, KindP sort p) : ∀ c ∈ ps.map getW, c.2.length ≤ 1000 := fun c hc => by
  obtain ⟨p, hp, rfl⟩ := List.mem_map.mp hc
  have k := hk p hp
  cases p with
  | wr b => exact Nat.le_trans k.2 (by decide)
  | mk m => exact Nat.zero_le _
  | rs r => exact Nat.zero_le _
theorem fit_M {sort : Nat} {ps : List Part} (hk : ∀ p ∈ ps, KindP sort p) : ∀ c ∈ ps.map getM, c.length ≤ 1000 := fun c hc => by
  obtain ⟨p, hp, rfl⟩ := List.mem_map.mp hc
  have k := hk p hp
  cases p with
  | wr b => exact Nat.zero_le _
  | mk m => exact Nat.le_trans k.2.2 (by decide)
  | rs r => exact Nat.zero_le _
theorem fit_R {sort : Nat} {ps : List Part} (hk : ∀ p ∈ ps, KindP sort p) : ∀ k bs, Rsn.yes k bs ∈ ps.map getR → bs.length ≤ 1000 := fun y bs hc => by
  obtain ⟨p, hp, e⟩ := List.mem_map.mp hc
  have k := hk p hp
  cases p with
  | wr b => cases e
  | mk m => cases e
  | rs r =>
    have e : r = .yes y bs := e
    subst e
    exact Nat.le_trans k.2 (by decide)
theorem papL_fit {sort : Nat} {ps : List Part} (h7 : sort < 7) (hl : ps.length ≤ 1000) (hk : ∀ p ∈ ps, KindP sort p) : FitP (papL sort ps) := by
  have l1 : (ps.map getW).length ≤ 1000 := by rw [List.length_map]; exact hl
  have l2 : (ps.map getM).length ≤ 1000 := by rw [List.length_map]; exact hl
  have l3 : (ps.map getR).length ≤ 1000 := by rw [List.length_map]; exact hl
  rcases (show sort = 0 ∨ sort = 1 ∨ sort = 2 ∨ sort = 3 ∨ sort = 4 ∨ sort = 5 ∨ sort = 6 by omega) with e | e | e | e | e | e | e <;> subst e
  · exact ⟨l1, fit_W hk⟩
  · exact ⟨l1, fit_W hk⟩
  · exact ⟨l1, fit_W hk⟩
  · exact ⟨l2, fit_M hk⟩
  · exact ⟨l2, fit_M hk⟩
  · exact ⟨l2, fit_M hk⟩
  · exact ⟨l3, fit_R hk⟩
theorem row_len (c : Int) (m : Nat) : (rowF c m).length ≤ 3 := by
  unfold rowF
  split
  · exact Nat.zero_le _
  · rw [List.length_map, List.length_range]; omega
theorem set_len (c : Int) (w : Nat) : (setF c w).length ≤ w := by
  unfold setF
  rw [zs_len]
  exact Nat.le_trans (List.length_filter_le _ _) (by rw [List.length_range]; exact Nat.le_refl _)
theorem mark_len (c : Int) (w : Nat) : (markF c w).length = w := by unfold markF; rw [List.length_map, List.length_range]
theorem ins_len {α : Type} (l : List α) (k : Nat) (x : α) : (insAt l k x).length = l.length + 1 := by
  unfold insAt
  rw [List.length_append, List.length_cons, ← Nat.add_assoc, ← List.length_append, List.take_append_drop]
theorem badBag_len (c : Int) {w : Nat} (h : w ≤ 8) : (badBagF c w).length ≤ 9 := by
  unfold badBagF
  split
  · rw [beads_len]; omega
  split
  · rw [beads_len]; omega
  · rw [List.length_set, beads_len]; omega
theorem badSet_len {c : Int} {w : Nat} (h1 : 1 ≤ w) (h : w ≤ 8) : (badSetF c w).length ≤ 40 := by
  have l := set_len c w
  unfold badSetF
  split
  · rw [List.length_append, List.length_singleton]; omega
  split
  · rw [List.length_cons]; omega
  split
  · have l2 := List.length_filter_le (fun b => decide (b < c / 4 % (w : Int))) (setF c w)
    have l3 := List.length_filter_le (fun b => decide (b > c / 4 % (w : Int))) (setF c w)
    rw [List.length_append, List.length_append]
    simp only [List.length_cons, List.length_nil]
    omega
  · have l2 := List.length_filter_le (fun b => decide (b > c / 4 % (w : Int))) (zs (List.range w))
    have a1 : c / 4 % (w : Int) < w := Int.emod_lt_of_pos _ (by omega)
    rw [zs_len, List.length_range] at l2
    rw [List.length_append, List.length_append, zs_len, List.length_range, List.length_singleton]
    omega
theorem part_kind {sort : Nat} {c : Int} {w m : Nat} (h7 : sort < 7) (w8 : w ≤ 8) : KindP sort (partF sort c w m) := by
  have r := row_len c m
  have s := set_len c w
  unfold partF
  split
  · next h => exact ⟨by omega, by show (rowF c m).length ≤ 100; omega⟩
  split
  · next h => exact ⟨by omega, by show 1 ≤ 100; decide⟩
  split
  · next h => exact ⟨by omega, by omega, by rw [mark_len]; omega⟩
  split
  · next h => exact ⟨by omega, by omega, by rw [List.length_map, beads_len]; omega⟩
  split
  · show sort = 6
    omega
  split
  · exact ⟨by omega, by omega⟩
  · exact ⟨by omega, by rw [weights_len]; omega⟩
theorem bad_kind {sort : Nat} {c : Int} {w m : Nat} (h7 : sort < 7) (w1 : 1 ≤ w) (w8 : w ≤ 8) : KindP sort (badF sort c w m) := by
  have r := row_len (c / 16) m
  unfold badF
  split
  · split
    · exact ⟨by omega, by show (rowF (c / 16) m).length ≤ 100; omega⟩
    · exact ⟨by omega, by show (insAt (rowF (c / 16) m) _ _).length ≤ 100; rw [ins_len]; omega⟩
  split
  · exact ⟨by omega, Nat.zero_le _⟩
  split
  · exact ⟨by omega, by omega, by rw [List.length_map]; have := badBag_len c w8; omega⟩
  split
  · exact ⟨by omega, by have := badSet_len (c := c / 2) w1 w8; omega⟩
  · exact ⟨by omega, by rw [weights_len]; split <;> omega⟩
theorem rows_len (sort : Nat) (c : Int) (w m : Nat) : (rowsF sort c w m).length ≤ 3 := by
  unfold rowsF
  split
  · exact Nat.zero_le _
  · rw [List.length_map, List.length_range]; omega
theorem rows_kind {sort : Nat} {c : Int} {w m : Nat} (h7 : sort < 7) (w8 : w ≤ 8) : ∀ p ∈ rowsF sort c w m, KindP sort p := by
  unfold rowsF
  split
  · exact fun p hp => nomatch hp
  · intro p hp
    obtain ⟨k, _, rfl⟩ := List.mem_map.mp hp
    exact part_kind h7 w8
theorem ins_mem {α : Type} {l : List α} {k : Nat} {x y : α} (h : y ∈ insAt l k x) : y = x ∨ y ∈ l := by
  unfold insAt at h
  rw [List.mem_append, List.mem_cons] at h
  rcases h with h | h | h
  · exact .inr (List.mem_of_mem_take h)
  · exact .inl h
  · exact .inr (List.mem_of_mem_drop h)
theorem parts_kind {sort : Nat} {c : Int} {w m : Nat} {bad : Bool} (h7 : sort < 7) (w1 : 1 ≤ w) (w8 : w ≤ 8) : ∀ p ∈ partsF sort c w m bad, KindP sort p := by
  unfold partsF
  split
  · intro p hp
    rcases ins_mem hp with e | e
    · rw [e]; exact bad_kind h7 w1 w8
    · exact rows_kind h7 w8 p e
  · exact rows_kind h7 w8
theorem parts_len (sort : Nat) (c : Int) (w m : Nat) (bad : Bool) : (partsF sort c w m bad).length ≤ 4 := by
  have := rows_len sort c w m
  unfold partsF
  split
  · rw [ins_len]; omega
  · omega
theorem paired_ins {α β : Type} {F : α → β → Prop} : ∀ {l₁ : List α} {l₂ : List β} (k : Nat) {a : α} {b : β}, Paired F l₁ l₂ → F a b → Paired F (insAt l₁ k a) (insAt l₂ k b)
  | _, _, 0, _, _, h, h2 => .cons h2 h
  | _, _, k + 1, _, _, .nil, h2 => .cons h2 .nil
  | _, _, k + 1, _, _, .cons h t, h2 => .cons h (paired_ins k t h2)
theorem other_fit {sort : Nat} {c : Int} {w : Nat} {bad : Bool} (w1 : 1 ≤ w) (w8 : w ≤ 8) : FitP (otherF sort c w bad) := by
  unfold otherF
  have h2 := badSet_len (c := c) w1 w8
  have h3 := set_len c w
  split
  · show (if bad = true then badSetF c w else setF c w).length ≤ 1000
    split <;> omega
  split
  · show (weightsF c _).length ≤ 1000
    rw [weights_len]
    split
    · split <;> omega
    · omega
  · show (weightsF c _).length ≤ 1000
    rw [weights_len]
    split
    · split <;> omega
    · omega
theorem pap_fit {c : Int} {w m : Nat} {bad : Bool} (w1 : 1 ≤ w) (w8 : w ≤ 8) (hc : 0 ≤ c) : FitP (papF c w m bad) := by
  have s0 : 0 ≤ c % 12 := Int.emod_nonneg _ (by decide)
  have i0 : 0 ≤ c / 12 % 3 := Int.emod_nonneg _ (by decide)
  have i3 : c / 12 % 3 < 3 := Int.emod_lt_of_pos _ (by decide)
  have L : ∀ sort c bad, sort < 7 → FitP (listF sort c w m bad) := fun sort c bad h => papL_fit h (Nat.le_trans (parts_len ..) (by decide)) (parts_kind h w1 w8)
  have W : ∀ c bad, ((partsF 0 c w m bad).map getW).length ≤ 1000 := fun c bad => by rw [List.length_map]; exact Nat.le_trans (parts_len ..) (by decide)
  unfold papF
  split
  · exact L _ _ _ (by omega)
  split
  · exact other_fit w1 w8
  split
  · exact ⟨W _ _, fit_W (parts_kind (by decide) w1 w8), other_fit w1 w8⟩
  · exact ⟨W _ _, fit_W (parts_kind (by decide) w1 w8), L _ _ _ (by omega)⟩
theorem pap_deep (c : Int) (w m : Nat) (bad : Bool) : deepP (papF c w m bad) ≤ 5 := by
  have o : ∀ s c b, deepP (otherF s c w b) ≤ 4 := fun s c b => by unfold otherF; split; exact Nat.le_refl _; split <;> exact Nat.le_refl _
  have l : ∀ s c b, deepP (listF s c w m b) ≤ 4 := fun s c b => by
    unfold listF papL
    split; exact Nat.le_refl _
    split; exact Nat.le_refl _
    split; exact Nat.le_refl _
    split; exact Nat.le_refl _
    split <;> exact Nat.le_refl _
  unfold papF
  split
  · exact Nat.le_succ_of_le (l _ _ _)
  split
  · exact Nat.le_succ_of_le (o _ _ _)
  split
  · exact Nat.succ_le_succ (o _ _ _)
  · exact Nat.succ_le_succ (l _ _ _)
theorem pap_lk5 {K : PySem.W.Frag} {H : Hp} {P : Pap} {u v : V} (d : deepP P ≤ 5) (h : PapIn H u P) (h' : PapIn H v P) : Lk K H 5 u v := by
  have := Lk.ups (5 - deepP P) (pap_lk (K := K) h h')
  rwa [show deepP P + (5 - deepP P) = 5 by omega] at this
theorem comp_rangeF {tt : Blk → TT} {te : Blk → TE} {H1 : Hp} {Z : List V → Hp → Prop} {lo : Int} {n : Nat} {τ : St} (f : Nat → Bool) (hn : n ≤ 1000)
    (ht : ∀ B i H, i < n → Same H1 H → ∀ Q' : Bool → Hp → Prop, (∀ H2, Same H H2 → Q' (f i) H2) → tt B (some (.int (lo + i)) :: τ) H Q')
    (he : ∀ B i H, i < n → ∀ Q' : VK, Q' (.int (lo + i)) H → te B (some (.int (lo + i)) :: τ) H Q')
    (hd : ∀ H2, Same H1 H2 → Z (((List.range n).filter f).map fun (i : Nat) => V.int (lo + i)) H2) :
    ∃ W : Nat → Nat → List V → St → Hp → Prop, (∃ m, W 0 m [] (none :: τ) H1) ∧ ∀ B : Blk, CompW (Itr lo n) (gName 0) (tt B) (te B) W Z := by
  refine comp_rangeP (g := fun _ => gName 0) (fun i ys σ H => (∃ v, σ = v :: τ) ∧ Same H1 H ∧ ys = ((List.range i).filter f).map fun (i : Nat) => V.int (lo + i)) ⟨⟨none, rfl⟩, Same.refl _, rfl⟩ (fun i ys σ H hi ⟨_, _, e⟩ => ?_) (fun B i ys σ H hi ⟨⟨v, e⟩, S, ey⟩ => ?_) (fun ys σ H ⟨_, S, e⟩ => ?_)
  · rw [e, List.length_map]
    exact small1000 (Nat.le_trans (List.length_filter_le _ _) (by rw [List.length_range]; omega))
  · subst e
    try dsimp only [gName]
    refine ht B i H hi S _ fun H2 S2 => ?_
    have er : (List.range (i + 1)).filter f = (List.range i).filter f ++ (if f i then [i] else []) := by
      rw [List.range_succ, List.filter_append]
      congr 1
      cases e : f i <;> simp [e]
    cases ef : f i with
    | true =>
      rw [if_pos rfl]
      refine he B i H2 hi _ ⟨⟨_, rfl⟩, S.trans S2, ?_⟩
      rw [er, ef, ey, if_pos rfl, List.map_append]
      rfl
    | false =>
      rw [if_neg (by decide)]
      refine ⟨⟨_, rfl⟩, S.trans S2, ?_⟩
      rw [er, ef, ey, if_neg (by decide), List.append_nil]
  · rw [e]
    exact hd H S
def markI (c : Int) (w i : Nat) : Mark := (List.range w).map fun (b : Nat) => if b < i ∧ mixF c (10 + b) % 3 = 0 then none else some (greatF (mixF c b))
theorem markI_0 (c : Int) (w : Nat) : vmk (markI c w 0) = vints (beadsF c w) := by
  unfold markI beadsF
  rw [vmk, vints, List.map_map, List.map_map]
  refine List.map_congr_left fun b _ => ?_
  show vm (if b < 0 ∧ _ then none else some _) = _
  rw [if_neg (fun h => absurd h.1 (Nat.not_lt_zero _))]
  rfl
theorem markI_w (c : Int) (w : Nat) : markI c w w = markF c w := by
  unfold markI markF
  refine List.map_congr_left fun b hb => ?_
  have := List.mem_range.mp hb
  by_cases h : mixF c (10 + b) % 3 = 0
  · rw [if_pos ⟨this, h⟩, if_pos h]
  · rw [if_neg (fun z => h z.2), if_neg h]
theorem markI_s {c : Int} {w i : Nat} (h : i < w) : markI c w (i + 1) = if mixF c (10 + i) % 3 = 0 then (markI c w i).set i none else markI c w i := by
  refine List.ext_getElem? fun j => ?_
  have lm : ∀ k, (markI c w k).length = w := fun k => by unfold markI; rw [List.length_map, List.length_range]
  have gj : ∀ k, (markI c w k)[j]? = if j < w then some (if j < k ∧ mixF c (10 + j) % 3 = 0 then none else some (greatF (mixF c j))) else none := fun k => by
    unfold markI
    rw [List.getElem?_map]
    split
    · next hj => rw [List.getElem?_range hj]; rfl
    · next hj => rw [List.getElem?_eq_none (by rw [List.length_range]; omega)]; rfl
  split
  · next e =>
    rw [List.getElem?_set, lm, gj, gj]
    by_cases hj : i = j
    · subst hj
      rw [if_pos rfl, if_pos h, if_pos h, if_pos ⟨Nat.lt_succ_self _, e⟩]
    · rw [if_neg hj]
      by_cases hw : j < w
      · rw [if_pos hw, if_pos hw]
        congr 1
        have : (j < i + 1 ∧ mixF c (10 + j) % 3 = 0) ↔ (j < i ∧ mixF c (10 + j) % 3 = 0) := ⟨fun z => ⟨by omega, z.2⟩, fun z => ⟨by omega, z.2⟩⟩
        simp only [this]
      · rw [if_neg hw, if_neg hw]
  · next e =>
    rw [gj, gj]
    by_cases hw : j < w
    · rw [if_pos hw, if_pos hw]
      congr 1
      have : (j < i + 1 ∧ mixF c (10 + j) % 3 = 0) ↔ (j < i ∧ mixF c (10 + j) % 3 = 0) := ⟨fun z => ⟨by
        rcases Nat.lt_succ_iff_lt_or_eq.mp z.1 with q | q
        · exact q
        · rw [q] at z; exact absurd z.2 e, z.2⟩, fun z => ⟨by omega, z.2⟩⟩
      simp only [this]
    · rw [if_neg hw, if_neg hw]
theorem markI_len (c : Int) (w i : Nat) : (vmk (markI c w i)).length = w := by unfold markI vmk; rw [List.length_map, List.length_map, List.length_range]
theorem vmk_set (m : Mark) (i : Nat) : (vmk m).set i .non = vmk (m.set i none) := by
  unfold vmk
  rw [List.map_set]
  rfl
theorem vi_app (a b : List Int) : vints a ++ vints b = vints (a ++ b) := List.map_append.symm
theorem cut_fromI (xs : List V) (k : Nat) : cutV xs (some (k : Int)) none = xs.drop k := by
  unfold cutV
  rw [HT.sIx_none, HT.sIx_nat]
  by_cases h : k ≤ xs.length
  · rw [Nat.min_eq_left h, List.take_of_length_le (by rw [List.length_drop]; omega)]
  · rw [Nat.min_eq_right (by omega), List.drop_eq_nil_of_le (Nat.le_refl _), List.drop_eq_nil_of_le (by omega), List.take_nil]
/-- a part that does not lie at r -/
def PartOff (r : Addr) (H : Hp) (v : V) : Part → Prop
  | .wr b => ∃ a q, v = .ref a ∧ a ≠ r ∧ q ≠ r ∧ H a = some (.tup [.int b.1, .ref q]) ∧ H q = some (.lst (vints b.2))
  | .mk m => ∃ a, v = .ref a ∧ a ≠ r ∧ H a = some (.lst (vmk m))
  | .rs .no => v = .non
  | .rs (.yes t ws) => ∃ a l, v = .ref a ∧ a ≠ r ∧ l ≠ r ∧ H a = some (.tup [.str (kindS t), .ref l]) ∧ H l = some (.lst (vints ws))
def PartNew (H0 H : Hp) (v : V) : Part → Prop
  | .wr b => ∃ a q, v = .ref a ∧ H0 a = none ∧ H0 q = none ∧ H a = some (.tup [.int b.1, .ref q]) ∧ H q = some (.lst (vints b.2))
  | .mk m => ∃ a, v = .ref a ∧ H0 a = none ∧ H a = some (.lst (vmk m))
  | .rs .no => v = .non
  | .rs (.yes t ws) => ∃ a l, v = .ref a ∧ H0 a = none ∧ H0 l = none ∧ H a = some (.tup [.str (kindS t), .ref l]) ∧ H l = some (.lst (vints ws))
theorem PartIn.off {H : Hp} {r : Addr} (hr : H r = none) {v : V} : ∀ {p : Part}, PartIn H v p → PartOff r H v p
  | .wr _, ⟨a, e, q, h1, h2⟩ => ⟨a, q, e, ne_of_none h1 hr, ne_of_none h2 hr, h1, h2⟩
  | .mk _, ⟨a, e, h⟩ => ⟨a, e, ne_of_none h hr, h⟩
  | .rs .no, h => h
  | .rs (.yes _ _), ⟨a, l, e, h1, h2⟩ => ⟨a, l, e, ne_of_none h1 hr, ne_of_none h2 hr, h1, h2⟩
theorem PartNew.off {H0 H : Hp} {r : Addr} {o : HO} {v : V} (hr : H0 r = some o) : ∀ {p : Part}, PartNew H0 H v p → PartOff r H v p
  | .wr _, ⟨a, q, e, n1, n2, h1, h2⟩ => ⟨a, q, e, (ne_of_none hr n1).symm, (ne_of_none hr n2).symm, h1, h2⟩
  | .mk _, ⟨a, e, n, h⟩ => ⟨a, e, (ne_of_none hr n).symm, h⟩
  | .rs .no, h => h
  | .rs (.yes _ _), ⟨a, l, e, n1, n2, h1, h2⟩ => ⟨a, l, e, (ne_of_none hr n1).symm, (ne_of_none hr n2).symm, h1, h2⟩
theorem PartOff.is {H : Hp} {r : Addr} {v : V} : ∀ {p : Part}, PartOff r H v p → PartIn H v p
  | .wr _, ⟨a, q, e, _, _, h1, h2⟩ => ⟨a, e, q, h1, h2⟩
  | .mk _, ⟨a, e, _, h⟩ => ⟨a, e, h⟩
  | .rs .no, h => h
  | .rs (.yes _ _), ⟨a, l, e, _, _, h1, h2⟩ => ⟨a, l, e, h1, h2⟩
theorem PartOff.same {H H' : Hp} {r : Addr} {v : V} (S : Same H H') : ∀ {p : Part}, PartOff r H v p → PartOff r H' v p
  | .wr _, ⟨a, q, e, n1, n2, h1, h2⟩ => ⟨a, q, e, n1, n2, S _ _ h1, S _ _ h2⟩
  | .mk _, ⟨a, e, n, h⟩ => ⟨a, e, n, S _ _ h⟩
  | .rs .no, h => h
  | .rs (.yes _ _), ⟨a, l, e, n1, n2, h1, h2⟩ => ⟨a, l, e, n1, n2, S _ _ h1, S _ _ h2⟩
theorem PartOff.upd {H : Hp} {r : Addr} {o : HO} {v : V} : ∀ {p : Part}, PartOff r H v p → PartIn (L2.upd H r o) v p
  | .wr _, ⟨a, q, e, n1, n2, h1, h2⟩ => ⟨a, e, q, by rw [upd_ne n1]; exact h1, by rw [upd_ne n2]; exact h2⟩
  | .mk _, ⟨a, e, n, h⟩ => ⟨a, e, by rw [upd_ne n]; exact h⟩
  | .rs .no, h => h
  | .rs (.yes _ _), ⟨a, l, e, n1, n2, h1, h2⟩ => ⟨a, l, e, by rw [upd_ne n1]; exact h1, by rw [upd_ne n2]; exact h2⟩
end L2



theorem PySem.W.Fast.tw10215257444129286936 : True := trivial
theorem PySem.W.Fast.tw10543015176874278420 : True := trivial
theorem PySem.W.Fast.tw1106042033419860570 : True := trivial
theorem PySem.W.Fast.tw12714311438555089280 : True := trivial
theorem PySem.W.Fast.tw13999047418970542736 : True := trivial
theorem PySem.W.Fast.tw16894980718850791605 : True := trivial
theorem PySem.W.Fast.tw2169894686923229530 : True := trivial
theorem PySem.W.Fast.tw229016435689472583 : True := trivial
theorem PySem.W.Fast.tw2335063840821426760 : True := trivial
theorem PySem.W.Fast.tw3303020873943232228 : True := trivial
theorem PySem.W.Fast.tw3536302736888395725 : True := trivial
theorem PySem.W.Fast.tw4465636404409726229 : True := trivial
theorem PySem.W.Fast.tw5019662718376044812 : True := trivial
theorem PySem.W.Fast.tw5167746155672224787 : True := trivial
theorem PySem.W.Fast.tw5394491489611239527 : True := trivial
theorem PySem.W.Fast.tw6104142236308258793 : True := trivial
theorem PySem.W.Fast.tw7544693258050313957 : True := trivial
theorem PySem.W.Fast.tw8456803465894023872 : True := trivial
theorem PySem.W.Fast.tw9474104877367880592 : True := trivial
namespace Law
open PySem L2
def top (i : Nat) : Stmt := PySem.Challenge.pw_beadhall_k86_well_made.main.body.getD i (.Pass ⟨0, 0, 0, 0⟩)
abbrev s_law_mixed : Stmt := top 31
abbrev s_law_units : Stmt := top 33
abbrev s_law_number : Stmt := top 32
abbrev s_law_doors : Stmt := top 34
abbrev s_law_cell : Stmt := top 30
abbrev s_is_name : Stmt := top 11
abbrev s_refuse_bad_names : Stmt := top 10
abbrev s_refuse_bad_bags : Stmt := top 12
abbrev s_Net_init : Stmt := inClass (top 9) 0
abbrev s_law_net_of : Stmt := top 35
abbrev s_law_great : Stmt := top 37
abbrev s_law_row : Stmt := top 42
abbrev s_law_beads : Stmt := top 38
abbrev s_law_mark : Stmt := top 39
abbrev s_law_set : Stmt := top 41
abbrev s_law_weights : Stmt := top 40
abbrev s_law_part : Stmt := top 43
abbrev s_law_bad_bag : Stmt := top 44
abbrev s_law_bad_set : Stmt := top 45
abbrev s_law_bad_part : Stmt := top 46
abbrev s_law_parts_by : Stmt := top 47
abbrev s_law_list_paper : Stmt := top 48
abbrev s_law_other_paper : Stmt := top 49
abbrev s_law_paper : Stmt := top 50
abbrev s_law_told : Stmt := top 36
abbrev s_are_doors : Stmt := top 17
abbrev s_run_well_made : Stmt := top 15
abbrev s_branch_well_made : Stmt := top 16
abbrev s_is_wide_enough : Stmt := top 21
abbrev s_is_mark : Stmt := top 20
abbrev s_marks_well_made : Stmt := top 18
abbrev s_bags_well_made : Stmt := top 19
abbrev s_weights_well_made : Stmt := top 22
abbrev s_set_well_made : Stmt := top 23
abbrev s_reason_well_made : Stmt := top 25
abbrev s_kept_well_made : Stmt := top 24
abbrev s_most_well_made : Stmt := top 26
abbrev s_well_made : Stmt := top 14
abbrev s_law : Stmt := top 51
inductive sp_law_mixed (K : PySem.W.Frag) (vs : List V) (H : Hp) (Q : VK) (z_3 : XK) : Prop
  | mk : ∀ (c k : Int), (vs = [.int c, .int k]) → (0 ≤ k) → (k < 100000) → (∀ n : Int, 0 ≤ n → n < 998244353 ∧ n = mixF c k → Q (.int n) H) → sp_law_mixed K vs H Q z_3
inductive sp_law_units (K : PySem.W.Frag) (vs : List V) (H : Hp) (Q : VK) (z_3 : XK) : Prop
  | mk : ∀ (c : Int) (z : Nat), (vs = [.int c, .int z]) → (z ≤ 8) → (∀ (p : Addr) (us : List Int) (H' : Hp), H p = none → Same H H' → H' p = some (.lst (vints us)) → us.length = z → (∀ u ∈ us, 1 ≤ u ∧ u ≤ 250000000) → Q (.ref p) H') → sp_law_units K vs H Q z_3
inductive sp_law_number (K : PySem.W.Frag) (vs : List V) (H : Hp) (Q : VK) (z_3 : XK) : Prop
  | mk : ∀ (c k : Int), (vs = [.int c, .int k]) → (0 ≤ k) → (k < 100000) → (∀ n : Int, 0 ≤ n → n ≤ 3 → Q (.int n) H) → sp_law_number K vs H Q z_3
inductive sp_law_doors (K : PySem.W.Frag) (vs : List V) (H : Hp) (Q : VK) (z_3 : XK) : Prop
  | mk : ∀ (one two cell : Int), (vs = [.int one, .int two, .int cell]) → (∀ (p pt pg pu : Addr) (ts gs : List Addr) (z : Nat) (tk gv : List (List Int)) (us : List Int) (H' : Hp), H p = none → Same H H' → PartsT H' p pt pg pu ts gs z tk gv us → OkT z tk gv us → Q (.ref p) H') → sp_law_doors K vs H Q z_3
inductive sp_law_cell (K : PySem.W.Frag) (vs : List V) (H : Hp) (Q : VK) (z_3 : XK) : Prop
  | mk : ∀ (a : Addr) (ns : List Int) (k : Int), (vs = [.ref a, .int k]) → (SqL K H a (vints ns)) → (0 ≤ k) → (∀ n : Int, 0 ≤ n → n < 2305843009213693951 → Q (.int n) H) → sp_law_cell K vs H Q z_3
inductive sp_is_name (K : PySem.W.Frag) (vs : List V) (H : Hp) (Q : VK) (z_3 : XK) : Prop
  | mk : ∀ (x : Str), (vs = [.str x]) → (x.cps.all (· < 128) = true) → (x.length ≤ 1000) → (∀ H', Same H H' → Q (.bl (okName x)) H') → sp_is_name K vs H Q z_3
inductive sp_refuse_bad_names (K : PySem.W.Frag) (vs : List V) (H : Hp) (Q : VK) (z_3 : XK) : Prop
  | mk : ∀ (a : Addr) (ys : List Str) (lo hi : Int), (vs = [.ref a, .int lo, .int hi]) → (SqL K H a (vstrs ys)) → (lo ≤ ys.length) → (ys.length ≤ hi) → (ys.length ≤ 60) → ((∀ y ∈ ys, okName y = true)) → (ys.Nodup) → (∀ H', Same H H' → Q .non H') → sp_refuse_bad_names K vs H Q z_3
inductive sp_refuse_bad_bags (K : PySem.W.Frag) (vs : List V) (H : Hp) (Q : VK) (z_3 : XK) : Prop
  | mk : ∀ (a : Addr) (as : List Addr) (rs : List (List Int)) (n : Nat), (vs = [.ref a, .int rs.length, .int n]) → (SqL K H a (as.map V.ref)) → (Rows H as rs) → ((∀ r ∈ rs, okBag n r)) → (Q .non H) → sp_refuse_bad_bags K vs H Q z_3
inductive sp_Net_init (C : Addr) (K : PySem.W.Frag) (vs : List V) (H : Hp) (Q : VK) (z_3 : XK) : Prop
  | mk : ∀ (x dx pb pd pt pg pf : Addr) (ts gs : List Addr) (N : NetV), (vs = [.ref x, .ref pb, .ref pd, .ref pt, .ref pg, .ref pf]) → (H x = some (.ins C dx [])) → (N.Ok) → (SqL K H pb (vstrs N.bowls)) → (SqL K H pd (vstrs N.doors)) → (SqL K H pt (ts.map V.ref)) → (Rows H ts N.takes) → (SqL K H pg (gs.map V.ref)) → (Rows H gs N.gives) → (H pf = some (.lst (vints N.first))) → (∀ (b d t g f : Addr) (ts' gs' : List Addr) (H' : Hp), (∀ a ∈ [b, d, t, g, f] ++ ts' ++ gs', H a = none) → (∀ q o, H q = some o → q ≠ x → H' q = some o) → NetIn C H' x dx b d t g f ts' gs' N → Q .non H') → sp_Net_init C K vs H Q z_3
inductive sp_law_net_of (C : Addr) (K : PySem.W.Frag) (vs : List V) (H : Hp) (Q : VK) (z_3 : XK) : Prop
  | mk : ∀ (p pt pg pu pf : Addr) (ts gs : List Addr) (tk gv : List (List Int)) (us fs : List Int), (vs = [.ref p, .ref pf]) → (PartsT H p pt pg pu ts gs fs.length tk gv us) → (OkT fs.length tk gv us) → (SqL K H pf (vints fs)) → (okBag fs.length fs) → (∀ (x dx b d t g f : Addr) (ts' gs' : List Addr) (H' : Hp), H x = none → Same H H' → NetIn C H' x dx b d t g f ts' gs' (netT tk gv fs) → (netT tk gv fs).Ok → Q (.ref x) H') → sp_law_net_of C K vs H Q z_3
inductive sp_law_great (K : PySem.W.Frag) (vs : List V) (H : Hp) (Q : VK) (z_3 : XK) : Prop
  | mk : ∀ (t : Int), (vs = [.int t]) → (0 ≤ t) → (t < 998244353) → (∀ H', Same H H' → Q (.int (greatF t)) H') → sp_law_great K vs H Q z_3
inductive sp_law_row (K : PySem.W.Frag) (vs : List V) (H : Hp) (Q : VK) (z_3 : XK) : Prop
  | mk : ∀ (c : Int) (m : Nat), (vs = [.int c, .int (m : Int)]) → (m ≤ 8) → (∀ (p : Addr) (H' : Hp), H p = none → Same H H' → H' p = some (.lst (vints (rowF c m))) → Q (.ref p) H') → sp_law_row K vs H Q z_3
inductive sp_law_beads (K : PySem.W.Frag) (vs : List V) (H : Hp) (Q : VK) (z_3 : XK) : Prop
  | mk : ∀ (c : Int) (w : Nat), (vs = [.int c, .int (w : Int)]) → (w ≤ 8) → (∀ (p : Addr) (H' : Hp), H p = none → Same H H' → H' p = some (.lst (vints (beadsF c w))) → Q (.ref p) H') → sp_law_beads K vs H Q z_3
inductive sp_law_mark (K : PySem.W.Frag) (vs : List V) (H : Hp) (Q : VK) (z_3 : XK) : Prop
  | mk : ∀ (c : Int) (w : Nat), (vs = [.int c, .int (w : Int)]) → (w ≤ 8) → (∀ (p : Addr) (H' : Hp), Same H H' → H' p = some (.lst (vmk (markF c w))) → Q (.ref p) H') → sp_law_mark K vs H Q z_3
inductive sp_law_set (K : PySem.W.Frag) (vs : List V) (H : Hp) (Q : VK) (z_3 : XK) : Prop
  | mk : ∀ (c : Int) (w : Nat), (vs = [.int c, .int (w : Int)]) → (w ≤ 8) → (∀ (p : Addr) (H' : Hp), Same H H' → H' p = some (.lst (vints (setF c w))) → Q (.ref p) H') → sp_law_set K vs H Q z_3
inductive sp_law_weights (K : PySem.W.Frag) (vs : List V) (H : Hp) (Q : VK) (z_3 : XK) : Prop
  | mk : ∀ (c : Int) (w : Nat), (vs = [.int c, .int (w : Int)]) → (w ≤ 8) → (∀ (p : Addr) (H' : Hp), H p = none → Same H H' → H' p = some (.lst (vints (weightsF c w))) → Q (.ref p) H') → sp_law_weights K vs H Q z_3
inductive sp_law_part (K : PySem.W.Frag) (vs : List V) (H : Hp) (Q : VK) (z_3 : XK) : Prop
  | mk : ∀ (s : Nat) (c : Int) (w m : Nat), (vs = [.int (s : Int), .int c, .int (w : Int), .int (m : Int)]) → (s < 7) → (w ≤ 7) → (m ≤ 8) → (∀ (v : V) (H' : Hp), Same H H' → PartIn H' v (partF s c w m) → Q v H') → sp_law_part K vs H Q z_3
inductive sp_law_bad_bag (K : PySem.W.Frag) (vs : List V) (H : Hp) (Q : VK) (z_3 : XK) : Prop
  | mk : ∀ (c : Int) (w : Nat), (vs = [.int c, .int (w : Int)]) → (0 ≤ c) → (c < 998244353) → (1 ≤ w) → (w ≤ 7) → (∀ (p : Addr) (H' : Hp), H p = none → Same H H' → H' p = some (.lst (vints (badBagF c w))) → Q (.ref p) H') → sp_law_bad_bag K vs H Q z_3
inductive sp_law_bad_set (K : PySem.W.Frag) (vs : List V) (H : Hp) (Q : VK) (z_3 : XK) : Prop
  | mk : ∀ (c : Int) (w : Nat), (vs = [.int c, .int (w : Int)]) → (0 ≤ c) → (1 ≤ w) → (w ≤ 7) → (∀ (p : Addr) (H' : Hp), H p = none → Same H H' → H' p = some (.lst (vints (badSetF c w))) → Q (.ref p) H') → sp_law_bad_set K vs H Q z_3
inductive sp_law_bad_part (K : PySem.W.Frag) (vs : List V) (H : Hp) (Q : VK) (z_3 : XK) : Prop
  | mk : ∀ (s : Nat) (c : Int) (w m : Nat), (vs = [.int (s : Int), .int c, .int (w : Int), .int (m : Int)]) → (s < 7) → (0 ≤ c) → (c < 998244353) → (1 ≤ w) → (w ≤ 7) → (m ≤ 8) → (∀ (v : V) (H' : Hp), Same H H' → PartNew H H' v (badF s c w m) → Q v H') → sp_law_bad_part K vs H Q z_3
inductive sp_law_parts_by (K : PySem.W.Frag) (vs : List V) (H : Hp) (Q : VK) (z_3 : XK) : Prop
  | mk : ∀ (s : Nat) (c : Int) (w m : Nat) (bad : Bool), (vs = [.int (s : Int), .int c, .int (w : Int), .int (m : Int), .bl bad]) → (s < 7) → (0 ≤ c) → (1 ≤ w) → (w ≤ 7) → (m ≤ 8) → (∀ (p : Addr) (us : List V) (H' : Hp), Same H H' → H' p = some (.lst us) → Paired (PartIn H') us (partsF s c w m bad) → Q (.ref p) H') → sp_law_parts_by K vs H Q z_3
inductive sp_law_list_paper (K : PySem.W.Frag) (vs : List V) (H : Hp) (Q : VK) (z_3 : XK) : Prop
  | mk : ∀ (s : Nat) (c : Int) (w m : Nat) (bad : Bool), (vs = [.int (s : Int), .int c, .int (w : Int), .int (m : Int), .bl bad]) → (s < 7) → (0 ≤ c) → (1 ≤ w) → (w ≤ 7) → (m ≤ 8) → (∀ (p : Addr) (H' : Hp), Same H H' → PapIn H' (.ref p) (listF s c w m bad) → Q (.ref p) H') → sp_law_list_paper K vs H Q z_3
inductive sp_law_other_paper (K : PySem.W.Frag) (vs : List V) (H : Hp) (Q : VK) (z_3 : XK) : Prop
  | mk : ∀ (s : Nat) (c : Int) (w : Nat) (bad : Bool), (vs = [.int (s : Int), .int c, .int (w : Int), .bl bad]) → (7 ≤ s) → (s ≤ 10) → (0 ≤ c) → (1 ≤ w) → (w ≤ 7) → (∀ (p : Addr) (H' : Hp), Same H H' → PapIn H' (.ref p) (otherF s c w bad) → Q (.ref p) H') → sp_law_other_paper K vs H Q z_3
inductive sp_law_paper (K : PySem.W.Frag) (vs : List V) (H : Hp) (Q : VK) (z_3 : XK) : Prop
  | mk : ∀ (c : Int) (w m : Nat) (bad : Bool), (vs = [.int c, .int (w : Int), .int (m : Int), .bl bad]) → (0 ≤ c) → (1 ≤ w) → (w ≤ 7) → (m ≤ 8) → (∀ (p : Addr) (H' : Hp), Same H H' → PapIn H' (.ref p) (papF c w m bad) → Q (.ref p) H') → sp_law_paper K vs H Q z_3
inductive sp_law_told (K : PySem.W.Frag) (vs : List V) (H : Hp) (Q : VK) (z_3 : XK) : Prop
  | mk : ∀ (k : Bool), (vs = [.bl k, .bl k]) → (Q (.bl true) H) → sp_law_told K vs H Q z_3
inductive sp_are_doors (C : Addr) (K : PySem.W.Frag) (vs : List V) (H : Hp) (Q : VK) (z_3 : XK) : Prop
  | mk : ∀ (x dx b d t g f p : Addr) (ts gs : List Addr) (N : NetV) (ds : List Int), (vs = [.ref x, .ref p]) → (NetIn C H x dx b d t g f ts gs N) → (SqL K H p (vints ds)) → (ds.length ≤ 1000) → (∀ H', Same H H' → Q (.bl (doorsB N.doors.length ds)) H') → sp_are_doors C K vs H Q z_3
inductive sp_run_well_made (C : Addr) (K : PySem.W.Frag) (vs : List V) (H : Hp) (Q : VK) (z_3 : XK) : Prop
  | mk : ∀ (x dx b d t g f p l : Addr) (ts gs as : List Addr) (N : NetV) (us : List V) (bs : List (Int × List Int)), (vs = [.ref x, .ref p]) → (NetIn C H x dx b d t g f ts gs N) → (SqT K H p us) → (atI us 1 = some (.ref l)) → (H l = some (.lst (as.map V.ref))) → (BRows H as bs) → (bs.length ≤ 1000) → ((∀ c ∈ bs, c.2.length ≤ 1000)) → (∀ H', Same H H' → Q (.bl (runB N.doors.length bs)) H') → sp_run_well_made C K vs H Q z_3
inductive sp_branch_well_made (C : Addr) (K : PySem.W.Frag) (vs : List V) (H : Hp) (Q : VK) (z_3 : XK) : Prop
  | mk : ∀ (x dx b d t g f p l : Addr) (ts gs as : List Addr) (N : NetV) (us : List V) (bs : List (Int × List Int)), (vs = [.ref x, .ref p]) → (NetIn C H x dx b d t g f ts gs N) → (SqT K H p us) → (atI us 1 = some (.ref l)) → (H l = some (.lst (as.map V.ref))) → (BRows H as bs) → (bs.length ≤ 1000) → (∀ H', Same H H' → Q (.bl (brB N.doors.length bs)) H') → sp_branch_well_made C K vs H Q z_3
inductive sp_is_wide_enough (C : Addr) (K : PySem.W.Frag) (vs : List V) (H : Hp) (Q : VK) (z_3 : XK) : Prop
  | mk : ∀ (x dx b d t g f p : Addr) (ts gs : List Addr) (N : NetV) (us : List V), (vs = [.ref x, .ref p]) → (NetIn C H x dx b d t g f ts gs N) → (SqL K H p us) → (Q (.bl (decide (us.length = N.bowls.length))) H) → sp_is_wide_enough C K vs H Q z_3
inductive sp_is_mark (C : Addr) (K : PySem.W.Frag) (vs : List V) (H : Hp) (Q : VK) (z_3 : XK) : Prop
  | mk : ∀ (x dx b d t g f p : Addr) (ts gs : List Addr) (N : NetV) (m : Mark), (vs = [.ref x, .ref p]) → (NetIn C H x dx b d t g f ts gs N) → (SqL K H p (vmk m)) → (m.length ≤ 1000) → (∀ H', Same H H' → Q (.bl (mkB N.bowls.length m)) H') → sp_is_mark C K vs H Q z_3
inductive sp_marks_well_made (C : Addr) (K : PySem.W.Frag) (vs : List V) (H : Hp) (Q : VK) (z_3 : XK) : Prop
  | mk : ∀ (x dx b d t g f p l : Addr) (ts gs as : List Addr) (N : NetV) (us : List V) (ms : List Mark), (vs = [.ref x, .ref p]) → (NetIn C H x dx b d t g f ts gs N) → (SqT K H p us) → (atI us 1 = some (.ref l)) → (H l = some (.lst (as.map V.ref))) → (MRows H as ms) → (ms.length ≤ 1000) → ((∀ c ∈ ms, c.length ≤ 1000)) → (∀ H', Same H H' → Q (.bl (mksB N.bowls.length ms)) H') → sp_marks_well_made C K vs H Q z_3
inductive sp_bags_well_made (C : Addr) (K : PySem.W.Frag) (vs : List V) (H : Hp) (Q : VK) (z_3 : XK) : Prop
  | mk : ∀ (x dx b d t g f p l : Addr) (ts gs as : List Addr) (N : NetV) (us : List V) (ms : List Mark), (vs = [.ref x, .ref p]) → (NetIn C H x dx b d t g f ts gs N) → (SqT K H p us) → (atI us 1 = some (.ref l)) → (H l = some (.lst (as.map V.ref))) → (MRows H as ms) → (ms.length ≤ 1000) → ((∀ c ∈ ms, c.length ≤ 1000)) → (∀ H', Same H H' → Q (.bl (bagsB N.bowls.length ms)) H') → sp_bags_well_made C K vs H Q z_3
inductive sp_weights_well_made (C : Addr) (K : PySem.W.Frag) (vs : List V) (H : Hp) (Q : VK) (z_3 : XK) : Prop
  | mk : ∀ (x dx b d t g f p l : Addr) (ts gs : List Addr) (N : NetV) (us : List V) (ws : List Int), (vs = [.ref x, .ref p]) → (NetIn C H x dx b d t g f ts gs N) → (SqT K H p us) → (atI us 1 = some (.ref l)) → (H l = some (.lst (vints ws))) → (Q (.bl (wideB N.bowls.length ws)) H) → sp_weights_well_made C K vs H Q z_3
inductive sp_set_well_made (C : Addr) (K : PySem.W.Frag) (vs : List V) (H : Hp) (Q : VK) (z_3 : XK) : Prop
  | mk : ∀ (x dx b d t g f p l : Addr) (ts gs : List Addr) (N : NetV) (us : List V) (bs : List Int), (vs = [.ref x, .ref p]) → (NetIn C H x dx b d t g f ts gs N) → (N.bowls.length ≤ 6) → (SqT K H p us) → (atI us 1 = some (.ref l)) → (H l = some (.lst (vints bs))) → (bs.length ≤ 1000) → (∀ H', Same H H' → Q (.bl (setWB N.bowls.length bs)) H') → sp_set_well_made C K vs H Q z_3
inductive sp_reason_well_made (C : Addr) (K : PySem.W.Frag) (vs : List V) (H : Hp) (Q : VK) (z_3 : XK) : Prop
  | mk : ∀ (x dx b d t g f p l : Addr) (ts gs : List Addr) (N : NetV) (k : Bool) (bs : List Int), (vs = [.ref x, .ref p]) → (NetIn C H x dx b d t g f ts gs N) → (N.bowls.length ≤ 6) → (H p = some (.tup [.str (kindS k), .ref l])) → (H l = some (.lst (vints bs))) → (bs.length ≤ 1000) → (∀ H', Same H H' → Q (.bl (rsnWB N.bowls.length (.yes k bs))) H') → sp_reason_well_made C K vs H Q z_3
inductive sp_kept_well_made (C : Addr) (K : PySem.W.Frag) (vs : List V) (H : Hp) (Q : VK) (z_3 : XK) : Prop
  | mk : ∀ (x dx b d t g f p l : Addr) (ts gs : List Addr) (N : NetV) (us ws : List V) (rs : List Rsn), (vs = [.ref x, .ref p]) → (NetIn C H x dx b d t g f ts gs N) → (N.bowls.length ≤ 6) → (SqT K H p us) → (atI us 1 = some (.ref l)) → (H l = some (.lst ws)) → (Paired (RsnIn H) ws rs) → (rs.length ≤ 1000) → ((∀ k bs, Rsn.yes k bs ∈ rs → bs.length ≤ 1000)) → (∀ H', Same H H' → Q (.bl (rs.all (rsnWB N.bowls.length))) H') → sp_kept_well_made C K vs H Q z_3
inductive sp_most_well_made (C : Addr) (K : PySem.W.Frag) (vs : List V) (H : Hp) (Q : VK) (z_3 : XK) : Prop
  | mk : ∀ (x dx b d t g f p : Addr) (ts gs : List Addr) (N : NetV) (bs : List (Int × List Int)) (q : Pap), (vs = [.ref x, .ref p]) → (NetIn C H x dx b d t g f ts gs N) → (N.bowls.length ≤ 6) → (PapIn H (.ref p) (.most bs q)) → (FitP (.most bs q)) → (∀ H', Same H H' → Q (.bl (wmB N.bowls.length N.doors.length (.most bs q))) H') → sp_most_well_made C K vs H Q z_3
inductive sp_well_made (C : Addr) (K : PySem.W.Frag) (vs : List V) (H : Hp) (Q : VK) (z_3 : XK) : Prop
  | mk : ∀ (x dx b d t g f p : Addr) (ts gs : List Addr) (N : NetV) (P : Pap), (vs = [.ref x, .ref p]) → (NetIn C H x dx b d t g f ts gs N) → (N.bowls.length ≤ 6) → (PapIn H (.ref p) P) → (FitP P) → (∀ H', Same H H' → Q (.bl (wmB N.bowls.length N.doors.length P)) H') → sp_well_made C K vs H Q z_3
inductive sp_law (K : PySem.W.Frag) (vs : List V) (H : Hp) (Q : VK) (z_3 : XK) : Prop
  | mk : ∀ (a : Addr) (ns : List Int), (vs = [.ref a]) → (SqL K H a (vints ns)) → (ns.length ≤ 63) → (∀ H', Q (.bl true) H') → sp_law K vs H Q z_3
theorem kx1 (CX : CXT) (P : Program) (w : World) (K : PySem.W.Frag) (mg : Str → Option Value) (base : Heap) (N : List Str) (q : Str) (sc : Scope) (f : Addr) (cd : Value) (A : Around) (outer : List Env) (s : Shared) (H : Hp) (E : XK) : (cxOf CX P w K mg base N q sc f cd A outer s H E).K = K := rfl
theorem kx2 (X : Cx) (N : List Str) (sc : Scope) (B : Blk) : (cxComp X N sc B).K = X.K := rfl
theorem kx3 (X : Cx) (N : List Str) (sc : Scope) (B : Blk) : (cxCompC X N sc B).K = X.K := rfl
set_option genInjectivity false in
set_option genSizeOf false in
structure Adr where
  f_law_mixed : Addr
  f_law_units : Addr
  f_law_number : Addr
  f_law_doors : Addr
  f_law_cell : Addr
  f_is_name : Addr
  f_refuse_bad_names : Addr
  f_refuse_bad_bags : Addr
  f_Net_init : Addr
  f_law_net_of : Addr
  f_law_great : Addr
  f_law_row : Addr
  f_law_beads : Addr
  f_law_mark : Addr
  f_law_set : Addr
  f_law_weights : Addr
  f_law_part : Addr
  f_law_bad_bag : Addr
  f_law_bad_set : Addr
  f_law_bad_part : Addr
  f_law_parts_by : Addr
  f_law_list_paper : Addr
  f_law_other_paper : Addr
  f_law_paper : Addr
  f_law_told : Addr
  f_are_doors : Addr
  f_run_well_made : Addr
  f_branch_well_made : Addr
  f_is_wide_enough : Addr
  f_is_mark : Addr
  f_marks_well_made : Addr
  f_bags_well_made : Addr
  f_weights_well_made : Addr
  f_set_well_made : Addr
  f_reason_well_made : Addr
  f_kept_well_made : Addr
  f_most_well_made : Addr
  f_well_made : Addr
  f_law : Addr
  C_Net : Addr
  D_BOUNDS : Addr
  D_MAKERS : Addr
set_option genInjectivity false in
set_option genSizeOf false in
structure Fds where
  d_law_mixed : FuncData
  d_law_units : FuncData
  d_law_number : FuncData
  d_law_doors : FuncData
  d_law_cell : FuncData
  d_is_name : FuncData
  d_refuse_bad_names : FuncData
  d_refuse_bad_bags : FuncData
  d_Net_init : FuncData
  d_law_net_of : FuncData
  d_law_great : FuncData
  d_law_row : FuncData
  d_law_beads : FuncData
  d_law_mark : FuncData
  d_law_set : FuncData
  d_law_weights : FuncData
  d_law_part : FuncData
  d_law_bad_bag : FuncData
  d_law_bad_set : FuncData
  d_law_bad_part : FuncData
  d_law_parts_by : FuncData
  d_law_list_paper : FuncData
  d_law_other_paper : FuncData
  d_law_paper : FuncData
  d_law_told : FuncData
  d_are_doors : FuncData
  d_run_well_made : FuncData
  d_branch_well_made : FuncData
  d_is_wide_enough : FuncData
  d_is_mark : FuncData
  d_marks_well_made : FuncData
  d_bags_well_made : FuncData
  d_weights_well_made : FuncData
  d_set_well_made : FuncData
  d_reason_well_made : FuncData
  d_kept_well_made : FuncData
  d_most_well_made : FuncData
  d_well_made : FuncData
  d_law : FuncData
structure Txt (w : World) (K : PySem.W.Frag) (mg : Str → Option Value) (AR : Adr) (FR : Fds) : Prop where
  u_law_mixed : Df K mg "_law_mixed" "_law_mixed" s_law_mixed AR.f_law_mixed FR.d_law_mixed ["cell", "k"]
  u_law_units : Df K mg "_law_units" "_law_units" s_law_units AR.f_law_units FR.d_law_units ["cell", "width"]
  u_law_number : Df K mg "_law_number" "_law_number" s_law_number AR.f_law_number FR.d_law_number ["cell", "k"]
  u_law_doors : Df K mg "_law_doors" "_law_doors" s_law_doors AR.f_law_doors FR.d_law_doors ["one", "two", "cell"]
  u_law_cell : Df K mg "_law_cell" "_law_cell" s_law_cell AR.f_law_cell FR.d_law_cell ["script", "k"]
  u_is_name : Df K mg "is_name" "is_name" s_is_name AR.f_is_name FR.d_is_name ["word"]
  u_refuse_bad_names : Df K mg "refuse_bad_names" "refuse_bad_names" s_refuse_bad_names AR.f_refuse_bad_names FR.d_refuse_bad_names ["names", "least", "most"]
  u_refuse_bad_bags : Df K mg "refuse_bad_bags" "refuse_bad_bags" s_refuse_bad_bags AR.f_refuse_bad_bags FR.d_refuse_bad_bags ["bags", "many", "width"]
  F_Net_init : Fun K "__init__" "Net.__init__" s_Net_init AR.f_Net_init FR.d_Net_init
  b_Net_init : Binds K FR.d_Net_init ["self", "bowls", "doors", "takes", "gives", "first"] []
  u_law_net_of : Df K mg "_law_net_of" "_law_net_of" s_law_net_of AR.f_law_net_of FR.d_law_net_of ["parts", "first"]
  u_law_great : Df K mg "_law_great" "_law_great" s_law_great AR.f_law_great FR.d_law_great ["turn"]
  u_law_row : Df K mg "_law_row" "_law_row" s_law_row AR.f_law_row FR.d_law_row ["cell", "many"]
  u_law_beads : Df K mg "_law_beads" "_law_beads" s_law_beads AR.f_law_beads FR.d_law_beads ["cell", "width"]
  u_law_mark : Df K mg "_law_mark" "_law_mark" s_law_mark AR.f_law_mark FR.d_law_mark ["cell", "width"]
  u_law_set : Df K mg "_law_set" "_law_set" s_law_set AR.f_law_set FR.d_law_set ["cell", "width"]
  u_law_weights : Df K mg "_law_weights" "_law_weights" s_law_weights AR.f_law_weights FR.d_law_weights ["cell", "width"]
  u_law_part : Df K mg "_law_part" "_law_part" s_law_part AR.f_law_part FR.d_law_part ["sort", "cell", "width", "many"]
  u_law_bad_bag : Df K mg "_law_bad_bag" "_law_bad_bag" s_law_bad_bag AR.f_law_bad_bag FR.d_law_bad_bag ["cell", "width"]
  u_law_bad_set : Df K mg "_law_bad_set" "_law_bad_set" s_law_bad_set AR.f_law_bad_set FR.d_law_bad_set ["cell", "width"]
  u_law_bad_part : Df K mg "_law_bad_part" "_law_bad_part" s_law_bad_part AR.f_law_bad_part FR.d_law_bad_part ["sort", "cell", "width", "many"]
  u_law_parts_by : Df K mg "_law_parts_by" "_law_parts_by" s_law_parts_by AR.f_law_parts_by FR.d_law_parts_by ["sort", "cell", "width", "many", "bad"]
  u_law_list_paper : Df K mg "_law_list_paper" "_law_list_paper" s_law_list_paper AR.f_law_list_paper FR.d_law_list_paper ["sort", "cell", "width", "many", "bad"]
  u_law_other_paper : Df K mg "_law_other_paper" "_law_other_paper" s_law_other_paper AR.f_law_other_paper FR.d_law_other_paper ["sort", "cell", "width", "bad"]
  u_law_paper : Df K mg "_law_paper" "_law_paper" s_law_paper AR.f_law_paper FR.d_law_paper ["cell", "width", "many", "bad"]
  u_law_told : Df K mg "_law_told" "_law_told" s_law_told AR.f_law_told FR.d_law_told ["found", "due"]
  u_are_doors : Df K mg "are_doors" "are_doors" s_are_doors AR.f_are_doors FR.d_are_doors ["net", "doors"]
  u_run_well_made : Df K mg "run_well_made" "run_well_made" s_run_well_made AR.f_run_well_made FR.d_run_well_made ["net", "paper"]
  u_branch_well_made : Df K mg "branch_well_made" "branch_well_made" s_branch_well_made AR.f_branch_well_made FR.d_branch_well_made ["net", "paper"]
  u_is_wide_enough : Df K mg "is_wide_enough" "is_wide_enough" s_is_wide_enough AR.f_is_wide_enough FR.d_is_wide_enough ["net", "bag"]
  u_is_mark : Df K mg "is_mark" "is_mark" s_is_mark AR.f_is_mark FR.d_is_mark ["net", "mark"]
  u_marks_well_made : Df K mg "marks_well_made" "marks_well_made" s_marks_well_made AR.f_marks_well_made FR.d_marks_well_made ["net", "paper"]
  u_bags_well_made : Df K mg "bags_well_made" "bags_well_made" s_bags_well_made AR.f_bags_well_made FR.d_bags_well_made ["net", "paper"]
  u_weights_well_made : Df K mg "weights_well_made" "weights_well_made" s_weights_well_made AR.f_weights_well_made FR.d_weights_well_made ["net", "paper"]
  u_set_well_made : Df K mg "set_well_made" "set_well_made" s_set_well_made AR.f_set_well_made FR.d_set_well_made ["net", "paper"]
  u_reason_well_made : Df K mg "reason_well_made" "reason_well_made" s_reason_well_made AR.f_reason_well_made FR.d_reason_well_made ["net", "reason"]
  u_kept_well_made : Df K mg "kept_well_made" "kept_well_made" s_kept_well_made AR.f_kept_well_made FR.d_kept_well_made ["net", "paper"]
  u_most_well_made : Df K mg "most_well_made" "most_well_made" s_most_well_made AR.f_most_well_made FR.d_most_well_made ["net", "paper"]
  u_well_made : Df K mg "well_made" "well_made" s_well_made AR.f_well_made FR.d_well_made ["net", "paper"]
  u_law : Df K mg "law" "law" s_law AR.f_law FR.d_law ["script"]
  z_range : mg "range" = none
  z_int : mg "int" = none
  z_len : mg "len" = none
  z_all : mg "all" = none
  z_set : mg "set" = none
  z_list : mg "list" = none
  z_max : mg "max" = none
  z_isinstance : mg "isinstance" = none
  z_bool : mg "bool" = none
  z_any : mg "any" = none
  z_sorted : mg "sorted" = none
  z_min : mg "min" = none
  cl_Net : Cls K AR.C_Net
  mC_Net : mg "Net" = some (.ref AR.C_Net)
  mk_Net : Mk K AR.C_Net AR.f_Net_init
  n_Net_bowls : NoAttr K AR.C_Net "bowls"
  n_Net_doors : NoAttr K AR.C_Net "doors"
  n_Net_takes : NoAttr K AR.C_Net "takes"
  n_Net_gives : NoAttr K AR.C_Net "gives"
  n_Net_first : NoAttr K AR.C_Net "first"
  mD_BOUNDS : mg "BOUNDS" = some (.ref AR.D_BOUNDS)
  dk_BOUNDS : DctK w K AR.D_BOUNDS [(Str.ofString "fence", AR.f_marks_well_made), (Str.ofString "room", AR.f_bags_well_made), (Str.ofString "fall", AR.f_weights_well_made)]
  mD_MAKERS : mg "MAKERS" = some (.ref AR.D_MAKERS)
  dk_MAKERS : DctK w K AR.D_MAKERS [(Str.ofString "run", AR.f_run_well_made), (Str.ofString "branch", AR.f_branch_well_made), (Str.ofString "fence", AR.f_marks_well_made), (Str.ofString "room", AR.f_bags_well_made), (Str.ofString "wants", AR.f_bags_well_made), (Str.ofString "fall", AR.f_weights_well_made), (Str.ofString "sum", AR.f_weights_well_made), (Str.ofString "dry", AR.f_set_well_made), (Str.ofString "wet", AR.f_set_well_made), (Str.ofString "kept", AR.f_kept_well_made), (Str.ofString "most", AR.f_most_well_made)]
  c_MOST_SIGNS : ∃ t, mg "MOST_SIGNS" = some (.int 8 t)
  c_MOST_BEADS : ∃ t, mg "MOST_BEADS" = some (.int 1000000000 t)
  c_LEAST_BOWLS : ∃ t, mg "LEAST_BOWLS" = some (.int 1 t)
  c_MOST_BOWLS : ∃ t, mg "MOST_BOWLS" = some (.int 6 t)
  c_MOST_DOORS : ∃ t, mg "MOST_DOORS" = some (.int 8 t)
section
variable {P : Program} {w : World} {K : PySem.W.Frag} {mg : Str → Option Value} {base : Heap} {AR : Adr} {FR : Fds}
theorem sc_law_mixed : FnScope ["cell", "k", "number"] ["cell", "k"] (defScope s_law_mixed) := ⟨rfl, rfl, rfl, by decide +kernel, rfl, by decide +kernel, by decide +kernel⟩
set_option maxHeartbeats 4000000 in
theorem ok_law_mixed (T : Txt w K mg AR FR) : FnOk P w K mg base CX0 1 AR.f_law_mixed FR.d_law_mixed ["cell", "k"] (sp_law_mixed K) := by
  refine T.u_law_mixed.F.ok sc_law_mixed (fun vs H Q E h => ?_) (fun cdv A outer s H vs Q E hr h => ?_)
  · obtain ⟨c, k, rfl, k0, k1, hQ⟩ := h
    rfl
  · obtain ⟨c, k, rfl, k0, k1, hQ⟩ := h
    refine ⟨_, (pss_cons (ps_set (i := 2) sc_law_mixed.nd rfl (Or.inl rfl) (pe_op op_mod (pe_op op_add (pe_op op_add (pv 0) (pe_op op_mul (pe_op op_mul pe_int (pv 1)) (pv 1))) (pv 1)) pe_int))
      (pss_cons (ps_set (i := 2) sc_law_mixed.nd rfl (Or.inl rfl) (pe_op op_mod (pe_op op_mul (pv 2) (pv 2)) pe_int))
      (pss_one (ps_ret (pe_op op_mod (pe_op op_mul (pe_op op_add (pv 2) (pe_op op_fdivB (pv 0) pe_int)) pe_int) pe_int))))), ?_⟩
    try dsimp only [kx1, kx2, kx3, Cx.nox, Cx.wish]
    refine ⟨_, rfl, _, rfl, _, _, rfl, rfl, .inl ⟨by decide, by decide⟩, _, rfl, _, _, rfl, rfl, .inr ⟨by omega, by omega⟩, _, _, rfl, rfl, _, rfl, _, _, rfl, rfl, _, _, rfl, rfl, (by show (0 : Int) < 2147483647; decide), ?_⟩
    have b1 : 0 ≤ (c + 7919 * k * k + k) % 2147483647 := Int.emod_nonneg _ (by decide)
    have b2 : (c + 7919 * k * k + k) % 2147483647 < 2147483647 := Int.emod_lt_of_pos _ (by decide)
    have e := mixF_b c k
    unfold mixF at e
    have hQ := hQ (mixF c k) e.1 ⟨e.2, rfl⟩
    unfold mixF at hQ
    refine ⟨_, rfl, _, rfl, _, _, rfl, rfl, .inl ⟨Int.lt_of_lt_of_le (by decide) b1, Int.lt_trans b2 (by decide)⟩, _, _, rfl, rfl, (by show (0 : Int) < 1000000007; decide), ?_⟩
    exact ⟨_, rfl, _, rfl, _, _, rfl, rfl, ⟨by decide, by decide⟩, _, _, rfl, rfl, _, _, rfl, rfl, .inr ⟨by decide, by decide⟩, _, _, rfl, rfl, (by show (0 : Int) < 998244353; decide), hQ⟩
theorem sc_law_units : FnScope ["cell", "width"] ["cell", "width"] (defScope s_law_units) := ⟨rfl, rfl, rfl, by decide +kernel, rfl, by decide +kernel, by decide +kernel⟩
set_option maxHeartbeats 4000000 in
theorem ok_law_units (T : Txt w K mg AR FR) : FnOk P w K mg base CX0 2 AR.f_law_units FR.d_law_units ["cell", "width"] (sp_law_units K) := by
  have G_law_mixed : FnOk P w K mg base CX0 1 AR.f_law_mixed FR.d_law_mixed _ (sp_law_mixed K) := ok_law_mixed T
  refine T.u_law_units.F.ok sc_law_units (fun vs H Q E h => ?_) (fun cdv A outer s H vs Q E hr h => ?_)
  · obtain ⟨c, z, rfl, z8, hQ⟩ := h
    rfl
  · obtain ⟨c, z, rfl, z8, hQ⟩ := h
    refine ⟨_, (pss_cons (ps_if (pt_cmpR op_lt (pe_op op_mod (pv 0) pe_int) pe_int (nomark _)) (pss_one (ps_ret (pe_comp (N' := ["b"]) (nt := 1) (caps := []) _ _ (CompScope.of (by kernel_rfl)) (pi_range1 (by rfl) T.z_range (pa_cons (pv 1) pa_nil)) (fun _ => (pg_nameC (i := 0) ["b"] (by decide +kernel) (by rfl))) (fun _ => pts_nil) (fun _ => pe_int)))) pss_nil)
      (pss_cons (ps_if (pt_cmpR op_eq (pe_op op_mod (pv 0) pe_int) pe_int (nomark _)) (pss_one (ps_ret (pe_comp (N' := ["b", "cell"]) (nt := 1) (caps := [0]) _ _ (CompScope.of (by kernel_rfl)) (pi_range1 (by rfl) T.z_range (pa_cons (pv 1) pa_nil)) (fun _ => (pg_nameC (i := 0) ["b", "cell"] (by decide +kernel) (by rfl))) (fun _ => pts_nil) (fun _ => (pe_op op_add pe_int (pe_op op_mod (pe_op op_fdiv (pv 1) pe_int) pe_int)))))) pss_nil)
      (pss_one (ps_ret (pe_comp (N' := ["b", "cell"]) (nt := 1) (caps := [0]) _ _ (CompScope.of (by kernel_rfl)) (pi_range1 (by rfl) T.z_range (pa_cons (pv 1) pa_nil)) (fun _ => (pg_nameC (i := 0) ["b", "cell"] (by decide +kernel) (by rfl))) (fun _ => pts_nil) (fun _ => (pe_op op_add pe_int (pe_op op_mod (pe_call G_law_mixed (hr.mono (by decide)) (by rfl) T.u_law_mixed.m T.u_law_mixed.F.kp T.u_law_mixed.b .nil pass0 (pa_cons (pv 1) (pa_cons (pe_op op_add pe_int (pv 0)) pa_nil))) pe_int)))))))), ?_⟩
    try dsimp only [kx1, kx2, kx3, Cx.nox, Cx.wish]
    have zr1 : -(2 ^ 62) ≤ (z : Int) := by omega
    have zr2 : (z : Int) < 2 ^ 62 := by omega
    have zs70 : ∀ i, i ≤ z → i < sizeLine := fun i h => small70 (by omega)
    have fin : ∀ (ys : List V) (σ : St) (H2 : Hp), (∃ (τ : St) (v : Option V) (ns : List Int), σ = v :: τ ∧ Same H H2 ∧ ys = vints ns ∧ ns.length = z ∧ ∀ n ∈ ns, 1 ≤ n ∧ n ≤ 250000000) → ∀ p : Addr, H2 p = none → Q (.ref p) (upd H2 p (.lst ys)) := by
      rintro ys σ H2 ⟨τ, v, ns, rfl, S, rfl, e, hb⟩ p hp
      exact hQ p ns _ (S.free hp) (S.upd hp) upd_same e hb
    have grow : ∀ (ns : List Int) (n : Int), (∀ m ∈ ns, 1 ≤ m ∧ m ≤ 250000000) → 1 ≤ n → n ≤ 250000000 → ∀ m ∈ ns ++ [n], 1 ≤ m ∧ m ≤ 250000000 := fun ns n h h1 h2 m hm => by
      rcases List.mem_append.mp hm with q | q
      · exact h m q
      · rw [List.mem_singleton.mp q]; exact ⟨h1, h2⟩
    refine ⟨_, rfl, _, _, rfl, rfl, (by show (0 : Int) < 4; decide), _, _, rfl, rfl, _, rfl, ?_⟩
    refine iteD (fun _ => ?_) (fun _ => ?_)
    · refine ⟨_, rfl, _, rfl, zr1, zr2, ?_⟩
      refine comp_rangeP (fun i ys σ H2 => ∃ (v : Option V) (ns : List Int), σ = [v] ∧ Same H H2 ∧ ys = vints ns ∧ ns.length = i ∧ ∀ n ∈ ns, 1 ≤ n ∧ n ≤ 250000000) ⟨none, [], rfl, Same.refl _, rfl, rfl, fun n hn => nomatch hn⟩ ?_ ?_ ?_
      · rintro i ys σ H2 hi ⟨v, ns, rfl, S, rfl, e, _⟩
        rw [ints_len, e]
        exact zs70 _ (by assumption)
      · rintro B i ys σ H2 hi ⟨v, ns, rfl, S, rfl, e, hb⟩
        try dsimp only [gName, tTrue]
        rw [if_pos rfl]
        exact ⟨_, ns ++ [1], rfl, S, (vints_snoc _ _).symm, by rw [List.length_append, e]; rfl, grow ns 1 hb (by decide) (by decide)⟩
      · rintro ys σ H2 ⟨v, ns, rfl, S, rfl, e, hb⟩
        exact fin _ [v] _ ⟨[], v, ns, rfl, S, rfl, by omega, hb⟩
    refine ⟨_, rfl, _, _, rfl, rfl, (by show (0 : Int) < 4; decide), rfl, _, rfl, ?_⟩
    refine iteD (fun _ => ?_) (fun _ => ?_)
    · refine ⟨_, rfl, _, rfl, zr1, zr2, ?_⟩
      refine comp_rangeP (fun i ys σ H2 => ∃ (v : Option V) (ns : List Int), σ = [v, some (.int c)] ∧ Same H H2 ∧ ys = vints ns ∧ ns.length = i ∧ ∀ n ∈ ns, 1 ≤ n ∧ n ≤ 250000000) ⟨none, [], rfl, Same.refl _, rfl, rfl, fun n hn => nomatch hn⟩ ?_ ?_ ?_
      · rintro i ys σ H2 hi ⟨v, ns, rfl, S, rfl, e, _⟩
        rw [ints_len, e]
        exact zs70 _ (by assumption)
      · rintro B i ys σ H2 hi ⟨v, ns, rfl, S, rfl, e, hb⟩
        try dsimp only [gName, tTrue]
        rw [if_pos rfl]
        have a1 : 0 ≤ c / 4 % 250000000 := Int.emod_nonneg _ (by decide)
        have a2 : c / 4 % 250000000 < 250000000 := Int.emod_lt_of_pos _ (by decide)
        exact ⟨_, rfl, _, _, rfl, rfl, ⟨by decide, by decide⟩, _, _, rfl, rfl, (by show (0 : Int) < 250000000; decide), _, _, rfl, rfl, _, ns ++ [1 + c / 4 % 250000000], rfl, S, (vints_snoc _ _).symm, by rw [List.length_append, e]; rfl, grow ns _ hb (by omega) (by omega)⟩
      · rintro ys σ H2 ⟨v, ns, rfl, S, rfl, e, hb⟩
        exact fin _ [v, some (.int c)] _ ⟨[some (.int c)], v, ns, rfl, S, rfl, by omega, hb⟩
    · refine ⟨_, rfl, _, rfl, zr1, zr2, ?_⟩
      refine comp_rangeP (fun i ys σ H2 => ∃ (v : Option V) (ns : List Int), σ = [v, some (.int c)] ∧ Same H H2 ∧ ys = vints ns ∧ ns.length = i ∧ ∀ n ∈ ns, 1 ≤ n ∧ n ≤ 250000000) ⟨none, [], rfl, Same.refl _, rfl, rfl, fun n hn => nomatch hn⟩ ?_ ?_ ?_
      · rintro i ys σ H2 hi ⟨v, ns, rfl, S, rfl, e, _⟩
        rw [ints_len, e]
        exact zs70 _ (by assumption)
      · rintro B i ys σ H2 hi ⟨v, ns, rfl, S, rfl, e, hb⟩
        try dsimp only [gName, tTrue]
        rw [if_pos rfl]
        refine ⟨_, rfl, _, rfl, _, _, rfl, rfl, c, _, rfl, by omega, by omega, fun m m0 m1 => ?_⟩
        have a1 : 0 ≤ m % 250000000 := Int.emod_nonneg _ (by decide)
        have a2 : m % 250000000 < 250000000 := Int.emod_lt_of_pos _ (by decide)
        exact ⟨_, _, rfl, rfl, (by show (0 : Int) < 250000000; decide), _, _, rfl, rfl, _, ns ++ [1 + m % 250000000], rfl, S, (vints_snoc _ _).symm, by rw [List.length_append, e]; rfl, grow ns _ hb (by omega) (by omega)⟩
      · rintro ys σ H2 ⟨v, ns, rfl, S, rfl, e, hb⟩
        exact fin _ [v, some (.int c)] _ ⟨[some (.int c)], v, ns, rfl, S, rfl, by omega, hb⟩
theorem sc_law_number : FnScope ["cell", "k", "number"] ["cell", "k"] (defScope s_law_number) := ⟨rfl, rfl, rfl, by decide +kernel, rfl, by decide +kernel, by decide +kernel⟩
set_option maxHeartbeats 4000000 in
theorem ok_law_number (T : Txt w K mg AR FR) : FnOk P w K mg base CX0 2 AR.f_law_number FR.d_law_number ["cell", "k"] (sp_law_number K) := by
  have G_law_mixed : FnOk P w K mg base CX0 1 AR.f_law_mixed FR.d_law_mixed _ (sp_law_mixed K) := ok_law_mixed T
  refine T.u_law_number.F.ok sc_law_number (fun vs H Q E h => ?_) (fun cdv A outer s H vs Q E hr h => ?_)
  · obtain ⟨c, k, rfl, k0, k1, hQ⟩ := h
    rfl
  · obtain ⟨c, k, rfl, k0, k1, hQ⟩ := h
    refine ⟨_, (pss_cons (ps_set (i := 2) sc_law_number.nd rfl (Or.inl rfl) (pe_call G_law_mixed (hr.mono (by decide)) (by rfl) T.u_law_mixed.m T.u_law_mixed.F.kp T.u_law_mixed.b .nil pass0 (pa_cons (pv 0) (pa_cons (pv 1) pa_nil))))
      (pss_cons (ps_if (pt_cmpR op_gt (pe_op op_mod (pv 2) pe_int) pe_int (nomark _)) (pss_one (ps_ret pe_int)) pss_nil)
      (pss_cons (ps_if (pt_cmpR op_lt (pe_op op_mod (pe_op op_fdiv (pv 2) pe_int) pe_int) pe_int (nomark _)) (pss_one (ps_ret pe_int)) pss_nil)
      (pss_one (ps_ret (pe_op op_add pe_int (pe_op op_mod (pe_op op_fdiv (pv 2) pe_int) pe_int))))))), ?_⟩
    try dsimp only [kx1, kx2, kx3, Cx.nox, Cx.wish]
    refine ⟨_, rfl, _, rfl, c, k, rfl, k0, k1, fun n n0 n1 => ?_⟩
    refine ⟨_, rfl, _, _, rfl, rfl, (by show (0 : Int) < 3; decide), _, _, rfl, rfl, _, rfl, ?_⟩
    refine iteD (fun _ => hQ 0 (by decide) (by decide)) (fun _ => ?_)
    refine ⟨_, rfl, _, _, rfl, rfl, ⟨by decide, by decide⟩, _, _, rfl, rfl, (by show (0 : Int) < 4; decide), _, _, rfl, rfl, _, rfl, ?_⟩
    refine iteD (fun _ => hQ 1 (by decide) (by decide)) (fun _ => ?_)
    have a1 : 0 ≤ n / 12 % 3 := Int.emod_nonneg _ (by decide)
    have a2 : n / 12 % 3 < 3 := Int.emod_lt_of_pos _ (by decide)
    exact ⟨_, rfl, _, _, rfl, rfl, ⟨by decide, by decide⟩, _, _, rfl, rfl, (by show (0 : Int) < 3; decide), _, _, rfl, rfl, hQ _ (by omega) (by omega)⟩
theorem sc_law_doors : FnScope ["one", "two", "cell", "width", "units", "takes", "gives", "d", "taken", "given", "turn", "many", "at"] ["one", "two", "cell"] (defScope s_law_doors) := ⟨rfl, rfl, rfl, by decide +kernel, rfl, by decide +kernel, by decide +kernel⟩
set_option maxHeartbeats 4000000 in
theorem ok_law_doors (T : Txt w K mg AR FR) : FnOk P w K mg base CX0 3 AR.f_law_doors FR.d_law_doors ["one", "two", "cell"] (sp_law_doors K) := by
  have G_law_units : FnOk P w K mg base CX0 2 AR.f_law_units FR.d_law_units _ (sp_law_units K) := ok_law_units T
  have G_law_number : FnOk P w K mg base CX0 2 AR.f_law_number FR.d_law_number _ (sp_law_number K) := ok_law_number T
  have G_law_mixed : FnOk P w K mg base CX0 1 AR.f_law_mixed FR.d_law_mixed _ (sp_law_mixed K) := ok_law_mixed T
  refine T.u_law_doors.F.ok sc_law_doors (fun vs H Q E h => ?_) (fun cdv A outer s H vs Q E hr h => ?_)
  · obtain ⟨one, two, cell, rfl, hQ⟩ := h
    rfl
  · obtain ⟨one, two, cell, rfl, hQ⟩ := h
    refine ⟨_, (pss_cons (ps_set (i := 3) sc_law_doors.nd rfl (Or.inr rfl) (pe_op op_add pe_int (pe_op op_mod (pv 0) pe_int)))
      (pss_cons (ps_set (i := 4) sc_law_doors.nd rfl (Or.inr rfl) (pe_call G_law_units (hr.mono (by decide)) (by rfl) T.u_law_units.m T.u_law_units.F.kp T.u_law_units.b .nil pass0 (pa_cons (pv 2) (pa_cons (pv 3) pa_nil))))
      (pss_cons (ps_set (i := 5) sc_law_doors.nd rfl (Or.inl rfl) (pe_lst pa_nil))
      (pss_cons (ps_set (i := 6) sc_law_doors.nd rfl (Or.inl rfl) (pe_lst pa_nil))
      (pss_cons (ps_for PassesOwn.never rfl (pi_range1 (by rfl) T.z_range (pa_cons (pe_op op_mod (pe_op op_fdiv (pv 0) pe_int) pe_int) pa_nil)) (pg_name (i := 7) sc_law_doors.nd (by rfl) (Or.inr rfl))
      (pss_cons (ps_set (i := 8) sc_law_doors.nd rfl (Or.inr rfl) (pe_comp (N' := ["b", "two", "d"]) (nt := 1) (caps := [1, 7]) _ _ (CompScope.of (by kernel_rfl)) (pi_range1 (by rfl) T.z_range (pa_cons (pv 3) pa_nil)) (fun _ => (pg_nameC (i := 0) ["b", "two", "d"] (by decide +kernel) (by rfl))) (fun _ => pts_nil) (fun _ => (pe_call G_law_number (hr.mono (by decide)) (by rfl) T.u_law_number.m T.u_law_number.F.kp T.u_law_number.b .nil pass0 (pa_cons (pv 1) (pa_cons (pe_op op_add (pe_op op_mul pe_int (pv 2)) (pv 0)) pa_nil))))))
      (pss_cons (ps_set (i := 9) sc_law_doors.nd rfl (Or.inr rfl) (pe_comp (N' := ["b", "two", "d"]) (nt := 1) (caps := [1, 7]) _ _ (CompScope.of (by kernel_rfl)) (pi_range1 (by rfl) T.z_range (pa_cons (pv 3) pa_nil)) (fun _ => (pg_nameC (i := 0) ["b", "two", "d"] (by decide +kernel) (by rfl))) (fun _ => pts_nil) (fun _ => (pe_call G_law_number (hr.mono (by decide)) (by rfl) T.u_law_number.m T.u_law_number.F.kp T.u_law_number.b .nil pass0 (pa_cons (pv 1) (pa_cons (pe_op op_add (pe_op op_add (pe_op op_mul pe_int (pv 2)) pe_int) (pv 0)) pa_nil))))))
      (pss_cons (ps_if (pt_cmpR op_eq (pe_op op_mod (pe_op op_fdiv (pv 0) pe_int) pe_int) pe_int (nomark _)) (pss_cons (ps_set (i := 10) sc_law_doors.nd rfl (Or.inl rfl) (pe_call G_law_mixed (hr.mono (by decide)) (by rfl) T.u_law_mixed.m T.u_law_mixed.F.kp T.u_law_mixed.b .nil pass0 (pa_cons (pv 1) (pa_cons (pe_op op_add pe_int (pv 7)) pa_nil))))
      (pss_cons (ps_set (i := 11) sc_law_doors.nd rfl (Or.inr rfl) (pe_op op_add pe_int (pe_op op_fdiv (pe_op op_mod (pe_op op_fdiv (pv 10) pe_int) pe_int) pe_int)))
      (pss_cons (ps_set (i := 12) sc_law_doors.nd rfl (Or.inr rfl) (pe_op op_mod (pe_op op_add (pv 7) (pe_op op_fdiv (pe_op op_mod (pe_op op_fdiv (pv 10) pe_int) pe_int) pe_int)) (pv 3)))
      (pss_cons (ps_set (i := 8) sc_law_doors.nd rfl (Or.inr rfl) (pe_comp (N' := ["b", "many", "at"]) (nt := 1) (caps := [11, 12]) _ _ (CompScope.of (by kernel_rfl)) (pi_range1 (by rfl) T.z_range (pa_cons (pv 3) pa_nil)) (fun _ => (pg_nameC (i := 0) ["b", "many", "at"] (by decide +kernel) (by rfl))) (fun _ => pts_nil) (fun _ => (pe_op op_mul (pv 1) (pe_callTy call_int1 (by rfl) T.z_int bt_int (pa_cons (pe_cmpR op_eq (pv 0) (pv 2) (nomark _)) pa_nil))))))
      (pss_one (ps_set (i := 9) sc_law_doors.nd rfl (Or.inr rfl) (pe_comp (N' := ["b", "many", "at", "width"]) (nt := 1) (caps := [11, 12, 3]) _ _ (CompScope.of (by kernel_rfl)) (pi_range1 (by rfl) T.z_range (pa_cons (pv 3) pa_nil)) (fun _ => (pg_nameC (i := 0) ["b", "many", "at", "width"] (by decide +kernel) (by rfl))) (fun _ => pts_nil) (fun _ => (pe_op op_mul (pv 1) (pe_callTy call_int1 (by rfl) T.z_int bt_int (pa_cons (pe_cmpR op_eq (pv 0) (pe_op op_mod (pe_op op_add (pv 2) pe_int) (pv 3)) (nomark _)) pa_nil))))))))))) pss_nil)
      (pss_cons (ps_expr (pe_bm PySem.F.plainAttrs_list PySem.F.slot_list_append PySem.F.type_list_append mt_append (pv 5) (pa_cons (pe_comp (N' := ["b", "units", "taken"]) (nt := 1) (caps := [4, 8]) _ _ (CompScope.of (by kernel_rfl)) (pi_range1 (by rfl) T.z_range (pa_cons (pv 3) pa_nil)) (fun _ => (pg_nameC (i := 0) ["b", "units", "taken"] (by decide +kernel) (by rfl))) (fun _ => pts_nil) (fun _ => (pe_op op_mul (pe_ix ix_list (pv 1) (pv 0) (fun _ _ => rfl)) (pe_ix ix_list (pv 2) (pv 0) (fun _ _ => rfl))))) pa_nil)))
      (pss_one (ps_expr (pe_bm PySem.F.plainAttrs_list PySem.F.slot_list_append PySem.F.type_list_append mt_append (pv 6) (pa_cons (pe_comp (N' := ["b", "units", "given"]) (nt := 1) (caps := [4, 9]) _ _ (CompScope.of (by kernel_rfl)) (pi_range1 (by rfl) T.z_range (pa_cons (pv 3) pa_nil)) (fun _ => (pg_nameC (i := 0) ["b", "units", "given"] (by decide +kernel) (by rfl))) (fun _ => pts_nil) (fun _ => (pe_op op_mul (pe_ix ix_list (pv 1) (pv 0) (fun _ _ => rfl)) (pe_ix ix_list (pv 2) (pv 0) (fun _ _ => rfl))))) pa_nil)))))))))
      (pss_one (ps_ret (pe_lst (pa_cons (pv 3) (pa_cons (pv 5) (pa_cons (pv 6) (pa_cons (pv 4) pa_nil)))))))))))), ?_⟩
    try dsimp only [kx1, kx2, kx3, Cx.nox, Cx.wish]
    refine ⟨_, rfl, _, _, rfl, rfl, (by show (0 : Int) < 6; decide), _, _, rfl, rfl, ?_⟩
    obtain ⟨z, ez, z1, z6⟩ := size6 one
    try dsimp only
    rw [ez]
    have zr1 : -(2 ^ 62) ≤ (z : Int) := by omega
    have zr2 : (z : Int) < 2 ^ 62 := by omega
    have zs70 : z < sizeLine := small70 (by omega)
    refine ⟨_, rfl, _, rfl, cell, z, rfl, by omega, fun pu us H1 npu S1 hpu ul ub => ?_⟩
    refine ⟨by decide, fun pt npt => ?_⟩
    have T2 := (Same.refl H1).upd npt (o := .lst [])
    have e2 := upd_same (H := H1) (a := pt) (o := .lst [])
    generalize upd H1 pt (.lst []) = H2 at T2 e2 ⊢
    refine ⟨by decide, fun pg npg => ?_⟩
    have T3 := T2.upd npg (o := .lst [])
    have ptg : pt ≠ pg := ne_of_none e2 npg
    have npg1 := T2.free npg
    have e3 : upd H2 pg (.lst []) pt = some (.lst []) := by rw [upd_ne ptg]; exact e2
    have e3' := upd_same (H := H2) (a := pg) (o := .lst [])
    generalize upd H2 pg (.lst []) = H3 at T3 e3 e3' ⊢
    obtain ⟨dn, ed, d8⟩ := size9 (one / 6)
    refine ⟨_, rfl, _, _, rfl, rfl, ⟨by decide, by decide⟩, _, _, rfl, rfl, (by show (0 : Int) < 9; decide), _, rfl, by rw [ed]; omega, by rw [ed]; omega, ?_⟩
    rw [ed, Int.toNat_natCast]
    refine for_range (n := _) (fun i σ H4 => ∃ (o7 o8 o9 o10 o11 o12 : Option V) (ts gs : List Addr) (tk gv : List (List Int)), σ = [some (.int one), some (.int two), some (.int cell), some (.int z), some (.ref pu), some (.ref pt), some (.ref pg), o7, o8, o9, o10, o11, o12] ∧ Same H1 H4 ∧ H4 pt = some (.lst (ts.map V.ref)) ∧ Rows H4 ts tk ∧ H4 pg = some (.lst (gs.map V.ref)) ∧ Rows H4 gs gv ∧ tk.length = i ∧ gv.length = i ∧ (∀ r ∈ tk, okBag z r) ∧ ∀ r ∈ gv, okBag z r)
      ⟨none, none, none, none, none, none, [], [], [], [], rfl, T3, e3, .nil, e3', .nil, rfl, rfl, (fun r hr => nomatch hr), fun r hr => nomatch hr⟩ ?_ ?_
    · rintro i σ H4 hi ⟨o7, o8, o9, o10, o11, o12, ts, gs, tk, gv, rfl, S, hpt, tr, hpg, gr, tl, gl, okt, okg⟩
      -- taken
      refine ⟨_, rfl, _, rfl, zr1, zr2, ?_⟩
      rw [Int.toNat_natCast]
      refine comp_ints (τ := [some (.int two), some (.int (0 + i))]) (fun m => 0 ≤ m ∧ m ≤ 3) zs70 (fun B j H5 hj S5 Q' hq => ?_) ?_
      · exact ⟨_, rfl, _, rfl, _, _, rfl, rfl, .inl ⟨by decide, by decide⟩, _, rfl, _, _, rfl, rfl, two, _, rfl, by omega, by omega, fun n n0 n1 => hq n H5 ⟨n0, n1⟩ (Same.refl _)⟩
      intro n8 H5 S5 l8 b8 q8 nq8
      have T5 := S5.upd nq8 (o := .lst (vints n8))
      have e8 := upd_same (H := H5) (a := q8) (o := .lst (vints n8))
      generalize upd H5 q8 (.lst (vints n8)) = H6 at T5 e8 ⊢
      -- given
      refine ⟨_, rfl, _, rfl, zr1, zr2, ?_⟩
      rw [Int.toNat_natCast]
      refine comp_ints (τ := [some (.int two), some (.int (0 + i))]) (fun m => 0 ≤ m ∧ m ≤ 3) zs70 (fun B j H7 hj S7 Q' hq => ?_) ?_
      · exact ⟨_, rfl, _, rfl, _, _, rfl, rfl, .inl ⟨by decide, by decide⟩, _, _, rfl, rfl, _, rfl, _, _, rfl, rfl, two, _, rfl, by omega, by omega, fun n n0 n1 => hq n H7 ⟨n0, n1⟩ (Same.refl _)⟩
      intro n9 H7 S7 l9 b9 q9 nq9
      have T7 := S7.upd nq9 (o := .lst (vints n9))
      have e9 := upd_same (H := H7) (a := q9) (o := .lst (vints n9))
      generalize upd H7 q9 (.lst (vints n9)) = H8 at T7 e9 ⊢
      have e8' := T7 _ _ e8
      have S48 := T5.trans T7
      try dsimp only [tNext]
      refine seq_join (fun σ' H' => ∃ (o10 o11 o12 : Option V) (q8 q9 : Addr) (n8 n9 : List Int), σ' = [some (.int one), some (.int two), some (.int cell), some (.int z), some (.ref pu), some (.ref pt), some (.ref pg), some (.int (0 + i)), some (.ref q8), some (.ref q9), o10, o11, o12] ∧ Same H4 H' ∧ H' q8 = some (.lst (vints n8)) ∧ H' q9 = some (.lst (vints n9)) ∧ n8.length = z ∧ n9.length = z ∧ (∀ m ∈ n8, 0 ≤ m ∧ m ≤ 3) ∧ ∀ m ∈ n9, 0 ≤ m ∧ m ≤ 3) ?_ ?_
      · clear b8 b9 l8 l9 e8 e9 e8' S48 T5 T7 nq8 nq9 S5 S7
        rintro σ' H9 ⟨o10, o11, o12, q8, q9, n8, n9, rfl, S9, e8, e9, l8, l9, b8, b9⟩
        have S19 := S.trans S9
        -- takes.append
        refine ⟨_, rfl, .inl ⟨rfl, _, SqL.of (S9 _ _ hpt)⟩, _, rfl, _, rfl, zr1, zr2, ?_⟩
        rw [Int.toNat_natCast]
        refine comp_ints (τ := [some (.ref pu), some (.ref q8)]) (fun m => 0 ≤ m ∧ m ≤ 1000000000) zs70 (fun B j H10 hj S10 Q' hq => ?_) ?_
        · have hu := at_in (P := fun x => 1 ≤ x ∧ x ≤ 250000000) ul hj ub
          have ht := at_in (P := fun x => 0 ≤ x ∧ x ≤ 3) l8 hj b8
          exact ⟨_, rfl, _, rfl, pu, _, _, _, rfl, rfl, SqL.of (S10 _ _ (S19 _ _ hpu)), at_place ul hj, _, rfl, _, rfl, q8, _, _, _, rfl, rfl, SqL.of (S10 _ _ e8), at_place l8 hj, _, _, rfl, rfl, .inl ⟨by omega, by omega⟩, hq _ _ (prod3 hu ht) (Same.refl _)⟩
        intro r1 H10 S10 lr1 br1 p1 np1
        have pt1 : pt ≠ p1 := ne_of_none (S10 _ _ (S9 _ _ hpt)) np1
        refine ⟨pt, _, _, rfl, rfl, by rw [upd_ne pt1]; exact S10 _ _ (S9 _ _ hpt), by rw [List.length_map, tr.length]; exact small70 (by omega), ?_⟩
        have S11 : Same H1 (upd (upd H10 p1 (.lst (vints r1))) pt (.lst (ts.map V.ref ++ [V.ref p1]))) := ((S19.trans S10).upd np1).upd' npt
        have S911 : ∀ q o, H9 q = some o → q ≠ pt → upd (upd H10 p1 (.lst (vints r1))) pt (.lst (ts.map V.ref ++ [V.ref p1])) q = some o := fun q o e n => by
          rw [upd_ne n]; exact ((Same.refl H10).upd np1) _ _ (S10 _ _ e)
        have hpt11 : upd (upd H10 p1 (.lst (vints r1))) pt (.lst (ts.map V.ref ++ [V.ref p1])) pt = some (.lst ((ts ++ [p1]).map V.ref)) := by rw [upd_same, vrefs_snoc]
        have tr11 : Rows (upd (upd H10 p1 (.lst (vints r1))) pt (.lst (ts.map V.ref ++ [V.ref p1]))) (ts ++ [p1]) (tk ++ [r1]) := by
          refine Rows.snoc (Rows.lay (tr.same ((S9.trans S10).upd np1)) (tr.apart hpt)) ?_
          rw [upd_ne (Ne.symm pt1), upd_same]
        have hpg11 := S911 _ _ (S9 _ _ hpg) (Ne.symm ptg)
        have q9t : q9 ≠ pt := fun z => by
          have h1 := S9 _ _ hpt
          rw [← z, e9] at h1
          injection h1 with h1
          injection h1 with h1
          have hh : n9.length = ts.length := by rw [← ints_len, h1, List.length_map]
          cases n9 with
          | nil => have := l9; simp at this; omega
          | cons a b => cases ts with
            | nil => cases h1
            | cons c d => injection h1 with h1 _; cases h1
        have e9' := S911 _ _ e9 q9t
        have gr11 : Rows (upd (upd H10 p1 (.lst (vints r1))) pt (.lst (ts.map V.ref ++ [V.ref p1]))) gs gv := by
          refine Rows.lay (gr.same ((S9.trans S10).upd np1)) fun b hb z => ?_
          obtain ⟨r, hr, he⟩ := Rows.mem gr hb
          rw [z] at he
          rw [hpt] at he
          injection he with he
          injection he with he
          have lr := (okg r hr).1
          cases r with
          | nil => simp at lr; omega
          | cons a b => cases ts with
            | nil => cases he
            | cons c d => injection he with he _; cases he
        generalize upd (upd H10 p1 (.lst (vints r1))) pt (.lst (ts.map V.ref ++ [V.ref p1])) = H11 at S11 hpt11 tr11 hpg11 e9' gr11 ⊢
        clear S911
        -- gives.append
        refine ⟨_, rfl, .inl ⟨rfl, _, SqL.of hpg11⟩, _, rfl, _, rfl, zr1, zr2, ?_⟩
        rw [Int.toNat_natCast]
        refine comp_ints (τ := [some (.ref pu), some (.ref q9)]) (fun m => 0 ≤ m ∧ m ≤ 1000000000) zs70 (fun B j H12 hj S12 Q' hq => ?_) ?_
        · have hu := at_in (P := fun x => 1 ≤ x ∧ x ≤ 250000000) ul hj ub
          have ht := at_in (P := fun x => 0 ≤ x ∧ x ≤ 3) l9 hj b9
          exact ⟨_, rfl, _, rfl, pu, _, _, _, rfl, rfl, SqL.of (S12 _ _ (S11 _ _ hpu)), at_place ul hj, _, rfl, _, rfl, q9, _, _, _, rfl, rfl, SqL.of (S12 _ _ e9'), at_place l9 hj, _, _, rfl, rfl, .inl ⟨by omega, by omega⟩, hq _ _ (prod3 hu ht) (Same.refl _)⟩
        intro r2 H12 S12 lr2 br2 p2 np2
        have pg2 : pg ≠ p2 := ne_of_none (S12 _ _ hpg11) np2
        refine ⟨pg, _, _, rfl, rfl, by rw [upd_ne pg2]; exact S12 _ _ hpg11, by rw [List.length_map, gr.length]; exact small70 (by omega), ?_⟩
        have okt' : ∀ r ∈ tk ++ [r1], okBag z r := fun r hr => by
          rcases List.mem_append.mp hr with w | w
          · exact okt r w
          · rw [List.mem_singleton.mp w]; exact ⟨lr1, br1⟩
        have okg' : ∀ r ∈ gv ++ [r2], okBag z r := fun r hr => by
          rcases List.mem_append.mp hr with w | w
          · exact okg r w
          · rw [List.mem_singleton.mp w]; exact ⟨lr2, br2⟩
        refine ⟨_, _, _, _, _, _, ts ++ [p1], gs ++ [p2], tk ++ [r1], gv ++ [r2], rfl, ((S11.trans S12).upd np2).upd' npg1, ?_, ?_, by rw [upd_same, vrefs_snoc], ?_, by rw [List.length_append, tl]; rfl, by rw [List.length_append, gl]; rfl, okt', okg'⟩
        · rw [upd_ne ptg]
          exact ((Same.refl H12).upd np2) _ _ (S12 _ _ hpt11)
        · refine Rows.lay (tr11.same (S12.upd np2)) fun b hb w => ?_
          obtain ⟨r, hr, he⟩ := Rows.mem tr11 hb
          rw [w, hpg11] at he
          injection he with he
          injection he with he
          have lr := (okt' r hr).1
          cases r with
          | nil => simp at lr; omega
          | cons a b => cases gs with
            | nil => cases he
            | cons c d => injection he with he _; cases he
        · refine Rows.snoc (Rows.lay (gr11.same (S12.upd np2)) (gr11.apart hpg11)) ?_
          rw [upd_ne (Ne.symm pg2), upd_same]
      · intro N hN
        refine ⟨_, rfl, _, _, rfl, rfl, ⟨by decide, by decide⟩, _, _, rfl, rfl, (by show (0 : Int) < 2; decide), rfl, _, rfl, ?_⟩
        refine iteD (fun _ => ?_) (fun _ => hN _ _ ⟨_, _, _, q8, q9, n8, n9, rfl, S48, e8', e9, l8, l9, b8, b9⟩)
        refine ⟨_, rfl, _, rfl, _, _, rfl, rfl, two, _, rfl, by omega, by omega, fun m m0 m1 => ?_⟩
        refine ⟨_, rfl, _, _, rfl, rfl, ⟨by decide, by decide⟩, _, _, rfl, rfl, (by show (0 : Int) < 5; decide), _, _, rfl, rfl, ⟨by decide, by decide⟩, _, _, rfl, rfl, ?_⟩
        have mm : 1 ≤ 1 + m / 16 % 5 / 4 ∧ 1 + m / 16 % 5 / 4 ≤ 3 := by omega
        try dsimp only
        generalize 1 + m / 16 % 5 / 4 = many at mm ⊢
        refine ⟨_, rfl, _, rfl, _, _, rfl, rfl, ⟨by decide, by decide⟩, _, _, rfl, rfl, (by show (0 : Int) < 4; decide), _, _, rfl, rfl, ⟨by decide, by decide⟩, _, _, rfl, rfl, _, rfl, _, _, rfl, rfl, (by show (0 : Int) < z; omega), ?_⟩
        try dsimp only
        generalize (0 + (i : Int) + m / 128 % 4 / 3) % (z : Int) = at1
        have pick : ∀ k : Bool, 0 ≤ many * (if k then 1 else 0) ∧ many * (if k then 1 else 0) ≤ 3 := fun k => by cases k <;> simp <;> omega
        refine ⟨_, rfl, _, rfl, zr1, zr2, ?_⟩
        rw [Int.toNat_natCast]
        refine comp_ints (τ := [some (.int many), some (.int at1)]) (fun m => 0 ≤ m ∧ m ≤ 3) zs70 (fun B j H9 hj S9 Q' hq => ?_) ?_
        · exact ⟨_, rfl, _, rfl, _, rfl, rfl, .inr ⟨_, rfl, _, _, rfl, rfl, .inl ⟨by omega, by omega⟩, hq _ _ (pick _) (Same.refl _)⟩⟩
        intro m8 H9 S9 ml8 mb8 r8 nr8
        have T9 := S9.upd nr8 (o := .lst (vints m8))
        have f8 := upd_same (H := H9) (a := r8) (o := .lst (vints m8))
        generalize upd H9 r8 (.lst (vints m8)) = H10 at T9 f8 ⊢
        refine ⟨_, rfl, _, rfl, zr1, zr2, ?_⟩
        rw [Int.toNat_natCast]
        refine comp_ints (τ := [some (.int many), some (.int at1), some (.int z)]) (fun m => 0 ≤ m ∧ m ≤ 3) zs70 (fun B j H11 hj S11 Q' hq => ?_) ?_
        · exact ⟨_, rfl, _, rfl, _, rfl, _, _, rfl, rfl, _, rfl, _, _, rfl, rfl, (by show (0 : Int) < z; omega), rfl, .inr ⟨_, rfl, _, _, rfl, rfl, .inl ⟨by omega, by omega⟩, hq _ _ (pick _) (Same.refl _)⟩⟩
        intro m9 H11 S11 ml9 mb9 r9 nr9
        have T11 := S11.upd nr9 (o := .lst (vints m9))
        exact hN _ _ ⟨_, _, _, r8, r9, m8, m9, rfl, (S48.trans T9).trans T11, T11 _ _ f8, upd_same, ml8, ml9, mb8, mb9⟩
    · rintro σ H4 ⟨o7, o8, o9, o10, o11, o12, ts, gs, tk, gv, rfl, S, hpt, tr, hpg, gr, tl, gl, okt, okg⟩
      refine ⟨_, rfl, _, rfl, _, rfl, _, rfl, by show 4 ≤ sizeLine; decide, fun p np => ?_⟩
      have U := (Same.refl H4).upd np (o := .lst [V.int (z : Int), V.ref pt, V.ref pg, V.ref pu])
      exact hQ p pt pg pu ts gs z tk gv us _ ((S1.trans S).free np) ((S1.trans S).trans U) ⟨upd_same, U _ _ hpt, tr.same U, U _ _ hpg, gr.same U, U _ _ (S _ _ hpu)⟩ ⟨z1, z6, by omega, by omega, okt, okg, ul, ub⟩
theorem sc_law_cell : FnScope ["script", "k"] ["script", "k"] (defScope s_law_cell) := ⟨rfl, rfl, rfl, by decide +kernel, rfl, by decide +kernel, by decide +kernel⟩
set_option maxHeartbeats 4000000 in
theorem ok_law_cell (T : Txt w K mg AR FR) : FnOk P w K mg base CX0 1 AR.f_law_cell FR.d_law_cell ["script", "k"] (sp_law_cell K) := by
  refine T.u_law_cell.F.ok sc_law_cell (fun vs H Q E h => ?_) (fun cdv A outer s H vs Q E hr h => ?_)
  · obtain ⟨a, ns, k, rfl, hS, h0, hQ⟩ := h
    rfl
  · obtain ⟨a, ns, k, rfl, hS, h0, hQ⟩ := h
    refine ⟨_, (pss_cons (ps_if (pt_cmpR op_lt (pv 1) (pe_callB call_len_seq (by rfl) T.z_len bt_len (pa_cons (pv 0) pa_nil)) (nomark _)) (pss_one (ps_ret (pe_op op_mod (pe_ix ix_list (pv 0) (pv 1) (fun _ _ => rfl)) pe_int))) pss_nil)
      (pss_one (ps_ret pe_int))), ?_⟩
    try dsimp only [kx1, kx2, kx3, Cx.nox, Cx.wish]
    refine ⟨_, rfl, _, rfl, a, _, rfl, .inl hS, _, _, rfl, rfl, _, rfl, ?_⟩
    refine iteD (fun hk => ?_) (fun hk => ?_)
    · rw [ints_len] at hk
      obtain ⟨j, rfl⟩ := Int.eq_ofNat_of_zero_le h0
      have hj : j < ns.length := by omega
      refine ⟨_, rfl, _, rfl, a, _, _, _, rfl, rfl, hS, ints_at hj, _, _, rfl, rfl, (by show (0 : Int) < 2305843009213693951; decide), ?_⟩
      exact hQ _ (Int.emod_nonneg _ (by decide)) (Int.emod_lt_of_pos _ (by decide))
    · exact hQ 0 (by decide) (by decide)
theorem sc_is_name : FnScope ["word"] ["word"] (defScope s_is_name) := ⟨rfl, rfl, rfl, by decide +kernel, rfl, by decide +kernel, by decide +kernel⟩
set_option maxHeartbeats 4000000 in
theorem ok_is_name (T : Txt w K mg AR FR) : FnOk P w K mg base CX0 1 AR.f_is_name FR.d_is_name ["word"] (sp_is_name K) := by
  obtain ⟨_, cc_MOST_SIGNS⟩ := T.c_MOST_SIGNS
  refine T.u_is_name.F.ok sc_is_name (fun vs H Q E h => ?_) (fun cdv A outer s H vs Q E hr h => ?_)
  · obtain ⟨x, rfl, hx, hz, hQ⟩ := h
    rfl
  · obtain ⟨x, rfl, hx, hz, hQ⟩ := h
    refine ⟨_, (pss_one (ps_ret (pe_and (pe_chain op_le op_le pe_int (pe_callB call_len_str (by rfl) T.z_len bt_len (pa_cons (pv 0) pa_nil)) (pe_glob (v := .int 8) (by rfl) cc_MOST_SIGNS ⟨_, rfl⟩)) (pe_one (pe_callB (call_all_list rfl) (by rfl) T.z_all bt_all (pa_cons (pe_comp (N' := ["sign"]) (nt := 1) (caps := []) _ _ (CompScope.of (by kernel_rfl)) (pi_str (pv 0)) (fun _ => (pg_nameC (i := 0) ["sign"] (by decide +kernel) (by rfl))) (fun _ => pts_nil) (fun _ => (pe_chain op_le_str op_le_str pe_str (pv 0) pe_str))) pa_nil)))))), ?_⟩
    try dsimp only [kx1, kx2, kx3, Cx.nox, Cx.wish]
    have hcs : x.cps.size = x.length := rfl
    refine ⟨_, rfl, x, rfl, Nat.le_trans hz (by decide), _, _, rfl, rfl, _, rfl, ?_⟩
    have key : ∀ (k : Bool) (H' : Hp), Same H H' → okName x = k → Q (.bl k) H' := fun k H' S e => e ▸ hQ H' S
    refine iteD (fun h1 => ?_) (fun h1 => ?_)
    · refine ⟨_, _, rfl, rfl, _, rfl, ?_⟩
      refine iteD (fun h8 => ?_) (fun h8 => ?_)
      · refine ⟨_, rfl, x, rfl, hx, ?_⟩
        refine comp_strP (fun i zs σ H2 => (∃ v, σ = [v]) ∧ Same H H2 ∧ zs = ((x.cps.toList.take i).map okSign).map V.bl) ⟨⟨none, rfl⟩, Same.refl _, rfl⟩ ?_ ?_ ?_
        · rintro i zs σ H2 hi ⟨_, S, rfl⟩
          rw [List.length_map, List.length_map, List.length_take]
          exact small70 (by omega)
        · rintro B i c zs σ H2 hc ⟨⟨v, rfl⟩, S, rfl⟩
          try dsimp only [gName, tTrue]
          rw [if_pos rfl]
          have hc' : x.cps.toList[i]? = some c := by simpa using hc
          have fin : ∀ k : Bool, okSign c = k → (((x.cps.toList.take i).map okSign).map V.bl ++ [V.bl k]) = ((x.cps.toList.take (i + 1)).map okSign).map V.bl := fun k e => by
            rw [List.take_add_one, hc', Option.toList_some, List.map_append, List.map_append, ← e]
            rfl
          refine ⟨_, rfl, _, _, rfl, rfl, _, rfl, ?_⟩
          have ea : (!decide ((⟨#[c]⟩ : Str).cps.toList < (Str.ofString "a").cps.toList)) = decide (97 ≤ c) := le_one
          have ez : (!decide ((Str.ofString "z").cps.toList < (⟨#[c]⟩ : Str).cps.toList)) = decide (c ≤ 122) := le_one
          rw [ea]
          refine iteD (fun g1 => ?_) (fun g1 => ?_)
          · refine ⟨_, _, rfl, rfl, ⟨_, rfl⟩, S, ?_⟩
            rw [ez]
            exact fin _ (by unfold okSign; simp [g1])
          · exact ⟨⟨_, rfl⟩, S, fin _ (by unfold okSign; simp [g1])⟩
        · rintro zs σ H2 ⟨_, S, rfl⟩ p hp
          rw [← Array.length_toList, List.take_length]
          refine ⟨p, _, rfl, SqL.of upd_same, key _ _ (S.upd hp) ?_⟩
          rw [all_map_sign]
          unfold okName
          simp [show 1 ≤ x.length by omega, show x.length ≤ 8 by omega]
      · refine key _ _ (Same.refl _) ?_
        unfold okName
        simp [show ¬ x.length ≤ 8 by omega]
    · refine ⟨_, rfl, ?_⟩
      refine iteF (key _ _ (Same.refl _) ?_)
      unfold okName
      simp [show ¬ 1 ≤ x.length by omega]
theorem sc_refuse_bad_names : FnScope ["names", "least", "most", "name"] ["names", "least", "most"] (defScope s_refuse_bad_names) := ⟨rfl, rfl, rfl, by decide +kernel, rfl, by decide +kernel, by decide +kernel⟩
set_option maxHeartbeats 4000000 in
theorem ok_refuse_bad_names (T : Txt w K mg AR FR) : FnOk P w K mg base CX0 2 AR.f_refuse_bad_names FR.d_refuse_bad_names ["names", "least", "most"] (sp_refuse_bad_names K) := by
  have G_is_name : FnOk P w K mg base CX0 1 AR.f_is_name FR.d_is_name _ (sp_is_name K) := ok_is_name T
  refine T.u_refuse_bad_names.F.ok sc_refuse_bad_names (fun vs H Q E h => ?_) (fun cdv A outer s H vs Q E hr h => ?_)
  · obtain ⟨a, ys, lo, hi, rfl, ha, h1, h2, h6, hn, hd, hQ⟩ := h
    rfl
  · obtain ⟨a, ys, lo, hi, rfl, ha, h1, h2, h6, hn, hd, hQ⟩ := h
    refine ⟨_, (pss_cons (ps_if (pt_not (pt_chain op_le op_le (pv 1) (pe_callB call_len_seq (by rfl) T.z_len bt_len (pa_cons (pv 0) pa_nil)) (pv 2))) (pss_one ps_never) pss_nil)
      (pss_cons (ps_for PassesOwn.never rfl (pi_list (pv 0)) (pg_name (i := 3) sc_refuse_bad_names.nd (by rfl) (Or.inl rfl))
      (pss_one (ps_if (pt_not (pt_val (pe_call G_is_name (hr.mono (by decide)) (by rfl) T.u_is_name.m T.u_is_name.F.kp T.u_is_name.b .nil pass0 (pa_cons (pv 3) pa_nil)))) (pss_one ps_never) pss_nil)))
      (pss_one (ps_if (pt_cmpR op_ne (pe_callB call_len_setS (by rfl) T.z_len bt_len (pa_cons (pe_callTy (call_set_strs rfl) (by rfl) T.z_set bt_set (pa_cons (pv 0) pa_nil)) pa_nil)) (pe_callB call_len_seq (by rfl) T.z_len bt_len (pa_cons (pv 0) pa_nil)) (nomark _)) (pss_one ps_never) pss_nil)))), ?_⟩
    try dsimp only [kx1, kx2, kx3, Cx.nox, Cx.wish]
    have hL : (vstrs ys).length = ys.length := List.length_map ..
    refine ⟨_, rfl, _, rfl, a, _, rfl, .inl ha, _, _, rfl, rfl, _, rfl, ?_⟩
    refine iteD (fun _ => ?_) (fun g => absurd (by rw [hL]; omega) g)
    refine ⟨_, rfl, _, _, rfl, rfl, _, rfl, ?_⟩
    refine iteND (fun g => absurd (by rw [hL]; omega) g) (fun _ => ?_)
    -- for name in names
    refine ⟨_, rfl, a, rfl, ⟨_, ha⟩, for_list (K := K) (a := a) (xs := vstrs ys) (fun i σ H2 => ∃ o, σ = [some (.ref a), some (.int lo), some (.int hi), o] ∧ Same H H2) ⟨none, rfl, Same.refl _⟩ (fun i σ H2 _ hp4 => by obtain ⟨_, _, S⟩ := hp4; exact S.seq ha) ?_ ?_⟩
    · rintro i x σ H2 hx ⟨o, rfl, S⟩
      obtain ⟨y, hy, rfl⟩ := strs_get hx
      have ok := hn y (List.mem_of_getElem? hy)
      have ol : y.length ≤ 8 := by
        unfold okName at ok
        rw [Bool.and_eq_true, Bool.and_eq_true, decide_eq_true_eq, decide_eq_true_eq] at ok
        exact ok.1.2
      refine ⟨_, rfl, y, rfl, okName_ascii ok, by omega, fun H3 S3 => ⟨_, rfl, ?_⟩⟩
      rw [ok]
      refine iteF ?_
      exact ⟨_, rfl, S.trans S3⟩
    · rintro σ H2 ⟨o, rfl, S⟩
      refine ⟨_, rfl, a, ys, rfl, S.seq ha, by omega, fun p hp => ?_⟩
      refine ⟨p, _, rfl, upd_same, _, rfl, a, _, rfl, .inl ((S.upd hp).seq ha), rfl, _, rfl, ?_⟩
      refine iteNS (by rw [metS_all hd, hL]) ?_
      exact hQ _ (S.upd hp)
theorem sc_refuse_bad_bags : FnScope ["bags", "many", "width", "bag", "number"] ["bags", "many", "width"] (defScope s_refuse_bad_bags) := ⟨rfl, rfl, rfl, by decide +kernel, rfl, by decide +kernel, by decide +kernel⟩
set_option maxHeartbeats 4000000 in
theorem ok_refuse_bad_bags (T : Txt w K mg AR FR) : FnOk P w K mg base CX0 1 AR.f_refuse_bad_bags FR.d_refuse_bad_bags ["bags", "many", "width"] (sp_refuse_bad_bags K) := by
  obtain ⟨_, cc_MOST_BEADS⟩ := T.c_MOST_BEADS
  refine T.u_refuse_bad_bags.F.ok sc_refuse_bad_bags (fun vs H Q E h => ?_) (fun cdv A outer s H vs Q E hr h => ?_)
  · obtain ⟨a, as, rs, n, rfl, ha, R, ok, hQ⟩ := h
    rfl
  · obtain ⟨a, as, rs, n, rfl, ha, R, ok, hQ⟩ := h
    refine ⟨_, (pss_cons (ps_if (pt_cmpR op_ne (pe_callB call_len_seq (by rfl) T.z_len bt_len (pa_cons (pv 0) pa_nil)) (pv 1) (nomark _)) (pss_one ps_never) pss_nil)
      (pss_one (ps_for PassesOwn.never rfl (pi_list (pv 0)) (pg_name (i := 3) sc_refuse_bad_bags.nd (by rfl) (Or.inl rfl))
      (pss_cons (ps_if (pt_cmpR op_ne (pe_callB call_len_seq (by rfl) T.z_len bt_len (pa_cons (pv 3) pa_nil)) (pv 2) (nomark _)) (pss_one ps_never) pss_nil)
      (pss_one (ps_for PassesOwn.never rfl (pi_list (pv 3)) (pg_name (i := 4) sc_refuse_bad_bags.nd (by rfl) (Or.inl rfl))
      (pss_one (ps_if (pt_not (pt_chain op_le op_le pe_int (pv 4) (pe_glob (v := .int 1000000000) (by rfl) cc_MOST_BEADS ⟨_, rfl⟩))) (pss_one ps_never) pss_nil)))))))), ?_⟩
    try dsimp only [kx1, kx2, kx3, Cx.nox, Cx.wish]
    have hal := R.length
    refine ⟨_, rfl, a, _, rfl, .inl ha, _, rfl, rfl, _, rfl, ?_⟩
    refine iteNS (by rw [List.length_map, hal]) ?_
    refine ⟨_, rfl, a, rfl, ⟨_, ha⟩, for_list (K := K) (a := a) (xs := as.map V.ref) (fun i σ H2 => ∃ o3 o4, σ = [some (.ref a), some (.int rs.length), some (.int n), o3, o4] ∧ H2 = H) ⟨none, none, rfl, rfl⟩ (fun i σ H2 _ hp4 => by obtain ⟨_, _, _, e⟩ := hp4; exact e ▸ ha) ?_ ?_⟩
    · rintro i x σ H2 hx ⟨o3, o4, rfl, rfl⟩
      obtain ⟨b, hb1, rfl⟩ := refs_get hx
      obtain ⟨r, hr1, hb⟩ := Paired.getL R hb1
      obtain ⟨hrl, hrb⟩ := ok r (List.mem_of_getElem? hr1)
      refine ⟨_, rfl, b, _, rfl, .inl (SqL.of hb), _, rfl, rfl, _, rfl, ?_⟩
      refine iteNS (by rw [ints_len, hrl]) ?_
      refine ⟨_, rfl, b, rfl, ⟨_, SqL.of hb⟩, for_list (K := K) (a := b) (xs := vints r) (fun i' σ H3 => ∃ o4, σ = [some (.ref a), some (.int rs.length), some (.int n), some (.ref b), o4] ∧ H3 = H2) ⟨_, rfl, rfl⟩ (fun i σ H3 _ hp4 => by obtain ⟨_, _, e⟩ := hp4; exact e ▸ SqL.of hb) ?_ ?_⟩
      · rintro i' y σ H3 hy ⟨o, rfl, rfl⟩
        obtain ⟨m, hm, rfl⟩ := ints_get hy
        obtain ⟨g1, g2⟩ := hrb m (List.mem_of_getElem? hm)
        refine ⟨_, rfl, _, _, rfl, rfl, _, rfl, ?_⟩
        refine iteD (fun _ => ?_) (fun g => absurd g1 g)
        refine ⟨_, _, rfl, rfl, _, rfl, ?_⟩
        refine iteND (fun g => absurd g2 g) (fun _ => ?_)
        exact ⟨_, rfl, rfl⟩
      · rintro σ H3 ⟨o, rfl, rfl⟩
        exact ⟨_, _, rfl, rfl⟩
    · rintro σ H2 ⟨o3, o4, rfl, rfl⟩
      exact hQ
theorem sc_Net_init : FnScope ["self", "bowls", "doors", "takes", "gives", "first"] ["self", "bowls", "doors", "takes", "gives", "first"] (defScope s_Net_init) := ⟨rfl, rfl, rfl, by decide +kernel, rfl, by decide +kernel, by decide +kernel⟩
set_option maxHeartbeats 4000000 in
theorem ok_Net_init (T : Txt w K mg AR FR) : FnOk P w K mg base CX0 3 AR.f_Net_init FR.d_Net_init ["self", "bowls", "doors", "takes", "gives", "first"] (sp_Net_init AR.C_Net K) := by
  obtain ⟨_, cc_LEAST_BOWLS⟩ := T.c_LEAST_BOWLS
  obtain ⟨_, cc_MOST_BOWLS⟩ := T.c_MOST_BOWLS
  obtain ⟨_, cc_MOST_DOORS⟩ := T.c_MOST_DOORS
  have G_refuse_bad_names : FnOk P w K mg base CX0 2 AR.f_refuse_bad_names FR.d_refuse_bad_names _ (sp_refuse_bad_names K) := ok_refuse_bad_names T
  have G_refuse_bad_bags : FnOk P w K mg base CX0 1 AR.f_refuse_bad_bags FR.d_refuse_bad_bags _ (sp_refuse_bad_bags K) := ok_refuse_bad_bags T
  refine T.F_Net_init.ok sc_Net_init (fun vs H Q E h => ?_) (fun cdv A outer s H vs Q E hr h => ?_)
  · obtain ⟨x, dx, pb, pd, pt, pg, pf, ts, gs, N, rfl, hx, ok, hb, hd, ht, tr, hg, gr, hf, hQ⟩ := h
    rfl
  · obtain ⟨x, dx, pb, pd, pt, pg, pf, ts, gs, N, rfl, hx, ok, hb, hd, ht, tr, hg, gr, hf, hQ⟩ := h
    refine ⟨_, (pss_cons (ps_expr (pe_call G_refuse_bad_names (hr.mono (by decide)) (by rfl) T.u_refuse_bad_names.m T.u_refuse_bad_names.F.kp T.u_refuse_bad_names.b .nil pass0 (pa_cons (pv 1) (pa_cons (pe_glob (v := .int 1) (by rfl) cc_LEAST_BOWLS ⟨_, rfl⟩) (pa_cons (pe_glob (v := .int 6) (by rfl) cc_MOST_BOWLS ⟨_, rfl⟩) pa_nil)))))
      (pss_cons (ps_expr (pe_call G_refuse_bad_names (hr.mono (by decide)) (by rfl) T.u_refuse_bad_names.m T.u_refuse_bad_names.F.kp T.u_refuse_bad_names.b .nil pass0 (pa_cons (pv 2) (pa_cons pe_int (pa_cons (pe_glob (v := .int 8) (by rfl) cc_MOST_DOORS ⟨_, rfl⟩) pa_nil)))))
      (pss_cons (ps_expr (pe_call G_refuse_bad_bags (hr.mono (by decide)) (by rfl) T.u_refuse_bad_bags.m T.u_refuse_bad_bags.F.kp T.u_refuse_bad_bags.b .nil pass0 (pa_cons (pv 3) (pa_cons (pe_callB call_len_seq (by rfl) T.z_len bt_len (pa_cons (pv 2) pa_nil)) (pa_cons (pe_callB call_len_seq (by rfl) T.z_len bt_len (pa_cons (pv 1) pa_nil)) pa_nil)))))
      (pss_cons (ps_expr (pe_call G_refuse_bad_bags (hr.mono (by decide)) (by rfl) T.u_refuse_bad_bags.m T.u_refuse_bad_bags.F.kp T.u_refuse_bad_bags.b .nil pass0 (pa_cons (pv 4) (pa_cons (pe_callB call_len_seq (by rfl) T.z_len bt_len (pa_cons (pv 2) pa_nil)) (pa_cons (pe_callB call_len_seq (by rfl) T.z_len bt_len (pa_cons (pv 1) pa_nil)) pa_nil)))))
      (pss_cons (ps_expr (pe_call G_refuse_bad_bags (hr.mono (by decide)) (by rfl) T.u_refuse_bad_bags.m T.u_refuse_bad_bags.F.kp T.u_refuse_bad_bags.b .nil pass0 (pa_cons (pe_lst (pa_cons (pv 5) pa_nil)) (pa_cons pe_int (pa_cons (pe_callB call_len_seq (by rfl) T.z_len bt_len (pa_cons (pv 1) pa_nil)) pa_nil)))))
      (pss_cons (ps_fld (pv 0) (pe_callTy call_list_of (by rfl) T.z_list bt_list (pa_cons (pv 1) pa_nil)) rfl)
      (pss_cons (ps_fld (pv 0) (pe_callTy call_list_of (by rfl) T.z_list bt_list (pa_cons (pv 2) pa_nil)) rfl)
      (pss_cons (ps_fld (pv 0) (pe_comp (N' := ["bag"]) (nt := 1) (caps := []) _ _ (CompScope.of (by kernel_rfl)) (pi_list (pv 3)) (fun _ => (pg_nameC (i := 0) ["bag"] (by decide +kernel) (by rfl))) (fun _ => pts_nil) (fun _ => (pe_callTy call_list_of (by rfl) T.z_list bt_list (pa_cons (pv 0) pa_nil)))) rfl)
      (pss_cons (ps_fld (pv 0) (pe_comp (N' := ["bag"]) (nt := 1) (caps := []) _ _ (CompScope.of (by kernel_rfl)) (pi_list (pv 4)) (fun _ => (pg_nameC (i := 0) ["bag"] (by decide +kernel) (by rfl))) (fun _ => pts_nil) (fun _ => (pe_callTy call_list_of (by rfl) T.z_list bt_list (pa_cons (pv 0) pa_nil)))) rfl)
      (pss_one (ps_fld (pv 0) (pe_callTy call_list_of (by rfl) T.z_list bt_list (pa_cons (pv 5) pa_nil)) rfl))))))))))), ?_⟩
    try dsimp only [kx1, kx2, kx3, Cx.nox, Cx.wish]
    have tl := tr.length
    have gl := gr.length
    have lb : (vstrs N.bowls).length = N.bowls.length := List.length_map ..
    have ld : (vstrs N.doors).length = N.doors.length := List.length_map ..
    -- the refusals do not come
    refine ⟨_, rfl, pb, N.bowls, 1, 6, rfl, hb, by have := ok.b1; omega, by have := ok.b6; omega, by have := ok.b6; omega, ok.bn, ok.bd, fun H1 S1 => ?_⟩
    refine ⟨_, rfl, pd, N.doors, 0, 8, rfl, S1.seq hd, by omega, by have := ok.d8; omega, by have := ok.d8; omega, ok.dn, ok.dd, fun H2 S2 => ?_⟩
    have S12 := S1.trans S2
    refine ⟨_, rfl, _, rfl, pd, _, rfl, .inl (S12.seq hd), _, rfl, pb, _, rfl, .inl (S12.seq hb), pt, ts, N.takes, N.bowls.length, by rw [ld, lb, ok.tl]; rfl, S12.seq ht, tr.same S12, ok.tk, ?_⟩
    refine ⟨_, rfl, _, rfl, pd, _, rfl, .inl (S12.seq hd), _, rfl, pb, _, rfl, .inl (S12.seq hb), pg, gs, N.gives, N.bowls.length, by rw [ld, lb, ok.gl]; rfl, S12.seq hg, gr.same S12, ok.gv, ?_⟩
    refine ⟨_, rfl, by show 1 ≤ sizeLine; decide, fun q0 m0 => ?_⟩
    have U0 := S12.upd m0 (o := .lst [V.ref pf])
    refine ⟨_, rfl, pb, _, rfl, .inl (U0.seq hb), q0, [pf], [N.first], N.bowls.length, by rw [lb]; rfl, SqL.of upd_same, .cons (U0 _ _ hf) .nil, (fun r hr => by rw [List.mem_singleton.mp hr]; exact ok.fs), ?_⟩
    -- from here on what was tracked stays, but for the instance
    generalize upd H2 q0 (.lst [V.ref pf]) = H3 at U0
    have x3 := U0 _ _ hx
    have k3 : But x H H3 := U0.but
    -- self.bowls = list(bowls)
    refine ⟨_, rfl, pb, _, rfl, .inl (U0.seq hb), fun b nb => ?_⟩
    have nxb : x ≠ b := ne_of_none x3 nb
    refine ⟨_, rfl, x, AR.C_Net, dx, [], rfl, by rw [upd_ne nxb]; exact x3, T.cl_Net, T.n_Net_bowls, by show 0 < 1000; decide, ?_⟩
    have k4 : But x H3 _ := But.step (x := x) (o := .lst (vstrs N.bowls)) (o' := .ins AR.C_Net dx (nf1 (.ref b))) nb
    have x4 := upd_same (H := upd H3 b (.lst (vstrs N.bowls))) (a := x) (o := .ins AR.C_Net dx (nf1 (.ref b)))
    have b4 : upd (upd H3 b (.lst (vstrs N.bowls))) x (.ins AR.C_Net dx (nf1 (.ref b))) b = some (.lst (vstrs N.bowls)) := by rw [upd_ne (Ne.symm nxb), upd_same]
    generalize hH4 : upd (upd H3 b (.lst (vstrs N.bowls))) x (.ins AR.C_Net dx (nf1 (.ref b))) = H4 at k4 x4 b4
    have a4 := k3.trans k4
    -- self.doors = list(doors)
    refine ⟨_, rfl, pd, _, rfl, .inl (by rw [show upd (upd H3 b (.lst (vstrs N.bowls))) x (.ins AR.C_Net dx (putF "bowls" (V.ref b) [])) = H4 from hH4]; exact a4.seq hx hd), ?_⟩
    rw [show upd (upd H3 b (.lst (vstrs N.bowls))) x (.ins AR.C_Net dx (putF "bowls" (V.ref b) [])) = H4 from hH4]
    intro d nd
    have nxd : x ≠ d := ne_of_none x4 nd
    refine ⟨_, rfl, x, AR.C_Net, dx, _, rfl, by rw [upd_ne nxd]; exact x4, T.cl_Net, T.n_Net_doors, by show 1 < 1000; decide, ?_⟩
    rw [put_n2]
    have k5 : But x H4 _ := But.step (x := x) (o := .lst (vstrs N.doors)) (o' := .ins AR.C_Net dx (nf2 (.ref b) (.ref d))) nd
    have x5 := upd_same (H := upd H4 d (.lst (vstrs N.doors))) (a := x) (o := .ins AR.C_Net dx (nf2 (.ref b) (.ref d)))
    have d5 : upd (upd H4 d (.lst (vstrs N.doors))) x (.ins AR.C_Net dx (nf2 (.ref b) (.ref d))) d = some (.lst (vstrs N.doors)) := by rw [upd_ne (Ne.symm nxd), upd_same]
    have b5 := k5 _ _ b4 (Ne.symm nxb)
    generalize upd (upd H4 d (.lst (vstrs N.doors))) x (.ins AR.C_Net dx (nf2 (.ref b) (.ref d))) = H5 at k5 x5 d5 b5 ⊢
    have a5 := a4.trans k5
    -- self.takes = [list(bag) for bag in takes]
    refine ⟨_, rfl, pt, rfl, ⟨_, a5.seq hx ht⟩, ?_⟩
    refine comp_copies (K := K) (τ := []) (fun _ => rfl) (a5.seq hx ht) (a5.rows hx tr) (by have := ok.tl; have := ok.d8; omega) fun H6 ts' S6 R6 f6 t nt => ?_
    have x6 := S6 _ _ x5
    have nxt : x ≠ t := ne_of_none x6 nt
    refine ⟨_, rfl, x, AR.C_Net, dx, _, rfl, by rw [upd_ne nxt]; exact x6, T.cl_Net, T.n_Net_takes, by show 2 < 1000; decide, ?_⟩
    rw [put_n3]
    have k7 : But x H6 _ := But.step (x := x) (o := .lst (ts'.map V.ref)) (o' := .ins AR.C_Net dx (nf3 (.ref b) (.ref d) (.ref t))) nt
    have x7 := upd_same (H := upd H6 t (.lst (ts'.map V.ref))) (a := x) (o := .ins AR.C_Net dx (nf3 (.ref b) (.ref d) (.ref t)))
    have t7 : upd (upd H6 t (.lst (ts'.map V.ref))) x (.ins AR.C_Net dx (nf3 (.ref b) (.ref d) (.ref t))) t = some (.lst (ts'.map V.ref)) := by rw [upd_ne (Ne.symm nxt), upd_same]
    have b7 := k7 _ _ (S6 _ _ b5) (Ne.symm nxb)
    have d7 := k7 _ _ (S6 _ _ d5) (Ne.symm nxd)
    have r7 := k7.rows x6 R6
    generalize upd (upd H6 t (.lst (ts'.map V.ref))) x (.ins AR.C_Net dx (nf3 (.ref b) (.ref d) (.ref t))) = H7 at k7 x7 t7 b7 d7 r7 ⊢
    have a7 := a5.trans (S6.but.trans k7)
    -- self.gives = [list(bag) for bag in gives]
    refine ⟨_, rfl, pg, rfl, ⟨_, a7.seq hx hg⟩, ?_⟩
    refine comp_copies (K := K) (τ := []) (fun _ => rfl) (a7.seq hx hg) (a7.rows hx gr) (by have := ok.gl; have := ok.d8; omega) fun H8 gs' S8 R8 f8 g ng => ?_
    have x8 := S8 _ _ x7
    have nxg : x ≠ g := ne_of_none x8 ng
    refine ⟨_, rfl, x, AR.C_Net, dx, _, rfl, by rw [upd_ne nxg]; exact x8, T.cl_Net, T.n_Net_gives, by show 3 < 1000; decide, ?_⟩
    rw [put_n4]
    have k9 : But x H8 _ := But.step (x := x) (o := .lst (gs'.map V.ref)) (o' := .ins AR.C_Net dx (nf4 (.ref b) (.ref d) (.ref t) (.ref g))) ng
    have x9 := upd_same (H := upd H8 g (.lst (gs'.map V.ref))) (a := x) (o := .ins AR.C_Net dx (nf4 (.ref b) (.ref d) (.ref t) (.ref g)))
    have g9 : upd (upd H8 g (.lst (gs'.map V.ref))) x (.ins AR.C_Net dx (nf4 (.ref b) (.ref d) (.ref t) (.ref g))) g = some (.lst (gs'.map V.ref)) := by rw [upd_ne (Ne.symm nxg), upd_same]
    have b9 := k9 _ _ (S8 _ _ b7) (Ne.symm nxb)
    have d9 := k9 _ _ (S8 _ _ d7) (Ne.symm nxd)
    have t9 := k9 _ _ (S8 _ _ t7) (Ne.symm nxt)
    have r9 := k9.rows x8 (r7.same S8)
    have q9 := k9.rows x8 R8
    generalize upd (upd H8 g (.lst (gs'.map V.ref))) x (.ins AR.C_Net dx (nf4 (.ref b) (.ref d) (.ref t) (.ref g))) = H9 at k9 x9 g9 b9 d9 t9 r9 q9 ⊢
    have a9 := a7.trans (S8.but.trans k9)
    -- self.first = list(first)
    refine ⟨_, rfl, pf, _, rfl, .inl (a9.seq hx (SqL.of hf)), fun f nf => ?_⟩
    have nxf : x ≠ f := ne_of_none x9 nf
    refine ⟨_, rfl, x, AR.C_Net, dx, _, rfl, by rw [upd_ne nxf]; exact x9, T.cl_Net, T.n_Net_first, by show 4 < 1000; decide, ?_⟩
    rw [put_n5]
    have k10 : But x H9 _ := But.step (x := x) (o := .lst (vints N.first)) (o' := .ins AR.C_Net dx (netF b d t g f)) nf
    have free : ∀ {Ha : Hp} {q : Addr} {o : HO}, But x H Ha → Ha x = some o → Ha q = none → H q = none := fun k e n => k.free (C := AR.C_Net) (dx := dx) (fs := []) e n
    refine hQ b d t g f ts' gs' _ (fun a ha => ?_) (fun q o e n => k10 _ _ (a9 _ _ e n) n) ⟨upd_same, k10 _ _ b9 (Ne.symm nxb), k10 _ _ d9 (Ne.symm nxd), k10 _ _ t9 (Ne.symm nxt), k10.rows x9 r9, k10 _ _ g9 (Ne.symm nxg), k10.rows x9 q9, by rw [upd_ne (Ne.symm nxf), upd_same]⟩
    rcases List.mem_append.mp ha with ha | ha
    · rcases List.mem_append.mp ha with ha | ha
      · simp only [List.mem_cons, List.not_mem_nil, or_false] at ha
        rcases ha with rfl | rfl | rfl | rfl | rfl
        · exact free k3 x3 nb
        · exact free a4 x4 nd
        · exact free (a5.trans S6.but) x6 nt
        · exact free (a7.trans S8.but) x8 ng
        · exact free a9 x9 nf
      · exact free a5 x5 (f6 a ha)
    · exact free a7 x7 (f8 a ha)
theorem sc_law_net_of : FnScope ["parts", "first", "takes", "gives", "bowls"] ["parts", "first"] (defScope s_law_net_of) := ⟨rfl, rfl, rfl, by decide +kernel, rfl, by decide +kernel, by decide +kernel⟩
set_option maxHeartbeats 4000000 in
theorem ok_law_net_of (T : Txt w K mg AR FR) : FnOk P w K mg base CX0 5 AR.f_law_net_of FR.d_law_net_of ["parts", "first"] (sp_law_net_of AR.C_Net K) := by
  have G_Net_init : FnOk P w K mg base CX0 3 AR.f_Net_init FR.d_Net_init _ (sp_Net_init AR.C_Net K) := ok_Net_init T
  refine T.u_law_net_of.F.ok sc_law_net_of (fun vs H Q E h => ?_) (fun cdv A outer s H vs Q E hr h => ?_)
  · obtain ⟨p, pt, pg, pu, pf, ts, gs, tk, gv, us, fs, rfl, P, o, hf, okf, hQ⟩ := h
    rfl
  · obtain ⟨p, pt, pg, pu, pf, ts, gs, tk, gv, us, fs, rfl, P, o, hf, okf, hQ⟩ := h
    refine ⟨_, (pss_cons (ps_setComp (i := 2) (N' := ["bag"]) (nt := 1) (caps := []) _ _ (CompScope.of (by kernel_rfl)) sc_law_net_of.nd rfl rfl (pi_list (pe_ix ix_list (pv 0) pe_int (fun _ _ => rfl))) (fun _ => (pg_nameC (i := 0) ["bag"] (by decide +kernel) (by rfl))) (fun _ => pts_nil) (fun _ => (pe_callTy call_list_of (by rfl) T.z_list bt_list (pa_cons (pv 0) pa_nil))))
      (pss_cons (ps_setComp (i := 3) (N' := ["bag"]) (nt := 1) (caps := []) _ _ (CompScope.of (by kernel_rfl)) sc_law_net_of.nd rfl rfl (pi_list (pe_ix ix_list (pv 0) pe_int (fun _ _ => rfl))) (fun _ => (pg_nameC (i := 0) ["bag"] (by decide +kernel) (by rfl))) (fun _ => pts_nil) (fun _ => (pe_callTy call_list_of (by rfl) T.z_list bt_list (pa_cons (pv 0) pa_nil))))
      (pss_cons (ps_set (i := 4) sc_law_net_of.nd rfl (Or.inl rfl) (pe_slice sl_list (pe_lst (pa_cons pe_str (pa_cons pe_str (pa_cons pe_str (pa_cons pe_str (pa_cons pe_str (pa_cons pe_str pa_nil))))))) po_none (po_some (pe_ix ix_list (pv 0) pe_int (fun _ _ => rfl)))))
      (pss_one (ps_ret (pe_make T.mk_Net G_Net_init (hr.mono (by decide)) (by rfl) T.mC_Net T.b_Net_init .nil pass0 (pa_cons (pv 4) (pa_cons (pe_slice sl_list (pe_lst (pa_cons pe_str (pa_cons pe_str (pa_cons pe_str (pa_cons pe_str (pa_cons pe_str (pa_cons pe_str (pa_cons pe_str (pa_cons pe_str pa_nil))))))))) po_none (po_some (pe_callB call_len_seq (by rfl) T.z_len bt_len (pa_cons (pv 2) pa_nil)))) (pa_cons (pv 2) (pa_cons (pv 3) (pa_cons (pe_callTy call_list_of (by rfl) T.z_list bt_list (pa_cons (pv 1) pa_nil)) pa_nil))))))))))), ?_⟩
    try dsimp only [kx1, kx2, kx3, Cx.nox, Cx.wish]
    have ok := netT_ok o okf
    have z6 := o.z6
    have t8 := o.t8
    have gl := o.gl
    -- takes, gives
    refine ⟨_, rfl, p, _, _, _, rfl, rfl, SqL.of P.top, rfl, pt, rfl, ⟨_, SqL.of P.ht⟩, ?_⟩
    refine comp_copies (K := K) (τ := []) (fun _ => rfl) (SqL.of P.ht) P.tr (by omega) fun H6 ts' S6 R6 f6 t nt => ?_
    have V6 := S6.upd nt (o := .lst (ts'.map V.ref))
    have ht6 := upd_same (H := H6) (a := t) (o := .lst (ts'.map V.ref))
    have R6' := R6.same ((Same.refl H6).upd nt (o := .lst (ts'.map V.ref)))
    generalize upd H6 t (.lst (ts'.map V.ref)) = H7 at V6 ht6 R6' ⊢
    have P7 := P.same V6
    refine ⟨_, rfl, p, _, _, _, rfl, rfl, SqL.of P7.top, rfl, pg, rfl, ⟨_, SqL.of P7.hg⟩, ?_⟩
    refine comp_copies (K := K) (τ := []) (fun _ => rfl) (SqL.of P7.hg) P7.gr (by omega) fun H8 gs' S8 R8 f8 g ng => ?_
    have V8 := S8.upd ng (o := .lst (gs'.map V.ref))
    have hg8 := upd_same (H := H8) (a := g) (o := .lst (gs'.map V.ref))
    have R8' := R8.same ((Same.refl H8).upd ng (o := .lst (gs'.map V.ref)))
    generalize upd H8 g (.lst (gs'.map V.ref)) = H9 at V8 hg8 R8' ⊢
    have U9 := V6.trans V8
    have P9 := P7.same V8
    -- bowls
    refine ⟨by show 6 ≤ sizeLine; decide, fun l1 n1 => ?_⟩
    have U1 := (Same.refl H9).upd n1 (o := .lst vsix)
    refine ⟨_, rfl, p, _, _, _, rfl, rfl, SqL.of (U1 _ _ P9.top), rfl, _, rfl, l1, vsix, rfl, SqL.of upd_same, fun b1 nb1 => ?_⟩
    rw [cut_six]
    have U2 := U1.upd nb1 (o := .lst (vstrs (six.take fs.length)))
    have hb1 := upd_same (H := upd H9 l1 (.lst vsix)) (a := b1) (o := .lst (vstrs (six.take fs.length)))
    generalize upd (upd H9 l1 (.lst vsix)) b1 (.lst (vstrs (six.take fs.length))) = H10 at U2 hb1 ⊢
    refine ⟨_, rfl, by show 8 ≤ sizeLine; decide, fun l2 n2 => ?_⟩
    have U3 := (Same.refl H10).upd n2 (o := .lst veit2)
    refine ⟨_, rfl, t, _, rfl, .inl (SqL.of (U3 _ _ (U2 _ _ (V8 _ _ ht6)))), _, rfl, l2, veit2, rfl, SqL.of upd_same, fun d1 nd1 => ?_⟩
    rw [List.length_map, R6.length, cut_eit2]
    have U4 := U3.upd nd1 (o := .lst (vstrs (eit2.take tk.length)))
    have hd1 := upd_same (H := upd H10 l2 (.lst veit2)) (a := d1) (o := .lst (vstrs (eit2.take tk.length)))
    have hb2 := U4 _ _ hb1
    have U24 := U2.trans U4
    generalize upd (upd H10 l2 (.lst veit2)) d1 (.lst (vstrs (eit2.take tk.length))) = H11 at U4 U24 hb2 hd1 ⊢
    have U11 := U9.trans U24
    refine ⟨_, rfl, _, rfl, _, rfl, pf, _, rfl, .inl (U11.seq hf), fun f nf => ?_⟩
    have V10 := (Same.refl H11).upd nf (o := .lst (vints fs))
    have hf10 := upd_same (H := H11) (a := f) (o := .lst (vints fs))
    generalize upd H11 f (.lst (vints fs)) = H12 at V10 hf10 ⊢
    have U12 := U11.trans V10
    have W12 := (V8.trans U24).trans V10
    have X12 := U24.trans V10
    intro x dx nx ndx ne
    have nx' : upd H12 dx (.own x) x = none := by rw [upd_ne (Ne.symm ne)]; exact nx
    have U := ((Same.refl H12).upd ndx (o := .own x)).upd nx' (o := .ins AR.C_Net dx [])
    refine ⟨x, dx, b1, d1, t, g, f, ts', gs', netT tk gv fs, rfl, upd_same, ok, SqL.of ((V10.trans U) _ _ hb2), SqL.of ((V10.trans U) _ _ hd1), SqL.of ((W12.trans U) _ _ ht6), R6'.same (W12.trans U), SqL.of ((X12.trans U) _ _ hg8), R8'.same (X12.trans U), U _ _ hf10, fun b2 d2 t2 g2 f2 ts2 gs2 H2 fr kp NI => ⟨rfl, ?_⟩⟩
    exact hQ x dx b2 d2 t2 g2 f2 ts2 gs2 H2 (U12.free nx) (U12.trans fun q o e => kp q o (U q o e) (ne_of_none e nx)) NI ok
theorem sc_law_great : FnScope ["turn"] ["turn"] (defScope s_law_great) := ⟨rfl, rfl, rfl, by decide +kernel, rfl, by decide +kernel, by decide +kernel⟩
set_option maxHeartbeats 4000000 in
theorem ok_law_great (T : Txt w K mg AR FR) : FnOk P w K mg base CX0 1 AR.f_law_great FR.d_law_great ["turn"] (sp_law_great K) := by
  refine T.u_law_great.F.ok sc_law_great (fun vs H Q E h => ?_) (fun cdv A outer s H vs Q E hr h => ?_)
  · obtain ⟨t, rfl, t0, t1, hQ⟩ := h
    rfl
  · obtain ⟨t, rfl, t0, t1, hQ⟩ := h
    refine ⟨_, (pss_one (ps_ret (pe_ix ix_list (pe_lst (pa_cons (pe_op op_mod (pv 0) pe_int) (pa_cons (pv 0) (pa_cons (pe_op op_mod (pe_op op_mul (pe_op op_mul (pe_op op_mul (pe_op op_mul (pe_op op_mul (pv 0) (pv 0)) (pv 0)) (pv 0)) (pv 0)) (pv 0)) (pe_op op_pow pe_int pe_int)) pa_nil)))) (pe_op op_mod (pv 0) pe_int) (fun _ _ => rfl)))), ?_⟩
    try dsimp only [kx1, kx2, kx3, Cx.nox, Cx.wish]
    have sm : -(2 ^ 64) < t ∧ t < 2 ^ 64 := ⟨by omega, by omega⟩
    have ma : 0 ≤ t % 3 := Int.emod_nonneg _ (by decide)
    have mb : t % 3 < 3 := Int.emod_lt_of_pos _ (by decide)
    refine ⟨_, rfl, _, _, rfl, rfl, (by show (0 : Int) < 5; decide), _, rfl, _, rfl, _, rfl, _, _, rfl, rfl, .inr sm, _, rfl, _, _, rfl, rfl, .inr sm, _, rfl, _, _, rfl, rfl, .inr sm, _, rfl, _, _, rfl, rfl, .inr sm, _, rfl, _, _, rfl, rfl, .inr sm, _, _, rfl, rfl, ⟨by decide, by decide, by decide⟩, _, _, rfl, rfl, (by show (0 : Int) < 10 ^ 60; decide), by show 3 ≤ sizeLine; decide, fun p np => ?_⟩
    refine ⟨_, rfl, _, _, rfl, rfl, (by show (0 : Int) < 3; decide), ?_⟩
    have h := hQ _ ((Same.refl H).upd np (o := .lst [.int (t % 5), .int t, .int (t * t * t * t * t * t % 10 ^ 60)]))
    unfold greatF at h
    rcases (show t % 3 = 0 ∨ t % 3 = 1 ∨ t % 3 = 2 by omega) with e | e | e
    · rw [if_pos e] at h
      exact ⟨p, _, _, _, rfl, rfl, SqL.of upd_same, by show atI _ (t % 3) = _; rw [e]; rfl, h⟩
    · rw [if_neg (by omega), if_pos e] at h
      exact ⟨p, _, _, _, rfl, rfl, SqL.of upd_same, by show atI _ (t % 3) = _; rw [e]; rfl, h⟩
    · rw [if_neg (by omega), if_neg (by omega)] at h
      exact ⟨p, _, _, _, rfl, rfl, SqL.of upd_same, by show atI _ (t % 3) = _; rw [e]; rfl, h⟩
theorem sc_law_row : FnScope ["cell", "many"] ["cell", "many"] (defScope s_law_row) := ⟨rfl, rfl, rfl, by decide +kernel, rfl, by decide +kernel, by decide +kernel⟩
set_option maxHeartbeats 4000000 in
theorem ok_law_row (T : Txt w K mg AR FR) : FnOk P w K mg base CX0 2 AR.f_law_row FR.d_law_row ["cell", "many"] (sp_law_row K) := by
  have G_law_mixed : FnOk P w K mg base CX0 1 AR.f_law_mixed FR.d_law_mixed _ (sp_law_mixed K) := ok_law_mixed T
  refine T.u_law_row.F.ok sc_law_row (fun vs H Q E h => ?_) (fun cdv A outer s H vs Q E hr h => ?_)
  · obtain ⟨c, m, rfl, m8, hQ⟩ := h
    rfl
  · obtain ⟨c, m, rfl, m8, hQ⟩ := h
    refine ⟨_, (pss_cons (ps_if (pt_cmpR op_eq (pv 1) pe_int (nomark _)) (pss_one (ps_ret (pe_lst pa_nil))) pss_nil)
      (pss_one (ps_ret (pe_comp (N' := ["k", "cell", "many"]) (nt := 1) (caps := [0, 1]) _ _ (CompScope.of (by kernel_rfl)) (pi_range1 (by rfl) T.z_range (pa_cons (pe_op op_mod (pv 0) pe_int) pa_nil)) (fun _ => (pg_nameC (i := 0) ["k", "cell", "many"] (by decide +kernel) (by rfl))) (fun _ => pts_nil) (fun _ => (pe_op op_mod (pe_call G_law_mixed (hr.mono (by decide)) (by rfl) T.u_law_mixed.m T.u_law_mixed.F.kp T.u_law_mixed.b .nil pass0 (pa_cons (pv 1) (pa_cons (pe_op op_add pe_int (pv 0)) pa_nil))) (pv 2))))))), ?_⟩
    try dsimp only [kx1, kx2, kx3, Cx.nox, Cx.wish]
    refine ⟨_, rfl, rfl, _, rfl, ?_⟩
    unfold rowF at hQ
    refine iteD (fun e => ?_) (fun e => ?_)
    · have e : m = 0 := by injection e with e; omega
      rw [if_pos e] at hQ
      exact ⟨by decide, fun p np => hQ p _ np ((Same.refl H).upd np) upd_same⟩
    · have e : ¬ m = 0 := fun z => e (by rw [z]; rfl)
      rw [if_neg e] at hQ
      have a0 : 0 ≤ c % 4 := Int.emod_nonneg _ (by decide)
      have a1 : c % 4 < 4 := Int.emod_lt_of_pos _ (by decide)
      refine ⟨_, rfl, _, _, rfl, rfl, (by show (0 : Int) < 4; decide), _, rfl, by omega, by omega, ?_⟩
      refine comp_range1 (τ := [some (.int c), some (.int (m : Int))]) (fun k => .int (mixF c (40 + k) % (m : Int))) (small70 (by omega)) (fun B j H2 hj S Q' hq => ?_) ?_
      · refine ⟨_, rfl, _, rfl, _, _, rfl, rfl, c, _, rfl, by omega, by omega, fun n n0 n1 => ?_⟩
        obtain ⟨n1, rfl⟩ := n1
        refine ⟨_, rfl, _, _, rfl, rfl, (by show (0 : Int) < (m : Int); omega), ?_⟩
        have h := hq H2 (Same.refl _)
        rw [Int.zero_add]
        exact h
      · intro H2 S q nq
        refine hQ q _ (S.free nq) (S.upd nq) ?_
        rw [upd_same, vints, List.map_map]
        rfl
theorem sc_law_beads : FnScope ["cell", "width"] ["cell", "width"] (defScope s_law_beads) := ⟨rfl, rfl, rfl, by decide +kernel, rfl, by decide +kernel, by decide +kernel⟩
set_option maxHeartbeats 4000000 in
theorem ok_law_beads (T : Txt w K mg AR FR) : FnOk P w K mg base CX0 2 AR.f_law_beads FR.d_law_beads ["cell", "width"] (sp_law_beads K) := by
  have G_law_great : FnOk P w K mg base CX0 1 AR.f_law_great FR.d_law_great _ (sp_law_great K) := ok_law_great T
  have G_law_mixed : FnOk P w K mg base CX0 1 AR.f_law_mixed FR.d_law_mixed _ (sp_law_mixed K) := ok_law_mixed T
  refine T.u_law_beads.F.ok sc_law_beads (fun vs H Q E h => ?_) (fun cdv A outer s H vs Q E hr h => ?_)
  · obtain ⟨c, w, rfl, w8, hQ⟩ := h
    rfl
  · obtain ⟨c, w, rfl, w8, hQ⟩ := h
    refine ⟨_, (pss_one (ps_ret (pe_comp (N' := ["b", "cell"]) (nt := 1) (caps := [0]) _ _ (CompScope.of (by kernel_rfl)) (pi_range1 (by rfl) T.z_range (pa_cons (pv 1) pa_nil)) (fun _ => (pg_nameC (i := 0) ["b", "cell"] (by decide +kernel) (by rfl))) (fun _ => pts_nil) (fun _ => (pe_call G_law_great (hr.mono (by decide)) (by rfl) T.u_law_great.m T.u_law_great.F.kp T.u_law_great.b .nil pass0 (pa_cons (pe_call G_law_mixed (hr.mono (by decide)) (by rfl) T.u_law_mixed.m T.u_law_mixed.F.kp T.u_law_mixed.b .nil pass0 (pa_cons (pv 1) (pa_cons (pv 0) pa_nil))) pa_nil)))))), ?_⟩
    try dsimp only [kx1, kx2, kx3, Cx.nox, Cx.wish]
    refine ⟨_, rfl, _, rfl, by omega, by omega, ?_⟩
    rw [Int.toNat_natCast]
    refine comp_range1 (τ := [some (.int c)]) (fun b => .int (greatF (mixF c b))) (small70 (by omega)) (fun B j H2 hj S Q' hq => ?_) ?_
    · refine ⟨_, rfl, _, rfl, c, _, rfl, by omega, by omega, fun n n0 n1 => ?_⟩
      obtain ⟨n1, rfl⟩ := n1
      exact ⟨_, rfl, n0, n1, fun H3 S3 => by have h := hq H3 S3; rw [Int.zero_add]; exact h⟩
    · intro H2 S q nq
      refine hQ q _ (S.free nq) (S.upd nq) ?_
      rw [upd_same, beadsF, vints, List.map_map]
      rfl
theorem sc_law_mark : FnScope ["cell", "width", "mark", "b"] ["cell", "width"] (defScope s_law_mark) := ⟨rfl, rfl, rfl, by decide +kernel, rfl, by decide +kernel, by decide +kernel⟩
set_option maxHeartbeats 4000000 in
theorem ok_law_mark (T : Txt w K mg AR FR) : FnOk P w K mg base CX0 3 AR.f_law_mark FR.d_law_mark ["cell", "width"] (sp_law_mark K) := by
  have G_law_beads : FnOk P w K mg base CX0 2 AR.f_law_beads FR.d_law_beads _ (sp_law_beads K) := ok_law_beads T
  have G_law_mixed : FnOk P w K mg base CX0 1 AR.f_law_mixed FR.d_law_mixed _ (sp_law_mixed K) := ok_law_mixed T
  refine T.u_law_mark.F.ok sc_law_mark (fun vs H Q E h => ?_) (fun cdv A outer s H vs Q E hr h => ?_)
  · obtain ⟨c, w, rfl, w8, hQ⟩ := h
    rfl
  · obtain ⟨c, w, rfl, w8, hQ⟩ := h
    refine ⟨_, (pss_cons (ps_set (i := 2) sc_law_mark.nd rfl (Or.inl rfl) (pe_call G_law_beads (hr.mono (by decide)) (by rfl) T.u_law_beads.m T.u_law_beads.F.kp T.u_law_beads.b .nil pass0 (pa_cons (pv 0) (pa_cons (pv 1) pa_nil))))
      (pss_cons (ps_for PassesOwn.never rfl (pi_range1 (by rfl) T.z_range (pa_cons (pv 1) pa_nil)) (pg_name (i := 3) sc_law_mark.nd (by rfl) (Or.inl rfl))
      (pss_one (ps_if (pt_cmpR op_eq (pe_op op_mod (pe_call G_law_mixed (hr.mono (by decide)) (by rfl) T.u_law_mixed.m T.u_law_mixed.F.kp T.u_law_mixed.b .nil pass0 (pa_cons (pv 0) (pa_cons (pe_op op_add pe_int (pv 3)) pa_nil))) pe_int) pe_int (nomark _)) (pss_one (ps_asg pe_non (pg_sub (pv 2) (pv 3) set_list))) pss_nil)))
      (pss_one (ps_ret (pv 2))))), ?_⟩
    try dsimp only [kx1, kx2, kx3, Cx.nox, Cx.wish]
    refine ⟨_, rfl, _, rfl, c, w, rfl, w8, fun p H1 np S1 hp => ?_⟩
    try dsimp only [gName]
    refine ⟨_, rfl, _, rfl, by omega, by omega, ?_⟩
    rw [Int.toNat_natCast]
    refine for_range (fun i σ H2 => ∃ v, σ = [some (.int c), some (.int (w : Int)), some (.ref p), v] ∧ Same H H2 ∧ H2 p = some (.lst (vmk (markI c w i)))) ⟨none, rfl, S1, by rw [markI_0]; exact hp⟩ ?_ ?_
    · rintro i σ H2 hi ⟨v, rfl, S, h2⟩
      try dsimp only [gName]
      refine ⟨_, rfl, _, rfl, _, _, rfl, rfl, c, _, rfl, by omega, by omega, fun n n0 n1 => ?_⟩
      obtain ⟨n1, rfl⟩ := n1
      refine ⟨_, _, rfl, rfl, (by show (0 : Int) < 3; decide), rfl, _, rfl, ?_⟩
      rw [Int.zero_add]
      have es := markI_s (c := c) hi
      refine iteD (fun e => ?_) (fun e => ?_)
      · have e : mixF c (10 + i) % 3 = 0 := by injection e
        rw [if_pos e] at es
        refine ⟨_, rfl, _, rfl, p, _, _, i, rfl, rfl, h2, by rw [markI_len]; exact ixN_nat hi, ?_⟩
        refine ⟨_, rfl, S.upd' np, ?_⟩
        rw [upd_same, es, vmk_set]
      · have e : ¬ mixF c (10 + i) % 3 = 0 := fun z => e (by show V.int (mixF c (10 + i) % 3) = _; rw [z])
        rw [if_neg e] at es
        exact ⟨_, rfl, S, by rw [es]; exact h2⟩
    · rintro σ H2 ⟨v, rfl, S, h2⟩
      rw [markI_w] at h2
      exact ⟨_, rfl, hQ p H2 S h2⟩
theorem sc_law_set : FnScope ["cell", "width"] ["cell", "width"] (defScope s_law_set) := ⟨rfl, rfl, rfl, by decide +kernel, rfl, by decide +kernel, by decide +kernel⟩
set_option maxHeartbeats 4000000 in
theorem ok_law_set (T : Txt w K mg AR FR) : FnOk P w K mg base CX0 2 AR.f_law_set FR.d_law_set ["cell", "width"] (sp_law_set K) := by
  have G_law_mixed : FnOk P w K mg base CX0 1 AR.f_law_mixed FR.d_law_mixed _ (sp_law_mixed K) := ok_law_mixed T
  refine T.u_law_set.F.ok sc_law_set (fun vs H Q E h => ?_) (fun cdv A outer s H vs Q E hr h => ?_)
  · obtain ⟨c, w, rfl, w8, hQ⟩ := h
    rfl
  · obtain ⟨c, w, rfl, w8, hQ⟩ := h
    refine ⟨_, (pss_one (ps_ret (pe_comp (N' := ["b", "cell"]) (nt := 1) (caps := [0]) _ _ (CompScope.of (by kernel_rfl)) (pi_range1 (by rfl) T.z_range (pa_cons (pv 1) pa_nil)) (fun _ => (pg_nameC (i := 0) ["b", "cell"] (by decide +kernel) (by rfl))) (fun _ => (pts_one (pt_cmpR op_eq (pe_op op_mod (pe_call G_law_mixed (hr.mono (by decide)) (by rfl) T.u_law_mixed.m T.u_law_mixed.F.kp T.u_law_mixed.b .nil pass0 (pa_cons (pv 1) (pa_cons (pe_op op_add pe_int (pv 0)) pa_nil))) pe_int) pe_int (nomark _)))) (fun _ => (pv 0))))), ?_⟩
    try dsimp only [kx1, kx2, kx3, Cx.nox, Cx.wish]
    refine ⟨_, rfl, _, rfl, by omega, by omega, ?_⟩
    rw [Int.toNat_natCast]
    refine comp_rangeF (τ := [some (.int c)]) (fun b => decide (mixF c (30 + b) % 2 = 1)) (by omega) (fun B j H2 hj S Q' hq => ?_) (fun B j H2 hj Q' hq => ⟨_, rfl, hq⟩) ?_
    · refine ⟨_, rfl, _, rfl, _, _, rfl, rfl, c, _, rfl, by omega, by omega, fun n n0 n1 => ?_⟩
      obtain ⟨n1, rfl⟩ := n1
      refine ⟨_, _, rfl, rfl, (by show (0 : Int) < 2; decide), rfl, _, rfl, ?_⟩
      have h := hq H2 (Same.refl _)
      rw [Int.zero_add]
      rw [show decide (V.int (mixF c (30 + j) % 2) = V.int 1) = decide (mixF c (30 + j) % 2 = 1) from decide_eq_decide.mpr ⟨fun h => by injection h, fun h => by rw [h]⟩]
      exact h
    · intro H2 S q nq
      refine hQ q _ (S.upd nq) ?_
      rw [upd_same, setF, zs, vints, List.map_map]
      congr 2
      refine List.map_congr_left fun b _ => ?_
      show V.int (0 + (b : Int)) = V.int (b : Int)
      rw [Int.zero_add]
theorem sc_law_weights : FnScope ["cell", "width"] ["cell", "width"] (defScope s_law_weights) := ⟨rfl, rfl, rfl, by decide +kernel, rfl, by decide +kernel, by decide +kernel⟩
set_option maxHeartbeats 4000000 in
theorem ok_law_weights (T : Txt w K mg AR FR) : FnOk P w K mg base CX0 2 AR.f_law_weights FR.d_law_weights ["cell", "width"] (sp_law_weights K) := by
  have G_law_great : FnOk P w K mg base CX0 1 AR.f_law_great FR.d_law_great _ (sp_law_great K) := ok_law_great T
  have G_law_mixed : FnOk P w K mg base CX0 1 AR.f_law_mixed FR.d_law_mixed _ (sp_law_mixed K) := ok_law_mixed T
  refine T.u_law_weights.F.ok sc_law_weights (fun vs H Q E h => ?_) (fun cdv A outer s H vs Q E hr h => ?_)
  · obtain ⟨c, w, rfl, w8, hQ⟩ := h
    rfl
  · obtain ⟨c, w, rfl, w8, hQ⟩ := h
    refine ⟨_, (pss_one (ps_ret (pe_comp (N' := ["b", "cell"]) (nt := 1) (caps := [0]) _ _ (CompScope.of (by kernel_rfl)) (pi_range1 (by rfl) T.z_range (pa_cons (pv 1) pa_nil)) (fun _ => (pg_nameC (i := 0) ["b", "cell"] (by decide +kernel) (by rfl))) (fun _ => pts_nil) (fun _ => (pe_op op_mul (pe_call G_law_great (hr.mono (by decide)) (by rfl) T.u_law_great.m T.u_law_great.F.kp T.u_law_great.b .nil pass0 (pa_cons (pe_call G_law_mixed (hr.mono (by decide)) (by rfl) T.u_law_mixed.m T.u_law_mixed.F.kp T.u_law_mixed.b .nil pass0 (pa_cons (pv 1) (pa_cons (pv 0) pa_nil))) pa_nil)) (pe_op op_sub pe_int (pe_op op_mul pe_int (pe_op op_mod (pe_call G_law_mixed (hr.mono (by decide)) (by rfl) T.u_law_mixed.m T.u_law_mixed.F.kp T.u_law_mixed.b .nil pass0 (pa_cons (pv 1) (pa_cons (pe_op op_add pe_int (pv 0)) pa_nil))) pe_int)))))))), ?_⟩
    try dsimp only [kx1, kx2, kx3, Cx.nox, Cx.wish]
    refine ⟨_, rfl, _, rfl, by omega, by omega, ?_⟩
    rw [Int.toNat_natCast]
    refine comp_range1 (τ := [some (.int c)]) (fun b => .int (greatF (mixF c b) * (1 - 2 * (mixF c (20 + b) % 2)))) (small70 (by omega)) (fun B j H2 hj S Q' hq => ?_) ?_
    · refine ⟨_, rfl, _, rfl, c, _, rfl, by omega, by omega, fun n n0 n1 => ?_⟩
      obtain ⟨n1, rfl⟩ := n1
      refine ⟨_, rfl, n0, n1, fun H3 S3 => ?_⟩
      refine ⟨_, rfl, _, rfl, _, _, rfl, rfl, c, _, rfl, by omega, by omega, fun n n0 n1 => ?_⟩
      obtain ⟨n1, rfl⟩ := n1
      have a0 : 0 ≤ mixF c (20 + (0 + (j : Int))) % 2 := Int.emod_nonneg _ (by decide)
      have a1 : mixF c (20 + (0 + (j : Int))) % 2 < 2 := Int.emod_lt_of_pos _ (by decide)
      refine ⟨_, _, rfl, rfl, (by show (0 : Int) < 2; decide), _, _, rfl, rfl, .inl ⟨by decide, by decide⟩, _, _, rfl, rfl, _, _, rfl, rfl, .inr ⟨by omega, by omega⟩, ?_⟩
      have h := hq H3 S3
      rw [Int.zero_add]
      exact h
    · intro H2 S q nq
      refine hQ q _ (S.free nq) (S.upd nq) ?_
      rw [upd_same, weightsF, vints, List.map_map]
      rfl
theorem sc_law_part : FnScope ["sort", "cell", "width", "many"] ["sort", "cell", "width", "many"] (defScope s_law_part) := ⟨rfl, rfl, rfl, by decide +kernel, rfl, by decide +kernel, by decide +kernel⟩
set_option maxHeartbeats 4000000 in
theorem ok_law_part (T : Txt w K mg AR FR) : FnOk P w K mg base CX0 4 AR.f_law_part FR.d_law_part ["sort", "cell", "width", "many"] (sp_law_part K) := by
  have G_law_great : FnOk P w K mg base CX0 1 AR.f_law_great FR.d_law_great _ (sp_law_great K) := ok_law_great T
  have G_law_mixed : FnOk P w K mg base CX0 1 AR.f_law_mixed FR.d_law_mixed _ (sp_law_mixed K) := ok_law_mixed T
  have G_law_row : FnOk P w K mg base CX0 2 AR.f_law_row FR.d_law_row _ (sp_law_row K) := ok_law_row T
  have G_law_mark : FnOk P w K mg base CX0 3 AR.f_law_mark FR.d_law_mark _ (sp_law_mark K) := ok_law_mark T
  have G_law_beads : FnOk P w K mg base CX0 2 AR.f_law_beads FR.d_law_beads _ (sp_law_beads K) := ok_law_beads T
  have G_law_set : FnOk P w K mg base CX0 2 AR.f_law_set FR.d_law_set _ (sp_law_set K) := ok_law_set T
  have G_law_weights : FnOk P w K mg base CX0 2 AR.f_law_weights FR.d_law_weights _ (sp_law_weights K) := ok_law_weights T
  refine T.u_law_part.F.ok sc_law_part (fun vs H Q E h => ?_) (fun cdv A outer s H vs Q E hr h => ?_)
  · obtain ⟨s', c, w, m, rfl, s7, w7, m8, hQ⟩ := h
    rfl
  · obtain ⟨s', c, w, m, rfl, s7, w7, m8, hQ⟩ := h
    refine ⟨_, (pss_cons (ps_if (pt_cmpR op_lt (pv 0) pe_int (nomark _)) (pss_one (ps_ret (pe_tup (pa_cons (pe_call G_law_great (hr.mono (by decide)) (by rfl) T.u_law_great.m T.u_law_great.F.kp T.u_law_great.b .nil pass0 (pa_cons (pe_call G_law_mixed (hr.mono (by decide)) (by rfl) T.u_law_mixed.m T.u_law_mixed.F.kp T.u_law_mixed.b .nil pass0 (pa_cons (pv 1) (pa_cons pe_int pa_nil))) pa_nil)) (pa_cons (pe_call G_law_row (hr.mono (by decide)) (by rfl) T.u_law_row.m T.u_law_row.F.kp T.u_law_row.b .nil pass0 (pa_cons (pv 1) (pa_cons (pv 3) pa_nil))) pa_nil))))) pss_nil)
      (pss_cons (ps_if (pt_cmpR op_eq (pv 0) pe_int (nomark _)) (pss_one (ps_ret (pe_tup (pa_cons (pe_op op_mod (pe_call G_law_mixed (hr.mono (by decide)) (by rfl) T.u_law_mixed.m T.u_law_mixed.F.kp T.u_law_mixed.b .nil pass0 (pa_cons (pv 1) (pa_cons pe_int pa_nil))) (pe_callB (call_max2 rfl) (by rfl) T.z_max bt_max (pa_cons pe_int (pa_cons (pv 3) pa_nil)))) (pa_cons (pe_lst (pa_cons (pe_op op_sub (pe_op op_mod (pe_call G_law_mixed (hr.mono (by decide)) (by rfl) T.u_law_mixed.m T.u_law_mixed.F.kp T.u_law_mixed.b .nil pass0 (pa_cons (pv 1) (pa_cons pe_int pa_nil))) pe_int) pe_int) pa_nil)) pa_nil))))) pss_nil)
      (pss_cons (ps_if (pt_cmpR op_eq (pv 0) pe_int (nomark _)) (pss_one (ps_ret (pe_call G_law_mark (hr.mono (by decide)) (by rfl) T.u_law_mark.m T.u_law_mark.F.kp T.u_law_mark.b .nil pass0 (pa_cons (pv 1) (pa_cons (pv 2) pa_nil))))) pss_nil)
      (pss_cons (ps_if (pt_cmpR op_lt (pv 0) pe_int (nomark _)) (pss_one (ps_ret (pe_call G_law_beads (hr.mono (by decide)) (by rfl) T.u_law_beads.m T.u_law_beads.F.kp T.u_law_beads.b .nil pass0 (pa_cons (pv 1) (pa_cons (pv 2) pa_nil))))) pss_nil)
      (pss_cons (ps_if (pt_cmpR op_eq (pe_op op_mod (pv 1) pe_int) pe_int (nomark _)) (pss_one (ps_ret pe_non)) pss_nil)
      (pss_one (ps_ret (pe_ix ix_list (pe_lst (pa_cons (pe_tup (pa_cons pe_str (pa_cons (pe_call G_law_set (hr.mono (by decide)) (by rfl) T.u_law_set.m T.u_law_set.F.kp T.u_law_set.b .nil pass0 (pa_cons (pv 1) (pa_cons (pv 2) pa_nil))) pa_nil))) (pa_cons (pe_tup (pa_cons pe_str (pa_cons (pe_call G_law_weights (hr.mono (by decide)) (by rfl) T.u_law_weights.m T.u_law_weights.F.kp T.u_law_weights.b .nil pass0 (pa_cons (pv 1) (pa_cons (pv 2) pa_nil))) pa_nil))) pa_nil))) (pe_op op_mod (pv 1) pe_int) (fun _ _ => rfl))))))))), ?_⟩
    try dsimp only [kx1, kx2, kx3, Cx.nox, Cx.wish]
    unfold partF at hQ
    refine ⟨_, rfl, _, _, rfl, rfl, _, rfl, ?_⟩
    refine iteD (fun e => ?_) (fun e => ?_)
    · rw [if_pos (by omega)] at hQ
      refine ⟨_, rfl, c, _, rfl, by decide, by decide, fun n n0 n1 => ?_⟩
      obtain ⟨n1, rfl⟩ := n1
      refine ⟨_, rfl, n0, n1, fun H1 S1 => ?_⟩
      refine ⟨_, rfl, _, rfl, c, m, rfl, m8, fun p H2 _ S2 hp => ?_⟩
      refine ⟨by show 2 ≤ sizeLine; decide, fun q nq => ?_⟩
      exact hQ _ _ ((S1.trans S2).upd nq) ⟨q, rfl, p, upd_same, by rw [upd_ne (ne_of_none hp nq)]; exact hp⟩
    rw [if_neg (by omega)] at hQ
    refine ⟨_, rfl, rfl, _, rfl, ?_⟩
    refine iteD (fun e2 => ?_) (fun e2 => ?_)
    · have e2 : s' = 2 := by injection e2 with e2; omega
      rw [if_pos e2] at hQ
      refine ⟨_, rfl, c, _, rfl, by decide, by decide, fun n n0 n1 => ?_⟩
      obtain ⟨n1, rfl⟩ := n1
      refine ⟨_, rfl, 1, _, rfl, ?_⟩
      have em : (if (m : Int) > 1 then (m : Int) else 1) = max 1 (m : Int) := by split <;> omega
      rw [em]
      refine ⟨_, _, rfl, rfl, (by show (0 : Int) < max 1 (m : Int); omega), ?_⟩
      refine ⟨_, rfl, c, _, rfl, by decide, by decide, fun n2 n20 n21 => ?_⟩
      obtain ⟨n21, rfl⟩ := n21
      refine ⟨_, _, rfl, rfl, (by show (0 : Int) < 5; decide), _, _, rfl, rfl, by show 1 ≤ sizeLine; decide, fun p np => ?_⟩
      have U := (Same.refl H).upd np (o := .lst (vints [mixF c 52 % 5 - 1]))
      refine ⟨by show 2 ≤ sizeLine; decide, fun q nq => ?_⟩
      exact hQ _ _ (U.upd nq) ⟨q, rfl, p, upd_same, by rw [upd_ne (ne_of_none upd_same nq)]; exact upd_same⟩
    have e2 : ¬ s' = 2 := fun z => e2 (by rw [z]; rfl)
    rw [if_neg e2] at hQ
    refine ⟨_, rfl, rfl, _, rfl, ?_⟩
    refine iteD (fun e3 => ?_) (fun e3 => ?_)
    · have e3 : s' = 3 := by injection e3 with e3; omega
      rw [if_pos e3] at hQ
      exact ⟨_, rfl, _, rfl, c, w, rfl, by omega, fun p H1 S1 hp => hQ _ H1 S1 ⟨p, rfl, hp⟩⟩
    have e3 : ¬ s' = 3 := fun z => e3 (by rw [z]; rfl)
    rw [if_neg e3] at hQ
    refine ⟨_, rfl, _, _, rfl, rfl, _, rfl, ?_⟩
    refine iteD (fun e => ?_) (fun e => ?_)
    · rw [if_pos (by omega)] at hQ
      exact ⟨_, rfl, _, rfl, c, w, rfl, by omega, fun p H1 np S1 hp => hQ _ H1 S1 ⟨p, rfl, by rw [hp, vmk, List.map_map]; rfl⟩⟩
    rw [if_neg (by omega)] at hQ
    refine ⟨_, rfl, _, _, rfl, rfl, (by show (0 : Int) < 3; decide), rfl, _, rfl, ?_⟩
    refine iteD (fun e => ?_) (fun e => ?_)
    · have e : c % 3 = 0 := by injection e
      rw [if_pos e] at hQ
      exact hQ _ H (Same.refl _) rfl
    have e : ¬ c % 3 = 0 := fun z => e (by show V.int (c % 3) = _; rw [z])
    rw [if_neg e] at hQ
    refine ⟨_, rfl, _, rfl, c, w, rfl, by omega, fun p H1 S1 hp => ?_⟩
    refine ⟨by show 2 ≤ sizeLine; decide, fun q nq => ?_⟩
    have U1 := (Same.refl H1).upd nq (o := .tup [.str "trap", .ref p])
    have g1 := upd_same (H := H1) (a := q) (o := .tup [.str "trap", .ref p])
    generalize upd H1 q (.tup [.str "trap", .ref p]) = H2 at U1 g1 ⊢
    refine ⟨_, rfl, _, rfl, c, w, rfl, by omega, fun p2 H3 _ S3 hp2 => ?_⟩
    refine ⟨by show 2 ≤ sizeLine; decide, fun q2 nq2 => ?_⟩
    have U3 := (Same.refl H3).upd nq2 (o := .tup [.str "weight", .ref p2])
    have g3 := upd_same (H := H3) (a := q2) (o := .tup [.str "weight", .ref p2])
    generalize upd H3 q2 (.tup [.str "weight", .ref p2]) = H4 at U3 g3 ⊢
    refine ⟨by show 2 ≤ sizeLine; decide, fun r nr => ?_⟩
    have U4 := (Same.refl H4).upd nr (o := .lst [.ref q, .ref q2])
    have g4 := upd_same (H := H4) (a := r) (o := .lst [.ref q, .ref q2])
    generalize upd H4 r (.lst [.ref q, .ref q2]) = H5 at U4 g4 ⊢
    refine ⟨_, rfl, _, _, rfl, rfl, (by show (0 : Int) < 2; decide), ?_⟩
    have S5 := (S3.trans U3).trans U4
    have m0 : 0 ≤ c % 2 := Int.emod_nonneg _ (by decide)
    have m1 : c % 2 < 2 := Int.emod_lt_of_pos _ (by decide)
    rcases (show c % 2 = 0 ∨ c % 2 = 1 by omega) with e | e
    · rw [if_pos e] at hQ
      exact ⟨r, _, _, _, rfl, rfl, SqL.of g4, by show atI _ (c % 2) = _; rw [e]; rfl, hQ _ H5 (S1.trans (U1.trans S5)) ⟨q, p, rfl, S5 _ _ g1, S5 _ _ (U1 _ _ hp)⟩⟩
    · rw [if_neg (by omega)] at hQ
      exact ⟨r, _, _, _, rfl, rfl, SqL.of g4, by show atI _ (c % 2) = _; rw [e]; rfl, hQ _ H5 (S1.trans (U1.trans S5)) ⟨q2, p2, rfl, U4 _ _ g3, U4 _ _ (U3 _ _ hp2)⟩⟩
theorem sc_law_bad_bag : FnScope ["cell", "width", "bag"] ["cell", "width"] (defScope s_law_bad_bag) := ⟨rfl, rfl, rfl, by decide +kernel, rfl, by decide +kernel, by decide +kernel⟩
set_option maxHeartbeats 4000000 in
theorem ok_law_bad_bag (T : Txt w K mg AR FR) : FnOk P w K mg base CX0 3 AR.f_law_bad_bag FR.d_law_bad_bag ["cell", "width"] (sp_law_bad_bag K) := by
  have G_law_beads : FnOk P w K mg base CX0 2 AR.f_law_beads FR.d_law_beads _ (sp_law_beads K) := ok_law_beads T
  have G_law_great : FnOk P w K mg base CX0 1 AR.f_law_great FR.d_law_great _ (sp_law_great K) := ok_law_great T
  refine T.u_law_bad_bag.F.ok sc_law_bad_bag (fun vs H Q E h => ?_) (fun cdv A outer s H vs Q E hr h => ?_)
  · obtain ⟨c, w, rfl, c0, c1, w1, w7, hQ⟩ := h
    rfl
  · obtain ⟨c, w, rfl, c0, c1, w1, w7, hQ⟩ := h
    refine ⟨_, (pss_cons (ps_if (pt_cmpR op_eq (pe_op op_mod (pv 0) pe_int) pe_int (nomark _)) (pss_one (ps_ret (pe_call G_law_beads (hr.mono (by decide)) (by rfl) T.u_law_beads.m T.u_law_beads.F.kp T.u_law_beads.b .nil pass0 (pa_cons (pv 0) (pa_cons (pe_op op_sub (pv 1) pe_int) pa_nil))))) pss_nil)
      (pss_cons (ps_if (pt_cmpR op_eq (pe_op op_mod (pv 0) pe_int) pe_int (nomark _)) (pss_one (ps_ret (pe_call G_law_beads (hr.mono (by decide)) (by rfl) T.u_law_beads.m T.u_law_beads.F.kp T.u_law_beads.b .nil pass0 (pa_cons (pv 0) (pa_cons (pe_op op_add (pv 1) pe_int) pa_nil))))) pss_nil)
      (pss_cons (ps_set (i := 2) sc_law_bad_bag.nd rfl (Or.inl rfl) (pe_call G_law_beads (hr.mono (by decide)) (by rfl) T.u_law_beads.m T.u_law_beads.F.kp T.u_law_beads.b .nil pass0 (pa_cons (pv 0) (pa_cons (pv 1) pa_nil))))
      (pss_cons (ps_asg (pe_op op_sub (pe_un un_neg pe_int) (pe_call G_law_great (hr.mono (by decide)) (by rfl) T.u_law_great.m T.u_law_great.F.kp T.u_law_great.b .nil pass0 (pa_cons (pv 0) pa_nil))) (pg_sub (pv 2) (pe_op op_mod (pe_op op_fdiv (pv 0) pe_int) (pv 1)) set_list))
      (pss_one (ps_ret (pv 2))))))), ?_⟩
    try dsimp only [kx1, kx2, kx3, Cx.nox, Cx.wish]
    unfold badBagF at hQ
    refine ⟨_, rfl, _, _, rfl, rfl, (by show (0 : Int) < 3; decide), rfl, _, rfl, ?_⟩
    refine iteD (fun e => ?_) (fun e => ?_)
    · have e : c % 3 = 0 := by injection e
      rw [if_pos e] at hQ
      refine ⟨_, rfl, _, rfl, _, _, rfl, rfl, c, w - 1, ?_, by omega, fun p H1 np S1 hp => hQ p H1 np S1 hp⟩
      rw [show ((w - 1 : Nat) : Int) = (w : Int) - 1 by omega]
      rfl
    have e : ¬ c % 3 = 0 := fun z => e (by show V.int (c % 3) = _; rw [z])
    rw [if_neg e] at hQ
    refine ⟨_, rfl, _, _, rfl, rfl, (by show (0 : Int) < 3; decide), rfl, _, rfl, ?_⟩
    refine iteD (fun e => ?_) (fun e => ?_)
    · have e : c % 3 = 1 := by injection e
      rw [if_pos e] at hQ
      exact ⟨_, rfl, _, rfl, _, _, rfl, rfl, c, w + 1, rfl, by omega, fun p H1 np S1 hp => hQ p H1 np S1 hp⟩
    have e : ¬ c % 3 = 1 := fun z => e (by show V.int (c % 3) = _; rw [z])
    rw [if_neg e] at hQ
    refine ⟨_, rfl, _, rfl, c, w, rfl, by omega, fun p H1 np S1 hp => ?_⟩
    try dsimp only [gName]
    refine ⟨_, rfl, _, rfl, c, rfl, c0, c1, fun H2 S2 => ?_⟩
    refine ⟨_, _, rfl, rfl, ?_⟩
    have a0 : 0 ≤ c / 3 % (w : Int) := Int.emod_nonneg _ (by omega)
    have a1 : c / 3 % (w : Int) < w := Int.emod_lt_of_pos _ (by omega)
    refine ⟨_, rfl, _, rfl, _, _, rfl, rfl, ⟨by decide, by decide⟩, _, rfl, _, _, rfl, rfl, (by show (0 : Int) < (w : Int); omega), ?_⟩
    refine ⟨p, _, _, (c / 3 % (w : Int)).toNat, rfl, rfl, S2 _ _ hp, ?_, ?_⟩
    · rw [ints_len, beads_len]
      show ixN w (c / 3 % (w : Int)) = _
      conv => lhs; rw [← Int.toNat_of_nonneg a0]
      exact ixN_nat (by omega)
    refine ⟨_, rfl, hQ p _ np ((S1.trans S2).upd' np) ?_⟩
    rw [upd_same, vints, vints, List.map_set]
theorem sc_law_bad_set : FnScope ["cell", "width", "bowls", "at"] ["cell", "width"] (defScope s_law_bad_set) := ⟨rfl, rfl, rfl, by decide +kernel, rfl, by decide +kernel, by decide +kernel⟩
set_option maxHeartbeats 4000000 in
theorem ok_law_bad_set (T : Txt w K mg AR FR) : FnOk P w K mg base CX0 3 AR.f_law_bad_set FR.d_law_bad_set ["cell", "width"] (sp_law_bad_set K) := by
  have G_law_set : FnOk P w K mg base CX0 2 AR.f_law_set FR.d_law_set _ (sp_law_set K) := ok_law_set T
  refine T.u_law_bad_set.F.ok sc_law_bad_set (fun vs H Q E h => ?_) (fun cdv A outer s H vs Q E hr h => ?_)
  · obtain ⟨c, w, rfl, c0, w1, w7, hQ⟩ := h
    rfl
  · obtain ⟨c, w, rfl, c0, w1, w7, hQ⟩ := h
    refine ⟨_, (pss_cons (ps_set (i := 2) sc_law_bad_set.nd rfl (Or.inl rfl) (pe_call G_law_set (hr.mono (by decide)) (by rfl) T.u_law_set.m T.u_law_set.F.kp T.u_law_set.b .nil pass0 (pa_cons (pv 0) (pa_cons (pv 1) pa_nil))))
      (pss_cons (ps_if (pt_cmpR op_eq (pe_op op_mod (pv 0) pe_int) pe_int (nomark _)) (pss_one (ps_ret (pe_op op_cat (pv 2) (pe_lst (pa_cons (pe_op op_add (pv 1) (pe_op op_mod (pe_op op_fdiv (pv 0) pe_int) pe_int)) pa_nil))))) pss_nil)
      (pss_cons (ps_if (pt_cmpR op_eq (pe_op op_mod (pv 0) pe_int) pe_int (nomark _)) (pss_one (ps_ret (pe_op op_cat (pe_lst (pa_cons (pe_op op_sub (pe_un un_neg pe_int) (pe_op op_mod (pe_op op_fdiv (pv 0) pe_int) pe_int)) pa_nil)) (pv 2)))) pss_nil)
      (pss_cons (ps_set (i := 3) sc_law_bad_set.nd rfl (Or.inr rfl) (pe_op op_mod (pe_op op_fdiv (pv 0) pe_int) (pv 1)))
      (pss_cons (ps_if (PW.pt (pw_or (pt_cmpR op_eq (pe_op op_mod (pv 0) pe_int) pe_int (nomark _)) (pw_or1 (pt_cmpR op_eq (pv 1) pe_int (nomark _))))) (pss_one (ps_ret (pe_op op_cat (pe_op op_cat (pe_comp (N' := ["b", "at"]) (nt := 1) (caps := [3]) _ _ (CompScope.of (by kernel_rfl)) (pi_list (pv 2)) (fun _ => (pg_nameC (i := 0) ["b", "at"] (by decide +kernel) (by rfl))) (fun _ => (pts_one (pt_cmpR op_lt (pv 0) (pv 1) (nomark _)))) (fun _ => (pv 0))) (pe_lst (pa_cons (pv 3) (pa_cons (pv 3) pa_nil)))) (pe_comp (N' := ["b", "at"]) (nt := 1) (caps := [3]) _ _ (CompScope.of (by kernel_rfl)) (pi_list (pv 2)) (fun _ => (pg_nameC (i := 0) ["b", "at"] (by decide +kernel) (by rfl))) (fun _ => (pts_one (pt_cmpR op_gt (pv 0) (pv 1) (nomark _)))) (fun _ => (pv 0)))))) pss_nil)
      (pss_one (ps_ret (pe_op op_cat (pe_op op_cat (pe_comp (N' := ["b", "at"]) (nt := 1) (caps := [3]) _ _ (CompScope.of (by kernel_rfl)) (pi_range1 (by rfl) T.z_range (pa_cons (pv 1) pa_nil)) (fun _ => (pg_nameC (i := 0) ["b", "at"] (by decide +kernel) (by rfl))) (fun _ => (pts_one (pt_cmpR op_gt (pv 0) (pv 1) (nomark _)))) (fun _ => (pv 0))) (pe_comp (N' := ["b"]) (nt := 1) (caps := []) _ _ (CompScope.of (by kernel_rfl)) (pi_range1 (by rfl) T.z_range (pa_cons (pe_op op_add (pv 3) pe_int) pa_nil)) (fun _ => (pg_nameC (i := 0) ["b"] (by decide +kernel) (by rfl))) (fun _ => pts_nil) (fun _ => (pv 0)))) (pe_lst (pa_cons (pe_op op_mod (pe_op op_fdiv (pv 0) pe_int) (pe_op op_add (pv 3) pe_int)) pa_nil)))))))))), ?_⟩
    try dsimp only [kx1, kx2, kx3, Cx.nox, Cx.wish]
    unfold badSetF at hQ
    have a0 : 0 ≤ c / 4 % (w : Int) := Int.emod_nonneg _ (by omega)
    have a1 : c / 4 % (w : Int) < w := Int.emod_lt_of_pos _ (by omega)
    have sl := set_len c w
    have big : 1000 ≤ sizeLine := by decide
    refine ⟨_, rfl, _, rfl, c, w, rfl, by omega, fun p H1 S1 hp => ?_⟩
    try dsimp only [gName]
    refine ⟨_, rfl, _, _, rfl, rfl, (by show (0 : Int) < 4; decide), rfl, _, rfl, ?_⟩
    refine iteD (fun e => ?_) (fun e => ?_)
    · have e : c % 4 = 0 := by injection e
      rw [if_pos e] at hQ
      refine ⟨_, rfl, _, rfl, _, rfl, _, _, rfl, rfl, ⟨by decide, by decide⟩, _, _, rfl, rfl, (by show (0 : Int) < 3; decide), _, _, rfl, rfl, by show 1 ≤ sizeLine; decide, fun q nq => ?_⟩
      have U := (Same.refl H1).upd nq (o := .lst (vints [(w : Int) + c / 4 % 3]))
      refine ⟨p, q, _, _, rfl, rfl, U _ _ hp, upd_same, ?_, fun r nr => ?_⟩
      · rw [ints_len]
        show (setF c w).length + 1 ≤ sizeLine
        omega
      · refine hQ r _ (S1.free (U.free nr)) (S1.trans (U.upd nr)) ?_
        rw [upd_same, ← vi_app]
        rfl
    have e : ¬ c % 4 = 0 := fun z => e (by show V.int (c % 4) = _; rw [z])
    rw [if_neg e] at hQ
    refine ⟨_, rfl, _, _, rfl, rfl, (by show (0 : Int) < 4; decide), rfl, _, rfl, ?_⟩
    refine iteD (fun e => ?_) (fun e => ?_)
    · have e : c % 4 = 1 := by injection e
      rw [if_pos e] at hQ
      refine ⟨_, rfl, _, rfl, _, _, rfl, rfl, ⟨by decide, by decide⟩, _, _, rfl, rfl, (by show (0 : Int) < 3; decide), _, _, rfl, rfl, by show 1 ≤ sizeLine; decide, fun q nq => ?_⟩
      have U := (Same.refl H1).upd nq (o := .lst (vints [-1 - c / 4 % 3]))
      refine ⟨_, rfl, q, p, _, _, rfl, rfl, upd_same, U _ _ hp, ?_, fun r nr => ?_⟩
      · rw [ints_len]
        show 1 + (setF c w).length ≤ sizeLine
        omega
      · refine hQ r _ (S1.free (U.free nr)) (S1.trans (U.upd nr)) ?_
        rw [upd_same]
        rfl
    have e : ¬ c % 4 = 1 := fun z => e (by show V.int (c % 4) = _; rw [z])
    rw [if_neg e] at hQ
    refine ⟨_, rfl, _, _, rfl, rfl, ⟨by decide, by decide⟩, _, rfl, _, _, rfl, rfl, (by show (0 : Int) < (w : Int); omega), ?_⟩
    try dsimp only [gName]
    have l64 : (setF c w).length < sizeLine := by omega
    generalize ea : c / 4 % (w : Int) = at0 at a0 a1 hQ ⊢
    refine or_b (p := V.int (c % 4) = V.int 2) (q := V.int (w : Int) = V.int 1) (fun K' hk => ⟨_, rfl, _, _, rfl, rfl, (by show (0 : Int) < 4; decide), rfl, _, rfl, hk⟩) (fun K' hk => ⟨_, rfl, rfl, _, rfl, hk⟩) ?_
    have eq : (V.int (c % 4) = V.int 2 ∨ V.int (w : Int) = V.int 1) ↔ (c % 4 = 2 ∨ w = 1) := by
      constructor
      · rintro (h | h)
        · exact .inl (by injection h)
        · exact .inr (by injection h with h; omega)
      · rintro (h | h)
        · exact .inl (by rw [h])
        · exact .inr (by rw [h]; rfl)
    refine iteD (fun e => ?_) (fun e => ?_)
    · rw [if_pos (eq.mp e)] at hQ
      refine ⟨_, rfl, p, rfl, ⟨_, SqL.of hp⟩, ?_⟩
      refine comp_keep (K := K) (τ := [some (.int at0)]) (fun b => decide (b < at0)) (SqL.of hp) l64 (fun B y hy Q' hq => ⟨_, rfl, _, rfl, _, _, rfl, rfl, _, rfl, hq⟩) (fun B y hy Q' hq => ⟨_, rfl, hq⟩) fun q nq => ?_
      have fl := List.length_filter_le (fun b => decide (b < at0)) (setF c w)
      have fl2 := List.length_filter_le (fun b => decide (b > at0)) (setF c w)
      generalize (setF c w).filter (fun b => decide (b < at0)) = A1 at fl hQ ⊢
      have U1 := (Same.refl H1).upd nq (o := .lst (vints A1))
      have g1 := upd_same (H := H1) (a := q) (o := .lst (vints A1))
      generalize upd H1 q (.lst (vints A1)) = H2 at U1 g1 ⊢
      refine ⟨_, rfl, _, rfl, by show 2 ≤ sizeLine; decide, fun q2 nq2 => ?_⟩
      have U2 := (Same.refl H2).upd nq2 (o := .lst (vints [at0, at0]))
      have g2 := upd_same (H := H2) (a := q2) (o := .lst (vints [at0, at0]))
      refine ⟨q, q2, _, _, rfl, rfl, U2 _ _ g1, g2, ?_, fun q3 nq3 => ?_⟩
      · rw [ints_len]
        show A1.length + 2 ≤ sizeLine
        omega
      have U3 := U2.upd nq3 (o := .lst (vints A1 ++ vints [at0, at0]))
      have g3 := upd_same (H := upd H2 q2 (.lst (vints [at0, at0]))) (a := q3) (o := .lst (vints A1 ++ vints [at0, at0]))
      have hp3 := U3 _ _ (U1 _ _ hp)
      have S3 := S1.trans (U1.trans U3)
      rw [show ([V.int at0, V.int at0] : List V) = vints [at0, at0] from rfl]
      rw [vi_app] at U3 g3 hp3 S3 ⊢
      generalize upd (upd H2 q2 (.lst (vints [at0, at0]))) q3 (.lst (vints (A1 ++ [at0, at0]))) = H3 at U3 g3 hp3 S3 ⊢
      refine ⟨_, rfl, p, rfl, ⟨_, SqL.of hp3⟩, ?_⟩
      refine comp_keep (K := K) (τ := [some (.int at0)]) (fun b => decide (b > at0)) (SqL.of hp3) l64 (fun B y hy Q' hq => ⟨_, rfl, _, rfl, _, _, rfl, rfl, _, rfl, hq⟩) (fun B y hy Q' hq => ⟨_, rfl, hq⟩) fun q4 nq4 => ?_
      generalize (setF c w).filter (fun b => decide (b > at0)) = A2 at fl2 hQ ⊢
      have U4 := (Same.refl H3).upd nq4 (o := .lst (vints A2))
      refine ⟨q3, q4, _, _, rfl, rfl, U4 _ _ g3, upd_same, ?_, fun q5 nq5 => ?_⟩
      · rw [ints_len, ints_len, List.length_append]
        show A1.length + 2 + A2.length ≤ sizeLine
        omega
      · refine hQ q5 _ (S3.free (U4.free nq5)) (S3.trans (U4.upd nq5)) ?_
        rw [upd_same, vi_app]
    · rw [if_neg (fun z => e (eq.mpr z))] at hQ
      refine ⟨_, rfl, _, rfl, by omega, by omega, ?_⟩
      rw [Int.toNat_natCast]
      refine comp_rangeF (τ := [some (.int at0)]) (fun b => decide ((b : Int) > at0)) (by omega) (fun B j H2 hj S Q' hq => ?_) (fun B j H2 hj Q' hq => ⟨_, rfl, hq⟩) fun H2 S2 q nq => ?_
      · refine ⟨_, rfl, _, rfl, _, _, rfl, rfl, _, rfl, ?_⟩
        rw [Int.zero_add]
        exact hq H2 (Same.refl _)
      have ez : ((List.range w).filter fun (b : Nat) => decide ((b : Int) > at0)).map (fun (i : Nat) => V.int (0 + (i : Int))) = vints ((zs (List.range w)).filter fun b => decide (b > at0)) := by
        unfold zs vints
        rw [List.filter_map, List.map_map]
        refine List.map_congr_left fun b _ => ?_
        show V.int (0 + (b : Int)) = V.int (b : Int)
        rw [Int.zero_add]
      rw [ez]
      have fl := List.length_filter_le (fun b => decide (b > at0)) (zs (List.range w))
      rw [zs_len, List.length_range] at fl
      generalize (zs (List.range w)).filter (fun b => decide (b > at0)) = A1 at fl hQ ⊢
      have U2 := S2.upd nq (o := .lst (vints A1))
      have g2 := upd_same (H := H2) (a := q) (o := .lst (vints A1))
      generalize upd H2 q (.lst (vints A1)) = H3 at U2 g2 ⊢
      refine ⟨_, rfl, _, _, rfl, rfl, _, rfl, by omega, by omega, ?_⟩
      refine comp_range1 (τ := []) (fun b => .int (b : Int)) (small70 (by omega)) (fun B j H4 hj S Q' hq => ⟨_, rfl, by rw [Int.zero_add]; exact hq H4 (Same.refl _)⟩) fun H4 S4 q2 nq2 => ?_
      rw [show ((List.range (at0 + 1).toNat).map fun (b : Nat) => V.int (b : Int)) = vints (zs (List.range (at0 + 1).toNat)) by unfold zs vints; rw [List.map_map]; rfl]
      have ln : (zs (List.range (at0 + 1).toNat)).length ≤ 8 := by rw [zs_len, List.length_range]; omega
      generalize zs (List.range (at0 + 1).toNat) = A2 at ln hQ ⊢
      have U4 := S4.upd nq2 (o := .lst (vints A2))
      have g4 := upd_same (H := H4) (a := q2) (o := .lst (vints A2))
      generalize upd H4 q2 (.lst (vints A2)) = H5 at U4 g4 ⊢
      refine ⟨q, q2, _, _, rfl, rfl, U4 _ _ g2, g4, by rw [ints_len, ints_len]; omega, fun q3 nq3 => ?_⟩
      rw [vi_app]
      have U5 := (Same.refl H5).upd nq3 (o := .lst (vints (A1 ++ A2)))
      have g5 := upd_same (H := H5) (a := q3) (o := .lst (vints (A1 ++ A2)))
      generalize upd H5 q3 (.lst (vints (A1 ++ A2))) = H6 at U5 g5 ⊢
      refine ⟨_, rfl, _, _, rfl, rfl, ⟨by decide, by decide⟩, _, rfl, _, _, rfl, rfl, _, _, rfl, rfl, (by show (0 : Int) < at0 + 1; omega), by show 1 ≤ sizeLine; decide, fun q4 nq4 => ?_⟩
      have U6 := (Same.refl H6).upd nq4 (o := .lst (vints [c / 64 % (at0 + 1)]))
      refine ⟨q3, q4, _, _, rfl, rfl, U6 _ _ g5, upd_same, ?_, fun q5 nq5 => ?_⟩
      · rw [ints_len, List.length_append]
        show A1.length + A2.length + 1 ≤ sizeLine
        omega
      · refine hQ q5 _ (S1.free (U2.free (U4.free (U5.free (U6.free nq5))))) (S1.trans (U2.trans (U4.trans (U5.trans (U6.upd nq5))))) ?_
        rw [upd_same, ← vi_app (A1 ++ A2)]
        rfl
theorem sc_law_bad_part : FnScope ["sort", "cell", "width", "many", "stray", "row", "at", "bad"] ["sort", "cell", "width", "many"] (defScope s_law_bad_part) := ⟨rfl, rfl, rfl, by decide +kernel, rfl, by decide +kernel, by decide +kernel⟩
set_option maxHeartbeats 4000000 in
theorem ok_law_bad_part (T : Txt w K mg AR FR) : FnOk P w K mg base CX0 4 AR.f_law_bad_part FR.d_law_bad_part ["sort", "cell", "width", "many"] (sp_law_bad_part K) := by
  have G_law_row : FnOk P w K mg base CX0 2 AR.f_law_row FR.d_law_row _ (sp_law_row K) := ok_law_row T
  have G_law_bad_bag : FnOk P w K mg base CX0 3 AR.f_law_bad_bag FR.d_law_bad_bag _ (sp_law_bad_bag K) := ok_law_bad_bag T
  have G_law_weights : FnOk P w K mg base CX0 2 AR.f_law_weights FR.d_law_weights _ (sp_law_weights K) := ok_law_weights T
  have G_law_bad_set : FnOk P w K mg base CX0 3 AR.f_law_bad_set FR.d_law_bad_set _ (sp_law_bad_set K) := ok_law_bad_set T
  refine T.u_law_bad_part.F.ok sc_law_bad_part (fun vs H Q E h => ?_) (fun cdv A outer s H vs Q E hr h => ?_)
  · obtain ⟨s', c, w, m, rfl, s7, c0, c1, w1, w7, m8, hQ⟩ := h
    rfl
  · obtain ⟨s', c, w, m, rfl, s7, c0, c1, w1, w7, m8, hQ⟩ := h
    refine ⟨_, (pss_cons (ps_set (i := 4) sc_law_bad_part.nd rfl (Or.inl rfl) (pe_ix ix_list (pe_lst (pa_cons (pe_op op_add (pv 3) (pe_op op_mod (pe_op op_fdiv (pv 1) pe_int) pe_int)) (pa_cons (pe_op op_sub (pe_un un_neg pe_int) (pe_op op_mod (pe_op op_fdiv (pv 1) pe_int) pe_int)) pa_nil))) (pe_op op_mod (pe_op op_fdiv (pv 1) pe_int) pe_int) (fun _ _ => rfl)))
      (pss_cons (ps_if (pt_cmpR op_lt (pv 0) pe_int (nomark _)) (pss_cons (ps_set (i := 5) sc_law_bad_part.nd rfl (Or.inl rfl) (pe_call G_law_row (hr.mono (by decide)) (by rfl) T.u_law_row.m T.u_law_row.F.kp T.u_law_row.b .nil pass0 (pa_cons (pe_op op_fdiv (pv 1) pe_int) (pa_cons (pv 3) pa_nil))))
      (pss_cons (ps_set (i := 6) sc_law_bad_part.nd rfl (Or.inl rfl) (pe_op op_mod (pe_op op_fdiv (pv 1) pe_int) (pe_op op_add (pe_callB call_len_seq (by rfl) T.z_len bt_len (pa_cons (pv 5) pa_nil)) pe_int)))
      (pss_one (ps_ret (pe_ix ix_list (pe_lst (pa_cons (pe_tup (pa_cons (pe_op op_sub (pe_un un_neg pe_int) (pe_op op_fdiv (pv 1) pe_int)) (pa_cons (pv 5) pa_nil))) (pa_cons (pe_tup (pa_cons (pe_op op_add pe_int (pe_op op_mod (pe_op op_fdiv (pv 1) pe_int) pe_int)) (pa_cons (pe_op op_cat (pe_op op_cat (pe_slice sl_list (pv 5) po_none (po_some (pv 6))) (pe_lst (pa_cons (pv 4) pa_nil))) (pe_slice sl_list (pv 5) (po_some (pv 6)) po_none)) pa_nil))) pa_nil))) (pe_op op_mod (pv 1) pe_int) (fun _ _ => rfl)))))) pss_nil)
      (pss_cons (ps_if (pt_cmpR op_eq (pv 0) pe_int (nomark _)) (pss_one (ps_ret (pe_tup (pa_cons (pv 4) (pa_cons (pe_lst pa_nil) pa_nil))))) pss_nil)
      (pss_cons (ps_if (pt_cmpR op_lt (pv 0) pe_int (nomark _)) (pss_one (ps_ret (pe_call G_law_bad_bag (hr.mono (by decide)) (by rfl) T.u_law_bad_bag.m T.u_law_bad_bag.F.kp T.u_law_bad_bag.b .nil pass0 (pa_cons (pv 1) (pa_cons (pv 2) pa_nil))))) pss_nil)
      (pss_cons (ps_set (i := 7) sc_law_bad_part.nd rfl (Or.inl rfl) (pe_ix ix_list (pe_lst (pa_cons (pe_call G_law_weights (hr.mono (by decide)) (by rfl) T.u_law_weights.m T.u_law_weights.F.kp T.u_law_weights.b .nil pass0 (pa_cons (pv 1) (pa_cons (pe_op op_add (pv 2) pe_int) pa_nil))) (pa_cons (pe_call G_law_weights (hr.mono (by decide)) (by rfl) T.u_law_weights.m T.u_law_weights.F.kp T.u_law_weights.b .nil pass0 (pa_cons (pv 1) (pa_cons (pe_op op_sub (pv 2) pe_int) pa_nil))) pa_nil))) (pe_op op_mod (pe_op op_fdiv (pv 1) pe_int) pe_int) (fun _ _ => rfl)))
      (pss_one (ps_ret (pe_ix ix_list (pe_lst (pa_cons (pe_tup (pa_cons pe_str (pa_cons (pe_call G_law_bad_set (hr.mono (by decide)) (by rfl) T.u_law_bad_set.m T.u_law_bad_set.F.kp T.u_law_bad_set.b .nil pass0 (pa_cons (pe_op op_fdiv (pv 1) pe_int) (pa_cons (pv 2) pa_nil))) pa_nil))) (pa_cons (pe_tup (pa_cons pe_str (pa_cons (pv 7) pa_nil))) pa_nil))) (pe_op op_mod (pv 1) pe_int) (fun _ _ => rfl))))))))), ?_⟩
    try dsimp only [kx1, kx2, kx3, Cx.nox, Cx.wish]
    have st0 : 0 ≤ c / 4 % 2 := Int.emod_nonneg _ (by decide)
    have st1 : c / 4 % 2 < 2 := Int.emod_lt_of_pos _ (by decide)
    have m0 : 0 ≤ c % 2 := Int.emod_nonneg _ (by decide)
    have m1 : c % 2 < 2 := Int.emod_lt_of_pos _ (by decide)
    unfold badF at hQ
    have d8 : 0 < (8 : Int) ∧ (8 : Int) < 1073741824 := by decide
    refine ⟨_, rfl, _, rfl, _, _, rfl, rfl, d8, _, _, rfl, rfl, (by show (0 : Int) < 3; decide), _, _, rfl, rfl, ?_⟩
    refine ⟨1, rfl, _, rfl, _, _, rfl, rfl, d8, _, _, rfl, rfl, (by show (0 : Int) < 3; decide), _, _, rfl, rfl, by show 2 ≤ sizeLine; decide, fun q nq => ?_⟩
    refine ⟨_, rfl, _, _, rfl, rfl, ⟨by decide, by decide⟩, _, _, rfl, rfl, (by show (0 : Int) < 2; decide), ?_⟩
    have U1 := (Same.refl H).upd nq (o := .lst [.int ((m : Int) + c / 8 % 3), .int (-1 - c / 8 % 3)])
    have g1 := upd_same (H := H) (a := q) (o := .lst [.int ((m : Int) + c / 8 % 3), .int (-1 - c / 8 % 3)])
    have at1 : atI [V.int ((m : Int) + c / 8 % 3), .int (-1 - c / 8 % 3)] (c / 4 % 2) = some (.int (strayF c m)) := by
      unfold strayF
      rcases (show c / 4 % 2 = 0 ∨ c / 4 % 2 = 1 by omega) with e | e
      · rw [e, if_pos rfl]; rfl
      · rw [e, if_neg (by decide)]; rfl
    refine ⟨q, _, _, _, rfl, rfl, SqL.of g1, at1, ?_⟩
    try dsimp only [gName]
    generalize upd H q (.lst [.int ((m : Int) + c / 8 % 3), .int (-1 - c / 8 % 3)]) = H1 at U1 g1 ⊢
    refine ⟨_, rfl, _, _, rfl, rfl, _, rfl, ?_⟩
    refine iteD (fun e => ?_) (fun e => ?_)
    · rw [if_pos (by omega)] at hQ
      have rl := row_len (c / 16) m
      refine ⟨_, rfl, _, _, rfl, rfl, ⟨by decide, by decide⟩, _, rfl, c / 16, m, rfl, m8, fun p H2 np S2 hp => ?_⟩
      try dsimp only [gName]
      have np0 := U1.free np
      generalize rowF (c / 16) m = row at rl hp hQ
      have a0 : 0 ≤ c / 64 % ((row.length : Int) + 1) := Int.emod_nonneg _ (by omega)
      have a1 : c / 64 % ((row.length : Int) + 1) < (row.length : Int) + 1 := Int.emod_lt_of_pos _ (by omega)
      refine ⟨_, rfl, _, _, rfl, rfl, ⟨by decide, by decide⟩, _, rfl, p, _, rfl, .inl (SqL.of hp), _, _, rfl, rfl, ?_⟩
      rw [ints_len]
      refine ⟨_, _, rfl, rfl, (by show (0 : Int) < (row.length : Int) + 1; omega), ?_⟩
      try dsimp only [gName]
      refine ⟨1, rfl, _, rfl, _, _, rfl, rfl, d8, _, _, rfl, rfl, _, rfl, by show 2 ≤ sizeLine; decide, fun q1 nq1 => ?_⟩
      have U2 := (Same.refl H2).upd nq1 (o := .tup [.int (-1 - c / 8), .ref p])
      have g2 := upd_same (H := H2) (a := q1) (o := .tup [.int (-1 - c / 8), .ref p])
      generalize upd H2 q1 (.tup [.int (-1 - c / 8), .ref p]) = H3 at U2 g2 ⊢
      have hp3 := U2 _ _ hp
      generalize ek : c / 64 % ((row.length : Int) + 1) = k at a0 a1 hQ
      obtain ⟨kn, rfl⟩ := Int.eq_ofNat_of_zero_le a0
      refine ⟨_, rfl, _, _, rfl, rfl, d8, _, _, rfl, rfl, (by show (0 : Int) < 2; decide), _, _, rfl, rfl, ?_⟩
      refine ⟨_, rfl, _, rfl, _, rfl, p, _, rfl, SqL.of hp3, fun q2 nq2 => ?_⟩
      have hk : kn ≤ row.length := by omega
      have U3 := (Same.refl H3).upd nq2 (o := .lst (vints (row.take kn)))
      have g3 := upd_same (H := H3) (a := q2) (o := .lst (vints (row.take kn)))
      rw [cut_take, show (vints row).take kn = vints (row.take kn) by rw [vints, vints, List.map_take]]
      generalize upd H3 q2 (.lst (vints (row.take kn))) = H4 at U3 g3 ⊢
      refine ⟨_, rfl, by show 1 ≤ sizeLine; decide, fun q3 nq3 => ?_⟩
      have U4 := (Same.refl H4).upd nq3 (o := .lst (vints [strayF c m]))
      have g4 := upd_same (H := H4) (a := q3) (o := .lst (vints [strayF c m]))
      refine ⟨q2, q3, _, _, rfl, rfl, U4 _ _ g3, g4, ?_, fun q4 nq4 => ?_⟩
      · rw [ints_len, List.length_take]
        show min kn row.length + 1 ≤ sizeLine
        have : 1000 ≤ sizeLine := by decide
        omega
      have U5 := U4.upd nq4 (o := .lst (vints (row.take kn ++ [strayF c m])))
      have g5 := upd_same (H := upd H4 q3 (.lst (vints [strayF c m]))) (a := q4) (o := .lst (vints (row.take kn ++ [strayF c m])))
      rw [show ([V.int (strayF c m)] : List V) = vints [strayF c m] from rfl, vi_app]
      generalize upd (upd H4 q3 (.lst (vints [strayF c m]))) q4 (.lst (vints (row.take kn ++ [strayF c m]))) = H5 at U5 g5 ⊢
      have hp5 := U5 _ _ (U3 _ _ hp3)
      refine ⟨_, rfl, _, rfl, _, rfl, p, _, rfl, SqL.of hp5, fun q5 nq5 => ?_⟩
      rw [cut_fromI, show (vints row).drop kn = vints (row.drop kn) by rw [vints, vints, List.map_drop]]
      have U6 := (Same.refl H5).upd nq5 (o := .lst (vints (row.drop kn)))
      refine ⟨q4, q5, _, _, rfl, rfl, U6 _ _ g5, upd_same, ?_, fun q6 nq6 => ?_⟩
      · rw [ints_len, ints_len, List.length_append, List.length_take, List.length_drop]
        show min kn row.length + 1 + (row.length - kn) ≤ sizeLine
        have : 1000 ≤ sizeLine := by decide
        omega
      have U7 := U6.upd nq6 (o := .lst (vints (insAt row kn (strayF c m))))
      have g7 := upd_same (H := upd H5 q5 (.lst (vints (row.drop kn)))) (a := q6) (o := .lst (vints (insAt row kn (strayF c m))))
      rw [vi_app, show row.take kn ++ [strayF c m] ++ row.drop kn = insAt row kn (strayF c m) by unfold insAt; rw [List.append_assoc]; rfl]
      generalize upd (upd H5 q5 (.lst (vints (row.drop kn)))) q6 (.lst (vints (insAt row kn (strayF c m)))) = H6 at U7 g7 ⊢
      refine ⟨by show 2 ≤ sizeLine; decide, fun q7 nq7 => ?_⟩
      have U8 := (Same.refl H6).upd nq7 (o := .tup [.int (1 + c / 8 % 2), .ref q6])
      have g8 := upd_same (H := H6) (a := q7) (o := .tup [.int (1 + c / 8 % 2), .ref q6])
      generalize upd H6 q7 (.tup [.int (1 + c / 8 % 2), .ref q6]) = H7 at U8 g8 ⊢
      refine ⟨by show 2 ≤ sizeLine; decide, fun q8 nq8 => ?_⟩
      have U9 := (Same.refl H7).upd nq8 (o := .lst [.ref q1, .ref q7])
      have g9 := upd_same (H := H7) (a := q8) (o := .lst [.ref q1, .ref q7])
      generalize upd H7 q8 (.lst [.ref q1, .ref q7]) = H8 at U9 g9 ⊢
      refine ⟨_, rfl, _, _, rfl, rfl, (by show (0 : Int) < 2; decide), ?_⟩
      have S38 := U3.trans (U5.trans (U7.trans (U8.trans U9)))
      have S08 := U1.trans (S2.trans (U2.trans S38))
      rcases (show c % 2 = 0 ∨ c % 2 = 1 by omega) with e | e
      · rw [if_pos e] at hQ
        exact ⟨q8, _, _, _, rfl, rfl, SqL.of g9, by show atI _ (c % 2) = _; rw [e]; rfl, hQ _ H8 S08 ⟨q1, p, rfl, U1.free (S2.free nq1), np0, S38 _ _ g2, S38 _ _ hp3⟩⟩
      · rw [if_neg (by omega)] at hQ
        exact ⟨q8, _, _, _, rfl, rfl, SqL.of g9, by show atI _ (c % 2) = _; rw [e]; rfl, hQ _ H8 S08 ⟨q7, q6, rfl, U1.free (S2.free (U2.free (U3.free (U5.free (U7.free nq7))))), U1.free (S2.free (U2.free (U3.free (U5.free (U6.free nq6))))), U9 _ _ g8, U9 _ _ (U8 _ _ g7)⟩⟩
    rw [if_neg (by omega)] at hQ
    refine ⟨_, rfl, rfl, _, rfl, ?_⟩
    refine iteD (fun e2 => ?_) (fun e2 => ?_)
    · have e2 : s' = 2 := by injection e2 with e2; omega
      rw [if_pos e2] at hQ
      refine ⟨_, rfl, by decide, fun p np => ⟨by show 2 ≤ sizeLine; decide, fun q2 nq2 => ?_⟩⟩
      have U2 := U1.upd np (o := .lst (vints []))
      exact hQ _ _ (U2.upd nq2) ⟨q2, p, rfl, U2.free nq2, U1.free np, upd_same, by rw [upd_ne (ne_of_none upd_same nq2)]; exact upd_same⟩
    have e2 : ¬ s' = 2 := fun z => e2 (by rw [z]; rfl)
    rw [if_neg e2] at hQ
    refine ⟨_, rfl, _, _, rfl, rfl, _, rfl, ?_⟩
    refine iteD (fun e => ?_) (fun e => ?_)
    · rw [if_pos (by omega)] at hQ
      exact ⟨_, rfl, _, rfl, c, w, rfl, c0, c1, w1, w7, fun p H2 np S2 hp => hQ _ H2 (U1.trans S2) ⟨p, rfl, U1.free np, by rw [hp, vmk, List.map_map]; rfl⟩⟩
    rw [if_neg (by omega)] at hQ
    refine ⟨_, rfl, _, rfl, _, _, rfl, rfl, c, w + 1, rfl, by omega, fun p H2 np S2 hp => ?_⟩
    refine ⟨_, rfl, _, rfl, _, _, rfl, rfl, c, w - 1, ?_, by omega, fun p2 H3 np2 S3 hp2 => ?_⟩
    · rw [show ((w - 1 : Nat) : Int) = (w : Int) - 1 by omega]
      rfl
    refine ⟨by show 2 ≤ sizeLine; decide, fun q2 nq2 => ?_⟩
    have U3 := (Same.refl H3).upd nq2 (o := .lst [.ref p, .ref p2])
    have g3 := upd_same (H := H3) (a := q2) (o := .lst [.ref p, .ref p2])
    generalize upd H3 q2 (.lst [.ref p, .ref p2]) = H4 at U3 g3 ⊢
    have h0 : 0 ≤ c / 2 % 2 := Int.emod_nonneg _ (by decide)
    have h1 : c / 2 % 2 < 2 := Int.emod_lt_of_pos _ (by decide)
    obtain ⟨pb, ab, nb, hb⟩ : ∃ pb, atI [V.ref p, .ref p2] (c / 2 % 2) = some (.ref pb) ∧ H pb = none ∧ H4 pb = some (.lst (vints (weightsF c (if c / 2 % 2 = 0 then w + 1 else w - 1)))) := by
      rcases (show c / 2 % 2 = 0 ∨ c / 2 % 2 = 1 by omega) with e | e
      · rw [e, if_pos rfl]; exact ⟨p, rfl, U1.free np, U3 _ _ (S3 _ _ hp)⟩
      · rw [e, if_neg (by decide)]; exact ⟨p2, rfl, U1.free (S2.free np2), U3 _ _ hp2⟩
    refine ⟨_, rfl, _, _, rfl, rfl, ⟨by decide, by decide⟩, _, _, rfl, rfl, (by show (0 : Int) < 2; decide), q2, _, _, _, rfl, rfl, SqL.of g3, ab, ?_⟩
    try dsimp only [gName]
    have S4 := U1.trans (S2.trans (S3.trans U3))
    refine ⟨_, rfl, _, _, rfl, rfl, ⟨by decide, by decide⟩, _, rfl, c / 2, w, rfl, Int.ediv_nonneg c0 (by decide), w1, w7, fun p4 H5 np4 S5 hp4 => ?_⟩
    refine ⟨by show 2 ≤ sizeLine; decide, fun q5 nq5 => ?_⟩
    have U5 := (Same.refl H5).upd nq5 (o := .tup [.str "trap", .ref p4])
    have g5 := upd_same (H := H5) (a := q5) (o := .tup [.str "trap", .ref p4])
    generalize upd H5 q5 (.tup [.str "trap", .ref p4]) = H6 at U5 g5 ⊢
    refine ⟨_, rfl, by show 2 ≤ sizeLine; decide, fun q6 nq6 => ?_⟩
    have U6 := (Same.refl H6).upd nq6 (o := .tup [.str "weight", .ref pb])
    have g6 := upd_same (H := H6) (a := q6) (o := .tup [.str "weight", .ref pb])
    generalize upd H6 q6 (.tup [.str "weight", .ref pb]) = H7 at U6 g6 ⊢
    refine ⟨by show 2 ≤ sizeLine; decide, fun q7 nq7 => ?_⟩
    have U7 := (Same.refl H7).upd nq7 (o := .lst [.ref q5, .ref q6])
    have g7 := upd_same (H := H7) (a := q7) (o := .lst [.ref q5, .ref q6])
    generalize upd H7 q7 (.lst [.ref q5, .ref q6]) = H8 at U7 g7 ⊢
    refine ⟨_, rfl, _, _, rfl, rfl, (by show (0 : Int) < 2; decide), ?_⟩
    have S8 := U6.trans U7
    have S08 := S4.trans (S5.trans (U5.trans S8))
    rcases (show c % 2 = 0 ∨ c % 2 = 1 by omega) with e | e
    · rw [if_pos e] at hQ
      exact ⟨q7, _, _, _, rfl, rfl, SqL.of g7, by show atI _ (c % 2) = _; rw [e]; rfl, hQ _ H8 S08 ⟨q5, p4, rfl, S4.free (S5.free nq5), S4.free np4, S8 _ _ g5, S8 _ _ (U5 _ _ hp4)⟩⟩
    · rw [if_neg (by omega)] at hQ
      exact ⟨q7, _, _, _, rfl, rfl, SqL.of g7, by show atI _ (c % 2) = _; rw [e]; rfl, hQ _ H8 S08 ⟨q6, pb, rfl, S4.free (S5.free (U5.free nq6)), nb, U7 _ _ g6, S8 _ _ (U5 _ _ (S5 _ _ hb))⟩⟩
theorem sc_law_parts_by : FnScope ["sort", "cell", "width", "many", "bad", "row", "at"] ["sort", "cell", "width", "many", "bad"] (defScope s_law_parts_by) := ⟨rfl, rfl, rfl, by decide +kernel, rfl, by decide +kernel, by decide +kernel⟩
set_option maxHeartbeats 4000000 in
theorem ok_law_parts_by (T : Txt w K mg AR FR) : FnOk P w K mg base CX0 5 AR.f_law_parts_by FR.d_law_parts_by ["sort", "cell", "width", "many", "bad"] (sp_law_parts_by K) := by
  have G_law_part : FnOk P w K mg base CX0 4 AR.f_law_part FR.d_law_part _ (sp_law_part K) := ok_law_part T
  have G_law_mixed : FnOk P w K mg base CX0 1 AR.f_law_mixed FR.d_law_mixed _ (sp_law_mixed K) := ok_law_mixed T
  have G_law_bad_part : FnOk P w K mg base CX0 4 AR.f_law_bad_part FR.d_law_bad_part _ (sp_law_bad_part K) := ok_law_bad_part T
  refine T.u_law_parts_by.F.ok sc_law_parts_by (fun vs H Q E h => ?_) (fun cdv A outer s H vs Q E hr h => ?_)
  · obtain ⟨s', c, w, m, bad, rfl, s7, c0, w1, w7, m8, hQ⟩ := h
    rfl
  · obtain ⟨s', c, w, m, bad, rfl, s7, c0, w1, w7, m8, hQ⟩ := h
    refine ⟨_, (pss_cons (ps_setComp (i := 5) (N' := ["k", "sort", "cell", "width", "many"]) (nt := 1) (caps := [0, 1, 2, 3]) _ _ (CompScope.of (by kernel_rfl)) sc_law_parts_by.nd rfl rfl (pi_range1 (by rfl) T.z_range (pa_cons (pe_op op_mod (pv 1) pe_int) pa_nil)) (fun _ => (pg_nameC (i := 0) ["k", "sort", "cell", "width", "many"] (by decide +kernel) (by rfl))) (fun _ => pts_nil) (fun _ => (pe_call G_law_part (hr.mono (by decide)) (by rfl) T.u_law_part.m T.u_law_part.F.kp T.u_law_part.b .nil pass0 (pa_cons (pv 1) (pa_cons (pe_call G_law_mixed (hr.mono (by decide)) (by rfl) T.u_law_mixed.m T.u_law_mixed.F.kp T.u_law_mixed.b .nil pass0 (pa_cons (pv 2) (pa_cons (pe_op op_add pe_int (pv 0)) pa_nil))) (pa_cons (pv 3) (pa_cons (pv 4) pa_nil)))))))
      (pss_cons (ps_if (PW.pt (pw_and (pt_cmpR op_eq (pv 0) pe_int (nomark _)) (pw_and1 (pt_cmpR op_eq (pv 3) pe_int (nomark _))))) (pss_one (ps_set (i := 5) sc_law_parts_by.nd rfl (Or.inl rfl) (pe_lst pa_nil))) pss_nil)
      (pss_cons (ps_if (pt_val (pv 4)) (pss_cons (ps_set (i := 6) sc_law_parts_by.nd rfl (Or.inl rfl) (pe_op op_mod (pe_op op_fdiv (pv 1) pe_int) (pe_op op_add (pe_callB call_len_seq (by rfl) T.z_len bt_len (pa_cons (pv 5) pa_nil)) pe_int)))
      (pss_one (ps_expr (pe_bm PySem.F.plainAttrs_list PySem.F.slot_list_insert PySem.F.type_list_insert mt_insert (pv 5) (pa_cons (pv 6) (pa_cons (pe_call G_law_bad_part (hr.mono (by decide)) (by rfl) T.u_law_bad_part.m T.u_law_bad_part.F.kp T.u_law_bad_part.b .nil pass0 (pa_cons (pv 0) (pa_cons (pe_call G_law_mixed (hr.mono (by decide)) (by rfl) T.u_law_mixed.m T.u_law_mixed.F.kp T.u_law_mixed.b .nil pass0 (pa_cons (pv 1) (pa_cons pe_int pa_nil))) (pa_cons (pv 2) (pa_cons (pv 3) pa_nil))))) pa_nil)))))) pss_nil)
      (pss_one (ps_ret (pv 5)))))), ?_⟩
    try dsimp only [kx1, kx2, kx3, Cx.nox, Cx.wish]
    have a0 : 0 ≤ c % 4 := Int.emod_nonneg _ (by decide)
    have a1 : c % 4 < 4 := Int.emod_lt_of_pos _ (by decide)
    refine ⟨_, rfl, _, _, rfl, rfl, (by show (0 : Int) < 4; decide), _, rfl, by omega, by omega, ?_⟩
    refine comp_rangeP (g := fun _ => gName 0) (tt := fun _ => tTrue) (fun i ys σ H2 => (∃ v, σ = [v, some (.int (s' : Int)), some (.int c), some (.int (w : Int)), some (.int (m : Int))]) ∧ Same H H2 ∧ ys.length = i ∧ Paired (PartIn H2) ys ((List.range i).map fun (k : Nat) => partF s' (mixF c (60 + k)) w m)) ⟨⟨none, rfl⟩, Same.refl _, rfl, .nil⟩ ?_ ?_ ?_
    · rintro i ys σ H2 hi ⟨_, S, e, _⟩
      rw [e]
      exact small70 (by omega)
    · rintro B i ys σ H2 hi ⟨⟨v, rfl⟩, S, e, R⟩
      try dsimp only [gName, tTrue]
      rw [if_pos rfl]
      refine ⟨_, rfl, _, rfl, _, rfl, _, _, rfl, rfl, c, _, rfl, by omega, by omega, fun n n0 n1 => ?_⟩
      obtain ⟨n1, rfl⟩ := n1
      refine ⟨_, rfl, _, rfl, s', _, w, m, rfl, s7, w7, m8, fun v H3 S3 hv => ⟨⟨_, rfl⟩, S.trans S3, by rw [List.length_append, e]; rfl, ?_⟩⟩
      rw [Int.zero_add] at hv
      rw [List.range_succ, List.map_append]
      exact Paired.snoc (Paired.mapP R fun _ _ h => h.same S3) hv
    rintro us σ H2 ⟨_, S2, el, R⟩ p np
    have U2 := S2.upd np (o := .lst us)
    have g2 := upd_same (H := H2) (a := p) (o := .lst us)
    have R2 := Paired.mapP R fun _ _ h => (PartIn.off np h).same ((Same.refl H2).upd np (o := .lst us))
    have npH := S2.free np
    generalize upd H2 p (.lst us) = H3 at U2 g2 R2 ⊢
    try dsimp only [gName]
    refine seq_join (fun σ' H' => ∃ (r : Addr) (rs : List V) (o6 : Option V), σ' = [some (.int (s' : Int)), some (.int c), some (.int (w : Int)), some (.int (m : Int)), some (.bl bad), some (.ref r), o6] ∧ Same H H' ∧ H r = none ∧ H' r = some (.lst rs) ∧ Paired (PartOff r H') rs (rowsF s' c w m)) ?_ (fun Nx hNx => ?_)
    · rintro _ H4 ⟨r, rs, o6, rfl, S4, nr, g4, R4⟩
      unfold partsF at hQ
      have rl := rows_len s' c w m
      have pl := Paired.length R4
      generalize rowsF s' c w m = row at R4 hQ rl pl
      cases bad with
      | false =>
        refine ⟨_, rfl, _, rfl, iteF ?_⟩
        exact ⟨_, rfl, hQ r rs H4 S4 g4 (Paired.mapP R4 fun _ _ h => h.is)⟩
      | true =>
        refine ⟨_, rfl, _, rfl, iteT ?_⟩
        have b0 : 0 ≤ c / 4 % ((row.length : Int) + 1) := Int.emod_nonneg _ (by omega)
        have b1 : c / 4 % ((row.length : Int) + 1) < (row.length : Int) + 1 := Int.emod_lt_of_pos _ (by omega)
        refine ⟨_, rfl, _, _, rfl, rfl, ⟨by decide, by decide⟩, _, rfl, r, _, rfl, .inl (SqL.of g4), _, _, rfl, rfl, ?_⟩
        rw [pl]
        refine ⟨_, _, rfl, rfl, (by show (0 : Int) < (row.length : Int) + 1; omega), ?_⟩
        try dsimp only [gName]
        refine ⟨_, rfl, .inl ⟨rfl, _, SqL.of g4⟩, ?_⟩
        refine ⟨_, rfl, _, rfl, _, rfl, c, _, rfl, by decide, by decide, fun n n0 n1 => ?_⟩
        obtain ⟨n1, rfl⟩ := n1
        refine ⟨_, rfl, _, rfl, s', _, w, m, rfl, s7, n0, n1, w1, w7, m8, fun v H5 S5 hv => ?_⟩
        refine ⟨r, rs, _, v, rfl, rfl, S5 _ _ g4, b0, by rw [pl]; show c / 4 % ((row.length : Int) + 1) ≤ row.length; omega, by omega, ?_⟩
        refine ⟨_, rfl, hQ r _ _ ((S4.trans S5).upd' nr) upd_same ?_⟩
        exact paired_ins _ (Paired.mapP R4 fun _ _ h => (h.same S5).upd) ((hv.off g4).upd)
    · refine and_b (p := V.int (s' : Int) = V.int 2) (q := V.int (m : Int) = V.int 0) (fun K' hk => ⟨_, rfl, rfl, _, rfl, hk⟩) (fun _ K' hk => ⟨_, rfl, rfl, _, rfl, hk⟩) ?_
      have eq : (V.int (s' : Int) = V.int 2 ∧ V.int (m : Int) = V.int 0) ↔ (s' = 2 ∧ m = 0) := by
        constructor
        · rintro ⟨h, h2⟩
          exact ⟨by injection h with h; omega, by injection h2 with h2; omega⟩
        · rintro ⟨h, h2⟩
          rw [h, h2]
          exact ⟨rfl, rfl⟩
      refine iteD (fun e => ?_) (fun e => ?_)
      · refine ⟨by decide, fun r nr => hNx _ _ ⟨r, [], _, rfl, U2.upd nr, U2.free nr, upd_same, ?_⟩⟩
        unfold rowsF
        rw [if_pos (eq.mp e)]
        exact .nil
      · refine hNx _ _ ⟨p, us, _, rfl, U2, npH, g2, ?_⟩
        unfold rowsF
        rw [if_neg (fun z => e (eq.mpr z))]
        exact R2
theorem sc_law_list_paper : FnScope ["sort", "cell", "width", "many", "bad", "word"] ["sort", "cell", "width", "many", "bad"] (defScope s_law_list_paper) := ⟨rfl, rfl, rfl, by decide +kernel, rfl, by decide +kernel, by decide +kernel⟩
set_option maxHeartbeats 4000000 in
theorem ok_law_list_paper (T : Txt w K mg AR FR) : FnOk P w K mg base CX0 6 AR.f_law_list_paper FR.d_law_list_paper ["sort", "cell", "width", "many", "bad"] (sp_law_list_paper K) := by
  have G_law_parts_by : FnOk P w K mg base CX0 5 AR.f_law_parts_by FR.d_law_parts_by _ (sp_law_parts_by K) := ok_law_parts_by T
  refine T.u_law_list_paper.F.ok sc_law_list_paper (fun vs H Q E h => ?_) (fun cdv A outer s H vs Q E hr h => ?_)
  · obtain ⟨s', c, w, m, bad, rfl, s7, c0, w1, w7, m8, hQ⟩ := h
    rfl
  · obtain ⟨s', c, w, m, bad, rfl, s7, c0, w1, w7, m8, hQ⟩ := h
    refine ⟨_, (pss_cons (ps_set (i := 5) sc_law_list_paper.nd rfl (Or.inl rfl) (pe_ix ix_list (pe_lst (pa_cons pe_str (pa_cons pe_str (pa_cons pe_str (pa_cons pe_str (pa_cons pe_str (pa_cons pe_str (pa_cons pe_str pa_nil)))))))) (pv 0) (fun _ _ => rfl)))
      (pss_one (ps_ret (pe_tup (pa_cons (pv 5) (pa_cons (pe_call G_law_parts_by (hr.mono (by decide)) (by rfl) T.u_law_parts_by.m T.u_law_parts_by.F.kp T.u_law_parts_by.b .nil pass0 (pa_cons (pv 0) (pa_cons (pv 1) (pa_cons (pv 2) (pa_cons (pv 3) (pa_cons (pv 4) pa_nil)))))) pa_nil)))))), ?_⟩
    try dsimp only [kx1, kx2, kx3, Cx.nox, Cx.wish]
    refine ⟨by show 7 ≤ sizeLine; decide, fun q nq => ?_⟩
    have U1 := (Same.refl H).upd nq (o := .lst [.str "run", .str "run", .str "branch", .str "fence", .str "room", .str "wants", .str "kept"])
    have g1 := upd_same (H := H) (a := q) (o := .lst [.str "run", .str "run", .str "branch", .str "fence", .str "room", .str "wants", .str "kept"])
    have a1 : atI [V.str "run", .str "run", .str "branch", .str "fence", .str "room", .str "wants", .str "kept"] (s' : Int) = some (.str (wordN s')) := by
      rcases (show s' = 0 ∨ s' = 1 ∨ s' = 2 ∨ s' = 3 ∨ s' = 4 ∨ s' = 5 ∨ s' = 6 by omega) with e | e | e | e | e | e | e <;> (rw [e]; rfl)
    refine ⟨_, rfl, q, _, _, _, rfl, rfl, SqL.of g1, a1, ?_⟩
    try dsimp only [gName]
    generalize upd H q (.lst [.str "run", .str "run", .str "branch", .str "fence", .str "room", .str "wants", .str "kept"]) = H1 at U1 g1 ⊢
    refine ⟨_, rfl, _, rfl, _, rfl, _, rfl, _, rfl, _, rfl, s', c, w, m, bad, rfl, s7, c0, w1, w7, m8, fun p us H2 S2 hp R => ?_⟩
    refine ⟨by show 2 ≤ sizeLine; decide, fun q2 nq2 => ?_⟩
    have U2 := (Same.refl H2).upd nq2 (o := .tup [.str (wordN s'), .ref p])
    have g2 := upd_same (H := H2) (a := q2) (o := .tup [.str (wordN s'), .ref p])
    exact hQ q2 _ (U1.trans (S2.trans U2)) (papL_in s7 g2 (U2 _ _ hp) (Paired.mapP R fun _ _ h => h.same U2) (parts_kind s7 w1 (by omega)))
theorem sc_law_other_paper : FnScope ["sort", "cell", "width", "bad", "bowls", "weights"] ["sort", "cell", "width", "bad"] (defScope s_law_other_paper) := ⟨rfl, rfl, rfl, by decide +kernel, rfl, by decide +kernel, by decide +kernel⟩
set_option maxHeartbeats 4000000 in
theorem ok_law_other_paper (T : Txt w K mg AR FR) : FnOk P w K mg base CX0 4 AR.f_law_other_paper FR.d_law_other_paper ["sort", "cell", "width", "bad"] (sp_law_other_paper K) := by
  have G_law_set : FnOk P w K mg base CX0 2 AR.f_law_set FR.d_law_set _ (sp_law_set K) := ok_law_set T
  have G_law_bad_set : FnOk P w K mg base CX0 3 AR.f_law_bad_set FR.d_law_bad_set _ (sp_law_bad_set K) := ok_law_bad_set T
  have G_law_weights : FnOk P w K mg base CX0 2 AR.f_law_weights FR.d_law_weights _ (sp_law_weights K) := ok_law_weights T
  have G_law_mixed : FnOk P w K mg base CX0 1 AR.f_law_mixed FR.d_law_mixed _ (sp_law_mixed K) := ok_law_mixed T
  refine T.u_law_other_paper.F.ok sc_law_other_paper (fun vs H Q E h => ?_) (fun cdv A outer s H vs Q E hr h => ?_)
  · obtain ⟨s', c, w, bad, rfl, s7, s10, c0, w1, w7, hQ⟩ := h
    rfl
  · obtain ⟨s', c, w, bad, rfl, s7, s10, c0, w1, w7, hQ⟩ := h
    refine ⟨_, (pss_cons (ps_if (pt_cmpR op_gt (pv 0) pe_int (nomark _)) (pss_cons (ps_set (i := 4) sc_law_other_paper.nd rfl (Or.inl rfl) (pe_call G_law_set (hr.mono (by decide)) (by rfl) T.u_law_set.m T.u_law_set.F.kp T.u_law_set.b .nil pass0 (pa_cons (pv 1) (pa_cons (pv 2) pa_nil))))
      (pss_cons (ps_if (pt_val (pv 3)) (pss_one (ps_set (i := 4) sc_law_other_paper.nd rfl (Or.inl rfl) (pe_call G_law_bad_set (hr.mono (by decide)) (by rfl) T.u_law_bad_set.m T.u_law_bad_set.F.kp T.u_law_bad_set.b .nil pass0 (pa_cons (pv 1) (pa_cons (pv 2) pa_nil))))) pss_nil)
      (pss_one (ps_ret (pe_tup (pa_cons (pe_ix ix_list (pe_lst (pa_cons pe_str (pa_cons pe_str pa_nil))) (pe_op op_sub (pv 0) pe_int) (fun _ _ => rfl)) (pa_cons (pv 4) pa_nil))))))) pss_nil)
      (pss_cons (ps_set (i := 5) sc_law_other_paper.nd rfl (Or.inl rfl) (pe_call G_law_weights (hr.mono (by decide)) (by rfl) T.u_law_weights.m T.u_law_weights.F.kp T.u_law_weights.b .nil pass0 (pa_cons (pv 1) (pa_cons (pe_op op_add (pv 2) (pe_op op_mul (pe_callTy call_int1 (by rfl) T.z_int bt_int (pa_cons (pv 3) pa_nil)) (pe_op op_sub pe_int (pe_op op_mul pe_int (pe_op op_mod (pv 1) pe_int))))) pa_nil))))
      (pss_cons (ps_if (pt_cmpR op_eq (pv 0) pe_int (nomark _)) (pss_one (ps_ret (pe_tup (pa_cons pe_str (pa_cons (pv 5) pa_nil))))) pss_nil)
      (pss_one (ps_ret (pe_tup (pa_cons pe_str (pa_cons (pv 5) (pa_cons (pe_op op_sub (pe_op op_mod (pe_call G_law_mixed (hr.mono (by decide)) (by rfl) T.u_law_mixed.m T.u_law_mixed.F.kp T.u_law_mixed.b .nil pass0 (pa_cons (pv 1) (pa_cons pe_int pa_nil))) pe_int) pe_int) pa_nil))))))))), ?_⟩
    try dsimp only [kx1, kx2, kx3, Cx.nox, Cx.wish]
    unfold otherF at hQ
    refine ⟨_, rfl, _, _, rfl, rfl, _, rfl, ?_⟩
    refine iteD (fun e => ?_) (fun e => ?_)
    · rw [if_pos (by omega)] at hQ
      refine ⟨_, rfl, _, rfl, c, w, rfl, by omega, fun p H1 S1 hp => ?_⟩
      try dsimp only [gName]
      refine seq_join (fun σ' H' => ∃ (r : Addr) (o5 : Option V), σ' = [some (.int (s' : Int)), some (.int c), some (.int (w : Int)), some (.bl bad), some (.ref r), o5] ∧ Same H H' ∧ H' r = some (.lst (vints (if bad = true then badSetF c w else setF c w)))) ?_ (fun Nx hNx => ?_)
      · rintro _ H2 ⟨r, o5, rfl, S2, hr2⟩
        generalize (if bad = true then badSetF c w else setF c w) = bs at hr2 hQ
        refine ⟨by show 2 ≤ sizeLine; decide, fun q nq => ?_⟩
        have U2 := (Same.refl H2).upd nq (o := .lst [.str "dry", .str "wet"])
        have g2 := upd_same (H := H2) (a := q) (o := .lst [.str "dry", .str "wet"])
        have a2 : atI [V.str "dry", .str "wet"] ((s' : Int) - 9) = some (.str (stS (decide (s' = 9)))) := by
          rcases (show s' = 9 ∨ s' = 10 by omega) with e | e <;> (rw [e]; rfl)
        refine ⟨_, rfl, _, _, rfl, rfl, q, _, _, _, rfl, rfl, SqL.of g2, a2, _, rfl, by show 2 ≤ sizeLine; decide, fun q2 nq2 => ?_⟩
        have U3 := U2.upd nq2 (o := .tup [.str (stS (decide (s' = 9))), .ref r])
        exact hQ q2 _ (S2.trans U3) ⟨q2, r, rfl, upd_same, U3 _ _ hr2⟩
      · refine ⟨_, rfl, _, rfl, ?_⟩
        cases bad with
        | false => exact iteF (hNx _ _ ⟨p, _, rfl, S1, hp⟩)
        | true => exact iteT ⟨_, rfl, _, rfl, c, w, rfl, c0, w1, w7, fun p2 H2 _ S2 hp2 => hNx _ _ ⟨p2, _, rfl, S1.trans S2, hp2⟩⟩
    rw [if_neg (by omega)] at hQ
    have m0 : 0 ≤ c % 2 := Int.emod_nonneg _ (by decide)
    have m1 : c % 2 < 2 := Int.emod_lt_of_pos _ (by decide)
    have ew : (w : Int) + (if bad = true then 1 else 0) * (1 - 2 * (c % 2)) = (((if bad = true then (if c % 2 = 0 then w + 1 else w - 1) else w) : Nat) : Int) := by
      cases bad with
      | false => simp
      | true =>
        rcases (show c % 2 = 0 ∨ c % 2 = 1 by omega) with e | e
        · rw [if_pos rfl, if_pos rfl, if_pos e, e]; omega
        · rw [if_pos rfl, if_pos rfl, if_neg (by omega), e]; omega
    have w8 : (if bad = true then (if c % 2 = 0 then w + 1 else w - 1) else w) ≤ 8 := by
      split
      · split <;> omega
      · omega
    generalize (if bad = true then (if c % 2 = 0 then w + 1 else w - 1) else w) = wn at ew w8 hQ
    refine ⟨_, rfl, _, rfl, _, rfl, .inr ⟨bad, rfl, _, rfl, _, _, rfl, rfl, (by show (0 : Int) < 2; decide), _, _, rfl, rfl, .inl ⟨by decide, by decide⟩, _, _, rfl, rfl, _, _, rfl, rfl, .inl ⟨by split <;> decide, by split <;> decide⟩, _, _, rfl, rfl, c, wn, ?_, w8, fun p H1 _ S1 hp => ?_⟩⟩
    · rw [← ew]
      rfl
    try dsimp only [gName]
    refine ⟨_, rfl, rfl, _, rfl, ?_⟩
    refine iteD (fun e => ?_) (fun e => ?_)
    · have e : s' = 7 := by injection e with e; omega
      rw [if_pos e] at hQ
      refine ⟨_, rfl, by show 2 ≤ sizeLine; decide, fun q2 nq2 => ?_⟩
      have U3 := S1.upd nq2 (o := .tup [.str "fall", .ref p])
      exact hQ q2 _ U3 ⟨q2, p, rfl, upd_same, by rw [upd_ne (ne_of_none hp nq2)]; exact hp⟩
    have e : ¬ s' = 7 := fun z => e (by rw [z]; rfl)
    rw [if_neg e] at hQ
    refine ⟨_, rfl, _, rfl, c, _, rfl, by decide, by decide, fun n n0 n1 => ?_⟩
    obtain ⟨n1, rfl⟩ := n1
    refine ⟨_, _, rfl, rfl, (by show (0 : Int) < 9; decide), _, _, rfl, rfl, by show 3 ≤ sizeLine; decide, fun q2 nq2 => ?_⟩
    have U3 := S1.upd nq2 (o := .tup [.str "sum", .ref p, .int (mixF c 80 % 9 - 2)])
    exact hQ q2 _ U3 ⟨q2, p, rfl, upd_same, by rw [upd_ne (ne_of_none hp nq2)]; exact hp⟩
theorem sc_law_paper : FnScope ["cell", "width", "many", "bad", "sort", "rest", "inner", "within", "blocks"] ["cell", "width", "many", "bad"] (defScope s_law_paper) := ⟨rfl, rfl, rfl, by decide +kernel, rfl, by decide +kernel, by decide +kernel⟩
set_option maxHeartbeats 4000000 in
theorem ok_law_paper (T : Txt w K mg AR FR) : FnOk P w K mg base CX0 7 AR.f_law_paper FR.d_law_paper ["cell", "width", "many", "bad"] (sp_law_paper K) := by
  have G_law_list_paper : FnOk P w K mg base CX0 6 AR.f_law_list_paper FR.d_law_list_paper _ (sp_law_list_paper K) := ok_law_list_paper T
  have G_law_other_paper : FnOk P w K mg base CX0 4 AR.f_law_other_paper FR.d_law_other_paper _ (sp_law_other_paper K) := ok_law_other_paper T
  have G_law_parts_by : FnOk P w K mg base CX0 5 AR.f_law_parts_by FR.d_law_parts_by _ (sp_law_parts_by K) := ok_law_parts_by T
  refine T.u_law_paper.F.ok sc_law_paper (fun vs H Q E h => ?_) (fun cdv A outer s H vs Q E hr h => ?_)
  · obtain ⟨c, w, m, bad, rfl, c0, w1, w7, m8, hQ⟩ := h
    rfl
  · obtain ⟨c, w, m, bad, rfl, c0, w1, w7, m8, hQ⟩ := h
    refine ⟨_, (pss_cons (ps_set (i := 4) sc_law_paper.nd rfl (Or.inl rfl) (pe_op op_mod (pv 0) pe_int))
      (pss_cons (ps_set (i := 5) sc_law_paper.nd rfl (Or.inl rfl) (pe_op op_fdiv (pv 0) pe_int))
      (pss_cons (ps_if (pt_cmpR op_lt (pv 4) pe_int (nomark _)) (pss_one (ps_ret (pe_call G_law_list_paper (hr.mono (by decide)) (by rfl) T.u_law_list_paper.m T.u_law_list_paper.F.kp T.u_law_list_paper.b .nil pass0 (pa_cons (pv 4) (pa_cons (pv 5) (pa_cons (pv 1) (pa_cons (pv 2) (pa_cons (pv 3) pa_nil)))))))) pss_nil)
      (pss_cons (ps_if (pt_cmpR op_lt (pv 4) pe_int (nomark _)) (pss_one (ps_ret (pe_call G_law_other_paper (hr.mono (by decide)) (by rfl) T.u_law_other_paper.m T.u_law_other_paper.F.kp T.u_law_other_paper.b .nil pass0 (pa_cons (pv 4) (pa_cons (pv 5) (pa_cons (pv 1) (pa_cons (pv 3) pa_nil))))))) pss_nil)
      (pss_cons (ps_set (i := 6) sc_law_paper.nd rfl (Or.inl rfl) (pe_op op_mod (pv 5) pe_int))
      (pss_cons (ps_set (i := 7) sc_law_paper.nd rfl (Or.inl rfl) (pe_and (pv 3) (pe_one (pe_cmpR op_eq (pe_op op_mod (pe_op op_fdiv (pv 5) pe_int) pe_int) pe_int (nomark _)))))
      (pss_cons (ps_set (i := 8) sc_law_paper.nd rfl (Or.inl rfl) (pe_call G_law_parts_by (hr.mono (by decide)) (by rfl) T.u_law_parts_by.m T.u_law_parts_by.F.kp T.u_law_parts_by.b .nil pass0 (pa_cons pe_int (pa_cons (pe_op op_fdiv (pv 5) pe_int) (pa_cons (pv 1) (pa_cons (pv 2) (pa_cons (pe_and (pv 3) (pe_one (pe_not (pv 7)))) pa_nil)))))))
      (pss_cons (ps_if (pt_cmpR op_eq (pv 6) pe_int (nomark _)) (pss_one (ps_ret (pe_tup (pa_cons pe_str (pa_cons (pv 8) (pa_cons (pe_call G_law_other_paper (hr.mono (by decide)) (by rfl) T.u_law_other_paper.m T.u_law_other_paper.F.kp T.u_law_other_paper.b .nil pass0 (pa_cons pe_int (pa_cons (pe_op op_fdiv (pv 5) pe_int) (pa_cons (pv 1) (pa_cons (pv 7) pa_nil))))) pa_nil)))))) pss_nil)
      (pss_one (ps_ret (pe_tup (pa_cons pe_str (pa_cons (pv 8) (pa_cons (pe_call G_law_list_paper (hr.mono (by decide)) (by rfl) T.u_law_list_paper.m T.u_law_list_paper.F.kp T.u_law_list_paper.b .nil pass0 (pa_cons (pe_op op_add pe_int (pv 6)) (pa_cons (pe_op op_fdiv (pv 5) pe_int) (pa_cons (pv 1) (pa_cons (pv 2) (pa_cons (pv 7) pa_nil)))))) pa_nil)))))))))))))), ?_⟩
    try dsimp only [kx1, kx2, kx3, Cx.nox, Cx.wish]
    unfold papF at hQ
    have s0 : 0 ≤ c % 12 := Int.emod_nonneg _ (by decide)
    have s12 : c % 12 < 12 := Int.emod_lt_of_pos _ (by decide)
    have r0 : 0 ≤ c / 12 := Int.ediv_nonneg c0 (by decide)
    have r6 : 0 ≤ c / 12 / 6 := Int.ediv_nonneg r0 (by decide)
    have i0 : 0 ≤ c / 12 % 3 := Int.emod_nonneg _ (by decide)
    have i3 : c / 12 % 3 < 3 := Int.emod_lt_of_pos _ (by decide)
    refine ⟨_, rfl, _, _, rfl, rfl, (by show (0 : Int) < 12; decide), ?_⟩
    try dsimp only [gName]
    refine ⟨_, rfl, _, _, rfl, rfl, ⟨by decide, by decide⟩, ?_⟩
    try dsimp only [gName]
    refine ⟨_, rfl, _, _, rfl, rfl, _, rfl, ?_⟩
    have es : ((c % 12).toNat : Int) = c % 12 := Int.toNat_of_nonneg s0
    refine iteD (fun e => ?_) (fun e => ?_)
    · rw [if_pos e] at hQ
      exact ⟨_, rfl, _, rfl, _, rfl, _, rfl, _, rfl, (c % 12).toNat, c / 12, w, m, bad, by rw [es]; rfl, by omega, r0, w1, w7, m8, hQ⟩
    rw [if_neg e] at hQ
    refine ⟨_, rfl, _, _, rfl, rfl, _, rfl, ?_⟩
    refine iteD (fun e2 => ?_) (fun e2 => ?_)
    · rw [if_pos e2] at hQ
      exact ⟨_, rfl, _, rfl, _, rfl, _, rfl, (c % 12).toNat, c / 12, w, bad, by rw [es]; rfl, by omega, by omega, r0, w1, w7, hQ⟩
    rw [if_neg e2] at hQ
    refine ⟨_, rfl, _, _, rfl, rfl, (by show (0 : Int) < 3; decide), ?_⟩
    try dsimp only [gName]
    refine seq_join (fun σ' H' => ∃ o8, σ' = [some (.int c), some (.int (w : Int)), some (.int (m : Int)), some (.bl bad), some (.int (c % 12)), some (.int (c / 12)), some (.int (c / 12 % 3)), some (.bl (withF c bad)), o8] ∧ H' = H) ?_ (fun Nx hNx => ?_)
    · rintro _ _ ⟨o8, rfl, rfl⟩
      generalize withF c bad = wi at hQ
      rename_i H0
      refine seq_join (fun σ' H' => ∃ (pb : Addr) (us : List V), σ' = [some (.int c), some (.int (w : Int)), some (.int (m : Int)), some (.bl bad), some (.int (c % 12)), some (.int (c / 12)), some (.int (c / 12 % 3)), some (.bl wi), some (.ref pb)] ∧ Same H0 H' ∧ H' pb = some (.lst us) ∧ Paired (PartIn H') us (partsF 0 (c / 12 / 6) w m (bad && !wi))) ?_ (fun Nx hNx => ?_)
      · rintro _ H1 ⟨pb, us, rfl, S1, hb, R⟩
        obtain ⟨as, ea, RB⟩ := kind_W (by decide) R (parts_kind (by decide) w1 (by omega))
        rw [ea] at hb
        refine ⟨_, rfl, rfl, _, rfl, ?_⟩
        refine iteD (fun e3 => ?_) (fun e3 => ?_)
        · have e3 : c / 12 % 3 = 2 := by injection e3
          rw [if_pos e3] at hQ
          refine ⟨_, rfl, _, rfl, _, _, rfl, rfl, ⟨by decide, by decide⟩, _, rfl, _, rfl, 7, c / 12 / 6, w, wi, rfl, by decide, by decide, r6, w1, w7, fun pi H2 S2 hpi => ?_⟩
          refine ⟨by show 3 ≤ sizeLine; decide, fun q nq => ?_⟩
          have U2 := (Same.refl H2).upd nq (o := .tup [.str "most", .ref pb, .ref pi])
          exact hQ q _ (S1.trans (S2.trans U2)) ⟨q, pb, as, .ref pi, rfl, upd_same, U2 _ _ (S2 _ _ hb), (RB.same S2).same U2, hpi.same U2⟩
        · have e3 : ¬ c / 12 % 3 = 2 := fun z => e3 (by rw [z])
          rw [if_neg e3] at hQ
          have en : ((3 + (c / 12 % 3).toNat : Nat) : Int) = 3 + c / 12 % 3 := by omega
          refine ⟨_, rfl, _, rfl, _, _, rfl, rfl, _, rfl, _, _, rfl, rfl, ⟨by decide, by decide⟩, _, rfl, _, rfl, _, rfl, 3 + (c / 12 % 3).toNat, c / 12 / 6, w, m, wi, by rw [en]; rfl, by omega, r6, w1, w7, m8, fun pi H2 S2 hpi => ?_⟩
          refine ⟨by show 3 ≤ sizeLine; decide, fun q nq => ?_⟩
          have U2 := (Same.refl H2).upd nq (o := .tup [.str "most", .ref pb, .ref pi])
          exact hQ q _ (S1.trans (S2.trans U2)) ⟨q, pb, as, .ref pi, rfl, upd_same, U2 _ _ (S2 _ _ hb), (RB.same S2).same U2, hpi.same U2⟩
      · refine ⟨_, rfl, _, _, rfl, rfl, ⟨by decide, by decide⟩, _, rfl, _, rfl, _, rfl, _, rfl, ?_⟩
        cases bad with
        | false => exact iteF ⟨0, c / 12 / 6, w, m, false, rfl, by decide, r6, w1, w7, m8, fun p us H' S hp R => hNx _ _ ⟨p, us, rfl, S, hp, R⟩⟩
        | true => exact iteT ⟨_, rfl, _, rfl, 0, c / 12 / 6, w, m, !wi, rfl, by decide, r6, w1, w7, m8, fun p us H' S hp R => hNx _ _ ⟨p, us, rfl, S, hp, R⟩⟩
    · refine ⟨_, rfl, _, rfl, ?_⟩
      unfold withF at hNx
      cases bad with
      | false => exact iteF (hNx _ _ ⟨_, rfl, rfl⟩)
      | true =>
        refine iteT ⟨_, rfl, _, _, rfl, rfl, ⟨by decide, by decide⟩, _, _, rfl, rfl, (by show (0 : Int) < 2; decide), rfl, ?_⟩
        have ed : decide (V.int (c / 12 / 3 % 2) = V.int 1) = decide (c / 12 / 3 % 2 = 1) := decide_eq_decide.mpr ⟨fun h => by injection h, fun h => by rw [h]⟩
        rw [Bool.true_and, ← ed] at hNx
        exact hNx _ _ ⟨_, rfl, rfl⟩
theorem sc_law_told : FnScope ["found", "due"] ["found", "due"] (defScope s_law_told) := ⟨rfl, rfl, rfl, by decide +kernel, rfl, by decide +kernel, by decide +kernel⟩
set_option maxHeartbeats 4000000 in
theorem ok_law_told (T : Txt w K mg AR FR) : FnOk P w K mg base CX0 1 AR.f_law_told FR.d_law_told ["found", "due"] (sp_law_told K) := by
  refine T.u_law_told.F.ok sc_law_told (fun vs H Q E h => ?_) (fun cdv A outer s H vs Q E hr h => ?_)
  · obtain ⟨k, rfl, hQ⟩ := h
    rfl
  · obtain ⟨k, rfl, hQ⟩ := h
    refine ⟨_, (pss_one (ps_ret (pe_and (pe_callB call_isinst (by rfl) T.z_isinstance bt_isinstance (pa_cons (pv 0) (pa_cons (pe_bltn (v := .ty "bool") (by rfl) T.z_bool bt_bool rfl) pa_nil))) (pe_one (pe_cmpR op_eq (pv 0) (pv 1) (nomark _)))))), ?_⟩
    try dsimp only [kx1, kx2, kx3, Cx.nox, Cx.wish]
    refine ⟨_, rfl, _, _, _, _, rfl, .bl k, by rfl, _, rfl, ?_⟩
    refine iteT ⟨_, rfl, _, rfl, rfl, ?_⟩
    rw [decide_eq_true rfl]
    exact hQ
theorem sc_are_doors : FnScope ["net", "doors"] ["net", "doors"] (defScope s_are_doors) := ⟨rfl, rfl, rfl, by decide +kernel, rfl, by decide +kernel, by decide +kernel⟩
set_option maxHeartbeats 4000000 in
theorem ok_are_doors (T : Txt w K mg AR FR) : FnOk P w K mg base CX0 5 AR.f_are_doors FR.d_are_doors ["net", "doors"] (sp_are_doors AR.C_Net K) := by
  have G_Net_init : FnOk P w K mg base CX0 3 AR.f_Net_init FR.d_Net_init _ (sp_Net_init AR.C_Net K) := ok_Net_init T
  refine T.u_are_doors.F.ok sc_are_doors (fun vs H Q E h => ?_) (fun cdv A outer s H vs Q E hr h => ?_)
  · obtain ⟨x, dx, b, d, t, g, f, p, ts, gs, N, ds, rfl, n, hp, l1, hQ⟩ := h
    rfl
  · obtain ⟨x, dx, b, d, t, g, f, p, ts, gs, N, ds, rfl, n, hp, l1, hQ⟩ := h
    refine ⟨_, (pss_one (ps_ret (pe_callB (call_all_list rfl) (by rfl) T.z_all bt_all (pa_cons (pe_comp (N' := ["door", "net"]) (nt := 1) (caps := [0]) _ _ (CompScope.of (by kernel_rfl)) (pi_list (pv 1)) (fun _ => (pg_nameC (i := 0) ["door", "net"] (by decide +kernel) (by rfl))) (fun _ => pts_nil) (fun _ => (pe_chain op_le op_lt pe_int (pv 0) (pe_callB call_len_seq (by rfl) T.z_len bt_len (pa_cons (pe_fld (pv 1) rfl) pa_nil))))) pa_nil)))), ?_⟩
    try dsimp only [kx1, kx2, kx3, Cx.nox, Cx.wish]
    refine ⟨_, rfl, p, rfl, ⟨_, hp⟩, ?_⟩
    refine comp_bp (K := K) (τ := [some (.ref x)]) (fun d => decide (0 ≤ d) && decide (d < (N.doors.length : Int))) hp (ints_pair ds) l1 (fun B v c H2 hc hF S Q' hq => ?_) ?_
    · subst hF
      have n2 := n.same S
      have h := hq H2 (Same.refl _)
      refine ⟨_, rfl, _, _, rfl, rfl, _, rfl, ?_⟩
      refine iteD (fun e => ?_) (fun e => ?_)
      · refine ⟨_, rfl, x, _, dx, _, _, rfl, n2.ob, T.cl_Net, T.n_Net_doors, rfl, d, _, rfl, .inl (SqL.of n2.hd), _, _, rfl, rfl, ?_⟩
        rw [List.length_map]
        rw [decide_eq_true e, Bool.true_and] at h
        exact h
      · rw [decide_eq_false e, Bool.false_and] at h
        exact h
    · intro H2 S q nq
      refine ⟨q, _, rfl, SqL.of upd_same, ?_⟩
      rw [all_id]
      exact hQ _ (S.upd nq)
theorem sc_run_well_made : FnScope ["net", "paper"] ["net", "paper"] (defScope s_run_well_made) := ⟨rfl, rfl, rfl, by decide +kernel, rfl, by decide +kernel, by decide +kernel⟩
set_option maxHeartbeats 4000000 in
theorem ok_run_well_made (T : Txt w K mg AR FR) : FnOk P w K mg base CX0 6 AR.f_run_well_made FR.d_run_well_made ["net", "paper"] (sp_run_well_made AR.C_Net K) := by
  have G_Net_init : FnOk P w K mg base CX0 3 AR.f_Net_init FR.d_Net_init _ (sp_Net_init AR.C_Net K) := ok_Net_init T
  have G_are_doors : FnOk P w K mg base CX0 5 AR.f_are_doors FR.d_are_doors _ (sp_are_doors AR.C_Net K) := ok_are_doors T
  refine T.u_run_well_made.F.ok sc_run_well_made (fun vs H Q E h => ?_) (fun cdv A outer s H vs Q E hr h => ?_)
  · obtain ⟨x, dx, b, d, t, g, f, p, l, ts, gs, as, N, us, bs, rfl, n, hp, a1, hl, R, l1, l2, hQ⟩ := h
    rfl
  · obtain ⟨x, dx, b, d, t, g, f, p, l, ts, gs, as, N, us, bs, rfl, n, hp, a1, hl, R, l1, l2, hQ⟩ := h
    refine ⟨_, (pss_one (ps_ret (pe_callB (call_all_list rfl) (by rfl) T.z_all bt_all (pa_cons (pe_comp (N' := ["many", "doors", "net"]) (nt := 2) (caps := [0]) _ _ (CompScope.of (by kernel_rfl)) (pi_list (pe_ix ix_tup (pv 1) pe_int (fun _ _ => rfl))) (fun _ => (pg_tup (by rfl) (pgs_cons (pg_nameC (i := 0) ["many", "doors", "net"] (by decide +kernel) (by rfl)) (pgs_cons (pg_nameC (i := 1) ["many", "doors", "net"] (by decide +kernel) (by rfl)) pgs_nil)))) (fun _ => pts_nil) (fun _ => (pe_and (pe_cmpR op_ge (pv 0) pe_int (nomark _)) (pe_one (pe_call G_are_doors (hr.mono (by decide)) (by rfl) T.u_are_doors.m T.u_are_doors.F.kp T.u_are_doors.b .nil pass0 (pa_cons (pv 2) (pa_cons (pv 1) pa_nil))))))) pa_nil)))), ?_⟩
    try dsimp only [kx1, kx2, kx3, Cx.nox, Cx.wish]
    refine ⟨_, rfl, p, _, _, _, rfl, rfl, hp, a1, l, rfl, ⟨_, SqL.of hl⟩, ?_⟩
    refine comp_bp2 (K := K) (τ := [some (.ref x)]) (fun c => .bl (decide (c.1 ≥ 0) && doorsB N.doors.length c.2)) (SqL.of hl) R l1 (fun B q c H2 hc e2 S Q' hq => ?_) ?_
    · refine ⟨_, rfl, _, _, rfl, rfl, _, rfl, ?_⟩
      refine iteD (fun e => ?_) (fun e => ?_)
      · refine ⟨_, rfl, _, rfl, x, dx, b, d, t, g, f, q, ts, gs, N, c.2, rfl, n.same S, SqL.of (S _ _ e2), l2 c hc, fun H3 S3 => ?_⟩
        have h := hq H3 S3
        rw [decide_eq_true e, Bool.true_and] at h
        exact h
      · have h := hq H2 (Same.refl _)
        rw [decide_eq_false e, Bool.false_and] at h
        exact h
    · intro H2 S q nq
      refine ⟨q, bs.map fun c => decide (c.1 ≥ 0) && doorsB N.doors.length c.2, rfl, SqL.of (by rw [upd_same, List.map_map]; rfl), ?_⟩
      rw [all_id]
      exact hQ _ (S.upd nq)
theorem sc_branch_well_made : FnScope ["net", "paper"] ["net", "paper"] (defScope s_branch_well_made) := ⟨rfl, rfl, rfl, by decide +kernel, rfl, by decide +kernel, by decide +kernel⟩
set_option maxHeartbeats 4000000 in
theorem ok_branch_well_made (T : Txt w K mg AR FR) : FnOk P w K mg base CX0 6 AR.f_branch_well_made FR.d_branch_well_made ["net", "paper"] (sp_branch_well_made AR.C_Net K) := by
  have G_Net_init : FnOk P w K mg base CX0 3 AR.f_Net_init FR.d_Net_init _ (sp_Net_init AR.C_Net K) := ok_Net_init T
  have G_are_doors : FnOk P w K mg base CX0 5 AR.f_are_doors FR.d_are_doors _ (sp_are_doors AR.C_Net K) := ok_are_doors T
  refine T.u_branch_well_made.F.ok sc_branch_well_made (fun vs H Q E h => ?_) (fun cdv A outer s H vs Q E hr h => ?_)
  · obtain ⟨x, dx, b, d, t, g, f, p, l, ts, gs, as, N, us, bs, rfl, n, hp, a1, hl, R, l1, hQ⟩ := h
    rfl
  · obtain ⟨x, dx, b, d, t, g, f, p, l, ts, gs, as, N, us, bs, rfl, n, hp, a1, hl, R, l1, hQ⟩ := h
    refine ⟨_, (pss_one (ps_ret (pe_call G_are_doors (hr.mono (by decide)) (by rfl) T.u_are_doors.m T.u_are_doors.F.kp T.u_are_doors.b .nil pass0 (pa_cons (pv 0) (pa_cons (pe_comp (N' := ["door", "loops"]) (nt := 2) (caps := []) _ _ (CompScope.of (by kernel_rfl)) (pi_list (pe_ix ix_tup (pv 1) pe_int (fun _ _ => rfl))) (fun _ => (pg_tup (by rfl) (pgs_cons (pg_nameC (i := 0) ["door", "loops"] (by decide +kernel) (by rfl)) (pgs_cons (pg_nameC (i := 1) ["door", "loops"] (by decide +kernel) (by rfl)) pgs_nil)))) (fun _ => pts_nil) (fun _ => (pv 0))) pa_nil))))), ?_⟩
    try dsimp only [kx1, kx2, kx3, Cx.nox, Cx.wish]
    refine ⟨_, rfl, _, rfl, p, _, _, _, rfl, rfl, hp, a1, l, rfl, ⟨_, SqL.of hl⟩, ?_⟩
    refine comp_bp2 (K := K) (τ := []) (fun c => .int c.1) (SqL.of hl) R l1 (fun B q c H2 hc e2 S Q' hq => ⟨_, rfl, hq H2 (Same.refl _)⟩) ?_
    intro H2 S q nq
    refine ⟨x, dx, b, d, t, g, f, q, ts, gs, N, bs.map fun c : Int × List Int => c.1, rfl, n.same (S.upd nq), SqL.of (by rw [upd_same, vints, List.map_map]; rfl), by rw [List.length_map]; exact l1, fun H3 S3 => hQ _ ((S.upd nq).trans S3)⟩
theorem sc_is_wide_enough : FnScope ["net", "bag"] ["net", "bag"] (defScope s_is_wide_enough) := ⟨rfl, rfl, rfl, by decide +kernel, rfl, by decide +kernel, by decide +kernel⟩
set_option maxHeartbeats 4000000 in
theorem ok_is_wide_enough (T : Txt w K mg AR FR) : FnOk P w K mg base CX0 5 AR.f_is_wide_enough FR.d_is_wide_enough ["net", "bag"] (sp_is_wide_enough AR.C_Net K) := by
  have G_Net_init : FnOk P w K mg base CX0 3 AR.f_Net_init FR.d_Net_init _ (sp_Net_init AR.C_Net K) := ok_Net_init T
  refine T.u_is_wide_enough.F.ok sc_is_wide_enough (fun vs H Q E h => ?_) (fun cdv A outer s H vs Q E hr h => ?_)
  · obtain ⟨x, dx, b, d, t, g, f, p, ts, gs, N, us, rfl, n, hp, hQ⟩ := h
    rfl
  · obtain ⟨x, dx, b, d, t, g, f, p, ts, gs, N, us, rfl, n, hp, hQ⟩ := h
    refine ⟨_, (pss_one (ps_ret (pe_cmpR op_eq (pe_callB call_len_seq (by rfl) T.z_len bt_len (pa_cons (pv 1) pa_nil)) (pe_callB call_len_seq (by rfl) T.z_len bt_len (pa_cons (pe_fld (pv 0) rfl) pa_nil)) (nomark _)))), ?_⟩
    try dsimp only [kx1, kx2, kx3, Cx.nox, Cx.wish]
    refine ⟨_, rfl, p, _, rfl, .inl hp, _, rfl, x, _, dx, _, _, rfl, n.ob, T.cl_Net, T.n_Net_bowls, rfl, b, _, rfl, .inl (SqL.of n.hb), rfl, ?_⟩
    rw [List.length_map]
    have e : decide (V.int (us.length : Int) = V.int (N.bowls.length : Int)) = decide (us.length = N.bowls.length) := decide_eq_decide.mpr ⟨fun h => by injection h with h; exact Int.ofNat.inj h, fun h => by rw [h]⟩
    rw [e]
    exact hQ
theorem sc_is_mark : FnScope ["net", "mark"] ["net", "mark"] (defScope s_is_mark) := ⟨rfl, rfl, rfl, by decide +kernel, rfl, by decide +kernel, by decide +kernel⟩
set_option maxHeartbeats 4000000 in
theorem ok_is_mark (T : Txt w K mg AR FR) : FnOk P w K mg base CX0 6 AR.f_is_mark FR.d_is_mark ["net", "mark"] (sp_is_mark AR.C_Net K) := by
  have G_Net_init : FnOk P w K mg base CX0 3 AR.f_Net_init FR.d_Net_init _ (sp_Net_init AR.C_Net K) := ok_Net_init T
  have G_is_wide_enough : FnOk P w K mg base CX0 5 AR.f_is_wide_enough FR.d_is_wide_enough _ (sp_is_wide_enough AR.C_Net K) := ok_is_wide_enough T
  refine T.u_is_mark.F.ok sc_is_mark (fun vs H Q E h => ?_) (fun cdv A outer s H vs Q E hr h => ?_)
  · obtain ⟨x, dx, b, d, t, g, f, p, ts, gs, N, m, rfl, n, hp, l1, hQ⟩ := h
    rfl
  · obtain ⟨x, dx, b, d, t, g, f, p, ts, gs, N, m, rfl, n, hp, l1, hQ⟩ := h
    refine ⟨_, (pss_one (ps_ret (pe_and (pe_call G_is_wide_enough (hr.mono (by decide)) (by rfl) T.u_is_wide_enough.m T.u_is_wide_enough.F.kp T.u_is_wide_enough.b .nil pass0 (pa_cons (pv 0) (pa_cons (pv 1) pa_nil))) (pe_one (pe_callB (call_all_list rfl) (by rfl) T.z_all bt_all (pa_cons (pe_comp (N' := ["number"]) (nt := 1) (caps := []) _ _ (CompScope.of (by kernel_rfl)) (pi_list (pv 1)) (fun _ => (pg_nameC (i := 0) ["number"] (by decide +kernel) (by rfl))) (fun _ => pts_nil) (fun _ => (pe_or (pe_cmpR op_isN (pv 0) pe_non (nomark _)) (pe_one (pe_cmpR op_ge (pv 0) pe_int (nomark _)))))) pa_nil)))))), ?_⟩
    try dsimp only [kx1, kx2, kx3, Cx.nox, Cx.wish]
    refine ⟨_, rfl, _, rfl, x, dx, b, d, t, g, f, p, ts, gs, N, _, rfl, n, hp, _, rfl, ?_⟩
    rw [List.length_map]
    refine iteD (fun e => ?_) (fun e => ?_)
    · refine ⟨_, rfl, p, rfl, ⟨_, hp⟩, ?_⟩
      refine comp_bp (K := K) (τ := []) numB hp (mk_pair m) l1 (fun B v c H2 hc hF S Q' hq => ?_) ?_
      · subst hF
        have h := hq H2 (Same.refl _)
        refine ⟨_, rfl, rfl, _, rfl, ?_⟩
        cases c with
        | none => exact iteT h
        | some k => exact iteF ⟨_, rfl, _, _, rfl, rfl, h⟩
      · intro H2 S q nq
        refine ⟨q, _, rfl, SqL.of upd_same, ?_⟩
        rw [all_id]
        have h := hQ _ (S.upd nq (o := .lst ((m.map numB).map V.bl)))
        unfold mkB at h
        rw [decide_eq_true e, Bool.true_and] at h
        exact h
    · have h := hQ H (Same.refl _)
      unfold mkB at h
      rw [decide_eq_false e, Bool.false_and] at h
      exact h
theorem sc_marks_well_made : FnScope ["net", "paper"] ["net", "paper"] (defScope s_marks_well_made) := ⟨rfl, rfl, rfl, by decide +kernel, rfl, by decide +kernel, by decide +kernel⟩
set_option maxHeartbeats 4000000 in
theorem ok_marks_well_made (T : Txt w K mg AR FR) : FnOk P w K mg base CX0 7 AR.f_marks_well_made FR.d_marks_well_made ["net", "paper"] (sp_marks_well_made AR.C_Net K) := by
  have G_Net_init : FnOk P w K mg base CX0 3 AR.f_Net_init FR.d_Net_init _ (sp_Net_init AR.C_Net K) := ok_Net_init T
  have G_is_mark : FnOk P w K mg base CX0 6 AR.f_is_mark FR.d_is_mark _ (sp_is_mark AR.C_Net K) := ok_is_mark T
  refine T.u_marks_well_made.F.ok sc_marks_well_made (fun vs H Q E h => ?_) (fun cdv A outer s H vs Q E hr h => ?_)
  · obtain ⟨x, dx, b, d, t, g, f, p, l, ts, gs, as, N, us, ms, rfl, n, hp, a1, hl, R, l1, l2, hQ⟩ := h
    rfl
  · obtain ⟨x, dx, b, d, t, g, f, p, l, ts, gs, as, N, us, ms, rfl, n, hp, a1, hl, R, l1, l2, hQ⟩ := h
    refine ⟨_, (pss_one (ps_ret (pe_callB (call_all_list rfl) (by rfl) T.z_all bt_all (pa_cons (pe_comp (N' := ["mark", "net"]) (nt := 1) (caps := [0]) _ _ (CompScope.of (by kernel_rfl)) (pi_list (pe_ix ix_tup (pv 1) pe_int (fun _ _ => rfl))) (fun _ => (pg_nameC (i := 0) ["mark", "net"] (by decide +kernel) (by rfl))) (fun _ => pts_nil) (fun _ => (pe_call G_is_mark (hr.mono (by decide)) (by rfl) T.u_is_mark.m T.u_is_mark.F.kp T.u_is_mark.b .nil pass0 (pa_cons (pv 1) (pa_cons (pv 0) pa_nil))))) pa_nil)))), ?_⟩
    try dsimp only [kx1, kx2, kx3, Cx.nox, Cx.wish]
    refine ⟨_, rfl, p, _, _, _, rfl, rfl, hp, a1, l, rfl, ⟨_, SqL.of hl⟩, ?_⟩
    refine comp_bp (K := K) (τ := [some (.ref x)]) (mkB N.bowls.length) (SqL.of hl) (refs_pair R) l1 (fun B v c H2 hc hF S Q' hq => ?_) ?_
    · obtain ⟨q, rfl, e⟩ := hF
      exact ⟨_, rfl, _, rfl, x, dx, b, d, t, g, f, q, ts, gs, N, c, rfl, n.same S, SqL.of (S _ _ e), l2 c hc, hq⟩
    · intro H2 S q nq
      refine ⟨q, _, rfl, SqL.of upd_same, ?_⟩
      rw [all_id]
      exact hQ _ (S.upd nq)
theorem sc_bags_well_made : FnScope ["net", "paper"] ["net", "paper"] (defScope s_bags_well_made) := ⟨rfl, rfl, rfl, by decide +kernel, rfl, by decide +kernel, by decide +kernel⟩
set_option maxHeartbeats 4000000 in
theorem ok_bags_well_made (T : Txt w K mg AR FR) : FnOk P w K mg base CX0 8 AR.f_bags_well_made FR.d_bags_well_made ["net", "paper"] (sp_bags_well_made AR.C_Net K) := by
  have G_Net_init : FnOk P w K mg base CX0 3 AR.f_Net_init FR.d_Net_init _ (sp_Net_init AR.C_Net K) := ok_Net_init T
  have G_marks_well_made : FnOk P w K mg base CX0 7 AR.f_marks_well_made FR.d_marks_well_made _ (sp_marks_well_made AR.C_Net K) := ok_marks_well_made T
  refine T.u_bags_well_made.F.ok sc_bags_well_made (fun vs H Q E h => ?_) (fun cdv A outer s H vs Q E hr h => ?_)
  · obtain ⟨x, dx, b, d, t, g, f, p, l, ts, gs, as, N, us, ms, rfl, n, hp, a1, hl, R, l1, l2, hQ⟩ := h
    rfl
  · obtain ⟨x, dx, b, d, t, g, f, p, l, ts, gs, as, N, us, ms, rfl, n, hp, a1, hl, R, l1, l2, hQ⟩ := h
    refine ⟨_, (pss_one (ps_ret (pe_and (pe_call G_marks_well_made (hr.mono (by decide)) (by rfl) T.u_marks_well_made.m T.u_marks_well_made.F.kp T.u_marks_well_made.b .nil pass0 (pa_cons (pv 0) (pa_cons (pv 1) pa_nil))) (pe_one (pe_not (pe_callB (call_any_list rfl) (by rfl) T.z_any bt_any (pa_cons (pe_comp (N' := ["beads"]) (nt := 1) (caps := []) _ _ (CompScope.of (by kernel_rfl)) (pi_list (pe_ix ix_tup (pv 1) pe_int (fun _ _ => rfl))) (fun _ => (pg_nameC (i := 0) ["beads"] (by decide +kernel) (by rfl))) (fun _ => pts_nil) (fun _ => (pe_cmpR op_in_seq pe_non (pv 0) (by with_unfolding_all rfl)))) pa_nil))))))), ?_⟩
    try dsimp only [kx1, kx2, kx3, Cx.nox, Cx.wish]
    refine ⟨_, rfl, _, rfl, x, dx, b, d, t, g, f, p, l, ts, gs, as, N, us, ms, rfl, n, hp, a1, hl, R, l1, l2, fun H1 S1 => ⟨_, rfl, ?_⟩⟩
    cases e : mksB N.bowls.length ms with
    | true =>
      refine iteT ?_
      refine ⟨_, rfl, p, _, _, _, rfl, rfl, S1.seqT hp, a1, l, rfl, ⟨_, SqL.of (S1 _ _ hl)⟩, ?_⟩
      refine comp_bp (K := K) (τ := []) noneB (SqL.of (S1 _ _ hl)) (refs_pair R) l1 (fun B v c H2 hc hF S Q' hq => ?_) ?_
      · obtain ⟨q, rfl, e⟩ := hF
        have h := hq H2 (Same.refl _)
        rw [← vm_inN] at h
        exact ⟨_, rfl, q, _, rfl, .inl (SqL.of (S _ _ (S1 _ _ e))), rfl, flatA_mk c, h⟩
      · intro H2 S q nq
        refine ⟨q, _, rfl, SqL.of upd_same, _, rfl, ?_⟩
        rw [any_id]
        have h := hQ _ (S1.trans (S.upd nq (o := .lst ((ms.map noneB).map V.bl))))
        unfold bagsB at h
        rw [e, Bool.true_and] at h
        exact h
    | false =>
      have h := hQ H1 S1
      refine iteF ?_
      unfold bagsB at h
      rw [e, Bool.false_and] at h
      exact h
theorem sc_weights_well_made : FnScope ["net", "paper"] ["net", "paper"] (defScope s_weights_well_made) := ⟨rfl, rfl, rfl, by decide +kernel, rfl, by decide +kernel, by decide +kernel⟩
set_option maxHeartbeats 4000000 in
theorem ok_weights_well_made (T : Txt w K mg AR FR) : FnOk P w K mg base CX0 6 AR.f_weights_well_made FR.d_weights_well_made ["net", "paper"] (sp_weights_well_made AR.C_Net K) := by
  have G_Net_init : FnOk P w K mg base CX0 3 AR.f_Net_init FR.d_Net_init _ (sp_Net_init AR.C_Net K) := ok_Net_init T
  have G_is_wide_enough : FnOk P w K mg base CX0 5 AR.f_is_wide_enough FR.d_is_wide_enough _ (sp_is_wide_enough AR.C_Net K) := ok_is_wide_enough T
  refine T.u_weights_well_made.F.ok sc_weights_well_made (fun vs H Q E h => ?_) (fun cdv A outer s H vs Q E hr h => ?_)
  · obtain ⟨x, dx, b, d, t, g, f, p, l, ts, gs, N, us, ws, rfl, n, hp, a1, hl, hQ⟩ := h
    rfl
  · obtain ⟨x, dx, b, d, t, g, f, p, l, ts, gs, N, us, ws, rfl, n, hp, a1, hl, hQ⟩ := h
    refine ⟨_, (pss_one (ps_ret (pe_call G_is_wide_enough (hr.mono (by decide)) (by rfl) T.u_is_wide_enough.m T.u_is_wide_enough.F.kp T.u_is_wide_enough.b .nil pass0 (pa_cons (pv 0) (pa_cons (pe_ix ix_tup (pv 1) pe_int (fun _ _ => rfl)) pa_nil))))), ?_⟩
    try dsimp only [kx1, kx2, kx3, Cx.nox, Cx.wish]
    refine ⟨_, rfl, _, rfl, p, _, _, _, rfl, rfl, hp, a1, x, dx, b, d, t, g, f, l, ts, gs, N, _, rfl, n, SqL.of hl, ?_⟩
    rw [ints_len]
    exact hQ
theorem sc_set_well_made : FnScope ["net", "paper", "bowls"] ["net", "paper"] (defScope s_set_well_made) := ⟨rfl, rfl, rfl, by decide +kernel, rfl, by decide +kernel, by decide +kernel⟩
set_option maxHeartbeats 4000000 in
theorem ok_set_well_made (T : Txt w K mg AR FR) : FnOk P w K mg base CX0 5 AR.f_set_well_made FR.d_set_well_made ["net", "paper"] (sp_set_well_made AR.C_Net K) := by
  have G_Net_init : FnOk P w K mg base CX0 3 AR.f_Net_init FR.d_Net_init _ (sp_Net_init AR.C_Net K) := ok_Net_init T
  refine T.u_set_well_made.F.ok sc_set_well_made (fun vs H Q E h => ?_) (fun cdv A outer s H vs Q E hr h => ?_)
  · obtain ⟨x, dx, b, d, t, g, f, p, l, ts, gs, N, us, bs, rfl, n, b6, hp, a1, hl, l1, hQ⟩ := h
    rfl
  · obtain ⟨x, dx, b, d, t, g, f, p, l, ts, gs, N, us, bs, rfl, n, b6, hp, a1, hl, l1, hQ⟩ := h
    refine ⟨_, (pss_cons (ps_set (i := 2) sc_set_well_made.nd rfl (Or.inl rfl) (pe_ix ix_tup (pv 1) pe_int (fun _ _ => rfl)))
      (pss_one (ps_ret (pe_and (pe_callB (call_all_list rfl) (by rfl) T.z_all bt_all (pa_cons (pe_comp (N' := ["bowl", "net"]) (nt := 1) (caps := [0]) _ _ (CompScope.of (by kernel_rfl)) (pi_list (pv 2)) (fun _ => (pg_nameC (i := 0) ["bowl", "net"] (by decide +kernel) (by rfl))) (fun _ => pts_nil) (fun _ => (pe_chain op_le op_lt pe_int (pv 0) (pe_callB call_len_seq (by rfl) T.z_len bt_len (pa_cons (pe_fld (pv 1) rfl) pa_nil))))) pa_nil)) (pe_one (pe_cmpR (op_eqL hr.units0) (pv 2) (pe_callB (call_sortedS rfl) (by rfl) T.z_sorted bt_sorted (pa_cons (pe_callTy (call_setI rfl) (by rfl) T.z_set bt_set (pa_cons (pv 2) pa_nil)) pa_nil)) (nomark _))))))), ?_⟩
    try dsimp only [kx1, kx2, kx3, Cx.nox, Cx.wish]
    refine ⟨_, rfl, p, _, _, _, rfl, rfl, hp, a1, ?_⟩
    refine ⟨_, rfl, l, rfl, ⟨_, SqL.of hl⟩, ?_⟩
    refine comp_bp (K := K) (τ := [some (.ref x)]) (fun d => decide (0 ≤ d) && decide (d < (N.bowls.length : Int))) (SqL.of hl) (ints_pair bs) l1 (fun B v c H2 hc hF S Q' hq => ?_) ?_
    · subst hF
      have n2 := n.same S
      have h := hq H2 (Same.refl _)
      refine ⟨_, rfl, _, _, rfl, rfl, _, rfl, ?_⟩
      refine iteD (fun e => ?_) (fun e => ?_)
      · refine ⟨_, rfl, x, _, dx, _, _, rfl, n2.ob, T.cl_Net, T.n_Net_bowls, rfl, b, _, rfl, .inl (SqL.of n2.hb), _, _, rfl, rfl, ?_⟩
        rw [List.length_map]
        rw [decide_eq_true e, Bool.true_and] at h
        exact h
      · rw [decide_eq_false e, Bool.false_and] at h
        exact h
    · intro H2 S q nq
      refine ⟨q, _, rfl, SqL.of upd_same, _, rfl, ?_⟩
      rw [all_id]
      have S1 := S.upd nq (o := .lst ((bs.map fun d => decide (0 ≤ d) && decide (d < (N.bowls.length : Int))).map V.bl))
      generalize upd H2 q (.lst ((bs.map fun d => decide (0 ≤ d) && decide (d < (N.bowls.length : Int))).map V.bl)) = H3 at S1 ⊢
      cases e : (bs.all fun d => decide (0 ≤ d) && decide (d < (N.bowls.length : Int))) with
      | false =>
        have h := hQ H3 S1
        unfold setWB at h
        rw [e, Bool.false_and] at h
        exact iteF h
      | true =>
        have hb : ∀ y ∈ bs, 0 ≤ y ∧ y < 6 := fun y hy => by
          have := List.all_eq_true.mp e y hy
          rw [Bool.and_eq_true, decide_eq_true_eq, decide_eq_true_eq] at this
          omega
        refine iteT ⟨_, rfl, _, rfl, l, bs, rfl, SqL.of (S1 _ _ hl), l1, hb, fun ls nd hm q2 nq2 => ?_⟩
        have S2 := (Same.refl H3).upd nq2 (o := setI P w q2 ls)
        have lb : ls.length < 64 := by
          rw [(perm_srt nd hm hb).length_eq]
          exact Nat.lt_of_le_of_lt (len_srt bs) (by decide)
        refine ⟨q2, ls, rfl, upd_same, lb, fun ns pn sn q3 nq3 => ?_⟩
        have S3 := S2.upd nq3 (o := .lst (vints ns))
        refine ⟨l, q3, bs, ns, rfl, rfl, SqL.of (S3 _ _ (S1 _ _ hl)), SqL.of upd_same, ?_⟩
        rw [sorted_set nd hm hb pn sn]
        have h := hQ _ (S1.trans S3)
        unfold setWB at h
        rw [e, Bool.true_and, ← sorted_set nd hm hb pn sn] at h
        rw [← sorted_set nd hm hb pn sn]
        exact h
theorem sc_reason_well_made : FnScope ["net", "reason"] ["net", "reason"] (defScope s_reason_well_made) := ⟨rfl, rfl, rfl, by decide +kernel, rfl, by decide +kernel, by decide +kernel⟩
set_option maxHeartbeats 4000000 in
theorem ok_reason_well_made (T : Txt w K mg AR FR) : FnOk P w K mg base CX0 7 AR.f_reason_well_made FR.d_reason_well_made ["net", "reason"] (sp_reason_well_made AR.C_Net K) := by
  have G_Net_init : FnOk P w K mg base CX0 3 AR.f_Net_init FR.d_Net_init _ (sp_Net_init AR.C_Net K) := ok_Net_init T
  have G_set_well_made : FnOk P w K mg base CX0 5 AR.f_set_well_made FR.d_set_well_made _ (sp_set_well_made AR.C_Net K) := ok_set_well_made T
  have G_weights_well_made : FnOk P w K mg base CX0 6 AR.f_weights_well_made FR.d_weights_well_made _ (sp_weights_well_made AR.C_Net K) := ok_weights_well_made T
  refine T.u_reason_well_made.F.ok sc_reason_well_made (fun vs H Q E h => ?_) (fun cdv A outer s H vs Q E hr h => ?_)
  · obtain ⟨x, dx, b, d, t, g, f, p, l, ts, gs, N, k, bs, rfl, n, b6, hp, hl, l1, hQ⟩ := h
    rfl
  · obtain ⟨x, dx, b, d, t, g, f, p, l, ts, gs, N, k, bs, rfl, n, b6, hp, hl, l1, hQ⟩ := h
    refine ⟨_, (pss_cons (ps_if (pt_cmpR op_eq (pe_ix ix_tup (pv 1) pe_int (fun _ _ => rfl)) pe_str (nomark _)) (pss_one (ps_ret (pe_call G_set_well_made (hr.mono (by decide)) (by rfl) T.u_set_well_made.m T.u_set_well_made.F.kp T.u_set_well_made.b .nil pass0 (pa_cons (pv 0) (pa_cons (pv 1) pa_nil))))) pss_nil)
      (pss_one (ps_ret (pe_and (pe_cmpR op_eq (pe_ix ix_tup (pv 1) pe_int (fun _ _ => rfl)) pe_str (nomark _)) (pe_one (pe_call G_weights_well_made (hr.mono (by decide)) (by rfl) T.u_weights_well_made.m T.u_weights_well_made.F.kp T.u_weights_well_made.b .nil pass0 (pa_cons (pv 0) (pa_cons (pv 1) pa_nil)))))))), ?_⟩
    try dsimp only [kx1, kx2, kx3, Cx.nox, Cx.wish]
    refine ⟨_, rfl, p, _, _, _, rfl, rfl, SqT.of hp, rfl, rfl, _, rfl, ?_⟩
    cases k with
    | true =>
      refine iteT ?_
      exact ⟨_, rfl, _, rfl, x, dx, b, d, t, g, f, p, l, ts, gs, N, _, bs, rfl, n, b6, SqT.of hp, rfl, hl, l1, hQ⟩
    | false =>
      refine iteF ?_
      refine ⟨_, rfl, p, _, _, _, rfl, rfl, SqT.of hp, rfl, rfl, _, rfl, ?_⟩
      refine iteT ?_
      exact ⟨_, rfl, _, rfl, x, dx, b, d, t, g, f, p, l, ts, gs, N, _, bs, rfl, n, SqT.of hp, rfl, hl, hQ H (Same.refl _)⟩
theorem sc_kept_well_made : FnScope ["net", "paper"] ["net", "paper"] (defScope s_kept_well_made) := ⟨rfl, rfl, rfl, by decide +kernel, rfl, by decide +kernel, by decide +kernel⟩
set_option maxHeartbeats 4000000 in
theorem ok_kept_well_made (T : Txt w K mg AR FR) : FnOk P w K mg base CX0 8 AR.f_kept_well_made FR.d_kept_well_made ["net", "paper"] (sp_kept_well_made AR.C_Net K) := by
  have G_Net_init : FnOk P w K mg base CX0 3 AR.f_Net_init FR.d_Net_init _ (sp_Net_init AR.C_Net K) := ok_Net_init T
  have G_reason_well_made : FnOk P w K mg base CX0 7 AR.f_reason_well_made FR.d_reason_well_made _ (sp_reason_well_made AR.C_Net K) := ok_reason_well_made T
  refine T.u_kept_well_made.F.ok sc_kept_well_made (fun vs H Q E h => ?_) (fun cdv A outer s H vs Q E hr h => ?_)
  · obtain ⟨x, dx, b, d, t, g, f, p, l, ts, gs, N, us, ws, rs, rfl, n, b6, hp, a1, hl, R, l1, l2, hQ⟩ := h
    rfl
  · obtain ⟨x, dx, b, d, t, g, f, p, l, ts, gs, N, us, ws, rs, rfl, n, b6, hp, a1, hl, R, l1, l2, hQ⟩ := h
    refine ⟨_, (pss_one (ps_ret (pe_callB (call_all_list rfl) (by rfl) T.z_all bt_all (pa_cons (pe_comp (N' := ["reason", "net"]) (nt := 1) (caps := [0]) _ _ (CompScope.of (by kernel_rfl)) (pi_list (pe_ix ix_tup (pv 1) pe_int (fun _ _ => rfl))) (fun _ => (pg_nameC (i := 0) ["reason", "net"] (by decide +kernel) (by rfl))) (fun _ => pts_nil) (fun _ => (pe_or (pe_cmpR op_isN (pv 0) pe_non (nomark _)) (pe_one (pe_call G_reason_well_made (hr.mono (by decide)) (by rfl) T.u_reason_well_made.m T.u_reason_well_made.F.kp T.u_reason_well_made.b .nil pass0 (pa_cons (pv 1) (pa_cons (pv 0) pa_nil))))))) pa_nil)))), ?_⟩
    try dsimp only [kx1, kx2, kx3, Cx.nox, Cx.wish]
    refine ⟨_, rfl, p, _, _, _, rfl, rfl, hp, a1, l, rfl, ⟨_, SqL.of hl⟩, ?_⟩
    refine comp_bp (K := K) (τ := [some (.ref x)]) (rsnWB N.bowls.length) (SqL.of hl) R l1 (fun B v c H2 hc hF S Q' hq => ?_) ?_
    · refine ⟨_, rfl, rfl, _, rfl, ?_⟩
      cases c with
      | no =>
        obtain rfl : v = V.non := hF
        exact iteT (hq H2 (Same.refl _))
      | yes k bs =>
        obtain ⟨a, l', rfl, h1, h2⟩ := hF
        exact iteF ⟨_, rfl, _, rfl, x, dx, b, d, t, g, f, a, l', ts, gs, N, k, bs, rfl, n.same S, b6, S _ _ h1, S _ _ h2, l2 k bs hc, hq⟩
    · intro H2 S q nq
      refine ⟨q, _, rfl, SqL.of upd_same, ?_⟩
      rw [all_id]
      exact hQ _ (S.upd nq)
theorem sc_most_well_made : FnScope ["net", "paper"] ["net", "paper"] (defScope s_most_well_made) := ⟨rfl, rfl, rfl, by decide +kernel, rfl, by decide +kernel, by decide +kernel⟩
set_option maxHeartbeats 4000000 in
theorem ok_most_well_made (T : Txt w K mg AR FR) : FnOk P w K mg base CX0 9 AR.f_most_well_made FR.d_most_well_made ["net", "paper"] (sp_most_well_made AR.C_Net K) := by
  have G_Net_init : FnOk P w K mg base CX0 3 AR.f_Net_init FR.d_Net_init _ (sp_Net_init AR.C_Net K) := ok_Net_init T
  have G_run_well_made : FnOk P w K mg base CX0 6 AR.f_run_well_made FR.d_run_well_made _ (sp_run_well_made AR.C_Net K) := ok_run_well_made T
  have G_marks_well_made : FnOk P w K mg base CX0 7 AR.f_marks_well_made FR.d_marks_well_made _ (sp_marks_well_made AR.C_Net K) := ok_marks_well_made T
  have G_bags_well_made : FnOk P w K mg base CX0 8 AR.f_bags_well_made FR.d_bags_well_made _ (sp_bags_well_made AR.C_Net K) := ok_bags_well_made T
  have G_weights_well_made : FnOk P w K mg base CX0 6 AR.f_weights_well_made FR.d_weights_well_made _ (sp_weights_well_made AR.C_Net K) := ok_weights_well_made T
  refine T.u_most_well_made.F.ok sc_most_well_made (fun vs H Q E h => ?_) (fun cdv A outer s H vs Q E hr h => ?_)
  · obtain ⟨x, dx, b, d, t, g, f, p, ts, gs, N, bs, q, rfl, n, b6, hP, fit, hQ⟩ := h
    rfl
  · obtain ⟨x, dx, b, d, t, g, f, p, ts, gs, N, bs, q, rfl, n, b6, hP, fit, hQ⟩ := h
    refine ⟨_, (pss_one (ps_ret (pe_and (pe_call G_run_well_made (hr.mono (by decide)) (by rfl) T.u_run_well_made.m T.u_run_well_made.F.kp T.u_run_well_made.b .nil pass0 (pa_cons (pv 0) (pa_cons (pv 1) pa_nil))) (pe_and (pe_cmpR (op_gin T.dk_BOUNDS) (pe_ix ix_tup (pe_ix ix_tup (pv 1) pe_int (fun _ _ => rfl)) pe_int (fun _ _ => rfl)) (pe_glob (v := .ref AR.D_BOUNDS) (by rfl) T.mD_BOUNDS rfl) (by with_unfolding_all rfl)) (pe_one (pe_or2 (pe_callD T.dk_BOUNDS G_marks_well_made (hr.mono (by decide)) T.u_marks_well_made.F.kp T.u_marks_well_made.b .nil pass0 (pe_glob (v := .ref AR.D_BOUNDS) (by rfl) T.mD_BOUNDS rfl) (pe_ix ix_tup (pe_ix ix_tup (pv 1) pe_int (fun _ _ => rfl)) pe_int (fun _ _ => rfl)) (fun _ _ => rfl) (pa_cons (pv 0) (pa_cons (pe_ix ix_tup (pv 1) pe_int (fun _ _ => rfl)) pa_nil))) (pe_or2 (pe_callD T.dk_BOUNDS G_bags_well_made (hr.mono (by decide)) T.u_bags_well_made.F.kp T.u_bags_well_made.b .nil pass0 (pe_glob (v := .ref AR.D_BOUNDS) (by rfl) T.mD_BOUNDS rfl) (pe_ix ix_tup (pe_ix ix_tup (pv 1) pe_int (fun _ _ => rfl)) pe_int (fun _ _ => rfl)) (fun _ _ => rfl) (pa_cons (pv 0) (pa_cons (pe_ix ix_tup (pv 1) pe_int (fun _ _ => rfl)) pa_nil))) (pe_callD T.dk_BOUNDS G_weights_well_made (hr.mono (by decide)) T.u_weights_well_made.F.kp T.u_weights_well_made.b .nil pass0 (pe_glob (v := .ref AR.D_BOUNDS) (by rfl) T.mD_BOUNDS rfl) (pe_ix ix_tup (pe_ix ix_tup (pv 1) pe_int (fun _ _ => rfl)) pe_int (fun _ _ => rfl)) (fun _ _ => rfl) (pa_cons (pv 0) (pa_cons (pe_ix ix_tup (pv 1) pe_int (fun _ _ => rfl)) pa_nil)))))))))), ?_⟩
    try dsimp only [kx1, kx2, kx3, Cx.nox, Cx.wish]
    obtain ⟨a, l, as, u, e0, h1, h2, h3, h4⟩ := hP
    cases e0
    obtain ⟨f1, f2, f3⟩ := fit
    refine ⟨_, rfl, _, rfl, x, dx, b, d, t, g, f, p, l, ts, gs, as, N, _, bs, rfl, n, SqT.of h1, rfl, h2, h3, f1, f2, fun H1 S1 => ⟨_, rfl, ?_⟩⟩
    have n1 := n.same S1
    have h := fun H2 (S2 : Same H1 H2) => hQ H2 (S1.trans S2)
    cases e : runB N.doors.length bs with
    | false =>
      have h := h H1 (Same.refl _)
      rw [show wmB N.bowls.length N.doors.length (.most bs q) = (runB N.doors.length bs && innB N.bowls.length q) from rfl, e, Bool.false_and] at h
      exact iteF h
    | true =>
      rw [show wmB N.bowls.length N.doors.length (.most bs q) = (runB N.doors.length bs && innB N.bowls.length q) from rfl, e, Bool.true_and] at h
      refine iteT ?_
      have q1 := h4.same S1
      obtain ⟨c, l', r, rfl, ht⟩ := q1.top
      have ht1 := S1 _ _ h1
      have a0 : atI (V.str (wordP q) :: V.ref l' :: r) 0 = some (.str (wordP q)) := atI_nat (j := 0) rfl
      refine ⟨_, rfl, p, _, _, _, rfl, rfl, SqT.of ht1, rfl, c, _, _, _, rfl, rfl, SqT.of ht, a0, _, rfl, rfl, _, rfl, ?_⟩
      rw [atBd]
      have go : ∀ ff, pickI AR.f_marks_well_made AR.f_bags_well_made AR.f_weights_well_made q = some ff → atF [("fence", AR.f_marks_well_made), ("room", AR.f_bags_well_made), ("fall", AR.f_weights_well_made)] (wordP q) = some ff := fun ff e => by rw [atBd]; exact e
      have no : pickI AR.f_marks_well_made AR.f_bags_well_made AR.f_weights_well_made q = none → innB N.bowls.length q = false → Q (.bl false) H1 := fun _ e => by
        have h := h H1 (Same.refl _)
        rw [e] at h
        exact h
      cases q with
      | mk k ms =>
        obtain ⟨a2, l2, as2, e2, k1, k2, k3⟩ := q1
        cases e2
        cases k with
        | fence => exact iteT (.inl ⟨_, rfl, p, _, _, _, rfl, rfl, SqT.of ht1, rfl, c, _, _, _, rfl, rfl, SqT.of ht, a0, _, rfl, rfl, go _ rfl, _, rfl, _, rfl, p, _, _, _, rfl, rfl, SqT.of ht1, rfl, x, dx, b, d, t, g, f, c, l2, ts, gs, as2, N, _, ms, rfl, n1, SqT.of k1, rfl, k2, k3, f3.1, f3.2, h⟩)
        | room => exact iteT (.inr (.inl ⟨_, rfl, p, _, _, _, rfl, rfl, SqT.of ht1, rfl, c, _, _, _, rfl, rfl, SqT.of ht, a0, _, rfl, rfl, go _ rfl, _, rfl, _, rfl, p, _, _, _, rfl, rfl, SqT.of ht1, rfl, x, dx, b, d, t, g, f, c, l2, ts, gs, as2, N, _, ms, rfl, n1, SqT.of k1, rfl, k2, k3, f3.1, f3.2, h⟩))
        | wants => exact iteF (no rfl rfl)
      | fall ws =>
        obtain ⟨a2, l2, e2, k1, k2⟩ := q1
        cases e2
        exact iteT (.inr (.inr ⟨_, rfl, p, _, _, _, rfl, rfl, SqT.of ht1, rfl, c, _, _, _, rfl, rfl, SqT.of ht, a0, _, rfl, rfl, go _ rfl, _, rfl, _, rfl, p, _, _, _, rfl, rfl, SqT.of ht1, rfl, x, dx, b, d, t, g, f, c, l2, ts, gs, N, _, ws, rfl, n1, SqT.of k1, rfl, k2, h H1 (Same.refl _)⟩))
      | wr r bs => exact iteF (no rfl rfl)
      | sum ws v => exact iteF (no rfl rfl)
      | st v bs => exact iteF (no rfl rfl)
      | kept rs => exact iteF (no rfl rfl)
      | most bs q => exact iteF (no rfl rfl)
theorem sc_well_made : FnScope ["net", "paper"] ["net", "paper"] (defScope s_well_made) := ⟨rfl, rfl, rfl, by decide +kernel, rfl, by decide +kernel, by decide +kernel⟩
set_option maxHeartbeats 4000000 in
theorem ok_well_made (T : Txt w K mg AR FR) : FnOk P w K mg base CX0 10 AR.f_well_made FR.d_well_made ["net", "paper"] (sp_well_made AR.C_Net K) := by
  have G_Net_init : FnOk P w K mg base CX0 3 AR.f_Net_init FR.d_Net_init _ (sp_Net_init AR.C_Net K) := ok_Net_init T
  have G_run_well_made : FnOk P w K mg base CX0 6 AR.f_run_well_made FR.d_run_well_made _ (sp_run_well_made AR.C_Net K) := ok_run_well_made T
  have G_branch_well_made : FnOk P w K mg base CX0 6 AR.f_branch_well_made FR.d_branch_well_made _ (sp_branch_well_made AR.C_Net K) := ok_branch_well_made T
  have G_marks_well_made : FnOk P w K mg base CX0 7 AR.f_marks_well_made FR.d_marks_well_made _ (sp_marks_well_made AR.C_Net K) := ok_marks_well_made T
  have G_bags_well_made : FnOk P w K mg base CX0 8 AR.f_bags_well_made FR.d_bags_well_made _ (sp_bags_well_made AR.C_Net K) := ok_bags_well_made T
  have G_weights_well_made : FnOk P w K mg base CX0 6 AR.f_weights_well_made FR.d_weights_well_made _ (sp_weights_well_made AR.C_Net K) := ok_weights_well_made T
  have G_set_well_made : FnOk P w K mg base CX0 5 AR.f_set_well_made FR.d_set_well_made _ (sp_set_well_made AR.C_Net K) := ok_set_well_made T
  have G_kept_well_made : FnOk P w K mg base CX0 8 AR.f_kept_well_made FR.d_kept_well_made _ (sp_kept_well_made AR.C_Net K) := ok_kept_well_made T
  have G_most_well_made : FnOk P w K mg base CX0 9 AR.f_most_well_made FR.d_most_well_made _ (sp_most_well_made AR.C_Net K) := ok_most_well_made T
  refine T.u_well_made.F.ok sc_well_made (fun vs H Q E h => ?_) (fun cdv A outer s H vs Q E hr h => ?_)
  · obtain ⟨x, dx, b, d, t, g, f, p, ts, gs, N, P, rfl, n, b6, hP, fit, hQ⟩ := h
    rfl
  · obtain ⟨x, dx, b, d, t, g, f, p, ts, gs, N, P, rfl, n, b6, hP, fit, hQ⟩ := h
    refine ⟨_, (pss_one (ps_ret (pe_and (pe_cmpR (op_gin T.dk_MAKERS) (pe_ix ix_tup (pv 1) pe_int (fun _ _ => rfl)) (pe_glob (v := .ref AR.D_MAKERS) (by rfl) T.mD_MAKERS rfl) (by with_unfolding_all rfl)) (pe_one (pe_or2 (pe_callD T.dk_MAKERS G_run_well_made (hr.mono (by decide)) T.u_run_well_made.F.kp T.u_run_well_made.b .nil pass0 (pe_glob (v := .ref AR.D_MAKERS) (by rfl) T.mD_MAKERS rfl) (pe_ix ix_tup (pv 1) pe_int (fun _ _ => rfl)) (fun _ _ => rfl) (pa_cons (pv 0) (pa_cons (pv 1) pa_nil))) (pe_or2 (pe_callD T.dk_MAKERS G_branch_well_made (hr.mono (by decide)) T.u_branch_well_made.F.kp T.u_branch_well_made.b .nil pass0 (pe_glob (v := .ref AR.D_MAKERS) (by rfl) T.mD_MAKERS rfl) (pe_ix ix_tup (pv 1) pe_int (fun _ _ => rfl)) (fun _ _ => rfl) (pa_cons (pv 0) (pa_cons (pv 1) pa_nil))) (pe_or2 (pe_callD T.dk_MAKERS G_marks_well_made (hr.mono (by decide)) T.u_marks_well_made.F.kp T.u_marks_well_made.b .nil pass0 (pe_glob (v := .ref AR.D_MAKERS) (by rfl) T.mD_MAKERS rfl) (pe_ix ix_tup (pv 1) pe_int (fun _ _ => rfl)) (fun _ _ => rfl) (pa_cons (pv 0) (pa_cons (pv 1) pa_nil))) (pe_or2 (pe_callD T.dk_MAKERS G_bags_well_made (hr.mono (by decide)) T.u_bags_well_made.F.kp T.u_bags_well_made.b .nil pass0 (pe_glob (v := .ref AR.D_MAKERS) (by rfl) T.mD_MAKERS rfl) (pe_ix ix_tup (pv 1) pe_int (fun _ _ => rfl)) (fun _ _ => rfl) (pa_cons (pv 0) (pa_cons (pv 1) pa_nil))) (pe_or2 (pe_callD T.dk_MAKERS G_weights_well_made (hr.mono (by decide)) T.u_weights_well_made.F.kp T.u_weights_well_made.b .nil pass0 (pe_glob (v := .ref AR.D_MAKERS) (by rfl) T.mD_MAKERS rfl) (pe_ix ix_tup (pv 1) pe_int (fun _ _ => rfl)) (fun _ _ => rfl) (pa_cons (pv 0) (pa_cons (pv 1) pa_nil))) (pe_or2 (pe_callD T.dk_MAKERS G_set_well_made (hr.mono (by decide)) T.u_set_well_made.F.kp T.u_set_well_made.b .nil pass0 (pe_glob (v := .ref AR.D_MAKERS) (by rfl) T.mD_MAKERS rfl) (pe_ix ix_tup (pv 1) pe_int (fun _ _ => rfl)) (fun _ _ => rfl) (pa_cons (pv 0) (pa_cons (pv 1) pa_nil))) (pe_or2 (pe_callD T.dk_MAKERS G_kept_well_made (hr.mono (by decide)) T.u_kept_well_made.F.kp T.u_kept_well_made.b .nil pass0 (pe_glob (v := .ref AR.D_MAKERS) (by rfl) T.mD_MAKERS rfl) (pe_ix ix_tup (pv 1) pe_int (fun _ _ => rfl)) (fun _ _ => rfl) (pa_cons (pv 0) (pa_cons (pv 1) pa_nil))) (pe_callD T.dk_MAKERS G_most_well_made (hr.mono (by decide)) T.u_most_well_made.F.kp T.u_most_well_made.b .nil pass0 (pe_glob (v := .ref AR.D_MAKERS) (by rfl) T.mD_MAKERS rfl) (pe_ix ix_tup (pv 1) pe_int (fun _ _ => rfl)) (fun _ _ => rfl) (pa_cons (pv 0) (pa_cons (pv 1) pa_nil)))))))))))))), ?_⟩
    try dsimp only [kx1, kx2, kx3, Cx.nox, Cx.wish]
    obtain ⟨c, l, r, e0, ht⟩ := hP.top
    cases e0
    have a0 : atI (V.str (wordP P) :: V.ref l :: r) 0 = some (.str (wordP P)) := atI_nat (j := 0) rfl
    refine ⟨_, rfl, p, _, _, _, rfl, rfl, SqT.of ht, a0, _, rfl, rfl, _, rfl, ?_⟩
    rw [atMk]
    refine iteT ?_
    have go : ∀ ff, pickP AR.f_run_well_made AR.f_branch_well_made AR.f_marks_well_made AR.f_bags_well_made AR.f_weights_well_made AR.f_set_well_made AR.f_kept_well_made AR.f_most_well_made P = ff → atF [("run", AR.f_run_well_made), ("branch", AR.f_branch_well_made), ("fence", AR.f_marks_well_made), ("room", AR.f_bags_well_made), ("wants", AR.f_bags_well_made), ("fall", AR.f_weights_well_made), ("sum", AR.f_weights_well_made), ("dry", AR.f_set_well_made), ("wet", AR.f_set_well_made), ("kept", AR.f_kept_well_made), ("most", AR.f_most_well_made)] (wordP P) = some ff := fun ff e => by rw [atMk, e]
    cases P with
    | wr k bs =>
      obtain ⟨a2, l2, as2, e2, k1, k2, k3⟩ := hP
      cases e2
      cases k with
      | true => exact .inl ⟨_, rfl, p, _, _, _, rfl, rfl, SqT.of ht, a0, _, rfl, rfl, go _ rfl, _, rfl, _, rfl, x, dx, b, d, t, g, f, p, l2, ts, gs, as2, N, _, bs, rfl, n, SqT.of k1, rfl, k2, k3, fit.1, fit.2, hQ⟩
      | false => exact .inr (.inl ⟨_, rfl, p, _, _, _, rfl, rfl, SqT.of ht, a0, _, rfl, rfl, go _ rfl, _, rfl, _, rfl, x, dx, b, d, t, g, f, p, l2, ts, gs, as2, N, _, bs, rfl, n, SqT.of k1, rfl, k2, k3, fit.1, hQ⟩)
    | mk k ms =>
      obtain ⟨a2, l2, as2, e2, k1, k2, k3⟩ := hP
      cases e2
      cases k with
      | fence => exact .inr (.inr (.inl ⟨_, rfl, p, _, _, _, rfl, rfl, SqT.of ht, a0, _, rfl, rfl, go _ rfl, _, rfl, _, rfl, x, dx, b, d, t, g, f, p, l2, ts, gs, as2, N, _, ms, rfl, n, SqT.of k1, rfl, k2, k3, fit.1, fit.2, hQ⟩))
      | room => exact .inr (.inr (.inr (.inl ⟨_, rfl, p, _, _, _, rfl, rfl, SqT.of ht, a0, _, rfl, rfl, go _ rfl, _, rfl, _, rfl, x, dx, b, d, t, g, f, p, l2, ts, gs, as2, N, _, ms, rfl, n, SqT.of k1, rfl, k2, k3, fit.1, fit.2, hQ⟩)))
      | wants => exact .inr (.inr (.inr (.inl ⟨_, rfl, p, _, _, _, rfl, rfl, SqT.of ht, a0, _, rfl, rfl, go _ rfl, _, rfl, _, rfl, x, dx, b, d, t, g, f, p, l2, ts, gs, as2, N, _, ms, rfl, n, SqT.of k1, rfl, k2, k3, fit.1, fit.2, hQ⟩)))
    | fall ws =>
      obtain ⟨a2, l2, e2, k1, k2⟩ := hP
      cases e2
      exact .inr (.inr (.inr (.inr (.inl ⟨_, rfl, p, _, _, _, rfl, rfl, SqT.of ht, a0, _, rfl, rfl, go _ rfl, _, rfl, _, rfl, x, dx, b, d, t, g, f, p, l2, ts, gs, N, _, ws, rfl, n, SqT.of k1, rfl, k2, hQ H (Same.refl _)⟩))))
    | sum ws v =>
      obtain ⟨a2, l2, e2, k1, k2⟩ := hP
      cases e2
      exact .inr (.inr (.inr (.inr (.inl ⟨_, rfl, p, _, _, _, rfl, rfl, SqT.of ht, a0, _, rfl, rfl, go _ rfl, _, rfl, _, rfl, x, dx, b, d, t, g, f, p, l2, ts, gs, N, _, ws, rfl, n, SqT.of k1, rfl, k2, hQ H (Same.refl _)⟩))))
    | st k bs =>
      obtain ⟨a2, l2, e2, k1, k2⟩ := hP
      cases e2
      exact .inr (.inr (.inr (.inr (.inr (.inl ⟨_, rfl, p, _, _, _, rfl, rfl, SqT.of ht, a0, _, rfl, rfl, go _ rfl, _, rfl, _, rfl, x, dx, b, d, t, g, f, p, l2, ts, gs, N, _, bs, rfl, n, b6, SqT.of k1, rfl, k2, fit, hQ⟩)))))
    | kept rs =>
      obtain ⟨a2, l2, vs2, e2, k1, k2, k3⟩ := hP
      cases e2
      exact .inr (.inr (.inr (.inr (.inr (.inr (.inl ⟨_, rfl, p, _, _, _, rfl, rfl, SqT.of ht, a0, _, rfl, rfl, go _ rfl, _, rfl, _, rfl, x, dx, b, d, t, g, f, p, l2, ts, gs, N, _, vs2, rs, rfl, n, b6, SqT.of k1, rfl, k2, k3, fit.1, fit.2, hQ⟩))))))
    | most bs q =>
      exact .inr (.inr (.inr (.inr (.inr (.inr (.inr ⟨_, rfl, p, _, _, _, rfl, rfl, SqT.of ht, a0, _, rfl, rfl, go _ rfl, _, rfl, _, rfl, x, dx, b, d, t, g, f, p, ts, gs, N, bs, q, rfl, n, b6, hP, fit, hQ⟩))))))
theorem sc_law : FnScope ["script", "parts", "net", "k", "cell", "bad", "paper"] ["script"] (defScope s_law) := ⟨rfl, rfl, rfl, by decide +kernel, rfl, by decide +kernel, by decide +kernel⟩
set_option maxHeartbeats 40000000 in
theorem ok_law (T : Txt w K mg AR FR) : FnOk P w K mg base CX0 11 AR.f_law FR.d_law ["script"] (sp_law K) := by
  have G_law_doors : FnOk P w K mg base CX0 3 AR.f_law_doors FR.d_law_doors _ (sp_law_doors K) := ok_law_doors T
  have G_law_cell : FnOk P w K mg base CX0 1 AR.f_law_cell FR.d_law_cell _ (sp_law_cell K) := ok_law_cell T
  have G_law_net_of : FnOk P w K mg base CX0 5 AR.f_law_net_of FR.d_law_net_of _ (sp_law_net_of AR.C_Net K) := ok_law_net_of T
  have G_law_mixed : FnOk P w K mg base CX0 1 AR.f_law_mixed FR.d_law_mixed _ (sp_law_mixed K) := ok_law_mixed T
  have G_law_paper : FnOk P w K mg base CX0 7 AR.f_law_paper FR.d_law_paper _ (sp_law_paper K) := ok_law_paper T
  have G_law_told : FnOk P w K mg base CX0 1 AR.f_law_told FR.d_law_told _ (sp_law_told K) := ok_law_told T
  have G_well_made : FnOk P w K mg base CX0 10 AR.f_well_made FR.d_well_made _ (sp_well_made AR.C_Net K) := ok_well_made T
  refine T.u_law.F.ok sc_law (fun vs H Q E h => ?_) (fun cdv A outer s H vs Q E hr h => ?_)
  · obtain ⟨a, ns, rfl, hS, l63, hQ⟩ := h
    rfl
  · obtain ⟨a, ns, rfl, hS, l63, hQ⟩ := h
    refine ⟨_, (pss_cons (ps_set (i := 1) sc_law.nd rfl (Or.inl rfl) (pe_call G_law_doors (hr.mono (by decide)) (by rfl) T.u_law_doors.m T.u_law_doors.F.kp T.u_law_doors.b .nil pass0 (pa_cons (pe_call G_law_cell (hr.mono (by decide)) (by rfl) T.u_law_cell.m T.u_law_cell.F.kp T.u_law_cell.b .nil pass0 (pa_cons (pv 0) (pa_cons pe_int pa_nil))) (pa_cons (pe_call G_law_cell (hr.mono (by decide)) (by rfl) T.u_law_cell.m T.u_law_cell.F.kp T.u_law_cell.b .nil pass0 (pa_cons (pv 0) (pa_cons pe_int pa_nil))) (pa_cons (pe_call G_law_cell (hr.mono (by decide)) (by rfl) T.u_law_cell.m T.u_law_cell.F.kp T.u_law_cell.b .nil pass0 (pa_cons (pv 0) (pa_cons pe_int pa_nil))) pa_nil)))))
      (pss_cons (ps_set (i := 2) sc_law.nd rfl (Or.inl rfl) (pe_call G_law_net_of (hr.mono (by decide)) (by rfl) T.u_law_net_of.m T.u_law_net_of.F.kp T.u_law_net_of.b .nil pass0 (pa_cons (pv 1) (pa_cons (pe_comp (N' := ["b"]) (nt := 1) (caps := []) _ _ (CompScope.of (by kernel_rfl)) (pi_range1 (by rfl) T.z_range (pa_cons (pe_ix ix_list (pv 1) pe_int (fun _ _ => rfl)) pa_nil)) (fun _ => (pg_nameC (i := 0) ["b"] (by decide +kernel) (by rfl))) (fun _ => pts_nil) (fun _ => pe_int)) pa_nil))))
      (pss_cons (ps_for PassesOwn.never rfl (pi_range2 (by rfl) T.z_range (pa_cons pe_int (pa_cons (pe_op op_add pe_int (pe_callB (call_min2 rfl) (by rfl) T.z_min bt_min (pa_cons (pe_callB call_len_seq (by rfl) T.z_len bt_len (pa_cons (pv 0) pa_nil)) (pa_cons pe_int pa_nil)))) pa_nil))) (pg_name (i := 3) sc_law.nd (by rfl) (Or.inl rfl))
      (pss_cons (ps_set (i := 4) sc_law.nd rfl (Or.inl rfl) (pe_call G_law_mixed (hr.mono (by decide)) (by rfl) T.u_law_mixed.m T.u_law_mixed.F.kp T.u_law_mixed.b .nil pass0 (pa_cons (pe_call G_law_cell (hr.mono (by decide)) (by rfl) T.u_law_cell.m T.u_law_cell.F.kp T.u_law_cell.b .nil pass0 (pa_cons (pv 0) (pa_cons (pv 3) pa_nil))) (pa_cons (pv 3) pa_nil))))
      (pss_one (ps_for PassesOwn.never rfl (pi_list (pe_lst (pa_cons pe_bl (pa_cons pe_bl pa_nil)))) (pg_name (i := 5) sc_law.nd (by rfl) (Or.inl rfl))
      (pss_cons (ps_set (i := 6) sc_law.nd rfl (Or.inl rfl) (pe_call G_law_paper (hr.mono (by decide)) (by rfl) T.u_law_paper.m T.u_law_paper.F.kp T.u_law_paper.b .nil pass0 (pa_cons (pv 4) (pa_cons (pe_ix ix_list (pv 1) pe_int (fun _ _ => rfl)) (pa_cons (pe_callB call_len_seq (by rfl) T.z_len bt_len (pa_cons (pe_ix ix_list (pv 1) pe_int (fun _ _ => rfl)) pa_nil)) (pa_cons (pv 5) pa_nil))))))
      (pss_cons (ps_if (pt_not (pt_val (pe_call G_law_told (hr.mono (by decide)) (by rfl) T.u_law_told.m T.u_law_told.F.kp T.u_law_told.b .nil pass0 (pa_cons (pe_call G_well_made (hr.mono (by decide)) (by rfl) T.u_well_made.m T.u_well_made.F.kp T.u_well_made.b .nil pass0 (pa_cons (pv 2) (pa_cons (pv 6) pa_nil))) (pa_cons (pe_not (pv 5)) pa_nil))))) (pss_one (ps_ret pe_bl)) pss_nil)
      (pss_one (ps_if (pt_cmpR (op_neLk 5 (hu5_of hr)) (pv 6) (pe_call G_law_paper (hr.mono (by decide)) (by rfl) T.u_law_paper.m T.u_law_paper.F.kp T.u_law_paper.b .nil pass0 (pa_cons (pv 4) (pa_cons (pe_ix ix_list (pv 1) pe_int (fun _ _ => rfl)) (pa_cons (pe_callB call_len_seq (by rfl) T.z_len bt_len (pa_cons (pe_ix ix_list (pv 1) pe_int (fun _ _ => rfl)) pa_nil)) (pa_cons (pv 5) pa_nil))))) (nomark _)) (pss_one (ps_ret pe_bl)) pss_nil))))))))
      (pss_one (ps_ret pe_bl))))), ?_⟩
    try dsimp only [kx1, kx2, kx3, Cx.nox, Cx.wish]
    refine ⟨_, rfl, a, ns, _, rfl, hS, by decide, fun c1 _ _ => ?_⟩
    refine ⟨_, rfl, a, ns, _, rfl, hS, by decide, fun c2 _ _ => ?_⟩
    refine ⟨_, rfl, a, ns, _, rfl, hS, by decide, fun c3 _ _ => ?_⟩
    refine ⟨c1, c2, c3, rfl, fun p pt pg pu ts gs z tk gv us H1 np S1 P o => ?_⟩
    have z1 := o.z1
    have z6 := o.z6
    have t8 := o.t8
    refine ⟨_, rfl, _, rfl, p, _, _, _, rfl, rfl, SqL.of P.top, rfl, _, rfl, by omega, by omega, ?_⟩
    rw [Int.toNat_natCast]
    refine comp_range1 (τ := []) (fun _ => .int 0) (small70 (by omega)) (fun B j H2 hj S Q' hq => hq H2 (Same.refl _)) fun H2 S2 pf npf => ?_
    have e0 : ((List.range z).map fun _ => V.int 0) = vints (List.replicate z 0) := by
      rw [vints, List.map_replicate]
      exact List.map_const' .. |>.trans (by rw [List.length_range])
    rw [e0]
    have U2 := S2.upd npf (o := .lst (vints (List.replicate z 0)))
    have hpf := upd_same (H := H2) (a := pf) (o := .lst (vints (List.replicate z 0)))
    generalize upd H2 pf (.lst (vints (List.replicate z 0))) = H3 at U2 hpf ⊢
    have P3 := P.same U2
    have okf : okBag (List.replicate z (0 : Int)).length (List.replicate z 0) := ⟨rfl, fun y hy => by rw [(List.mem_replicate.mp hy).2]; decide⟩
    have fl : (List.replicate z (0 : Int)).length = z := List.length_replicate ..
    generalize List.replicate z (0 : Int) = fs at hpf okf fl
    subst fl
    refine ⟨p, pt, pg, pu, pf, ts, gs, tk, gv, us, fs, rfl, P3, o, SqL.of hpf, okf, fun x dx b d t g f ts' gs' H4 nx S4 NI ok => ?_⟩
    have P4 := P3.same S4
    have S14 := (S1.trans U2).trans S4
    have eb : (netT tk gv fs).bowls.length = fs.length := netT_len z6
    have ed : (netT tk gv fs).doors.length = tk.length := ok.tl.symm
    have b6 : (netT tk gv fs).bowls.length ≤ 6 := by rw [eb]; exact z6
    generalize netT tk gv fs = N at NI eb ed b6
    try dsimp only [gName]
    refine ⟨_, rfl, a, _, rfl, .inl (S14.seq hS), _, _, rfl, _, _, rfl, rfl, _, _, rfl, ⟨by omega, by omega, ?_, ?_⟩, ?_⟩
    · rw [ints_len]
      show -(2 ^ 62) ≤ 4 + (if (12 : Int) < (ns.length : Int) then 12 else (ns.length : Int))
      split <;> omega
    · rw [ints_len]
      show 4 + (if (12 : Int) < (ns.length : Int) then 12 else (ns.length : Int)) < 2 ^ 62
      split <;> omega
    rw [ints_len]
    refine for_range (n := _) (fun i σ H5 => ∃ o3 o4 o5 o6, σ = [some (.ref a), some (.ref p), some (.ref x), o3, o4, o5, o6] ∧ Same H4 H5) ⟨none, none, none, none, rfl, Same.refl _⟩ ?_ ?_
    · rintro i σ H5 hi ⟨o3, o4, o5, o6, rfl, S5⟩
      have hi2 : (i : Int) < 100 := by
        have : ((4 + (if (12 : Int) < (ns.length : Int) then 12 else (ns.length : Int)) - 3).toNat : Int) ≤ 13 := by split <;> omega
        omega
      try dsimp only [gName]
      refine ⟨_, rfl, _, rfl, a, ns, _, rfl, (S14.trans S5).seq hS, by omega, fun cc _ _ => ?_⟩
      refine ⟨_, rfl, cc, _, rfl, by omega, by omega, fun n n0 n1 => ?_⟩
      try dsimp only [gName]
      refine ⟨by show 2 ≤ sizeLine; decide, fun pl npl => ?_⟩
      have U5 := S5.upd npl (o := .lst [.bl false, .bl true])
      have hpl := upd_same (H := H5) (a := pl) (o := .lst [.bl false, .bl true])
      generalize upd H5 pl (.lst [.bl false, .bl true]) = H6 at U5 hpl ⊢
      refine ⟨pl, rfl, ⟨_, SqL.of hpl⟩, ?_⟩
      refine for_list (K := K) (a := pl) (xs := [.bl false, .bl true]) (fun j σ H7 => ∃ o5 o6, σ = [some (.ref a), some (.ref p), some (.ref x), some (.int (3 + (i : Int))), some (.int n), o5, o6] ∧ Same H6 H7) ⟨_, _, rfl, Same.refl _⟩ (fun j σ H7 _ hp4 => by obtain ⟨_, _, _, S⟩ := hp4; exact SqL.of (S _ _ hpl)) ?_ ?_
      · rintro j v σ H7 hv ⟨o5, o6, rfl, S7⟩
        obtain ⟨bad, rfl⟩ : ∃ bad, v = .bl bad := by
          match j, hv with
          | 0, hv => cases hv; exact ⟨_, rfl⟩
          | 1, hv => cases hv; exact ⟨_, rfl⟩
          | j + 2, hv => simp at hv
        have S47 := U5.trans S7
        have P7 := P4.same S47
        try dsimp only [gName]
        have tl : (ts.map V.ref).length = tk.length := by rw [List.length_map]; exact P.tr.length
        refine ⟨_, rfl, _, rfl, p, _, _, _, rfl, rfl, SqL.of P7.top, rfl, _, rfl, p, _, _, _, rfl, rfl, SqL.of P7.top, rfl, pt, _, rfl, .inl (SqL.of P7.ht), _, rfl, n, fs.length, tk.length, bad, by rw [tl]; rfl, n0, z1, by omega, t8, fun q H8 S8 hP => ?_⟩
        try dsimp only [gName]
        have S48 := S47.trans S8
        refine ⟨_, rfl, _, rfl, x, dx, b, d, t, g, f, q, ts', gs', N, _, rfl, NI.same S48, b6, hP, pap_fit z1 (by omega) n0, fun H9 S9 => ?_⟩
        rw [eb, ed, pap_wm n0 z1 z6]
        refine ⟨_, rfl, _, rfl, !bad, rfl, _, rfl, ?_⟩
        refine iteF ?_
        have S49 := S48.trans S9
        have P9 := P4.same S49
        refine ⟨_, rfl, _, rfl, _, rfl, p, _, _, _, rfl, rfl, SqL.of P9.top, rfl, _, rfl, p, _, _, _, rfl, rfl, SqL.of P9.top, rfl, pt, _, rfl, .inl (SqL.of P9.ht), _, rfl, n, fs.length, tk.length, bad, by rw [tl]; rfl, n0, z1, by omega, t8, fun q2 H10 S10 hP2 => ?_⟩
        refine ⟨q, q2, rfl, rfl, pap_lk5 (pap_deep ..) (hP.same (S9.trans S10)) hP2, _, rfl, ?_⟩
        exact iteF ⟨_, _, rfl, S7.trans (S8.trans (S9.trans S10))⟩
      · rintro σ H7 ⟨o5, o6, rfl, S7⟩
        exact ⟨_, _, _, _, rfl, U5.trans S7⟩
    · rintro σ H5 ⟨o3, o4, o5, o6, rfl, S5⟩
      exact hQ _
end
theorem ex_S {us : List Value} {n : Nat} (hl : us.length = n + 1) : ∃ a r, us = a :: r ∧ r.length = n := by cases us with | nil => cases hl | cons a r => exact ⟨a, r, rfl, Nat.succ.inj hl⟩
theorem ex_Z {us : List Value} (hl : us.length = 0) : us = [] := List.eq_nil_of_length_eq_zero hl
theorem ex_0 {us : List Value} (hl : us.length = 0) : us = [] := List.eq_nil_of_length_eq_zero hl
theorem ex_1 {us : List Value} (hl : us.length = 1) : ∃ a0, us = [a0] := by obtain ⟨a, r, rfl, h⟩ := ex_S hl; obtain rfl := ex_0 h; exact ⟨a, rfl⟩
theorem ex_2 {us : List Value} (hl : us.length = 2) : ∃ a0 a1, us = [a0, a1] := by obtain ⟨a, r, rfl, h⟩ := ex_S hl; obtain ⟨_, rfl⟩ := ex_1 h; exact ⟨a, _, rfl⟩
theorem ex_3 {us : List Value} (hl : us.length = 3) : ∃ a0 a1 a2, us = [a0, a1, a2] := by obtain ⟨a, r, rfl, h⟩ := ex_S hl; obtain ⟨_, _, rfl⟩ := ex_2 h; exact ⟨a, _, _, rfl⟩
theorem ex_4 {us : List Value} (hl : us.length = 4) : ∃ a0 a1 a2 a3, us = [a0, a1, a2, a3] := by obtain ⟨a, r, rfl, h⟩ := ex_S hl; obtain ⟨_, _, _, rfl⟩ := ex_3 h; exact ⟨a, _, _, _, rfl⟩
theorem ex_5 {us : List Value} (hl : us.length = 5) : ∃ a0 a1 a2 a3 a4, us = [a0, a1, a2, a3, a4] := by obtain ⟨a, r, rfl, h⟩ := ex_S hl; obtain ⟨_, _, _, _, rfl⟩ := ex_4 h; exact ⟨a, _, _, _, _, rfl⟩
theorem ex_6 {us : List Value} (hl : us.length = 6) : ∃ a0 a1 a2 a3 a4 a5, us = [a0, a1, a2, a3, a4, a5] := by obtain ⟨a, r, rfl, h⟩ := ex_S hl; obtain ⟨_, _, _, _, _, rfl⟩ := ex_5 h; exact ⟨a, _, _, _, _, _, rfl⟩
set_option maxHeartbeats 0 in
theorem all_mk {l : PySem.W.OpenLaw} {w : World} {K : PySem.W.Frag} {h : Heap} {mg : Str → Option Value} {fa f_law_mixed f_law_units f_law_number f_law_doors f_law_cell f_is_name f_refuse_bad_names f_refuse_bad_bags f_Net_init f_law_net_of f_law_great f_law_row f_law_beads f_law_mark f_law_set f_law_weights f_law_part f_law_bad_bag f_law_bad_set f_law_bad_part f_law_parts_by f_law_list_paper f_law_other_paper f_law_paper f_law_told f_are_doors f_run_well_made f_branch_well_made f_is_wide_enough f_is_mark f_marks_well_made f_bags_well_made f_weights_well_made f_set_well_made f_reason_well_made f_kept_well_made f_most_well_made f_well_made f_law C_Net D_BOUNDS D_MAKERS : Addr} (X : K.In h) (G : h.Ns mainGlobals mg) (hfa : mg "law" = some (.ref fa))
    {d_law_mixed d_law_units d_law_number d_law_doors d_law_cell d_is_name d_refuse_bad_names d_refuse_bad_bags d_law_net_of d_law_great d_law_row d_law_beads d_law_mark d_law_set d_law_weights d_law_part d_law_bad_bag d_law_bad_set d_law_bad_part d_law_parts_by d_law_list_paper d_law_other_paper d_law_paper d_law_told d_are_doors d_run_well_made d_branch_well_made d_is_wide_enough d_is_mark d_marks_well_made d_bags_well_made d_weights_well_made d_set_well_made d_reason_well_made d_kept_well_made d_most_well_made d_well_made d_law : FuncData}
    {od_Net_init an_Net_init : Option Addr} {sl_Net_init : Array (Option Value)} {oc_Net_init kV_Net_init dc_Net_init pm_Net_init cd_Net_init ct_Net_init : Value}
    {h_BOUNDS_0 : Int} {t_BOUNDS_0 : Tok} {h_BOUNDS_1 : Int} {t_BOUNDS_1 : Tok} {h_BOUNDS_2 : Int} {t_BOUNDS_2 : Tok} {ep_BOUNDS : Nat}
    {h_MAKERS_0 : Int} {t_MAKERS_0 : Tok} {h_MAKERS_1 : Int} {t_MAKERS_1 : Tok} {h_MAKERS_2 : Int} {t_MAKERS_2 : Tok} {h_MAKERS_3 : Int} {t_MAKERS_3 : Tok} {h_MAKERS_4 : Int} {t_MAKERS_4 : Tok} {h_MAKERS_5 : Int} {t_MAKERS_5 : Tok} {h_MAKERS_6 : Int} {t_MAKERS_6 : Tok} {h_MAKERS_7 : Int} {t_MAKERS_7 : Tok} {h_MAKERS_8 : Int} {t_MAKERS_8 : Tok} {h_MAKERS_9 : Int} {t_MAKERS_9 : Tok} {h_MAKERS_10 : Int} {t_MAKERS_10 : Tok} {ep_MAKERS : Nat}
    {t_MOST_SIGNS : Tok}
    {t_MOST_BEADS : Tok}
    {t_LEAST_BOWLS : Tok}
    {t_MOST_BOWLS : Tok}
    {t_MOST_DOORS : Tok}
    (aC_Net : PySem.W.nsIn K mainGlobals "Net" = some (some (.ref C_Net)))
    (h_law_mixed : Df K mg "_law_mixed" "_law_mixed" s_law_mixed f_law_mixed d_law_mixed ["cell", "k"])
    (h_law_units : Df K mg "_law_units" "_law_units" s_law_units f_law_units d_law_units ["cell", "width"])
    (h_law_number : Df K mg "_law_number" "_law_number" s_law_number f_law_number d_law_number ["cell", "k"])
    (h_law_doors : Df K mg "_law_doors" "_law_doors" s_law_doors f_law_doors d_law_doors ["one", "two", "cell"])
    (h_law_cell : Df K mg "_law_cell" "_law_cell" s_law_cell f_law_cell d_law_cell ["script", "k"])
    (h_is_name : Df K mg "is_name" "is_name" s_is_name f_is_name d_is_name ["word"])
    (h_refuse_bad_names : Df K mg "refuse_bad_names" "refuse_bad_names" s_refuse_bad_names f_refuse_bad_names d_refuse_bad_names ["names", "least", "most"])
    (h_refuse_bad_bags : Df K mg "refuse_bad_bags" "refuse_bad_bags" s_refuse_bad_bags f_refuse_bad_bags d_refuse_bad_bags ["bags", "many", "width"])
    (a_Net_init : PySem.W.findIn K (.ref C_Net) "__init__" = some (some (.ref f_Net_init)))
    (i_Net_init : PySem.W.isFn K (.ref f_Net_init) = true)
    (l_Net_init : K.lookup f_Net_init = some ⟨oc_Net_init, od_Net_init, .func (PySem.W.fnOf "__init__" "Net.__init__" (defArgs s_Net_init) (defBody s_Net_init) (defScope s_Net_init) .none kV_Net_init dc_Net_init pm_Net_init an_Net_init cd_Net_init ct_Net_init), sl_Net_init⟩)
    (c_Net_init : PySem.W.codeIn K cd_Net_init "Net.__init__" = true)
    (k_Net_init : PySem.W.keepIn K (.ref f_Net_init) = true)
    (h_law_net_of : Df K mg "_law_net_of" "_law_net_of" s_law_net_of f_law_net_of d_law_net_of ["parts", "first"])
    (h_law_great : Df K mg "_law_great" "_law_great" s_law_great f_law_great d_law_great ["turn"])
    (h_law_row : Df K mg "_law_row" "_law_row" s_law_row f_law_row d_law_row ["cell", "many"])
    (h_law_beads : Df K mg "_law_beads" "_law_beads" s_law_beads f_law_beads d_law_beads ["cell", "width"])
    (h_law_mark : Df K mg "_law_mark" "_law_mark" s_law_mark f_law_mark d_law_mark ["cell", "width"])
    (h_law_set : Df K mg "_law_set" "_law_set" s_law_set f_law_set d_law_set ["cell", "width"])
    (h_law_weights : Df K mg "_law_weights" "_law_weights" s_law_weights f_law_weights d_law_weights ["cell", "width"])
    (h_law_part : Df K mg "_law_part" "_law_part" s_law_part f_law_part d_law_part ["sort", "cell", "width", "many"])
    (h_law_bad_bag : Df K mg "_law_bad_bag" "_law_bad_bag" s_law_bad_bag f_law_bad_bag d_law_bad_bag ["cell", "width"])
    (h_law_bad_set : Df K mg "_law_bad_set" "_law_bad_set" s_law_bad_set f_law_bad_set d_law_bad_set ["cell", "width"])
    (h_law_bad_part : Df K mg "_law_bad_part" "_law_bad_part" s_law_bad_part f_law_bad_part d_law_bad_part ["sort", "cell", "width", "many"])
    (h_law_parts_by : Df K mg "_law_parts_by" "_law_parts_by" s_law_parts_by f_law_parts_by d_law_parts_by ["sort", "cell", "width", "many", "bad"])
    (h_law_list_paper : Df K mg "_law_list_paper" "_law_list_paper" s_law_list_paper f_law_list_paper d_law_list_paper ["sort", "cell", "width", "many", "bad"])
    (h_law_other_paper : Df K mg "_law_other_paper" "_law_other_paper" s_law_other_paper f_law_other_paper d_law_other_paper ["sort", "cell", "width", "bad"])
    (h_law_paper : Df K mg "_law_paper" "_law_paper" s_law_paper f_law_paper d_law_paper ["cell", "width", "many", "bad"])
    (h_law_told : Df K mg "_law_told" "_law_told" s_law_told f_law_told d_law_told ["found", "due"])
    (h_are_doors : Df K mg "are_doors" "are_doors" s_are_doors f_are_doors d_are_doors ["net", "doors"])
    (h_run_well_made : Df K mg "run_well_made" "run_well_made" s_run_well_made f_run_well_made d_run_well_made ["net", "paper"])
    (h_branch_well_made : Df K mg "branch_well_made" "branch_well_made" s_branch_well_made f_branch_well_made d_branch_well_made ["net", "paper"])
    (h_is_wide_enough : Df K mg "is_wide_enough" "is_wide_enough" s_is_wide_enough f_is_wide_enough d_is_wide_enough ["net", "bag"])
    (h_is_mark : Df K mg "is_mark" "is_mark" s_is_mark f_is_mark d_is_mark ["net", "mark"])
    (h_marks_well_made : Df K mg "marks_well_made" "marks_well_made" s_marks_well_made f_marks_well_made d_marks_well_made ["net", "paper"])
    (h_bags_well_made : Df K mg "bags_well_made" "bags_well_made" s_bags_well_made f_bags_well_made d_bags_well_made ["net", "paper"])
    (h_weights_well_made : Df K mg "weights_well_made" "weights_well_made" s_weights_well_made f_weights_well_made d_weights_well_made ["net", "paper"])
    (h_set_well_made : Df K mg "set_well_made" "set_well_made" s_set_well_made f_set_well_made d_set_well_made ["net", "paper"])
    (h_reason_well_made : Df K mg "reason_well_made" "reason_well_made" s_reason_well_made f_reason_well_made d_reason_well_made ["net", "reason"])
    (h_kept_well_made : Df K mg "kept_well_made" "kept_well_made" s_kept_well_made f_kept_well_made d_kept_well_made ["net", "paper"])
    (h_most_well_made : Df K mg "most_well_made" "most_well_made" s_most_well_made f_most_well_made d_most_well_made ["net", "paper"])
    (h_well_made : Df K mg "well_made" "well_made" s_well_made f_well_made d_well_made ["net", "paper"])
    (h_law : Df K mg "law" "law" s_law f_law d_law ["script"])
    (pg_Net : PySem.W.plainGet K C_Net Str.empty = true)
    (hd_Net : PySem.W.hasDictIn K C_Net = true)
    (po_Net : PySem.W.plainOver K C_Net = true)
    (sa_Net : PySem.W.findIn K (.ref C_Net) "__setattr__" = some (some (.builtin "object.__setattr__")))
    (mk_Net : PySem.W.makesIn K C_Net = true)
    (kc_Net : PySem.W.keepIn K (.ref C_Net) = true)
    (n_Net_bowls : PySem.W.findIn K (.ref C_Net) "bowls" = some none)
    (n_Net_doors : PySem.W.findIn K (.ref C_Net) "doors" = some none)
    (n_Net_takes : PySem.W.findIn K (.ref C_Net) "takes" = some none)
    (n_Net_gives : PySem.W.findIn K (.ref C_Net) "gives" = some none)
    (n_Net_first : PySem.W.findIn K (.ref C_Net) "first" = some none)
    (aD_BOUNDS : PySem.W.nsIn K mainGlobals "BOUNDS" = some (some (.ref D_BOUNDS)))
    (lD_BOUNDS : K.lookup D_BOUNDS = some ⟨.type "dict", none, .dict #[⟨h_BOUNDS_0, .str (Str.ofString "fence") t_BOUNDS_0, .ref f_marks_well_made⟩, ⟨h_BOUNDS_1, .str (Str.ofString "room") t_BOUNDS_1, .ref f_bags_well_made⟩, ⟨h_BOUNDS_2, .str (Str.ofString "fall") t_BOUNDS_2, .ref f_weights_well_made⟩] ep_BOUNDS, #[]⟩)
    (hD_BOUNDS_0 : h_BOUNDS_0 = keyH w (.inr (Str.ofString "fence")))
    (hD_BOUNDS_1 : h_BOUNDS_1 = keyH w (.inr (Str.ofString "room")))
    (hD_BOUNDS_2 : h_BOUNDS_2 = keyH w (.inr (Str.ofString "fall")))
    (sD_BOUNDS : (D_BOUNDS == sysModules) = false)
    (aD_MAKERS : PySem.W.nsIn K mainGlobals "MAKERS" = some (some (.ref D_MAKERS)))
    (lD_MAKERS : K.lookup D_MAKERS = some ⟨.type "dict", none, .dict #[⟨h_MAKERS_0, .str (Str.ofString "run") t_MAKERS_0, .ref f_run_well_made⟩, ⟨h_MAKERS_1, .str (Str.ofString "branch") t_MAKERS_1, .ref f_branch_well_made⟩, ⟨h_MAKERS_2, .str (Str.ofString "fence") t_MAKERS_2, .ref f_marks_well_made⟩, ⟨h_MAKERS_3, .str (Str.ofString "room") t_MAKERS_3, .ref f_bags_well_made⟩, ⟨h_MAKERS_4, .str (Str.ofString "wants") t_MAKERS_4, .ref f_bags_well_made⟩, ⟨h_MAKERS_5, .str (Str.ofString "fall") t_MAKERS_5, .ref f_weights_well_made⟩, ⟨h_MAKERS_6, .str (Str.ofString "sum") t_MAKERS_6, .ref f_weights_well_made⟩, ⟨h_MAKERS_7, .str (Str.ofString "dry") t_MAKERS_7, .ref f_set_well_made⟩, ⟨h_MAKERS_8, .str (Str.ofString "wet") t_MAKERS_8, .ref f_set_well_made⟩, ⟨h_MAKERS_9, .str (Str.ofString "kept") t_MAKERS_9, .ref f_kept_well_made⟩, ⟨h_MAKERS_10, .str (Str.ofString "most") t_MAKERS_10, .ref f_most_well_made⟩] ep_MAKERS, #[]⟩)
    (hD_MAKERS_0 : h_MAKERS_0 = keyH w (.inr (Str.ofString "run")))
    (hD_MAKERS_1 : h_MAKERS_1 = keyH w (.inr (Str.ofString "branch")))
    (hD_MAKERS_2 : h_MAKERS_2 = keyH w (.inr (Str.ofString "fence")))
    (hD_MAKERS_3 : h_MAKERS_3 = keyH w (.inr (Str.ofString "room")))
    (hD_MAKERS_4 : h_MAKERS_4 = keyH w (.inr (Str.ofString "wants")))
    (hD_MAKERS_5 : h_MAKERS_5 = keyH w (.inr (Str.ofString "fall")))
    (hD_MAKERS_6 : h_MAKERS_6 = keyH w (.inr (Str.ofString "sum")))
    (hD_MAKERS_7 : h_MAKERS_7 = keyH w (.inr (Str.ofString "dry")))
    (hD_MAKERS_8 : h_MAKERS_8 = keyH w (.inr (Str.ofString "wet")))
    (hD_MAKERS_9 : h_MAKERS_9 = keyH w (.inr (Str.ofString "kept")))
    (hD_MAKERS_10 : h_MAKERS_10 = keyH w (.inr (Str.ofString "most")))
    (sD_MAKERS : (D_MAKERS == sysModules) = false)
    (g_MOST_SIGNS : PySem.W.nsIn K mainGlobals "MOST_SIGNS" = some (some (.int 8 t_MOST_SIGNS)))
    (g_MOST_BEADS : PySem.W.nsIn K mainGlobals "MOST_BEADS" = some (some (.int 1000000000 t_MOST_BEADS)))
    (g_LEAST_BOWLS : PySem.W.nsIn K mainGlobals "LEAST_BOWLS" = some (some (.int 1 t_LEAST_BOWLS)))
    (g_MOST_BOWLS : PySem.W.nsIn K mainGlobals "MOST_BOWLS" = some (some (.int 6 t_MOST_BOWLS)))
    (g_MOST_DOORS : PySem.W.nsIn K mainGlobals "MOST_DOORS" = some (some (.int 8 t_MOST_DOORS)))
    (z_range : PySem.W.nsIn K mainGlobals "range" = some none)
    (z_int : PySem.W.nsIn K mainGlobals "int" = some none)
    (z_len : PySem.W.nsIn K mainGlobals "len" = some none)
    (z_all : PySem.W.nsIn K mainGlobals "all" = some none)
    (z_set : PySem.W.nsIn K mainGlobals "set" = some none)
    (z_list : PySem.W.nsIn K mainGlobals "list" = some none)
    (z_max : PySem.W.nsIn K mainGlobals "max" = some none)
    (z_isinstance : PySem.W.nsIn K mainGlobals "isinstance" = some none)
    (z_bool : PySem.W.nsIn K mainGlobals "bool" = some none)
    (z_any : PySem.W.nsIn K mainGlobals "any" = some none)
    (z_sorted : PySem.W.nsIn K mainGlobals "sorted" = some none)
    (z_min : PySem.W.nsIn K mainGlobals "min" = some none)
    (hb : ∀ (s : Shared) (v : Value), BindsTo s d_law ⟨[v], []⟩ [("script", v)])
    : ∃ fd : FuncData, (∀ (s : Shared) (v : Value), BindsTo s fd ⟨[v], []⟩ [("script", v)]) ∧ ∀ base : Heap, K.In base → base.Ns mainGlobals mg → FnOk l.prog w K mg base CX0 11 fa fd ["script"] (sp_law K) := by
  have e := hfa.symm.trans h_law.m
  cases e
  have F_Net_init := fun_mk (st := s_Net_init) l_Net_init c_Net_init k_Net_init
  have b_Net_init := F_Net_init.binds (ps := ["self", "bowls", "doors", "takes", "gives", "first"]) fun _ _ _ _ _ _ us hl => by obtain ⟨_, _, _, _, _, _, rfl⟩ := ex_6 hl; rfl
  have T : Txt w K mg (Adr.mk _ _ _ _ _ _ _ _ _ _ _ _ _ _ _ _ _ _ _ _ _ _ _ _ _ _ _ _ _ _ _ _ _ _ _ _ _ _ _ _ _ _) (Fds.mk _ _ _ _ _ _ _ _ _ _ _ _ _ _ _ _ _ _ _ _ _ _ _ _ _ _ _ _ _ _ _ _ _ _ _ _ _ _ _) := ⟨h_law_mixed, h_law_units, h_law_number, h_law_doors, h_law_cell, h_is_name, h_refuse_bad_names, h_refuse_bad_bags, F_Net_init, b_Net_init, h_law_net_of, h_law_great, h_law_row, h_law_beads, h_law_mark, h_law_set, h_law_weights, h_law_part, h_law_bad_bag, h_law_bad_set, h_law_bad_part, h_law_parts_by, h_law_list_paper, h_law_other_paper, h_law_paper, h_law_told, h_are_doors, h_run_well_made, h_branch_well_made, h_is_wide_enough, h_is_mark, h_marks_well_made, h_bags_well_made, h_weights_well_made, h_set_well_made, h_reason_well_made, h_kept_well_made, h_most_well_made, h_well_made, h_law, PySem.W.mg_none_of X G z_range, PySem.W.mg_none_of X G z_int, PySem.W.mg_none_of X G z_len, PySem.W.mg_none_of X G z_all, PySem.W.mg_none_of X G z_set, PySem.W.mg_none_of X G z_list, PySem.W.mg_none_of X G z_max, PySem.W.mg_none_of X G z_isinstance, PySem.W.mg_none_of X G z_bool, PySem.W.mg_none_of X G z_any, PySem.W.mg_none_of X G z_sorted, PySem.W.mg_none_of X G z_min, ⟨pg_Net, hd_Net, po_Net, sa_Net⟩, PySem.W.mg_of X G aC_Net, ⟨mk_Net, a_Net_init, i_Net_init, kc_Net⟩, n_Net_bowls, n_Net_doors, n_Net_takes, n_Net_gives, n_Net_first, PySem.W.mg_of X G aD_BOUNDS, ⟨⟨_, _, _, lD_BOUNDS, ⟨rfl, rfl, rfl⟩, rfl, (.cons ⟨⟨_, rfl⟩, rfl, hD_BOUNDS_0⟩ (.cons ⟨⟨_, rfl⟩, rfl, hD_BOUNDS_1⟩ (.cons ⟨⟨_, rfl⟩, rfl, hD_BOUNDS_2⟩ .nil)))⟩, (by show ([Str.ofString "fence", Str.ofString "room", Str.ofString "fall"] : List Str).Nodup; decide +kernel), sD_BOUNDS⟩, PySem.W.mg_of X G aD_MAKERS, ⟨⟨_, _, _, lD_MAKERS, ⟨rfl, rfl, rfl⟩, rfl, (.cons ⟨⟨_, rfl⟩, rfl, hD_MAKERS_0⟩ (.cons ⟨⟨_, rfl⟩, rfl, hD_MAKERS_1⟩ (.cons ⟨⟨_, rfl⟩, rfl, hD_MAKERS_2⟩ (.cons ⟨⟨_, rfl⟩, rfl, hD_MAKERS_3⟩ (.cons ⟨⟨_, rfl⟩, rfl, hD_MAKERS_4⟩ (.cons ⟨⟨_, rfl⟩, rfl, hD_MAKERS_5⟩ (.cons ⟨⟨_, rfl⟩, rfl, hD_MAKERS_6⟩ (.cons ⟨⟨_, rfl⟩, rfl, hD_MAKERS_7⟩ (.cons ⟨⟨_, rfl⟩, rfl, hD_MAKERS_8⟩ (.cons ⟨⟨_, rfl⟩, rfl, hD_MAKERS_9⟩ (.cons ⟨⟨_, rfl⟩, rfl, hD_MAKERS_10⟩ .nil)))))))))))⟩, (by show ([Str.ofString "run", Str.ofString "branch", Str.ofString "fence", Str.ofString "room", Str.ofString "wants", Str.ofString "fall", Str.ofString "sum", Str.ofString "dry", Str.ofString "wet", Str.ofString "kept", Str.ofString "most"] : List Str).Nodup; decide +kernel), sD_MAKERS⟩, ⟨_, PySem.W.mg_of X G g_MOST_SIGNS⟩, ⟨_, PySem.W.mg_of X G g_MOST_BEADS⟩, ⟨_, PySem.W.mg_of X G g_LEAST_BOWLS⟩, ⟨_, PySem.W.mg_of X G g_MOST_BOWLS⟩, ⟨_, PySem.W.mg_of X G g_MOST_DOORS⟩⟩
  exact ⟨d_law, hb, fun base _ _ => ok_law T⟩
theorem walk {l : PySem.W.OpenLaw} {q : Program} {loose : List Str} {XP : (Str → Option Value) → Heap → Prop} {YP : World → Heap → Prop} {d : DefRec} {K : Params → PySem.W.Frag} (hn : l.most = some 63) (hdf : d.params.defaults = [])
    (hY : ∀ (w : World) (h : Heap), YP w h → (K w.params).In h)
    (F : ∀ (w : World) (mg : Str → Option Value) (fa : Addr) (h : Heap), (K w.params).In h → h.Ns mainGlobals mg → mg d.name = some (.ref fa) →
      ∃ fd : FuncData, (∀ (s : Shared) (u : Value), BindsTo s fd ⟨[u], []⟩ [("script", u)]) ∧ ∀ base : Heap, (K w.params).In base → base.Ns mainGlobals mg → FnOk l.prog w (K w.params) mg base CX0 11 fa fd ["script"] (sp_law (K w.params))) :
    PySem.W.WalkO q loose XP YP l.row.toRowW d [] (fun f vs => PySem.call f vs) :=
  L2.walk_of (n := 63) (k := 11) (x := "script") (CX := fun _ => CX0) (sp := fun w => sp_law (K w.params)) hn (by decide) hdf ⟨rfl, by decide, by decide⟩ hY F (fun _ _ a ns hl _ hS => ⟨a, ns, rfl, hS, hl, fun _ => rfl⟩) fun _ _ _ _ _ z => z
theorem walkX_of {q : Program} {loose : List Str} {XP : (Str → Option Value) → Heap → Prop} {α : Type} {Yf : Shared → α} {Ya : World → α} {r : PySem.W.RowW} {d : DefRec} {kwd : List (Str × Expr)} {run : Value → List Value → Sem Value} {YP : World → Heap → Prop}
    (hY : ∀ (w : World) (s₀ s₁ : Shared) (args : List PySem.W.WData) (vals : List Value) (as : List Addr), Yf s₀ = Ya w → PySem.W.Laid r.records w s₀ s₁ args vals as → YP w s₁.heap) (h : PySem.W.WalkO q loose XP YP r d kwd run) : PySem.W.WalkX q loose XP Yf Ya r d kwd run :=
  fun w s₀ s₁ mg mb G Y a o pm cd doc dV kV h2 h3 h4 h5 h6 hg args vals as L hpre hlay hrd hwl hlo => h w s₀ s₁ mg mb G (hY w s₀ s₁ args vals as Y L) a o pm cd doc dV kV h2 h3 h4 h5 h6 hg args vals as hpre hlay hrd hwl hlo
end Law
open PySem PySem.W PyProof.Rows
set_option maxRecDepth 100000 in
set_option maxHeartbeats 0 in
theorem PySem.Challenge.cw_beadhall_k86_well_made_holds : PySem.Challenge.rw_beadhall_k86_well_made.Holds := by
  w_on; o_law; z_head; (case hw => w_witness2)
  k_fill
  refine Law.walkX_of (fun w s₀ s₁ args vals as Y L => PySem.W.InK.keeps w s₀.heap s₁.heap (PySem.W.X.z_facts (by intro P; kernel_rfl) Y).2.1 L.keeps) (Law.walk (l := PySem.Challenge.rw_beadhall_k86_well_made) rfl rfl (fun w h Y => Y) ?F)
  case F =>
    intro w mg fa h KX G hmg
    refine' Law.all_mk KX G hmg ?_ ?_ ?_ ?_ ?_ ?_ ?_ ?_ ?_ ?_ ?_ ?_ ?_ ?_ ?_ ?_ ?_ ?_ ?_ ?_ ?_ ?_ ?_ ?_ ?_ ?_ ?_ ?_ ?_ ?_ ?_ ?_ ?_ ?_ ?_ ?_ ?_ ?_ ?_ ?_ ?_ ?_ ?_ ?_ ?_ ?_ ?_ ?_ ?_ ?_ ?_ ?_ ?_ ?_ ?_ ?_ ?_ ?hD_BOUNDS_0 ?hD_BOUNDS_1 ?hD_BOUNDS_2 ?sD_BOUNDS ?_ ?_ ?hD_MAKERS_0 ?hD_MAKERS_1 ?hD_MAKERS_2 ?hD_MAKERS_3 ?hD_MAKERS_4 ?hD_MAKERS_5 ?hD_MAKERS_6 ?hD_MAKERS_7 ?hD_MAKERS_8 ?hD_MAKERS_9 ?hD_MAKERS_10 ?sD_MAKERS ?_ ?_ ?_ ?_ ?_ ?_ ?_ ?_ ?_ ?_ ?_ ?_ ?_ ?_ ?_ ?_ ?_ ?hb
    all_goals try (first | exact L2.df_mk KX G (by k_is) (by k_is) (by k_is) (by k_is) (by first | exact L2.bnd_1 fun _ => rfl | exact L2.bnd_2 fun _ _ => rfl | exact L2.bnd_3 fun _ _ _ => rfl | exact L2.bnd_4 fun _ _ _ _ => rfl | exact L2.bnd_5 fun _ _ _ _ _ => rfl | exact L2.bnd_6 fun _ _ _ _ _ _ => rfl | exact L2.bnd_7 fun _ _ _ _ _ _ _ => rfl | exact L2.bnd_0 rfl) | k_is | with_reducible rfl)
    try (case hD_BOUNDS_0 => rfl)
    try (case hD_BOUNDS_1 => rfl)
    try (case hD_BOUNDS_2 => rfl)
    try (case sD_BOUNDS => rfl)
    try (case hD_MAKERS_0 => rfl)
    try (case hD_MAKERS_1 => rfl)
    try (case hD_MAKERS_2 => rfl)
    try (case hD_MAKERS_3 => rfl)
    try (case hD_MAKERS_4 => rfl)
    try (case hD_MAKERS_5 => rfl)
    try (case hD_MAKERS_6 => rfl)
    try (case hD_MAKERS_7 => rfl)
    try (case hD_MAKERS_8 => rfl)
    try (case hD_MAKERS_9 => rfl)
    try (case hD_MAKERS_10 => rfl)
    try (case sD_MAKERS => rfl)
    exact fun s v => .of_eq rfl
