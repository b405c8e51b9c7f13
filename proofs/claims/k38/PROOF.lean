import PyProof.Rows.All
import Wide.All
import OpenK.AllK
import Wide.FinOn
import Lean
import PyProof.EqAt
import PyProof.EqKinds
import PyProof.TupleCall
import PySem.Challenge.RW_beadhall_k38_told_apart
set_option Elab.async false
set_option linter.all false
set_option maxRecDepth 100000
namespace L2
open PySem PySem.Spec PyProof.Rows

/-- a key: an int or a str -/
abbrev Key := Sum Int Str
def keyIs : Key → Value → Bool
  | .inl k, v => Value.isInt k v
  | .inr x, v => Value.isStrOf x v
def keyH (w : World) : Key → Int
  | .inl k => hashInt k
  | .inr x => hashStr w x
theorem keyIs_shape : ∀ {k : Key} {v : Value}, keyIs k v = true → (∃ i t, k = Sum.inl i ∧ v = Value.int i t) ∨ (∃ x t, k = Sum.inr x ∧ v = Value.str x t)
  | .inl i, v, h => by
    obtain ⟨t, e⟩ := Value.isInt_shape (k := i) (v := v) h
    exact .inl ⟨i, t, rfl, e⟩
  | .inr x, v, h => by
    obtain ⟨t, e⟩ := Value.isStrOf_shape (x := x) (v := v) h
    exact .inr ⟨x, t, rfl, e⟩
theorem keyIs_str (x : Str) (t : Tok) : keyIs (.inr x) (.str x t) = true := by simp [keyIs, Value.isStrOf]
theorem key_ll (a b : Int) : decide ((Sum.inl a : Key) = Sum.inl b) = (a == b) := by
  by_cases e : a = b
  · subst e; simp
  · have h : ¬ (Sum.inl a : Key) = Sum.inl b := fun q => e (Sum.inl.inj q)
    rw [decide_eq_false h]
    exact (beq_eq_false_iff_ne.mpr e).symm
theorem key_rr (a b : Str) : decide ((Sum.inr a : Key) = Sum.inr b) = decide (a = b) := by
  by_cases e : a = b
  · subst e; simp
  · have h : ¬ (Sum.inr a : Key) = Sum.inr b := fun q => e (Sum.inr.inj q)
    rw [decide_eq_false h, decide_eq_false e]
theorem key_lr (a : Int) (b : Str) : decide ((Sum.inl a : Key) = Sum.inr b) = false := decide_eq_false (fun q => nomatch q)
theorem key_rl (a : Str) (b : Int) : decide ((Sum.inr a : Key) = Sum.inl b) = false := decide_eq_false (fun q => nomatch q)

def mixKind (prog : Program) (w : World) : PySem.KeyKind prog w Key where
  is := keyIs
  hash := keyH w
  inj := fun v a b ha hb => by
    rcases keyIs_shape ha with ⟨i, t, rfl, rfl⟩ | ⟨x, t, rfl, rfl⟩
    · rcases keyIs_shape hb with ⟨j, u, rfl, e⟩ | ⟨y, u, rfl, e⟩
      · injection e with e1 _; rw [e1]
      · exact nomatch e
    · rcases keyIs_shape hb with ⟨j, u, rfl, e⟩ | ⟨y, u, rfl, e⟩
      · exact nomatch e
      · injection e with e1 _; rw [e1]
  byValue := fun k v h => by
    rcases keyIs_shape h with ⟨i, t, rfl, rfl⟩ | ⟨x, t, rfl, rfl⟩ <;> rfl
  pyHash := fun hv h => by
    rcases keyIs_shape hv with ⟨i, t, rfl, rfl⟩ | ⟨x, t, rfl, rfl⟩
    · exact wpAny_pyHash_int h
    · exact wpAny_pyHash_str h
  eqBool := fun hu hv h => by
    rcases keyIs_shape hu with ⟨i, t, rfl, rfl⟩ | ⟨x, t, rfl, rfl⟩
    · rcases keyIs_shape hv with ⟨j, u, rfl, rfl⟩ | ⟨y, u, rfl, rfl⟩
      · rw [key_ll] at h; exact wpAny_eqBool_int h
      · rw [key_lr] at h; exact SeqAt.EqAt.int_str i t y u _ _ _ _ h
    · rcases keyIs_shape hv with ⟨j, u, rfl, rfl⟩ | ⟨y, u, rfl, rfl⟩
      · rw [key_rl] at h; exact SeqAt.EqAt.str_int x t j u _ _ _ _ h
      · rw [key_rr] at h; exact wpAny_eqBool_str h
  «strs» := fun k x t v h => by
    rcases keyIs_shape h with ⟨i, u, rfl, e⟩ | ⟨y, u, rfl, e⟩
    · exact nomatch e
    · injection e with e1 _
      subst e1
      cases v <;> rfl

end L2

namespace L2
open PySem PySem.Spec PyProof.Rows

/-- a value, without the heap -/
inductive V where
  | non | bl (b : Bool) | int (i : Int) | str (x : Str) | byt (b : Array UInt8) | flt (b : UInt64) | ref (a : Addr) | ty (n : String)
  deriving DecidableEq

def RelV : V → Value → Prop
  | .non, u => u = Value.none
  | .bl b, u => u = Value.bool b
  | .int i, u => ∃ t, u = Value.int i t
  | .str x, u => ∃ t, u = Value.str x t
  | .byt b, u => ∃ t, u = Value.bytes b t
  | .flt b, u => ∃ t, u = Value.float b t
  | .ref a, u => u = Value.ref a
  | .ty n, u => u = Value.type n

abbrev Vals : List V → List Value → Prop := Paired RelV
theorem Vals.length {xs : List V} {us : List Value} (r : Vals xs us) : xs.length = us.length := Paired.length r
theorem Vals.get : ∀ {xs : List V} {us : List Value} {i : Nat} {x : V}, Vals xs us → xs[i]? = some x → ∃ u, us[i]? = some u ∧ RelV x u
  | _, _, _, _, .nil, e => by simp at e
  | _, _, 0, _, .cons r _, e => by simp at e; subst e; exact ⟨_, rfl, r⟩
  | _, _, i + 1, x, .cons _ t, e => by
    obtain ⟨u, h1, h2⟩ := Vals.get (i := i) (x := x) t (by simpa using e)
    exact ⟨u, by simpa using h1, h2⟩
theorem Vals.set {x : V} {u : Value} (r : RelV x u) : ∀ {xs : List V} {us : List Value} (i : Nat), Vals xs us → Vals (xs.set i x) (us.set i u)
  | _, _, _, .nil => .nil
  | _, _, 0, .cons _ t => .cons r t
  | _, _, i + 1, .cons q t => .cons q (Vals.set r i t)
theorem Vals.append : ∀ {xs ys : List V} {us ws : List Value}, Vals xs us → Vals ys ws → Vals (xs ++ ys) (us ++ ws)
  | _, _, _, _, .nil, s => s
  | _, _, _, _, .cons r t, s => .cons r (Vals.append t s)
theorem Vals.take : ∀ {xs : List V} {us : List Value} (n : Nat), Vals xs us → Vals (xs.take n) (us.take n)
  | _, _, 0, _ => .nil
  | _, _, _ + 1, .nil => .nil
  | _, _, n + 1, .cons r t => .cons r (Vals.take n t)
theorem Vals.drop : ∀ {xs : List V} {us : List Value} (n : Nat), Vals xs us → Vals (xs.drop n) (us.drop n)
  | _, _, 0, r => r
  | _, _, _ + 1, .nil => .nil
  | _, _, n + 1, .cons _ t => Vals.drop n t
def RelO : Option V → Option Value → Prop
  | some v, some u => RelV v u
  | none, none => True
  | _, _ => False
def KV {κ : Type} : List (κ × V) → List (κ × Value) → Prop := Paired fun (p : κ × V) (q : κ × Value) => p.1 = q.1 ∧ RelV p.2 q.2

/-- a key of a dict (00_mix): an int or a text -/
def kV : Key → V
  | .inl i => .int i
  | .inr x => .str x

/-- what stands at a tracked address -/
inductive HO where
  /-- a list -/
  | lst (xs : List V)
  /-- a tuple (never changes) -/
  | tup (xs : List V)
  /-- a dict whose keys are ints and texts; one whose keys are tuples of ints and texts (the empty one is both) -/
  | dK (kvs : List (Key × V)) | dT (kvs : List (List Key × V))
  /-- a set of ints: its members, its size -/
  | set (S : Int → Bool) (n : Nat)
  /-- an instance of the class at C, its dict at dx, its attributes -/
  | ins (C dx : Addr) (fs : List (Str × V))
  /-- the dict of the instance at x -/
  | own (x : Addr)
  /-- the dict of an exception -/
  | xd (fs : List (Str × V))
  /-- a bound method, f of x -/
  | met (f x : Addr)
  /-- a range object lo, lo + 1, .. below hi -/
  | rng (lo hi : Int)
  /-- a thing that is known to the object (the script; a dict while a loop walks it): read, never written while it is so -/
  | frz (o : Obj) (u : HO)
  /-- a code object's table -/
  | tbl (ps : Array Value)
  /-- any other thing, by what is true of its one object (a def of one's own: SetO a S n := HO.ext fun h => ..) -/
  | ext (φ : Heap → Prop)

abbrev Hp := Addr → Option HO
def upd (H : Hp) (a : Addr) (o : HO) : Hp := fun b => if b = a then some o else H b
theorem upd_same {H : Hp} {a : Addr} {o : HO} : upd H a o a = some o := by unfold upd; rw [if_pos rfl]
theorem upd_ne {H : Hp} {a b : Addr} {o : HO} (h : b ≠ a) : upd H a o b = H b := by unfold upd; rw [if_neg h]
/-- two objects of different content stand apart -/
theorem ne_of {H : Hp} {a b : Addr} {o u : HO} (h : H a = some o) (h' : H b = some u) (d : o ≠ u) : a ≠ b := by
  intro e; subst e; rw [h] at h'; exact d (Option.some.inj h')
theorem ne_of_none {H : Hp} {a b : Addr} {o : HO} (h : H a = some o) (h' : H b = none) : a ≠ b := by
  intro e; subst e; rw [h] at h'; cases h'

section
variable (P : Program) (w : World)
def ObjOk (H : Hp) (h : Heap) (a : Addr) : HO → Prop
  | .lst xs => xs.length ≤ sizeLine ∧ ∃ (its : List Value) (n : Nat), Vals xs its ∧ h.get? a = some { cls := .type "list", data := .seq its.toArray n }
  | .tup xs => xs.length ≤ sizeLine ∧ ∃ its : List Value, Vals xs its ∧ IsTup h a its.toArray
  | .dK kvs => kvs.length ≤ sizeLine ∧ (a == sysModules) = false ∧ ∃ vs, KV kvs vs ∧ h.DictOf (mixKind P w) a vs
  | .dT kvs => kvs.length ≤ sizeLine ∧ (a == sysModules) = false ∧ ∃ xs : List (List Key × Addr × Value),
      Paired (fun (p : List Key × V) (q : List Key × Addr × Value) => p.1 = q.1 ∧ H q.2.1 = some (.tup (p.1.map kV)) ∧ RelV p.2 q.2.2) kvs xs ∧
      ∃ o es ep, h.get? a = some o ∧ o.ExactDict ∧ o.data = .dict es ep ∧ es.toList = xs.map (entryOfKey (tupleKind (mixKind P w))) ∧ (xs.map (·.1)).Nodup
  | .set S n => h.SetOf (intKind P w) a S n
  | .ins C dx fs => H dx = some (.own a) ∧ fs.length ≤ 1000 ∧ dx ≠ a ∧ h.get? a = some (PySem.W.instObj C dx) ∧
      ∃ mA, h.Ns1 dx mA ∧ (∀ f, RelO (fs.lookup f) (mA f)) ∧ PySem.Within mA (fs.map (·.1))
  | .own _ => ∃ o, h.get? a = some o
  | .xd fs => ∃ mA, h.Ns1 a mA ∧ ∀ f, RelO (fs.lookup f) (mA f)
  | .rng lo hi => ∃ t u v, h.get? a = some { cls := .type "range", data := .fields #[.int lo t, .int hi u, .int 1 v] }
  | .frz o u => h.get? a = some o ∧ ObjOk H h a u
  | .tbl ps => h.get? a = some { cls := .none, data := .fields ps }
  | .met f x => h.get? a = some (PySem.W.methodObj (.ref f) (.ref x))
  | .ext φ => φ h ∧ (∃ o, h.get? a = some o) ∧ ∀ h1 h2 : Heap, φ h1 → (∀ o, h1.get? a = some o → h2.get? a = some o) → φ h2
/-- the abstract heap is held -/
def HOk (H : Hp) (h : Heap) : Prop := ∀ a o, H a = some o → ObjOk P w H h a o
end

section
variable {P : Program} {w : World} {H H' : Hp} {h h' : Heap} {a : Addr} {o : HO}
theorem ObjOk.lt (x : ObjOk P w H h a o) : a < h.objs.size := by
  cases o with
  | lst xs => obtain ⟨_, _, _, _, e⟩ := x; exact Heap.lt_size e
  | tup xs => obtain ⟨_, _, _, p⟩ := x; exact p.lt
  | dK kvs => obtain ⟨_, _, _, _, o, _, _, e, _⟩ := x; exact Heap.lt_size e
  | dT kvs => obtain ⟨_, _, _, _, o, _, _, e, _⟩ := x; exact Heap.lt_size e
  | set S n => obtain ⟨o, _, _, _, e, _⟩ := x; exact Heap.lt_size e
  | ins C dx fs => obtain ⟨_, _, _, e, _⟩ := x; exact Heap.lt_size e
  | own y => obtain ⟨_, e⟩ := x; exact Heap.lt_size e
  | xd fs => obtain ⟨_, ⟨_, _, _, e, _⟩, _⟩ := x; exact Heap.lt_size e
  | rng lo hi => obtain ⟨_, _, _, e⟩ := x; exact Heap.lt_size e
  | frz ob u => obtain ⟨e, _⟩ := x; exact Heap.lt_size e
  | tbl ps => exact Heap.lt_size (show h.get? a = some _ from x)
  | met f y => exact Heap.lt_size (show h.get? a = some _ from x)
  | ext φ => obtain ⟨_, ⟨_, e⟩, _⟩ := x; exact Heap.lt_size e
theorem Paired.mapP {α β : Type} {F G : α → β → Prop} : ∀ {l₁ : List α} {l₂ : List β}, Paired F l₁ l₂ → (∀ a b, F a b → G a b) → Paired G l₁ l₂
  | _, _, .nil, _ => .nil
  | _, _, .cons r t, f => .cons (f _ _ r) (Paired.mapP t f)
/-- what an object's description leans on: its own object, its own dict, the tuples -/
theorem ObjOk.stay (x : ObjOk P w H h a o) (k : ∀ b u, (b = a ∨ H b = some (.own a)) → h.get? b = some u → h'.get? b = some u)
    (ho : ∀ b, H b = some (.own a) → H' b = some (.own a)) (ht : ∀ b xs, H b = some (.tup xs) → H' b = some (.tup xs)) : ObjOk P w H' h' a o := by
  induction o with
  | lst xs => obtain ⟨z, its, n, r, e⟩ := x; exact ⟨z, its, n, r, k _ _ (.inl rfl) e⟩
  | tup xs => obtain ⟨z, its, r, ob, e, c⟩ := x; exact ⟨z, its, r, ob, k _ _ (.inl rfl) e, c⟩
  | dK kvs => obtain ⟨z, y, vs, r, ob, es, ep, e, c⟩ := x; exact ⟨z, y, vs, r, ob, es, ep, k _ _ (.inl rfl) e, c⟩
  | dT kvs =>
    obtain ⟨z, y, xs, r, ob, es, ep, e, c⟩ := x
    exact ⟨z, y, xs, Paired.mapP r fun p q z => ⟨z.1, ht _ _ z.2.1, z.2.2⟩, ob, es, ep, k _ _ (.inl rfl) e, c⟩
  | set S n => obtain ⟨ob, es, ep, t, e, c⟩ := x; exact ⟨ob, es, ep, t, k _ _ (.inl rfl) e, c⟩
  | ins C dx fs =>
    obtain ⟨d, z, ne, e, mA, ⟨od, es, ep, e2, c⟩, r⟩ := x
    exact ⟨ho _ d, z, ne, k _ _ (.inl rfl) e, mA, ⟨od, es, ep, k _ _ (.inr d) e2, c⟩, r⟩
  | own y => obtain ⟨ob, e⟩ := x; exact ⟨ob, k _ _ (.inl rfl) e⟩
  | xd fs => obtain ⟨mA, ⟨od, es, ep, e, c⟩, r⟩ := x; exact ⟨mA, ⟨od, es, ep, k _ _ (.inl rfl) e, c⟩, r⟩
  | rng lo hi => obtain ⟨t, u, v, e⟩ := x; exact ⟨t, u, v, k _ _ (.inl rfl) e⟩
  | frz ob u ih => obtain ⟨e, q⟩ := x; exact ⟨k _ _ (.inl rfl) e, ih q⟩
  | tbl ps =>
    have e : h.get? a = some { cls := .none, data := .fields ps } := x
    show h'.get? a = some { cls := .none, data := .fields ps }
    exact k a _ (.inl rfl) e
  | met f y =>
    have e : h.get? a = some (PySem.W.methodObj (.ref f) (.ref y)) := x
    show h'.get? a = some (PySem.W.methodObj (.ref f) (.ref y))
    exact k a _ (.inl rfl) e
  | ext φ => obtain ⟨p, ⟨o, e⟩, st⟩ := x; exact ⟨st _ _ p fun o q => k _ _ (.inl rfl) q, ⟨o, k _ _ (.inl rfl) e⟩, st⟩
theorem HOk.lt (x : HOk P w H h) (e : H a = some o) : a < h.objs.size := (x a o e).lt
theorem HOk.fresh (x : HOk P w H h) (e : h.objs.size ≤ a) : H a = none := by
  cases q : H a with
  | none => rfl
  | some u => exact absurd (Nat.lt_of_lt_of_le (x.lt q) e) (Nat.lt_irrefl _)
/-- every object of the heap is kept -/
theorem HOk.kept (x : HOk P w H h) (k : ∀ b u, h.get? b = some u → h'.get? b = some u) : HOk P w H h' := fun a o e =>
  (x a o e).stay (fun b u _ q => k b u q) (fun _ q => q) fun _ _ q => q
/-- a new object is laid and tracked -/
theorem HOk.laid (x : HOk P w H h) (k : ∀ b u, h.get? b = some u → h'.get? b = some u) (hp : h.objs.size ≤ a) (new : ObjOk P w (upd H a o) h' a o) : HOk P w (upd H a o) h' := fun b u e => by
  have hn := x.fresh hp
  by_cases hb : b = a
  · subst hb; rw [upd_same] at e; cases e; exact new
  · rw [upd_ne hb] at e
    exact (x b u e).stay (fun c v _ q => k c v q) (fun c q => by rw [upd_ne (ne_of_none q hn)]; exact q) fun c xs q => by rw [upd_ne (ne_of_none q hn)]; exact q
end

/-- what may be read as u: it is u, or a known u -/
def Rd (H : Hp) (a : Addr) (u : HO) : Prop := H a = some u ∨ ∃ o, H a = some (.frz o u)
theorem Rd.of {H : Hp} {a : Addr} {u : HO} (h : H a = some u) : Rd H a u := .inl h
theorem Rd.ok {P : Program} {w : World} {H : Hp} {h : Heap} {a : Addr} {u : HO} (r : Rd H a u) (x : HOk P w H h) : ObjOk P w H h a u := by
  rcases r with r | ⟨o, r⟩
  · exact x a u r
  · obtain ⟨_, q⟩ := x a _ r
    exact q
/-- what may be written -/
def Mut : Option HO → Prop
  | some (.lst _) => True
  | some (.dK _) => True
  | some (.dT _) => True
  | some (.set _ _) => True
  | some (.ins _ _ _) => True
  | some (.ext _) => True
  | _ => False
section
variable {P : Program} {w : World} {H : Hp} {h h' : Heap} {x e : Addr} {o' : HO}
/-- the object at e is changed: x itself, or the dict of the instance x -/
theorem HOk.write (ok : HOk P w H h) (mu : Mut (H x)) (he : e = x ∨ H e = some (.own x)) (k : ∀ b u, b ≠ e → h.get? b = some u → h'.get? b = some u) (heo : ∃ u, h'.get? e = some u)
    (new : ObjOk P w (upd H x o') h' x o') : HOk P w (upd H x o') h' := fun b u q => by
  have nown : ∀ c y, H c = some (.own y) → c ≠ x := fun c y r z => by subst z; rw [r] at mu; exact mu
  have ntup : ∀ c xs, H c = some (.tup xs) → c ≠ x := fun c xs r z => by subst z; rw [r] at mu; exact mu
  by_cases hb : b = x
  · subst hb; rw [upd_same] at q; cases q; exact new
  · rw [upd_ne hb] at q
    by_cases hbe : b = e
    · have q' : H b = some (.own x) := by
        rcases he with z | z
        · exact absurd (hbe.trans z) hb
        · rw [hbe]; exact z
      rw [q] at q'; cases q'
      obtain ⟨v, hv⟩ := heo
      exact ⟨v, by rw [hbe]; exact hv⟩
    · refine (ok b u q).stay (fun c v hc r => k c v ?_ r) (fun c r => by rw [upd_ne (nown c b r)]; exact r) fun c xs r => by rw [upd_ne (ntup c xs r)]; exact r
      rcases hc with rfl | hc
      · exact hbe
      · rintro rfl
        rcases he with z | z
        · exact nown c b hc z
        · rw [hc] at z; cases z; exact hb rfl
end

structure Un (fs ex : List Addr) (H H' : Hp) (h h' : Heap) : Prop where
  keep : ∀ b o, h.get? b = some o → H b = none → b ∉ fs → b ∉ ex → h'.get? b = some o
  slot : ∀ b o, h.get? b = some o → H b = none → b ∈ fs → b ∉ ex → ∃ sl, h'.get? b = some { o with slots := sl }
  free : ∀ b o, h.get? b = some o → H b = none → b ∉ ex → H' b = none
  there : ∀ b o, h.get? b = some o → b ∉ ex → ∃ o', h'.get? b = some o'
  tups : ∀ b xs, H b = some (.tup xs) → H' b = some (.tup xs)
  frzs : ∀ b o u, H b = some (.frz o u) → H' b = some (.frz o u)
  tbls : ∀ b ps, H b = some (.tbl ps) → ∃ more, H' b = some (.tbl (ps ++ more))
section
variable {fs fs' ex ex' : List Addr} {H H1 H2 : Hp} {h h1 h2 h' : Heap} {a x e : Addr} {o : HO}
theorem Un.any (u : Un fs ex H H1 h h1) {b : Addr} {ob : Obj} (q : h.get? b = some ob) (n : H b = none) (hx : b ∉ ex) : ∃ sl, h1.get? b = some { ob with slots := sl } := by
  by_cases hb : b ∈ fs
  · exact u.slot b ob q n hb hx
  · exact ⟨ob.slots, u.keep b ob q n hb hx⟩
theorem Un.trans (a : Un fs ex H H1 h h1) (b : Un fs ex H1 H2 h1 h2) : Un fs ex H H2 h h2 where
  keep := fun c ob q n hc hx => b.keep c ob (a.keep c ob q n hc hx) (a.free c ob q n hx) hc hx
  slot := fun c ob q n hc hx => by
    obtain ⟨sl, e1⟩ := a.slot c ob q n hc hx
    obtain ⟨sl', e2⟩ := b.slot c _ e1 (a.free c ob q n hx) hc hx
    exact ⟨sl', e2⟩
  free := fun c ob q n hx => by
    obtain ⟨o', e1⟩ := a.there c ob q hx
    exact b.free c o' e1 (a.free c ob q n hx) hx
  there := fun c ob q hx => by
    obtain ⟨o', e1⟩ := a.there c ob q hx
    exact b.there c o' e1 hx
  tups := fun c xs q => b.tups c xs (a.tups c xs q)
  frzs := fun c ob xs q => b.frzs c ob xs (a.frzs c ob xs q)
  tbls := fun c ps q => by
    obtain ⟨m1, e1⟩ := a.tbls c ps q
    obtain ⟨m2, e2⟩ := b.tbls c _ e1
    exact ⟨m1 ++ m2, by rw [e2, Array.append_assoc]⟩
theorem Un.kept (k : ∀ b u, h.get? b = some u → h'.get? b = some u) : Un fs ex H H h h' :=
  ⟨fun b ob q _ _ _ => k b ob q, fun b ob q _ _ _ => ⟨ob.slots, k b ob q⟩, fun _ _ _ n _ => n, fun b ob q _ => ⟨ob, k b ob q⟩, fun _ _ q => q, fun _ _ _ q => q, fun _ ps q => ⟨#[], by rw [q]; simp⟩⟩
theorem Un.refl : Un fs ex H H h h := Un.kept fun _ _ q => q
theorem Un.laid (k : ∀ b u, h.get? b = some u → h'.get? b = some u) (hp : h.objs.size ≤ a) (hn : H a = none) : Un fs ex H (upd H a o) h h' where
  keep := fun b u q _ _ _ => k b u q
  slot := fun b u q _ _ _ => ⟨u.slots, k b u q⟩
  free := fun b u q n _ => by rw [upd_ne (Nat.ne_of_lt (Nat.lt_of_lt_of_le (Heap.lt_size q) hp))]; exact n
  there := fun b u q _ => ⟨u, k b u q⟩
  tups := fun b xs q => by rw [upd_ne (ne_of_none q hn)]; exact q
  frzs := fun b u xs q => by rw [upd_ne (ne_of_none q hn)]; exact q
  tbls := fun b ps q => ⟨#[], by rw [upd_ne (ne_of_none q hn), q]; simp⟩
theorem Un.write (mu : Mut (H x)) (he : e = x ∨ H e = some (.own x)) (k : ∀ b u, b ≠ e → h.get? b = some u → h'.get? b = some u) (heo : ∃ u, h'.get? e = some u) : Un fs ex H (upd H x o) h h' := by
  have hx : ∀ b, H b = none → b ≠ x := fun b n z => by subst z; rw [n] at mu; exact mu
  have hb : ∀ b, H b = none → b ≠ e := fun b n z => by
    subst z
    rcases he with r | r
    · exact hx b n r
    · rw [n] at r; cases r
  have hm : ∀ b u, H b = some u → ¬ Mut (some u) → b ≠ x := fun b u q nm z => by subst z; rw [q] at mu; exact nm mu
  refine ⟨fun b u q n _ _ => k b u (hb b n) q, fun b u q n _ _ => ⟨u.slots, k b u (hb b n) q⟩, fun b u q n _ => by rw [upd_ne (hx b n)]; exact n, fun b u q _ => ?_,
    fun b xs q => by rw [upd_ne (hm b _ q fun z => z)]; exact q, fun b u xs q => by rw [upd_ne (hm b _ q fun z => z)]; exact q, fun b ps q => ⟨#[], by rw [upd_ne (hm b _ q fun z => z), q]; simp⟩⟩
  by_cases hbe : b = e
  · subst hbe; exact heo
  · exact ⟨u, k b u hbe q⟩
theorem Un.mono (u : Un fs ex H H1 h h1) (hs : ∀ b ∈ fs, b ∈ fs') (hx : ∀ b ∈ ex, b ∈ ex') : Un fs' ex' H H1 h h1 :=
  ⟨fun b ob q n hb he => u.keep b ob q n (fun z => hb (hs b z)) fun z => he (hx b z), fun _ _ q n _ he => u.any q n fun z => he (hx _ z), fun b ob q n he => u.free b ob q n fun z => he (hx b z), fun b ob q he => u.there b ob q fun z => he (hx b z), u.tups, u.frzs, u.tbls⟩
end

def trk (h : Heap) (H : Hp) : List Addr := (List.range h.objs.size).filter fun a => (H a).isSome
def hidT (h : Heap) (H : Hp) : Heap := PySem.W.hideAll h (trk h H)
theorem hidT_size (h : Heap) (H : Hp) : (hidT h H).objs.size = h.objs.size := PySem.W.hideAll_size _ _
theorem hidT_get {h : Heap} {H : Hp} {b : Addr} {o : Obj} (e : h.get? b = some o) (n : H b = none) : (hidT h H).get? b = some o :=
  PySem.W.hideAll_get _ e fun hm => by
    have q : (H b).isSome = true := (List.mem_filter.mp hm).2
    rw [n] at q; simp at q
theorem of_hidT {h : Heap} {H : Hp} {b : Addr} {o : Obj} (e : (hidT h H).get? b = some o) : h.get? b = some o ∧ H b = none := by
  have e' : h.get? b = some o := PySem.W.of_hideAll (trk h H) e
  refine ⟨e', ?_⟩
  cases q : H b with
  | none => rfl
  | some x =>
    have hm : b ∈ trk h H := List.mem_filter.mpr ⟨List.mem_range.mpr (Heap.lt_size e'), by simp [q]⟩
    have z : (hidT h H).get? b = none := PySem.W.hideAll_none (trk h H) hm
    rw [z] at e; cases e

def allNews (g h : Heap) (L : Addr) : List (Addr × Obj) := (List.range h.objs.size).filterMap fun a => if a = L ∨ (g.get? a).isSome = true then none else (h.get? a).map fun o => (a, o)
def rest (g h : Heap) (L d : Addr) : List (Addr × Obj) := (allNews g h L).filter fun p => decide (p.1 ≠ d)
end L2

namespace L2
open PySem PySem.Spec PyProof.Rows

/-- the module's facts, over the base: the heap at the law's entry without what is tracked there -/
structure Mod (K : PySem.W.Frag) (mg : Str → Option Value) (base : Heap) : Prop where
  kin : K.In base
  glob : base.Ns mainGlobals mg
  blt : ∃ mb, base.Ns builtinsNs mb ∧ ∀ x : Str, x ≠ "__name__" → mb x = bootBuiltins x
  nolimit : base.NoLimit

/-- the context: a def's body (or a comprehension's block) running. base: fixed through the whole law; s₀, H₀: the entry; outer: the frames whose slots others may change (a def's callers); stack: all frames that run;
   ex: iterators that were made ahead of the entry and are walked here (a comprehension's); fn: the names whose cells were made at the entry (a def: all; a comprehension's block: its own); calm: not within an except suite; pn: pins that every state bears; xe: what is wanted of an exception that leaves the code -/
structure Cx where
  prog : Program
  w : World
  K : PySem.W.Frag
  mg : Str → Option Value
  base : Heap
  A : Around
  N : List Str
  s₀ : Shared
  H₀ : Hp
  env : Env
  outer : List Env
  stack : List Env
  ex : List Addr
  fn : Str → Bool
  calm : Bool
  pn : List (Addr × Obj)
  xe : Value → Shared → Prop
/-- the callers' frames -/
def frs (l : List Env) : List Addr := l.filterMap (·.frame)
abbrev Cx.fs (X : Cx) : List Addr := frs X.outer

def Vis (sc : Scope) (x : Str) : Prop := sc.names.lookup x = some .local ∨ sc.names.lookup x = some .cell ∨ sc.names.lookup x = some .free
def Loc (sc : Scope) (x : Str) : Prop := sc.names.lookup x = some .local ∨ sc.names.lookup x = some .cell
def Look (env : Env) (h : Heap) (m : Str → Option Value) (x : Str) (u : Value) : Prop :=
  (env.kindOf x = some .local ∧ m x = some u) ∨ ((env.kindOf x = some .cell ∨ env.kindOf x = some .free) ∧ ∃ c, env.cells.lookup x = some c ∧ h.IsCell c (some u))

structure Cx.Ok (X : Cx) : Prop where
  mod : Mod X.K X.mg X.base
  kind : X.env.scope.kind = .function
  glob : X.env.globals = mainGlobals
  blt : X.env.builtins = builtinsNs
  above : X.s₀.heap.objs.size ≤ X.env.locals
  inj : ∀ x y c, X.env.cells.lookup x = some c → X.env.cells.lookup y = some c → x = y
  has : ∀ x, (X.env.kindOf x = some .cell ∨ X.env.kindOf x = some .free) → ∃ c, X.env.cells.lookup x = some c
  cab : ∀ x c, X.fn x = true → X.env.cells.lookup x = some c → X.s₀.heap.objs.size ≤ c
  hd : X.calm = true → X.A.handled = none
  frames : X.A.frames = some X.stack
  stk : X.stack = X.outer ∨ (X.stack = X.env :: X.outer ∧ X.env.frame = some X.env.locals)
  exf : ∀ b ∈ X.ex, b ≠ X.env.locals ∧ ∀ x c, X.env.cells.lookup x = some c → c ≠ b
  bs : ∀ b o, X.base.get? b = some o → X.s₀.heap.get? b = some o ∧ X.H₀ b = none
  bsz : X.base.objs.size ≤ X.s₀.heap.objs.size
  noex : ∀ b o, X.base.get? b = some o → b ∉ X.ex
  exfs : ∀ b ∈ X.ex, b ∉ X.fs
  funs : X.s₀.heap.FunFrames X.base X.outer
  frf : ∀ b ∈ X.fs, X.H₀ b = none

structure Inv (X : Cx) (pins : List (Addr × Obj)) (σ : List (Option V)) (H : Hp) (s : Shared) : Prop where
  ok : X.Ok
  os : s.os = X.s₀.os
  bare : AllBare s.gens
  base : Un X.fs X.ex X.H₀ H X.s₀.heap s.heap
  loc : ∃ m, s.heap.Ns X.env.locals m ∧ ∀ (i : Nat) (x : Str) (v : V), X.N[i]? = some x → σ[i]? = some (some v) → Vis X.env.scope x → ∃ u, RelV v u ∧ Look X.env s.heap m x u
  cell : ∀ x c, X.env.cells.lookup x = some c → ∃ v, s.heap.IsCell c v
  free : H X.env.locals = none
  freeC : ∀ x c, X.env.cells.lookup x = some c → H c = none
  pin : ∀ p ∈ X.pn ++ pins, s.heap.get? p.1 = some p.2 ∧ H p.1 = none ∧ p.1 ≠ X.env.locals ∧ p.1 ∉ X.fs ∧ ∀ v, p.2.data ≠ .cell v
  hok : HOk X.prog X.w H s.heap
  len : σ.length = X.N.length

section
variable {X : Cx} {pins : List (Addr × Obj)} {σ : List (Option V)} {H H' : Hp} {s : Shared} {h' : Heap}

theorem Cx.Ok.nofr (ok : X.Ok) {b : Addr} {o : Obj} (e : X.base.get? b = some o) : b ∉ X.fs := fun hb => by
  have := (ok.funs.mem hb).1
  rw [e] at this; cases this
theorem Inv.bs (I : Inv X pins σ H s) : ∀ b o, X.base.get? b = some o → s.heap.get? b = some o ∧ H b = none := fun b o e =>
  ⟨I.base.keep b o (I.ok.bs b o e).1 (I.ok.bs b o e).2 (I.ok.nofr e) (I.ok.noex b o e), I.base.free b o (I.ok.bs b o e).1 (I.ok.bs b o e).2 (I.ok.noex b o e)⟩
theorem Inv.bk (I : Inv X pins σ H s) : ∀ b o, X.base.get? b = some o → s.heap.get? b = some o := fun b o e => (I.bs b o e).1
theorem Inv.mod (I : Inv X pins σ H s) : Mod X.K X.mg X.base := I.ok.mod
theorem Inv.kIn (I : Inv X pins σ H s) : X.K.In s.heap := I.ok.mod.kin.keeps I.bk
theorem Inv.nolimit (I : Inv X pins σ H s) : s.heap.NoLimit := I.ok.mod.nolimit.keeps I.bk
/-- the frame over the base: for OpenK's rules (K.In X.base is I.mod.kin) -/
theorem Inv.fr (I : Inv X pins σ H s) : ∃ m, Fr X.base X.env.locals s.heap m :=
  let ⟨m, hn, _⟩ := I.loc
  ⟨m, hn, I.bk, Nat.le_trans I.ok.bsz I.ok.above⟩
theorem Inv.lt (I : Inv X pins σ H s) : X.env.locals < s.heap.objs.size := let ⟨_, hn, _⟩ := I.loc; hn.lt
theorem Inv.sz (I : Inv X pins σ H s) : X.s₀.heap.objs.size ≤ s.heap.objs.size := Nat.le_trans I.ok.above (Nat.le_of_lt I.lt)
theorem Inv.nofs (I : Inv X pins σ H s) {a : Addr} (h : s.heap.objs.size ≤ a) : a ∉ X.fs := fun hb => by
  obtain ⟨_, o, ho, _⟩ := I.ok.funs.mem hb
  exact absurd (Nat.lt_of_lt_of_le (Heap.lt_size ho) (Nat.le_trans I.sz h)) (Nat.lt_irrefl _)
theorem Inv.cne (I : Inv X pins σ H s) : ∀ x c, X.env.cells.lookup x = some c → c ≠ X.env.locals := fun x c e z => by
  obtain ⟨v, o, ho, hd⟩ := I.cell x c e
  obtain ⟨m, ⟨o', es, ep, ho', hd', _⟩, _⟩ := I.loc
  rw [z, ho'] at ho; cases ho; rw [hd'] at hd; cases hd
theorem Inv.funs (I : Inv X pins σ H s) : s.heap.FunFrames X.base X.outer := by
  have all : ∀ (l : List Env), (∀ b ∈ frs l, b ∈ X.fs) → X.s₀.heap.FunFrames X.base l → s.heap.FunFrames X.base l := by
    intro l
    induction l with
    | nil => intro _ _; trivial
    | cons env r ih =>
      intro hs hl
      obtain ⟨hk, ⟨L, o, hf, hn, ho, hd⟩, hr⟩ := hl
      have hL : L ∈ X.fs := hs L (by unfold frs; rw [List.filterMap_cons, hf]; exact List.mem_cons_self)
      obtain ⟨sl, e⟩ := I.base.slot L o ho (I.ok.frf L hL) hL fun z => I.ok.exfs L z hL
      exact ⟨hk, ⟨L, _, hf, hn, e, hd⟩, ih (fun b hb => hs b (by unfold frs; rw [List.filterMap_cons, hf]; exact List.mem_cons_of_mem _ hb)) hr⟩
  exact all X.outer (fun _ hb => hb) I.ok.funs

/-- the frames that run, for a call -/
theorem Inv.stack (I : Inv X pins σ H s) : s.heap.FunFrames X.base X.stack := by
  rcases I.ok.stk with e | ⟨e, hf⟩
  · rw [e]; exact I.funs
  · rw [e]
    obtain ⟨m, hn, _⟩ := I.loc
    refine .cons (by rw [I.ok.kind]; decide) hf hn ?_ I.funs
    exact Heap.get?_none_of_le (Nat.le_trans I.ok.bsz I.ok.above)
theorem Inv.stkSub (I : Inv X pins σ H s) : ∀ b ∈ frs X.stack, b ∈ X.env.locals :: X.fs := fun b hb => by
  rcases I.ok.stk with e | ⟨e, hf⟩
  · rw [e] at hb; exact List.mem_cons_of_mem _ hb
  · rw [e] at hb
    unfold frs at hb
    rw [List.filterMap_cons, hf] at hb
    exact hb
theorem Inv.stkFree (I : Inv X pins σ H s) : ∀ b ∈ frs X.stack, H b = none := fun b hb => by
  rcases List.mem_cons.mp (I.stkSub b hb) with e | hb
  · rw [e]; exact I.free
  · obtain ⟨_, o, ho, _⟩ := I.ok.funs.mem hb
    exact I.base.free b o ho (I.ok.frf b hb) fun z => I.ok.exfs b z hb

/-- THE STEP: the untracked objects but the frame and the records at ch are kept (the callers' frames up to slots), the frame's map is kept, the new abstract heap is held -/
theorem Inv.step {g' : Array GenState} {t' : Nat} {d' : Drawn} {ch : List Addr} (I : Inv X pins σ H s)
    (hch : ∀ b ∈ ch, (b ∈ X.ex ∨ X.s₀.heap.objs.size ≤ b) ∧ b ≠ X.env.locals ∧ (∀ x c, X.env.cells.lookup x = some c → c ≠ b) ∧ ∀ p ∈ X.pn ++ pins, p.1 ≠ b)
    (keep : ∀ b o, b ≠ X.env.locals → b ∉ X.fs → b ∉ ch → s.heap.get? b = some o → H b = none → h'.get? b = some o)
    (slot : ∀ b o, b ≠ X.env.locals → b ∈ X.fs → b ∉ ch → s.heap.get? b = some o → H b = none → ∃ sl, h'.get? b = some { o with slots := sl }) (free : ∀ b o, b ∉ ch → s.heap.get? b = some o → H b = none → H' b = none)
    (there : ∀ b o, b ∉ ch → s.heap.get? b = some o → ∃ o', h'.get? b = some o')
    (tups : ∀ b xs, H b = some (.tup xs) → H' b = some (.tup xs)) (frzs : ∀ b o u, H b = some (.frz o u) → H' b = some (.frz o u)) (tbls : ∀ b ps, H b = some (.tbl ps) → ∃ more, H' b = some (.tbl (ps ++ more)))
    (ns : ∀ m, s.heap.Ns X.env.locals m → h'.Ns X.env.locals m) (hok : HOk X.prog X.w H' h') (hg : AllBare g') :
    Inv X pins σ H' { s with heap := h', gens := g', drawn := d', toks := t' } := by
  have neL : ∀ b o, X.s₀.heap.get? b = some o → b ≠ X.env.locals := fun b o e => Nat.ne_of_lt (Nat.lt_of_lt_of_le (Heap.lt_size e) I.ok.above)
  have neC : ∀ b o, X.s₀.heap.get? b = some o → b ∉ X.ex → b ∉ ch := fun b o e hx hb => by
    rcases (hch b hb).1 with z | z
    · exact hx z
    · exact absurd (Nat.lt_of_lt_of_le (Heap.lt_size e) z) (Nat.lt_irrefl _)
  have cellK : ∀ x c, X.env.cells.lookup x = some c → ∀ v, s.heap.IsCell c v → h'.IsCell c v := fun x c e v ⟨o, ho, hd⟩ => by
    have nch : c ∉ ch := fun z => (hch c z).2.2.1 x c e rfl
    by_cases hc : c ∈ X.fs
    · obtain ⟨sl, q⟩ := slot c o (I.cne x c e) hc nch ho (I.freeC x c e)
      exact ⟨_, q, hd⟩
    · exact ⟨o, keep c o (I.cne x c e) hc nch ho (I.freeC x c e), hd⟩
  refine ⟨I.ok, I.os, hg, ⟨fun b o e n hb hx => ?_, fun b o e n hb hx => ?_, fun b o e n hx => ?_, fun b o e hx => ?_, fun b xs e => tups b xs (I.base.tups b xs e), fun b o xs e => frzs b o xs (I.base.frzs b o xs e), fun b ps e => ?_⟩, ?_, fun x c e => ?_, ?_, fun x c e => ?_, fun p hp => ?_, hok, I.len⟩
  · exact keep b o (neL b o e) hb (neC b o e hx) (I.base.keep b o e n hb hx) (I.base.free b o e n hx)
  · obtain ⟨sl, e1⟩ := I.base.slot b o e n hb hx
    obtain ⟨sl', e2⟩ := slot b _ (neL b o e) hb (neC b o e hx) e1 (I.base.free b o e n hx)
    exact ⟨sl', e2⟩
  · obtain ⟨o', e1⟩ := I.base.there b o e hx
    exact free b o' (neC b o e hx) e1 (I.base.free b o e n hx)
  · obtain ⟨o', e1⟩ := I.base.there b o e hx
    exact there b o' (neC b o e hx) e1
  · obtain ⟨m1, e1⟩ := I.base.tbls b ps e
    obtain ⟨m2, e2⟩ := tbls b _ e1
    exact ⟨m1 ++ m2, by rw [e2, Array.append_assoc]⟩
  · obtain ⟨m, hn, hl⟩ := I.loc
    refine ⟨m, ns m hn, fun i x v e1 e2 e3 => ?_⟩
    obtain ⟨u, r, l⟩ := hl i x v e1 e2 e3
    refine ⟨u, r, ?_⟩
    rcases l with l | ⟨k, c, e, z⟩
    · exact .inl l
    · exact .inr ⟨k, c, e, cellK x c e _ z⟩
  · obtain ⟨v, z⟩ := I.cell x c e
    exact ⟨v, cellK x c e v z⟩
  · obtain ⟨m, ⟨o, _, _, ho, _⟩, _⟩ := I.loc
    exact free _ o (fun z => (hch _ z).2.1 rfl) ho I.free
  · obtain ⟨v, o, ho, hd⟩ := I.cell x c e
    exact free c o (fun z => (hch c z).2.2.1 x c e rfl) ho (I.freeC x c e)
  · obtain ⟨e, n, ne, nf, d⟩ := I.pin p hp
    have nch : p.1 ∉ ch := fun z => (hch p.1 z).2.2.2 p hp rfl
    exact ⟨keep p.1 p.2 ne nf nch e n, free p.1 p.2 nch e n, ne, nf, d⟩
/-- .. where the frame's own object is kept too -/
theorem Inv.un {t' : Nat} (I : Inv X pins σ H s) (u : Un X.fs [] H H' s.heap h') (hok : HOk X.prog X.w H' h') : Inv X pins σ H' { s with heap := h', toks := t' } := by
  obtain ⟨m, ⟨o, es, ep, ho, r⟩, _⟩ := id I.loc
  obtain ⟨sl, hL⟩ := u.any ho I.free (by simp)
  exact I.step (g' := s.gens) (d' := s.drawn) (ch := []) (fun _ z => nomatch z) (fun b o _ hb _ e n => u.keep b o e n hb (by simp)) (fun b o _ hb _ e n => u.slot b o e n hb (by simp)) (fun b o _ e n => u.free b o e n (by simp)) (fun b o _ e => u.there b o e (by simp)) u.tups u.frzs u.tbls (fun m' hm => by
    obtain ⟨o', es', ep', ho', r'⟩ := hm
    rw [ho] at ho'; cases ho'
    exact ⟨_, es', ep', hL, r'⟩) hok I.bare
/-- behind a call (or a comprehension's block): the slots of this frame may have changed too, the records at ch may have turned -/
theorem Inv.call {g' : Array GenState} {t' : Nat} {d' : Drawn} {ch : List Addr} (I : Inv X pins σ H s) (u : Un (frs X.stack) ch H H' s.heap h') (hok : HOk X.prog X.w H' h') (hg : AllBare g')
    (hch : ∀ b ∈ ch, (b ∈ X.ex ∨ X.s₀.heap.objs.size ≤ b) ∧ b ≠ X.env.locals ∧ (∀ x c, X.env.cells.lookup x = some c → c ≠ b) ∧ ∀ p ∈ X.pn ++ pins, p.1 ≠ b) :
    Inv X pins σ H' { s with heap := h', gens := g', drawn := d', toks := t' } := by
  obtain ⟨m, ⟨o, es, ep, ho, r⟩, _⟩ := id I.loc
  obtain ⟨sl, hL⟩ := u.any ho I.free fun z => (hch _ z).2.1 rfl
  exact I.step (ch := ch) hch (fun b o hL hb hc e n => u.keep b o e n (fun z => (List.mem_cons.mp (I.stkSub b z)).elim hL hb) hc) (fun b o _ _ hc e n => u.any e n hc) (fun b o hc e n => u.free b o e n hc) (fun b o hc e => u.there b o e hc) u.tups u.frzs u.tbls (fun m' hm => by
    obtain ⟨o', es', ep', ho', r'⟩ := hm
    rw [ho] at ho'; cases ho'
    exact ⟨_, es', ep', hL, r'⟩) hok hg
/-- an untracked record of ours (an iterator) has turned -/
theorem Inv.turned {t' : Nat} {it : Addr} (I : Inv X pins σ H s) (k : ∀ b o, b ≠ it → s.heap.get? b = some o → h'.get? b = some o) (hn : H it = none) (hL : it ≠ X.env.locals)
    (h1 : it ∈ X.ex ∨ X.s₀.heap.objs.size ≤ it) (h2 : ∀ x c, X.env.cells.lookup x = some c → c ≠ it) (h3 : ∀ p ∈ X.pn ++ pins, p.1 ≠ it) : Inv X pins σ H { s with heap := h', toks := t' } := by
  have nit : ∀ b u, H b = some u → b ≠ it := fun b u e z => by rw [z, hn] at e; cases e
  refine I.step (g' := s.gens) (d' := s.drawn) (ch := [it]) (fun b hb => ?_) (fun b o _ _ hc e _ => k b o (fun z => hc (by simp [z])) e) (fun b o _ _ hc e _ => ⟨o.slots, k b o (fun z => hc (by simp [z])) e⟩) (fun _ _ _ _ n => n)
    (fun b o hc e => ⟨o, k b o (fun z => hc (by simp [z])) e⟩) (fun _ _ e => e) (fun _ _ _ e => e) (fun b ps e => ⟨#[], by rw [e]; simp⟩) (fun m hm => ?_) (fun b u e => ?_) I.bare
  · have e : b = it := by simpa using hb
    subst e
    exact ⟨h1, hL, h2, h3⟩
  · obtain ⟨o, es, ep, ho, r⟩ := hm
    exact ⟨o, es, ep, k _ o (Ne.symm hL) ho, r⟩
  · refine (I.hok b u e).stay (fun c v hc q => k c v ?_ q) (fun _ q => q) fun _ _ q => q
    rcases hc with z | z
    · rw [z]; exact nit b u e
    · exact nit c _ z
theorem Inv.tok (I : Inv X pins σ H s) (t : Nat) : Inv X pins σ H { s with toks := t } := I.un (h' := s.heap) (t' := t) Un.refl I.hok
/-- all objects kept -/
theorem Inv.kept {t' : Nat} (I : Inv X pins σ H s) (k : ∀ b u, s.heap.get? b = some u → h'.get? b = some u) : Inv X pins σ H { s with heap := h', toks := t' } := I.un (Un.kept k) (I.hok.kept k)
/-- a new object laid and tracked -/
theorem Inv.laid {a : Addr} {o : HO} {t' : Nat} (I : Inv X pins σ H s) (k : ∀ b u, s.heap.get? b = some u → h'.get? b = some u) (hp : s.heap.objs.size ≤ a) (new : ObjOk X.prog X.w (upd H a o) h' a o) :
    Inv X pins σ (upd H a o) { s with heap := h', toks := t' } := I.un (Un.laid k hp (I.hok.fresh hp)) (I.hok.laid k hp new)
/-- an object written -/
theorem Inv.write {x e : Addr} {o : HO} {t' : Nat} (I : Inv X pins σ H s) (mu : Mut (H x)) (he : e = x ∨ H e = some (.own x)) (k : ∀ b u, b ≠ e → s.heap.get? b = some u → h'.get? b = some u) (heo : ∃ u, h'.get? e = some u)
    (new : ObjOk X.prog X.w (upd H x o) h' x o) : Inv X pins σ (upd H x o) { s with heap := h', toks := t' } := I.un (Un.write mu he k heo) (I.hok.write mu he k heo new)
theorem Inv.pins_of {pins' : List (Addr × Obj)} (I : Inv X pins σ H s) (h : ∀ p ∈ pins', s.heap.get? p.1 = some p.2 ∧ H p.1 = none ∧ p.1 ≠ X.env.locals ∧ p.1 ∉ X.fs ∧ ∀ v, p.2.data ≠ .cell v) : Inv X pins' σ H s :=
  ⟨I.ok, I.os, I.bare, I.base, I.loc, I.cell, I.free, I.freeC, fun p hp => (List.mem_append.mp hp).elim (fun z => I.pin p (List.mem_append_left _ z)) (h p), I.hok, I.len⟩

theorem nodup_ix {N : List Str} (hN : N.Nodup) {i j : Nat} {x : Str} (a : N[i]? = some x) (b : N[j]? = some x) : i = j := by
  obtain ⟨h1, e1⟩ := List.getElem?_eq_some_iff.mp a
  obtain ⟨h2, e2⟩ := List.getElem?_eq_some_iff.mp b
  exact (List.getElem_inj hN).mp (e1.trans e2.symm)

/-- a name is stored; what changed -/
theorem store_ok2 {M : Model} {A : Around} {E : Value → Shared → Prop} {i : Nat} {x : Str} {v : V} {u : Value} {Q : Unit → Shared → Prop} (I : Inv X pins σ H s) (hN : X.N.Nodup) (hi : X.N[i]? = some x) (hx : Loc X.env.scope x) (r : RelV v u)
    (h : ∀ s', Inv X pins (σ.set i (some v)) H s' → (∃ a, Heap.SameBut a s.heap s'.heap ∧ (a = X.env.locals ∨ X.env.cells.lookup x = some a)) → Q () s') (hf : X.fn x = true ∨ X.env.scope.names.lookup x = some .local := by first | exact .inl rfl | exact .inr rfl | assumption) : wpAny M A (storeName X.env x u) Q E s := by
  obtain ⟨m, hn, hl⟩ := id I.loc
  have hcls : (X.env.scope.kind == .class || (X.env.scope.kind == .module && X.env.locals != X.env.globals)) = false := by rw [I.ok.kind]; rfl
  have hiσ : i < σ.length := by rw [I.len]; exact (List.getElem?_eq_some_iff.mp hi).1
  have cne := I.cne
  have tracked : ∀ {a : Addr} {h' : Heap}, (∃ o, s.heap.get? a = some o ∧ H a = none) → Heap.SameBut a s.heap h' → HOk X.prog X.w H h' := fun {a h'} ha hs b ob e => by
    obtain ⟨_, _, hfree⟩ := ha
    refine (I.hok b ob e).stay (fun c w' hc q => (hs.2 c ?_).trans q) (fun _ q => q) fun _ _ q => q
    rintro rfl
    rcases hc with rfl | hc
    · rw [hfree] at e; cases e
    · rw [hfree] at hc; cases hc
  rcases hx with hk | hk
  · refine wpAny_storeName_local hk hn (fun h' hn' hs => ?_) hcls
    obtain ⟨oL, _, _, hoL, _⟩ := id hn
    refine h _ ⟨I.ok, I.os, I.bare, ⟨fun b o e n hb hx => ?_, fun b o e n hb hx => ?_, I.base.free, fun b o e hx => ?_, I.base.tups, I.base.frzs, I.base.tbls⟩, ⟨_, hn', fun j y v' e1 e2 e3 => ?_⟩, fun y c e => ?_, I.free, I.freeC, fun p hp => ?_, tracked ⟨oL, hoL, I.free⟩ hs, by simpa using I.len⟩ ⟨_, hs, .inl rfl⟩
    · exact (hs.2 b (Nat.ne_of_lt (Nat.lt_of_lt_of_le (Heap.lt_size e) I.ok.above))).trans (I.base.keep b o e n hb hx)
    · obtain ⟨sl, e1⟩ := I.base.slot b o e n hb hx
      exact ⟨sl, (hs.2 b (Nat.ne_of_lt (Nat.lt_of_lt_of_le (Heap.lt_size e) I.ok.above))).trans e1⟩
    · obtain ⟨o', e1⟩ := I.base.there b o e hx
      exact ⟨o', (hs.2 b (Nat.ne_of_lt (Nat.lt_of_lt_of_le (Heap.lt_size e) I.ok.above))).trans e1⟩
    · by_cases hj : j = i
      · subst hj
        rw [hi] at e1; cases e1
        rw [List.getElem?_set_self hiσ] at e2
        cases e2
        exact ⟨u, r, .inl ⟨hk, by simp⟩⟩
      · rw [List.getElem?_set_ne (Ne.symm hj)] at e2
        obtain ⟨u', r', q⟩ := hl j y v' e1 e2 e3
        refine ⟨u', r', ?_⟩
        rcases q with ⟨k, e⟩ | ⟨k, c, e, z⟩
        · refine .inl ⟨k, ?_⟩
          have : y ≠ x := fun e => hj (nodup_ix hN e1 (e ▸ hi))
          simp [this, e]
        · exact .inr ⟨k, c, e, z.sameBut hs (cne y c e)⟩
    · obtain ⟨w', z⟩ := I.cell y c e
      exact ⟨w', z.sameBut hs (cne y c e)⟩
    · obtain ⟨e, n, ne, nf, d⟩ := I.pin p hp
      exact ⟨(hs.2 p.1 ne).trans e, n, ne, nf, d⟩
  · have hfn : X.fn x = true := by
      rcases hf with z | z
      · exact z
      · rw [z] at hk; cases hk
    obtain ⟨c, hc⟩ := I.ok.has x (.inl hk)
    obtain ⟨w', z⟩ := I.cell x c hc
    refine wpAny_storeName_cell I.ok.kind hk hc z (fun h' hc' hs => ?_)
    obtain ⟨oc, hoc, hocd⟩ := id z
    refine h { s with heap := h' } ⟨I.ok, I.os, I.bare, ⟨fun b o e n hb hx => ?_, fun b o e n hb hx => ?_, I.base.free, fun b o e hx => ?_, I.base.tups, I.base.frzs, I.base.tbls⟩, ⟨m, hn.sameBut hs (Ne.symm (cne x c hc)), fun j y v' e1 e2 e3 => ?_⟩, fun y c' e => ?_, I.free, I.freeC, fun p hp => ?_, tracked ⟨oc, hoc, I.freeC x c hc⟩ hs, by simpa using I.len⟩ ⟨c, hs, .inr hc⟩
    · exact (hs.2 b (Nat.ne_of_lt (Nat.lt_of_lt_of_le (Heap.lt_size e) (I.ok.cab x c hfn hc)))).trans (I.base.keep b o e n hb hx)
    · obtain ⟨sl, e1⟩ := I.base.slot b o e n hb hx
      exact ⟨sl, (hs.2 b (Nat.ne_of_lt (Nat.lt_of_lt_of_le (Heap.lt_size e) (I.ok.cab x c hfn hc)))).trans e1⟩
    · obtain ⟨o', e1⟩ := I.base.there b o e hx
      exact ⟨o', (hs.2 b (Nat.ne_of_lt (Nat.lt_of_lt_of_le (Heap.lt_size e) (I.ok.cab x c hfn hc)))).trans e1⟩
    · by_cases hj : j = i
      · subst hj
        rw [hi] at e1; cases e1
        rw [List.getElem?_set_self hiσ] at e2
        cases e2
        exact ⟨u, r, .inr ⟨.inl hk, c, hc, hc'⟩⟩
      · rw [List.getElem?_set_ne (Ne.symm hj)] at e2
        obtain ⟨u', r', q⟩ := hl j y v' e1 e2 e3
        refine ⟨u', r', ?_⟩
        rcases q with q | ⟨k, c', e, z'⟩
        · exact .inl q
        · refine .inr ⟨k, c', e, z'.sameBut hs ?_⟩
          rintro rfl
          exact hj (nodup_ix hN e1 (I.ok.inj _ _ _ e hc ▸ hi))
    · by_cases hcc : c' = c
      · subst hcc; exact ⟨_, hc'⟩
      · obtain ⟨w2, z2⟩ := I.cell y c' e
        exact ⟨w2, z2.sameBut hs hcc⟩
    · obtain ⟨e, n, ne, nf, d⟩ := I.pin p hp
      refine ⟨(hs.2 p.1 ?_).trans e, n, ne, nf, d⟩
      intro q
      rw [q, hoc] at e
      have q' : oc = p.2 := Option.some.inj e
      exact d w' (by rw [← q']; exact hocd)
theorem store_ok {M : Model} {A : Around} {E : Value → Shared → Prop} {i : Nat} {x : Str} {v : V} {u : Value} {Q : Unit → Shared → Prop} (I : Inv X pins σ H s) (hN : X.N.Nodup) (hi : X.N[i]? = some x) (hx : Loc X.env.scope x) (r : RelV v u)
    (h : ∀ s', Inv X pins (σ.set i (some v)) H s' → Q () s') (hf : X.fn x = true ∨ X.env.scope.names.lookup x = some .local := by first | exact .inl rfl | exact .inr rfl | assumption) : wpAny M A (storeName X.env x u) Q E s :=
  store_ok2 I hN hi hx r (fun s' I' _ => h s' I') hf
/-- behind a call or a block, the state as it is -/
theorem Inv.call' {s' : Shared} {ch : List Addr} (I : Inv X pins σ H s) (ho : s'.os = s.os) (u : Un (frs X.stack) ch H H' s.heap s'.heap) (hok : HOk X.prog X.w H' s'.heap) (hg : AllBare s'.gens)
    (hch : ∀ b ∈ ch, (b ∈ X.ex ∨ X.s₀.heap.objs.size ≤ b) ∧ b ≠ X.env.locals ∧ (∀ x c, X.env.cells.lookup x = some c → c ≠ b) ∧ ∀ p ∈ X.pn ++ pins, p.1 ≠ b) : Inv X pins σ H' s' := by
  obtain ⟨h', g', d', t', o'⟩ := s'
  have e : o' = s.os := ho
  subst e
  exact I.call (g' := g') (t' := t') (d' := d') u hok hg hch
end

/-- an exception: its class, its own dict's address (where it has one), the abstract heap behind it -/
abbrev XK := Value → Option Addr → Hp → Prop
abbrev St := List (Option V)
abbrev VK := V → Hp → Prop
/-- an expression's reading; a test's; an argument list's -/
abbrev TE := St → Hp → VK → Prop
abbrev TT := St → Hp → (Bool → Hp → Prop) → Prop
abbrev TA := St → Hp → (List V → Hp → Prop) → Prop
/-- what is wanted behind a statement -/
structure Ends where
  nx : St → Hp → Prop
  rt : VK
  bk : St → Hp → Prop := fun _ _ => False
  ct : St → Hp → Prop := fun _ _ => False
abbrev TS := Ends → St → Hp → Prop

def EP (X : Cx) (pins : List (Addr × Obj)) (σ : St) (Q : VK) (u : Value) (s' : Shared) : Prop := ∃ v H', Inv X pins σ H' s' ∧ RelV v u ∧ Q v H'
def TP (X : Cx) (pins : List (Addr × Obj)) (σ : St) (Q : Bool → Hp → Prop) (b : Bool) (s' : Shared) : Prop := ∃ H', Inv X pins σ H' s' ∧ Q b H'
def AP (X : Cx) (pins : List (Addr × Obj)) (σ : St) (Q : List V → Hp → Prop) (us : List Value) (s' : Shared) : Prop := ∃ vs H', Inv X pins σ H' s' ∧ Vals vs us ∧ Q vs H'
def SP (X : Cx) (pins : List (Addr × Obj)) (D : Ends) (f : Flow) (s' : Shared) : Prop :=
  match f with
  | .next => ∃ σ' H', Inv X pins σ' H' s' ∧ D.nx σ' H'
  | .brk => ∃ σ' H', Inv X pins σ' H' s' ∧ D.bk σ' H'
  | .cont => ∃ σ' H', Inv X pins σ' H' s' ∧ D.ct σ' H'
  | .ret u => ∃ v σ' H', Inv X pins σ' H' s' ∧ RelV v u ∧ D.rt v H'

def PE (X : Cx) (e : Expr) (t : TE) : Prop :=
  ∀ (pins : List (Addr × Obj)) (s : Shared) (σ : St) (H : Hp) (Q : VK), Inv X pins σ H s → t σ H Q → wpAny (model X.prog X.w) X.A (eval e X.env) (EP X pins σ Q) X.xe s
def PT (X : Cx) (e : Expr) (t : TT) : Prop :=
  ∀ (pins : List (Addr × Obj)) (s : Shared) (σ : St) (H : Hp) (Q : Bool → Hp → Prop), Inv X pins σ H s → t σ H Q → wpAny (model X.prog X.w) X.A (isTrue e X.env (eval e X.env)) (TP X pins σ Q) X.xe s
/-- a test whatever its 'whole' is (and, or) -/
def PW (X : Cx) (e : Expr) (t : TT) : Prop :=
  ∀ (whole : Sem Value) (pins : List (Addr × Obj)) (s : Shared) (σ : St) (H : Hp) (Q : Bool → Hp → Prop), Inv X pins σ H s → t σ H Q → wpAny (model X.prog X.w) X.A (isTrue e X.env whole) (TP X pins σ Q) X.xe s
theorem PW.pt {X : Cx} {e : Expr} {t : TT} (h : PW X e t) : PT X e t := h _
/-- an argument list (no star), from the left -/
def PA (X : Cx) (es : List Expr) (t : TA) : Prop :=
  ∀ (pos : Pos) (pins : List (Addr × Obj)) (s : Shared) (σ : St) (H : Hp) (Q : List V → Hp → Prop), Inv X pins σ H s → t σ H Q → wpAny (model X.prog X.w) X.A (spliced (backTo pos (starEach es X.env))) (AP X pins σ Q) X.xe s
def PS (X : Cx) (st : Stmt) (t : TS) : Prop :=
  ∀ (pins : List (Addr × Obj)) (s : Shared) (σ : St) (H : Hp) (D : Ends), Inv X pins σ H s → t D σ H → wpAny (model X.prog X.w) X.A (exec st X.env) (SP X pins D) X.xe s
def PSs (X : Cx) (st : List Stmt) (t : TS) : Prop :=
  ∀ (pins : List (Addr × Obj)) (s : Shared) (σ : St) (H : Hp) (D : Ends), Inv X pins σ H s → t D σ H → wpAny (model X.prog X.w) X.A (execs st X.env) (SP X pins D) X.xe s
/-- weaken the end -/
theorem thn {α : Type} {t : Sem α} {Q Q' : α → Shared → Prop} {M : Model} {A : Around} {E : Value → Shared → Prop} {s : Shared} (h : wpAny M A t Q E s) (hQ : ∀ a s, Q a s → Q' a s) : wpAny M A t Q' E s := wpAny_mono h hQ fun _ _ x => x
end L2

namespace L2
open PySem PySem.Spec PyProof.Rows
section
variable {X : Cx}

inductive tVar (i : Nat) (σ : St) (H : Hp) (Q : VK) : Prop
  | mk : ∀ v, (σ[i]? = some (some v)) → (Q v H) → tVar i σ H Q
def tC (v : V) : TE := fun _ H Q => Q v H
theorem pe_var {i : Nat} {x : Str} {pos : Pos} (hN : X.N[i]? = some x) (hv : Vis X.env.scope x) (hd : (x == ("__debug__" : Str)) = false := by decide) (hcd : (x == ("__classdict__" : Str)) = false := by decide) : PE X (.Name x pos) (tVar i) := by
  intro pins s σ H Q I h
  obtain ⟨v, e, h⟩ := h
  obtain ⟨m, hn, hl⟩ := I.loc
  obtain ⟨u, r, l⟩ := hl i x v hN e hv
  have fin : EP X pins σ Q u s := ⟨v, H, I, r, h⟩
  rcases l with ⟨hk, hm⟩ | ⟨hk, c, hc, hcell⟩
  · exact wpAny_Name (wpAny_loadName_local I.ok.kind hk hn hm fin) hd
  · rcases hk with hk | hk
    · exact wpAny_Name (wpAny_loadName_cell I.ok.kind hk hc hcell fin) hd
    · exact wpAny_Name (wpAny_loadName_free I.ok.kind hk hc hcell fin hcd) hd
theorem pe_int {i j pos} : PE X (.Constant (.int i) j pos) (tC (.int i)) := fun _ _ _ H _ I h => wpAny_Constant_int ⟨.int i, H, I.tok _, ⟨_, rfl⟩, h⟩
theorem pe_bl {b j pos} : PE X (.Constant (.bool b) j pos) (tC (.bl b)) := fun _ _ _ H _ I h => Constant_bool ⟨.bl b, H, I, rfl, h⟩
theorem pe_str {x j pos} : PE X (.Constant (.str x) j pos) (tC (.str x)) := fun _ _ _ H _ I h => Calls.Constant_str ⟨.str x, H, I.tok _, ⟨_, rfl⟩, h⟩

/-- a global name of the def -/
def Gl (X : Cx) (x : Str) : Prop := X.env.kindOf x = some .globalImplicit
theorem ld_glob {E : Value → Shared → Prop} {pins : List (Addr × Obj)} {s : Shared} {σ : St} {H : Hp} {x : Str} {u : Value} {pos : Pos} {Q : Value → Shared → Prop} (I : Inv X pins σ H s) (hg : Gl X x) (hm : X.mg x = some u) (h : Q u s)
    (hd : (x == ("__debug__" : Str)) = false := by decide) : wpAny (model X.prog X.w) X.A (eval (.Name x pos) X.env) Q E s :=
  Calls.Name_function_global I.ok.kind hg (Calls.loadGlobal_global (by rw [I.ok.glob]; exact I.mod.glob.keeps I.bk) hm h) hd
theorem ld_blt {E : Value → Shared → Prop} {pins : List (Addr × Obj)} {s : Shared} {σ : St} {H : Hp} {x : Str} {u : Value} {pos : Pos} {Q : Value → Shared → Prop} (I : Inv X pins σ H s) (hg : Gl X x) (hm : X.mg x = none) (hv : bootBuiltins x = some u) (h : Q u s)
    (hn : x ≠ "__name__" := by decide) (hd : (x == ("__debug__" : Str)) = false := by decide) : wpAny (model X.prog X.w) X.A (eval (.Name x pos) X.env) Q E s := by
  obtain ⟨mb, h1, h2⟩ := I.mod.blt
  exact Calls.Name_function_global I.ok.kind hg (Calls.loadGlobal_builtin (by rw [I.ok.glob]; exact I.mod.glob.keeps I.bk) hm (by rw [I.ok.blt]; exact h1.keeps I.bk) ((h2 x hn).trans hv) h) hd
/-- a module's constant, a class, a function, as a value -/
theorem pe_glob {x : Str} {v : V} {u : Value} {pos : Pos} (hg : Gl X x) (hm : X.mg x = some u) (r : RelV v u) (hd : (x == ("__debug__" : Str)) = false := by decide) : PE X (.Name x pos) (tC v) :=
  fun _ _ _ H _ I h => ld_glob I hg hm ⟨v, H, I, r, h⟩ hd
theorem pe_bltn {x : Str} {v : V} {u : Value} {pos : Pos} (hg : Gl X x) (hm : X.mg x = none) (hv : bootBuiltins x = some u) (r : RelV v u) (hn : x ≠ "__name__" := by decide) (hd : (x == ("__debug__" : Str)) = false := by decide) : PE X (.Name x pos) (tC v) :=
  fun _ _ _ H _ I h => ld_blt I hg hm hv ⟨v, H, I, r, h⟩ hn hd

variable {a b : Expr} {ta tb : TE} {pos : Pos}
/-- a comparison as a value, as a test -/
inductive IsB (Q : Bool → Hp → Prop) (x : V) (H : Hp) : Prop
  | mk : ∀ c, (x = .bl c) → (Q c H) → IsB Q x H
def tB (t : TE) : TT := fun σ H Q => t σ H (IsB Q)
/-- an expression whose value is a bool, as a test -/
theorem pt_val {e : Expr} {t : TE} (h : PE X e t) (he : ∀ whole, isTrue e X.env whole = (do let v ← whole; standAt e.pos; holding [v] (truthy v)) := by intro _; rfl) : PT X e (tB t) := by
  intro pins s σ H Q I hw
  refine isTrue_plain (thn (h pins s σ H _ I hw) fun v s1 ⟨x, H1, I1, r1, q1⟩ => ?_) (he _)
  obtain ⟨d, rfl, q⟩ := q1
  cases r1
  exact wpAny_truthy_bool ⟨H1, I1, q⟩

variable {tA tB' : TT} {rest : List Expr}
def tAnd (t u : TT) : TT := fun σ H Q => t σ H fun c H1 => if c = true then u σ H1 Q else Q false H1
def tOr (t u : TT) : TT := fun σ H Q => t σ H fun c H1 => if c = true then Q true H1 else u σ H1 Q
def tNot (t : TT) : TT := fun σ H Q => t σ H fun c H1 => Q (!c) H1
theorem pw_and1 (ha : PT X a tA) : PW X (.BoolOp .And [a] pos) tA := by
  intro wh pins s σ H Q I h
  refine isTrue_and (thn (ha pins s σ H Q I h) fun c s1 e => ?_)
  cases c with
  | true => exact isTrue_and_nil e
  | false => exact e
theorem pw_or1 (ha : PT X a tA) : PW X (.BoolOp .Or [a] pos) tA := by
  intro wh pins s σ H Q I h
  refine isTrue_or (thn (ha pins s σ H Q I h) fun c s1 e => ?_)
  cases c with
  | false => exact isTrue_or_nil e
  | true => exact e
theorem pw_and (ha : PT X a tA) (hb : PW X (.BoolOp .And (b :: rest) pos) tB') : PW X (.BoolOp .And (a :: b :: rest) pos) (tAnd tA tB') := by
  intro wh pins s σ H Q I h
  refine isTrue_and (thn (ha pins s σ H _ I h) fun c s1 ⟨H1, I1, q1⟩ => ?_)
  cases c with
  | true => exact hb wh pins s1 σ H1 Q I1 q1
  | false => exact ⟨H1, I1, q1⟩
theorem pw_or (ha : PT X a tA) (hb : PW X (.BoolOp .Or (b :: rest) pos) tB') : PW X (.BoolOp .Or (a :: b :: rest) pos) (tOr tA tB') := by
  intro wh pins s σ H Q I h
  refine isTrue_or (thn (ha pins s σ H _ I h) fun c s1 ⟨H1, I1, q1⟩ => ?_)
  cases c with
  | true => exact ⟨H1, I1, q1⟩
  | false => exact hb wh pins s1 σ H1 Q I1 q1
theorem pt_not (ha : PT X a tA) : PT X (.UnaryOp .Not a pos) (tNot tA) := by
  intro pins s σ H Q I h
  exact isTrue_not (ha pins s σ H (fun c H1 => Q (!c) H1) I h)
/-- .. as values (bools) -/
def tAndV (ta tb : TE) : TE := fun σ H Q => ta σ H fun x H1 => ∃ c, x = .bl c ∧ if c = true then tb σ H1 Q else Q (.bl false) H1
def tNotV (ta : TE) : TE := fun σ H Q => ta σ H fun x H1 => ∃ c, x = .bl c ∧ Q (.bl (!c)) H1
theorem pe_one {op} {t : TE} (h : PE X a t) : PE X (.BoolOp op [a] pos) t := fun pins s σ H Q I hw => BoolOp_one (h pins s σ H Q I hw)
theorem pe_and (ha : PE X a ta) (hb : PE X (.BoolOp .And (b :: rest) pos) tb) : PE X (.BoolOp .And (a :: b :: rest) pos) (tAndV ta tb) := by
  intro pins s σ H Q I h
  refine BoolOp_and (thn (ha pins s σ H _ I h) fun v s1 ⟨x, H1, I1, r1, q1⟩ => ?_)
  obtain ⟨c, rfl, q1⟩ := q1
  cases r1
  refine wpAny_truthy_bool ?_
  cases c with
  | true => exact hb pins s1 σ H1 Q I1 q1
  | false => exact ⟨.bl false, H1, I1, rfl, q1⟩
theorem pe_not (ha : PE X a ta) : PE X (.UnaryOp .Not a pos) (tNotV ta) := by
  intro pins s σ H Q I h
  refine UnaryOp_ (thn (ha pins s σ H _ I h) fun v s1 ⟨x, H1, I1, r1, q1⟩ => ?_)
  obtain ⟨c, rfl, q1⟩ := q1
  cases r1
  exact not_of (wpAny_truthy_bool ⟨.bl (!c), H1, I1, rfl, q1⟩)
end
end L2

namespace L2
open PySem PySem.Spec PyProof.Rows

def SqL (K : PySem.W.Frag) (H : Hp) (a : Addr) (xs : List V) : Prop :=
  Rd H a (.lst xs) ∨
    ∃ (o : Obj) (its : Array Value) (n : Nat), K.lookup a = some o ∧ o.cls = .type "list" ∧ o.dict = none ∧ o.data = .seq its n ∧ its.size ≤ sizeLine ∧ Vals xs its.toList
def SqT (K : PySem.W.Frag) (H : Hp) (a : Addr) (xs : List V) : Prop :=
  Rd H a (.tup xs) ∨
    ∃ (o : Obj) (its : Array Value) (n : Nat), K.lookup a = some o ∧ o.cls = .type "tuple" ∧ o.data = .seq its n ∧ its.size ≤ sizeLine ∧ Vals xs its.toList
def absV : Value → Option V
  | .none => some .non
  | .bool b => some (.bl b)
  | .int i _ => some (.int i)
  | .str x _ => some (.str x)
  | .bytes b _ => some (.byt b)
  | .float b _ => some (.flt b)
  | .ref a => some (.ref a)
  | .type n => some (.ty n)
  | _ => none
theorem RelV.abs {x : V} {u : Value} (r : RelV x u) : absV u = some x := by
  cases x with
  | non => cases r; rfl
  | bl _ => cases r; rfl
  | int _ => obtain ⟨t, rfl⟩ := r; rfl
  | str _ => obtain ⟨t, rfl⟩ := r; rfl
  | byt _ => obtain ⟨t, rfl⟩ := r; rfl
  | flt _ => obtain ⟨t, rfl⟩ := r; rfl
  | ref _ => cases r; rfl
  | ty _ => cases r; rfl
theorem RelV.inj {x y : V} {u : Value} (r : RelV x u) (q : RelV y u) : x = y := Option.some.inj (r.abs.symm.trans q.abs)
theorem Vals.inj : ∀ {xs ys : List V} {us : List Value}, Vals xs us → Vals ys us → xs = ys
  | _, _, _, .nil, .nil => rfl
  | _, _, _, .cons r t, .cons r' t' => by rw [r.inj r', Vals.inj t t']
section
variable {X : Cx} {pins : List (Addr × Obj)} {σ : St} {H : Hp} {s : Shared} {a : Addr} {xs ys : List V}
theorem SqL.of {K : PySem.W.Frag} (h : H a = some (.lst xs)) : SqL K H a xs := .inl (.inl h)
theorem SqT.of {K : PySem.W.Frag} (h : H a = some (.tup xs)) : SqT K H a xs := .inl (.inl h)
theorem Inv.list (I : Inv X pins σ H s) (h : SqL X.K H a xs) : ∃ its : List Value, Vals xs its ∧ PlainL s.heap a its.toArray ∧ xs.length ≤ sizeLine := by
  rcases h with h | ⟨o, its, n, hk, hc, hd, hs, hz, r⟩
  · obtain ⟨z, its, n, r, e⟩ := h.ok I.hok
    exact ⟨its, r, ⟨_, n, e, rfl, rfl, rfl⟩, z⟩
  · refine ⟨its.toList, r, ⟨o, n, I.kIn a o hk, hc, hd, by simpa using hs⟩, ?_⟩
    have e := r.length
    simp only [Array.length_toList] at e
    omega
theorem Inv.tuple (I : Inv X pins σ H s) (h : SqT X.K H a xs) : ∃ its : List Value, Vals xs its ∧ IsTup s.heap a its.toArray ∧ xs.length ≤ sizeLine := by
  rcases h with h | ⟨o, its, n, hk, hc, hs, hz, r⟩
  · obtain ⟨z, its, r, p⟩ := h.ok I.hok
    exact ⟨its, r, p, z⟩
  · refine ⟨its.toList, r, ⟨o, I.kIn a o hk, hc, n, by simpa using hs⟩, ?_⟩
    have e := r.length
    simp only [Array.length_toList] at e
    omega
theorem Inv.list_inj (I : Inv X pins σ H s) (h : SqL X.K H a xs) (h' : SqL X.K H a ys) : xs = ys := by
  obtain ⟨its, r, ⟨o, n, e, _, _, d⟩, _⟩ := I.list h
  obtain ⟨its', r', ⟨o', n', e', _, _, d'⟩, _⟩ := I.list h'
  rw [e] at e'; cases e'
  rw [d] at d'
  injection d' with d1 _
  have : its = its' := by simpa using congrArg Array.toList d1
  subst this
  exact r.inj r'
end

abbrev Cx.wish (X : Cx) (E : Value → Shared → Prop) : Cx := { X with xe := E }
/-- no exception leaves -/
abbrev Cx.nox (X : Cx) : Cx := X.wish fun _ _ => False
theorem Cx.Ok.wish {X : Cx} (ok : X.Ok) (E : Value → Shared → Prop) : (X.wish E).Ok :=
  ⟨ok.mod, ok.kind, ok.glob, ok.blt, ok.above, ok.inj, ok.has, ok.cab, ok.hd, ok.frames, ok.stk, ok.exf, ok.bs, ok.bsz, ok.noex, ok.exfs, ok.funs, ok.frf⟩
theorem Cx.Ok.unwish {X : Cx} {E : Value → Shared → Prop} (ok : (X.wish E).Ok) : X.Ok :=
  ⟨ok.mod, ok.kind, ok.glob, ok.blt, ok.above, ok.inj, ok.has, ok.cab, ok.hd, ok.frames, ok.stk, ok.exf, ok.bs, ok.bsz, ok.noex, ok.exfs, ok.funs, ok.frf⟩
section
variable {X : Cx} {pins : List (Addr × Obj)} {σ : St} {H : Hp} {s : Shared} {E : Value → Shared → Prop}
theorem Inv.wish (I : Inv X pins σ H s) (E : Value → Shared → Prop) : Inv (X.wish E) pins σ H s := ⟨I.ok.wish E, I.os, I.bare, I.base, I.loc, I.cell, I.free, I.freeC, I.pin, I.hok, I.len⟩
theorem Inv.unwish (I : Inv (X.wish E) pins σ H s) : Inv X pins σ H s := ⟨I.ok.unwish, I.os, I.bare, I.base, I.loc, I.cell, I.free, I.freeC, I.pin, I.hok, I.len⟩
theorem SP.unwish {D : Ends} {f : Flow} {s' : Shared} (h : SP (X.wish E) pins D f s') : SP X pins D f s' := by
  cases f with
  | next => obtain ⟨σ', H', I, q⟩ := h; exact ⟨σ', H', I.unwish, q⟩
  | brk => obtain ⟨σ', H', I, q⟩ := h; exact ⟨σ', H', I.unwish, q⟩
  | cont => obtain ⟨σ', H', I, q⟩ := h; exact ⟨σ', H', I.unwish, q⟩
  | ret u => obtain ⟨v, σ', H', I, r, q⟩ := h; exact ⟨v, σ', H', I.unwish, r, q⟩
theorem PE.nox {e : Expr} {t : TE} (h : PE X.nox e t) : PE X e t := fun pins s σ H Q I hw =>
  wpAny_mono (h pins s σ H Q (I.wish _) hw) (fun _ _ ⟨v, H', I', r, q⟩ => ⟨v, H', I'.unwish, r, q⟩) fun _ _ z => False.elim z
theorem PT.nox {e : Expr} {t : TT} (h : PT X.nox e t) : PT X e t := fun pins s σ H Q I hw =>
  wpAny_mono (h pins s σ H Q (I.wish _) hw) (fun _ _ ⟨H', I', q⟩ => ⟨H', I'.unwish, q⟩) fun _ _ z => False.elim z
theorem PSs.nox {st : List Stmt} {t : TS} (h : PSs X.nox st t) : PSs X st t := fun pins s σ H D I hw =>
  wpAny_mono (h pins s σ H D (I.wish _) hw) (fun _ _ q => q.unwish) fun _ _ z => False.elim z
end

section
variable {X : Cx} {st : Stmt} {rest : List Stmt} {t u : TS} {e : Expr} {te : TE} {pos : Pos}
def tNext : TS := fun D σ H => D.nx σ H
def tSeq (t u : TS) : TS := fun D σ H => t { D with nx := u D } σ H
theorem pss_nil : PSs X [] tNext := fun _ _ σ H _ I h => wpAny_execs_nil ⟨σ, H, I, h⟩
theorem pss_cons (h1 : PS X st t) (h2 : PSs X rest u) : PSs X (st :: rest) (tSeq t u) := by
  intro pins s σ H D I h
  refine wpAny_execs_cons (thn (h1 pins s σ H { D with nx := u D } I h) fun f s1 q => ?_)
  cases f with
  | next =>
    obtain ⟨σ', H', I', q⟩ := q
    exact h2 pins s1 σ' H' D I' q
  | ret v => exact q
  | brk => exact q
  | cont => exact q
theorem pss_one (h1 : PS X st t) : PSs X [st] t := by
  intro pins s σ H D I h
  refine wpAny_execs_cons (thn (h1 pins s σ H D I h) fun f s1 q => ?_)
  cases f with
  | next => exact wpAny_execs_nil q
  | ret v => exact q
  | brk => exact q
  | cont => exact q
/-- in a def's body nothing is shown -/
theorem Inv.quiet {pins : List (Addr × Obj)} {σ : St} {H : Hp} {s : Shared} (I : Inv X pins σ H s) : interactive X.env = false := by simp [interactive, I.ok.kind]
/-- an expression whose value is dropped -/
def tDrop (te : TE) : TS := fun D σ H => te σ H fun _ H1 => D.nx σ H1
theorem ps_expr (he : PE X e te) (hs : swapsWith e none pos.line X.env = pure false := by rfl) : PS X (.Expr e pos) (tDrop te) := by
  intro pins s σ H D I h
  exact wpAny_Expr_any (thn (he pins s σ H _ I h) fun v s1 ⟨x, H1, I1, r1, q1⟩ => ⟨σ, H1, I1, q1⟩) I.quiet hs
def tRet (te : TE) : TS := fun D σ H => te σ H D.rt
theorem ps_ret (he : PE X e te) : PS X (.Return (some e) pos) (tRet te) := by
  intro pins s σ H D I h
  exact wpAny_Return_some (thn (he pins s σ H _ I h) fun v s1 ⟨x, H1, I1, r1, q1⟩ => ⟨x, σ, H1, I1, r1, q1⟩)
def tIfS (c : TT) (t u : TS) : TS := fun D σ H => c σ H fun b H1 => if b = true then t D σ H1 else u D σ H1
theorem ps_if {c : Expr} {a b : List Stmt} {tc : TT} (hc : PT X c tc) (ha : PSs X a t) (hb : PSs X b u) : PS X (.If c a b pos) (tIfS tc t u) := by
  intro pins s σ H D I h
  refine wpAny_If (thn (hc pins s σ H _ I h) fun d s1 ⟨H1, I1, q1⟩ => ?_)
  cases d with
  | true => exact ha pins s1 σ H1 D I1 q1
  | false => exact hb pins s1 σ H1 D I1 q1
/-- code that the proof never comes to -/
def tNever : TS := fun _ _ _ => False
theorem ps_never : PS X st tNever := fun _ _ _ _ _ _ h => h.elim
end

abbrev TG := V → St → Hp → (St → Hp → Prop) → Prop
abbrev TGs := List V → St → Hp → (St → Hp → Prop) → Prop
def PG (X : Cx) (target : Expr) (t : TG) : Prop :=
  ∀ (pins : List (Addr × Obj)) (s : Shared) (σ : St) (H : Hp) (v : V) (u : Value) (Q : St → Hp → Prop), Inv X pins σ H s → RelV v u → t v σ H Q →
    wpAny (model X.prog X.w) X.A (assign target X.env u) (fun _ s' => ∃ σ' H', Inv X pins σ' H' s' ∧ Q σ' H') X.xe s
/-- several targets, one after another -/
def PGs (X : Cx) (ts : List Expr) (t : TGs) : Prop :=
  ∀ (pins : List (Addr × Obj)) (s : Shared) (σ : St) (H : Hp) (vs : List V) (us : List Value) (Q : St → Hp → Prop), Inv X pins σ H s → Vals vs us → t vs σ H Q →
    wpAny (model X.prog X.w) X.A (assignInOrder ((assignEach ts X.env).map (·.2)) us) (fun _ s' => ∃ σ' H', Inv X pins σ' H' s' ∧ Q σ' H') X.xe s
/-- o[i] = v, by values -/
abbrev TSet := V → V → V → Hp → (Hp → Prop) → Prop
def PSet (X : Cx) (t : TSet) : Prop :=
  ∀ (pins : List (Addr × Obj)) (s : Shared) (σ : St) (H : Hp) (o i v : V) (ov iv u : Value) (Q : Hp → Prop), Inv X pins σ H s → RelV o ov → RelV i iv → RelV v u → t o i v H Q →
    wpAny (model X.prog X.w) X.A (setItem ov iv u) (fun _ s' => ∃ H', Inv X pins σ H' s' ∧ Q H') X.xe s
section
variable {X : Cx} {pos : Pos}
def gName (i : Nat) : TG := fun v σ H Q => Q (σ.set i (some v)) H
theorem pg_name {i : Nat} {x : Str} (hN : X.N.Nodup) (hi : X.N[i]? = some x) (hx : Loc X.env.scope x) (hf : X.fn x = true ∨ X.env.scope.names.lookup x = some .local := by first | exact .inl rfl | exact .inr rfl | assumption) : PG X (.Name x pos) (gName i) := by
  intro pins s σ H v u Q I r h
  exact wpAny_assign_Name (store_ok I hN hi hx r (fun s' I' => ⟨_, H, I', h⟩) hf)
def gNil : TGs := fun vs σ H Q => vs = [] ∧ Q σ H
inductive gCons (t : TG) (u : TGs) (vs : List V) (σ : St) (H : Hp) (Q : St → Hp → Prop) : Prop
  | mk : ∀ v r, (vs = v :: r) → (t v σ H fun σ' H' => u r σ' H' Q) → gCons t u vs σ H Q
theorem pgs_nil : PGs X [] gNil := by
  intro pins s σ H vs us Q I r h
  obtain ⟨e, h⟩ := h
  subst e
  cases r
  exact assignInOrder_nil ⟨σ, H, I, h⟩
theorem pgs_cons {e : Expr} {es : List Expr} {t : TG} {u : TGs} (h1 : PG X e t) (h2 : PGs X es u)
    (hs : (assignEach (e :: es) X.env).map (·.2) = assign e X.env :: (assignEach es X.env).map (·.2) := by rfl) : PGs X (e :: es) (gCons t u) := by
  intro pins s σ H vs us Q I r h
  obtain ⟨v, vr, e1, h⟩ := h
  subst e1
  cases r with
  | cons r rr =>
    rw [hs]
    refine assignInOrder_cons (thn (h1 pins s σ H _ _ _ I r h) fun _ s1 ⟨σ1, H1, I1, q1⟩ => ?_)
    exact h2 pins s1 σ1 H1 _ _ Q I1 rr q1
/-- (a, b, ..) = a tuple of that length -/
inductive gTup (K : PySem.W.Frag) (n : Nat) (t : TGs) (v : V) (σ : St) (H : Hp) (Q : St → Hp → Prop) : Prop
  | mk : ∀ a xs, (v = .ref a) → (SqT K H a xs) → (xs.length = n) → (t xs σ H Q) → gTup K n t v σ H Q
theorem pg_tup {es : List Expr} {k : Nat} {t : TGs} {n : Nat} (hc : X.calm = true) (h : PGs X es t)
    (hn : (assignEach es X.env).length = n := by rfl) (hst : (assignEach es X.env).findIdx? (·.1) = none := by rfl) : PG X (.Tuple es k pos) (gTup X.K n t) := by
  intro pins s σ H v u Q I r hw
  obtain ⟨a, xs, e1, hq, hl, hw⟩ := hw
  subst e1
  cases r
  obtain ⟨its, rv, ht, hz⟩ := I.tuple hq
  refine assign_Tuple_tuple (I.ok.hd hc) ht (by simp [hn, ← hl, rv.length]) hst fun h' hx => ?_
  have I1 : Inv X pins σ H { s with heap := h' } := I.kept (t' := s.toks) fun b o e => hx b o (Nat.ne_of_lt (Heap.lt_size e)) e
  exact h pins _ σ H xs _ Q I1 (by simpa using rv) hw
/-- o[i] = .. -/
def gSub (to ti : TE) (t : TSet) : TG := fun v σ H Q => to σ H fun o H1 => ti σ H1 fun i H2 => t o i v H2 fun H3 => Q σ H3
theorem pg_sub {o i : Expr} {to ti : TE} {t : TSet} (ho : PE X o to) (hi : PE X i ti) (hs : PSet X t)
    (ha : ∀ v, assign (.Subscript o i pos) X.env v = (do
      let ov ← holding [v] (eval o X.env)
      let iv ← holding [v, ov] (eval i X.env)
      standAt pos
      holding [v, ov, iv] (setItem ov iv v)
      release [v, ov, iv] []) := by intro _; rfl) : PG X (.Subscript o i pos) (gSub to ti t) := by
  intro pins s σ H v u Q I r h
  rw [ha]
  refine wpAny_bind (wpAny_holding (thn (ho pins s σ H _ I h) fun ov s1 ⟨x, H1, I1, r1, q1⟩ => ?_))
  refine wpAny_bind (wpAny_holding (thn (hi pins s1 σ H1 _ I1 q1) fun iv s2 ⟨y, H2, I2, r2, q2⟩ => ?_))
  refine wpAny_bind (wpAny_standAt (wpAny_bind (wpAny_holding (thn (hs pins s2 σ H2 x y v ov iv u _ I2 r1 r2 r q2) fun _ s3 ⟨H3, I3, q3⟩ => ?_))))
  exact wpAny_release ⟨σ, H3, I3, q3⟩
/-- target = value -/
def tAsg (te : TE) (g : TG) : TS := fun D σ H => te σ H fun x H1 => g x σ H1 D.nx
theorem ps_asg {tg e : Expr} {te : TE} {g : TG} (he : PE X e te) (hg : PG X tg g) (hs : swapsWithSole [tg] e pos.line X.env = pure false := by rfl) (hw : swappedStores [tg] e X.env = pure none := by rfl)
    (h1 : (assignEach [tg] X.env).map (·.2) = [assign tg X.env] := by rfl) : PS X (.Assign [tg] e pos) (tAsg te g) := by
  intro pins s σ H D I h
  refine wpAny_Assign_stores (thn (he pins s σ H _ I h) fun v s1 ⟨x, H1, I1, r1, q1⟩ => ?_) hs hw
  rw [h1]
  exact thn (hg pins s1 σ H1 x v _ I1 r1 q1) fun _ s2 q => q
/-- name = value -/
theorem ps_set {i : Nat} {x : Str} {e : Expr} {te : TE} {pos' : Pos} (hN : X.N.Nodup) (hi : X.N[i]? = some x) (hx : Loc X.env.scope x) (he : PE X e te) (hs : swapsWith e (some (.Name x pos')) pos.line X.env = pure false := by rfl) (hf : X.fn x = true ∨ X.env.scope.names.lookup x = some .local := by first | exact .inl rfl | exact .inr rfl | assumption) :
    PS X (.Assign [.Name x pos'] e pos) (tAsg te (gName i)) := by
  intro pins s σ H D I h
  refine wpAny_Assign_Name (thn (he pins s σ H _ I h) fun v s1 ⟨y, H1, I1, r1, q1⟩ => ?_) hs
  exact store_ok I1 hN hi hx r1 (fun s2 I2 => ⟨_, H1, I2, q1⟩) hf
end

section
variable {X : Cx} {pos : Pos}
end

/-- at turn i: it yields x (the heap may grow), or it stops -/
structure It where
  go : Nat → Hp → Prop
  yld : Nat → Hp → V → Hp → Prop
  stop : Nat → Hp → Prop
/-- the iterator's own objects may turn: they are not the frame's, not pinned, younger than the entry (or a comprehension's own) -/
def FpOk (X : Cx) (pins : List (Addr × Obj)) (H : Hp) (b : Addr) : Prop :=
  H b = none ∧ b ≠ X.env.locals ∧ b ∉ X.fs ∧ (b ∈ X.ex ∨ X.s₀.heap.objs.size ≤ b) ∧ (∀ x c, X.env.cells.lookup x = some c → c ≠ b) ∧ ∀ p ∈ X.pn ++ pins, p.1 ≠ b
theorem Inv.fpOk {X : Cx} {pins : List (Addr × Obj)} {σ : St} {H H' : Hp} {s : Shared} {b : Addr} (I : Inv X pins σ H s) (hb : s.heap.objs.size ≤ b) (hn : H' b = none) : FpOk X pins H' b := by
  refine ⟨hn, Nat.ne_of_gt (Nat.lt_of_lt_of_le I.lt hb), I.nofs hb, .inr (Nat.le_trans I.sz hb), fun x c e z => ?_, fun p hp z => ?_⟩
  · obtain ⟨v, q⟩ := I.cell x c e
    exact absurd (Nat.lt_of_lt_of_le q.lt (by rw [z]; exact hb)) (Nat.lt_irrefl _)
  · exact absurd (Nat.lt_of_lt_of_le (Heap.lt_size (I.pin p hp).1) (by rw [z]; exact hb)) (Nat.lt_irrefl _)
structure Turn (P : Program) (w : World) (K : PySem.W.Frag) (tg : Expr) (J : It) (fp : List Addr) (it : Addr) (tn : Nat → Heap → Prop) : Prop where
  mem : it ∈ fp
  obj : ∀ i h, tn i h → ∀ b ∈ fp, ∃ o, h.get? b = some o ∧ ∀ v, o.data ≠ .cell v
  keep : ∀ i h h', tn i h → (∀ b ∈ fp, ∀ o, h.get? b = some o → h'.get? b = some o) → tn i h'
  item : ∀ (X : Cx), X.prog = P → X.w = w → X.K = K → X.calm = true → ∀ (i : Nat) (pins : List (Addr × Obj)) (s : Shared) (σ : St) (H : Hp) (E : Value → Shared → Prop), Inv X pins σ H s → (∀ b ∈ fp, FpOk X pins H b) → tn i s.heap → J.go i H →
    wpAny (model P w) X.A (pyNext (.ref it)) (fun r s1 => ∃ u, r = some u ∧
      wpAny (model P w) X.A (letOwnedTupleGo tg (.ref it) u) (fun _ s2 => ∃ x H', Inv X pins σ H' s2 ∧ RelV x u ∧ J.yld i H x H' ∧ tn (i + 1) s2.heap ∧ ∀ b ∈ fp, H' b = none) E s1) E s
  done : ∀ (X : Cx), X.prog = P → X.w = w → X.K = K → X.calm = true → ∀ (i : Nat) (pins : List (Addr × Obj)) (s : Shared) (σ : St) (H : Hp) (E : Value → Shared → Prop), Inv X pins σ H s → (∀ b ∈ fp, FpOk X pins H b) → tn i s.heap → J.stop i H →
    wpAny (model P w) X.A (pyNext (.ref it)) (fun r s1 => r = none ∧ Inv X pins σ H s1) E s
  self : ∀ (A : Around) (i : Nat) (s : Shared) (Q : Value → Shared → Prop) (E : Value → Shared → Prop), tn i s.heap → Q (.ref it) s → wpAny (model P w) A (pyIter (.ref it)) Q E s
abbrev TI := St → Hp → (It → Hp → Prop) → Prop
/-- an iterator has come -/
def PIE (X : Cx) (pins : List (Addr × Obj)) (σ : St) (tg : Expr) (R : It → Hp → Prop) (itv : Value) (s2 : Shared) : Prop :=
  ∃ (it : Addr) (fp : List Addr) (tn : Nat → Heap → Prop) (J : It) (H' : Hp), itv = .ref it ∧ Inv X pins σ H' s2 ∧ Turn X.prog X.w X.K tg J fp it tn ∧ tn 0 s2.heap ∧ (∀ b ∈ fp, FpOk X pins H' b) ∧ R J H'
def PI (X : Cx) (tg iter : Expr) (wi : TI) : Prop :=
  ∀ (pins : List (Addr × Obj)) (s : Shared) (σ : St) (H : Hp) (R : It → Hp → Prop), Inv X pins σ H s → wi σ H R →
    wpAny (model X.prog X.w) X.A (eval iter X.env) (fun v s1 => wpAny (model X.prog X.w) X.A (pyIter v) (PIE X pins σ tg R) X.xe s1) X.xe s

/-- the step ahead of the store is nothing for an iterator that keeps no tuple -/
theorem go_of {M : Model} {A : Around} {E : Value → Shared → Prop} {s : Shared} {tg : Expr} {it : Addr} {u : Value} {o : Obj} {n : String} {vs : Array Value} {Q : Unit → Shared → Prop} (ho : s.heap.get? it = some o) (hc : o.cls = .type n) (hd : o.data = .fields vs)
    (hn : ["enumerate", "zip", "dict_itemiterator", "dict_reverseitemiterator", "odict_iterator", "itertools.zip_longest", "itertools.pairwise"].contains n = false) (hQ : Q () s) : wpAny M A (letOwnedTupleGo tg (.ref it) u) Q E s := by
  unfold letOwnedTupleGo
  cases tg <;> first
    | exact wpAny_pure hQ
    | (cases u <;> first
        | exact wpAny_pure hQ
        | (refine wpAny_bind (wpAny_load ho ?_)
           rw [hc, hd]
           show wpAny M A (if (["enumerate", "zip", "dict_itemiterator", "dict_reverseitemiterator", "odict_iterator", "itertools.zip_longest", "itertools.pairwise"].contains n && vs[0]? == some (rawInt _)) = true then _ else _) Q E s
           rw [if_neg (by intro h; rw [hn, Bool.false_and] at h; cases h)]
           exact wpAny_pure hQ))

/-- the list at a, as it stands at each turn (a loop may append to it) -/
def Itl (K : PySem.W.Frag) (a : Addr) : It :=
  ⟨fun i H => ∃ xs x, SqL K H a xs ∧ xs[i]? = some x, fun i H x H' => H' = H ∧ ∀ xs, SqL K H a xs → xs[i]? = some x, fun i H => ∃ xs, SqL K H a xs ∧ xs.length ≤ i⟩
/-- lo, lo + 1, .. (n of them) -/
def Itr (lo : Int) (n : Nat) : It := ⟨fun i _ => i < n, fun i H x H' => H' = H ∧ x = .int (lo + i), fun i _ => n ≤ i⟩
theorem turn_list {P : Program} {w : World} {K : PySem.W.Frag} {tg : Expr} (a it : Addr) : Turn P w K tg (Itl K a) [it] it (fun i h => h.IsListIter it a i) where
  mem := by simp
  obj := fun i h st b hb => by
    have e : b = it := by simpa using hb
    subst e
    obtain ⟨o, e, c, d⟩ := st
    exact ⟨o, e, fun v z => by rw [d] at z; cases z⟩
  keep := fun i h h' st k => st.at fun o e => k it (by simp) o e
  item := by
    intro X hP hw hK hc i pins s σ H E I hf st hg
    subst hP hw hK
    obtain ⟨xs, x, hq, hx⟩ := hg
    obtain ⟨its, rv, p, hz⟩ := I.list hq
    obtain ⟨u, hu, ru⟩ := rv.get hx
    obtain ⟨f0, f1, f2, f3, f4, f5⟩ := hf it (by simp)
    refine wpAny_pyNext_list_item st p.isList (x := u) (by simpa using hu) fun h' st' sb => ?_
    have I1 : Inv X pins σ H { s with heap := h' } := I.turned (t' := s.toks) (fun b o hb e => (sb.2 b hb).trans e) f0 f1 f3 f4 f5
    obtain ⟨o, e, c, d⟩ := id st'
    exact ⟨u, rfl, go_of (s := { s with heap := h' }) e c d (by decide) ⟨x, H, I1, ru, ⟨rfl, fun ys hy => by rw [I.list_inj hy hq]; exact hx⟩, st', fun b hb => (hf b hb).1⟩⟩
  done := by
    intro X hP hw hK hc i pins s σ H E I hf st hg
    subst hP hw hK
    obtain ⟨xs, hq, hx⟩ := hg
    obtain ⟨its, rv, p, hz⟩ := I.list hq
    obtain ⟨f0, f1, f2, f3, f4, f5⟩ := hf it (by simp)
    have hl := rv.length
    exact wpAny_pyNext_list_end (I.ok.hd hc) st p.isList (by simp; omega) fun h' eb => ⟨rfl, I.turned (t' := s.toks) (fun b o hb e => eb b o hb e) f0 f1 f3 f4 f5⟩
  self := fun _ _ _ _ _ st h => wpAny_pyIter_listiter st h
theorem turn_range {P : Program} {w : World} {K : PySem.W.Frag} {tg : Expr} (it : Addr) (lo : Int) (n : Nat) : Turn P w K tg (Itr lo n) [it] it (fun i h => IsRangeIter h it (lo + (i : Nat) * 1) ((n : Int) - (i : Nat)) 1) where
  mem := by simp
  obj := fun i h st b hb => by
    have e : b = it := by simpa using hb
    subst e
    exact ⟨_, st, fun v z => by
      have z' : Data.fields _ = Data.cell v := z
      cases z'⟩
  keep := fun i h h' st k => k it (by simp) _ st
  item := by
    intro X hP hw hK hc i pins s σ H E I hf st hg
    subst hP hw hK
    obtain ⟨f0, f1, f2, f3, f4, f5⟩ := hf it (by simp)
    have W := Walks.range (prog := X.prog) (w := X.w) (I.ok.hd hc) it lo 1 n
    refine W.item i s _ _ hg st fun v h' tk hv st' kk => ?_
    obtain ⟨t, rfl⟩ := hv
    have I1 : Inv X pins σ H { s with heap := h', toks := tk } := I.turned (fun b o hb e => kk b o (by simpa using hb) e) f0 f1 f3 f4 f5
    refine ⟨_, rfl, go_of (s := { s with heap := h', toks := tk }) (n := "range_iterator") st' rfl rfl (by decide) ⟨.int (lo + i), H, I1, ⟨t, ?_⟩, ⟨rfl, rfl⟩, st', fun b hb => (hf b hb).1⟩⟩
    rw [Int.mul_one]
  done := by
    intro X hP hw hK hc i pins s σ H E I hf st hg
    subst hP hw hK
    obtain ⟨f0, f1, f2, f3, f4, f5⟩ := hf it (by simp)
    exact wpAny_pyNext_range_end (I.ok.hd hc) st (by have : n ≤ i := hg; omega) fun h' eb => ⟨rfl, I.turned (t' := s.toks) (fun b o hb e => eb b o hb e) f0 f1 f3 f4 f5⟩
  self := fun _ _ _ _ _ st h => wpAny_pyIter_rangeiter st h
end L2

namespace L2
open PySem PySem.Spec PyProof.Rows
section
variable {X : Cx} {tg : Expr}
def iList (K : PySem.W.Frag) (tl : TE) : TI := fun σ H R => tl σ H fun x H1 => ∃ a, x = .ref a ∧ (∃ xs, SqL K H1 a xs) ∧ R (Itl K a) H1
theorem pi_list {l : Expr} {tl : TE} (hl : PE X l tl) : PI X tg l (iList X.K tl) := by
  intro pins s σ H R I h
  refine thn (hl pins s σ H _ I h) fun v s1 ⟨x, H1, I1, r1, q1⟩ => ?_
  obtain ⟨a, e, ⟨xs, hq⟩, q⟩ := q1
  subst e
  cases r1
  obtain ⟨its, rv, p, hz⟩ := I1.list hq
  refine wpAny_pyIter_list p.isList ?_
  refine ⟨s1.heap.objs.size, [s1.heap.objs.size], _, _, H1, rfl, I1.kept (t' := s1.toks) fun b o e => Heap.get?_push_of_some _ e, turn_list a _, ⟨_, Heap.get?_push_size _ rfl, rfl, rfl⟩, fun b hb => ?_, q⟩
  have e : b = s1.heap.objs.size := by simpa using hb
  subst e
  exact I1.fpOk (Nat.le_refl _) (I1.hok.fresh (Nat.le_refl _))
/-- a range object just made, walked -/
theorem range_it {pins : List (Addr × Obj)} {σ : St} {H : Hp} {s : Shared} {R : It → Hp → Prop} {E : Value → Shared → Prop} {lo hi : Int} {t u v : Tok} {tk : Nat} (I : Inv X pins σ H s) (h1 : -(2 ^ 62) ≤ lo) (h2 : lo < 2 ^ 62) (h3 : -(2 ^ 62) ≤ hi) (h4 : hi < 2 ^ 62)
    (q : R (Itr lo (hi - lo).toNat) H) : wpAny (model X.prog X.w) X.A (pyIter (.ref s.heap.objs.size)) (PIE X pins σ tg R) E { s with heap := s.heap.push { cls := .type "range", data := .fields #[.int lo t, .int hi u, .int 1 v] }, toks := tk } := by
  refine wpAny_pyIter_range (IsRange.new ..) (small_one h1 h2 h3 h4) ?_
  have I1 : Inv X pins σ H { s with heap := s.heap.push { cls := .type "range", data := .fields #[.int lo t, .int hi u, .int 1 v] }, toks := tk } := I.kept fun b o e => Heap.get?_push_of_some _ e
  refine ⟨(s.heap.push { cls := .type "range", data := .fields #[.int lo t, .int hi u, .int 1 v] }).objs.size, [(s.heap.push { cls := .type "range", data := .fields #[.int lo t, .int hi u, .int 1 v] }).objs.size], _, _, H, rfl,
    I1.kept (t' := tk) fun b o e => Heap.get?_push_of_some _ e, turn_range _ lo (hi - lo).toNat, ?_, fun b hb => ?_, q⟩
  · have e1 : lo + ((0 : Nat) : Int) * 1 = lo := by simp
    have e2 : (((hi - lo).toNat : Nat) : Int) - ((0 : Nat) : Int) = Builtin.Range.rangeSize lo hi 1 := by rw [rangeSize_one]; split <;> omega
    show IsRangeIter _ _ (lo + ((0 : Nat) : Int) * 1) ((((hi - lo).toNat : Nat) : Int) - ((0 : Nat) : Int)) 1
    rw [e1, e2]
    exact Heap.get?_push_size _ rfl
  · have e : b = (s.heap.push { cls := .type "range", data := .fields #[.int lo t, .int hi u, .int 1 v] }).objs.size := by simpa using hb
    subst e
    exact I1.fpOk (Nat.le_refl _) (I1.hok.fresh (Nat.le_refl _))
def iRng1 (ta : TA) : TI := fun σ H R => ta σ H fun vs H1 => ∃ j : Int, vs = [.int j] ∧ -(2 ^ 62) ≤ j ∧ j < 2 ^ 62 ∧ R (Itr 0 j.toNat) H1
theorem pi_range1 {a : Expr} {ta : TA} {p pos : Pos} (hg : Gl X "range") (hm : X.mg "range" = none) (ha : PA X [a] ta) (hs : starEach [a] X.env = [(false, eval a X.env)] := by rfl) : PI X tg (.Call (.Name "range" p) [a] [] pos) (iRng1 ta) := by
  intro pins s σ H R I h
  refine Call_ (ld_blt I hg hm boot_range (PyProof.Rows.callWith_type1 (thn (ha pos pins s σ H _ I h) fun us s1 ⟨vs, H1, I1, r1, q1⟩ => ?_) hs rfl))
  obtain ⟨j, e, q1, q2, q⟩ := q1
  subst e
  cases r1 with
  | cons r rr =>
    cases rr
    obtain ⟨t, rfl⟩ := r
    exact call_range_1 (range_it I1 (by omega) (by omega) q1 q2 (by simpa using q))
/-- W: the invariant by the turn and a measure; N: what the body is to reach -/
def tFor (wi : TI) (g : TG) (tb : TS) : TS := fun D σ H => wi σ H fun J H1 => ∃ W : Nat → Nat → St → Hp → Prop, (∃ m, W 0 m σ H1) ∧ ∀ i m σ H, W i m σ H →
  (J.stop i H ∧ D.nx σ H) ∨ (J.go i H ∧ ∃ N : St → Hp → Prop, (∀ σ' H', N σ' H' → ∃ m', m' < m ∧ W (i + 1) m' σ' H') ∧ ∀ x H', J.yld i H x H' → g x σ H' fun σ2 H2 => tb { D with nx := N, ct := N, bk := D.nx } σ2 H2)
/-- the records at fp as they stand -/
def pinsAt (fp : List Addr) (h : Heap) : List (Addr × Obj) := fp.filterMap fun b => (h.get? b).map fun o => (b, o)
theorem mem_pinsAt {fp : List Addr} {h : Heap} {b : Addr} {o : Obj} (hb : b ∈ fp) (e : h.get? b = some o) : (b, o) ∈ pinsAt fp h := List.mem_filterMap.mpr ⟨b, hb, by rw [e]; rfl⟩
theorem of_pinsAt {fp : List Addr} {h : Heap} {p : Addr × Obj} (hp : p ∈ pinsAt fp h) : p.1 ∈ fp ∧ h.get? p.1 = some p.2 := by
  obtain ⟨b, hb, e⟩ := List.mem_filterMap.mp hp
  cases q : h.get? b with
  | none => rw [q] at e; cases e
  | some o =>
    rw [q] at e
    have e' : (b, o) = p := Option.some.inj e
    subst e'
    exact ⟨hb, q⟩
theorem Inv.pinned {pins : List (Addr × Obj)} {σ : St} {H : Hp} {s : Shared} {fp : List Addr} (I : Inv X pins σ H s) (hf : ∀ b ∈ fp, FpOk X pins H b) (ho : ∀ b ∈ fp, ∃ o, s.heap.get? b = some o ∧ ∀ v, o.data ≠ .cell v) : Inv X (pins ++ pinsAt fp s.heap) σ H s :=
  I.pins_of fun p hp => (List.mem_append.mp hp).elim (fun z => I.pin p (List.mem_append_right _ z)) fun z => by
    obtain ⟨hb, e⟩ := of_pinsAt z
    obtain ⟨f0, f1, f2, _⟩ := hf p.1 hb
    obtain ⟨o, e', d⟩ := ho p.1 hb
    rw [e] at e'; cases e'
    exact ⟨e, f0, f1, f2, d⟩
theorem Inv.unpinned {pins pl : List (Addr × Obj)} {σ : St} {H : Hp} {s : Shared} (I : Inv X (pins ++ pl) σ H s) : Inv X pins σ H s := I.pins_of fun p hp => I.pin p (List.mem_append_right _ (List.mem_append_left _ hp))
theorem ps_for {iter : Expr} {body : List Stmt} {wi : TI} {g : TG} {tb : TS} {pos : Pos} (hp : PassesOwn (model X.prog X.w) X.A X.env X.xe) (hc : X.calm = true) (hi : PI X tg iter wi) (hg : PG X tg g) (hb : PSs X body tb)
    (hs : ∀ x, foldedSetIterable iter X.env x = pure x := by intro _; rfl) : PS X (.For tg iter body [] pos) (tFor wi g tb) := by
  intro pins s σ H D I h
  refine wpAny_For (thn (hi pins s σ H _ I h) fun v s1 h1 => thn h1 fun itv s2 h2 => ?_) hs
  obtain ⟨it, fp, tn, J, H2, e, I2, T, st2, f2, W, ⟨m0, w0⟩, turn⟩ := h2
  subst e
  -- what stays true of the iterator's objects through the loop
  have stat : ∀ {H' : Hp}, (∀ b ∈ fp, H' b = none) → ∀ b ∈ fp, FpOk X pins H' b := fun hn b hb => ⟨hn b hb, (f2 b hb).2⟩
  refine codeAny_forLoop_any (fun n s' => ∃ i σ' H', Inv X pins σ' H' s' ∧ tn i s'.heap ∧ (∀ b ∈ fp, H' b = none) ∧ W i n σ' H') ?_ m0 ⟨0, σ, H2, I2, st2, fun b hb => (f2 b hb).1, w0⟩
  rintro n s3 ⟨i, σ3, H3, I3, st3, fr3, w3⟩
  rcases turn i n σ3 H3 w3 with ⟨stop, qn⟩ | ⟨go, N, hN, step⟩
  · refine wpAny_passesOwn hp (thn (T.done X rfl rfl rfl hc i pins s3 σ3 H3 X.xe I3 (stat fr3) st3 stop) fun r s4 ⟨hr, I4⟩ => ?_)
    subst hr
    exact wpAny_execs_nil ⟨σ3, H3, I4, qn⟩
  · refine wpAny_passesOwn hp (thn (T.item X rfl rfl rfl hc i pins s3 σ3 H3 X.xe I3 (stat fr3) st3 go) fun r s4 ⟨u, hr, h4⟩ => ?_)
    subst hr
    refine wpAny_passesOwn hp (thn h4 fun _ s5 ⟨x, H5, I5, r5, y5, st5, fr5⟩ => ?_)
    have I5' := I5.pinned (stat fr5) (T.obj _ _ st5)
    refine wpAny_passesOwn hp (thn (hg _ s5 σ3 H5 x u _ I5' r5 (step x H5 y5)) fun _ s6 ⟨σ6, H6, I6, q6⟩ => ?_)
    refine wpAny_passesOwn hp (thn (hb _ s6 σ6 H6 _ I6 q6) fun f s7 q7 => ?_)
    have again : ∀ {σ7 : St} {H7 : Hp}, Inv X (pins ++ pinsAt fp s5.heap) σ7 H7 s7 → N σ7 H7 → ∃ m, m < n ∧ ∃ i σ' H', Inv X pins σ' H' s7 ∧ tn i s7.heap ∧ (∀ b ∈ fp, H' b = none) ∧ W i m σ' H' := fun {σ7 H7} I7 n7 => by
      obtain ⟨m', hm, w7⟩ := hN σ7 H7 n7
      refine ⟨m', hm, i + 1, σ7, H7, I7.unpinned, T.keep _ _ _ st5 fun b hb o e => (I7.pin (b, o) (List.mem_append_right _ (List.mem_append_right _ (mem_pinsAt hb e)))).1, fun b hb => ?_, w7⟩
      obtain ⟨o, e, d⟩ := T.obj _ _ st5 b hb
      exact (I7.pin (b, o) (List.mem_append_right _ (List.mem_append_right _ (mem_pinsAt hb e)))).2.1
    cases f with
    | next => obtain ⟨σ7, H7, I7, n7⟩ := q7; exact again I7 n7
    | cont => obtain ⟨σ7, H7, I7, n7⟩ := q7; exact again I7 n7
    | brk => obtain ⟨σ7, H7, I7, q7⟩ := q7; exact ⟨σ7, H7, I7.unpinned, q7⟩
    | ret v => obtain ⟨x7, σ7, H7, I7, r7, q7⟩ := q7; exact ⟨x7, σ7, H7, I7.unpinned, r7, q7⟩
end

/-- over a list that the body leaves as it is -/
theorem for_list {K : PySem.W.Frag} {a : Addr} {xs : List V} {g : TG} {tb : TS} {D : Ends} {σ : St} {H : Hp} (Pv : Nat → St → Hp → Prop) (h0 : Pv 0 σ H) (hl : ∀ i σ H, i ≤ xs.length → Pv i σ H → SqL K H a xs)
    (hs : ∀ i x σ H, xs[i]? = some x → Pv i σ H → g x σ H fun σ2 H2 => tb { D with nx := Pv (i + 1), ct := Pv (i + 1), bk := D.nx } σ2 H2) (hd : ∀ σ H, Pv xs.length σ H → D.nx σ H) :
    ∃ W : Nat → Nat → St → Hp → Prop, (∃ m, W 0 m σ H) ∧ ∀ i m σ H, W i m σ H →
      ((Itl K a).stop i H ∧ D.nx σ H) ∨ ((Itl K a).go i H ∧ ∃ N : St → Hp → Prop, (∀ σ' H', N σ' H' → ∃ m', m' < m ∧ W (i + 1) m' σ' H') ∧ ∀ x H', (Itl K a).yld i H x H' → g x σ H' fun σ2 H2 => tb { D with nx := N, ct := N, bk := D.nx } σ2 H2) := by
  refine ⟨fun i m σ H => m = xs.length - i ∧ i ≤ xs.length ∧ Pv i σ H, ⟨xs.length, by simp, Nat.zero_le _, h0⟩, ?_⟩
  rintro i m σ H ⟨rfl, hi, p⟩
  have q := hl i σ H hi p
  by_cases hlt : i < xs.length
  · refine .inr ⟨⟨xs, xs[i], q, by simp [hlt]⟩, Pv (i + 1), fun σ' H' p' => ⟨xs.length - (i + 1), by omega, rfl, hlt, p'⟩, fun x H' y => ?_⟩
    obtain ⟨e, y⟩ := y
    subst e
    exact hs i x σ _ (y xs q) p
  · have e : i = xs.length := by omega
    subst e
    exact .inl ⟨⟨xs, q, Nat.le_refl _⟩, hd σ H p⟩
theorem for_range {lo : Int} {n : Nat} {g : TG} {tb : TS} {D : Ends} {σ : St} {H : Hp} (Pv : Nat → St → Hp → Prop) (h0 : Pv 0 σ H)
    (hs : ∀ i σ H, i < n → Pv i σ H → g (.int (lo + i)) σ H fun σ2 H2 => tb { D with nx := Pv (i + 1), ct := Pv (i + 1), bk := D.nx } σ2 H2) (hd : ∀ σ H, Pv n σ H → D.nx σ H) :
    ∃ W : Nat → Nat → St → Hp → Prop, (∃ m, W 0 m σ H) ∧ ∀ i m σ H, W i m σ H →
      ((Itr lo n).stop i H ∧ D.nx σ H) ∨ ((Itr lo n).go i H ∧ ∃ N : St → Hp → Prop, (∀ σ' H', N σ' H' → ∃ m', m' < m ∧ W (i + 1) m' σ' H') ∧ ∀ x H', (Itr lo n).yld i H x H' → g x σ H' fun σ2 H2 => tb { D with nx := N, ct := N, bk := D.nx } σ2 H2) := by
  refine ⟨fun i m σ H => m = n - i ∧ i ≤ n ∧ Pv i σ H, ⟨n, by simp, Nat.zero_le _, h0⟩, ?_⟩
  rintro i m σ H ⟨rfl, hi, p⟩
  by_cases hlt : i < n
  · refine .inr ⟨hlt, Pv (i + 1), fun σ' H' p' => ⟨n - (i + 1), by omega, rfl, hlt, p'⟩, fun x H' y => ?_⟩
    obtain ⟨e, y⟩ := y
    subst e y
    exact hs i σ _ hlt p
  · have e : i = n := by omega
    subst e
    exact .inl ⟨Nat.le_refl _, hd σ H p⟩
end L2

namespace L2
open PySem PySem.Spec PyProof.Rows

abbrev R2 := V → V → Hp → VK → Prop
/-- a two-place operation on values: f is binaryOp op, inplaceOp op or compareOp op -/
def OpR (X : Cx) (f : Value → Value → Sem Value) (r : R2) : Prop :=
  ∀ (pins : List (Addr × Obj)) (s : Shared) (σ : St) (H : Hp) (x y : V) (v u : Value) (Q : VK), Inv X pins σ H s → RelV x v → RelV y u → r x y H Q →
    wpAny (model X.prog X.w) X.A (f v u) (EP X pins σ Q) X.xe s
/-- a call of a value that is known (a builtin, a type) with values -/
def CallR (X : Cx) (f : Value) (r : List V → Hp → VK → Prop) : Prop :=
  ∀ (pins : List (Addr × Obj)) (s : Shared) (σ : St) (H : Hp) (xs : List V) (us : List Value) (Q : VK), Inv X pins σ H s → Vals xs us → r xs H Q →
    wpAny (model X.prog X.w) X.A (call f us) (EP X pins σ Q) X.xe s
def tOp (r : R2) (ta tb : TE) : TE := fun σ H Q => ta σ H fun x H1 => tb σ H1 fun y H2 => r x y H2 Q
/-- ints in, under C, and a value out -/
inductive rI (C : Int → Int → Prop) (g : Int → Int → V) (x : V) (y : V) (H : Hp) (Q : VK) : Prop
  | mk : ∀ i j, (x = .int i) → (y = .int j) → (C i j) → (Q (g i j) H) → rI C g x y H Q
inductive rI0 (g : Int → Int → V) (x : V) (y : V) (H : Hp) (Q : VK) : Prop
  | mk : ∀ i j, (x = .int i) → (y = .int j) → (Q (g i j) H) → rI0 g x y H Q
section
variable {X : Cx} {a b c : Expr} {ta tb tc : TE} {pos : Pos}

theorem binT (ha : PE X a ta) (hb : PE X b tb) {pins : List (Addr × Obj)} {s : Shared} {σ : St} {H : Hp} {R : V → V → Hp → Prop} (I : Inv X pins σ H s)
    (h : ta σ H fun x H1 => tb σ H1 fun y H2 => R x y H2) {Q : Value → Shared → Prop} {f : Value → Value → Sem Value}
    (hf : ∀ v u s2 x y H2, Inv X pins σ H2 s2 → RelV x v → RelV y u → R x y H2 → wpAny (model X.prog X.w) X.A (f v u) Q X.xe s2) :
    wpAny (model X.prog X.w) X.A (eval a X.env) (fun v s₁ => wpAny (model X.prog X.w) X.A (eval b X.env) (fun u s₂ => wpAny (model X.prog X.w) X.A (f v u) Q X.xe s₂) X.xe s₁) X.xe s := by
  refine thn (ha pins s σ H _ I h) fun v s1 ⟨x, H1, I1, r1, q1⟩ => ?_
  refine thn (hb pins s1 σ H1 _ I1 q1) fun u s2 ⟨y, H2, I2, r2, q2⟩ => ?_
  exact hf v u s2 x y H2 I2 r1 r2 q2

theorem pe_op {op : Operator} {r : R2} (ho : OpR X (binaryOp op) r) (ha : PE X a ta) (hb : PE X b tb) : PE X (.BinOp a op b pos) (tOp r ta tb) := by
  intro pins s σ H Q I h
  exact wpAny_BinOp (binT ha hb I h fun v u s2 x y H2 I2 rx ry q => ho pins s2 σ H2 x y v u Q I2 rx ry q)
theorem opI {f : Value → Value → Sem Value} {C : Int → Int → Prop} {g : Int → Int → Int}
    (rule : ∀ (i j : Int) (t u : Tok) (s : Shared) (Q : Value → Shared → Prop) (E : Value → Shared → Prop), C i j → Q (.int (g i j) s.toks) { s with toks := s.toks + 1 } → wpAny (model X.prog X.w) X.A (f (.int i t) (.int j u)) Q E s) :
    OpR X f (rI C fun i j => .int (g i j)) := by
  intro pins s σ H x y v u Q I rx ry h
  obtain ⟨i, j, rfl, rfl, hc, q⟩ := h
  obtain ⟨t, rfl⟩ := rx
  obtain ⟨t', rfl⟩ := ry
  exact rule i j t t' s _ _ hc ⟨.int (g i j), H, I.tok _, ⟨_, rfl⟩, q⟩
theorem opI0 {f : Value → Value → Sem Value} {g : Int → Int → Int}
    (rule : ∀ (i j : Int) (t u : Tok) (s : Shared) (Q : Value → Shared → Prop) (E : Value → Shared → Prop), Q (.int (g i j) s.toks) { s with toks := s.toks + 1 } → wpAny (model X.prog X.w) X.A (f (.int i t) (.int j u)) Q E s) :
    OpR X f (rI0 fun i j => .int (g i j)) := by
  intro pins s σ H x y v u Q I rx ry h
  obtain ⟨i, j, rfl, rfl, q⟩ := h
  obtain ⟨t, rfl⟩ := rx
  obtain ⟨t', rfl⟩ := ry
  exact rule i j t t' s _ _ ⟨.int (g i j), H, I.tok _, ⟨_, rfl⟩, q⟩
theorem opB0 {f : Value → Value → Sem Value} {g : Int → Int → Bool}
    (rule : ∀ (i j : Int) (t u : Tok) (s : Shared) (Q : Value → Shared → Prop) (E : Value → Shared → Prop), Q (.bool (g i j)) s → wpAny (model X.prog X.w) X.A (f (.int i t) (.int j u)) Q E s) :
    OpR X f (rI0 fun i j => .bl (g i j)) := by
  intro pins s σ H x y v u Q I rx ry h
  obtain ⟨i, j, rfl, rfl, q⟩ := h
  obtain ⟨t, rfl⟩ := rx
  obtain ⟨t', rfl⟩ := ry
  exact rule i j t t' s _ _ ⟨.bl (g i j), H, I, rfl, q⟩

def CDiv (i j : Int) : Prop := 0 < j ∧ j < 1073741824
def CPow (i j : Int) : Prop := 0 ≤ j ∧ j ≤ 1000000 ∧ i.natAbs < 2 ^ 64
def CMul (i j : Int) : Prop := (-(2 ^ 64) < i ∧ i < 2 ^ 64) ∨ (-(2 ^ 64) < j ∧ j < 2 ^ 64)
theorem CMul.ok {i j : Int} (h : CMul i j) : IntMulOk i j := by
  rcases h with ⟨h1, h2⟩ | ⟨h1, h2⟩
  · exact .of_left (intBits_le_64 h1 h2)
  · exact .of_right (intBits_le_64 h1 h2)
theorem op_add : OpR X (binaryOp .Add) (rI0 fun i j => .int (i + j)) := opI0 fun _ _ _ _ _ _ _ q => add_int q
theorem op_sub : OpR X (binaryOp .Sub) (rI0 fun i j => .int (i - j)) := opI0 fun _ _ _ _ _ _ _ q => sub_int q
theorem op_mul : OpR X (binaryOp .Mult) (rI CMul fun i j => .int (i * j)) := opI fun _ _ _ _ _ _ _ hc q => mul_int q hc.ok
/-- // by a positive divisor -/
theorem op_fdiv : OpR X (binaryOp .FloorDiv) (rI CDiv fun i j => .int (i / j)) := opI fun i j _ _ _ _ _ hc q => by
  have h1 : (0 : Int) < j := hc.1
  have h2 : j < 1073741824 := hc.2
  exact floordiv_int (by omega) (by rw [Int.fdiv_eq_ediv_of_nonneg i (by omega)]; exact q) (.inl (PyProof.noPylong_small (by omega)))
/-- % by a positive divisor of any size -/
theorem op_mod : OpR X (binaryOp .Mod) (rI (fun _ j => 0 < j) fun i j => .int (i % j)) := opI fun i j _ _ _ _ _ hc q => by
  have h1 : (0 : Int) < j := hc
  exact mod_int' (by omega) (by rw [Int.fmod_eq_emod_of_nonneg i (by omega)]; exact q)
theorem op_pow : OpR X (binaryOp .Pow) (rI CPow fun i j => .int (i ^ j.toNat)) := opI fun _ _ _ _ _ _ _ hc q => pow_int_small hc.1 hc.2.1 hc.2.2 q
end

/-- the scalars that == tells apart as data does -/
def scal : V → V → Bool
  | .non, .non => true | .non, .int _ => true | .int _, .non => true | .non, .bl _ => true | .bl _, .non => true | .non, .str _ => true | .str _, .non => true
  | .int _, .int _ => true | .bl _, .bl _ => true | .str _, .str _ => true | .byt _, .byt _ => true
  | .int _, .str _ => true | .str _, .int _ => true | .bl _, .str _ => true | .str _, .bl _ => true
  | _, _ => false
def rEq : R2 := fun x y H Q => scal x y = true ∧ Q (.bl (decide (x = y))) H
def rNe : R2 := fun x y H Q => scal x y = true ∧ Q (.bl (!decide (x = y))) H

theorem dec_int {i j : Int} : decide (V.int i = V.int j) = (i == j) := by
  rw [Bool.eq_iff_iff]
  simp
theorem dec_bl {i j : Bool} : decide (V.bl i = V.bl j) = (i == j) := by
  rw [Bool.eq_iff_iff]
  simp
theorem dec_str {i j : Str} : decide (V.str i = V.str j) = (i == j) := by
  rw [Bool.eq_iff_iff]
  simp
theorem dec_byt {i j : Array UInt8} : decide (V.byt i = V.byt j) = (i.toList == j.toList) := by
  rw [Bool.eq_iff_iff]
  cases i
  cases j
  simp

section
variable {X : Cx} {a b c : Expr} {ta tb tc : TE} {pos : Pos}
theorem fin_bl {pins : List (Addr × Obj)} {σ : St} {H : Hp} {s : Shared} {Q : VK} {k k' : Bool} (I : Inv X pins σ H s) (q : Q (.bl k) H) (e : k = k') : EP X pins σ Q (.bool k') s := by
  subst e
  exact ⟨.bl k, H, I, rfl, q⟩
theorem op_eq : OpR X (compareOp .Eq) rEq := by
  intro pins s σ H x y v u Q I rx ry h
  obtain ⟨hs, q⟩ := h
  cases x with
  | non =>
    cases rx
    cases y with
    | non => cases ry; exact PySem.EqNone.eq_none_none (fin_bl I q (by simp))
    | bl j => cases ry; exact PySem.EqNone.eq_none_bool (fin_bl I q (by simp))
    | int j => obtain ⟨t', rfl⟩ := ry; exact PySem.EqNone.eq_none_int (fin_bl I q (by simp))
    | str j => obtain ⟨t', rfl⟩ := ry; exact PySem.EqNone.eq_none_str (fin_bl I q (by simp))
    | _ => exact absurd (show false = true from hs) Bool.false_ne_true
  | bl i =>
    cases rx
    cases y with
    | non => cases ry; exact PySem.EqNone.eq_bool_none (fin_bl I q (by simp))
    | bl j => cases ry; exact eq_bool (fin_bl I q dec_bl)
    | str j => obtain ⟨t', rfl⟩ := ry; exact PySem.EqMixed.eq_bool_str (fin_bl I q (by simp))
    | _ => exact absurd (show false = true from hs) Bool.false_ne_true
  | int i =>
    obtain ⟨t, rfl⟩ := rx
    cases y with
    | non => cases ry; exact PySem.EqNone.eq_int_none (fin_bl I q (by simp))
    | int j => obtain ⟨t', rfl⟩ := ry; exact eq_int (fin_bl I q dec_int)
    | str j => obtain ⟨t', rfl⟩ := ry; exact PySem.EqMixed.eq_int_str (fin_bl I q (by simp))
    | _ => exact absurd (show false = true from hs) Bool.false_ne_true
  | str i =>
    obtain ⟨t, rfl⟩ := rx
    cases y with
    | non => cases ry; exact PySem.EqNone.eq_str_none (fin_bl I q (by simp))
    | bl j => cases ry; exact PySem.EqMixed.eq_str_bool (fin_bl I q (by simp))
    | int j => obtain ⟨t', rfl⟩ := ry; exact PySem.EqMixed.eq_str_int (fin_bl I q (by simp))
    | str j => obtain ⟨t', rfl⟩ := ry; exact eq_str (fin_bl I q dec_str)
    | _ => exact absurd (show false = true from hs) Bool.false_ne_true
  | byt i =>
    obtain ⟨t, rfl⟩ := rx
    cases y with
    | byt j => obtain ⟨t', rfl⟩ := ry; exact PySem.W.eq_bytes (fin_bl I q dec_byt)
    | _ => exact absurd (show false = true from hs) Bool.false_ne_true
  | _ => cases y <;> exact absurd (show false = true from hs) Bool.false_ne_true
theorem op_ne : OpR X (compareOp .NotEq) rNe := by
  intro pins s σ H x y v u Q I rx ry h
  obtain ⟨hs, q⟩ := h
  cases x with
  | non =>
    cases rx
    cases y with
    | non => cases ry; exact PySem.EqNone.ne_none_none (fin_bl I q (by simp))
    | bl j => cases ry; exact PySem.EqNone.ne_none_bool (fin_bl I q (by simp))
    | int j => obtain ⟨t', rfl⟩ := ry; exact PySem.EqNone.ne_none_int (fin_bl I q (by simp))
    | str j => obtain ⟨t', rfl⟩ := ry; exact PySem.EqNone.ne_none_str (fin_bl I q (by simp))
    | _ => exact absurd (show false = true from hs) Bool.false_ne_true
  | bl i =>
    cases rx
    cases y with
    | non => cases ry; exact PySem.EqNone.ne_bool_none (fin_bl I q (by simp))
    | bl j => cases ry; exact ne_bool (fin_bl I q (congrArg not dec_bl))
    | str j => obtain ⟨t', rfl⟩ := ry; exact PySem.EqMixed.ne_bool_str (fin_bl I q (by simp))
    | _ => exact absurd (show false = true from hs) Bool.false_ne_true
  | int i =>
    obtain ⟨t, rfl⟩ := rx
    cases y with
    | non => cases ry; exact PySem.EqNone.ne_int_none (fin_bl I q (by simp))
    | int j => obtain ⟨t', rfl⟩ := ry; exact ne_int (fin_bl I q (congrArg not dec_int))
    | str j => obtain ⟨t', rfl⟩ := ry; exact PySem.EqMixed.ne_int_str (fin_bl I q (by simp))
    | _ => exact absurd (show false = true from hs) Bool.false_ne_true
  | str i =>
    obtain ⟨t, rfl⟩ := rx
    cases y with
    | non => cases ry; exact PySem.EqNone.ne_str_none (fin_bl I q (by simp))
    | bl j => cases ry; exact PySem.EqMixed.ne_str_bool (fin_bl I q (by simp))
    | int j => obtain ⟨t', rfl⟩ := ry; exact PySem.EqMixed.ne_str_int (fin_bl I q (by simp))
    | str j => obtain ⟨t', rfl⟩ := ry; exact ne_str (fin_bl I q (congrArg not dec_str))
    | _ => exact absurd (show false = true from hs) Bool.false_ne_true
  | byt i =>
    obtain ⟨t, rfl⟩ := rx
    cases y with
    | byt j => obtain ⟨t', rfl⟩ := ry; exact PySem.W.ne_bytes (fin_bl I q (congrArg not dec_byt))
    | _ => exact absurd (show false = true from hs) Bool.false_ne_true
  | _ => cases y <;> exact absurd (show false = true from hs) Bool.false_ne_true

theorem op_le : OpR X (compareOp .LtE) (rI0 fun i j => .bl (decide (i ≤ j))) := opB0 fun _ _ _ _ _ _ _ q => le_int q
theorem op_gt : OpR X (compareOp .Gt) (rI0 fun i j => .bl (decide (j < i))) := opB0 fun _ _ _ _ _ _ _ q => gt_int q
/-- two rules for one operation: by cases -/
theorem OpR.or {f : Value → Value → Sem Value} {r r' : R2} (h : OpR X f r) (h' : OpR X f r') : OpR X f (fun x y H Q => r x y H Q ∨ r' x y H Q) := by
  intro pins s σ H x y v u Q I rx ry q
  rcases q with q | q
  · exact h pins s σ H x y v u Q I rx ry q
  · exact h' pins s σ H x y v u Q I rx ry q

theorem nomark (b : Expr) {op : CmpOp} (h : op ≠ .In := by decide) (h2 : op ≠ .NotIn := by decide) : behindInMarks op b = false := by
  have e1 : (op == CmpOp.In) = false := by cases op <;> first | rfl | exact absurd rfl h
  have e2 : (op == CmpOp.NotIn) = false := by cases op <;> first | rfl | exact absurd rfl h2
  cases b <;> simp [behindInMarks, e1, e2]
/-- a comparison as a value; hm: nomark b, or (for in, not in) by with_unfolding_all rfl -/
theorem pe_cmpR {op : CmpOp} {r : R2} (ho : OpR X (compareOp op) r) (ha : PE X a ta) (hb : PE X b tb) (hm : behindInMarks op b = false) : PE X (.Compare a [op] [b] pos) (tOp r ta tb) := by
  intro pins s σ H Q I h
  exact wpAny_Compare1 (binT ha hb I h fun v u s2 x y H2 I2 rx ry q => ho pins s2 σ H2 x y v u Q I2 rx ry q) hm
/-- a reading of a value as a test -/
def tTest (t : TE) : TT := fun σ H Q => t σ H (IsB Q)
theorem pt_cmpR {op : CmpOp} {r : R2} (ho : OpR X (compareOp op) r) (ha : PE X a ta) (hb : PE X b tb) (hm : behindInMarks op b = false) : PT X (.Compare a [op] [b] pos) (tTest (tOp r ta tb)) := by
  intro pins s σ H Q I h
  refine wpAny_isTrue_Compare1 (thn (ha pins s σ H _ I h) fun v s1 ⟨x, H1, I1, r1, q1⟩ => thn (hb pins s1 σ H1 _ I1 q1) fun u s2 ⟨y, H2, I2, r2, q2⟩ =>
    thn (ho pins s2 σ H2 x y v u _ I2 r1 r2 q2) fun c s3 ⟨z, H3, I3, r3, k, e, q3⟩ => ?_) hm
  subst e
  cases r3
  exact wpAny_truthy_bool ⟨H3, I3, q3⟩
/-- a op1 b op2 c -/
def tChain (r r' : R2) (ta tb tc : TE) : TE := fun σ H Q => ta σ H fun x H1 => tb σ H1 fun y H2 => r x y H2 fun z H3 => ∃ k, z = .bl k ∧
  (if k = true then tc σ H3 fun w' H4 => r' y w' H4 Q else Q (.bl false) H3)
theorem pe_chain {op op' : CmpOp} {r r' : R2} (ho : OpR X (compareOp op) r) (ho' : OpR X (compareOp op') r') (ha : PE X a ta) (hb : PE X b tb) (hc : PE X c tc)
    (hm : lastMarks [op, op'] [b, c] = false := by with_unfolding_all rfl) : PE X (.Compare a [op, op'] [b, c] pos) (tChain r r' ta tb tc) := by
  intro pins s σ H Q I h
  refine Compare_chain (thn (ha pins s σ H _ I h) fun v s1 ⟨x, H1, I1, r1, q1⟩ => chain_link (thn (hb pins s1 σ H1 _ I1 q1) fun u s2 ⟨y, H2, I2, r2, q2⟩ =>
    thn (ho pins s2 σ H2 x y v u _ I2 r1 r2 q2) fun d s3 ⟨z, H3, I3, r3, k, e, q3⟩ => ?_)) hm
  subst e
  cases r3
  refine wpAny_truthy_bool ?_
  cases k with
  | false => exact ite_ff ⟨.bl false, H3, I3, rfl, q3⟩
  | true => exact ite_tt (chain_last (thn (hc pins s3 σ H3 _ I3 q3) fun w' s4 ⟨z', H4, I4, r4, q4⟩ => ho' pins s4 σ H4 y z' u w' Q I4 r2 r4 q4))
theorem pt_chain {op op' : CmpOp} {r r' : R2} (ho : OpR X (compareOp op) r) (ho' : OpR X (compareOp op') r') (ha : PE X a ta) (hb : PE X b tb) (hc : PE X c tc)
    (hm : lastMarks [op, op'] [b, c] = false := by with_unfolding_all rfl) : PT X (.Compare a [op, op'] [b, c] pos) (tTest (tChain r r' ta tb tc)) := by
  intro pins s σ H Q I h
  refine isTrue_chain (thn (ha pins s σ H _ I h) fun v s1 ⟨x, H1, I1, r1, q1⟩ => test_link (thn (hb pins s1 σ H1 _ I1 q1) fun u s2 ⟨y, H2, I2, r2, q2⟩ =>
    thn (ho pins s2 σ H2 x y v u _ I2 r1 r2 q2) fun d s3 ⟨z, H3, I3, r3, k, e, q3⟩ => ?_)) hm
  subst e
  cases r3
  refine wpAny_truthy_bool ?_
  cases k with
  | false =>
    obtain ⟨k', e', q'⟩ := q3
    cases e'
    exact ite_ff ⟨H3, I3, q'⟩
  | true =>
    refine ite_tt (test_last (thn (hc pins s3 σ H3 _ I3 q3) fun w' s4 ⟨z', H4, I4, r4, q4⟩ => thn (ho' pins s4 σ H4 y z' u w' _ I4 r2 r4 q4) fun d' s5 ⟨z2, H5, I5, r5, k2, e2, q5⟩ => ?_))
    subst e2
    cases r5
    exact wpAny_truthy_bool ⟨H5, I5, q5⟩

theorem line63 : (sizeLine : Nat) < 2 ^ 63 := by rw [sizeLine_eq]; decide
theorem vals1 {x : V} {us : List Value} (r : Vals [x] us) : ∃ u, us = [u] ∧ RelV x u := by
  cases r with
  | cons r1 r2 => cases r2; exact ⟨_, rfl, r1⟩
theorem vals2 {x y : V} {us : List Value} (r : Vals [x, y] us) : ∃ u w', us = [u, w'] ∧ RelV x u ∧ RelV y w' := by
  cases r with
  | cons r1 r2 =>
    cases r2 with
    | cons r3 r4 => cases r4; exact ⟨_, _, rfl, r1, r3⟩
theorem call_min2 (hc : X.calm = true) : CallR X (.builtin "min") (fun xs H Q => ∃ i j, xs = [.int i, .int j] ∧ Q (.int (if j < i then j else i)) H) := by
  intro pins s σ H xs us Q I r h
  obtain ⟨i, j, rfl, q⟩ := h
  obtain ⟨u, w', rfl, ⟨t, rfl⟩, ⟨t', rfl⟩⟩ := vals2 r
  refine min_two_ints (I.ok.hd hc) fun h' tk k => ⟨_, H, I.kept k, ?_, q⟩
  by_cases hj : j < i
  · rw [if_pos hj, if_pos hj]; exact ⟨_, rfl⟩
  · rw [if_neg hj, if_neg hj]; exact ⟨_, rfl⟩
theorem call_int1 : CallR X (.type "int") (fun xs H Q => (∃ i, xs = [.int i] ∧ Q (.int i) H) ∨ ∃ k, xs = [.bl k] ∧ Q (.int (if k then 1 else 0)) H) := by
  intro pins s σ H xs us Q I r h
  rcases h with ⟨i, rfl, q⟩ | ⟨k, rfl, q⟩
  · obtain ⟨u, rfl, t, rfl⟩ := vals1 r
    exact call_int_int ⟨.int i, H, I, ⟨_, rfl⟩, q⟩
  · obtain ⟨u, rfl, r1⟩ := vals1 r
    cases r1
    exact call_int_bool ⟨.int (if k then 1 else 0), H, I.tok _, ⟨_, rfl⟩, q⟩
end
end L2

namespace L2
open PySem PySem.Spec PyProof.Rows

structure ObjM (h : Heap) (x dx C : Addr) (mA : Str → Option Value) : Prop where
  obj : h.get? x = some (PySem.W.instObj C dx)
  ns : h.Ns1 dx mA
  ne : dx ≠ x

theorem lookIn_ns {h : Heap} {dx : Addr} {mA : Str → Option Value} (n : h.Ns1 dx mA) : ∃ od, h.get? dx = some od ∧ ∀ name, PySem.W.lookIn name od = some (mA name) := by
  obtain ⟨o, es, ep, ho, hd, hk, _, hm⟩ := n
  refine ⟨o, ho, fun name => ?_⟩
  have e := hm name
  unfold nsFind findBy at e
  rw [← Array.find?_toList] at e
  unfold PySem.W.lookIn
  rw [hd]
  try dsimp only
  split
  · rename_i y q
    rw [q] at e
    exact congrArg some e
  · rename_i q
    rw [q] at e
    have a : es.toList.any (·.refKey) = false := by
      rw [List.any_eq_false]
      intro y hy
      obtain ⟨z, t, hkey⟩ := hk y (Array.mem_toList_iff.mp hy)
      simp [DictEntry.refKey, hkey]
    have a' : ¬ es.toList.any (·.refKey) = true := by rw [a]; exact Bool.false_ne_true
    rw [if_neg a']
    exact congrArg some e

theorem ObjM.look {h : Heap} {x dx C : Addr} {mA : Str → Option Value} (I : ObjM h x dx C mA) : ∃ od, PySem.W.InstAt h x (PySem.W.instObj C dx) C (some od) ∧ ∀ name, PySem.W.lookIn name od = some (mA name) :=
  let ⟨od, ho, hl⟩ := lookIn_ns I.ns
  ⟨od, ⟨I.obj, rfl, rfl, ho⟩, hl⟩

section
variable {prog : Program} {w : World} {A : Around} {E : Value → Shared → Prop} {s : Shared} {K : PySem.W.Frag} {x dx C f : Addr} {mA : Str → Option Value} {name : Str} {v : Value}

theorem get_map {expr : Bool} {Q : Value → Shared → Prop} (X : K.In s.heap) (I : ObjM s.heap x dx C mA) (hg : PySem.W.plainGet K C name = true) (hh : PySem.W.hasDictIn K C = true)
    (ha : PySem.W.findIn K (.ref C) name = some none) (hv : mA name = some v) (hv' : PySem.W.handedIn v = true) (h : Q v { s with toks := s.toks + 1 }) :
    wpAny (model prog w) A (getAttr (.ref x) name expr) Q E s := by
  obtain ⟨od, J, hl⟩ := I.look
  exact PySem.W.get_value X J (PySem.W.plainGet_of hg).1 (PySem.W.findObj_own hh ha rfl (by rw [hl, hv])) hv' h

theorem set_map {ns : List Str} {Q : Unit → Shared → Prop} (X : K.In s.heap) (I : ObjM s.heap x dx C mA)
    (hs : PySem.W.findIn K (.ref C) "__setattr__" = some (some (.builtin "object.__setattr__"))) (hp : PySem.W.plainOver K C = true) (ht : PySem.W.takerIn K C name = some none) (hh : PySem.W.hasDictIn K C = true)
    (hw : PySem.Within mA ns) (hsz : ns.length ≤ sizeLine)
    (h : ∀ h', ObjM h' x dx C (fun y => if y = name then some v else mA y) → Heap.SameBut dx s.heap h' → Q () { s with heap := h', toks := s.toks + 2 }) :
    wpAny (model prog w) A (setAttr (.ref x) name v) Q E s := by
  obtain ⟨od, J, hl⟩ := I.look
  refine PySem.W.set_plain X J hs (PySem.W.osa_open (s := { s with toks := s.toks + 1 }) (r := none) X J hp ht fun b => ?_)
  obtain ⟨cd, hc, hd'⟩ := PySem.W.any_some hh
  have hx : s.heap.get? x = some ⟨.ref C, some dx, .plain, #[]⟩ := I.obj
  refine wpAny_bind (wpAny_pure (wpAny_bind (wpAny_bind (wpAny_loadPart hx (wpAny_bind (PySem.W.Looks.here (s := { s with toks := s.toks + 1 }) (PySem.W.looks_clsIn X hc) ?_))))))
  rw [hd']
  refine wpAny_pure (a := some dx) (wpAny_bind (wpAny_pure (wpAny_bind ?_)))
  refine wpAny_nsSet1 (s := { s with toks := s.toks + 1 }) I.ns fun h' hn2 hs2 => ?_
  obtain ⟨oD, esD, epD, hoD, hdD, hcD⟩ := hn2.count (PySem.Within.cons name v hw)
  refine wpAny_bind (wpAny_lookBehind hoD (by rw [hdD]; exact pastItsLine_dict (Nat.le_trans hcD (by rw [List.length_cons]; omega))) ?_)
  exact wpAny_pure (h _ ⟨(hs2.2 _ (Ne.symm I.ne)).trans I.obj, hn2, I.ne⟩ hs2)

/-- C(..): the dict at the heap's end, the instance behind it; then its __init__ -/
theorem make_map {R : Result → Shared → Prop} {vs : List Value} {kw : List (Str × Value)} (X : K.In s.heap) (hm : PySem.W.makesIn K C = true)
    (hi : PySem.W.findIn K (.ref C) "__init__" = some (some (.ref f))) (hf : PySem.W.typeIn K (.ref f) = some (.type "function"))
    (h : codeAny (model prog w) (A.under (.builtin "type.__call__" ⟨.ref C :: vs, kw⟩)) (.call (.ref f) ⟨.ref (s.heap.objs.size + 1) :: vs, kw⟩) (PySem.W.InitBack (s.heap.objs.size + 1) R)
      { s with heap := (s.heap.push PySem.W.emptyDict).push (PySem.W.instObj C s.heap.objs.size) }) :
    codeAny (model prog w) A (.call (.ref C) ⟨vs, kw⟩) R s := by
  obtain ⟨hh, g, d, t, os⟩ := s
  exact PySem.W.make_core (PySem.W.makes_of X hm) (PySem.W.looks_findIn X hi) (fun self => PySem.W.bind_fn X self hf) (.inl rfl) h
end

def putF (f : Str) (v : V) : List (Str × V) → List (Str × V)
  | [] => [(f, v)]
  | (g, x) :: r => if g = f then (g, v) :: r else (g, x) :: putF f v r
theorem lookup_putF (f g : Str) (v : V) : ∀ fs : List (Str × V), (putF f v fs).lookup g = if g = f then some v else fs.lookup g
  | [] => by
    show List.lookup g [(f, v)] = _
    by_cases h : g = f
    · have hb : (g == f) = true := beq_iff_eq.mpr h
      simp only [List.lookup, hb, if_pos h]
    · have hb : (g == f) = false := beq_eq_false_iff_ne.mpr h
      simp only [List.lookup, hb, if_neg h]
  | (k, x) :: r => by
    have ih := lookup_putF f g v r
    rw [show putF f v ((k, x) :: r) = (if k = f then (k, v) :: r else (k, x) :: putF f v r) from rfl]
    by_cases hk : k = f
    · rw [if_pos hk]
      by_cases h : g = k
      · have hb : (g == k) = true := beq_iff_eq.mpr h
        simp only [List.lookup, hb, if_pos (h.trans hk)]
      · have hb : (g == k) = false := beq_eq_false_iff_ne.mpr h
        simp only [List.lookup, hb, if_neg (fun e : g = f => h (e.trans hk.symm))]
    · rw [if_neg hk]
      by_cases h : g = k
      · have hb : (g == k) = true := beq_iff_eq.mpr h
        simp only [List.lookup, hb, if_neg (fun e : g = f => hk (h.symm.trans e))]
      · have hb : (g == k) = false := beq_eq_false_iff_ne.mpr h
        simp only [List.lookup, hb]
        exact ih
theorem keys_putF (f : Str) (v : V) : ∀ fs : List (Str × V), f ∈ (putF f v fs).map (·.1) ∧ ∀ g, g ∈ fs.map (·.1) → g ∈ (putF f v fs).map (·.1)
  | [] => ⟨by simp [putF], fun g h => by simp at h⟩
  | (k, x) :: r => by
    obtain ⟨i1, i2⟩ := keys_putF f v r
    rw [show putF f v ((k, x) :: r) = (if k = f then (k, v) :: r else (k, x) :: putF f v r) from rfl]
    by_cases hk : k = f
    · rw [if_pos hk]
      subst hk
      exact ⟨by simp, fun g h => by simpa using h⟩
    · rw [if_neg hk]
      refine ⟨?_, fun g h => ?_⟩
      · rw [List.map_cons]
        exact List.mem_cons_of_mem _ i1
      · rw [List.map_cons] at h ⊢
        rcases List.mem_cons.mp h with e | e
        · exact List.mem_cons.mpr (.inl e)
        · exact List.mem_cons_of_mem _ (i2 g e)
theorem length_putF (f : Str) (v : V) : ∀ fs : List (Str × V), (putF f v fs).length ≤ fs.length + 1
  | [] => by simp [putF]
  | (k, x) :: r => by
    have ih := length_putF f v r
    rw [show putF f v ((k, x) :: r) = (if k = f then (k, v) :: r else (k, x) :: putF f v r) from rfl]
    by_cases hk : k = f
    · rw [if_pos hk, List.length_cons, List.length_cons]; omega
    · rw [if_neg hk, List.length_cons, List.length_cons]; omega

theorem RelO.some_of {v : V} {o : Option Value} (r : RelO (some v) o) : ∃ u, o = some u ∧ RelV v u := by
  cases o with
  | none => exact (show False from r).elim
  | some u => exact ⟨u, rfl, r⟩
theorem handed_of {v : V} {u : Value} (r : RelV v u) : PySem.W.handedIn u = true := by
  cases v with
  | non => cases (show u = Value.none from r); rfl
  | bl b => cases (show u = Value.bool b from r); rfl
  | int i => obtain ⟨t, e⟩ := (show ∃ t, u = Value.int i t from r); cases e; rfl
  | str x => obtain ⟨t, e⟩ := (show ∃ t, u = Value.str x t from r); cases e; rfl
  | byt b => obtain ⟨t, e⟩ := (show ∃ t, u = Value.bytes b t from r); cases e; rfl
  | flt b => obtain ⟨t, e⟩ := (show ∃ t, u = Value.float b t from r); cases e; rfl
  | ref a => cases (show u = Value.ref a from r); rfl
  | ty n => cases (show u = Value.type n from r); rfl

section
variable {P : Program} {w : World} {H H' : Hp} {h h' : Heap} {a C dx : Addr} {fs fs' : List (Str × V)}
theorem ins_get (hok : HOk P w H h) (e : H a = some (.ins C dx fs)) : ∃ mA, ObjM h a dx C mA ∧ (∀ f, RelO (fs.lookup f) (mA f)) ∧ PySem.Within mA (fs.map (·.1)) ∧ fs.length ≤ 1000 ∧ H dx = some (.own a) := by
  obtain ⟨d, z, ne, ob, mA, n, r, q⟩ := (show ObjOk P w H h a (.ins C dx fs) from hok a _ e)
  exact ⟨mA, ⟨ob, n, ne⟩, r, q, z, d⟩
end

structure Cls (K : PySem.W.Frag) (C : Addr) : Prop where
  pg : PySem.W.plainGet K C Str.empty = true
  hd : PySem.W.hasDictIn K C = true
  po : PySem.W.plainOver K C = true
  sa : PySem.W.findIn K (.ref C) "__setattr__" = some (some (.builtin "object.__setattr__"))
theorem Cls.get {K : PySem.W.Frag} {C : Addr} (c : Cls K C) (f : Str) : PySem.W.plainGet K C f = true := c.pg
/-- no class of it has the name -/
def NoAttr (K : PySem.W.Frag) (C : Addr) (f : Str) : Prop := PySem.W.findIn K (.ref C) f = some none
theorem NoAttr.taker {K : PySem.W.Frag} {C : Addr} {f : Str} (n : NoAttr K C f) : PySem.W.takerIn K C f = some none := by
  unfold PySem.W.takerIn
  rw [show PySem.W.findIn K (.ref C) f = some none from n]
  rfl
section
variable {X : Cx} {pins : List (Addr × Obj)} {σ : St} {H : Hp} {s : Shared} {a C dx : Addr} {fs : List (Str × V)} {f : Str} {v : V} {A : Around} {E : Value → Shared → Prop}

theorem getattr_ok {b : Bool} {Q : Value → Shared → Prop} (I : Inv X pins σ H s) (e : H a = some (.ins C dx fs)) (c : Cls X.K C) (n : NoAttr X.K C f) (l : fs.lookup f = some v)
    (h : ∀ u s', Inv X pins σ H s' → RelV v u → Q u s') : wpAny (model X.prog X.w) A (getAttr (.ref a) f b) Q E s := by
  obtain ⟨mA, O, r, _, _, _⟩ := ins_get I.hok e
  obtain ⟨u, hu, ru⟩ := RelO.some_of (v := v) (o := mA f) (by rw [← l]; exact r f)
  exact get_map I.kIn O (c.get f) c.hd n hu (handed_of ru) (h u _ (I.tok _) ru)

theorem setattr_ok {y : V} {u : Value} {Q : Unit → Shared → Prop} (I : Inv X pins σ H s) (e : H a = some (.ins C dx fs)) (c : Cls X.K C) (n : NoAttr X.K C f) (hl : fs.length < 1000) (ry : RelV y u)
    (h : ∀ s', Inv X pins σ (upd H a (.ins C dx (putF f y fs))) s' → Q () s') : wpAny (model X.prog X.w) A (setAttr (.ref a) f u) Q E s := by
  obtain ⟨mA, O, r, wi, _, ho⟩ := ins_get I.hok e
  have hz : (fs.map (·.1)).length ≤ sizeLine := by rw [List.length_map, sizeLine_eq]; omega
  refine set_map I.kIn O c.sa c.po n.taker c.hd wi hz fun h' O' sb => h _ ?_
  have hd : ∃ o, h'.get? dx = some o := let ⟨o, _, _, e', _⟩ := O'.ns; ⟨o, e'⟩
  refine I.write (x := a) (e := dx) (by rw [e]; exact True.intro) (.inr ho) (fun b q hb z => (sb.2 b hb).trans z) hd ?_
  refine ⟨by rw [upd_ne O.ne]; exact ho, ?_, O.ne, O'.obj, _, O'.ns, fun g => ?_, fun g hg => ?_⟩
  · have := length_putF f y fs; omega
  · show RelO ((putF f y fs).lookup g) (if g = f then some u else mA g)
    rw [lookup_putF]
    by_cases q : g = f
    · rw [if_pos q, if_pos q]; exact ry
    · rw [if_neg q, if_neg q]; exact r g
  · by_cases q : g = f
    · rw [q]; exact (keys_putF f y fs).1
    · refine (keys_putF f y fs).2 g (wi g fun z => hg ?_)
      show (if g = f then some u else mA g) = none
      rw [if_neg q]; exact z

/-- a new instance, tracked, without attributes -/
theorem Inv.made (I : Inv X pins σ H s) : Inv X pins σ (upd (upd H s.heap.objs.size (.own (s.heap.objs.size + 1))) (s.heap.objs.size + 1) (.ins C s.heap.objs.size []))
    { s with heap := (s.heap.push PySem.W.emptyDict).push (PySem.W.instObj C s.heap.objs.size) } := by
  have e1 : (s.heap.push PySem.W.emptyDict).get? s.heap.objs.size = some PySem.W.emptyDict := Heap.get?_push_size s.heap rfl
  have e2 : ((s.heap.push PySem.W.emptyDict).push (PySem.W.instObj C s.heap.objs.size)).get? (s.heap.objs.size + 1) = some (PySem.W.instObj C s.heap.objs.size) := by
    have := Heap.get?_push_size (s.heap.push PySem.W.emptyDict) (o := PySem.W.instObj C s.heap.objs.size) rfl
    rwa [Heap.size_push] at this
  have e3 : (s.heap.push PySem.W.emptyDict).Ns s.heap.objs.size (fun _ => none) := ⟨PySem.W.emptyDict, #[], _, e1, rfl, (fun e he => absurd he (by simp)), fun _ => rfl⟩
  have I1 := I.laid (a := s.heap.objs.size) (o := .own (s.heap.objs.size + 1)) (h' := s.heap.push PySem.W.emptyDict) (t' := s.toks) (fun b u q => Heap.get?_push_of_some _ q) (Nat.le_refl _) ⟨_, e1⟩
  refine I1.laid (a := s.heap.objs.size + 1) (o := .ins C s.heap.objs.size []) (t' := s.toks) (fun b u q => Heap.get?_push_of_some _ q) (Nat.le_of_eq (Heap.size_push _ _)) ?_
  have ne : s.heap.objs.size ≠ s.heap.objs.size + 1 := Nat.ne_of_lt (Nat.lt_succ_self _)
  refine ⟨by rw [upd_ne ne, upd_same], Nat.zero_le _, ne, e2, fun _ => none, (Heap.Ns1.of_empty e3).at fun o q => Heap.get?_push_of_some _ q, fun _ => True.intro, fun y hy => absurd rfl hy⟩

/-- e.f where nothing but the object is asked: through attributeBase (super) and the last hold -/
theorem attr_of {prog : Program} {w : World} {env : Env} {e : Expr} {f : Str} {pos : Pos} {s : Shared} {Q : Value → Shared → Prop} (hb : attributeBase e f env (eval e env) = eval e env)
    (h : wpAny (model prog w) A (eval e env) (fun o s₁ => wpAny (model prog w) A (getAttr o f true) Q E s₁) E s) : wpAny (model prog w) A (eval (.Attribute e f pos) env) Q E s :=
  Attribute_any_ h (by rw [arm_eval_Attribute, hb])
end

/-- e.f, an attribute of the instance -/
inductive HasF (K : PySem.W.Frag) (f : Str) (Q : VK) (x : V) (H : Hp) : Prop
  | mk : ∀ a C dx fs v, (x = .ref a) → (H a = some (.ins C dx fs)) → (Cls K C) → (NoAttr K C f) → (fs.lookup f = some v) → (Q v H) → HasF K f Q x H
def tFld (K : PySem.W.Frag) (ta : TE) (f : Str) : TE := fun σ H Q => ta σ H (HasF K f Q)
/-- e.f = value -/
def sFld (K : PySem.W.Frag) (ta tv : TE) (f : Str) : TS := fun D σ H => tv σ H fun y H1 => ta σ H1 fun x H2 => ∃ a C dx fs, x = .ref a ∧ H2 a = some (.ins C dx fs) ∧ Cls K C ∧ NoAttr K C f ∧ fs.length < 1000 ∧
  D.nx σ (upd H2 a (.ins C dx (putF f y fs)))
section
variable {X : Cx} {o e value : Expr} {f : Str} {pos pos' tpos : Pos} {ta tv : TE}
theorem pe_fld (he : PE X e ta) (hb : attributeBase e f X.env (eval e X.env) = eval e X.env) : PE X (.Attribute e f pos) (tFld X.K ta f) := by
  intro pins s σ H Q I h
  refine attr_of hb (thn (he pins s σ H _ I h) fun u s1 ⟨x, H1, I1, rx, a, C, dx, fs, v, ex, ea, c, n, l, q⟩ => ?_)
  subst ex
  obtain rfl : u = Value.ref a := rx
  exact getattr_ok I1 ea c n l fun u' s2 I2 ru => ⟨v, H1, I2, ru, q⟩
theorem ps_fld (ha : PE X o ta) (hv : PE X value tv) (hs : swapsWith value (some (.Attribute o f pos')) pos.line X.env = pure false) : PS X (.Assign [.Attribute o f pos'] value pos) (sFld X.K ta tv f) := by
  intro pins s σ H D I h
  refine plainObj_wpAny_Assign_Attribute (thn (hv pins s σ H _ I h) fun u s1 ⟨y, H1, I1, ry, q⟩ => thn (ha pins s1 σ H1 _ I1 q) fun ov s2 ⟨x, H2, I2, rx, a, C, dx, fs, ex, ea, c, n, l, q2⟩ => ?_) hs
  subst ex
  obtain rfl : ov = Value.ref a := rx
  exact setattr_ok I2 ea c n l ry fun s3 I3 => ⟨σ, _, I3, q2⟩
end

section
variable {X : Cx} {pins : List (Addr × Obj)} {σ : St} {H : Hp} {s : Shared} {A : Around} {E : Value → Shared → Prop} {Q : Value → Shared → Prop} {c : Value} {b : Bool}
/-- the type of a value, as the fragment's deciders take it; for an instance its class -/
inductive TyOf (K : PySem.W.Frag) (H : Hp) : V → Value → Prop where
  | non : TyOf K H .non (.type "NoneType")
  | bl (x : Bool) : TyOf K H (.bl x) (.type "bool")
  | int (i : Int) : TyOf K H (.int i) (.type "int")
  | str (x : Str) : TyOf K H (.str x) (.type "str")
  | flt (x : UInt64) : TyOf K H (.flt x) (.type "float")
  | lst {a : Addr} {xs : List V} (e : H a = some (.lst xs)) : TyOf K H (.ref a) (.type "list")
  | frz {a : Addr} {o : Obj} {xs : List V} (e : H a = some (.frz o (.lst xs))) : TyOf K H (.ref a) (.type "list")
  | tup {a : Addr} {xs : List V} (e : H a = some (.tup xs)) : TyOf K H (.ref a) (.type "tuple")
  | dK {a : Addr} {kvs : List (Key × V)} (e : H a = some (.dK kvs)) : TyOf K H (.ref a) (.type "dict")
  | dT {a : Addr} {kvs : List (List Key × V)} (e : H a = some (.dT kvs)) : TyOf K H (.ref a) (.type "dict")
  | ins {a C dx : Addr} {fs : List (Str × V)} (e : H a = some (.ins C dx fs)) (cl : Cls K C) (ha : PySem.W.findIn K (.ref C) "__class__" = some (some (.builtin "object.__class__")))
      (hn : PySem.W.specialIn K (.builtin "object.__class__") "__get__" = some (some (.builtin "getset_descriptor.__get__"))) (htk : PySem.W.takesIn K (.builtin "object.__class__") = some true)
      (hm : PySem.W.mroIn K C (.type "object") = some true) : TyOf K H (.ref a) (.ref C)
/-- isinstance(x, c) for one class c, a built-in or an own one: kitOne's answer -/
theorem isinst_ok {x : V} {u t : Value} (I : Inv X pins σ H s) (rx : RelV x u) (ty : TyOf X.K H x t) (e : PySem.W.kitOne X.K t c = some b) (h : ∀ tk, Q (.bool b) { s with toks := tk }) :
    wpAny (model X.prog X.w) A (call (.builtin "isinstance") [u, c]) Q E s := by
  cases ty with
  | non => cases (show u = Value.none from rx); exact PySem.W.kia_one PySem.W.kitx_none I.kIn True.intro e (fun z => nomatch z) h
  | bl y => cases (show u = Value.bool y from rx); exact PySem.W.kia_one PySem.W.kitx_bool I.kIn True.intro e (fun z => nomatch z) h
  | int i => obtain ⟨t, q⟩ := (show ∃ t, u = Value.int i t from rx); cases q; exact PySem.W.kia_one PySem.W.kitx_int I.kIn True.intro e (fun z => nomatch z) h
  | str y => obtain ⟨t, q⟩ := (show ∃ t, u = Value.str y t from rx); cases q; exact PySem.W.kia_one PySem.W.kitx_str I.kIn True.intro e (fun z => nomatch z) h
  | flt y => obtain ⟨t, q⟩ := (show ∃ t, u = Value.float y t from rx); cases q; exact PySem.W.kia_one PySem.W.kitx_float I.kIn True.intro e (fun z => nomatch z) h
  | @lst a xs ea =>
    cases (show u = Value.ref a from rx)
    obtain ⟨_, _, n, _, h1⟩ := (show ObjOk X.prog X.w H s.heap a (.lst xs) from I.hok a _ ea)
    exact PySem.W.kia_one PySem.W.kitx_list I.kIn ⟨_, h1, rfl⟩ e (fun z => nomatch z) h
  | @frz a ob xs ea =>
    cases (show u = Value.ref a from rx)
    obtain ⟨_, _, _, n, _, h1⟩ := (show ObjOk X.prog X.w H s.heap a (.frz ob (.lst xs)) from I.hok a _ ea)
    exact PySem.W.kia_one PySem.W.kitx_list I.kIn ⟨_, h1, rfl⟩ e (fun z => nomatch z) h
  | @tup a xs ea =>
    cases (show u = Value.ref a from rx)
    obtain ⟨_, _, _, p⟩ := (show ObjOk X.prog X.w H s.heap a (.tup xs) from I.hok a _ ea)
    obtain ⟨o, h1, h2, _⟩ := p
    exact PySem.W.kia_one PySem.W.kitx_tuple I.kIn ⟨o, h1, h2⟩ e (fun z => nomatch z) h
  | @dK a kvs ea =>
    cases (show u = Value.ref a from rx)
    obtain ⟨_, _, vs, _, p⟩ := (show ObjOk X.prog X.w H s.heap a (.dK kvs) from I.hok a _ ea)
    obtain ⟨o, es, ep, h1, h2, _⟩ := p
    exact PySem.W.kia_one PySem.W.kitx_dict I.kIn ⟨o, h1, h2.1⟩ e (fun z => nomatch z) h
  | @dT a kvs ea =>
    cases (show u = Value.ref a from rx)
    obtain ⟨_, _, xs, _, o, es, ep, h1, h2, _⟩ := (show ObjOk X.prog X.w H s.heap a (.dT kvs) from I.hok a _ ea)
    exact PySem.W.kia_one PySem.W.kitx_dict I.kIn ⟨o, h1, h2.1⟩ e (fun z => nomatch z) h
  | @ins a C dx fs ea cl ha hn htk hm =>
    cases (show u = Value.ref a from rx)
    obtain ⟨mA, O, _⟩ := ins_get I.hok ea
    obtain ⟨od, J, _⟩ := O.look
    exact PySem.W.kia_one (PySem.W.kitx_own (cl.get _) cl.hd ha hn htk hm) I.kIn J e (fun z => nomatch z) h
end
end L2

namespace L2
open PySem PySem.Spec PyProof.Rows

structure Room (k : Nat) (A : Around) : Prop where
  hd : A.handled = none
  dp : A.depth + 3 * k + 5 < recursionLimit
  un : A.units + 16 * k + 200 < cLine
theorem Room.mono {j k : Nat} {A : Around} (r : Room k A) (h : j ≤ k) : Room j A := ⟨r.hd, by have := r.dp; omega, by have := r.un; omega⟩
theorem Room.deeper {k : Nat} {A : Around} (r : Room (k + 1) A) (env : Env) : Room k (A.deeper env) :=
  ⟨r.hd, by have := r.dp; show A.depth + 1 + 3 * k + 5 < _; omega, by have := r.un; show A.units + 3 + 16 * k + 200 < _; omega⟩
theorem Room.in1 {k : Nat} {A : Around} (r : Room (k + 1) A) : Room k A.in1 :=
  ⟨r.hd, by have := r.dp; show A.depth + 3 * k + 5 < _; omega, by have := r.un; show A.units + 1 + 16 * k + 200 < _; omega⟩
theorem make_depth {A : Around} {C : Addr} {us : List Value} {kw : List (Str × Value)} : (A.under (.builtin "type.__call__" ⟨.ref C :: us, kw⟩)).depth = A.depth + 1 := by
  first | rfl | simp [Around.under, Code.weight, Code.isCreation, Code.isGuard, Code.isCaller, Code.frames, Code.isFrame, guardIds]
theorem make_units {A : Around} {C : Addr} {us : List Value} {kw : List (Str × Value)} : (A.under (.builtin "type.__call__" ⟨.ref C :: us, kw⟩)).units = A.units + 1 := by
  first | rfl | simp [Around.under, Code.cUnits, Code.frames, Code.isFrame]
theorem Room.make {k : Nat} {A : Around} (r : Room (k + 1) A) (C : Addr) (us : List Value) (kw : List (Str × Value)) : Room k (A.under (.builtin "type.__call__" ⟨.ref C :: us, kw⟩)) :=
  ⟨r.hd, by have := r.dp; rw [make_depth]; omega, by have := r.un; rw [make_units]; omega⟩
theorem Room.depth {k : Nat} {A : Around} (r : Room k A) : A.depth < recursionLimit := by have := r.dp; omega
theorem Room.units {k : Nat} {A : Around} (r : Room k A) : A.units + 64 < cLine := by have := r.un; omega
def tNil : TA := fun _ H Q => Q [] H
def tCons (ta : TE) (tr : TA) : TA := fun σ H Q => ta σ H fun x H1 => tr σ H1 fun xs H2 => Q (x :: xs) H2
section
variable {X : Cx} {e : Expr} {es : List Expr} {te : TE} {t : TA} {pos : Pos}
theorem pa_nil : PA X [] tNil := fun _ _ _ _ H Q I h => Calls.spliced_nil ⟨[], H, I, .nil, h⟩
theorem pa_cons (ha : PE X e te) (hr : PA X es t) (hs : starEach (e :: es) X.env = (false, eval e X.env) :: starEach es X.env := by rfl) : PA X (e :: es) (tCons te t) := by
  intro pos pins s σ H Q I h
  rw [hs]
  show wpAny _ _ (spliced ((false, eval e X.env) :: backTo pos (starEach es X.env))) _ _ s
  refine Calls.spliced_cons (thn (ha pins s σ H _ I h) fun u s1 ⟨x, H1, I1, r1, q1⟩ => ?_)
  exact thn (hr pos pins s1 σ H1 _ I1 q1) fun us s2 ⟨xs, H2, I2, r2, q2⟩ => ⟨x :: xs, H2, I2, .cons r1 r2, q2⟩

/-- a tuple, a list of written items -/
def tTup (t : TA) : TE := fun σ H Q => t σ H fun xs H1 => xs.length ≤ sizeLine ∧ ∀ p, H1 p = none → Q (.ref p) (upd H1 p (.tup xs))
def tLst (t : TA) : TE := fun σ H Q => t σ H fun xs H1 => xs.length ≤ sizeLine ∧ ∀ p, H1 p = none → Q (.ref p) (upd H1 p (.lst xs))
theorem pe_tup {x1} (h : PA X es t) : PE X (.Tuple es x1 pos) (tTup t) := by
  intro pins s σ H Q I hq
  refine wpAny_Tuple_spliced (thn (h pos pins s σ H _ I hq) fun us s1 ⟨xs, H1, I1, r, z, q⟩ => ⟨by rw [← r.length]; exact z, ?_⟩)
  have hf : H1 s1.heap.objs.size = none := I1.hok.fresh (Nat.le_refl _)
  refine ⟨.ref s1.heap.objs.size, upd H1 s1.heap.objs.size (.tup xs), I1.laid (t' := s1.toks) (fun b u e => Heap.get?_push_of_some _ e) (Nat.le_refl _) ?_, rfl, q _ hf⟩
  exact ⟨z, us, r, ⟨_, Heap.get?_push_size _ rfl, rfl, _, rfl⟩⟩
theorem pe_lst (h : PA X es t) : PE X (.List es pos) (tLst t) := by
  intro pins s σ H Q I hq
  refine wpAny_List_spliced (thn (h pos pins s σ H _ I hq) fun us s1 ⟨xs, H1, I1, r, z, q⟩ => ⟨by rw [← r.length]; exact z, ?_⟩)
  have hf : H1 s1.heap.objs.size = none := I1.hok.fresh (Nat.le_refl _)
  refine ⟨.ref s1.heap.objs.size, upd H1 s1.heap.objs.size (.lst xs), I1.laid (t' := s1.toks) (fun b u e => Heap.get?_push_of_some _ e) (Nat.le_refl _) ?_, rfl, q _ hf⟩
  exact ⟨z, us, 0, r, Heap.get?_push_size _ rfl⟩
end

/-- a def's promise: the bound arguments in the parameters' order, the heap, the wanted end, the wanted exception -/
abbrev Sp := List V → Hp → VK → XK → Prop
/-- how an exception lies behind a call (file 08 gives it): the callers' frames, abstract heap and state ahead of the call, the wish, the exception, the state -/
abbrev CXT := List Env → Hp → Shared → XK → Value → Shared → Prop

/-- the state at a call -/
structure Env0 (P : Program) (w : World) (K : PySem.W.Frag) (mg : Str → Option Value) (base : Heap) (A : Around) (outer : List Env) (s : Shared) (H : Hp) : Prop where
  frames : A.frames = some outer
  mod : Mod K mg base
  bs : ∀ b o, base.get? b = some o → s.heap.get? b = some o ∧ H b = none
  bsz : base.objs.size ≤ s.heap.objs.size
  funs : s.heap.FunFrames base outer
  frf : ∀ b ∈ frs outer, H b = none
  hok : HOk P w H s.heap
  bare : AllBare s.gens
/-- a call's end -/
def CE (outer : List Env) (P : Program) (w : World) (H : Hp) (s : Shared) (Q : VK) (u : Value) (s' : Shared) : Prop :=
  ∃ v H', s'.os = s.os ∧ AllBare s'.gens ∧ Un (frs outer) [] H H' s.heap s'.heap ∧ HOk P w H' s'.heap ∧ RelV v u ∧ Q v H'
def CR (CX : CXT) (outer : List Env) (P : Program) (w : World) (H : Hp) (s : Shared) (Q : VK) (E : XK) (r : Result) (s' : Shared) : Prop :=
  match r with
  | .ok (.ret u) => CE outer P w H s Q u s'
  | .ok _ => False
  | .error e => CX outer H s E e s'
structure FnOk (P : Program) (w : World) (K : PySem.W.Frag) (mg : Str → Option Value) (base : Heap) (CX : CXT) (k : Nat) (f : Addr) (fd : FuncData) (ps : List Str) (sp : Sp) : Prop where
  len : ∀ vs H Q E, sp vs H Q E → vs.length = ps.length
  run : ∀ (A : Around) (outer : List Env) (s : Shared) (H : Hp) (args : Args) (us : List Value) (vs : List V) (Q : VK) (E : XK), Room k A → Env0 P w K mg base A outer s H → BindsTo s fd args (ps.zip us) → Vals vs us → sp vs H Q E →
    codeAny (model P w) A (.call (.ref f) args) (CR CX outer P w H s Q E) s
theorem FnOk.mono {P : Program} {w : World} {K : PySem.W.Frag} {mg : Str → Option Value} {base : Heap} {CX : CXT} {j k : Nat} {f : Addr} {fd : FuncData} {ps : List Str} {sp : Sp} (F : FnOk P w K mg base CX j f fd ps sp) (h : j ≤ k) :
    FnOk P w K mg base CX k f fd ps sp := ⟨F.len, fun A outer s H args us vs Q E hr => F.run A outer s H args us vs Q E (hr.mono h)⟩
theorem Env0.make {P : Program} {w : World} {K : PySem.W.Frag} {mg : Str → Option Value} {base : Heap} {A : Around} {outer : List Env} {s : Shared} {H : Hp} (e : Env0 P w K mg base A outer s H) (C : Addr) (us : List Value) (kw : List (Str × Value)) :
    Env0 P w K mg base (A.under (.builtin "type.__call__" ⟨.ref C :: us, kw⟩)) outer s H := ⟨by first | exact e.frames | (simpa [Around.under, Code.envs, Code.isFrame, pushEnvs] using e.frames), e.mod, e.bs, e.bsz, e.funs, e.frf, e.hok, e.bare⟩
theorem Env0.in1 {P : Program} {w : World} {K : PySem.W.Frag} {mg : Str → Option Value} {base : Heap} {A : Around} {outer : List Env} {s : Shared} {H : Hp} (e : Env0 P w K mg base A outer s H) :
    Env0 P w K mg base A.in1 outer s H := ⟨e.frames, e.mod, e.bs, e.bsz, e.funs, e.frf, e.hok, e.bare⟩

section
variable {X : Cx} {pins : List (Addr × Obj)} {σ : St} {H : Hp} {s s' : Shared}
/-- from a body: what a callee wants -/
theorem Inv.env0 (I : Inv X pins σ H s) : Env0 X.prog X.w X.K X.mg X.base X.A X.stack s H :=
  ⟨I.ok.frames, I.ok.mod, I.bs, Nat.le_trans I.ok.bsz I.sz, I.stack, I.stkFree, I.hok, I.bare⟩
/-- behind a call -/
theorem Inv.after {Q : VK} {u : Value} (I : Inv X pins σ H s) (h : CE X.stack X.prog X.w H s Q u s') : EP X pins σ Q u s' := by
  obtain ⟨v, H', os, bare, un, hok, r, q⟩ := h
  obtain ⟨hh, g, d, t, os'⟩ := s'
  obtain rfl : os' = s.os := os
  exact ⟨v, H', I.call (h' := hh) (g' := g) (d' := d) (t' := t) (ch := []) un hok bare (fun b z => absurd z (by simp)), r, q⟩
end

/-- f(..): the written arguments, then the defaults dvs; E: what is wanted of an exception -/
def tCall (sp : Sp) (dvs : List V) (E : XK) (t : TA) : TE := fun σ H Q => t σ H fun vs H1 => sp (vs ++ dvs) H1 Q E
/-- C(..): a new instance and its dict, then __init__ -/
def tMake (C : Addr) (sp : Sp) (dvs : List V) (E : XK) (t : TA) : TE := fun σ H Q => t σ H fun vs H1 => ∀ x dx, H1 x = none → H1 dx = none → dx ≠ x →
  sp (.ref x :: (vs ++ dvs)) (upd (upd H1 dx (.own x)) x (.ins C dx [])) (fun v H2 => v = .non ∧ Q (.ref x) H2) E

/-- how the parameters are bound: us the positional arguments, kw the keywords' values by name, ds the defaults that fill up -/
def Binds (K : PySem.W.Frag) (fd : FuncData) (ps : List Str) (ds : List Value) : Prop :=
  ∀ (s : Shared) (us : List Value), K.In s.heap → (us ++ ds).length = ps.length → BindsTo s fd ⟨us, []⟩ (ps.zip (us ++ ds))
/-- every parameter is given -/
theorem Binds.all {K : PySem.W.Frag} {fd : FuncData} {ps : List Str} (h : ∀ us : List Value, us.length = ps.length → bindArgs fd ⟨us, []⟩ = pure (ps.zip us)) : Binds K fd ps [] := fun s us _ hl => by
  rw [List.append_nil] at hl ⊢
  exact .of_eq (h us hl)

/-- an exception of a callee reaches what this body wants of exceptions -/
def Passes (CX : CXT) (X : Cx) (E : XK) : Prop := ∀ (pins : List (Addr × Obj)) (σ : St) (H : Hp) (s : Shared) (e : Value) (s' : Shared), Inv X pins σ H s → CX X.stack H s E e s' → X.xe e s'

section
variable {X : Cx} {CX : CXT} {k : Nat} {f C : Addr} {fd : FuncData} {ps : List Str} {sp : Sp} {dvs : List V} {ds : List Value} {E : XK} {x m : Str} {p pos apos : Pos} {e o : Expr} {es : List Expr} {ta : TE} {t : TA}

/-- the callee runs -/
theorem run_fn {pins : List (Addr × Obj)} {σ : St} {H : Hp} {s : Shared} {Q : VK} {us : List Value} {vs : List V} (F : FnOk X.prog X.w X.K X.mg X.base CX k f fd ps sp) (hr : Room k X.A) (hb : Binds X.K fd ps ds) (hd : Vals dvs ds) (hx : Passes CX X E)
    (I : Inv X pins σ H s) (r : Vals vs us) (h : sp (vs ++ dvs) H Q E) : wpAny (model X.prog X.w) X.A (call (.ref f) us) (EP X pins σ Q) X.xe s := by
  have r2 : Vals (vs ++ dvs) (us ++ ds) := r.append hd
  have hl : (us ++ ds).length = ps.length := by rw [← r2.length]; exact F.len _ _ _ _ h
  refine wpAny_call (codeAny_mono (F.run X.A X.stack s H ⟨us, []⟩ (us ++ ds) (vs ++ dvs) Q E hr I.env0 (hb s us I.kIn hl) r2 h) fun r s' hq => ?_)
  cases r with
  | error e => exact hx pins σ H s e s' I hq
  | ok fl =>
    cases fl with
    | ret u => exact I.after hq
    | next => exact False.elim hq
    | brk => exact False.elim hq
    | cont => exact False.elim hq

theorem pe_call (F : FnOk X.prog X.w X.K X.mg X.base CX k f fd ps sp) (hr : Room k X.A) (hg : Gl X x) (hm : X.mg x = some (.ref f)) (hk : PySem.W.keepIn X.K (.ref f) = true) (hb : Binds X.K fd ps ds) (hd : Vals dvs ds) (hx : Passes CX X E)
    (ha : PA X (e :: es) t) (hdb : (x == ("__debug__" : Str)) = false := by decide) (he : starEach (e :: es) X.env = (false, eval e X.env) :: starEach es X.env := by rfl) (hpl : (backTo pos (starEach es X.env)).any (·.1) = false := by rfl) :
    PE X (.Call (.Name x p) (e :: es) [] pos) (tCall sp dvs E t) := by
  intro pins s σ H Q I h
  refine wpAny_Call_Name_kw (ld_glob I hg hm ?_ hdb)
  refine PySem.W.callWith_K (h₀ := X.base) I.ok.mod.kin hk (thn (ha pos pins s σ H _ I h) fun us s1 ⟨vs, H1, I1, r, q⟩ => ⟨I1.kIn, ?_⟩) he hpl
  exact run_fn F hr hb hd hx I1 r q
/-- what a class must have to be made -/
structure Mk (K : PySem.W.Frag) (C f : Addr) : Prop where
  makes : PySem.W.makesIn K C = true
  init : PySem.W.findIn K (.ref C) "__init__" = some (some (.ref f))
  fn : PySem.W.isFn K (.ref f) = true
  kp : PySem.W.keepIn K (.ref C) = true

theorem run_make {pins : List (Addr × Obj)} {σ : St} {H : Hp} {s : Shared} {Q : VK} {us : List Value} {vs : List V} (M : Mk X.K C f) (F : FnOk X.prog X.w X.K X.mg X.base CX k f fd ps sp) (hr : Room (k + 1) X.A) (hb : Binds X.K fd ps ds) (hd : Vals dvs ds)
    (hx : Passes CX X E) (I : Inv X pins σ H s) (r : Vals vs us)
    (h : ∀ x dx, H x = none → H dx = none → dx ≠ x → sp (.ref x :: (vs ++ dvs)) (upd (upd H dx (.own x)) x (.ins C dx [])) (fun v H2 => v = .non ∧ Q (.ref x) H2) E) :
    wpAny (model X.prog X.w) X.A (call (.ref C) us) (EP X pins σ Q) X.xe s := by
  have hq := h (s.heap.objs.size + 1) s.heap.objs.size (I.hok.fresh (Nat.le_succ _)) (I.hok.fresh (Nat.le_refl _)) (Nat.ne_of_lt (Nat.lt_succ_self _))
  have I2 := Inv.made (C := C) I
  have r2 : Vals (V.ref (s.heap.objs.size + 1) :: (vs ++ dvs)) (Value.ref (s.heap.objs.size + 1) :: (us ++ ds)) := .cons rfl (r.append hd)
  have hl : (Value.ref (s.heap.objs.size + 1) :: us ++ ds).length = ps.length := by
    have e := r2.length
    rw [F.len _ _ _ _ hq] at e
    exact e.symm
  refine wpAny_call (make_map (f := f) I.kIn M.makes M.init (beq_iff_eq.mp M.fn) (codeAny_mono (F.run _ X.stack _ _ ⟨Value.ref (s.heap.objs.size + 1) :: us, []⟩ (Value.ref (s.heap.objs.size + 1) :: (us ++ ds)) _ _ E (hr.make C us [])
    (I2.env0.make C us []) (hb _ (Value.ref (s.heap.objs.size + 1) :: us) I2.kIn hl) r2 hq) fun r s' hq' => ?_))
  cases r with
  | error e => exact hx pins σ _ _ e s' I2 hq'
  | ok fl =>
    cases fl with
    | ret u =>
      obtain ⟨v, H', I3, rv, ev, q3⟩ := I2.after hq'
      subst ev
      exact ⟨rv, ⟨V.ref (s.heap.objs.size + 1), H', I3, rfl, q3⟩⟩
    | next => exact False.elim hq'
    | brk => exact False.elim hq'
    | cont => exact False.elim hq'
theorem pe_make (M : Mk X.K C f) (F : FnOk X.prog X.w X.K X.mg X.base CX k f fd ps sp) (hr : Room (k + 1) X.A) (hg : Gl X x) (hm : X.mg x = some (.ref C)) (hb : Binds X.K fd ps ds) (hd : Vals dvs ds) (hx : Passes CX X E)
    (ha : PA X (e :: es) t) (hdb : (x == ("__debug__" : Str)) = false := by decide) (he : starEach (e :: es) X.env = (false, eval e X.env) :: starEach es X.env := by rfl) (hpl : (backTo pos (starEach es X.env)).any (·.1) = false := by rfl) :
    PE X (.Call (.Name x p) (e :: es) [] pos) (tMake C sp dvs E t) := by
  intro pins s σ H Q I h
  refine wpAny_Call_Name_kw (ld_glob I hg hm ?_ hdb)
  refine PySem.W.callWith_K (h₀ := X.base) I.ok.mod.kin M.kp (thn (ha pos pins s σ H _ I h) fun us s1 ⟨vs, H1, I1, r, q⟩ => ⟨I1.kIn, ?_⟩) he hpl
  exact run_make M F hr hb hd hx I1 r q
end

section
variable {X : Cx} {CX : CXT} {k : Nat} {f C : Addr} {fd : FuncData} {ps ks : List Str} {sp : Sp} {E : XK} {x m : Str} {p pos apos kpos : Pos} {e o : Expr} {es : List Expr} {kws : List Keyword} {te ta : TE} {t tk : TA} {nm : Option Str}
variable {g : List Value → List Value → List Value} {gV : List V → List V → List V}
end

/-- names: the parameters first -/
structure FnScope (N P : List Str) (sc : Scope) : Prop where
  kind : sc.kind = .function
  co : sc.isCoroutine = false
  gen : sc.isGenerator = false
  nd : N.Nodup
  pre : N.take P.length = P
  par : ∀ x ∈ P, sc.names.lookup x = some .local ∨ sc.names.lookup x = some .cell
  nofree : ∀ y ∈ sc.names, y.2 ≠ .free

theorem bindL_out {kindOf : Str → Option NameKind} {x : Str} : ∀ {binds : List (Str × Value)} {m : Str → Option Value}, (∀ v, (x, v) ∉ binds) → bindL kindOf binds m x = m x
  | [], _, _ => rfl
  | (n, v) :: r, m, h => by
    unfold bindL
    rw [bindL_out fun w hw => h w (List.mem_cons_of_mem _ hw)]
    split
    · have : x ≠ n := by rintro rfl; exact h v List.mem_cons_self
      simp [this]
    · rfl
theorem bindC_out {kindOf : Str → Option NameKind} {x : Str} : ∀ {binds : List (Str × Value)} {m : Str → Option Value}, (∀ v, (x, v) ∉ binds) → bindC kindOf binds m x = m x
  | [], _, _ => rfl
  | (n, v) :: r, m, h => by
    unfold bindC
    rw [bindC_out fun w hw => h w (List.mem_cons_of_mem _ hw)]
    split
    · rfl
    · have : x ≠ n := by rintro rfl; exact h v List.mem_cons_self
      simp [this]
theorem bindL_get {kindOf : Str → Option NameKind} {x : Str} {v : Value} : ∀ {P : List Str} {vs : List Value} {i : Nat} {m : Str → Option Value}, P.Nodup → P[i]? = some x → vs[i]? = some v → kindOf x = some .local →
    bindL kindOf (P.zip vs) m x = some v
  | [], _, _, _, _, h, _, _ => by simp at h
  | _ :: _, [], _, _, _, _, h, _ => by simp at h
  | p :: P, w :: vs, 0, m, nd, h1, h2, hk => by
    simp at h1 h2; subst h1; subst h2
    show bindL kindOf ((p, w) :: P.zip vs) m p = _
    unfold bindL
    rw [bindL_out fun v hv => (List.nodup_cons.mp nd).1 (List.of_mem_zip hv).1, if_pos hk]
    simp
  | p :: P, w :: vs, i + 1, m, nd, h1, h2, hk => by
    show bindL kindOf ((p, w) :: P.zip vs) m x = _
    unfold bindL
    exact bindL_get (i := i) (List.nodup_cons.mp nd).2 (by simpa using h1) (by simpa using h2) hk
theorem bindC_get {kindOf : Str → Option NameKind} {x : Str} {v : Value} : ∀ {P : List Str} {vs : List Value} {i : Nat} {m : Str → Option Value}, P.Nodup → P[i]? = some x → vs[i]? = some v → kindOf x ≠ some .local →
    bindC kindOf (P.zip vs) m x = some v
  | [], _, _, _, _, h, _, _ => by simp at h
  | _ :: _, [], _, _, _, _, h, _ => by simp at h
  | p :: P, w :: vs, 0, m, nd, h1, h2, hk => by
    simp at h1 h2; subst h1; subst h2
    show bindC kindOf ((p, w) :: P.zip vs) m p = _
    unfold bindC
    rw [bindC_out fun v hv => (List.nodup_cons.mp nd).1 (List.of_mem_zip hv).1, if_neg hk]
    simp
  | p :: P, w :: vs, i + 1, m, nd, h1, h2, hk => by
    show bindC kindOf ((p, w) :: P.zip vs) m x = _
    unfold bindC
    exact bindC_get (i := i) (List.nodup_cons.mp nd).2 (by simpa using h1) (by simpa using h2) hk

/-- the names' values at the entry -/
def start (N : List Str) (vs : List V) : St := vs.map some ++ List.replicate (N.length - vs.length) none

/-- the context of a def's body, at its entry; an exception leaves the frame, then lies as CX says -/
def cxOf (CX : CXT) (P : Program) (w : World) (K : PySem.W.Frag) (mg : Str → Option Value) (base : Heap) (N : List Str) (qual : Str) (scope : Scope) (f : Addr) (cd : Value) (A : Around) (outer : List Env) (s : Shared) (H : Hp) (E : XK) : Cx where
  prog := P
  w := w
  K := K
  mg := mg
  base := base
  A := A.deeper (envOfC qual scope s.heap.objs.size f cd)
  N := N
  s₀ := s
  H₀ := H
  env := envOfC qual scope s.heap.objs.size f cd
  outer := outer
  stack := envOfC qual scope s.heap.objs.size f cd :: outer
  ex := []
  calm := true
  fn := fun _ => true
  pn := []
  xe := fun e s' => wpAny (model P w) (A.deeper (envOfC qual scope s.heap.objs.size f cd)) (leaving (envOfC qual scope s.heap.objs.size f cd) e) (fun _ s'' => CX outer H s E e s'') (fun e' s'' => CX outer H s E e' s'') s'

theorem cell_has {sc : Scope} {n : Nat} {x : Str} (h : sc.names.lookup x = some .cell) : ∃ c, (cellsFrom n sc.names []).lookup x = some c := by
  have q := PySem.W.cellsFrom_some sc.names n [] (.inl h)
  exact Option.isSome_iff_exists.mp q

theorem inv_start {CX : CXT} {P : Program} {w : World} {K : PySem.W.Frag} {mg : Str → Option Value} {base : Heap} {N ps : List Str} {qual : Str} {scope : Scope} {f : Addr} {cd : Value} {A : Around} {outer : List Env} {s s1 : Shared} {H : Hp} {E : XK} {us : List Value} {vs : List V}
    (S : FnScope N ps scope) (hd : A.handled = none) (e0 : Env0 P w K mg base A outer s H) (hl : vs.length = ps.length) (r : Vals vs us)
    (x : InCallC s s.heap.objs.size (bindL (envOfC qual scope s.heap.objs.size f cd).kindOf (ps.zip us) fun _ => none) (cellsFrom (s.heap.objs.size + 1) scope.names []) (bindC (envOfC qual scope s.heap.objs.size f cd).kindOf (ps.zip us) fun _ => none) s1) :
    Inv (cxOf CX P w K mg base N qual scope f cd A outer s H E) [] (start N vs) H s1 := by
  have hpl : ps.length ≤ N.length := by have := congrArg List.length S.pre; rw [List.length_take] at this; omega
  obtain ⟨h1, tk, rfl, hk⟩ := x.done
  have noA : ∀ b : Addr, b ∉ (cxOf CX P w K mg base N qual scope f cd A outer s H E).ex := fun b z => absurd (show b ∈ ([] : List Addr) from z) (by simp)
  refine ⟨⟨e0.mod, S.kind, rfl, rfl, Nat.le_refl _, fun y z c h1 h2 => ?_, fun y hy => ?_, fun y c _ h => ?_, fun _ => hd, Around.frames_deeper e0.frames, .inr ⟨rfl, rfl⟩, fun b z => absurd z (noA b), e0.bs, e0.bsz, fun b _ _ => noA b, fun b z => absurd z (noA b), e0.funs, e0.frf⟩,
    rfl, e0.bare, Un.kept hk, ⟨_, x.toInCall.ns, fun i y v h1 h2 h3 => ?_⟩, fun y c h => ⟨_, x.cell y c h⟩, e0.hok.fresh (Nat.le_refl _), fun y c h => ?_, fun p hp => absurd (show p ∈ ([] : List (Addr × Obj)) from hp) (by simp), e0.hok.kept hk, ?_⟩
  · exact name_of_addr x.apart (PySem.mem_of_lookup h1) (PySem.mem_of_lookup h2)
  · have hy : scope.names.lookup y = some .cell ∨ scope.names.lookup y = some .free := hy
    rcases hy with hy | hy
    · exact cell_has hy
    · exact absurd rfl (S.nofree _ (PySem.mem_of_lookup hy))
  · exact Nat.le_of_lt (x.above y c (PySem.mem_of_lookup h))
  · have hi : i < vs.length := by
      unfold start at h2
      by_cases hi : i < vs.length
      · exact hi
      · rw [List.getElem?_append_right (by simpa using hi)] at h2
        rw [List.getElem?_replicate] at h2
        split at h2 <;> cases h2
    have ha : vs[i]? = some v := by
      unfold start at h2
      rw [List.getElem?_append_left (by simpa using hi), List.getElem?_map] at h2
      cases e : vs[i]? with
      | none => rw [e] at h2; cases h2
      | some a => rw [e] at h2; cases h2; rfl
    obtain ⟨u, hu, rv⟩ := r.get ha
    have hp : ps[i]? = some y := by
      rw [← S.pre, List.getElem?_take_of_lt (by omega)]; exact h1
    have ndP : ps.Nodup := by rw [← S.pre]; exact S.nd.sublist (List.take_sublist _ _)
    refine ⟨u, rv, ?_⟩
    rcases S.par y (List.mem_of_getElem? hp) with k | k
    · exact .inl ⟨k, bindL_get ndP hp hu k⟩
    · obtain ⟨c, e⟩ := cell_has (n := s.heap.objs.size + 1) k
      refine .inr ⟨.inl k, c, e, ?_⟩
      have q := x.cell y c e
      rw [bindC_get ndP hp hu (by show scope.names.lookup y ≠ _; rw [k]; decide)] at q
      exact q
  · exact e0.hok.fresh (Nat.le_of_lt (x.above y c (PySem.mem_of_lookup h)))
  · unfold start
    show _ = N.length
    rw [List.length_append, List.length_map, List.length_replicate]
    omega

/-- THE RULE: a def (or a method) of the text, by its body. The body's reading t is chosen for each entry; it is run at the parameters' values -/
theorem fn_of {CX : CXT} {P : Program} {w : World} {K : PySem.W.Frag} {mg : Str → Option Value} {base : Heap} {k : Nat} {f : Addr} {name qual : Str} {params : Arguments} {body : List Stmt} {scope : Scope} {dV kV doc pm cdv ct oc : Value} {an od : Option Addr}
    {osl : Array (Option Value)} {N ps : List Str} {sp : Sp} (lk : K.lookup f = some ⟨oc, od, .func (PySem.W.fnOf name qual params body scope dV kV doc pm an cdv ct), osl⟩) (hcd : PySem.W.codeIn K cdv qual = true) (S : FnScope N ps scope)
    (len : ∀ vs H Q E, sp vs H Q E → vs.length = ps.length)
    (hbody : ∀ (A : Around) (outer : List Env) (s : Shared) (H : Hp) (vs : List V) (Q : VK) (E : XK), Room k (A.deeper (envOfC qual scope s.heap.objs.size f cdv)) → sp vs H Q E →
      ∃ t, PSs (cxOf CX P w K mg base N qual scope f cdv A outer s H E) body t ∧ t { nx := fun _ H' => Q .non H', rt := Q } (start N vs) H) :
    FnOk P w K mg base CX (k + 1) f (PySem.W.fnOf name qual params body scope dV kV doc pm an cdv ct) ps sp := by
  refine ⟨len, fun A outer s H args us vs Q E hr e0 hb r hsp => ?_⟩
  have hl := len _ _ _ _ hsp
  have KX : K.In s.heap := e0.mod.kin.keeps fun b o e => (e0.bs b o e).1
  have lim : s.heap.NoLimit := e0.mod.nolimit.keeps fun b o e => (e0.bs b o e).1
  have hkind : ∀ y ∈ ps.zip us, scope.names.lookup y.1 = some .local ∨ (scope.names.lookup y.1 = some .cell ∧ ((cellsFrom (s.heap.objs.size + 1) scope.names []).lookup y.1).isSome = true) := fun ⟨n, v⟩ hy => by
    rcases S.par n (List.of_mem_zip hy).1 with q | q
    · exact .inl q
    · exact .inr ⟨q, PySem.W.cellsFrom_some _ _ _ (.inl q)⟩
  refine codeAny_call_function hr.depth (KX _ _ lk) rfl S.co S.gen rfl (PySem.W.codeRec_of KX hcd) (hb _ _ _ _ ?_)
  refine wpAny_newFunctionEnv_cells S.kind hkind fun env he s1 x => ?_
  subst he
  refine ⟨lim.keeps x.toInCall.keep, codeAny_func ?_⟩
  obtain ⟨t, ht, hq⟩ := hbody A outer s H vs Q E (hr.deeper _) hsp
  have I : Inv (cxOf CX P w K mg base N qual scope f cdv A outer s H E) [] (start N vs) H s1 := inv_start S hr.hd e0 hl r x
  refine wpAny_mono (ht [] s1 (start N vs) H _ I hq) (fun fl s' hs => ?_) fun e s' hs => hs
  have fin : ∀ {σ' : St} {H' : Hp} {v : V} {u : Value}, Inv (cxOf CX P w K mg base N qual scope f cdv A outer s H E) [] σ' H' s' → RelV v u → Q v H' → CE outer P w H s Q u s' :=
    fun {σ' H' v u} J rv q => ⟨v, H', J.os, J.bare, J.base, J.hok, rv, q⟩
  cases fl with
  | ret u =>
    obtain ⟨v, σ', H', J, rv, q⟩ := hs
    exact fin J rv q
  | next =>
    obtain ⟨σ', H', J, q⟩ := hs
    exact fin (v := V.non) (u := Value.none) J rfl q
  | brk =>
    obtain ⟨_, _, _, q⟩ := hs
    exact False.elim q
  | cont =>
    obtain ⟨_, _, _, q⟩ := hs
    exact False.elim q
end L2

namespace L2
open PySem PySem.Spec PyProof.Rows
section
variable {X : Cx} {x : Str} {p pos : Pos} {e : Expr} {es : List Expr} {t : TA} {id T : String} {r : List V → Hp → VK → Prop}

def tCB (r : List V → Hp → VK → Prop) (t : TA) : TE := fun σ H Q => t σ H fun vs H1 => r vs H1 Q
/-- f(e, ..), f a built-in function -/
theorem pe_callB (hc : CallR X (.builtin id) r) (hg : Gl X x) (hm : X.mg x = none) (hv : bootBuiltins x = some (.builtin id)) (ha : PA X (e :: es) t) (hn : x ≠ "__name__" := by decide) (hdb : (x == ("__debug__" : Str)) = false := by decide)
    (he : starEach (e :: es) X.env = (false, eval e X.env) :: starEach es X.env := by rfl) (hpl : (backTo pos (starEach es X.env)).any (·.1) = false := by rfl) : PE X (.Call (.Name x p) (e :: es) [] pos) (tCB r t) := by
  intro pins s σ H Q I h
  refine wpAny_Call_Name_kw (ld_blt I hg hm hv ?_ hn hdb)
  exact PyProof.Rows.callWith_builtin1 (thn (ha pos pins s σ H _ I h) fun us s1 ⟨vs, H1, I1, r1, q1⟩ => hc pins s1 σ H1 vs us Q I1 r1 q1) he hpl
/-- T(e, ..), T a built-in type -/
theorem pe_callTy (hc : CallR X (.type T) r) (hg : Gl X x) (hm : X.mg x = none) (hv : bootBuiltins x = some (.type T)) (ha : PA X (e :: es) t) (hn : x ≠ "__name__" := by decide) (hdb : (x == ("__debug__" : Str)) = false := by decide)
    (he : starEach (e :: es) X.env = (false, eval e X.env) :: starEach es X.env := by rfl) (hpl : (backTo pos (starEach es X.env)).any (·.1) = false := by rfl) : PE X (.Call (.Name x p) (e :: es) [] pos) (tCB r t) := by
  intro pins s σ H Q I h
  refine wpAny_Call_Name_kw (ld_blt I hg hm hv ?_ hn hdb)
  exact PyProof.Rows.callWith_type1 (thn (ha pos pins s σ H _ I h) fun us s1 ⟨vs, H1, I1, r1, q1⟩ => hc pins s1 σ H1 vs us Q I1 r1 q1) he hpl
end
end L2

namespace HT
open PySem PyProof.Rows

section
open PySem.SeqAt
open PySem.AutoSeq1 (wpAny_loadPart')
open PySem.MeetsSeq PySem.MeetsSeq2 PySem.MeetsSeq3

end

section
variable {prog : Program} {w : World} {A : Around} {E : Value → Shared → Prop} {s : Shared}

/-- a slice's bound as a place among n (d where it is left out) -/
def sIx (n d : Nat) : Option Int → Nat
  | none => d
  | some v => if v < 0 then (v + (n : Int)).toNat else min v.toNat n
theorem sIx_none (n d : Nat) : sIx n d none = d := rfl
theorem sIx_nat (n d k : Nat) : sIx n d (some (k : Int)) = min k n := by
  show (if (k : Int) < 0 then ((k : Int) + (n : Int)).toNat else min (k : Int).toNat n) = min k n
  rw [if_neg (by omega), Int.toNat_natCast]
end
end HT

namespace L2
open PySem PySem.Spec PyProof.Rows

abbrev TO := St → Hp → (Option Int → Hp → Prop) → Prop
/-- a slice's part (left out, or an int) -/
def PO (X : Cx) (e : Option Expr) (t : TO) : Prop :=
  ∀ (pins : List (Addr × Obj)) (s : Shared) (σ : St) (H : Hp) (Q : Option Int → Hp → Prop), Inv X pins σ H s → t σ H Q →
    wpAny (model X.prog X.w) X.A (evalPart e X.env) (fun u s' => ∃ o H', Inv X pins σ H' s' ∧ IsPart u o ∧ Q o H') X.xe s
def tNoPart : TO := fun _ H Q => Q none H
inductive IsI (Q : Option Int → Hp → Prop) (x : V) (H : Hp) : Prop
  | mk : ∀ i, (x = .int i) → (Q (some i) H) → IsI Q x H
def tPart (t : TE) : TO := fun σ H Q => t σ H (IsI Q)

section
variable {X : Cx} {e : Expr} {te : TE} {lo hi : Option Expr} {tl th : TO} {pos p2 : Pos}

theorem po_none : PO X none tNoPart := by
  intro pins s σ H Q I h
  rw [evalPart_none]
  exact wpAny_pure ⟨none, H, I, .none, h⟩
theorem po_some (h : PE X e te) : PO X (some e) (tPart te) := by
  intro pins s σ H Q I hw
  rw [evalPart_some]
  refine thn (h pins s σ H _ I hw) fun u s1 ⟨x, H1, I1, r1, q1⟩ => ?_
  obtain ⟨i, rfl, q⟩ := q1
  obtain ⟨t, rfl⟩ := r1
  exact ⟨some i, H1, I1, .int i t, q⟩

/-- what a slice of a value is, by values: the slice object stands at sl -/
def SlR (X : Cx) (r : V → Option Int → Option Int → Hp → VK → Prop) : Prop :=
  ∀ (pins : List (Addr × Obj)) (s : Shared) (σ : St) (H : Hp) (x : V) (v vl vu : Value) (lo hi : Option Int) (sl : Addr) (Q : VK), Inv X pins σ H s → RelV x v → s.heap.IsSliceOf sl vl vu .none → IsPart vl lo → IsPart vu hi → r x lo hi H Q →
    ∃ T id, typeLookup (.type T) "__getitem__" = pure (some (.builtin id)) ∧ s.TypeIs v T ∧ wpAny (model X.prog X.w) X.A (getItem v (.ref sl)) (EP X pins σ Q) X.xe s
theorem SlR.or {r r' : V → Option Int → Option Int → Hp → VK → Prop} (h : SlR X r) (h' : SlR X r') : SlR X (fun x lo hi H Q => r x lo hi H Q ∨ r' x lo hi H Q) := by
  intro pins s σ H x v vl vu lo hi sl Q I rx hs pl pu q
  rcases q with q | q
  · exact h pins s σ H x v vl vu lo hi sl Q I rx hs pl pu q
  · exact h' pins s σ H x v vl vu lo hi sl Q I rx hs pl pu q
def tSl (r : V → Option Int → Option Int → Hp → VK → Prop) (te : TE) (tl th : TO) : TE := fun σ H Q => te σ H fun x H1 => tl σ H1 fun l H2 => th σ H2 fun u H3 => r x l u H3 Q
/-- a[lo:hi], any a -/
theorem pe_slice {r : V → Option Int → Option Int → Hp → VK → Prop} (hr : SlR X r) (he : PE X e te) (hl : PO X lo tl) (hu : PO X hi th) : PE X (.Subscript e (.Slice lo hi none p2) pos) (tSl r te tl th) := by
  intro pins s σ H Q I h
  refine Subscript_ (thn (he pins s σ H _ I h) fun v s1 ⟨x, H1, I1, r1, q1⟩ => ?_)
  refine wpAny_Slice (thn (hl pins s1 σ H1 _ I1 q1) fun vl s2 ⟨l, H2, I2, pl, q2⟩ => thn (hu pins s2 σ H2 _ I2 q2) fun vu s3 ⟨u, H3, I3, pu, q3⟩ => ?_)
  rw [evalPart_none]
  refine wpAny_pure ?_
  have I4 : Inv X pins σ H3 { s3 with heap := s3.heap.push { cls := .type "slice", data := .fields #[vl, vu, .none] } } := I3.kept (t' := s3.toks) fun b ob q => Heap.get?_push_of_some _ q
  obtain ⟨T, id, hT, ht, hg⟩ := hr pins { s3 with heap := s3.heap.push { cls := .type "slice", data := .fields #[vl, vu, .none] } } σ H3 x v vl vu l u s3.heap.objs.size Q I4 r1 (Heap.IsSliceOf.new ..) pl pu q3
  show wpAny (model X.prog X.w) X.A (subscriptTail e (.Slice lo hi none p2) v (.ref s3.heap.objs.size)) (EP X pins σ Q) X.xe { s3 with heap := s3.heap.push { cls := .type "slice", data := .fields #[vl, vu, .none] } }
  exact tail_any (ops := [.ref s3.heap.objs.size, v]) ht hT hg (by with_unfolding_all rfl)

/-- the items of xs[lo:hi] -/
def cutV (xs : List V) (lo hi : Option Int) : List V := (xs.drop (HT.sIx xs.length 0 lo)).take (HT.sIx xs.length xs.length hi - HT.sIx xs.length 0 lo)
theorem cutV_length (xs : List V) (lo hi : Option Int) : (cutV xs lo hi).length ≤ xs.length := by
  unfold cutV
  rw [List.length_take, List.length_drop]
  omega
end
end L2

namespace L2
open PySem PySem.Spec PyProof.Rows

/-- the place that an index of any sign means -/
def ixN (n : Nat) (i : Int) : Option Nat := if 0 ≤ i then (if i < n then some i.toNat else none) else if -(n : Int) ≤ i then some (i + n).toNat else none
def atI {α : Type} (xs : List α) (i : Int) : Option α := (ixN xs.length i).bind fun j => xs[j]?
theorem ixN_seq {n : Nat} {i : Int} {j : Nat} (h : ixN n i = some j) : seqIndex? i n = some j ∧ j < n ∧ -(n : Int) ≤ i ∧ i < n := by
  unfold ixN at h
  by_cases h0 : 0 ≤ i
  · rw [if_pos h0] at h
    by_cases h1 : i < n
    · rw [if_pos h1] at h
      have e : i.toNat = j := Option.some.inj h
      exact ⟨by rw [seqIndex_of h0 h1, e], by omega, by omega, h1⟩
    · rw [if_neg h1] at h; cases h
  · rw [if_neg h0] at h
    by_cases h1 : -(n : Int) ≤ i
    · rw [if_pos h1] at h
      have e : (i + n).toNat = j := Option.some.inj h
      exact ⟨by rw [seqIndex_neg (by omega) h1, e], by omega, h1, by omega⟩
    · rw [if_neg h1] at h; cases h
theorem atI_get {α : Type} {xs : List α} {i : Int} {v : α} (h : atI xs i = some v) : ∃ j, seqIndex? i xs.length = some j ∧ xs[j]? = some v ∧ j < xs.length ∧ -(xs.length : Int) ≤ i ∧ i < xs.length := by
  unfold atI at h
  cases e : ixN xs.length i with
  | none => rw [e] at h; cases h
  | some j =>
    rw [e] at h
    obtain ⟨h1, h2, h3, h4⟩ := ixN_seq e
    exact ⟨j, h1, h, h2, h3, h4⟩
theorem atI_nat {α : Type} {xs : List α} {j : Nat} {v : α} (h : xs[j]? = some v) : atI xs (j : Int) = some v := by
  have hj : j < xs.length := (List.getElem?_eq_some_iff.mp h).1
  have e : ixN xs.length (j : Int) = some j := by
    unfold ixN
    rw [if_pos (by omega), if_pos (by omega)]; simp
  unfold atI; rw [e]; exact h
/-- what stands as an index of a plain subscript -/
def PlainIx (b : Expr) : Prop := ∀ o i, subscripted b false o i = operate [o, i] (getItem o i)
/-- a subscript by values -/
def IxR (X : Cx) (r : R2) : Prop :=
  ∀ (value slice : Expr) (pins : List (Addr × Obj)) (s : Shared) (σ : St) (H : Hp) (x y : V) (v u : Value) (Q : VK), Inv X pins σ H s → RelV x v → RelV y u → r x y H Q →
    subscripted slice false v u = operate [v, u] (getItem v u) → wpAny (model X.prog X.w) X.A (subscriptTail value slice v u) (EP X pins σ Q) X.xe s
/-- a call of a builtin's method by values: the receiver, the arguments -/
def MtR (X : Cx) (id : String) (r : V → List V → Hp → VK → Prop) : Prop :=
  ∀ (pins : List (Addr × Obj)) (s : Shared) (σ : St) (H : Hp) (x : V) (xs : List V) (v : Value) (us : List Value) (Q : VK), Inv X pins σ H s → RelV x v → Vals xs us → r x xs H Q →
    wpAny (model X.prog X.w) X.A (call (.builtin id) (v :: us)) (EP X pins σ Q) X.xe s
section
variable {X : Cx} {a b : Expr} {ta tb : TE} {pos : Pos}
theorem IxR.or {r r' : R2} (h : IxR X r) (h' : IxR X r') : IxR X (fun x y H Q => r x y H Q ∨ r' x y H Q) := by
  intro value slice pins s σ H x y v u Q I rx ry q hs
  rcases q with q | q
  · exact h value slice pins s σ H x y v u Q I rx ry q hs
  · exact h' value slice pins s σ H x y v u Q I rx ry q hs
theorem MtR.or {id : String} {r r' : V → List V → Hp → VK → Prop} (h : MtR X id r) (h' : MtR X id r') : MtR X id (fun x xs H Q => r x xs H Q ∨ r' x xs H Q) := by
  intro pins s σ H x xs v us Q I rx rs q
  rcases q with q | q
  · exact h pins s σ H x xs v us Q I rx rs q
  · exact h' pins s σ H x xs v us Q I rx rs q
/-- a[b] -/
theorem pe_ix {r : R2} (hr : IxR X r) (ha : PE X a ta) (hb : PE X b tb) (hs : PlainIx b) : PE X (.Subscript a b pos) (tOp r ta tb) := by
  intro pins s σ H Q I h
  exact Subscript_ (binT ha hb I h fun v u s2 x y H2 I2 rx ry q => hr a b pins s2 σ H2 x y v u Q I2 rx ry q (hs _ _))

inductive rIxL (K : PySem.W.Frag) (x : V) (y : V) (H : Hp) (Q : VK) : Prop
  | mk : ∀ p xs i v, (x = .ref p) → (y = .int i) → (SqL K H p xs) → (atI xs i = some v) → (Q v H) → rIxL K x y H Q
theorem ix_list : IxR X (rIxL X.K) := by
  intro value slice pins s σ H x y v u Q I rx ry h hs
  obtain ⟨p, xs, i, z, rfl, rfl, hq, he, q⟩ := h
  cases rx
  obtain ⟨t, rfl⟩ := ry
  obtain ⟨its, r, pl, hz⟩ := I.list hq
  obtain ⟨j, h1, h2, h3, h4, h5⟩ := atI_get he
  obtain ⟨w, ew, rw'⟩ := r.get h2
  have hl := r.length
  have hn := line63
  have fin : EP X pins σ Q w s := ⟨z, H, I, rw', q⟩
  by_cases h0 : 0 ≤ i
  · have hj : i.toNat = j := by
      rw [seqIndex_of h0 h5] at h1
      exact Option.some.inj h1
    exact item_listR pl.isList h0 (by omega) (by rw [hj]; simpa using ew) fin hs
  · have hj : (i + (its.toArray.size : Int)).toNat = j := by
      rw [seqIndex_neg (by omega) h4] at h1
      rw [List.size_toArray, ← hl]
      exact Option.some.inj h1
    exact subscriptTail_builtinR (x := w) pl.isList.typeIs slot_list_getitem.lookup
      (wpAny_getItem_list_neg (Q := fun r s' => r = w ∧ EP X pins σ Q r s') pl.isList (by omega) (by rw [List.size_toArray] <;> omega) (by omega) (by rw [hj]; simpa using ew) ⟨rfl, fin⟩) hs
/-- the list's object behind a store -/
theorem mapSeq_set (its : List Value) (n j : Nat) (u : Value) : Obj.mapSeq (·.setIfInBounds j u) { cls := .type "list", data := .seq its.toArray n } = { cls := .type "list", data := .seq (its.set j u).toArray n } := by
  simp [Obj.mapSeq]
theorem Inv.lst {pins : List (Addr × Obj)} {σ : St} {H : Hp} {s : Shared} {p : Addr} {xs : List V} (I : Inv X pins σ H s) (h : H p = some (.lst xs)) :
    ∃ (its : List Value) (n : Nat), Vals xs its ∧ s.heap.get? p = some { cls := .type "list", data := .seq its.toArray n } ∧ xs.length ≤ sizeLine := by
  obtain ⟨z, its, n, r, e⟩ := I.hok p _ h
  exact ⟨its, n, r, e, z⟩
/-- the list at p is written by an update of its object -/
theorem Inv.lstUpd {pins : List (Addr × Obj)} {σ : St} {H : Hp} {s : Shared} {p : Addr} {xs ys : List V} {its its' : List Value} {n n' : Nat} {f : Obj → Obj} (I : Inv X pins σ H s) (h : H p = some (.lst xs))
    (ho : s.heap.get? p = some { cls := .type "list", data := .seq its.toArray n }) (hf : f { cls := .type "list", data := .seq its.toArray n } = { cls := .type "list", data := .seq its'.toArray n' }) (r : Vals ys its') (hz : ys.length ≤ sizeLine) (t : Nat) :
    Inv X pins σ (upd H p (.lst ys)) { s with heap := s.heap.update p f, toks := t } := by
  have e : (s.heap.update p f).get? p = some { cls := .type "list", data := .seq its'.toArray n' } := by
    rw [Heap.get?_update_self f ho (by rw [hf] <;> rfl), hf]
  refine I.write (x := p) (e := p) (by rw [h]; trivial) (.inl rfl) (fun b u hb q => (Heap.get?_update_other _ _ (Ne.symm hb)).trans q) ⟨_, e⟩ ?_
  exact ⟨hz, its', n', r, e⟩
inductive rSetL (o : V) (i : V) (v : V) (H : Hp) (Q : (Hp → Prop)) : Prop
  | mk : ∀ p xs k j, (o = .ref p) → (i = .int k) → (H p = some (.lst xs)) → (ixN xs.length k = some j) → (Q (upd H p (.lst (xs.set j v)))) → rSetL o i v H Q
theorem set_list : PSet X rSetL := by
  intro pins s σ H o i v ov iv u Q I ro ri rv h
  obtain ⟨p, xs, k, j, rfl, rfl, hp, hj, q⟩ := h
  cases ro
  obtain ⟨t, rfl⟩ := ri
  obtain ⟨its, n, r, ho, hz⟩ := I.lst hp
  obtain ⟨h1, h2, h3, h4⟩ := ixN_seq hj
  have hl := r.length
  have hn := line63
  have I' : Inv X pins σ (upd H p (.lst (xs.set j v))) { s with heap := s.heap.update p (Obj.mapSeq (·.setIfInBounds j u)) } :=
    I.lstUpd hp ho (mapSeq_set its n j u) (r.set rv j) (by rw [List.length_set]; exact hz) s.toks
  by_cases h0 : 0 ≤ k
  · have hk : k.toNat = j := by
      rw [seqIndex_of h0 h4] at h1
      exact Option.some.inj h1
    exact PySem.W.ki_setAt ho h0 (by omega) (by rw [List.size_toArray, ← hl]; exact h4) (by rw [hk]; exact ⟨_, I', q⟩)
  · have hk : (k + (its.toArray.size : Int)).toNat = j := by
      rw [seqIndex_neg (by omega) h3] at h1
      rw [List.size_toArray, ← hl]
      exact Option.some.inj h1
    exact PySem.W.ki_setBack ho (by omega) (by rw [List.size_toArray, ← hl]; exact h3) (by omega) (by rw [hk]; exact ⟨_, I', q⟩)

theorem slice_bounds (lo hi : Option Int) (n : Nat) : (sliceBounds lo hi none n).1 = ((HT.sIx n 0 lo : Nat) : Int) ∧ (sliceBounds lo hi none n).2.1 = ((HT.sIx n n hi : Nat) : Int) ∧ (sliceBounds lo hi none n).2.2 = 1 := by
  refine ⟨?_, ?_, rfl⟩
  · cases lo with
    | none => simp [sliceBounds, HT.sIx]
    | some i =>
      simp only [sliceBounds, HT.sIx, Option.getD_none, show (1 : Int) > 0 by decide, if_true]
      by_cases h : i < 0
      · simp only [h, if_true] <;> omega
      · simp only [h, if_false] <;> omega
  · cases hi with
    | none => simp [sliceBounds, HT.sIx]
    | some i =>
      simp only [sliceBounds, HT.sIx, Option.getD_none, show (1 : Int) > 0 by decide, if_true]
      by_cases h : i < 0
      · simp only [h, if_true] <;> omega
      · simp only [h, if_false] <;> omega
theorem slicePick_cut (its : List Value) (lo hi : Option Int) : slicePick its.toArray lo hi none = ((its.drop (HT.sIx its.length 0 lo)).take (HT.sIx its.length its.length hi - HT.sIx its.length 0 lo)).toArray := by
  obtain ⟨h1, h2, h3⟩ := slice_bounds lo hi its.toArray.size
  unfold slicePick
  rw [h1, h2, h3]
  simp only [sliceRange_one, pick_run, List.size_toArray] <;> rfl
/-- xs[lo:hi] of a list: a new list -/
inductive rSlL (K : PySem.W.Frag) (x : V) (lo : Option Int) (hi : Option Int) (H : Hp) (Q : VK) : Prop
  | mk : ∀ a xs, (x = .ref a) → (SqL K H a xs) → (∀ p, H p = none → Q (.ref p) (upd H p (.lst (cutV xs lo hi)))) → rSlL K x lo hi H Q
theorem sl_list : SlR X (rSlL X.K) := by
  intro pins s σ H x v vl vu lo hi sl Q I rx hs pl pu h
  obtain ⟨a, xs, rfl, hx, q⟩ := h
  cases rx
  obtain ⟨its, r, ht, hz⟩ := I.list hx
  have hlen := r.length
  refine ⟨"list", _, slot_list_getitem.lookup, ht.isList.typeIs, ?_⟩
  refine wpAny_getItem_list_slice ht.isList hs pl pu .none (by simp) ?_ (by rw [List.size_toArray] <;> omega)
  rw [slicePick_cut, ← hlen]
  refine ⟨.ref s.heap.objs.size, _, I.laid (t' := s.toks) (o := .lst (cutV xs lo hi)) (fun b ob q => Heap.get?_push_of_some _ q) (Nat.le_refl _) ?_, rfl, q _ (I.hok.fresh (Nat.le_refl _))⟩
  exact ⟨Nat.le_trans (cutV_length xs lo hi) hz, _, 0, (r.drop (HT.sIx xs.length 0 lo)).take (HT.sIx xs.length xs.length hi - HT.sIx xs.length 0 lo), Heap.get?_push_size _ rfl⟩

def flatV : V → Bool
  | .non => true
  | .bl _ => true
  | .int _ => true
  | .str _ => true
  | _ => false
/-- == of flat values -/
def eqV : V → V → Bool
  | .non, .non => true
  | .bl a, .bl b => a == b
  | .bl a, .int b => (if a then 1 else 0) == b
  | .int a, .bl b => a == (if b then 1 else 0)
  | .int a, .int b => a == b
  | .str a, .str b => a == b
  | _, _ => false
theorem eqAt_V {A : Around} {s : Shared} {y x : V} {u v : Value} (ry : RelV y u) (rx : RelV x v) (fy : flatV y = true) (fx : flatV x = true) : SeqAt.EqAt A s u v (eqV y x) := by
  cases y with
  | non =>
    cases ry
    cases x with
    | non => cases rx; exact SeqAt.EqAt.same _
    | bl b => cases rx; exact SeqAt.EqAt.none_bool b
    | int b => obtain ⟨t, rfl⟩ := rx; exact SeqAt.EqAt.none_int b t
    | str b => obtain ⟨t, rfl⟩ := rx; exact SeqAt.EqAt.none_str b t
    | _ => exact absurd (show false = true from fx) Bool.false_ne_true
  | bl a =>
    cases ry
    cases x with
    | non => cases rx; exact SeqAt.EqAt.bool_none a
    | bl b => cases rx; exact SeqAt.EqAt.bool_bool a b
    | int b => obtain ⟨t, rfl⟩ := rx; exact SeqAt.EqAt.bool_int a b t
    | str b => obtain ⟨t, rfl⟩ := rx; exact SeqAt.EqAt.bool_str a b t
    | _ => exact absurd (show false = true from fx) Bool.false_ne_true
  | int a =>
    obtain ⟨t', rfl⟩ := ry
    cases x with
    | non => cases rx; exact SeqAt.EqAt.int_none a t'
    | bl b => cases rx; exact SeqAt.EqAt.int_bool a t' b
    | int b => obtain ⟨t, rfl⟩ := rx; exact SeqAt.EqAt.int_int a t' b t
    | str b => obtain ⟨t, rfl⟩ := rx; exact SeqAt.EqAt.int_str a t' b t
    | _ => exact absurd (show false = true from fx) Bool.false_ne_true
  | str a =>
    obtain ⟨t', rfl⟩ := ry
    cases x with
    | non => cases rx; exact SeqAt.EqAt.str_none a t'
    | bl b => cases rx; exact SeqAt.EqAt.str_bool a t' b
    | int b => obtain ⟨t, rfl⟩ := rx; exact SeqAt.EqAt.str_int a t' b t
    | str b => obtain ⟨t, rfl⟩ := rx; exact SeqAt.EqAt.str_str a t' b t
    | _ => exact absurd (show false = true from fx) Bool.false_ne_true
  | _ => exact absurd (show false = true from fy) Bool.false_ne_true
inductive rLen (K : PySem.W.Frag) (xs : List V) (H : Hp) (Q : VK) : Prop
  | mk : ∀ p ys, (xs = [.ref p]) → (SqL K H p ys ∨ SqT K H p ys) → (Q (.int ys.length) H) → rLen K xs H Q
theorem call_len_seq : CallR X (.builtin "len") (rLen X.K) := by
  intro pins s σ H xs us Q I r h
  obtain ⟨p, ys, rfl, hq, q⟩ := h
  obtain ⟨u, rfl, rx⟩ := vals1 r
  cases rx
  have hn := line63
  rcases hq with hq | hq
  · obtain ⟨its, r', pl, hz⟩ := I.list hq
    have hlen := r'.length
    exact Calls.call_len_list pl.isList (by simp only [List.size_toArray] <;> omega) ⟨.int ys.length, H, I.tok _, ⟨s.toks + 1, by rw [List.size_toArray, hlen]⟩, q⟩
  · obtain ⟨its, r', pl, hz⟩ := I.tuple hq
    have hlen := r'.length
    exact len_tuple pl (by simp only [List.size_toArray] <;> omega) ⟨.int ys.length, H, I.tok _, ⟨s.toks + 1, by rw [List.size_toArray, hlen]⟩, q⟩
theorem call_len_str : CallR X (.builtin "len") (fun xs H Q => ∃ z, xs = [.str z] ∧ z.length ≤ sizeLine ∧ Q (.int z.length) H) := by
  intro pins s σ H xs us Q I r h
  obtain ⟨z, rfl, hz, q⟩ := h
  obtain ⟨u, rfl, t, rfl⟩ := vals1 r
  have hn := line63
  exact len_str (by omega) ⟨.int z.length, H, I.tok _, ⟨_, rfl⟩, q⟩
theorem CallR.or {f : Value} {r r' : List V → Hp → VK → Prop} (h : CallR X f r) (h' : CallR X f r') : CallR X f (fun xs H Q => r xs H Q ∨ r' xs H Q) := by
  intro pins s σ H xs us Q I rs q
  rcases q with q | q
  · exact h pins s σ H xs us Q I rs q
  · exact h' pins s σ H xs us Q I rs q
inductive rLstOf (K : PySem.W.Frag) (xs : List V) (H : Hp) (Q : VK) : Prop
  | mk : ∀ p ys, (xs = [.ref p]) → (SqL K H p ys ∨ SqT K H p ys) → (∀ l, H l = none → Q (.ref l) (upd H l (.lst ys))) → rLstOf K xs H Q
theorem call_list_of : CallR X (.type "list") (rLstOf X.K) := by
  intro pins s σ H xs us Q I r h
  obtain ⟨p, ys, rfl, hq, q⟩ := h
  obtain ⟨u, rfl, rx⟩ := vals1 r
  cases rx
  have fin : ∀ (its : List Value), Vals ys its → ys.length ≤ sizeLine → ∀ (h' : Heap) (c' : Nat), (∀ b o', s.heap.get? b = some o' → h'.get? b = some o') →
      h'.get? s.heap.objs.size = some { cls := .type "list", dict := none, data := .seq its.toArray c', slots := #[] } → EP X pins σ Q (.ref s.heap.objs.size) { s with heap := h' } := fun its r' hz h' c' kp e =>
    ⟨.ref s.heap.objs.size, _, I.laid (t' := s.toks) kp (Nat.le_refl _) (show ObjOk X.prog X.w _ h' _ (.lst ys) from ⟨hz, its, c', r', e⟩), rfl, q _ (I.hok.fresh (Nat.le_refl _))⟩
  rcases hq with hq | hq
  · obtain ⟨its, r', pl, hz⟩ := I.list hq
    have hlen := r'.length
    obtain ⟨o, ho, hc, n, hd⟩ := pl.isList
    exact call_list_seq p (.inl rfl) ho hc hd (fun h' c' kp e => fin its r' hz h' c' kp e) (by simp only [List.size_toArray] <;> omega)
  · obtain ⟨its, r', pl, hz⟩ := I.tuple hq
    have hlen := r'.length
    obtain ⟨o, ho, hc, n, hd⟩ := pl
    exact call_list_seq p (.inr rfl) ho hc hd (fun h' c' kp e => fin its r' hz h' c' kp e) (by simp only [List.size_toArray] <;> omega)
/-- the value is of that builtin type -/
def tyV (K : PySem.W.Frag) (T : String) (x : V) (H : Hp) : Prop := match x with
  | .str _ => T = "str"
  | .int _ => T = "int"
  | .ref p => (T = "list" ∧ ∃ xs, SqL K H p xs) ∨ (T = "tuple" ∧ ∃ o, K.lookup p = some o ∧ o.cls = .type "tuple" ∧ o.dict = none) ∨
      (T = "dict" ∧ ((∃ kvs, H p = some (.dK kvs)) ∨ ∃ kvs, H p = some (.dT kvs))) ∨ (T = "set" ∧ ∃ S n, H p = some (.set S n))
  | _ => False
theorem tyV_is {pins : List (Addr × Obj)} {σ : St} {H : Hp} {s : Shared} {T : String} {x : V} {v : Value} (I : Inv X pins σ H s) (r : RelV x v) (ty : tyV X.K T x H) :
    s.TypeIs v T ∧ ∀ a, v = .ref a → ∃ ob, s.heap.get? a = some ob ∧ ob.dict = none := by
  cases x with
  | str z =>
    obtain ⟨t, rfl⟩ := r
    cases (show T = "str" from ty)
    exact ⟨typeIs_str s z t, fun _ e => nomatch e⟩
  | int i =>
    obtain ⟨t, rfl⟩ := r
    cases (show T = "int" from ty)
    exact ⟨typeIs_int s i t, fun _ e => nomatch e⟩
  | ref p =>
    cases r
    rcases ty with ⟨rfl, xs, hq⟩ | ⟨rfl, o, hk, hc, hd⟩ | ⟨rfl, hk⟩ | ⟨rfl, S, n, hk⟩
    · obtain ⟨its, _, pl, _⟩ := I.list hq
      refine ⟨pl.isList.typeIs, fun a e => ?_⟩
      cases e
      obtain ⟨o, n, e, c, hd, _⟩ := pl
      exact ⟨o, e, hd⟩
    · refine ⟨⟨o, I.kIn p o hk, hc⟩, fun a e => ?_⟩
      cases e
      exact ⟨o, I.kIn _ o hk, hd⟩
    · have z : ∃ o, s.heap.get? p = some o ∧ o.ExactDict := by
        rcases hk with ⟨kvs, hk⟩ | ⟨kvs, hk⟩
        · obtain ⟨_, _, _, _, o, _, _, e, ex, _⟩ := I.hok p _ hk
          exact ⟨o, e, ex⟩
        · obtain ⟨_, _, _, _, o, _, _, e, ex, _⟩ := I.hok p _ hk
          exact ⟨o, e, ex⟩
      obtain ⟨o, e, ex⟩ := z
      refine ⟨⟨o, e, ex.1⟩, fun a e2 => ?_⟩
      cases e2
      exact ⟨o, e, ex.2.1⟩
    · obtain ⟨o, _, _, _, e, ex, _⟩ := I.hok p _ hk
      refine ⟨⟨o, e, ex.1⟩, fun a e2 => ?_⟩
      cases e2
      exact ⟨o, e, ex.2.1⟩
  | _ => exact False.elim ty
def tBM (K : PySem.W.Frag) (T : String) (r : V → List V → Hp → VK → Prop) (to : TE) (t : TA) : TE := fun σ H Q => to σ H fun x H1 => tyV K T x H1 ∧ t σ H1 fun xs H2 => r x xs H2 Q
variable {o e : Expr} {es : List Expr} {to : TE} {t : TA} {name : Str} {apos cpos : Pos} {T id : String} {r : V → List V → Hp → VK → Prop}
theorem pe_bm (pa : PlainAttrs T) (slot : Slot T name id) (hty : typeOf (.builtin id) = pure (.type "method_descriptor")) (hm : MtR X id r) (ho : PE X o to) (ha : PA X (e :: es) t)
    (hbase : attributeBase o name X.env (eval o X.env) = eval o X.env := by rfl)
    (hfew : ((backTo cpos (starEach (e :: es) X.env)).all (fun x => !x.1) && (backToKw cpos (keywordEach [] X.env)).all (fun x => x.1.isSome)
      && decide ((e :: es).length + ([] : List Keyword).length + (if ([] : List Keyword).isEmpty then 0 else 1) < 30)) = true := by rfl)
    (hline : (apos.endLine == cpos.line) = true := by rfl) (hs : starEach (e :: es) X.env = (false, eval e X.env) :: starEach es X.env := by rfl) (hplain : (backTo cpos (starEach es X.env)).any (·.1) = false := by rfl) :
    PE X (.Call (.Attribute o name apos) (e :: es) [] cpos) (tBM X.K T r to t) := by
  intro pins s σ H Q I h
  refine wpAny_Call_method_late hbase hfew hline rfl (thn (ho pins s σ H _ I h) fun v s1 ⟨x, H1, I1, r1, ty, q1⟩ => ?_)
  obtain ⟨h1, h2⟩ := tyV_is I1 r1 ty
  refine ⟨T, id, pa, slot, hty, h1, h2, ?_⟩
  have hA := ha cpos pins s1 σ H1 _ I1 q1
  rw [hs] at hA ⊢
  refine Calls.callWith_builtin (by show (false || (backTo cpos (starEach es X.env)).any (·.1)) = false; rw [hplain] <;> rfl) (Calls.evalArgs_plain ?_)
  exact thn hA fun us s2 ⟨vs, H2, I2, r2, q2⟩ => hm pins s2 σ H2 x vs v us Q I2 r1 r2 q2
/- xs.append(e), list.index on a module's tuple .. are MtR facts of 06m -/
end
end L2

namespace L2
open PySem PySem.Spec PyProof.Rows

def MtM (X : Cx) (id : String) (r : V → List V → Hp → VK → Prop) : Prop :=
  ∀ (pins : List (Addr × Obj)) (s : Shared) (σ : St) (H : Hp) (x : V) (xs : List V) (v : Value) (us : List Value) (Q : VK), Inv X pins σ H s → RelV x v → Vals xs us → r x xs H Q →
    wpAny (model X.prog X.w) X.A (call (.builtin id) (v :: us)) (EP X pins σ Q) X.xe s

theorem Vals.one : ∀ {x : V} {us : List Value}, Vals [x] us → ∃ u, us = [u] ∧ RelV x u
  | _, _, .cons r .nil => ⟨_, rfl, r⟩
theorem Vals.two : ∀ {x y : V} {us : List Value}, Vals [x, y] us → ∃ u v, us = [u, v] ∧ RelV x u ∧ RelV y v
  | _, _, _, .cons r (.cons q .nil) => ⟨_, _, rfl, r, q⟩
theorem Vals.zero : ∀ {us : List Value}, Vals [] us → us = []
  | _, .nil => rfl
theorem Vals.rep {xs : List V} {us : List Value} (h : Vals xs us) : ∀ k : Nat, Vals (List.replicate k xs).flatten (List.replicate k us).flatten
  | 0 => .nil
  | k + 1 => by
    rw [List.replicate_succ, List.replicate_succ, List.flatten_cons, List.flatten_cons]
    exact Vals.append h (Vals.rep h k)
theorem foldl_rep (its : List Value) : ∀ (k : Nat) (acc : List Value),
    List.foldl (fun x1 x2 => x1 ++ x2) acc.toArray (List.replicate k its.toArray) = (acc ++ (List.replicate k its).flatten).toArray
  | 0, acc => by simp
  | k + 1, acc => by
    have e : acc.toArray ++ its.toArray = (acc ++ its).toArray := by simp
    have e2 : (acc ++ its) ++ (List.replicate k its).flatten = acc ++ (List.replicate (k + 1) its).flatten := by
      rw [List.replicate_succ, List.flatten_cons, List.append_assoc]
    rw [← e2, ← foldl_rep its k (acc ++ its), ← e, List.replicate_succ, List.foldl_cons]

section
variable {X : Cx} {pins : List (Addr × Obj)} {σ : St} {H : Hp} {s : Shared} {l b : Addr} {xs ys zs : List V}

theorem Inv.lset {its its' : List Value} {n : Nat} {f : Array Value → Array Value} {t' : Nat} (I : Inv X pins σ H s) (hH : H l = some (.lst xs))
    (e : s.heap.get? l = some { cls := .type "list", data := .seq its.toArray n }) (hf : f its.toArray = its'.toArray) (hv : Vals ys its') (hz : ys.length ≤ sizeLine) :
    Inv X pins σ (upd H l (.lst ys)) { s with heap := s.heap.update l (Obj.mapSeq f), toks := t' } := by
  have q := PySem.IsL.update e f
  rw [hf] at q
  refine I.write (x := l) (e := l) (by rw [hH]; exact trivial) (.inl rfl) (fun b' u hb hu => (Heap.get?_update_other s.heap (Obj.mapSeq f) (Ne.symm hb)).trans hu) ⟨_, q⟩ ?_
  exact ⟨hz, its', _, hv, q⟩
theorem Inv.lnew {its : List Value} {t' : Nat} (I : Inv X pins σ H s) (hv : Vals ys its) (hz : ys.length ≤ sizeLine) :
    Inv X pins σ (upd H s.heap.objs.size (.lst ys)) { s with heap := s.heap.push { cls := .type "list", data := .seq its.toArray }, toks := t' } :=
  I.laid (fun _ _ q => Heap.get?_push_of_some _ q) (Nat.le_refl _) ⟨hz, its, 0, hv, Heap.get?_push_size _ rfl⟩
theorem Inv.fresh (I : Inv X pins σ H s) : H s.heap.objs.size = none := I.hok.fresh (Nat.le_refl _)
theorem Inv.lstM (I : Inv X pins σ H s) (hH : H l = some (.lst xs)) : xs.length ≤ sizeLine ∧ ∃ (its : List Value) (n : Nat), Vals xs its ∧ xs.length = its.length ∧ s.heap.get? l = some { cls := .type "list", data := .seq its.toArray n } := by
  obtain ⟨z, its, n, r, e⟩ := I.hok l _ hH
  exact ⟨z, its, n, r, r.length, e⟩

theorem notLongL {n : Nat} (h : n ≤ sizeLine) : Builtin.List.listTooLong n = false := by
  unfold Builtin.List.listTooLong
  exact decide_eq_false (by omega)
end

section
variable {X : Cx}

inductive rAppend (x : V) (vs : List V) (H : Hp) (Q : VK) : Prop
  | mk : ∀ l xs y, (x = .ref l) → (vs = [y]) → (H l = some (.lst xs)) → (xs.length < sizeLine) → (Q .non (upd H l (.lst (xs ++ [y])))) → rAppend x vs H Q
theorem mt_append : MtM X "list.append" rAppend := by
  intro pins s σ H x vs v us Q I rx rv h
  obtain ⟨l, xs, y, rfl, rfl, hH, hz, q⟩ := h
  cases rx
  obtain ⟨u, rfl, ru⟩ := rv.one
  obtain ⟨z, its, n, r, hl, e⟩ := I.lstM hH
  refine call_meets F.slot_list_append ⟨_, e, rfl⟩ F.entry_list_append (F.args_list_append_2 _ _) (PySem.list_append l its.toArray n u (by rw [List.size_toArray]; omega)) ⟨e, ?_⟩
  refine ⟨.non, _, I.lset (its' := its ++ [u]) hH e (by simp) (r.append (.cons ru .nil)) ?_, rfl, q⟩
  rw [List.length_append, List.length_singleton]
  omega

inductive rCat (x : V) (y : V) (H : Hp) (Q : VK) : Prop
  | mk : ∀ l b xs zs, (x = .ref l) → (y = .ref b) → (H l = some (.lst xs)) → (H b = some (.lst zs)) → (xs.length + zs.length ≤ sizeLine) → (∀ p, H p = none → Q (.ref p) (upd H p (.lst (xs ++ zs)))) → rCat x y H Q
theorem op_cat : OpR X (binaryOp .Add) rCat := by
  intro pins s σ H x y v u Q I rx ry h
  obtain ⟨l, b, xs, zs, rfl, rfl, hH, hB, hz, q⟩ := h
  cases rx
  cases ry
  obtain ⟨z, its, n, r, hl, e⟩ := I.lstM hH
  obtain ⟨z2, its2, n2, r2, hl2, e2⟩ := I.lstM hB
  refine PySem.P.add_list e e2 ?_ (by rw [List.size_toArray, List.size_toArray]; omega)
  have ea : its.toArray ++ its2.toArray = (its ++ its2).toArray := by simp
  rw [ea]
  exact ⟨.ref _, _, I.lnew (t' := s.toks) (r.append r2) (by rw [List.length_append]; omega), rfl, q _ I.fresh⟩
/-- a list times an int (a negative one is nothing) -/
inductive rRep (x : V) (y : V) (H : Hp) (Q : VK) : Prop
  | mk : ∀ l k xs, (x = .ref l) → (y = .int k) → (H l = some (.lst xs)) → (-(2 ^ 63) ≤ k) → (k < 2 ^ 63) → (xs.length * k.toNat ≤ sizeLine) → (∀ p, H p = none → Q (.ref p) (upd H p (.lst (List.replicate k.toNat xs).flatten))) → rRep x y H Q
theorem len_rep {α : Type} (xs : List α) (k : Nat) : (List.replicate k xs).flatten.length = k * xs.length := by
  induction k with
  | zero => simp
  | succ k ih => rw [List.replicate_succ, List.flatten_cons, List.length_append, ih, Nat.succ_mul, Nat.add_comm]
theorem op_rep : OpR X (binaryOp .Mult) rRep := by
  intro pins s σ H x y v u Q I rx ry h
  obtain ⟨l, k, xs, rfl, rfl, hH, h1, h2, hz, q⟩ := h
  cases rx
  obtain ⟨t, rfl⟩ := ry
  obtain ⟨z, its, n, r, hl, e⟩ := I.lstM hH
  have hlen : its.toArray.size * k.toNat ≤ sizeLine := by rw [List.size_toArray, ← hl]; exact hz
  have hcap : ¬ its.toArray.size * k.toNat > (2 ^ 63 - 1) / 8 := by
    have : (sizeLine : Nat) ≤ (2 ^ 63 - 1) / 8 := by decide
    omega
  have hfit : ¬ (!Builtin.List.listFitsIndex k) = true := by
    rw [fitsIndex_both h1 h2]
    exact Bool.false_ne_true
  have hlong : ¬ Builtin.List.listTooLong (its.toArray.size * k.toNat) = true := by
    rw [notLongL hlen]
    exact Bool.false_ne_true
  have hnew : List.foldl (fun x1 x2 => x1 ++ x2) #[] (List.replicate (if its.toArray.isEmpty = true then 0 else k.toNat) its.toArray) = (List.replicate k.toNat its).flatten.toArray := by
    have f0 : ∀ m : Nat, List.foldl (fun x1 x2 => x1 ++ x2) #[] (List.replicate m its.toArray) = (List.replicate m its).flatten.toArray := fun m => by
      have := foldl_rep its m []
      rw [List.nil_append] at this
      exact this
    rw [f0]
    cases its with
    | nil => simp
    | cons a r' => rw [if_neg (by simp)]
  refine wpAny_binaryOp_repeat_ref (T := "list") (U := "int") (by decide) ⟨_, e, rfl⟩ (fun s' => typeIs_int s' k t) noFill_list_mul F.fills_int_mul F.slot_int_rmul repeat_list F.slot_int_index.lookup
    (call_meets F.slot_int_rmul (typeIs_int s k t) F.entry_int_rmul (F.args_int_rmul_2 _ _) (int___rmul___int_list k t l its.toArray n)
      ⟨e, rfl, ⟨_, e, rfl⟩, call_meets F.slot_list_mul ⟨_, e, rfl⟩ F.entry_list_mul (F.args_list_mul_2 _ _) (AutoListH.list___mul___list_int_3 l its.toArray n k t hfit hcap hlong) ⟨e, ?_⟩⟩)
  rw [hnew]
  exact ⟨.ref _, _, I.lnew (t' := s.toks) (r.rep k.toNat) (by rw [len_rep, Nat.mul_comm]; exact hz), rfl, q _ I.fresh⟩

end

section
variable {prog : Program} {w : World} {A : Around} {E : Value → Shared → Prop} {s : Shared}
end

section
variable {X : Cx}
end
end L2

namespace Att
open PySem PySem.W PySem.Calls PyProof.Rows

theorem ints_of_wellAll {P : Params} {h : Heap} : ∀ (ns : List Int) (vs : List Value), WellAll P h vs (ns.map WData.int) → IntsAre vs ns := by
  intro ns
  induction ns with
  | nil =>
    intro vs w
    rw [List.map_nil] at w
    cases w
    exact .nil
  | cons n ns ih =>
    intro vs w
    rw [List.map_cons] at w
    cases w with
    | cons a b =>
      cases a
      exact .cons _ _ (ih _ b)

theorem script_of {l : OpenLaw} {n : Nat} (hn : l.most = some n) {P : Params} {h : Heap} {args : List WData} {vals : List Value}
    (hpre : l.row.toRowW.claim.pre args = true) (hwl : WellAll P h vals args) :
    ∃ a vs ns, vals = [Value.ref a] ∧ args = [WData.list (ns.map WData.int)] ∧ h.get? a = some { cls := .type "list", data := .seq vs.toArray } ∧ IntsAre vs ns ∧ ns.length ≤ n := by
  have hsh : WShape.hasAll [] args [.list .int] = true := (pre_splitW hpre).1
  have hc : l.pre.holds [] { args := args } = true := (pre_splitW hpre).2
  obtain ⟨d, r, rfl, h1, h2⟩ := hasAllW_cons hsh
  obtain rfl := hasAllW_nil h2
  obtain ⟨xs, rfl, h3⟩ := hasW_list h1
  obtain ⟨ns, rfl⟩ := items_int h3
  have hlen : ns.length ≤ n := by
    unfold OpenLaw.pre at hc
    have h4 : (WTm.not (.lt (.lit (.int (n : Int))) (.len (.arg 0)))).holds [] { args := [.list (ns.map .int)] } = true := by
      have h4 := (holds_andW hc).1
      rw [hn] at h4
      exact h4
    have h5 := condW_of h4 (w_not (w_lt w_lit (w_len_list (w_arg rfl))))
    rw [List.length_map] at h5
    refine Nat.le_of_not_lt fun q => ?_
    have q' : (n : Int) < ((ns.length : Nat) : Int) := by omega
    first
      | (rw [decide_eq_true q'] at h5; exact absurd h5 (by decide))
      | (simp at h5; omega)
  cases hwl with
  | cons w1 w2 =>
    cases w2
    cases w1 with
    | list ho hall => exact ⟨_, _, ns, rfl, rfl, ho, ints_of_wellAll ns _ hall, hlen⟩

theorem post_true (l : OpenLaw) (args : List WData) : l.row.toRowW.claim.post args (.bool true) args = true :=
  postW_of (r := l.row.toRowW) (X := (true == true))
    (show WShape.has [] (.bool true) .bool = true by first | rfl | decide | simp [WShape.has, WShape.arms, WShape.armsAll])
    (show (WTm.eq .res (.lit (.bool true))).value [] { args := args, res := some (.bool true), after := args } = some (.bool (true == true)) from w_eq_bool (w_res rfl) w_lit) rfl

/-- the same from a codeAny of the CALL (for a layer whose function contracts speak of calls) -/
theorem attach_call {l : OpenLaw} {n : Nat} {q : Program} {loose : List Str} {XP : (Str → Option Value) → Heap → Prop} {YP : World → Heap → Prop} {d : DefRec}
    (hn : l.most = some n) (hdf : d.params.defaults = [])
    (call : ∀ (w : World) (s₀ s₁ : Shared) (mg mb : Str → Option Value) (fa : Addr) (o : Obj) (pm cd doc : Value) (a : Addr) (vs : List Value) (ns : List Int),
      Ground q loose [] XP w s₀ mg mb s₁.heap → YP w s₁.heap →
      s₁.heap.get? fa = some o → o.data = .func (docDef d.name d.params d.body d.scope pm cd doc) → s₁.heap.CodeRec cd d.name → mg d.name = some (.ref fa) →
      s₁.heap.get? a = some { cls := .type "list", data := .seq vs.toArray } → IntsAre vs ns → ns.length ≤ n → s₁.gens = #[] →
      codeAny (model l.prog w) callerA (.call (.ref fa) ⟨[.ref a], []⟩) (fun r s' => r = .ok (.ret (.bool true)) ∧ OldK s₁.heap s'.heap ∧ s'.os = s₁.os ∧ AllBare s'.gens) s₁) :
    WalkO q loose XP YP l.row.toRowW d [] (fun f vs => PySem.call f vs) := by
  intro w s₀ s₁ mg mb G Y fa o pm cd doc dV kV ho hd hcd hD hmg hg args vals as hpre hlay hrd hwl hlo
  obtain rfl : dV = .none := Dflts.none hD hdf
  obtain rfl : kV = .none := Dflts.noKw hD
  obtain ⟨a, vs, ns, rfl, rfl, hobj, hints, hlen⟩ := script_of hn hpre hwl
  refine enter_call (codeAny_mono (call w s₀ s₁ mg mb fa o pm cd doc a vs ns G Y ho (fd_plain hd) hcd hmg hobj hints hlen hg) fun r s' hq => ?_)
  obtain ⟨rfl, h2, h3, h4⟩ := hq
  exact ⟨.inl ⟨.bool true, .bool true, [], rfl, fun _ => rfl, .bool true, post_true l _, fun _ => ⟨List.Pairwise.nil, fun _ hm => (nomatch hm)⟩⟩, h2, h3, h4⟩

section
variable {prog : Program} {w : World} {A : Around} {E : Value → Shared → Prop} {s : Shared} {K : Frag}

end
end Att

namespace L2
open PySem PySem.Spec PyProof.Rows

theorem vals_ints : ∀ {vs : List Value} {ns : List Int}, IntsAre vs ns → Vals (ns.map V.int) vs
  | _, _, .nil => .nil
  | _, _, .cons n t h => .cons ⟨t, rfl⟩ (vals_ints h)

/-- nothing is tracked but the script, known to the object (or it is an object of the module) -/
def Only (H : Hp) : Prop := ∀ b, H b = none ∨ ∃ o xs, H b = some (.frz o (.lst xs))

/-- THE HEAD: the law's promise, at the heap behind the top. F, the promise of the law's def, may use that base is part of the heap (so K.In base, base.Ns mainGlobals mg stand in Mod) -/
theorem law_call {P : Program} {w : World} {K : PySem.W.Frag} {mg mb : Str → Option Value} {CX : CXT} {k : Nat} {fa a : Addr} {fd : FuncData} {x : Str} {sp : Sp} {s₁ : Shared} {vs : List Value} {ns : List Int}
    (KX : K.In s₁.heap) (hns : s₁.heap.Ns mainGlobals mg) (hb : s₁.heap.Ns builtinsNs mb) (hbb : ∀ x : Str, x ≠ "__name__" → mb x = bootBuiltins x) (hlim : s₁.heap.NoLimit) (hg : s₁.gens = #[])
    (ha : s₁.heap.get? a = some { cls := .type "list", data := .seq vs.toArray }) (hi : IntsAre vs ns) (hl : ns.length ≤ sizeLine) (hr : Room k callerA)
    (F : ∀ base : Heap, K.In base → base.Ns mainGlobals mg → FnOk P w K mg base CX k fa fd [x] sp) (hbind : ∀ (s : Shared) (u : Value), BindsTo s fd ⟨[u], []⟩ [(x, u)])
    (hsp : ∀ H : Hp, Only H → SqL K H a (ns.map V.int) → sp [.ref a] H (fun v _ => v = .bl true) fun _ _ _ => False)
    (hCX : ∀ H e s', CX [] H s₁ (fun _ _ _ => False) e s' → False) :
    codeAny (model P w) callerA (.call (.ref fa) ⟨[.ref a], []⟩) (fun r s' => r = .ok (.ret (.bool true)) ∧ OldK s₁.heap s'.heap ∧ s'.os = s₁.os ∧ AllBare s'.gens) s₁ := by
  have rv := vals_ints hi
  have lenV := hi.length
  -- from an abstract heap in which nothing but the script may be tracked
  have core : ∀ H : Hp, Only H → SqL K H a (ns.map V.int) → HOk P w H s₁.heap → (∀ b, H b ≠ none → b = a) → (H a ≠ none → K.lookup a = none) →
      codeAny (model P w) callerA (.call (.ref fa) ⟨[.ref a], []⟩) (fun r s' => r = .ok (.ret (.bool true)) ∧ OldK s₁.heap s'.heap ∧ s'.os = s₁.os ∧ AllBare s'.gens) s₁ := by
    intro H hO hS hok hA hK
    have base_of : ∀ {b : Addr} {o : Obj}, s₁.heap.get? b = some o → H b = none → (hidT s₁.heap H).get? b = some o := fun e n => hidT_get e n
    have noA : ∀ {b : Addr} {o : Obj} {es : Array DictEntry} {ep : Nat}, s₁.heap.get? b = some o → o.data = .dict es ep → H b = none := fun {b o es ep} e d => by
      cases q : H b with
      | none => rfl
      | some u =>
        have e' : b = a := hA b (by rw [q]; simp)
        subst e'
        rw [ha] at e; cases e
        have d' : Data.seq vs.toArray _ = Data.dict es ep := d
        cases d'
    have nsK : ∀ {b : Addr} {m : Str → Option Value}, s₁.heap.Ns b m → (hidT s₁.heap H).Ns b m := fun {b m} ⟨o, es, ep, e, d, r⟩ => ⟨o, es, ep, base_of e (noA e d), d, r⟩
    have hKb : K.In (hidT s₁.heap H) := fun b o e => base_of (KX b o e) (by
      cases q : H b with
      | none => rfl
      | some u =>
        have e' : b = a := hA b (by rw [q]; simp)
        subst e'
        rw [hK (by rw [q]; simp)] at e; cases e)
    have hM : Mod K mg (hidT s₁.heap H) := ⟨hKb, nsK hns, ⟨mb, nsK hb, hbb⟩, let ⟨mc, h1, h2⟩ := hlim; ⟨mc, nsK h1, h2⟩⟩
    have e0 : Env0 P w K mg (hidT s₁.heap H) callerA [] s₁ H := ⟨rfl, hM, fun b o e => of_hidT e, Nat.le_of_eq (hidT_size _ _), trivial, fun b hb => absurd (show b ∈ ([] : List Addr) from hb) (by simp), hok, .of_eq hg⟩
    refine codeAny_mono ((F _ hKb (nsK hns)).run callerA [] s₁ H ⟨[.ref a], []⟩ [.ref a] [.ref a] _ _ hr e0 (hbind s₁ (.ref a)) (.cons rfl .nil) (hsp H hO hS)) fun r s' h => ?_
    cases r with
    | error e => exact (hCX H e s' h).elim
    | ok fl =>
      cases fl with
      | next => exact False.elim h
      | brk => exact False.elim h
      | cont => exact False.elim h
      | ret u =>
        obtain ⟨v, H', os, bare, un, hok', r', q⟩ := h
        have q' : v = .bl true := q
        subst q'
        obtain rfl : u = Value.bool true := r'
        refine ⟨rfl, OldK.of_keep fun b o e => ?_, os, bare⟩
        cases q : H b with
        | none => exact un.keep b o e q (by intro z; exact absurd (show b ∈ ([] : List Addr) from z) (by simp)) (by simp)
        | some u =>
          rcases hO b with z | ⟨ob, xs, z⟩
          · rw [q] at z; cases z
          · have z2 := un.frzs b ob _ z
            obtain ⟨e1, _⟩ := hok b _ z
            obtain ⟨e2, _⟩ := hok' b _ z2
            rw [e] at e1; cases e1
            exact e2
  cases hk : K.lookup a with
  | some o =>
    -- the script is one of the module's own objects
    have e := KX a o hk
    rw [ha] at e
    cases e
    refine core (fun _ => none) (fun _ => .inl rfl) (.inr ⟨_, vs.toArray, _, hk, rfl, rfl, rfl, by rw [List.size_toArray, lenV]; exact hl, by simpa using rv⟩) (fun b u z => by have z' : (none : Option HO) = some u := z; cases z') (fun b z => absurd rfl z) fun z => absurd rfl z
  | none =>
    refine core (fun b => if b = a then some (.frz { cls := .type "list", data := .seq vs.toArray } (.lst (ns.map V.int))) else none) (fun b => ?_) (.inl (.inr ⟨{ cls := .type "list", data := .seq vs.toArray }, if_pos rfl⟩)) (fun b u z => ?_) (fun b z => ?_) fun _ => hk
    · by_cases hb : b = a
      · exact .inr ⟨_, _, if_pos hb⟩
      · exact .inl (if_neg hb)
    · by_cases hb : b = a
      · have z' := (if_pos hb).symm.trans z
        cases z'
        subst hb
        exact ⟨ha, by rw [List.length_map]; exact hl, vs, _, rv, ha⟩
      · have z' := (if_neg hb).symm.trans z
        cases z'
    · by_cases hb : b = a
      · exact hb
      · exact absurd (if_neg hb) z
end L2

namespace L2
open PySem PySem.Spec PyProof.Rows

/-- the goal that k_head leaves (case hc), from the law's promise. F gives the function object fd (K's own) once, then the promise over every base -/
theorem walk_of {l : PySem.W.OpenLaw} {n k : Nat} {q : Program} {loose : List Str} {XP : (Str → Option Value) → Heap → Prop} {YP : World → Heap → Prop} {d : DefRec} {K : Params → PySem.W.Frag} {CX : World → CXT} {sp : World → Sp} {x : Str}
    (hn : l.most = some n) (hn2 : n ≤ sizeLine) (hdf : d.params.defaults = []) (hr : Room k callerA)
    (hY : ∀ (w : World) (h : Heap), YP w h → (K w.params).In h)
    (F : ∀ (w : World) (mg : Str → Option Value) (fa : Addr) (h : Heap), (K w.params).In h → h.Ns mainGlobals mg → mg d.name = some (.ref fa) →
      ∃ fd : FuncData, (∀ (s : Shared) (u : Value), BindsTo s fd ⟨[u], []⟩ [(x, u)]) ∧
        ∀ base : Heap, (K w.params).In base → base.Ns mainGlobals mg → FnOk l.prog w (K w.params) mg base (CX w) k fa fd [x] (sp w))
    (hsp : ∀ (w : World) (H : Hp) (a : Addr) (ns : List Int), ns.length ≤ n → Only H → SqL (K w.params) H a (ns.map V.int) → sp w [.ref a] H (fun v _ => v = .bl true) fun _ _ _ => False)
    (hCX : ∀ (w : World) (H : Hp) (s : Shared) (e : Value) (s' : Shared), CX w [] H s (fun _ _ _ => False) e s' → False) :
    PySem.W.WalkO q loose XP YP l.row.toRowW d [] (fun f vs => PySem.call f vs) := by
  refine Att.attach_call hn hdf fun w s₀ s₁ mg mb fa o pm cd doc a vs ns G Y ho hd hcd hmg hobj hints hlen hg => ?_
  have KX := hY w _ Y
  obtain ⟨fd, hb, hF⟩ := F w mg fa _ KX G.T.g hmg
  exact law_call KX G.T.g G.T.b G.T.builtins G.T.nolimit hg hobj hints (Nat.le_trans hlen hn2) hr hF hb (fun H hO hS => hsp w H a ns hlen hO hS) fun H e s' => hCX w H s₁ e s'
end L2

/- THE LAST THEOREM (shape; LID, My.* are yours):
   My.Adr: a structure of the addresses that your layer names (classes, functions); My.Txt K t: a structure (Prop) of the equations over K;
   My.txt_mk : {K} {implicit addresses ..} (e1 : nsIn K mainGlobals "law" = some (some (.ref f))) (e2 : K.lookup f = some ⟨oc, od, .func (fnOf "law" "law" params body scope dV kV doc pm an cdv ct), sl⟩) (e3 : codeIn K cdv "law" = true) .. : ∃ t, My.Txt K t

(the tactic k_is has no namespace: write k_is) -/

namespace L2
open PySem PySem.Spec PyProof.Rows

/-- the j-th statement of a class's body -/
def inClass (s : Stmt) (j : Nat) : Stmt := match s with
  | .ClassDef _ _ _ body _ _ _ _ _ _ _ => body.getD j (.Pass ⟨0, 0, 0, 0⟩)
  | _ => .Pass ⟨0, 0, 0, 0⟩
def defArgs (s : Stmt) : Arguments := match s with
  | .FunctionDef _ a _ _ _ _ _ _ _ _ => a
  | _ => { posonlyargs := [], args := [], vararg := none, kwonlyargs := [], kw_defaults := [], kwarg := none, defaults := [] }
def defBody (s : Stmt) : List Stmt := match s with
  | .FunctionDef _ _ b _ _ _ _ _ _ _ => b
  | _ => []
def defScope (s : Stmt) : Scope := match s with
  | .FunctionDef _ _ _ _ _ _ sc _ _ _ => sc
  | _ => { kind := .function, names := [], isGenerator := false, isCoroutine := false }

abbrev CX0 : CXT := fun _ _ _ _ _ _ => False
abbrev E0 : XK := fun _ _ _ => False
theorem pass0 {X : Cx} : Passes CX0 X E0 := fun _ _ _ _ _ _ _ h => h.elim

structure Fun (K : PySem.W.Frag) (x qual : Str) (st : Stmt) (f : Addr) (fd : FuncData) : Prop where
  ex : ∃ (oc : Value) (od : Option Addr) (kV doc pm : Value) (an : Option Addr) (cdv ct : Value) (osl : Array (Option Value)),
    fd = PySem.W.fnOf x qual (defArgs st) (defBody st) (defScope st) .none kV doc pm an cdv ct ∧ K.lookup f = some ⟨oc, od, .func fd, osl⟩ ∧ PySem.W.codeIn K cdv qual = true
  kp : PySem.W.keepIn K (.ref f) = true
section
variable {P : Program} {w : World} {K : PySem.W.Frag} {mg : Str → Option Value} {base : Heap}
/-- THE RULE for a def: its body as a term of rules, and the reading of that term -/
theorem Fun.ok {x qual : Str} {st : Stmt} {f : Addr} {fd : FuncData} {N ps : List Str} {k : Nat} {sp : Sp} (F : Fun K x qual st f fd) (S : FnScope N ps (defScope st)) (len : ∀ vs H Q E, sp vs H Q E → vs.length = ps.length)
    (hbody : ∀ (cdv : Value) (A : Around) (outer : List Env) (s : Shared) (H : Hp) (vs : List V) (Q : VK) (E : XK), Room k (A.deeper (envOfC qual (defScope st) s.heap.objs.size f cdv)) → sp vs H Q E →
      ∃ t, PSs (cxOf CX0 P w K mg base N qual (defScope st) f cdv A outer s H E).nox (defBody st) t ∧ t { nx := fun _ H' => Q .non H', rt := Q } (start N vs) H) : FnOk P w K mg base CX0 (k + 1) f fd ps sp := by
  obtain ⟨oc, od, kV, doc, pm, an, cdv, ct, osl, rfl, lk, hcd⟩ := F.ex
  refine fn_of lk hcd S len fun A outer s H vs Q E hr hsp => ?_
  obtain ⟨t, h, q⟩ := hbody cdv A outer s H vs Q E hr hsp
  exact ⟨t, h.nox, q⟩
/-- how its arguments bind (no defaults): h is «fun _ _ _ _ _ _ us hl => match us, hl with | [_, _], _ => rfl», one _ a parameter -/
theorem Fun.binds {x qual : Str} {st : Stmt} {f : Addr} {fd : FuncData} {ps : List Str} (F : Fun K x qual st f fd)
    (h : ∀ (kV doc pm : Value) (an : Option Addr) (cdv ct : Value) (us : List Value), us.length = ps.length → bindArgs (PySem.W.fnOf x qual (defArgs st) (defBody st) (defScope st) .none kV doc pm an cdv ct) ⟨us, []⟩ = pure (ps.zip us)) : Binds K fd ps [] := by
  obtain ⟨oc, od, kV, doc, pm, an, cdv, ct, osl, rfl, lk, hcd⟩ := F.ex
  exact .all (h kV doc pm an cdv ct)
theorem fun_mk {x qual : Str} {st : Stmt} {f : Addr} {oc : Value} {od an : Option Addr} {osl : Array (Option Value)} {kV doc pm cdv ct : Value} (l : K.lookup f = some ⟨oc, od, .func (PySem.W.fnOf x qual (defArgs st) (defBody st) (defScope st) .none kV doc pm an cdv ct), osl⟩)
    (c : PySem.W.codeIn K cdv qual = true) (k : PySem.W.keepIn K (.ref f) = true) : Fun K x qual st f (PySem.W.fnOf x qual (defArgs st) (defBody st) (defScope st) .none kV doc pm an cdv ct) := ⟨⟨oc, od, kV, doc, pm, an, cdv, ct, osl, rfl, l, c⟩, k⟩
end
section
variable {X : Cx}
theorem pv (i : Nat) {x : Str} {pos : Pos} (hN : X.N[i]? = some x := by rfl) (hv : Vis X.env.scope x := by first | exact Or.inl rfl | exact Or.inr (Or.inl rfl) | exact Or.inr (Or.inr rfl)) (hd : (x == ("__debug__" : Str)) = false := by decide)
    (hcd : (x == ("__classdict__" : Str)) = false := by decide) : PE X (.Name x pos) (tVar i) := pe_var hN hv hd hcd
end

theorem iteF {A B : Prop} (h : B) : if false = true then A else B := by
  rw [if_neg Bool.false_ne_true]
  exact h
theorem iteT {A B : Prop} (h : A) : if true = true then A else B := by
  rw [if_pos rfl]
  exact h
theorem iteNS {c A B : Prop} [Decidable c] (hc : c) (h : B) : if (!decide c) = true then A else B := by
  rw [decide_eq_true hc]
  exact iteF h

/-- all that was tracked is as it was -/
def Same (H H' : Hp) : Prop := ∀ b o, H b = some o → H' b = some o
theorem Same.refl (H : Hp) : Same H H := fun _ _ h => h
theorem Same.trans {H H1 H2 : Hp} (a : Same H H1) (b : Same H1 H2) : Same H H2 := fun c o h => b c o (a c o h)
theorem Same.free {H H' : Hp} (e : Same H H') {l : Addr} (h : H' l = Option.none) : H l = Option.none := by
  cases q : H l with
  | none => rfl
  | some o =>
    rw [e l o q] at h
    cases h
theorem Same.seq {K : PySem.W.Frag} {H H' : Hp} {a : Addr} {xs : List V} (e : Same H H') (h : SqL K H a xs) : SqL K H' a xs := by
  rcases h with (h | ⟨o, h⟩) | h
  · exact .inl (.inl (e _ _ h))
  · exact .inl (.inr ⟨o, e _ _ h⟩)
  · exact .inr h

end L2
namespace L2
open PySem PySem.Spec PyProof.Rows

section
variable {X : Cx} {pins : List (Addr × Obj)} {σ : St} {H : Hp} {s : Shared} {h' : Heap}
theorem Inv.track {p : Addr} {o : HO} (I : Inv X pins σ H s) (f : FpOk X pins H p) (new : ObjOk X.prog X.w (upd H p o) s.heap p o) : Inv X pins σ (upd H p o) s := by
  obtain ⟨f0, f1, f2, f3, f4, f5⟩ := f
  have nu : ∀ b u, H b = some u → b ≠ p := fun b u e z => by rw [z, f0] at e; cases e
  refine I.step (h' := s.heap) (g' := s.gens) (d' := s.drawn) (t' := s.toks) (ch := [p]) (fun b hb => ?_) (fun b o _ _ _ e _ => e) (fun b o _ _ _ e _ => ⟨o.slots, e⟩)
    (fun b o hc _ n => by rw [upd_ne (fun z => hc (by simp [z]))]; exact n) (fun b o _ e => ⟨o, e⟩) (fun b xs e => by rw [upd_ne (nu _ _ e)]; exact e) (fun b o u e => by rw [upd_ne (nu _ _ e)]; exact e)
    (fun b ps e => ⟨#[], by rw [upd_ne (nu _ _ e), e]; simp⟩) (fun m hm => hm) (fun b u e => ?_) I.bare
  · have e : b = p := by simpa using hb
    subst e
    exact ⟨f3, f1, f4, f5⟩
  · by_cases hb : b = p
    · subst hb
      rw [upd_same] at e
      cases e
      exact new
    · rw [upd_ne hb] at e
      exact (I.hok b u e).stay (fun c v _ q => q) (fun c q => by rw [upd_ne (nu _ _ q)]; exact q) fun c xs q => by rw [upd_ne (nu _ _ q)]; exact q
theorem Inv.turnedL {t' : Nat} {ch : List Addr} (I : Inv X pins σ H s) (k : ∀ b o, b ∉ ch → s.heap.get? b = some o → h'.get? b = some o) (hf : ∀ b ∈ ch, FpOk X pins H b) : Inv X pins σ H { s with heap := h', toks := t' } := by
  have nit : ∀ b u, H b = some u → b ∉ ch := fun b u e z => by rw [(hf b z).1] at e; cases e
  refine I.step (g' := s.gens) (d' := s.drawn) (ch := ch) (fun b hb => ?_) (fun b o _ _ hc e _ => k b o hc e) (fun b o _ _ hc e _ => ⟨o.slots, k b o hc e⟩) (fun _ _ _ _ n => n)
    (fun b o hc e => ⟨o, k b o hc e⟩) (fun _ _ e => e) (fun _ _ _ e => e) (fun b ps e => ⟨#[], by rw [e]; simp⟩) (fun m hm => ?_) (fun b u e => ?_) I.bare
  · obtain ⟨f0, f1, f2, f3, f4, f5⟩ := hf b hb
    exact ⟨f3, f1, f4, f5⟩
  · obtain ⟨o, es, ep, ho, r⟩ := hm
    exact ⟨o, es, ep, k _ o (fun z => (hf _ z).2.1 rfl) ho, r⟩
  · refine (I.hok b u e).stay (fun c v hc q => k c v ?_ q) (fun _ q => q) fun _ _ q => q
    rcases hc with z | z
    · rw [z]; exact nit b u e
    · exact nit c _ z
theorem FpOk.mono {H' : Hp} {b : Addr} (f : FpOk X pins H b) (hn : H' b = none) : FpOk X pins H' b := ⟨hn, f.2⟩
end

def closL (env : Env) : List (Str × NameKind) → List (Str × Addr) → List (Str × Addr)
  | [], cs => cs
  | (n, k) :: r, cs => if k == .free then (match env.cells.lookup n with | some c => closL env r ((n, c) :: cs) | none => closL env r cs) else closL env r cs
theorem closL_sub {env : Env} : ∀ {ns : List (Str × NameKind)} {cs : List (Str × Addr)}, (∀ p ∈ cs, env.cells.lookup p.1 = some p.2) → ∀ p ∈ closL env ns cs, env.cells.lookup p.1 = some p.2
  | [], _, h => h
  | (n, k) :: r, cs, h => by
    unfold closL
    split
    · split
      · rename_i c e
        exact closL_sub (ns := r) fun p hp => by
          rcases List.mem_cons.mp hp with rfl | hp
          · exact e
          · exact h p hp
      · exact closL_sub (ns := r) h
    · exact closL_sub (ns := r) h
theorem closL_sub0 {env : Env} {ns : List (Str × NameKind)} : ∀ p ∈ closL env ns [], env.cells.lookup p.1 = some p.2 := closL_sub fun p h => by cases h
theorem closL_mono {env : Env} : ∀ {ns : List (Str × NameKind)} {cs : List (Str × Addr)} {p : Str × Addr}, p ∈ cs → p ∈ closL env ns cs
  | [], _, _, h => h
  | (n, k) :: r, cs, p, h => by
    unfold closL
    split
    · split
      · exact closL_mono (ns := r) (List.mem_cons_of_mem _ h)
      · exact closL_mono (ns := r) h
    · exact closL_mono (ns := r) h
theorem closL_mem {env : Env} {x : Str} {c : Addr} (hc : env.cells.lookup x = some c) : ∀ {ns : List (Str × NameKind)} {cs : List (Str × Addr)}, (x, NameKind.free) ∈ ns → (x, c) ∈ closL env ns cs
  | [], _, h => nomatch h
  | (n, k) :: r, cs, h => by
    unfold closL
    rcases List.mem_cons.mp h with e | h
    · cases e
      rw [if_pos (by rfl), hc]
      exact closL_mono List.mem_cons_self
    · split
      · split
        · exact closL_mem hc (ns := r) h
        · exact closL_mem hc (ns := r) h
      · exact closL_mem hc (ns := r) h
theorem lookup_of_all {cs : List (Str × Addr)} {env : Env} (h : ∀ p ∈ cs, env.cells.lookup p.1 = some p.2) {x : Str} {c : Addr} (e : cs.lookup x = some c) : env.cells.lookup x = some c := h (x, c) (PySem.mem_of_lookup e)
theorem lookup_of_mem {x : Str} {c : Addr} : ∀ {cs : List (Str × Addr)}, (x, c) ∈ cs → ∃ c', cs.lookup x = some c'
  | [], h => nomatch h
  | (n, d) :: r, h => by
    by_cases e : x = n
    · subst e
      exact ⟨d, by simp [List.lookup]⟩
    · have hb : (x == n) = false := beq_eq_false_iff_ne.mpr e
      rcases List.mem_cons.mp h with z | z
      · cases z
        exact absurd rfl e
      · obtain ⟨c', q⟩ := lookup_of_mem z
        exact ⟨c', by simp [List.lookup, hb, q]⟩
theorem closureFor_loop {env : Env} : ∀ (ns : List (Str × NameKind)) (cs : List (Str × Addr)), (∀ x ∈ ns, x.2 = .free → ∃ c, env.cells.lookup x.1 = some c) →
    (forIn ns cs fun x r => (if (x.2 == NameKind.free) = true then (do let c ← cellOf env x.1; pure (ForInStep.yield ((x.1, c) :: r))) else pure (ForInStep.yield r) : Sem (ForInStep (List (Str × Addr))))) = (pure (closL env ns cs) : Sem (List (Str × Addr)))
  | [], cs, _ => rfl
  | (n, k) :: r, cs, h => by
    have ih := fun cs => closureFor_loop r cs fun x hx => h x (List.mem_cons_of_mem _ hx)
    rw [List.forIn_cons]
    unfold closL
    cases hk : (k == NameKind.free) with
    | false =>
      simp only [Bool.false_eq_true, if_false]
      exact ih cs
    | true =>
      obtain ⟨c, hc⟩ := h (n, k) List.mem_cons_self (by simpa using hk)
      have hc' : env.cells.lookup n = some c := hc
      simp only [if_true]
      unfold cellOf
      rw [hc']
      exact ih ((n, c) :: cs)
theorem closureFor_eq {scope : Scope} {env : Env} (h : ∀ x ∈ scope.names, x.2 = .free → ∃ c, env.cells.lookup x.1 = some c) : closureFor scope env = pure (closL env scope.names []) := by
  have e := closureFor_loop scope.names [] h
  have e2 : closureFor scope env = (forIn scope.names [] (fun x r => (if (x.2 == NameKind.free) = true then (do let c ← cellOf env x.1; pure (ForInStep.yield ((x.1, c) :: r))) else pure (ForInStep.yield r) : Sem (ForInStep (List (Str × Addr))))) >>= fun z => pure z : Sem (List (Str × Addr))) := rfl
  rw [e2, e]
  rfl
end L2

namespace L2
open PySem PySem.Spec PyProof.Rows

structure CompScope (osc : Scope) (N : List Str) (scope : Scope) (N' : List Str) (nt : Nat) (caps : List Nat) : Prop where
  kind : scope.kind = .function
  nocell : ∀ y ∈ scope.names, y.2 ≠ .cell
  names : ∀ y ∈ scope.names, y.2 = .local → scope.names.lookup y.1 = some .local
  frees : ∀ y ∈ scope.names, y.2 = .free → osc.names.lookup y.1 = some .cell ∨ osc.names.lookup y.1 = some .free
  capt : caps.map (fun j => N[j]?) = (N'.drop nt).map some
  capf : ∀ x ∈ N'.drop nt, scope.names.lookup x = some .free
  len : nt ≤ N'.length
  nd : N'.Nodup

/-- the block's names at its entry: the targets unset, then the captured ones -/
def sgm (nt : Nat) (caps : List Nat) (σ : St) : St := List.replicate nt none ++ caps.map fun j => (σ[j]?).getD none

/-- a block's own things: its names' record, the state and heap at its entry, its iterator -/
structure Blk where
  C : Addr
  s : Shared
  H : Hp
  fp : List Addr
def cxComp (X : Cx) (N' : List Str) (scope : Scope) (B : Blk) : Cx :=
  { X with N := N', s₀ := B.s, H₀ := B.H, env := compEnvC scope (closL X.env scope.names []) B.C X.env, outer := X.stack, ex := B.fp, fn := fun _ => false, xe := fun _ _ => False }

theorem mem_relabel {scope : Scope} {env : Env} {x : Str} {k : NameKind} (h : (x, k) ∈ (relabel scope env).names) : ∃ k0, (x, k0) ∈ scope.names ∧ (k = k0 ∨ (k = .cell ∧ k0 = .free)) := by
  obtain ⟨⟨n, k0⟩, hm, e⟩ := List.mem_map.mp h
  try dsimp only at e
  split at e
  · rename_i hc
    cases e
    refine ⟨k0, hm, .inr ⟨rfl, ?_⟩⟩
    simp only [Bool.and_eq_true, beq_iff_eq] at hc
    exact hc.1.1
  · cases e
    exact ⟨_, hm, .inl rfl⟩
theorem lookup_relabel_free {env : Env} : ∀ {names : List (Str × NameKind)} {x : Str}, names.lookup x = some .free →
    (names.map fun (n, k) => if (k == NameKind.free && env.scope.kind == .function && env.kindOf n == some .cell) then (n, NameKind.cell) else (n, k)).lookup x = some .cell ∨
    (names.map fun (n, k) => if (k == NameKind.free && env.scope.kind == .function && env.kindOf n == some .cell) then (n, NameKind.cell) else (n, k)).lookup x = some .free
  | [], _, h => by simp at h
  | (n, k) :: r, x, h => by
    have ih := @lookup_relabel_free env r x
    rw [List.map_cons]
    cases hx : x == n with
    | true =>
      simp only [List.lookup_cons, hx] at h
      cases h
      try dsimp only
      split
      · left; simp only [List.lookup_cons, hx]
      · right; simp only [List.lookup_cons, hx]
    | false =>
      simp only [List.lookup_cons, hx] at h
      try dsimp only
      split
      · simp only [List.lookup_cons, hx]; exact ih h
      · simp only [List.lookup_cons, hx]; exact ih h

section
variable {X : Cx} {pins : List (Addr × Obj)} {σ : St} {H : Hp} {s₂ : Shared} {scope : Scope} {N' : List Str} {nt : Nat} {caps : List Nat} {fp : List Addr} {C : Addr}

theorem comp_ok (I : Inv X pins σ H s₂) (S : CompScope X.env.scope X.N scope N' nt caps) (f2 : ∀ b ∈ fp, FpOk X pins H b) (hlt : ∀ b ∈ fp, b < s₂.heap.objs.size) (hC : s₂.heap.objs.size ≤ C) :
    (cxComp X N' scope ⟨C, s₂, H, fp⟩).Ok where
  mod := I.ok.mod
  kind := S.kind
  glob := I.ok.glob
  blt := I.ok.blt
  above := hC
  inj := fun x y c h1 h2 => I.ok.inj x y c (lookup_of_all closL_sub0 h1) (lookup_of_all closL_sub0 h2)
  has := fun x hx => by
    have hm : ∃ k, (k = NameKind.cell ∨ k = NameKind.free) ∧ (x, k) ∈ (relabel scope X.env).names := by
      rcases hx with e | e
      · exact ⟨_, .inl rfl, PySem.mem_of_lookup e⟩
      · exact ⟨_, .inr rfl, PySem.mem_of_lookup e⟩
    obtain ⟨k, hk, hm⟩ := hm
    obtain ⟨k0, h0, e⟩ := mem_relabel hm
    have hf : k0 = .free := by
      rcases e with e | ⟨_, e⟩
      · rcases hk with z | z
        · exact absurd (e.symm.trans z) (S.nocell _ h0)
        · exact e.symm.trans z
      · exact e
    subst hf
    obtain ⟨c, hc⟩ := I.ok.has x (S.frees _ h0 rfl)
    exact lookup_of_mem (closL_mem hc h0)
  cab := fun x c h => absurd (show false = true from h) Bool.false_ne_true
  hd := I.ok.hd
  frames := I.ok.frames
  stk := .inl rfl
  exf := fun b hb => ⟨Nat.ne_of_lt (Nat.lt_of_lt_of_le (hlt b hb) hC), fun x c e => (f2 b hb).2.2.2.2.1 x c (lookup_of_all closL_sub0 e)⟩
  bs := I.bs
  bsz := Nat.le_trans I.ok.bsz I.sz
  noex := fun b o e hb => by
    rcases (f2 b hb).2.2.2.1 with z | z
    · exact I.ok.noex b o e z
    · exact absurd (Nat.lt_of_lt_of_le (Heap.lt_size e) (Nat.le_trans I.ok.bsz z)) (Nat.lt_irrefl _)
  exfs := fun b hb hf => by
    rcases List.mem_cons.mp (I.stkSub b hf) with e | e
    · exact (f2 b hb).2.1 e
    · exact (f2 b hb).2.2.1 e
  funs := I.stack
  frf := I.stkFree

theorem inv_comp {h₁ : Heap} {tk : Nat} {m0 : Str → Option Value} (I : Inv X pins σ H s₂) (S : CompScope X.env.scope X.N scope N' nt caps) (f2 : ∀ b ∈ fp, FpOk X pins H b) (hlt : ∀ b ∈ fp, b < s₂.heap.objs.size)
    (hC : s₂.heap.objs.size ≤ C) (hns : h₁.Ns C m0) (old : ∀ b o, s₂.heap.get? b = some o → h₁.get? b = some o) :
    Inv (cxComp X N' scope ⟨C, s₂, H, fp⟩) pins (sgm nt caps σ) H { s₂ with heap := h₁, toks := tk } := by
  have hl := congrArg List.length S.capt
  rw [List.length_map, List.length_map, List.length_drop] at hl
  have sub : ∀ {x c}, (closL X.env scope.names []).lookup x = some c → X.env.cells.lookup x = some c := fun e => lookup_of_all closL_sub0 e
  refine ⟨comp_ok I S f2 hlt hC, rfl, I.bare, Un.kept old, ⟨m0, hns, fun i x v e1 e2 e3 => ?_⟩, fun x c e => ?_, I.hok.fresh hC, fun x c e => I.freeC x c (sub e), fun p hp => ?_, I.hok.kept old, ?_⟩
  · have e1' : N'[i]? = some x := e1
    have e2' : (List.replicate nt none ++ caps.map fun j => (σ[j]?).getD none)[i]? = some (some v) := e2
    have hi : nt ≤ i := by
      rcases Nat.lt_or_ge i nt with z | z
      · rw [List.getElem?_append_left (by simpa using z), List.getElem?_replicate, if_pos z] at e2'
        cases e2'
      · exact z
    rw [List.getElem?_append_right (by simpa using hi), List.length_replicate, List.getElem?_map] at e2'
    cases hj : caps[i - nt]? with
    | none => rw [hj] at e2'; cases e2'
    | some j =>
      rw [hj] at e2'
      have e3' : (σ[j]?).getD none = some v := Option.some.inj e2'
      have hσ : σ[j]? = some (some v) := by
        cases q : σ[j]? with
        | none => rw [q] at e3'; cases e3'
        | some o => rw [q] at e3'; have z : o = some v := e3'; rw [z]
      have hd : (N'.drop nt)[i - nt]? = some x := by rw [List.getElem?_drop, Nat.add_sub_cancel' hi]; exact e1'
      have hN : X.N[j]? = some x := by
        have q := congrArg (fun l => l[i - nt]?) S.capt
        have q : (caps.map fun j => X.N[j]?)[i - nt]? = ((N'.drop nt).map some)[i - nt]? := q
        rw [List.getElem?_map, List.getElem?_map, hj, hd] at q
        exact Option.some.inj q
      have hfx := S.capf x (List.mem_of_getElem? hd)
      have hko := S.frees (x, .free) (PySem.mem_of_lookup hfx) rfl
      have vis : Vis X.env.scope x := .inr hko
      obtain ⟨m, hn, hl'⟩ := I.loc
      obtain ⟨u, r, l⟩ := hl' j x v hN hσ vis
      refine ⟨u, r, .inr ⟨?_, ?_⟩⟩
      · exact lookup_relabel_free hfx
      · rcases l with ⟨k, _⟩ | ⟨_, c, e, z⟩
        · have k' : X.env.scope.names.lookup x = some .local := k
          rcases hko with q | q <;> (rw [k'] at q; cases q)
        · obtain ⟨c', q⟩ := lookup_of_mem (closL_mem e (PySem.mem_of_lookup hfx) (cs := []))
          have q2 := sub q
          rw [e] at q2
          cases q2
          obtain ⟨o, ho, hd'⟩ := z
          exact ⟨c, q, o, old _ _ ho, hd'⟩
  · obtain ⟨v, o, ho, hd'⟩ := I.cell x c (sub e)
    exact ⟨v, o, old _ _ ho, hd'⟩
  · obtain ⟨a, b, c, d, e⟩ := I.pin p hp
    refine ⟨old _ _ a, b, Nat.ne_of_lt (Nat.lt_of_lt_of_le (Heap.lt_size a) hC), fun hf => ?_, e⟩
    rcases List.mem_cons.mp (I.stkSub p.1 hf) with z | z
    · exact c z
    · exact d z
  · show (List.replicate nt none ++ caps.map fun j => (σ[j]?).getD none).length = N'.length
    rw [List.length_append, List.length_replicate, List.length_map]
    have := S.len
    omega
end

def PTs (X : Cx) (ifs : List Expr) (t : TT) : Prop :=
  ∀ (pins : List (Addr × Obj)) (s : Shared) (σ : St) (H : Hp) (Q : Bool → Hp → Prop), Inv X pins σ H s → t σ H Q →
    wpAny (model X.prog X.w) X.A (forIn ifs true fun c r => if r = true then do let ok ← isTrue c X.env (eval c X.env); pure (ForInStep.yield ok) else pure (ForInStep.yield r)) (TP X pins σ Q) X.xe s
def tTrue : TT := fun _ H Q => Q true H
theorem pts_nil {X : Cx} : PTs X [] tTrue := fun _ _ _ H _ I h => wpAny_tests_nil ⟨H, I, h⟩
section
variable {prog : Program} {w : World} {A : Around} {R : Result → Shared → Prop} {s : Shared}
theorem codeAny_compLoop_go {elt target iter : Expr} {ifs : List Expr} {scope : Scope} {pos : Pos} {it acc : Value} {env : Env} (I : Nat → Shared → Prop)
    (turn : ∀ n s, I n s → wpAny (model prog w) A (pyNext it) (fun r s₁ => match r with
      | none => R (.ok .next) s₁
      | some v => wpAny (model prog w) A (letOwnedTupleGo target it v) (fun _ s₁' => wpAny (model prog w) A (assign target env v) (fun _ s₂ =>
          wpAny (model prog w) A (forIn ifs true fun c r => if r = true then do let ok ← isTrue c env (eval c env); pure (ForInStep.yield ok) else pure (ForInStep.yield r)) (fun ok s₃ =>
            if ok = true then wpAny (model prog w) A (eval elt env) (fun x s₄ =>
              wpAny (model prog w) A (call (.builtin "list.append") [acc, x]) (fun _ s₅ => ∃ m, m < n ∧ I m s₅) (notedBy (model prog w) A env fun e s' => R (.error e) s') s₄) (notedBy (model prog w) A env fun e s' => R (.error e) s') s₃
            else ∃ m, m < n ∧ I m s₃) (notedBy (model prog w) A env fun e s' => R (.error e) s') s₂) (notedBy (model prog w) A env fun e s' => R (.error e) s') s₁') (notedBy (model prog w) A env fun e s' => R (.error e) s') s₁)
      (notedBy (model prog w) A env fun e s' => R (.error e) s') s)
    (n : Nat) (h : I n s) : codeAny (model prog w) A (.compLoop (.ListComp elt [⟨target, iter, ifs, 0⟩] scope pos) 0 it acc env) R s := by
  refine codeAny_loop rfl I (fun n s hI => ?_) n h
  show wpAny _ A ((compTurn (.ListComp elt [⟨target, iter, ifs, 0⟩] scope pos) 0 it acc env).onRaise (fun x => do noteFrame x env; theTreesLotGoes x)) _ _ s
  refine wpAny_noted ?_
  rw [compTurn_list]
  refine wpAny_bind (wpAny_standAt (wpAny_bind (wpAny_mono (turn n s hI) (fun r s₁ h₁ => ?_) fun _ _ h' => h')))
  cases r with
  | none => exact wpAny_pure h₁
  | some v =>
    refine wpAny_bind (wpAny_mono h₁ (fun _ s₁' h₁' => ?_) fun _ _ h' => h')
    refine wpAny_bind (wpAny_mono h₁' (fun _ s₂ h₂ => wpAny_bind (wpAny_mono h₂ (fun ok s₃ h₃ => ?_) fun _ _ h' => h')) fun _ _ h' => h')
    cases ok with
    | false => exact wpAny_pure ⟨rfl, h₃⟩
    | true =>
      exact wpAny_bind (wpAny_bind (wpAny_mono h₃ (fun x s₄ h₄ => wpAny_bind (wpAny_mono h₄ (fun _ s₅ h₅ => wpAny_pure (wpAny_pure ⟨rfl, h₅⟩)) fun _ _ h' => h')) fun _ _ h' => h'))
end

section
variable {X : Cx} {pins : List (Addr × Obj)} {σ : St} {H : Hp} {s₂ : Shared} {scope : Scope} {N' : List Str} {nt : Nat} {caps : List Nat} {tg elt iter : Expr} {ifs : List Expr} {pos : Pos} {g : Blk → TG} {tt : Blk → TT} {te : Blk → TE}

/-- one turn and the end, by what the block wants -/
def CompW (J : It) (g : TG) (tt : TT) (te : TE) (W : Nat → Nat → List V → St → Hp → Prop) (Z : List V → Hp → Prop) : Prop :=
  ∀ i m ys σ' H', W i m ys σ' H' → (J.stop i H' ∧ Z ys H') ∨ (J.go i H' ∧ ys.length < sizeLine ∧ ∃ N : List V → St → Hp → Prop, (∀ zs σ2 H2, N zs σ2 H2 → ∃ m', m' < m ∧ W (i + 1) m' zs σ2 H2) ∧
    ∀ x H2, J.yld i H' x H2 → g x σ' H2 fun σ2 H3 => tt σ2 H3 fun b H4 => if b = true then te σ2 H4 fun y H5 => N (ys ++ [y]) σ2 H5 else N ys σ2 H4)

abbrev lobj (its : List Value) (n : Nat) : Obj := { cls := .type "list", data := .seq its.toArray n }

theorem comp_run {J : It} {it : Addr} {fp : List Addr} {tn : Nat → Heap → Prop} {W : Nat → Nat → List V → St → Hp → Prop} {Z : List V → Hp → Prop} {RR : Value → Addr → Result → Shared → Prop} {E : Value → Shared → Prop}
    (hc : X.calm = true) (S : CompScope X.env.scope X.N scope N' nt caps)
    (hg : ∀ B, PG (cxComp X N' scope B) tg (g B)) (ht : ∀ B, PTs (cxComp X N' scope B) ifs (tt B)) (he : ∀ B, PE (cxComp X N' scope B) elt (te B))
    (I : Inv X pins σ H s₂) (T : Turn X.prog X.w X.K tg J fp it tn) (st : tn 0 s₂.heap) (f2 : ∀ b ∈ fp, FpOk X pins H b) (w0 : ∃ m, W 0 m [] (sgm nt caps σ) H) (turn : ∀ B, CompW J (g B) (tt B) (te B) W Z)
    (hRR : ∀ D C s' ys H', Z ys H' → H' D = none → Inv X pins σ (upd H' D (.lst ys)) s' → FpOk X pins (upd H' D (.lst ys)) C → (∃ m, s'.heap.Ns C m) → RR (.ref D) C (.ok .next) s') :
    wpAny (model X.prog X.w) X.A (newList []) (fun acc s₃ => wpAny (model X.prog X.w) X.A (newFunctionEnv scope X.env.globals (closL X.env scope.names []) [] X.env.qual none .none (some X.env)) (fun cenv s₄ =>
      codeAny (model X.prog X.w) X.A (.compStart (.ListComp elt [⟨tg, iter, ifs, 0⟩] scope pos) 0 (.ref it) acc { cenv with scope := relabel scope X.env }) (RR acc cenv.locals) s₄) E s₃) E s₂ := by
  refine wpAny_newObj_type (wpAny_newFunctionEnv S.nocell (by intro y hy; simp at hy) (fun h₁ hns₁ hsb₁ => ?_) S.kind)
  try dsimp only at hns₁ hsb₁ ⊢
  generalize hH2 : s₂.heap.push { cls := .type "list", dict := none, data := .seq ([] : List Value).toArray } = G2 at hns₁ hsb₁ ⊢
  have hCe : G2.objs.size = s₂.heap.objs.size + 1 := by rw [← hH2, Heap.size_push]
  have hDC : s₂.heap.objs.size ≠ G2.objs.size := by rw [hCe]; exact Nat.ne_of_lt (Nat.lt_succ_self _)
  have hCle : s₂.heap.objs.size ≤ G2.objs.size := by rw [hCe]; exact Nat.le_succ _
  have hlt : ∀ b ∈ fp, b < s₂.heap.objs.size := fun b hb => let ⟨o, e, _⟩ := T.obj 0 _ st b hb; Heap.lt_size e
  have old : ∀ b o, s₂.heap.get? b = some o → h₁.get? b = some o := fun b o e =>
    hsb₁.extBut b o (Nat.ne_of_lt (Nat.lt_of_lt_of_le (Heap.lt_size e) hCle)) (Heap.get?_push_of_some _ (hH2 ▸ Heap.get?_push_of_some _ e))
  have hacc : h₁.get? s₂.heap.objs.size = some (lobj [] 0) := hsb₁.extBut _ _ hDC (Heap.get?_push_of_some _ (hH2 ▸ Heap.get?_push_size _ rfl))
  generalize hD : s₂.heap.objs.size = D at hacc hDC hCle hCe
  generalize G2.objs.size = C at hns₁ hsb₁ hDC hCle hCe ⊢
  have hlt' : ∀ b ∈ fp, b < D := fun b hb => hD ▸ hlt b hb
  have hpl : ∀ p ∈ X.pn ++ pins, p.1 < D := fun p hp => hD ▸ Heap.lt_size (I.pin p hp).1
  have hcl : ∀ x c, X.env.cells.lookup x = some c → c < D := fun x c e => let ⟨v, q⟩ := I.cell x c e; hD ▸ q.lt
  have hfsl : ∀ b ∈ frs X.stack, b < D := fun b hb => by
    rcases List.mem_cons.mp (I.stkSub b hb) with z | z
    · rw [z, ← hD]; exact I.lt
    · rw [← hD]
      refine Nat.lt_of_not_le fun q => I.nofs q z
  -- the iterator's and the list's own addresses within the block
  have fD : ∀ {H' : Hp} {pl : List (Addr × Obj)}, H' D = none → (∀ p ∈ X.pn ++ pl, p.1 < D) → FpOk (cxComp X N' scope ⟨C, s₂, H, fp⟩) pl H' D := fun {H' pl} hn hp =>
    ⟨hn, hDC, fun z => Nat.lt_irrefl _ (hfsl D z), .inr (by show s₂.heap.objs.size ≤ D; rw [hD]; exact Nat.le_refl _), fun x c e z => Nat.lt_irrefl D (by have := hcl x c (lookup_of_all closL_sub0 e); rw [z] at this; exact this),
      fun p q z => Nat.lt_irrefl D (by have := hp p q; rw [z] at this; exact this)⟩
  have fI : ∀ {H' : Hp} {n : Nat} {its : List Value}, (∀ b ∈ fp, H' b = none) → ∀ b ∈ fp, FpOk (cxComp X N' scope ⟨C, s₂, H, fp⟩) (pins ++ [(D, lobj its n)]) H' b := fun {H' n its} hn b hb => by
    obtain ⟨g0, g1, g2, g3, g4, g5⟩ := f2 b hb
    refine ⟨hn b hb, Nat.ne_of_lt (Nat.lt_of_lt_of_le (hlt' b hb) hCle), fun z => ?_, .inl hb, fun x c e => g4 x c (lookup_of_all closL_sub0 e), fun p hp z => ?_⟩
    · rcases List.mem_cons.mp (I.stkSub b z) with q | q
      · exact g1 q
      · exact g2 q
    · have hp' : p ∈ X.pn ++ (pins ++ [(D, lobj its n)]) := hp
      rw [← List.append_assoc] at hp'
      rcases List.mem_append.mp hp' with q | q
      · exact g5 p q z
      · have e : p = (D, lobj its n) := by simpa using q
        rw [e] at z
        have := hlt' b hb
        rw [← z] at this
        exact Nat.lt_irrefl _ this
  have pinD : ∀ {σ' : St} {H' : Hp} {s' : Shared} {its : List Value} {n : Nat} {pl : List (Addr × Obj)}, Inv (cxComp X N' scope ⟨C, s₂, H, fp⟩) (pins ++ pl) σ' H' s' → H' D = none → s'.heap.get? D = some (lobj its n) → Inv (cxComp X N' scope ⟨C, s₂, H, fp⟩) (pins ++ [(D, lobj its n)]) σ' H' s' :=
    fun {σ' H' s' its n pl} J hn ho => J.pins_of fun p hp => by
      rcases List.mem_append.mp hp with q | q
      · exact J.pin p (List.mem_append_right _ (List.mem_append_left _ q))
      · have e : p = (D, lobj its n) := by simpa using q
        subst e
        exact ⟨ho, hn, hDC, fun z => Nat.lt_irrefl _ (hfsl D z), fun v z => by cases z⟩
  have I1 : Inv (cxComp X N' scope ⟨C, s₂, H, fp⟩) (pins ++ [(D, lobj [] 0)]) (sgm nt caps σ) H { s₂ with heap := h₁, toks := s₂.toks + ([] : List (Str × Value)).length } :=
    pinD (pl := []) (by rw [List.append_nil]; exact inv_comp I S f2 hlt (by rw [hD]; exact hCle) hns₁ old) (I.hok.fresh (by rw [hD]; exact Nat.le_refl _)) hacc
  have st1 : tn 0 h₁ := T.keep 0 _ _ st fun b _ o e => old b o e
  have loop : ∀ s₃ : Shared, s₃ = { s₂ with heap := h₁, toks := s₂.toks + ([] : List (Str × Value)).length } →
      codeAny (model X.prog X.w) X.A (.compLoop (.ListComp elt [⟨tg, iter, ifs, 0⟩] scope pos) 0 (.ref it) (.ref D) (cxComp X N' scope ⟨C, s₂, H, fp⟩).env) (RR (.ref D) C) s₃ := by
    rintro s₃ rfl
    obtain ⟨m0, w0⟩ := w0
    refine codeAny_compLoop_go (fun k s' => ∃ i ys σ' H' its n, Inv (cxComp X N' scope ⟨C, s₂, H, fp⟩) (pins ++ [(D, lobj its n)]) σ' H' s' ∧ Vals ys its ∧ tn i s'.heap ∧ (∀ b ∈ fp, H' b = none) ∧ ys.length ≤ sizeLine ∧ W i k ys σ' H') ?_ m0
      ⟨0, [], _, H, [], 0, I1, .nil, st1, fun b hb => (f2 b hb).1, Nat.zero_le _, w0⟩
    rintro k s' ⟨i, ys, σ', H', its, n, I', rv, st', fr', hz, w'⟩
    rcases turn ⟨C, s₂, H, fp⟩ i k ys σ' H' w' with ⟨stop, z⟩ | ⟨go, hlen, NN, hNN, step⟩
    · refine thn (T.done (cxComp X N' scope ⟨C, s₂, H, fp⟩) rfl rfl rfl hc i _ s' σ' H' _ I' (fI fr') st' stop) fun r s1 ⟨hr, J⟩ => ?_
      subst hr
      have pd := J.pin (D, lobj its n) (List.mem_append_right _ (List.mem_append_right _ List.mem_cons_self))
      have hDn : H' D = none := pd.2.1
      have J0 : Inv X pins σ H' s1 := I.call' (ch := fp) J.os J.base J.hok J.bare fun b hb => ⟨(f2 b hb).2.2.2.1, (f2 b hb).2.1, (f2 b hb).2.2.2.2.1, (f2 b hb).2.2.2.2.2⟩
      have J1 : Inv X pins σ (upd H' D (.lst ys)) s1 := J0.track (I.fpOk (by rw [hD]; exact Nat.le_refl _) hDn) ⟨hz, its, n, rv, pd.1⟩
      obtain ⟨mC, hnC, _⟩ := J.loc
      exact hRR D C s1 ys H' z hDn J1 (I.fpOk (by rw [hD]; exact hCle) (by rw [upd_ne (Ne.symm hDC)]; exact J.free)) ⟨mC, hnC⟩
    · refine thn (T.item (cxComp X N' scope ⟨C, s₂, H, fp⟩) rfl rfl rfl hc i _ s' σ' H' _ I' (fI fr') st' go) fun r s1 ⟨u, hr, h1⟩ => ?_
      subst hr
      refine thn h1 fun _ s5 ⟨x, H5, I5, r5, y5, st5, fr5⟩ => ?_
      have I5' := I5.pinned (fI fr5) (T.obj _ _ st5)
      refine wpAny_mono (hg ⟨C, s₂, H, fp⟩ _ s5 σ' H5 x u _ I5' r5 (step x H5 y5)) (fun _ s6 ⟨σ6, H6, I6, q6⟩ => ?_) fun _ _ z => z.elim
      refine wpAny_mono (ht ⟨C, s₂, H, fp⟩ _ s6 σ6 H6 _ I6 q6) (fun b s7 ⟨H7, I7, q7⟩ => ?_) fun _ _ z => z.elim
      have keepT : ∀ {σ8 : St} {H8 : Hp} {s8 : Shared}, Inv (cxComp X N' scope ⟨C, s₂, H, fp⟩) ((pins ++ [(D, lobj its n)]) ++ pinsAt fp s5.heap) σ8 H8 s8 → tn (i + 1) s8.heap ∧ (∀ b ∈ fp, H8 b = none) ∧ s8.heap.get? D = some (lobj its n) ∧ H8 D = none := fun {σ8 H8 s8} I8 => by
        refine ⟨T.keep _ _ _ st5 fun b hb o e => (I8.pin (b, o) (List.mem_append_right _ (List.mem_append_right _ (mem_pinsAt hb e)))).1, fun b hb => ?_, ?_⟩
        · obtain ⟨o, e, _⟩ := T.obj _ _ st5 b hb
          exact (I8.pin (b, o) (List.mem_append_right _ (List.mem_append_right _ (mem_pinsAt hb e)))).2.1
        · have pd := I8.pin (D, lobj its n) (List.mem_append_right _ (List.mem_append_left _ (List.mem_append_right _ List.mem_cons_self)))
          exact ⟨pd.1, pd.2.1⟩
      cases b with
      | false =>
        rw [if_neg Bool.false_ne_true] at q7 ⊢
        obtain ⟨m', hm, w7⟩ := hNN _ _ _ q7
        obtain ⟨t7, f7, _, _⟩ := keepT I7
        exact ⟨m', hm, i + 1, ys, σ6, H7, its, n, I7.unpinned, rv, t7, f7, hz, w7⟩
      | true =>
        rw [if_pos rfl] at q7 ⊢
        refine wpAny_mono (he ⟨C, s₂, H, fp⟩ _ s7 σ6 H7 _ I7 q7) (fun v s8 ⟨y, H8, I8, r8, q8⟩ => ?_) fun _ _ z => z.elim
        obtain ⟨m', hm, w8⟩ := hNN _ _ _ q8
        obtain ⟨t8, f8, o8, n8⟩ := keepT I8
        have hlv := rv.length
        refine append_at o8 (fun h9 sb9 o9 => ?_) (by rw [List.size_toArray, ← hlv]; exact hz)
        have I8' : Inv (cxComp X N' scope ⟨C, s₂, H, fp⟩) (pins ++ []) σ6 H8 s8 := by
          rw [List.append_nil]
          exact I8.unpinned.unpinned
        have ep : ((its.toArray.push v)) = (its ++ [v]).toArray := by simp
        rw [ep] at o9
        have I9 : Inv (cxComp X N' scope ⟨C, s₂, H, fp⟩) (pins ++ []) σ6 H8 { s8 with heap := h9 } :=
          I8'.turnedL (t' := s8.toks) (ch := [D]) (fun b o hb e => sb9.extBut b o (fun z => hb (by simp [z])) e) (fun b hb => by
            have e : b = D := by simpa using hb
            subst e
            exact fD n8 (by rw [List.append_nil]; exact hpl))
        refine ⟨m', hm, i + 1, ys ++ [y], σ6, H8, its ++ [v], n + 1, pinD I9 n8 o9, rv.append (.cons r8 .nil), T.keep _ _ _ t8 fun b hb o e => sb9.extBut b o (Nat.ne_of_lt (hlt' b hb)) e, f8, ?_, w8⟩
        rw [List.length_append, List.length_singleton]
        exact hlen
  exact codeAny_compStart_list (loop _ rfl) (T.self X.A 0 _ _ _ st1 (loop _ rfl))

/-- [elt for tg in iter if ..] -/
def tComp (nt : Nat) (caps : List Nat) (wi : TI) (g : Blk → TG) (tt : Blk → TT) (te : Blk → TE) : TE := fun σ H Q => wi σ H fun J H1 =>
  ∃ (W : Nat → Nat → List V → St → Hp → Prop), (∃ m, W 0 m [] (sgm nt caps σ) H1) ∧ ∀ B, CompW J (g B) (tt B) (te B) W fun ys H' => ∀ p, H' p = none → Q (.ref p) (upd H' p (.lst ys))

theorem pe_comp {wi : TI} (osc : Scope) (N : List Str) (S : CompScope osc N scope N' nt caps) (hi : PI X tg iter wi)
    (hg : ∀ B, PG (cxComp X N' scope B) tg (g B)) (ht : ∀ B, PTs (cxComp X N' scope B) ifs (tt B)) (he : ∀ B, PE (cxComp X N' scope B) elt (te B))
    (hc : X.calm = true := by rfl) (hosc : X.env.scope = osc := by rfl) (hNN : X.N = N := by rfl) (hs : ∀ x, foldedSetIterable iter X.env x = pure x := by intro _; rfl) : PE X (.ListComp elt [⟨tg, iter, ifs, 0⟩] scope pos) (tComp nt caps wi g tt te) := by
  subst hosc hNN
  intro pins s σ H Q I h
  have hfr : ∀ x ∈ scope.names, x.2 = .free → ∃ c, X.env.cells.lookup x.1 = some c := fun x hx hf => I.ok.has x.1 (S.frees x hx hf)
  rw [eval_ListComp]
  refine wpAny_comprehension_free (use := none) rfl hs (closureFor_eq hfr) S.kind S.names (thn (hi pins s σ H _ I h) fun v s1 h1 => thn h1 fun itv s2 h2 => ?_)
  obtain ⟨it, fp, tn, J, H2, e, I2, T, st2, f2, W, w0, turn⟩ := h2
  subst e
  refine comp_run (RR := fun acc C => compPost (model X.prog X.w) X.A X.xe none (EP X pins σ Q) acc C) hc S hg ht he I2 T st2 f2 w0 turn ?_
  intro D C s' ys H' z hn J' fC ⟨m, hm⟩
  refine ⟨m, hm, fun h'' sb => ⟨.ref D, _, J'.turnedL (t' := s'.toks) (ch := [C]) (fun b o hb e => sb.extBut b o (fun z => hb (by simp [z])) e) (fun b hb => ?_), rfl, z D hn⟩⟩
  have e : b = C := by simpa using hb
  subst e
  exact fC
/-- name = [elt for ..] where the model stores ahead of letting the block's names go -/
theorem ps_setComp {wi : TI} {i : Nat} {y : Str} {py spos : Pos} (osc : Scope) (N : List Str) (S : CompScope osc N scope N' nt caps) (hN : X.N.Nodup) (hiN : X.N[i]? = some y) (hy : X.env.scope.names.lookup y = some .local) (hi : PI X tg iter wi)
    (hg : ∀ B, PG (cxComp X N' scope B) tg (g B)) (ht : ∀ B, PTs (cxComp X N' scope B) ifs (tt B)) (he : ∀ B, PE (cxComp X N' scope B) elt (te B))
    (hsw : swapsWith (.ListComp elt [⟨tg, iter, ifs, 0⟩] scope pos) (some (.Name y py)) spos.line X.env = pure true := by rfl)
    (hc : X.calm = true := by rfl) (hosc : X.env.scope = osc := by rfl) (hNN : X.N = N := by rfl) (hs : ∀ x, foldedSetIterable iter X.env x = pure x := by intro _; rfl) : PS X (.Assign [.Name y py] (.ListComp elt [⟨tg, iter, ifs, 0⟩] scope pos) spos) (tAsg (tComp nt caps wi g tt te) (gName i)) := by
  subst hosc hNN
  intro pins s σ H D0 I h
  have hfr : ∀ x ∈ scope.names, x.2 = .free → ∃ c, X.env.cells.lookup x.1 = some c := fun x hx hf => I.ok.has x.1 (S.frees x hx hf)
  rw [exec_Assign_Name_used _ _ _ _ hsw]
  refine wpAny_bind (wpAny_standAt (wpAny_bind ?_))
  show wpAny _ _ (do let _ ← comprehension (.ListComp elt [⟨tg, iter, ifs, 0⟩] scope pos) scope X.env _ (newList []) false (eval iter X.env) (some (assign (.Name y py) X.env))) _ _ s
  refine wpAny_bind (wpAny_mono (wpAny_comprehension_free (use := some (assign (.Name y py) X.env)) (Q := fun _ s' => SP X pins D0 .next s') rfl hs (closureFor_eq hfr) S.kind S.names
    (thn (hi pins s σ H _ I h) fun v s1 h1 => thn h1 fun itv s2 h2 => ?_)) (fun _ s' hq => wpAny_pure (wpAny_pure hq)) fun _ _ e => e)
  obtain ⟨it, fp, tn, J, H2, e, I2, T, st2, f2, W, w0, turn⟩ := h2
  subst e
  refine comp_run (RR := fun acc C => compPost (model X.prog X.w) X.A X.xe (some (assign (.Name y py) X.env)) (fun _ s' => SP X pins D0 .next s') acc C) hc S hg ht he I2 T st2 f2 w0 turn ?_
  intro D C s' ys H' z hn J' fC ⟨m, hm⟩
  show wpAny _ _ (assign (.Name y py) X.env (.ref D)) _ _ s'
  refine wpAny_assign_Name (store_ok2 (v := .ref D) J' hN hiN (.inl hy) rfl (fun s'' J'' ⟨a, sb, ha⟩ => ?_) (.inr hy))
  have hCa : C ≠ a := by
    rcases ha with q | q
    · rw [q]; exact fC.2.1
    · exact Ne.symm (fC.2.2.2.2.1 _ _ q)
  refine ⟨m, hm.sameBut sb hCa, fun h'' sb' => ⟨_, _, J''.turnedL (t' := s''.toks) (ch := [C]) (fun b o hb e => sb'.extBut b o (fun z => hb (by simp [z])) e) (fun b hb => ?_), z D hn⟩⟩
  have e : b = C := by simpa using hb
  subst e
  exact fC
end

def Itz (K : PySem.W.Frag) (a b : Addr) : It where
  go i H := ∃ xs ys x y, SqL K H a xs ∧ SqL K H b ys ∧ xs[i]? = some x ∧ ys[i]? = some y
  yld i H v H' := ∃ p x y, H p = none ∧ v = .ref p ∧ H' = upd H p (.tup [x, y]) ∧ (∀ xs, SqL K H a xs → xs[i]? = some x) ∧ ∀ ys, SqL K H b ys → ys[i]? = some y
  stop i H := ∃ xs ys, SqL K H a xs ∧ SqL K H b ys ∧ (xs.length ≤ i ∨ ys.length ≤ i)
theorem ne_cls {h : Heap} {a b : Addr} {o u : Obj} {x y : Value} (ha : h.get? a = some o) (hb : h.get? b = some u) (h1 : o.cls = x) (h2 : u.cls = y) (hc : x ≠ y) : a ≠ b := by
  rintro rfl
  rw [ha] at hb
  cases hb
  exact hc (h1.symm.trans h2)
theorem zip_apart {h : Heap} {z TI TO i1 i2 a b : Addr} {k1 k2 : Nat} {xs ys : Array Value} {u v : Value} (hTT : TI ≠ TO) (hii : i1 ≠ i2) (hz : IsZip h z TI TO .none) (hTI : IsPair h TI (.ref i1) (.ref i2)) (hTO : IsPair h TO u v)
    (h1 : h.IsListIter i1 a k1) (h2 : h.IsListIter i2 b k2) (ha : h.IsList a xs) (hb : h.IsList b ys) : ZipApart z TI TO i1 i2 a b := by
  obtain ⟨o1, e1, c1, _⟩ := h1
  obtain ⟨o2, e2, c2, _⟩ := h2
  obtain ⟨oa, ea, ca, _⟩ := ha
  obtain ⟨ob, eb, cb, _⟩ := hb
  exact ⟨(ne_cls (x := .type "tuple") (y := .type "zip") hTI hz rfl rfl (by decide)), (ne_cls (x := .type "tuple") (y := .type "zip") hTO hz rfl rfl (by decide)), (ne_cls (x := .type "list_iterator") (y := .type "zip") e1 hz c1 rfl (by decide)), (ne_cls (x := .type "list_iterator") (y := .type "zip") e2 hz c2 rfl (by decide)), hTT, (ne_cls (x := .type "tuple") (y := .type "list_iterator") hTI e1 rfl c1 (by decide)), (ne_cls (x := .type "tuple") (y := .type "list_iterator") hTI e2 rfl c2 (by decide)), (ne_cls (x := .type "tuple") (y := .type "list_iterator") hTO e1 rfl c1 (by decide)), (ne_cls (x := .type "tuple") (y := .type "list_iterator") hTO e2 rfl c2 (by decide)), hii, (ne_cls (x := .type "list") (y := .type "zip") ea hz ca rfl (by decide)), (ne_cls (x := .type "list") (y := .type "tuple") ea hTO ca rfl (by decide)), (ne_cls (x := .type "list") (y := .type "list_iterator") ea e1 ca c1 (by decide)), (ne_cls (x := .type "list") (y := .type "list_iterator") ea e2 ca c2 (by decide)), (ne_cls (x := .type "list") (y := .type "zip") eb hz cb rfl (by decide)), (ne_cls (x := .type "list") (y := .type "tuple") eb hTO cb rfl (by decide)), (ne_cls (x := .type "list") (y := .type "list_iterator") eb e1 cb c1 (by decide)), (ne_cls (x := .type "list") (y := .type "list_iterator") eb e2 cb c2 (by decide))⟩
theorem turn_zip {P : Program} {w : World} {K : PySem.W.Frag} {elts : List Expr} {kx} {tpos : Pos} {z TI TO i1 i2 a b : Addr} (hTT : TI ≠ TO) (hii : i1 ≠ i2) : Turn P w K (.Tuple elts kx tpos) (Itz K a b) [z, TI, TO, i1, i2] z
    (fun i h => IsZip h z TI TO .none ∧ IsPair h TI (.ref i1) (.ref i2) ∧ (∃ u v, IsPair h TO u v) ∧ h.IsListIter i1 a i ∧ h.IsListIter i2 b i) where
  mem := by simp
  obj := fun i h st c hc => by
    obtain ⟨hz, hTI, ⟨u, v, hTO⟩, ⟨o1, e1, _, d1⟩, ⟨o2, e2, _, d2⟩⟩ := st
    simp only [List.mem_cons, List.not_mem_nil, or_false] at hc
    rcases hc with rfl | rfl | rfl | rfl | rfl
    · exact ⟨_, hz, fun v q => by cases q⟩
    · exact ⟨_, hTI, fun v q => by cases q⟩
    · exact ⟨_, hTO, fun v q => by cases q⟩
    · exact ⟨_, e1, fun v q => by rw [d1] at q; cases q⟩
    · exact ⟨_, e2, fun v q => by rw [d2] at q; cases q⟩
  keep := fun i h h' st k => by
    obtain ⟨hz, hTI, ⟨u, v, hTO⟩, h1, h2⟩ := st
    exact ⟨k z (by simp) _ hz, k TI (by simp) _ hTI, ⟨u, v, k TO (by simp) _ hTO⟩, h1.at fun o e => k i1 (by simp) o e, h2.at fun o e => k i2 (by simp) o e⟩
  item := by
    intro X hP hw hK hc i pins s σ H E I hf st hg
    subst hP hw hK
    obtain ⟨xs, ys, x, y, qa, qb, hx, hy⟩ := hg
    obtain ⟨its1, rv1, p1, z1⟩ := I.list qa
    obtain ⟨its2, rv2, p2, z2⟩ := I.list qb
    obtain ⟨u1, hu1, ru1⟩ := rv1.get hx
    obtain ⟨u2, hu2, ru2⟩ := rv2.get hy
    obtain ⟨hz, hTI, ⟨u, v, hTO⟩, h1, h2⟩ := st
    have D := zip_apart hTT hii hz hTI hTO h1 h2 p1.isList p2.isList
    refine wpAny_pyNext_zip_item D hz hTI hTO h1 h2 p1.isList p2.isList (x := u1) (y := u2) (by simpa using hu1) (by simpa using hu2) fun h' a1 a2 a3 a4 a5 a6 hk => ?_
    refine ⟨_, rfl, wpAny_letOwnedTupleGo_zip a1 fun h'' hz'' sb => ?_⟩
    have zlt := Heap.lt_size hz
    have pz : s.heap.objs.size ≠ z := Nat.ne_of_gt zlt
    have hfr := I.hok.fresh (Nat.le_refl s.heap.objs.size)
    have I1 : Inv X pins σ H { s with heap := h'' } := I.turnedL (t' := s.toks) (ch := [z, TO, i1, i2]) (fun c o hb e => by
      simp only [List.mem_cons, List.not_mem_nil, or_false, not_or] at hb
      exact sb.extBut c o hb.1 (hk c o hb.1 hb.2.1 hb.2.2.1 hb.2.2.2 e)) (fun c hb => hf c (by
      simp only [List.mem_cons, List.not_mem_nil, or_false] at hb ⊢
      rcases hb with q | q | q | q
      · exact .inl q
      · exact .inr (.inr (.inl q))
      · exact .inr (.inr (.inr (.inl q)))
      · exact .inr (.inr (.inr (.inr q)))))
    have hp : IsPair h'' s.heap.objs.size u1 u2 := sb.extBut _ _ pz a5
    have I2 : Inv X pins σ (upd H s.heap.objs.size (.tup [x, y])) { s with heap := h'' } := I1.track (I.fpOk (Nat.le_refl _) hfr) ⟨by show 2 ≤ sizeLine; decide, [u1, u2], .cons ru1 (.cons ru2 .nil), ⟨_, hp, rfl, _, rfl⟩⟩
    refine ⟨.ref s.heap.objs.size, _, I2, rfl, ⟨_, x, y, hfr, rfl, rfl, fun xs' q => by rw [I.list_inj q qa]; exact hx, fun ys' q => by rw [I.list_inj q qb]; exact hy⟩,
      ⟨hz'', sb.extBut _ _ D.TIz (hk _ _ D.TIz D.TITO D.TIi1 D.TIi2 hTI), ⟨_, _, sb.extBut _ _ D.TOz a2⟩, a3.extBut sb.extBut D.i1z, a4.extBut sb.extBut D.i2z⟩, fun c hb => ?_⟩
    rw [upd_ne (fun q => ?_)]
    · exact (hf c hb).1
    · have hlt : c < s.heap.objs.size := by
        obtain ⟨o1, e1, _⟩ := h1
        obtain ⟨o2, e2, _⟩ := h2
        simp only [List.mem_cons, List.not_mem_nil, or_false] at hb
        rcases hb with rfl | rfl | rfl | rfl | rfl
        · exact Heap.lt_size hz
        · exact Heap.lt_size hTI
        · exact Heap.lt_size hTO
        · exact Heap.lt_size e1
        · exact Heap.lt_size e2
      rw [q] at hlt
      exact Nat.lt_irrefl _ hlt
  done := by
    intro X hP hw hK hc i pins s σ H E I hf st hg
    subst hP hw hK
    obtain ⟨xs, ys, qa, qb, hend⟩ := hg
    obtain ⟨its1, rv1, p1, z1⟩ := I.list qa
    obtain ⟨its2, rv2, p2, z2⟩ := I.list qb
    obtain ⟨hz, hTI, ⟨u, v, hTO⟩, h1, h2⟩ := st
    have D := zip_apart hTT hii hz hTI hTO h1 h2 p1.isList p2.isList
    have l1 := rv1.length
    have l2 := rv2.length
    refine wpAny_pyNext_zip_end (I.ok.hd hc) D hz hTI hTO h1 h2 p1.isList p2.isList ?_ fun h' hk => ⟨rfl, ?_⟩
    · rcases hend with q | q
      · exact .inl (by simp; omega)
      · exact .inr (by simp; omega)
    · exact I.turnedL (t' := s.toks) (ch := [z, TO, i1, i2]) (fun c o hb e => by
        simp only [List.mem_cons, List.not_mem_nil, or_false, not_or] at hb
        exact hk c o hb.1 hb.2.1 hb.2.2.1 hb.2.2.2 e) (fun c hb => hf c (by
        simp only [List.mem_cons, List.not_mem_nil, or_false] at hb ⊢
        rcases hb with q | q | q | q
        · exact .inl q
        · exact .inr (.inr (.inl q))
        · exact .inr (.inr (.inr (.inl q)))
        · exact .inr (.inr (.inr (.inr q)))))
  self := fun _ _ _ _ _ st h => wpAny_pyIter_zip st.1 h
section
variable {X : Cx}
def iZip (K : PySem.W.Frag) (ta : TA) : TI := fun σ H R => ta σ H fun vs H1 => ∃ a b xs ys, vs = [.ref a, .ref b] ∧ SqL K H1 a xs ∧ SqL K H1 b ys ∧ R (Itz K a b) H1
theorem pi_zip {ea eb : Expr} {ta : TA} {elts : List Expr} {kx} {tpos p pos : Pos} (hg : Gl X "zip") (hm : X.mg "zip" = none) (ha : PA X [ea, eb] ta) (hs : starEach [ea, eb] X.env = [(false, eval ea X.env), (false, eval eb X.env)] := by rfl) (hs2 : starEach [eb] X.env = [(false, eval eb X.env)] := by rfl) :
    PI X (.Tuple elts kx tpos) (.Call (.Name "zip" p) [ea, eb] [] pos) (iZip X.K ta) := by
  intro pins s σ H R I h
  refine Call_ (ld_blt I hg hm (by rfl : bootBuiltins "zip" = some (.type "zip")) (PyProof.Rows.callWith_type1 (thn (ha pos pins s σ H _ I h) fun us s1 ⟨vs, H1, I1, r1, q1⟩ => ?_) (by rw [hs, hs2]) (by rw [hs2]; rfl)))
  obtain ⟨a, b, xs, ys, e, qa, qb, q⟩ := q1
  subst e
  cases r1 with
  | cons r rr =>
    cases rr with
    | cons r' rr =>
      cases rr
      cases r
      cases r'
      obtain ⟨its1, rv1, p1, z1⟩ := I1.list qa
      obtain ⟨its2, rv2, p2, z2⟩ := I1.list qb
      refine call_zip_2 p1.isList p2.isList fun h' hz hTI hTO h1 h2 hsz hk => wpAny_pyIter_zip hz ?_
      refine ⟨s1.heap.objs.size + 4, [s1.heap.objs.size + 4, s1.heap.objs.size + 2, s1.heap.objs.size + 3, s1.heap.objs.size, s1.heap.objs.size + 1], _, _, H1, rfl, I1.kept (t' := s1.toks) hk, turn_zip (Nat.ne_of_lt (Nat.lt_succ_self _)) (Nat.ne_of_lt (Nat.lt_succ_self _)), ⟨hz, hTI, ⟨_, _, hTO⟩, h1, h2⟩, fun c hb => ?_, q⟩
      have hle : s1.heap.objs.size ≤ c := by
        simp only [List.mem_cons, List.not_mem_nil, or_false] at hb
        rcases hb with q | q | q | q | q
        · rw [q]; exact Nat.le_add_right _ _
        · rw [q]; exact Nat.le_add_right _ _
        · rw [q]; exact Nat.le_add_right _ _
        · rw [q]; exact Nat.le_refl _
        · rw [q]; exact Nat.le_add_right _ _
      exact I1.fpOk hle (I1.hok.fresh hle)
end

section
variable {K : PySem.W.Frag} {g : Blk → TG} {tt : Blk → TT} {te : Blk → TE} {Z : List V → Hp → Prop} {σ0 : St} {H1 : Hp}
theorem comp_listP {a : Addr} {xs : List V} (Pv : Nat → List V → St → Hp → Prop) (h0 : Pv 0 [] σ0 H1) (hl : ∀ i ys σ H, i ≤ xs.length → Pv i ys σ H → SqL K H a xs ∧ ys.length < sizeLine)
    (hs : ∀ B i x ys σ H, xs[i]? = some x → Pv i ys σ H → g B x σ H fun σ2 H3 => tt B σ2 H3 fun b H4 => if b = true then te B σ2 H4 fun y H5 => Pv (i + 1) (ys ++ [y]) σ2 H5 else Pv (i + 1) ys σ2 H4)
    (hd : ∀ ys σ H, Pv xs.length ys σ H → Z ys H) : ∃ W : Nat → Nat → List V → St → Hp → Prop, (∃ m, W 0 m [] σ0 H1) ∧ ∀ B, CompW (Itl K a) (g B) (tt B) (te B) W Z := by
  refine ⟨fun i m ys σ H => m = xs.length - i ∧ i ≤ xs.length ∧ Pv i ys σ H, ⟨xs.length, by simp, Nat.zero_le _, h0⟩, ?_⟩
  rintro B i m ys σ H ⟨rfl, hi, p⟩
  obtain ⟨q, hz⟩ := hl i ys σ H hi p
  by_cases hlt : i < xs.length
  · refine .inr ⟨⟨xs, xs[i], q, by simp [hlt]⟩, hz, Pv (i + 1), fun zs σ' H' p' => ⟨xs.length - (i + 1), by omega, rfl, hlt, p'⟩, fun x H' y => ?_⟩
    obtain ⟨e, y⟩ := y
    subst e
    exact hs B i x ys σ _ (y xs q) p
  · have e : i = xs.length := by omega
    subst e
    exact .inl ⟨⟨xs, q, Nat.le_refl _⟩, hd ys σ H p⟩
theorem comp_rangeP {lo : Int} {n : Nat} (Pv : Nat → List V → St → Hp → Prop) (h0 : Pv 0 [] σ0 H1) (hl : ∀ i ys σ H, i ≤ n → Pv i ys σ H → ys.length < sizeLine)
    (hs : ∀ B i ys σ H, i < n → Pv i ys σ H → g B (.int (lo + i)) σ H fun σ2 H3 => tt B σ2 H3 fun b H4 => if b = true then te B σ2 H4 fun y H5 => Pv (i + 1) (ys ++ [y]) σ2 H5 else Pv (i + 1) ys σ2 H4)
    (hd : ∀ ys σ H, Pv n ys σ H → Z ys H) : ∃ W : Nat → Nat → List V → St → Hp → Prop, (∃ m, W 0 m [] σ0 H1) ∧ ∀ B, CompW (Itr lo n) (g B) (tt B) (te B) W Z := by
  refine ⟨fun i m ys σ H => m = n - i ∧ i ≤ n ∧ Pv i ys σ H, ⟨n, by simp, Nat.zero_le _, h0⟩, ?_⟩
  rintro B i m ys σ H ⟨rfl, hi, p⟩
  by_cases hlt : i < n
  · refine .inr ⟨hlt, hl i ys σ H hi p, Pv (i + 1), fun zs σ' H' p' => ⟨n - (i + 1), by omega, rfl, hlt, p'⟩, fun x H' y => ?_⟩
    obtain ⟨e, y⟩ := y
    subst e y
    exact hs B i ys σ _ hlt p
  · have e : i = n := by omega
    subst e
    exact .inl ⟨Nat.le_refl _, hd ys σ H p⟩
theorem comp_zipP {a b : Addr} {xs ws : List V} (Pv : Nat → List V → St → Hp → Prop) (h0 : Pv 0 [] σ0 H1) (he : xs.length = ws.length) (hl : ∀ i ys σ H, i ≤ xs.length → Pv i ys σ H → SqL K H a xs ∧ SqL K H b ws ∧ ys.length < sizeLine)
    (hs : ∀ B i x w p ys σ H, xs[i]? = some x → ws[i]? = some w → Pv i ys σ H → H p = none → g B (.ref p) σ (upd H p (.tup [x, w])) fun σ2 H3 => tt B σ2 H3 fun b H4 => if b = true then te B σ2 H4 fun y H5 => Pv (i + 1) (ys ++ [y]) σ2 H5 else Pv (i + 1) ys σ2 H4)
    (hd : ∀ ys σ H, Pv xs.length ys σ H → Z ys H) : ∃ W : Nat → Nat → List V → St → Hp → Prop, (∃ m, W 0 m [] σ0 H1) ∧ ∀ B, CompW (Itz K a b) (g B) (tt B) (te B) W Z := by
  refine ⟨fun i m ys σ H => m = xs.length - i ∧ i ≤ xs.length ∧ Pv i ys σ H, ⟨xs.length, by simp, Nat.zero_le _, h0⟩, ?_⟩
  rintro B i m ys σ H ⟨rfl, hi, p⟩
  obtain ⟨qa, qb, hz⟩ := hl i ys σ H hi p
  by_cases hlt : i < xs.length
  · refine .inr ⟨⟨xs, ws, xs[i], ws[i]'(he ▸ hlt), qa, qb, by simp [hlt], by simp [he ▸ hlt]⟩, hz, Pv (i + 1), fun zs σ' H' p' => ⟨xs.length - (i + 1), by omega, rfl, hlt, p'⟩, fun v H' y => ?_⟩
    obtain ⟨q, x, w, hq, e1, e2, hx, hw⟩ := y
    subst e1 e2
    exact hs B i x w q ys σ H (hx xs qa) (hw ws qb) p hq
  · have e : i = xs.length := by omega
    subst e
    exact .inl ⟨⟨xs, ws, qa, qb, .inl (Nat.le_refl _)⟩, hd ys σ H p⟩
end
/-- what was untracked and is laid leaves the rest -/
protected theorem Same.upd {H H' : Hp} (e : Same H H') {p : Addr} {o : HO} (h : H' p = none) : Same H (L2.upd H' p o) := fun b u q => by
  have q' := e b u q
  rw [upd_ne (ne_of_none q' h)]
  exact q'
protected theorem Same.upd' {H H' : Hp} (e : Same H H') {p : Addr} {o : HO} (h : H p = none) : Same H (L2.upd H' p o) := fun b u q => by
  rw [upd_ne (ne_of_none q h)]
  exact e b u q
/-- two targets over zip, the element a value that leaves what was tracked -/
theorem comp_zip1 {K : PySem.W.Frag} {K' : Blk → PySem.W.Frag} {te : Blk → TE} {H1 : Hp} {Z : List V → Hp → Prop} {a b : Addr} {xs ws : List V} {τ : St} (f : V → V → V) (he : xs.length = ws.length) (hn : xs.length < sizeLine) (qa : SqL K H1 a xs) (qb : SqL K H1 b ws)
    (hs : ∀ B x w H, x ∈ xs → w ∈ ws → Same H1 H → ∀ Q' : VK, (∀ H2, Same H H2 → Q' (f x w) H2) → te B (some x :: some w :: τ) H Q')
    (hd : ∀ H2, Same H1 H2 → Z (List.zipWith f xs ws) H2) :
    ∃ W : Nat → Nat → List V → St → Hp → Prop, (∃ m, W 0 m [] (none :: none :: τ) H1) ∧ ∀ B : Blk, CompW (Itz K a b) (gTup (K' B) 2 (gCons (gName 0) (gCons (gName 1) gNil))) tTrue (te B) W Z := by
  refine comp_zipP (g := fun B => gTup (K' B) 2 (gCons (gName 0) (gCons (gName 1) gNil))) (tt := fun _ => tTrue) (xs := xs) (ws := ws) (fun i ys σ H => (∃ v u, σ = v :: u :: τ) ∧ Same H1 H ∧ ys = (List.zipWith f xs ws).take i) ⟨⟨none, none, rfl⟩, Same.refl _, rfl⟩ he (fun i ys σ H hi ⟨_, S, e⟩ => ⟨S.seq qa, S.seq qb, ?_⟩) (fun B i x w p ys σ H hx hw ⟨⟨v, u, e⟩, S, ey⟩ hp => ?_) (fun ys σ H ⟨_, S, e⟩ => ?_)
  · rw [e, List.length_take, List.length_zipWith]; omega
  · subst e
    refine ⟨p, [x, w], rfl, SqT.of upd_same, rfl, x, [w], rfl, w, [], rfl, rfl, ?_⟩
    try dsimp only [gName, tTrue, gNil]
    rw [if_pos rfl]
    refine hs B x w _ (List.mem_of_getElem? hx) (List.mem_of_getElem? hw) (S.upd hp) _ fun H2 S2 => ⟨⟨_, _, rfl⟩, (S.upd hp).trans S2, ?_⟩
    rw [ey, List.take_add_one, List.getElem?_zipWith, hx, hw]
    rfl
  · rw [e, List.take_of_length_le (by rw [List.length_zipWith]; omega)]
    exact hd H S
end L2

namespace L2
open PySem PySem.Spec PyProof.Rows
section
variable {X : Cx}
inductive rIsOf (K : PySem.W.Frag) (xs : List V) (H : Hp) (Q : VK) : Prop
  | mk : ∀ x n t b, (xs = [x, .ty n]) → (TyOf K H x t) → (PySem.W.kitOne K t (.type n) = some b) → (Q (.bl b) H) → rIsOf K xs H Q
theorem call_isinst : CallR X (.builtin "isinstance") (rIsOf X.K) := by
  intro pins s σ H xs us Q I r h
  obtain ⟨x, n, t, b, e, ty, k, q⟩ := h
  subst e
  obtain ⟨u, v, rfl, r1, r2⟩ := vals2 r
  obtain rfl : v = Value.type n := r2
  exact isinst_ok I r1 ty k fun tk => ⟨.bl b, H, I.tok tk, rfl, q⟩
theorem preSum_take (ns : List Int) : ∀ n, n ≤ ns.length → preSum (fun i => ns.getD i 0) n = (ns.take n).sum
  | 0, _ => by simp [preSum]
  | n + 1, h => by
    have hlt : n < ns.length := h
    rw [preSum, preSum_take ns n (Nat.le_of_lt hlt), List.take_add_one, List.getElem?_eq_getElem hlt, List.sum_append]
    simp [List.getD_eq_getElem?_getD, List.getElem?_eq_getElem hlt]
inductive rSumOf (K : PySem.W.Frag) (xs : List V) (H : Hp) (Q : VK) : Prop
  | mk : ∀ (a : Addr) (ns : List Int), (xs = [.ref a]) → (SqL K H a (ns.map V.int)) → (Q (.int ns.sum) H) → rSumOf K xs H Q
theorem call_sum_list (hc : X.calm = true) : CallR X (.builtin "sum") (rSumOf X.K) := by
  intro pins s σ H xs us Q I r h
  obtain ⟨a, ns, e, hq, q⟩ := h
  subst e
  obtain ⟨u, rfl, r1⟩ := vals1 r
  obtain rfl : u = Value.ref a := r1
  obtain ⟨its, rv, p, hz⟩ := I.list hq
  have hal : a < s.heap.objs.size := by obtain ⟨o, e, _⟩ := p.isList; exact Heap.lt_size e
  have hl := rv.length
  rw [List.length_map] at hl
  refine call_sum_walkG (wpAny_pyIter_list p.isList ⟨s.heap.objs.size, _, _, _, _, _, (fun i => ns.getD i 0), rfl, Walks.list (A := X.A.in1) (show X.A.in1.handled = none from I.ok.hd hc) _ a (Nat.ne_of_lt hal) its.toArray, ⟨⟨_, Heap.get?_push_size _ rfl, rfl, rfl⟩, p.isList.push _⟩, fun b hb => ?_, fun i v hv => ?_, fun h' tk t' hk => ?_⟩)
  · show b < (s.heap.push _).objs.size
    rw [Heap.size_push]
    rcases List.mem_cons.mp hb with rfl | hb
    · exact Nat.lt_succ_self _
    · rw [List.mem_singleton.mp hb]; exact Nat.lt_succ_of_lt hal
  · have hv' : its[i]? = some v := by simpa using hv
    have hi : i < ns.length := by rw [hl]; exact (List.getElem?_eq_some_iff.mp hv').1
    have hx : (ns.map V.int)[i]? = some (V.int (ns.getD i 0)) := by
      rw [List.getElem?_map, List.getElem?_eq_getElem hi]
      simp [List.getD_eq_getElem?_getD, List.getElem?_eq_getElem hi]
    obtain ⟨u, hu, ru⟩ := rv.get hx
    rw [hv'] at hu
    cases hu
    exact ru
  · have es : preSum (fun i => ns.getD i 0) its.toArray.size = ns.sum := by
      rw [List.size_toArray, ← hl, preSum_take ns _ (Nat.le_refl _), List.take_length]
    rw [es]
    exact ⟨.int ns.sum, H, I.kept fun b o e => hk b o (fun z => by have := List.mem_singleton.mp z; rw [this] at e; exact absurd (Heap.lt_size e) (Nat.lt_irrefl _)) (Heap.get?_push_of_some _ e), ⟨_, rfl⟩, q⟩
inductive rAllOf (K : PySem.W.Frag) (xs : List V) (H : Hp) (Q : VK) : Prop
  | mk : ∀ (a : Addr) (bs : List Bool), (xs = [.ref a]) → (SqL K H a (bs.map V.bl)) → (Q (.bl (bs.all id)) H) → rAllOf K xs H Q
theorem call_all_list (hc : X.calm = true) : CallR X (.builtin "all") (rAllOf X.K) := by
  intro pins s σ H xs us Q I r h
  obtain ⟨a, bs, e, hq, q⟩ := h
  subst e
  obtain ⟨u, rfl, r1⟩ := vals1 r
  obtain rfl : u = Value.ref a := r1
  obtain ⟨its, rv, p, hz⟩ := I.list hq
  have hal : a < s.heap.objs.size := by obtain ⟨o, e, _⟩ := p.isList; exact Heap.lt_size e
  have hl := rv.length
  rw [List.length_map] at hl
  refine call_all_walk (wpAny_pyIter_list p.isList ⟨s.heap.objs.size, _, _, _, _, _, (fun i => bs.getD i false), rfl, Walks.list (A := X.A.in1) (show X.A.in1.handled = none from I.ok.hd hc) _ a (Nat.ne_of_lt hal) its.toArray, ⟨⟨_, Heap.get?_push_size _ rfl, rfl, rfl⟩, p.isList.push _⟩, fun i v s' Q' E' hv hQ => ?_, fun h' tk hk => ?_⟩)
  · have hv' : its[i]? = some v := by simpa using hv
    have hi : i < bs.length := by rw [hl]; exact (List.getElem?_eq_some_iff.mp hv').1
    have hx : (bs.map V.bl)[i]? = some (V.bl (bs.getD i false)) := by
      rw [List.getElem?_map, List.getElem?_eq_getElem hi]
      simp [List.getD_eq_getElem?_getD, List.getElem?_eq_getElem hi]
    obtain ⟨u, hu, ru⟩ := rv.get hx
    rw [hv'] at hu
    cases hu
    obtain rfl : v = Value.bool (bs.getD i false) := ru
    exact wpAny_truthy_bool hQ
  · have es : (List.range its.toArray.size).all (fun i => bs.getD i false) = bs.all id := by
      rw [List.size_toArray, ← hl]
      rw [Bool.eq_iff_iff, List.all_eq_true, List.all_eq_true]
      constructor
      · intro z x hx
        obtain ⟨i, hi, rfl⟩ := List.mem_iff_getElem.mp hx
        have := z i (List.mem_range.mpr hi)
        simpa [List.getD_eq_getElem?_getD, List.getElem?_eq_getElem hi] using this
      · intro z i hi
        have hi := List.mem_range.mp hi
        have := z _ (List.getElem_mem hi)
        simpa [List.getD_eq_getElem?_getD, List.getElem?_eq_getElem hi] using this
    rw [es]
    exact ⟨.bl (bs.all id), H, I.kept fun b o e => hk b o (fun z => by have := List.mem_singleton.mp z; rw [this] at e; exact absurd (Heap.lt_size e) (Nat.lt_irrefl _)) (Heap.get?_push_of_some _ e), rfl, q⟩
end
end L2

namespace L2
open PySem PySem.Spec PyProof.Rows

def compOkB (osc : Scope) (N : List Str) (scope : Scope) (N' : List Str) (nt : Nat) (caps : List Nat) : Bool :=
  decide (scope.kind = .function) && decide (∀ y ∈ scope.names, y.2 ≠ .cell) && decide (∀ y ∈ scope.names, y.2 = .local → scope.names.lookup y.1 = some .local) &&
  decide (∀ y ∈ scope.names, y.2 = .free → osc.names.lookup y.1 = some .cell ∨ osc.names.lookup y.1 = some .free) && decide (caps.map (fun j => N[j]?) = (N'.drop nt).map some) &&
  decide (∀ x ∈ N'.drop nt, scope.names.lookup x = some .free) && decide (nt ≤ N'.length) && decide N'.Nodup
theorem CompScope.of {osc : Scope} {N : List Str} {scope : Scope} {N' : List Str} {nt : Nat} {caps : List Nat} (h : compOkB osc N scope N' nt caps = true) : CompScope osc N scope N' nt caps := by
  unfold compOkB at h
  simp only [Bool.and_eq_true, decide_eq_true_eq] at h
  obtain ⟨⟨⟨⟨⟨⟨⟨a, b⟩, c⟩, d⟩, e⟩, f⟩, g⟩, i⟩ := h
  exact ⟨a, b, c, d, e, f, g, i⟩

section
variable {X : Cx} {tg : Expr}
end
theorem pg_nameC {X : Cx} {i : Nat} {x : Str} {pos : Pos} (N : List Str) (hN : N.Nodup) (hi : N[i]? = some x) (hx : X.env.scope.names.lookup x = some .local := by rfl) (hXN : X.N = N := by rfl) : PG X (.Name x pos) (gName i) :=
  pg_name (by rw [hXN]; exact hN) (by rw [hXN]; exact hi) (.inl hx) (.inr hx)

theorem bt_sum : bootBuiltins "sum" = some (.builtin "sum") := by decide +kernel
theorem bt_all : bootBuiltins "all" = some (.builtin "all") := by decide +kernel
theorem bt_len : bootBuiltins "len" = some (.builtin "len") := by decide +kernel
theorem bt_min : bootBuiltins "min" = some (.builtin "min") := by decide +kernel
theorem bt_isinstance : bootBuiltins "isinstance" = some (.builtin "isinstance") := by decide +kernel
theorem bt_list : bootBuiltins "list" = some (.type "list") := by decide +kernel
theorem bt_int : bootBuiltins "int" = some (.type "int") := by decide +kernel
theorem bt_bool : bootBuiltins "bool" = some (.type "bool") := by decide +kernel
theorem bt_set : bootBuiltins "set" = some (.type "set") := by decide +kernel
end L2

namespace L2
open PySem PySem.Spec PyProof.Rows
abbrev vints (ns : List Int) : List V := ns.map V.int
theorem iteD {p A B : Prop} [Decidable p] (h1 : p → A) (h2 : ¬ p → B) : if decide p = true then A else B := by
  by_cases h : p
  · rw [if_pos (decide_eq_true h)]
    exact h1 h
  · rw [if_neg (by rw [decide_eq_false h]; exact Bool.false_ne_true)]
    exact h2 h
theorem iteND {p A B : Prop} [Decidable p] (h1 : ¬ p → A) (h2 : p → B) : if (!decide p) = true then A else B := by
  by_cases h : p
  · rw [decide_eq_true h]
    exact iteF (h2 h)
  · rw [decide_eq_false h]
    exact iteT (h1 h)
theorem vint_eq {i j : Int} : (V.int i = V.int j) ↔ i = j := ⟨fun h => by cases h; rfl, fun h => by rw [h]⟩
theorem ints_get {ns : List Int} {i : Nat} {x : V} (h : (vints ns)[i]? = some x) : ∃ n, ns[i]? = some n ∧ x = V.int n := by
  rw [List.getElem?_map] at h
  cases e : ns[i]? with
  | none => rw [e] at h; cases h
  | some n => rw [e] at h; exact ⟨n, rfl, (Option.some.inj h).symm⟩
theorem ints_mem {ns : List Int} {x : V} (h : x ∈ vints ns) : ∃ n, n ∈ ns ∧ x = V.int n := by
  obtain ⟨n, hn, e⟩ := List.mem_map.mp h
  exact ⟨n, hn, e.symm⟩
theorem ints_len (ns : List Int) : (vints ns).length = ns.length := List.length_map ..
theorem ints_at {ns : List Int} {k : Nat} (h : k < ns.length) : atI (vints ns) (k : Int) = some (V.int (ns[k])) := by
  refine atI_nat ?_
  rw [List.getElem?_map, List.getElem?_eq_getElem h]
  rfl
/-- a list of lists of vints, tracked -/
def Rows (H : Hp) (as : List Addr) (rs : List (List Int)) : Prop := Paired (fun (a : Addr) (r : List Int) => H a = some (.lst (vints r))) as rs
theorem Rows.same {H H' : Hp} {as : List Addr} {rs : List (List Int)} (h : Rows H as rs) (S : Same H H') : Rows H' as rs := Paired.mapP h fun a r e => S _ _ e
theorem Rows.snoc {H : Hp} {as : List Addr} {rs : List (List Int)} {a : Addr} {r : List Int} (h : Rows H as rs) (e : H a = some (.lst (vints r))) : Rows H (as ++ [a]) (rs ++ [r]) := Paired.snoc h e
theorem Rows.length {H : Hp} {as : List Addr} {rs : List (List Int)} (h : Rows H as rs) : as.length = rs.length := Paired.length h
theorem Paired.getL {α β : Type} {F : α → β → Prop} : ∀ {l₁ : List α} {l₂ : List β} {i : Nat} {a : α}, Paired F l₁ l₂ → l₁[i]? = some a → ∃ b, l₂[i]? = some b ∧ F a b
  | _, _, _, _, .nil, e => by simp at e
  | _, _, 0, _, .cons r _, e => by simp at e; subst e; exact ⟨_, rfl, r⟩
  | _, _, i + 1, a, .cons _ t, e => by
    obtain ⟨u, h1, h2⟩ := Paired.getL (i := i) (a := a) t (by simpa using e)
    exact ⟨u, by simpa using h1, h2⟩
theorem small70 {n : Nat} (h : n ≤ 70) : n < sizeLine := Nat.lt_of_le_of_lt h (by decide)
end L2
namespace L2
open PySem PySem.Spec PyProof.Rows
theorem bits_of_lt {x : Int} {n : Nat} (h : x.natAbs < 2 ^ n) : Builtin.Int.intBits x ≤ n := by
  unfold Builtin.Int.intBits
  split
  · exact Nat.zero_le _
  · rename_i h0
    have hx : x.natAbs ≠ 0 := fun e => h0 (by
      have : x = 0 := Int.natAbs_eq_zero.mp e
      rw [this]; rfl)
    exact (Nat.log2_lt hx).mpr h
def CMulB (i j : Int) : Prop := i.natAbs < 2 ^ 1000 ∧ j.natAbs < 2 ^ 1000
theorem op_mulB {X : Cx} : OpR X (binaryOp .Mult) (rI CMulB fun i j => .int (i * j)) := opI fun _ _ _ _ _ _ _ hc q =>
  mul_int q (.of_bits (Nat.le_trans (bits_of_lt hc.1) (by decide)) (Nat.le_trans (bits_of_lt hc.2) (by decide)))
theorem p70 {n : Nat} (h : n < 10 ^ 70) : n < 2 ^ 1000 := Nat.lt_of_lt_of_le h (by decide +kernel)
theorem zip_ints {f : Int → Int → Int} {g : V → V → V} (h : ∀ i j, g (.int i) (.int j) = .int (f i j)) : ∀ (xs ys : List Int), List.zipWith g (vints xs) (vints ys) = vints (List.zipWith f xs ys)
  | [], _ => rfl
  | _ :: _, [] => rfl
  | x :: xs, y :: ys => by
    show g (.int x) (.int y) :: List.zipWith g (vints xs) (vints ys) = .int (f x y) :: vints (List.zipWith f xs ys)
    rw [h, zip_ints h]
def gInt (f : Int → Int → Int) : V → V → V
  | .int i, .int j => .int (f i j)
  | _, _ => .non
theorem at_place {xs : List Int} {z i : Nat} (hx : xs.length = z) (hi : i < z) : atI (vints xs) (0 + (i : Int)) = some (V.int (xs.getD i 0)) := by
  subst hx
  rw [Int.zero_add, ints_at hi]
  simp [List.getD_eq_getElem?_getD, List.getElem?_eq_getElem hi]
def wsum (xs ys : List Int) : Int := (List.zipWith (fun i j => i * j) xs ys).sum
end L2
namespace L2
open PySem PySem.Spec PyProof.Rows
/-- at each place no greater -/
def bn (xs ys : List Int) : Bool := (List.zipWith (fun i j => decide (i ≤ j)) xs ys).all id
end L2
namespace L2
open PySem PySem.Spec PyProof.Rows
theorem vints_snoc (ns : List Int) (n : Int) : vints (ns ++ [n]) = vints ns ++ [V.int n] := by rw [vints, List.map_append]; rfl
theorem vrefs_snoc (as : List Addr) (a : Addr) : (as ++ [a]).map V.ref = as.map V.ref ++ [V.ref a] := by rw [List.map_append]; rfl
theorem Rows.apart {H : Hp} {as : List Addr} {rs : List (List Int)} {p : Addr} (R : Rows H as rs) (h : H p = some (.lst (as.map V.ref))) : ∀ b ∈ as, b ≠ p := fun b hb z => by
  subst z
  obtain ⟨k, hk, e1⟩ := List.mem_iff_getElem.mp hb
  obtain ⟨r, _, e2⟩ := Paired.getL R (List.getElem?_eq_some_iff.mpr ⟨hk, e1⟩)
  rw [h] at e2
  have e3 : as.map V.ref = vints r := by injection (Option.some.inj e2)
  have e4 : (as.map V.ref)[k]? = (vints r)[k]? := by rw [e3]
  rw [List.getElem?_map, List.getElem?_map, List.getElem?_eq_getElem hk] at e4
  cases q : r[k]? with
  | none => rw [q] at e4; cases e4
  | some n => rw [q] at e4; cases e4
theorem Rows.mem {H : Hp} {as : List Addr} {rs : List (List Int)} {b : Addr} (R : Rows H as rs) (hb : b ∈ as) : ∃ r, r ∈ rs ∧ H b = some (.lst (vints r)) := by
  obtain ⟨k, hk, e1⟩ := List.mem_iff_getElem.mp hb
  obtain ⟨r, h1, e2⟩ := Paired.getL R (List.getElem?_eq_some_iff.mpr ⟨hk, e1⟩)
  exact ⟨r, List.mem_of_getElem? h1, e2⟩
def mx (i j : Int) : Int := if j > i then j else i
/-- a block of statements behind which one thing holds on every way -/
theorem seq_join {t rest : TS} {D : Ends} {σ : St} {H : Hp} (I : St → Hp → Prop) (tl : ∀ σ' H', I σ' H' → rest D σ' H') (hd : ∀ N : St → Hp → Prop, (∀ σ' H', I σ' H' → N σ' H') → t { D with nx := N } σ H) : tSeq t rest D σ H := hd _ tl
theorem refs_get {as : List Addr} {i : Nat} {x : V} (h : (as.map V.ref)[i]? = some x) : ∃ b, as[i]? = some b ∧ x = V.ref b := by
  rw [List.getElem?_map] at h
  cases e : as[i]? with
  | none => rw [e] at h; cases h
  | some b => rw [e] at h; exact ⟨b, rfl, (Option.some.inj h).symm⟩
theorem strs_get {as : List Str} {i : Nat} {x : V} (h : (as.map V.str)[i]? = some x) : ∃ b, as[i]? = some b ∧ x = V.str b := by
  rw [List.getElem?_map] at h
  cases e : as[i]? with
  | none => rw [e] at h; cases h
  | some b => rw [e] at h; exact ⟨b, rfl, (Option.some.inj h).symm⟩
end L2

namespace L2
open PySem PySem.Spec PyProof.Rows PySem.SeqAt
section
variable {X : Cx} {pins : List (Addr × Obj)} {σ : St} {H : Hp} {s : Shared} {A : Around} {a b : Addr} {xs ys : List Int}
def memR (xs : List Int) (rs : List (List Int)) : Bool := rs.any fun r => decide (r = xs)
end
end L2

namespace L2
open PySem PySem.Spec PyProof.Rows
/-- the first place -/
def ix (x : List Int) : List (List Int) → Nat
  | [] => 0
  | y :: l => if y = x then 0 else ix x l + 1
def isOut (R : List Int → List Int → Bool) (all : List (List Int)) (r : List Int) : Bool := all.all fun o => decide (o = r) || !R r o
def step (R : List Int → List Int → Bool) (all acc : List (List Int)) (r : List Int) : List (List Int) := if !memR r acc && isOut R all r then acc ++ [r] else acc
section
variable {R : List Int → List Int → Bool} {all : List (List Int)}
end
end L2
namespace L2
open PySem PySem.Spec PyProof.Rows
section
variable {X : Cx} {CX : CXT} {k i : Nat} {f : Addr} {fd : FuncData} {ps : List Str} {sp : Sp} {dvs : List V} {ds : List Value} {E : XK} {x : Str} {p pos : Pos} {e : Expr} {es : List Expr} {t : TA}
end
end L2

namespace L2
open PySem PySem.Spec PyProof.Rows

def put1 {κ : Type} [DecidableEq κ] (acc : List κ) (x : κ) : List κ := if x ∈ acc then acc else acc ++ [x]
def metK {κ : Type} [DecidableEq κ] (val : Nat → κ) : Nat → List κ
  | 0 => []
  | i + 1 => put1 (metK val i) (val i)
theorem metK_le {κ : Type} [DecidableEq κ] (val : Nat → κ) : ∀ i, (metK val i).length ≤ i
  | 0 => Nat.le_refl _
  | i + 1 => by
    have ih := metK_le val i
    unfold metK put1
    split
    · omega
    · rw [List.length_append, List.length_singleton]; omega
theorem metK_mem {κ : Type} [DecidableEq κ] (val : Nat → κ) : ∀ (i : Nat) (x : κ), x ∈ metK val i ↔ ∃ j, j < i ∧ val j = x
  | 0, x => ⟨fun h => (by cases h), fun ⟨j, h, _⟩ => absurd h (Nat.not_lt_zero _)⟩
  | i + 1, x => by
    have ih := metK_mem val i
    have e : x ∈ metK val (i + 1) ↔ x ∈ metK val i ∨ x = val i := by
      show x ∈ put1 (metK val i) (val i) ↔ _
      unfold put1
      split
      · rename_i h
        exact ⟨.inl, fun q => q.elim id fun z => z ▸ h⟩
      · rw [List.mem_append, List.mem_singleton]
    rw [e, ih x]
    constructor
    · rintro (⟨j, h, e⟩ | e)
      · exact ⟨j, by omega, e⟩
      · exact ⟨i, by omega, e.symm⟩
    · rintro ⟨j, h, e'⟩
      rcases Nat.lt_succ_iff_lt_or_eq.mp h with q | q
      · exact .inl ⟨j, q, e'⟩
      · subst q; exact .inr e'.symm
/-- as many as there are, where no two are alike -/
theorem metK_all {κ : Type} [DecidableEq κ] (val : Nat → κ) : ∀ n, (∀ i j, i < n → j < n → val i = val j → i = j) → (metK val n).length = n
  | 0, _ => rfl
  | n + 1, h => by
    have ih := metK_all val n fun i j hi hj e => h i j (by omega) (by omega) e
    have nm : val n ∉ metK val n := fun q => by
      obtain ⟨j, hj, e⟩ := (metK_mem val n _).mp q
      have := h j n (by omega) (by omega) e
      omega
    show (put1 (metK val n) (val n)).length = n + 1
    unfold put1
    rw [if_neg nm, List.length_append, ih]
    rfl
abbrev setO (led : Bool) : Obj := { cls := .type "set", dict := none, data := .set #[] 0 (.fresh 0 0 led) }
section
variable {prog : Program} {w : World} {A : Around} {R : Result → Shared → Prop} {I : Addr} {fp wr : List Addr} {G : Array GenState → Array GenState → Prop} {n : Nat} {P : Nat → Value → Prop} {St : Nat → Shared → Prop}
variable {κ : Type} [DecidableEq κ] {knd : PySem.KeyKind prog w κ}
theorem setOf_as {h : Heap} {a : Addr} {S S' : κ → Bool} {n n' : Nat} (hS : h.SetOf knd a S n) (e : ∀ k, S k = S' k) (en : n = n') : h.SetOf knd a S' n' := by
  have q : S = S' := funext e
  rw [← q, ← en]
  exact hS
theorem set_loop (W : WalksS prog w A.in1 I fp wr G n P St) (S : Addr) (hSf : S ∉ fp) (val : Nat → κ) (hval : ∀ i v, P i v → knd.is (val i) v = true ∧ v.scannable = true) (hb : n + 1 < scanBound) :
    ∀ (k i : Nat) (s : Shared), n - i = k → i ≤ n → St i s → s.heap.SetOf knd S (fun x => decide (x ∈ metK val i)) (metK val i).length →
      (∀ s', Moved (S :: wr) G s s' → s'.heap.SetOf knd S (fun x => decide (x ∈ metK val n)) (metK val n).length → R (.ok (.ret .none)) s') →
      codeAny (model prog w) A (.builtin "set.update.loop" ⟨[.ref S, .ref I], []⟩) R s := by
  have nw : S ∉ wr := fun z => hSf (W.sub _ z)
  have sub : ∀ b ∈ wr, b ∈ S :: wr := fun b z => List.mem_cons_of_mem _ z
  intro k
  induction k with
  | zero =>
    intro i s hk hi st hS fin
    obtain rfl : i = n := by omega
    refine codeAny_builtin PyProof.Rows.F.entry_set_update_loop ?_
    rw [Around.under_plainId PyProof.Rows.F.plain_set_update_loop _]
    show wpAny _ A.in1 (pyNext (.ref I) >>= _) _ _ s
    refine wpAny_bind (W.done s _ _ st fun s' mv => ?_)
    show wpAny _ A.in1 (ret Value.none) _ _ s'
    obtain ⟨o, es, ep, t, ho, more⟩ := hS
    exact wpAny_pure (fin s' (mv.mono sub) ⟨o, es, ep, t, mv.heap S _ nw ho, more⟩)
  | succ k ih =>
    intro i s hk hi st hS fin
    have lt : i < n := by omega
    refine codeAny_builtin PyProof.Rows.F.entry_set_update_loop ?_
    rw [Around.under_plainId PyProof.Rows.F.plain_set_update_loop _]
    show wpAny _ A.in1 (pyNext (.ref I) >>= _) _ _ s
    refine wpAny_bind (W.item i s _ _ lt st fun v s' pv st' mv => ?_)
    obtain ⟨kv, sv⟩ := hval i v pv
    have hS1 : s'.heap.SetOf knd S (fun x => decide (x ∈ metK val i)) (metK val i).length := by
      obtain ⟨o, es, ep, tb, ho, more⟩ := hS
      exact ⟨o, es, ep, tb, mv.heap S _ nw ho, more⟩
    show wpAny _ A.in1 (holding [v] (setAdd S v) >>= _) _ _ s'
    refine wpAny_bind (wpAny_holding ?_)
    unfold setAdd
    refine wpAny_holding (wpAny_bind (knd.pyHash (k := val i) kv ?_))
    have room : (metK val i).length + 1 < scanBound := by have := metK_le val i; omega
    refine wpAny_setAddHashed_of (knd := knd) (s := { s' with toks := s'.toks + 1 }) kv sv hS1 room fun h' sb hS2 => ?_
    have hS3 : h'.SetOf knd S (fun x => decide (x ∈ metK val (i + 1))) (metK val (i + 1)).length := by
      refine setOf_as hS2 (fun x => ?_) ?_
      · show (decide (x ∈ metK val i) || decide (x = val i)) = decide (x ∈ put1 (metK val i) (val i))
        unfold put1
        split
        · rename_i hm
          by_cases e : x = val i
          · subst e; simp [hm]
          · simp [e]
        · simp
      · show (if decide (val i ∈ metK val i) = true then _ else _) = (put1 (metK val i) (val i)).length
        unfold put1
        by_cases hm : val i ∈ metK val i
        · rw [if_pos hm, if_pos (decide_eq_true hm)]
        · rw [if_neg hm, if_neg (by simp [hm]), List.length_append]; rfl
    refine wpAny_pure ⟨plainId_quiet PyProof.Rows.F.plain_set_update_loop _, ih (i + 1) _ (by omega) lt (W.frame _ s' _ _ st' (Nat.le_succ _) fun b hb o e => ?_) hS3 fun s2 mv2 hS4 => ?_⟩
    · rw [sb.2 b (fun z : b = S => hSf (z ▸ hb))]; exact e
    · refine fin s2 (Moved.trans W.gtrans ((mv.mono sub).then_heap (Nat.le_succ _) fun b o hb e => ?_) mv2) hS4
      rw [sb.2 b (fun z : b = S => hb (z ▸ List.mem_cons_self))]; exact e
end
section
variable {prog : Program} {w : World} {A : Around} {E : Value → Shared → Prop} {s : Shared} {κ : Type} [DecidableEq κ] {knd : PySem.KeyKind prog w κ}
set_option maxHeartbeats 3200000 in
theorem set_from {l : Addr} {items : Array Value} {val : Nat → κ} {Q : Value → Shared → Prop} (hh : A.handled = none) (hl : s.heap.IsList l items) (hval : ∀ i v, items[i]? = some v → knd.is (val i) v = true ∧ v.scannable = true) (hb : items.size + 1 < scanBound)
    (h : ∀ (h' : Heap) (tk : Nat), h'.SetOf knd s.heap.objs.size (fun x => decide (x ∈ metK val items.size)) (metK val items.size).length → (∀ b o, b < s.heap.objs.size → s.heap.get? b = some o → h'.get? b = some o) →
      Q (.ref s.heap.objs.size) { s with heap := h', toks := tk }) : wpAny (model prog w) A (call (.type "set") [.ref l]) Q E s := by
  obtain ⟨c, tl, hmro⟩ := PySem.F.called_set.mro
  have hmade := PySem.F.called_set.made
  have hsub := PySem.F.called_set.sub
  refine wpAny_call (codeAny_of_tree ?_)
  show wpAny _ _ (callAny (.type "set") _) _ _ _
  refine wpAny_pure ⟨Code.quiet_builtin _ (by decide +kernel), codeAny_builtin PySem.F.entry_type_call ?_⟩
  rw [Around.under_plain (weight_type_call_type "set" [.ref l] []) rfl]
  have g1 := PySem.F.called_set.notType
  have g2 := PySem.F.called_set.canCreate
  have g3 := PySem.F.typeCall_set_1 (.ref l)
  repeat (any_goals (first | assumption | wp_step))
  refine codeAny_mono (code_set_new_1 (.ref l) (E := E) (Q₁ := fun obj s₁ => ∃ led : Bool, obj = .ref s.heap.objs.size ∧ s₁ = { s with heap := s.heap.push (setO led) }) fun led => ⟨led, rfl, rfl⟩) fun r s₁ hr => ?_
  cases r with
  | error e => exact hr
  | ok fl =>
    cases fl with
    | ret obj =>
      obtain ⟨led, rfl, rfl⟩ := hr
      have at0 : (s.heap.push (setO led)).get? s.heap.objs.size = some (setO led) := Heap.get?_push_size _ rfl
      have hT : Shared.TypeIs { s with heap := s.heap.push (setO led) } (.ref s.heap.objs.size) "set" := ⟨_, at0, rfl⟩
      have g4 := PySem.F.called_set.init.lookup
      have g5 := PySem.F.called_set.init.bind (.ref s.heap.objs.size)
      repeat (any_goals (first | assumption | wp_step))
      refine codeAny_mono (codeAny_call_builtin (R := wants (fun r s₂ => r = .none ∧ ∃ h' tk, s₂ = { s with heap := h', toks := tk } ∧ h'.SetOf knd s.heap.objs.size (fun x => decide (x ∈ metK val items.size)) (metK val items.size).length ∧
          (∀ b o, b < s.heap.objs.size → s.heap.get? b = some o → h'.get? b = some o)) E) PySem.F.called_set.init.plain PySem.F.entry_set_init (check_set_init_1 hT ?_)) fun r₂ s₂ hr₂ => ?_
      · obtain ⟨⟨ocls, odict, odata, oslots⟩, hol, hcl, nl, hdl⟩ := hl
        simp only at hcl hdl
        subst hcl; subst hdl
        have hol' : (s.heap.push (setO led)).get? l = some { cls := .type "list", dict := odict, data := .seq items nl, slots := oslots } := Heap.get?_push_of_some _ hol
        have k1 := PySem.F.sub_list_set
        have k2 := PySem.F.sub_list_frozenset
        have k3 : (Value.type "list" == Value.type "dict") = false := by decide
        have hl1 : (s.heap.push (setO led)).IsList l items := ⟨_, hol', rfl, nl, rfl⟩
        unfold Builtin.«set.__init__» noKeywords Builtin.Frozenset.updateFrom
        generalize hPI : pyIter = PI
        wp_walk
        subst hPI
        refine wpAny_pyIter_list hl1 (wpAny_bind (wpAny_runValue ?_))
        have ll : l < s.heap.objs.size := Heap.lt_size hol
        have h3 : A.in1.in1.in1.handled = none := by simp [hh]
        have nI : l ≠ (s.heap.push (setO led)).objs.size := by
          rw [Heap.size_push]
          exact Nat.ne_of_lt (Nat.lt_succ_of_lt ll)
        have nS : s.heap.objs.size ∉ [(s.heap.push (setO led)).objs.size, l] := by
          rw [Heap.size_push, List.mem_cons, List.mem_singleton, not_or]
          exact ⟨Nat.ne_of_lt (Nat.lt_succ_self _), Nat.ne_of_gt ll⟩
        refine set_loop (knd := knd) ((Walks.list h3 _ l nI items).toS) s.heap.objs.size nS val hval hb (items.size - 0) 0 _ (by omega) (Nat.zero_le _) ⟨⟨_, Heap.get?_push_size _ rfl, rfl, rfl⟩, (hl1.push _)⟩ ?hS0 ?hR
        case hS0 =>
          have at1 : ((s.heap.push (setO led)).push { cls := .type "list_iterator", data := .fields #[.ref l, .int 0 0] }).get? s.heap.objs.size = some (setO led) := Heap.get?_push_of_some _ at0
          exact setOf_as ((PyProof.Rows.setObjOf_fresh (knd := knd) led).setOf at1 (by unfold scanBound; omega)) (fun _ => by simp [metK]) rfl
        case hR =>
          intro s' mv hS'
          obtain ⟨h', g', d', tk', os'⟩ := s'
          obtain rfl : g' = s.gens := mv.gens
          obtain rfl : d' = s.drawn := mv.drawn
          obtain rfl : os' = s.os := mv.os
          show wpAny _ _ _ _ _ _
          refine wpAny_pure ?_
          show wpAny _ _ (ret Value.none) _ _ _
          refine wpAny_pure ⟨rfl, h', tk', rfl, hS', fun b o hb e => mv.heap b o ?_ (Heap.get?_push_of_some _ (Heap.get?_push_of_some _ e))⟩
          rw [List.mem_cons, List.mem_singleton, Heap.size_push, not_or]
          exact ⟨Nat.ne_of_lt hb, Nat.ne_of_lt (Nat.lt_succ_of_lt hb)⟩
      · cases r₂ with
        | error e => exact hr₂
        | ok fl₂ =>
          cases fl₂ with
          | ret r =>
            obtain ⟨rfl, h', tk, rfl, hS', hk'⟩ := hr₂
            repeat (any_goals (first | assumption | wp_step))
            exact h _ _ hS' hk'
          | _ => exact hr₂.elim
    | _ => exact hr.elim
end
end L2

namespace L2
open PySem PySem.Spec PyProof.Rows
def setHO (P : Program) (w : World) (p : Addr) (n : Nat) : HO := .ext fun h => ∃ S, h.SetOf (strKind P w) p S n
def metS (ys : List Str) : Nat := (metK (fun i => ys.getD i Str.empty) ys.length).length
theorem metS_all {ys : List Str} (h : ys.Nodup) : metS ys = ys.length := by
  refine metK_all _ _ fun i j hi hj e => ?_
  simp only [List.getD_eq_getElem?_getD, List.getElem?_eq_getElem hi, List.getElem?_eq_getElem hj, Option.getD_some] at e
  exact (List.getElem_inj h).mp e
section
variable {X : Cx}
theorem call_set_strs (hc : X.calm = true) : CallR X (.type "set") (fun xs H Q => ∃ (a : Addr) (ys : List Str), xs = [.ref a] ∧ SqL X.K H a (ys.map V.str) ∧ ys.length ≤ 70 ∧ ∀ p, H p = none → Q (.ref p) (upd H p (setHO X.prog X.w p (metS ys)))) := by
  intro pins s σ H xs us Q I r h
  obtain ⟨a, ys, e, hq, hl, q⟩ := h
  subst e
  obtain ⟨u, rfl, r1⟩ := vals1 r
  obtain rfl : u = Value.ref a := r1
  obtain ⟨its, rv, p, hz⟩ := I.list hq
  have len := rv.length
  rw [List.length_map] at len
  refine set_from (knd := strKind X.prog X.w) (val := fun i => ys.getD i Str.empty) (I.ok.hd hc) p.isList (fun i v hv => ?_) (by rw [List.size_toArray, ← len]; unfold scanBound; omega) fun h' tk hS hk => ?_
  · have hv' : its[i]? = some v := by simpa using hv
    have hi : i < ys.length := by rw [len]; exact (List.getElem?_eq_some_iff.mp hv').1
    have hx : (ys.map V.str)[i]? = some (V.str (ys.getD i Str.empty)) := by
      rw [List.getElem?_map, List.getElem?_eq_getElem hi]
      simp [List.getD_eq_getElem?_getD, List.getElem?_eq_getElem hi]
    obtain ⟨u, hu, ru⟩ := rv.get hx
    rw [hv'] at hu
    cases hu
    obtain ⟨t, rfl⟩ := ru
    exact ⟨keyIs_str _ t, rfl⟩
  · have es : its.toArray.size = ys.length := by rw [List.size_toArray, len]
    rw [es] at hS
    have I1 : Inv X pins σ H { s with heap := h', toks := tk } := I.kept fun b o e => hk b o (Heap.lt_size e) e
    have I2 := I1.track (o := setHO X.prog X.w s.heap.objs.size (metS ys)) (I.fpOk (Nat.le_refl _) (I.hok.fresh (Nat.le_refl _))) ⟨⟨_, hS⟩, (by obtain ⟨o, _, _, _, ho, _⟩ := hS; exact ⟨o, ho⟩), fun h1 h2 ⟨S, hS1⟩ k => (by
      obtain ⟨o, es, ep, t, ho, more⟩ := hS1
      exact ⟨S, o, es, ep, t, k o ho, more⟩)⟩
    exact ⟨.ref s.heap.objs.size, _, I2, rfl, q _ (I.hok.fresh (Nat.le_refl _))⟩
theorem call_len_setS : CallR X (.builtin "len") (fun xs H Q => ∃ (p : Addr) (n : Nat), xs = [.ref p] ∧ H p = some (setHO X.prog X.w p n) ∧ Q (.int n) H) := by
  intro pins s σ H xs us Q I r h
  obtain ⟨p, n, e, hp, q⟩ := h
  subst e
  obtain ⟨u, rfl, r1⟩ := vals1 r
  obtain rfl : u = Value.ref p := r1
  obtain ⟨⟨S, o, es, ep, t, ho, hex, hd, _, _, hb, hf, hn⟩, _⟩ := I.hok p _ hp
  have hb' : (es.size : Int) < 2 ^ 63 := by unfold scanBound at hb; omega
  refine call_len_set ho hex hd hf hb' ?_
  rw [hn]
  exact ⟨.int n, H, I.tok _, ⟨_, rfl⟩, q⟩

def Itx (x : Str) : It := ⟨fun i _ => i < x.cps.size, fun i H v H' => H' = H ∧ ∃ c, x.cps[i]? = some c ∧ v = .str ⟨#[c]⟩, fun i _ => x.cps.size ≤ i⟩
theorem turn_str {P : Program} {w : World} {K : PySem.W.Frag} {tg : Expr} (it : Addr) (x : Str) (t : Tok) : Turn P w K tg (Itx x) [it] it (fun i h => i ≤ x.cps.size ∧ h.IsStrIter it "str_ascii_iterator" x t i) where
  mem := by simp
  obj := fun i h st b hb => by
    have e : b = it := by simpa using hb
    subst e
    obtain ⟨_, o, e, c, d⟩ := st
    exact ⟨o, e, fun v z => by rw [d] at z; cases z⟩
  keep := fun i h h' st k => let ⟨l, o, e, r⟩ := st; ⟨l, o, k it (by simp) o e, r⟩
  item := by
    intro X hP hw hK hc i pins s σ H E I hf st hg
    subst hP hw hK
    obtain ⟨f0, f1, f2, f3, f4, f5⟩ := hf it (by simp)
    have hi : i < x.cps.size := hg
    refine (Walks.strAscii (prog := X.prog) (w := X.w) (I.ok.hd hc) it x t).item i s _ _ hi st.2 fun v h' tk hv st' kk => ?_
    obtain ⟨c, u, hcx, rfl⟩ := hv
    have I1 : Inv X pins σ H { s with heap := h', toks := tk } := I.turned (fun b o hb e => kk b o (by simpa using hb) e) f0 f1 f3 f4 f5
    obtain ⟨o, e, c', d⟩ := id st'
    exact ⟨_, rfl, go_of (s := { s with heap := h', toks := tk }) e c' d (by decide) ⟨.str ⟨#[c]⟩, H, I1, ⟨_, rfl⟩, ⟨rfl, c, hcx, rfl⟩, ⟨hi, st'⟩, fun b hb => (hf b hb).1⟩⟩
  done := by
    intro X hP hw hK hc i pins s σ H E I hf st hg
    subst hP hw hK
    obtain ⟨f0, f1, f2, f3, f4, f5⟩ := hf it (by simp)
    have hi : x.cps.size ≤ i := hg
    obtain ⟨hle, st⟩ := st
    have e : i = x.cps.size := by omega
    subst e
    exact (Walks.strAscii (prog := X.prog) (w := X.w) (I.ok.hd hc) it x t).done s _ _ st fun h' tk kk => ⟨rfl, I.turned (fun b o hb e => kk b o (by simpa using hb) e) f0 f1 f3 f4 f5⟩
  self := fun _ _ _ _ _ st h => wpAny_pyIter_striter_ascii st.2 h
def iStr (tl : TE) : TI := fun σ H R => tl σ H fun v H1 => ∃ x : Str, v = .str x ∧ x.cps.all (· < 128) = true ∧ R (Itx x) H1
theorem pi_str {tg l : Expr} {tl : TE} (hl : PE X l tl) : PI X tg l (iStr tl) := by
  intro pins s σ H R I h
  refine thn (hl pins s σ H _ I h) fun v s1 ⟨y, H1, I1, r1, q1⟩ => ?_
  obtain ⟨x, e, ha, q⟩ := q1
  subst e
  obtain ⟨t, rfl⟩ := r1
  refine wpAny_pyIter_ascii ha ?_
  refine ⟨s1.heap.objs.size, [s1.heap.objs.size], _, _, H1, rfl, I1.kept (t' := s1.toks) fun b o e => Heap.get?_push_of_some _ e, turn_str _ x t, ⟨Nat.zero_le _, _, Heap.get?_push_size _ rfl, rfl, rfl⟩, fun b hb => ?_, q⟩
  have e : b = s1.heap.objs.size := by simpa using hb
  subst e
  exact I1.fpOk (Nat.le_refl _) (I1.hok.fresh (Nat.le_refl _))
theorem comp_strP {g : Blk → TG} {tt : Blk → TT} {te : Blk → TE} {Z : List V → Hp → Prop} {σ0 : St} {H1 : Hp} {x : Str} (Pv : Nat → List V → St → Hp → Prop) (h0 : Pv 0 [] σ0 H1) (hl : ∀ i ys σ H, i ≤ x.cps.size → Pv i ys σ H → ys.length < sizeLine)
    (hs : ∀ B i c ys σ H, x.cps[i]? = some c → Pv i ys σ H → g B (.str ⟨#[c]⟩) σ H fun σ2 H3 => tt B σ2 H3 fun b H4 => if b = true then te B σ2 H4 fun y H5 => Pv (i + 1) (ys ++ [y]) σ2 H5 else Pv (i + 1) ys σ2 H4)
    (hd : ∀ ys σ H, Pv x.cps.size ys σ H → Z ys H) : ∃ W : Nat → Nat → List V → St → Hp → Prop, (∃ m, W 0 m [] σ0 H1) ∧ ∀ B, CompW (Itx x) (g B) (tt B) (te B) W Z := by
  refine ⟨fun i m ys σ H => m = x.cps.size - i ∧ i ≤ x.cps.size ∧ Pv i ys σ H, ⟨x.cps.size, by simp, Nat.zero_le _, h0⟩, ?_⟩
  rintro B i m ys σ H ⟨rfl, hi, p⟩
  by_cases hlt : i < x.cps.size
  · refine .inr ⟨hlt, hl i ys σ H hi p, Pv (i + 1), fun zs σ' H' p' => ⟨x.cps.size - (i + 1), by omega, rfl, hlt, p'⟩, fun v H' y => ?_⟩
    obtain ⟨e, c, hc, e2⟩ := y
    subst e e2
    exact hs B i c ys σ _ hc p
  · have e : i = x.cps.size := by omega
    subst e
    exact .inl ⟨Nat.le_refl _, hd ys σ H p⟩
theorem op_le_str : OpR X (compareOp .LtE) (fun x y H Q => ∃ i j, x = .str i ∧ y = .str j ∧ Q (.bl (!decide (j.cps.toList < i.cps.toList))) H) := by
  intro pins s σ H x y v u Q I rx ry h
  obtain ⟨i, j, rfl, rfl, q⟩ := h
  obtain ⟨t, rfl⟩ := rx
  obtain ⟨t', rfl⟩ := ry
  exact PySem.P.le_str ⟨.bl _, H, I, rfl, q⟩
end
def okSign (c : Nat) : Bool := decide (97 ≤ c) && decide (c ≤ 122)
def okName (x : Str) : Bool := decide (1 ≤ x.length) && decide (x.length ≤ 8) && x.cps.toList.all okSign
theorem le_one {c d : Nat} : (!decide (([d] : List Nat) < [c])) = decide (c ≤ d) := by
  have e : ([d] < [c]) ↔ d < c := by
    constructor
    · intro h
      cases h with
      | cons h => cases h
      | rel h => exact h
    · exact fun h => .rel h
  rw [Bool.eq_iff_iff, Bool.not_eq_true', decide_eq_false_iff_not, decide_eq_true_eq, e]
  omega
theorem okName_ascii {x : Str} (h : okName x = true) : x.cps.all (· < 128) = true := by
  unfold okName at h
  rw [Bool.and_eq_true] at h
  rw [← Array.all_toList, List.all_eq_true]
  intro c hc
  have := List.all_eq_true.mp h.2 c hc
  unfold okSign at this
  rw [Bool.and_eq_true, decide_eq_true_eq, decide_eq_true_eq] at this
  exact decide_eq_true (by omega)
end L2
namespace L2
open PySem PySem.Spec PyProof.Rows
structure NetV where
  bowls : List Str
  doors : List Str
  takes : List (List Int)
  gives : List (List Int)
  first : List Int
def okBag (n : Nat) (r : List Int) : Prop := r.length = n ∧ ∀ x ∈ r, 0 ≤ x ∧ x ≤ 1000000000
structure NetV.Ok (N : NetV) : Prop where
  b1 : 1 ≤ N.bowls.length
  b6 : N.bowls.length ≤ 6
  d8 : N.doors.length ≤ 8
  bn : ∀ y ∈ N.bowls, okName y = true
  dn : ∀ y ∈ N.doors, okName y = true
  bd : N.bowls.Nodup
  dd : N.doors.Nodup
  tl : N.takes.length = N.doors.length
  gl : N.gives.length = N.doors.length
  tk : ∀ r ∈ N.takes, okBag N.bowls.length r
  gv : ∀ r ∈ N.gives, okBag N.bowls.length r
  fs : okBag N.bowls.length N.first
abbrev nf1 (b : V) : List (Str × V) := [("bowls", b)]
abbrev nf2 (b d : V) : List (Str × V) := [("bowls", b), ("doors", d)]
abbrev nf3 (b d t : V) : List (Str × V) := [("bowls", b), ("doors", d), ("takes", t)]
abbrev nf4 (b d t g : V) : List (Str × V) := [("bowls", b), ("doors", d), ("takes", t), ("gives", g)]
abbrev nf5 (b d t g f : V) : List (Str × V) := [("bowls", b), ("doors", d), ("takes", t), ("gives", g), ("first", f)]
abbrev netF (b d t g f : Addr) : List (Str × V) := nf5 (.ref b) (.ref d) (.ref t) (.ref g) (.ref f)
abbrev vstrs (ys : List Str) : List V := ys.map V.str
structure NetIn (C : Addr) (H : Hp) (x dx b d t g f : Addr) (ts gs : List Addr) (N : NetV) : Prop where
  ob : H x = some (.ins C dx (netF b d t g f))
  hb : H b = some (.lst (vstrs N.bowls))
  hd : H d = some (.lst (vstrs N.doors))
  ht : H t = some (.lst (ts.map V.ref))
  tr : Rows H ts N.takes
  hg : H g = some (.lst (gs.map V.ref))
  gr : Rows H gs N.gives
  hf : H f = some (.lst (vints N.first))
theorem NetIn.same {C : Addr} {H H' : Hp} {x dx b d t g f : Addr} {ts gs : List Addr} {N : NetV} (n : NetIn C H x dx b d t g f ts gs N) (S : Same H H') : NetIn C H' x dx b d t g f ts gs N :=
  ⟨S _ _ n.ob, S _ _ n.hb, S _ _ n.hd, S _ _ n.ht, n.tr.same S, S _ _ n.hg, n.gr.same S, S _ _ n.hf⟩
/-- copies of the rows of a list of lists: [list(bag) for bag in rows] -/
theorem comp_copies {K : PySem.W.Frag} {K' : Blk → PySem.W.Frag} {Z : List V → Hp → Prop} {H1 : Hp} {a : Addr} {as : List Addr} {rs : List (List Int)} {τ : St} (hK : ∀ B, K' B = K) (ha : SqL K H1 a (as.map V.ref)) (R : Rows H1 as rs) (hn : rs.length ≤ 64)
    (hd : ∀ H2 bs, Same H1 H2 → Rows H2 bs rs → (∀ b ∈ bs, H1 b = none) → Z (bs.map V.ref) H2) :
    ∃ W : Nat → Nat → List V → St → Hp → Prop, (∃ m, W 0 m [] (none :: τ) H1) ∧ ∀ B : Blk, CompW (Itl K a) (gName 0) tTrue (tCB (rLstOf (K' B)) (tCons (tVar 0) tNil)) W Z := by
  have hal := R.length
  refine comp_listP (g := fun _ => gName 0) (tt := fun _ => tTrue) (K := K) (a := a) (xs := as.map V.ref) (fun i zs σ H4 => ∃ (o : Option V) (bs : List Addr), σ = o :: τ ∧ Same H1 H4 ∧ zs = bs.map V.ref ∧ Rows H4 bs (rs.take i) ∧ bs.length = i ∧ ∀ b ∈ bs, H1 b = none) ⟨none, [], rfl, Same.refl _, rfl, .nil, rfl, (fun b hb => by cases hb)⟩ ?_ ?_ ?_
  · rintro i zs σ H4 hi ⟨o, bs, rfl, S, rfl, RB, e, _⟩
    rw [List.length_map] at hi
    refine ⟨S.seq ha, ?_⟩
    rw [List.length_map]
    exact small70 (by omega)
  · rintro B i x zs σ H4 hx ⟨o, bs, rfl, S, rfl, RB, e, fr⟩
    obtain ⟨b, hb1, rfl⟩ := refs_get hx
    obtain ⟨r, hr1, hb⟩ := Paired.getL R hb1
    try dsimp only [gName, tTrue]
    rw [if_pos rfl]
    refine ⟨_, rfl, b, _, rfl, .inl (by rw [hK]; exact SqL.of (S _ _ hb)), fun q nq => ⟨_, bs ++ [q], rfl, S.upd nq, (vrefs_snoc _ _).symm, ?_, (by rw [List.length_append, e]; rfl), fun c hc => ?_⟩⟩
    · rw [List.take_add_one, hr1, Option.toList_some]
      exact (RB.same ((Same.refl H4).upd nq)).snoc upd_same
    · rcases List.mem_append.mp hc with z | z
      · exact fr c z
      · rw [List.mem_singleton.mp z]; exact S.free nq
  · rintro zs σ H4 ⟨o, bs, rfl, S, rfl, RB, e, fr⟩
    rw [List.length_map, hal, List.take_length] at RB
    exact hd H4 bs S RB fr
theorem all_map_sign (x : Str) : (x.cps.toList.map okSign).all id = x.cps.toList.all okSign := by
  rw [List.all_map]
  rfl
end L2
namespace L2
open PySem PySem.Spec PyProof.Rows
section
variable {b d t g f : V}
theorem put_n2 : putF "doors" d (nf1 b) = nf2 b d := by
  show (if (("bowls" : Str) = "doors") then _ else (("bowls" : Str), b) :: putF "doors" d []) = _
  rw [if_neg (by decide +kernel)]
  rfl
theorem put_n3 : putF "takes" t (nf2 b d) = nf3 b d t := by
  show (if (("bowls" : Str) = "takes") then _ else (("bowls" : Str), b) :: (if (("doors" : Str) = "takes") then _ else (("doors" : Str), d) :: putF "takes" t [])) = _
  rw [if_neg (by decide +kernel), if_neg (by decide +kernel)]
  rfl
theorem put_n4 : putF "gives" g (nf3 b d t) = nf4 b d t g := by
  show (if (("bowls" : Str) = "gives") then _ else (("bowls" : Str), b) :: (if (("doors" : Str) = "gives") then _ else (("doors" : Str), d) :: (if (("takes" : Str) = "gives") then _ else (("takes" : Str), t) :: putF "gives" g []))) = _
  rw [if_neg (by decide +kernel), if_neg (by decide +kernel), if_neg (by decide +kernel)]
  rfl
theorem put_n5 : putF "first" f (nf4 b d t g) = nf5 b d t g f := by
  show (if (("bowls" : Str) = "first") then _ else (("bowls" : Str), b) :: (if (("doors" : Str) = "first") then _ else (("doors" : Str), d) :: (if (("takes" : Str) = "first") then _ else (("takes" : Str), t) :: (if (("gives" : Str) = "first") then _ else (("gives" : Str), g) :: putF "first" f [])))) = _
  rw [if_neg (by decide +kernel), if_neg (by decide +kernel), if_neg (by decide +kernel), if_neg (by decide +kernel)]
  rfl
end
/-- all that was tracked is as it was, but for the object at x -/
def But (x : Addr) (H H' : Hp) : Prop := ∀ c u, H c = some u → c ≠ x → H' c = some u
theorem But.trans {x : Addr} {H H1 H2 : Hp} (a : But x H H1) (b : But x H1 H2) : But x H H2 := fun c u e n => b c u (a c u e n) n
theorem Same.but {x : Addr} {H H' : Hp} (S : Same H H') : But x H H' := fun c u e _ => S c u e
theorem But.step {x q : Addr} {H : Hp} {o o' : HO} (hq : H q = none) : But x H (upd (upd H q o) x o') := fun c u e n => by
  rw [upd_ne n, upd_ne (ne_of_none e hq)]
  exact e
theorem But.seq {K : PySem.W.Frag} {x : Addr} {C dx : Addr} {fs : List (Str × V)} {H H' : Hp} {c : Addr} {zs : List V} (k : But x H H') (hx : H x = some (.ins C dx fs)) (h : SqL K H c zs) : SqL K H' c zs := by
  rcases h with (h | ⟨o, h⟩) | h
  · exact .inl (.inl (k _ _ h (ne_of h hx (by intro z; cases z))))
  · exact .inl (.inr ⟨o, k _ _ h (ne_of h hx (by intro z; cases z))⟩)
  · exact .inr h
theorem But.rows {x : Addr} {C dx : Addr} {fs : List (Str × V)} {H H' : Hp} {as : List Addr} {rs : List (List Int)} (k : But x H H') (hx : H x = some (.ins C dx fs)) (R : Rows H as rs) : Rows H' as rs :=
  Paired.mapP R fun a r e => k _ _ e (ne_of e hx (by intro z; cases z))
theorem But.free {x : Addr} {C dx : Addr} {fs : List (Str × V)} {H H' : Hp} {q : Addr} {o : HO} (k : But x H H') (hx : H' x = some o) (hq : H' q = none) : H q = none := by
  cases e : H q with
  | none => rfl
  | some u =>
    have n : q ≠ x := Ne.symm (ne_of_none hx hq)
    rw [k q u e n] at hq
    cases hq
end L2

namespace L2
open PySem PySem.Spec PyProof.Rows PySem.Builtin.Str

section
variable {X : Cx}
end

def st (l : List Nat) : Str := ⟨l.toArray⟩
end L2
namespace L2
open PySem PySem.Spec PyProof.Rows
end L2

namespace L2
open PySem PySem.Spec PyProof.Rows
structure InsOk (K : PySem.W.Frag) (C : Addr) : Prop where
  ha : PySem.W.findIn K (.ref C) "__class__" = some (some (.builtin "object.__class__"))
  hn : PySem.W.specialIn K (.builtin "object.__class__") "__get__" = some (some (.builtin "getset_descriptor.__get__"))
  htk : PySem.W.takesIn K (.builtin "object.__class__") = some true
  hm : PySem.W.mroIn K C (.type "object") = some true
theorem InsOk.ty {K : PySem.W.Frag} {C : Addr} (i : InsOk K C) (cl : Cls K C) {H : Hp} {a dx : Addr} {fs : List (Str × V)} (e : H a = some (.ins C dx fs)) : TyOf K H (.ref a) (.ref C) := .ins e cl i.ha i.hn i.htk i.hm
structure PartsIn (H : Hp) (p b d t g f : Addr) (ts gs : List Addr) (N : NetV) : Prop where
  top : H p = some (.lst [.ref b, .ref d, .ref t, .ref g, .ref f])
  hb : H b = some (.lst (vstrs N.bowls))
  hd : H d = some (.lst (vstrs N.doors))
  ht : H t = some (.lst (ts.map V.ref))
  tr : Rows H ts N.takes
  hg : H g = some (.lst (gs.map V.ref))
  gr : Rows H gs N.gives
  hf : H f = some (.lst (vints N.first))
theorem PartsIn.same {H H' : Hp} {p b d t g f : Addr} {ts gs : List Addr} {N : NetV} (n : PartsIn H p b d t g f ts gs N) (S : Same H H') : PartsIn H' p b d t g f ts gs N :=
  ⟨S _ _ n.top, S _ _ n.hb, S _ _ n.hd, S _ _ n.ht, n.tr.same S, S _ _ n.hg, n.gr.same S, S _ _ n.hf⟩
theorem Rows.get : ∀ {H : Hp} {as : List Addr} {rs : List (List Int)} {i : Nat}, Rows H as rs → (h : i < rs.length) → ∃ a, as[i]? = some a ∧ H a = some (.lst (vints (rs[i])))
  | _, _, _, 0, .cons r _, _ => ⟨_, rfl, r⟩
  | H, _, _, i + 1, .cons _ rs, h => Rows.get (H := H) (i := i) rs (Nat.lt_of_succ_lt_succ h)
theorem rows_at {H : Hp} {as : List Addr} {rs : List (List Int)} {i : Nat} (R : Rows H as rs) (h : i < rs.length) : ∃ a, atI (as.map V.ref) (i : Int) = some (.ref a) ∧ H a = some (.lst (vints (rs[i]))) := by
  obtain ⟨a, e, ha⟩ := Rows.get R h
  refine ⟨a, atI_nat ?_, ha⟩
  rw [List.getElem?_map, e]
  rfl
theorem getD_at {xs : List Int} {k : Nat} (h : k < xs.length) : xs.getD k 0 = xs[k] := by
  rw [List.getD_eq_getElem?_getD, List.getElem?_eq_getElem h]
  rfl
end L2

namespace L2
open PySem PySem.Spec PyProof.Rows
structure CompScopeC (osc : Scope) (N : List Str) (scope : Scope) (N' : List Str) (nt : Nat) (caps : List Nat) : Prop where
  kind : scope.kind = .function
  cells : ∀ y ∈ scope.names, y.2 = .cell → scope.names.lookup y.1 = some .cell
  names : ∀ y ∈ scope.names, y.2 = .local → scope.names.lookup y.1 = some .local
  frees : ∀ y ∈ scope.names, y.2 = .free → osc.names.lookup y.1 = some .cell ∨ osc.names.lookup y.1 = some .free
  capt : caps.map (fun j => N[j]?) = (N'.drop nt).map some
  capf : ∀ x ∈ N'.drop nt, scope.names.lookup x = some .free
  len : nt ≤ N'.length
  nd : N'.Nodup
def compOkC (osc : Scope) (N : List Str) (scope : Scope) (N' : List Str) (nt : Nat) (caps : List Nat) : Bool :=
  decide (scope.kind = .function) && decide (∀ y ∈ scope.names, y.2 = .cell → scope.names.lookup y.1 = some .cell) && decide (∀ y ∈ scope.names, y.2 = .local → scope.names.lookup y.1 = some .local) &&
  decide (∀ y ∈ scope.names, y.2 = .free → osc.names.lookup y.1 = some .cell ∨ osc.names.lookup y.1 = some .free) && decide (caps.map (fun j => N[j]?) = (N'.drop nt).map some) &&
  decide (∀ x ∈ N'.drop nt, scope.names.lookup x = some .free) && decide (nt ≤ N'.length) && decide N'.Nodup
theorem CompScopeC.of {osc : Scope} {N : List Str} {scope : Scope} {N' : List Str} {nt : Nat} {caps : List Nat} (h : compOkC osc N scope N' nt caps = true) : CompScopeC osc N scope N' nt caps := by
  unfold compOkC at h
  simp only [Bool.and_eq_true, decide_eq_true_eq] at h
  obtain ⟨⟨⟨⟨⟨⟨⟨a, b⟩, c⟩, d⟩, e⟩, f⟩, g⟩, i⟩ := h
  exact ⟨a, b, c, d, e, f, g, i⟩
theorem cf_app : ∀ (names : List (Str × NameKind)) (n : Nat) (acc : List (Str × Addr)), cellsFrom n names acc = cellsFrom n names [] ++ acc
  | [], _, _ => rfl
  | (x, k) :: r, n, acc => by
    unfold cellsFrom
    split
    · rw [cf_app r (n + 1) ((x, n) :: acc), cf_app r (n + 1) [(x, n)], List.append_assoc]
      rfl
    · exact cf_app r n acc
theorem cf_mem : ∀ (names : List (Str × NameKind)) (n : Nat) {x : Str} {c : Addr}, (x, c) ∈ cellsFrom n names [] → n ≤ c ∧ (x, NameKind.cell) ∈ names
  | [], _, _, _, h => nomatch h
  | (y, k) :: r, n, x, c, h => by
    unfold cellsFrom at h
    split at h
    · rename_i hk
      rw [cf_app] at h
      rcases List.mem_append.mp h with q | q
      · obtain ⟨a, b⟩ := cf_mem r (n + 1) q
        exact ⟨by omega, List.mem_cons_of_mem _ b⟩
      · have e : (x, c) = (y, n) := List.mem_singleton.mp q
        cases e
        rw [show k = NameKind.cell from eq_of_beq hk]
        exact ⟨Nat.le_refl _, List.mem_cons_self ..⟩
    · obtain ⟨a, b⟩ := cf_mem r n h
      exact ⟨a, List.mem_cons_of_mem _ b⟩
abbrev cellsC (X : Cx) (scope : Scope) (C : Addr) : List (Str × Addr) := cellsFrom (C + 1) scope.names (closL X.env scope.names [])
theorem cells_sub {X : Cx} {scope : Scope} {C : Addr} {x : Str} {c : Addr} (h : (cellsC X scope C).lookup x = some c) : X.env.cells.lookup x = some c ∨ (C + 1 ≤ c ∧ (cellsFrom (C + 1) scope.names []).lookup x = some c) := by
  unfold cellsC at h
  rw [cf_app, List.lookup_append] at h
  cases q : (cellsFrom (C + 1) scope.names []).lookup x with
  | none =>
    rw [q] at h
    exact .inl (lookup_of_all closL_sub0 h)
  | some c' =>
    rw [q] at h
    cases (show c' = c from Option.some.inj h)
    exact .inr ⟨(cf_mem _ _ (PySem.mem_of_lookup q)).1, rfl⟩
theorem cells_cl {X : Cx} {scope : Scope} {C : Addr} {x : Str} {c : Addr} (h : (x, c) ∈ closL X.env scope.names []) : (x, c) ∈ cellsC X scope C := by
  unfold cellsC
  rw [cf_app]
  exact List.mem_append_right _ h
def cxCompC (X : Cx) (N' : List Str) (scope : Scope) (B : Blk) : Cx :=
  { X with N := N', s₀ := B.s, H₀ := B.H, env := compEnvC scope (cellsC X scope B.C) B.C X.env, outer := X.stack, ex := B.fp, fn := fun x => decide (scope.names.lookup x = some .cell), xe := fun _ _ => False }
theorem wpAny_compEnv {M : Model} {A : Around} {E : Value → Shared → Prop} {s : Shared} {scope : Scope} {globals : Addr} {cl : List (Str × Addr)} {qual : Str} {env : Env} {Q : Env → Shared → Prop}
    (hQ : ∀ h', h'.Ns s.heap.objs.size (fun _ => none) → (∀ b o, s.heap.get? b = some o → h'.get? b = some o) → (∀ x c, (x, c) ∈ cellsFrom (s.heap.objs.size + 1) scope.names [] → h'.IsCell c none) →
      (cellsFrom (s.heap.objs.size + 1) scope.names []).Pairwise (fun x y => x.2 ≠ y.2) →
      Q { scope := scope, locals := s.heap.objs.size, globals := globals, cells := cellsFrom (s.heap.objs.size + 1) scope.names cl, qual := qual, func := none, code := env.code, frame := env.frame, builtins := env.builtins } { s with heap := h' }) :
    wpAny M A (newFunctionEnv scope globals cl [] qual none .none (some env)) Q E s := by
  simp only [newFunctionEnv, Option.isSome_some, if_true]
  refine wpAny_bind (wpAny_alloc ?_)
  refine wpAny_bind (wpAny_layCells _ (fun name kind cells => by cases hkc : kind == NameKind.cell <;> simp [hkc]) _ _ _ _ ?_)
  have ok := cellsFrom_ok scope.names (s.heap.push { cls := .type "dict", data := .dict #[] }) (s.heap.objs.size + 1) [] ⟨fun _ _ hm => (nomatch hm), List.Pairwise.nil⟩ (by rw [Heap.size_push]; exact Nat.le_refl _)
  rw [Heap.size_push] at ok
  rw [show ({ s with heap := s.heap.push { cls := .type "dict", data := .dict #[] } } : Shared).heap.objs.size = s.heap.objs.size + 1 from Heap.size_push ..]
  refine wpAny_bind (wpAny_pure (wpAny_pure ?_))
  exact hQ _ ((Heap.Ns.new s.heap (.type "dict")).keeps (pushCells_keeps _ _)) (fun b o e => pushCells_keeps _ _ b o (Heap.get?_push_of_some _ e)) (fun x c h => (ok.empty x c h).1) ok.apart
section
variable {X : Cx} {pins : List (Addr × Obj)} {σ : St} {H : Hp} {s₂ : Shared} {scope : Scope} {N' : List Str} {nt : Nat} {caps : List Nat} {fp : List Addr} {C : Addr}
theorem comp_okC (I : Inv X pins σ H s₂) (S : CompScopeC X.env.scope X.N scope N' nt caps) (f2 : ∀ b ∈ fp, FpOk X pins H b) (hlt : ∀ b ∈ fp, b < s₂.heap.objs.size) (hC : s₂.heap.objs.size ≤ C) (hap : (cellsFrom (C + 1) scope.names []).Pairwise (fun x y => x.2 ≠ y.2)) :
    (cxCompC X N' scope ⟨C, s₂, H, fp⟩).Ok where
  mod := I.ok.mod
  kind := S.kind
  glob := I.ok.glob
  blt := I.ok.blt
  above := hC
  inj := fun x y c h1 h2 => by
    have lt : ∀ {z : Str}, X.env.cells.lookup z = some c → c < s₂.heap.objs.size := fun e => let ⟨_, q⟩ := I.cell _ c e; q.lt
    rcases cells_sub h1 with q1 | ⟨q1, p1⟩ <;> rcases cells_sub h2 with q2 | ⟨q2, p2⟩
    · exact I.ok.inj x y c q1 q2
    · exact absurd (Nat.lt_of_lt_of_le (lt q1) hC) (Nat.not_lt.mpr (Nat.le_of_succ_le q2))
    · exact absurd (Nat.lt_of_lt_of_le (lt q2) hC) (Nat.not_lt.mpr (Nat.le_of_succ_le q1))
    · exact PySem.name_of_addr hap (PySem.mem_of_lookup p1) (PySem.mem_of_lookup p2)
  has := fun x hx => by
    have hm : ∃ k, (k = NameKind.cell ∨ k = NameKind.free) ∧ (x, k) ∈ (relabel scope X.env).names := by
      rcases hx with e | e
      · exact ⟨_, .inl rfl, PySem.mem_of_lookup e⟩
      · exact ⟨_, .inr rfl, PySem.mem_of_lookup e⟩
    obtain ⟨k, hk, hm⟩ := hm
    obtain ⟨k0, h0, e⟩ := mem_relabel hm
    have hf : k0 = .free ∨ k0 = .cell := by
      rcases e with e | ⟨_, e⟩
      · rcases hk with z | z
        · exact .inr (e.symm.trans z)
        · exact .inl (e.symm.trans z)
      · exact .inl e
    rcases hf with hf | hf
    · subst hf
      obtain ⟨c, hc⟩ := I.ok.has x (S.frees _ h0 rfl)
      exact lookup_of_mem (cells_cl (closL_mem hc h0))
    · subst hf
      exact Option.isSome_iff_exists.mp (PySem.W.cellsFrom_some scope.names (C + 1) _ (.inl (S.cells _ h0 rfl)))
  cab := fun x c hf h => by
    have hx : scope.names.lookup x = some .cell := of_decide_eq_true hf
    have h' : (cellsC X scope C).lookup x = some c := h
    unfold cellsC at h'
    rw [cf_app, List.lookup_append] at h'
    obtain ⟨c', q⟩ := Option.isSome_iff_exists.mp (PySem.W.cellsFrom_some scope.names (C + 1) [] (.inl hx))
    rw [q] at h'
    cases (show c' = c from Option.some.inj h')
    have := (cf_mem _ _ (PySem.mem_of_lookup q)).1
    exact Nat.le_trans hC (Nat.le_of_succ_le this)
  hd := I.ok.hd
  frames := I.ok.frames
  stk := .inl rfl
  exf := fun b hb => ⟨Nat.ne_of_lt (Nat.lt_of_lt_of_le (hlt b hb) hC), fun x c e => by
    rcases cells_sub e with q | ⟨q, _⟩
    · exact (f2 b hb).2.2.2.2.1 x c q
    · exact Nat.ne_of_gt (Nat.lt_of_lt_of_le (Nat.lt_of_lt_of_le (hlt b hb) hC) (Nat.le_of_succ_le q))⟩
  bs := I.bs
  bsz := Nat.le_trans I.ok.bsz I.sz
  noex := fun b o e hb => by
    rcases (f2 b hb).2.2.2.1 with z | z
    · exact I.ok.noex b o e z
    · exact absurd (Nat.lt_of_lt_of_le (Heap.lt_size e) (Nat.le_trans I.ok.bsz z)) (Nat.lt_irrefl _)
  exfs := fun b hb hf => by
    rcases List.mem_cons.mp (I.stkSub b hf) with e | e
    · exact (f2 b hb).2.1 e
    · exact (f2 b hb).2.2.1 e
  funs := I.stack
  frf := I.stkFree

theorem inv_compC {h₁ : Heap} {tk : Nat} {m0 : Str → Option Value} (I : Inv X pins σ H s₂) (S : CompScopeC X.env.scope X.N scope N' nt caps) (f2 : ∀ b ∈ fp, FpOk X pins H b) (hlt : ∀ b ∈ fp, b < s₂.heap.objs.size)
    (hC : s₂.heap.objs.size ≤ C) (hap : (cellsFrom (C + 1) scope.names []).Pairwise (fun x y => x.2 ≠ y.2)) (hnew : ∀ x c, (x, c) ∈ cellsFrom (C + 1) scope.names [] → h₁.IsCell c none) (hns : h₁.Ns C m0) (old : ∀ b o, s₂.heap.get? b = some o → h₁.get? b = some o) :
    Inv (cxCompC X N' scope ⟨C, s₂, H, fp⟩) pins (sgm nt caps σ) H { s₂ with heap := h₁, toks := tk } := by
  have hl := congrArg List.length S.capt
  rw [List.length_map, List.length_map, List.length_drop] at hl
  have sub : ∀ {x c}, (closL X.env scope.names []).lookup x = some c → X.env.cells.lookup x = some c := fun e => lookup_of_all closL_sub0 e
  refine ⟨comp_okC I S f2 hlt hC hap, rfl, I.bare, Un.kept old, ⟨m0, hns, fun i x v e1 e2 e3 => ?_⟩, fun x c e => ?_, I.hok.fresh hC, fun x c e => (by rcases cells_sub e with q | ⟨q, _⟩; exact I.freeC x c q; exact I.hok.fresh (Nat.le_trans hC (Nat.le_of_succ_le q))), fun p hp => ?_, I.hok.kept old, ?_⟩
  · have e1' : N'[i]? = some x := e1
    have e2' : (List.replicate nt none ++ caps.map fun j => (σ[j]?).getD none)[i]? = some (some v) := e2
    have hi : nt ≤ i := by
      rcases Nat.lt_or_ge i nt with z | z
      · rw [List.getElem?_append_left (by simpa using z), List.getElem?_replicate, if_pos z] at e2'
        cases e2'
      · exact z
    rw [List.getElem?_append_right (by simpa using hi), List.length_replicate, List.getElem?_map] at e2'
    cases hj : caps[i - nt]? with
    | none => rw [hj] at e2'; cases e2'
    | some j =>
      rw [hj] at e2'
      have e3' : (σ[j]?).getD none = some v := Option.some.inj e2'
      have hσ : σ[j]? = some (some v) := by
        cases q : σ[j]? with
        | none => rw [q] at e3'; cases e3'
        | some o => rw [q] at e3'; have z : o = some v := e3'; rw [z]
      have hd : (N'.drop nt)[i - nt]? = some x := by rw [List.getElem?_drop, Nat.add_sub_cancel' hi]; exact e1'
      have hN : X.N[j]? = some x := by
        have q := congrArg (fun l => l[i - nt]?) S.capt
        have q : (caps.map fun j => X.N[j]?)[i - nt]? = ((N'.drop nt).map some)[i - nt]? := q
        rw [List.getElem?_map, List.getElem?_map, hj, hd] at q
        exact Option.some.inj q
      have hfx := S.capf x (List.mem_of_getElem? hd)
      have hko := S.frees (x, .free) (PySem.mem_of_lookup hfx) rfl
      have vis : Vis X.env.scope x := .inr hko
      obtain ⟨m, hn, hl'⟩ := I.loc
      obtain ⟨u, r, l⟩ := hl' j x v hN hσ vis
      refine ⟨u, r, .inr ⟨?_, ?_⟩⟩
      · exact lookup_relabel_free hfx
      · rcases l with ⟨k, _⟩ | ⟨_, c, e, z⟩
        · have k' : X.env.scope.names.lookup x = some .local := k
          rcases hko with q | q <;> (rw [k'] at q; cases q)
        · obtain ⟨c', q⟩ := lookup_of_mem (closL_mem e (PySem.mem_of_lookup hfx) (cs := []))
          have q2 := sub q
          rw [e] at q2
          cases q2
          obtain ⟨o, ho, hd'⟩ := z
          refine ⟨c, ?_, o, old _ _ ho, hd'⟩
          show (cellsC X scope C).lookup x = some c
          unfold cellsC
          rw [cf_app, List.lookup_append]
          cases own : (cellsFrom (C + 1) scope.names []).lookup x with
          | none => exact q
          | some c' =>
            have z1 := S.cells _ (cf_mem _ _ (PySem.mem_of_lookup own)).2 rfl
            rw [hfx] at z1
            cases z1
  · rcases cells_sub e with q | ⟨_, q⟩
    · obtain ⟨v, o, ho, hd'⟩ := I.cell x c q
      exact ⟨v, o, old _ _ ho, hd'⟩
    · exact ⟨none, hnew x c (PySem.mem_of_lookup q)⟩
  · obtain ⟨a, b, c, d, e⟩ := I.pin p hp
    refine ⟨old _ _ a, b, Nat.ne_of_lt (Nat.lt_of_lt_of_le (Heap.lt_size a) hC), fun hf => ?_, e⟩
    rcases List.mem_cons.mp (I.stkSub p.1 hf) with z | z
    · exact c z
    · exact d z
  · show (List.replicate nt none ++ caps.map fun j => (σ[j]?).getD none).length = N'.length
    rw [List.length_append, List.length_replicate, List.length_map]
    have := S.len
    omega
end
section
variable {X : Cx} {pins : List (Addr × Obj)} {σ : St} {H : Hp} {s₂ : Shared} {scope : Scope} {N' : List Str} {nt : Nat} {caps : List Nat} {tg elt iter : Expr} {ifs : List Expr} {pos : Pos} {g : Blk → TG} {tt : Blk → TT} {te : Blk → TE}
theorem comp_runC {J : It} {it : Addr} {fp : List Addr} {tn : Nat → Heap → Prop} {W : Nat → Nat → List V → St → Hp → Prop} {Z : List V → Hp → Prop} {RR : Value → Addr → Result → Shared → Prop} {E : Value → Shared → Prop}
    (hc : X.calm = true) (S : CompScopeC X.env.scope X.N scope N' nt caps)
    (hg : ∀ B, PG (cxCompC X N' scope B) tg (g B)) (ht : ∀ B, PTs (cxCompC X N' scope B) ifs (tt B)) (he : ∀ B, PE (cxCompC X N' scope B) elt (te B))
    (I : Inv X pins σ H s₂) (T : Turn X.prog X.w X.K tg J fp it tn) (st : tn 0 s₂.heap) (f2 : ∀ b ∈ fp, FpOk X pins H b) (w0 : ∃ m, W 0 m [] (sgm nt caps σ) H) (turn : ∀ B, CompW J (g B) (tt B) (te B) W Z)
    (hRR : ∀ D C s' ys H', Z ys H' → H' D = none → Inv X pins σ (upd H' D (.lst ys)) s' → FpOk X pins (upd H' D (.lst ys)) C → (∃ m, s'.heap.Ns C m) → RR (.ref D) C (.ok .next) s') :
    wpAny (model X.prog X.w) X.A (newList []) (fun acc s₃ => wpAny (model X.prog X.w) X.A (newFunctionEnv scope X.env.globals (closL X.env scope.names []) [] X.env.qual none .none (some X.env)) (fun cenv s₄ =>
      codeAny (model X.prog X.w) X.A (.compStart (.ListComp elt [⟨tg, iter, ifs, 0⟩] scope pos) 0 (.ref it) acc { cenv with scope := relabel scope X.env }) (RR acc cenv.locals) s₄) E s₃) E s₂ := by
  refine wpAny_newObj_type (wpAny_compEnv (fun h₁ hns₁ hk₁ hnew₁ hap₁ => ?_))
  try dsimp only at hns₁ hk₁ hnew₁ hap₁ ⊢
  generalize hH2 : s₂.heap.push { cls := .type "list", dict := none, data := .seq ([] : List Value).toArray } = G2 at hns₁ hk₁ hnew₁ hap₁ ⊢
  have hCe : G2.objs.size = s₂.heap.objs.size + 1 := by rw [← hH2, Heap.size_push]
  have hDC : s₂.heap.objs.size ≠ G2.objs.size := by rw [hCe]; exact Nat.ne_of_lt (Nat.lt_succ_self _)
  have hCle : s₂.heap.objs.size ≤ G2.objs.size := by rw [hCe]; exact Nat.le_succ _
  have hlt : ∀ b ∈ fp, b < s₂.heap.objs.size := fun b hb => let ⟨o, e, _⟩ := T.obj 0 _ st b hb; Heap.lt_size e
  have old : ∀ b o, s₂.heap.get? b = some o → h₁.get? b = some o := fun b o e => hk₁ b o (hH2 ▸ Heap.get?_push_of_some _ e)
  have hacc : h₁.get? s₂.heap.objs.size = some (lobj [] 0) := hk₁ _ _ (hH2 ▸ Heap.get?_push_size _ rfl)
  generalize hD : s₂.heap.objs.size = D at hacc hDC hCle hCe
  generalize G2.objs.size = C at hns₁ hnew₁ hap₁ hDC hCle hCe ⊢
  have hlt' : ∀ b ∈ fp, b < D := fun b hb => hD ▸ hlt b hb
  have hpl : ∀ p ∈ X.pn ++ pins, p.1 < D := fun p hp => hD ▸ Heap.lt_size (I.pin p hp).1
  have hcl : ∀ x c, X.env.cells.lookup x = some c → c < D := fun x c e => let ⟨v, q⟩ := I.cell x c e; hD ▸ q.lt
  have hfsl : ∀ b ∈ frs X.stack, b < D := fun b hb => by
    rcases List.mem_cons.mp (I.stkSub b hb) with z | z
    · rw [z, ← hD]; exact I.lt
    · rw [← hD]
      refine Nat.lt_of_not_le fun q => I.nofs q z
  -- the iterator's and the list's own addresses within the block
  have fD : ∀ {H' : Hp} {pl : List (Addr × Obj)}, H' D = none → (∀ p ∈ X.pn ++ pl, p.1 < D) → FpOk (cxCompC X N' scope ⟨C, s₂, H, fp⟩) pl H' D := fun {H' pl} hn hp =>
    ⟨hn, hDC, fun z => Nat.lt_irrefl _ (hfsl D z), .inr (by show s₂.heap.objs.size ≤ D; rw [hD]; exact Nat.le_refl _), fun x c e z => (by rcases cells_sub e with q | ⟨q, _⟩; (have := hcl x c q; rw [z] at this; exact Nat.lt_irrefl D this); (rw [z] at q; exact Nat.lt_irrefl D (Nat.lt_of_lt_of_le (Nat.lt_of_le_of_lt hCle (Nat.lt_succ_self C)) q))),
      fun p q z => Nat.lt_irrefl D (by have := hp p q; rw [z] at this; exact this)⟩
  have fI : ∀ {H' : Hp} {n : Nat} {its : List Value}, (∀ b ∈ fp, H' b = none) → ∀ b ∈ fp, FpOk (cxCompC X N' scope ⟨C, s₂, H, fp⟩) (pins ++ [(D, lobj its n)]) H' b := fun {H' n its} hn b hb => by
    obtain ⟨g0, g1, g2, g3, g4, g5⟩ := f2 b hb
    refine ⟨hn b hb, Nat.ne_of_lt (Nat.lt_of_lt_of_le (hlt' b hb) hCle), fun z => ?_, .inl hb, fun x c e => (by rcases cells_sub e with q | ⟨q, _⟩; exact g4 x c q; exact Nat.ne_of_gt (Nat.lt_of_lt_of_le (Nat.lt_of_lt_of_le (hlt' b hb) hCle) (Nat.le_of_succ_le q))), fun p hp z => ?_⟩
    · rcases List.mem_cons.mp (I.stkSub b z) with q | q
      · exact g1 q
      · exact g2 q
    · have hp' : p ∈ X.pn ++ (pins ++ [(D, lobj its n)]) := hp
      rw [← List.append_assoc] at hp'
      rcases List.mem_append.mp hp' with q | q
      · exact g5 p q z
      · have e : p = (D, lobj its n) := by simpa using q
        rw [e] at z
        have := hlt' b hb
        rw [← z] at this
        exact Nat.lt_irrefl _ this
  have pinD : ∀ {σ' : St} {H' : Hp} {s' : Shared} {its : List Value} {n : Nat} {pl : List (Addr × Obj)}, Inv (cxCompC X N' scope ⟨C, s₂, H, fp⟩) (pins ++ pl) σ' H' s' → H' D = none → s'.heap.get? D = some (lobj its n) → Inv (cxCompC X N' scope ⟨C, s₂, H, fp⟩) (pins ++ [(D, lobj its n)]) σ' H' s' :=
    fun {σ' H' s' its n pl} J hn ho => J.pins_of fun p hp => by
      rcases List.mem_append.mp hp with q | q
      · exact J.pin p (List.mem_append_right _ (List.mem_append_left _ q))
      · have e : p = (D, lobj its n) := by simpa using q
        subst e
        exact ⟨ho, hn, hDC, fun z => Nat.lt_irrefl _ (hfsl D z), fun v z => by cases z⟩
  have I1 : Inv (cxCompC X N' scope ⟨C, s₂, H, fp⟩) (pins ++ [(D, lobj [] 0)]) (sgm nt caps σ) H { s₂ with heap := h₁, toks := s₂.toks } :=
    pinD (pl := []) (by rw [List.append_nil]; exact inv_compC I S f2 hlt (by rw [hD]; exact hCle) hap₁ hnew₁ hns₁ old) (I.hok.fresh (by rw [hD]; exact Nat.le_refl _)) hacc
  have st1 : tn 0 h₁ := T.keep 0 _ _ st fun b _ o e => old b o e
  have loop : ∀ s₃ : Shared, s₃ = { s₂ with heap := h₁, toks := s₂.toks } →
      codeAny (model X.prog X.w) X.A (.compLoop (.ListComp elt [⟨tg, iter, ifs, 0⟩] scope pos) 0 (.ref it) (.ref D) (cxCompC X N' scope ⟨C, s₂, H, fp⟩).env) (RR (.ref D) C) s₃ := by
    rintro s₃ rfl
    obtain ⟨m0, w0⟩ := w0
    refine codeAny_compLoop_go (fun k s' => ∃ i ys σ' H' its n, Inv (cxCompC X N' scope ⟨C, s₂, H, fp⟩) (pins ++ [(D, lobj its n)]) σ' H' s' ∧ Vals ys its ∧ tn i s'.heap ∧ (∀ b ∈ fp, H' b = none) ∧ ys.length ≤ sizeLine ∧ W i k ys σ' H') ?_ m0
      ⟨0, [], _, H, [], 0, I1, .nil, st1, fun b hb => (f2 b hb).1, Nat.zero_le _, w0⟩
    rintro k s' ⟨i, ys, σ', H', its, n, I', rv, st', fr', hz, w'⟩
    rcases turn ⟨C, s₂, H, fp⟩ i k ys σ' H' w' with ⟨stop, z⟩ | ⟨go, hlen, NN, hNN, step⟩
    · refine thn (T.done (cxCompC X N' scope ⟨C, s₂, H, fp⟩) rfl rfl rfl hc i _ s' σ' H' _ I' (fI fr') st' stop) fun r s1 ⟨hr, J⟩ => ?_
      subst hr
      have pd := J.pin (D, lobj its n) (List.mem_append_right _ (List.mem_append_right _ List.mem_cons_self))
      have hDn : H' D = none := pd.2.1
      have J0 : Inv X pins σ H' s1 := I.call' (ch := fp) J.os J.base J.hok J.bare fun b hb => ⟨(f2 b hb).2.2.2.1, (f2 b hb).2.1, (f2 b hb).2.2.2.2.1, (f2 b hb).2.2.2.2.2⟩
      have J1 : Inv X pins σ (upd H' D (.lst ys)) s1 := J0.track (I.fpOk (by rw [hD]; exact Nat.le_refl _) hDn) ⟨hz, its, n, rv, pd.1⟩
      obtain ⟨mC, hnC, _⟩ := J.loc
      exact hRR D C s1 ys H' z hDn J1 (I.fpOk (by rw [hD]; exact hCle) (by rw [upd_ne (Ne.symm hDC)]; exact J.free)) ⟨mC, hnC⟩
    · refine thn (T.item (cxCompC X N' scope ⟨C, s₂, H, fp⟩) rfl rfl rfl hc i _ s' σ' H' _ I' (fI fr') st' go) fun r s1 ⟨u, hr, h1⟩ => ?_
      subst hr
      refine thn h1 fun _ s5 ⟨x, H5, I5, r5, y5, st5, fr5⟩ => ?_
      have I5' := I5.pinned (fI fr5) (T.obj _ _ st5)
      refine wpAny_mono (hg ⟨C, s₂, H, fp⟩ _ s5 σ' H5 x u _ I5' r5 (step x H5 y5)) (fun _ s6 ⟨σ6, H6, I6, q6⟩ => ?_) fun _ _ z => z.elim
      refine wpAny_mono (ht ⟨C, s₂, H, fp⟩ _ s6 σ6 H6 _ I6 q6) (fun b s7 ⟨H7, I7, q7⟩ => ?_) fun _ _ z => z.elim
      have keepT : ∀ {σ8 : St} {H8 : Hp} {s8 : Shared}, Inv (cxCompC X N' scope ⟨C, s₂, H, fp⟩) ((pins ++ [(D, lobj its n)]) ++ pinsAt fp s5.heap) σ8 H8 s8 → tn (i + 1) s8.heap ∧ (∀ b ∈ fp, H8 b = none) ∧ s8.heap.get? D = some (lobj its n) ∧ H8 D = none := fun {σ8 H8 s8} I8 => by
        refine ⟨T.keep _ _ _ st5 fun b hb o e => (I8.pin (b, o) (List.mem_append_right _ (List.mem_append_right _ (mem_pinsAt hb e)))).1, fun b hb => ?_, ?_⟩
        · obtain ⟨o, e, _⟩ := T.obj _ _ st5 b hb
          exact (I8.pin (b, o) (List.mem_append_right _ (List.mem_append_right _ (mem_pinsAt hb e)))).2.1
        · have pd := I8.pin (D, lobj its n) (List.mem_append_right _ (List.mem_append_left _ (List.mem_append_right _ List.mem_cons_self)))
          exact ⟨pd.1, pd.2.1⟩
      cases b with
      | false =>
        rw [if_neg Bool.false_ne_true] at q7 ⊢
        obtain ⟨m', hm, w7⟩ := hNN _ _ _ q7
        obtain ⟨t7, f7, _, _⟩ := keepT I7
        exact ⟨m', hm, i + 1, ys, σ6, H7, its, n, I7.unpinned, rv, t7, f7, hz, w7⟩
      | true =>
        rw [if_pos rfl] at q7 ⊢
        refine wpAny_mono (he ⟨C, s₂, H, fp⟩ _ s7 σ6 H7 _ I7 q7) (fun v s8 ⟨y, H8, I8, r8, q8⟩ => ?_) fun _ _ z => z.elim
        obtain ⟨m', hm, w8⟩ := hNN _ _ _ q8
        obtain ⟨t8, f8, o8, n8⟩ := keepT I8
        have hlv := rv.length
        refine append_at o8 (fun h9 sb9 o9 => ?_) (by rw [List.size_toArray, ← hlv]; exact hz)
        have I8' : Inv (cxCompC X N' scope ⟨C, s₂, H, fp⟩) (pins ++ []) σ6 H8 s8 := by
          rw [List.append_nil]
          exact I8.unpinned.unpinned
        have ep : ((its.toArray.push v)) = (its ++ [v]).toArray := by simp
        rw [ep] at o9
        have I9 : Inv (cxCompC X N' scope ⟨C, s₂, H, fp⟩) (pins ++ []) σ6 H8 { s8 with heap := h9 } :=
          I8'.turnedL (t' := s8.toks) (ch := [D]) (fun b o hb e => sb9.extBut b o (fun z => hb (by simp [z])) e) (fun b hb => by
            have e : b = D := by simpa using hb
            subst e
            exact fD n8 (by rw [List.append_nil]; exact hpl))
        refine ⟨m', hm, i + 1, ys ++ [y], σ6, H8, its ++ [v], n + 1, pinD I9 n8 o9, rv.append (.cons r8 .nil), T.keep _ _ _ t8 fun b hb o e => sb9.extBut b o (Nat.ne_of_lt (hlt' b hb)) e, f8, ?_, w8⟩
        rw [List.length_append, List.length_singleton]
        exact hlen
  exact codeAny_compStart_list (loop _ rfl) (T.self X.A 0 _ _ _ st1 (loop _ rfl))

theorem pe_compC {wi : TI} (osc : Scope) (N : List Str) (S : CompScopeC osc N scope N' nt caps) (hi : PI X tg iter wi)
    (hg : ∀ B, PG (cxCompC X N' scope B) tg (g B)) (ht : ∀ B, PTs (cxCompC X N' scope B) ifs (tt B)) (he : ∀ B, PE (cxCompC X N' scope B) elt (te B))
    (hc : X.calm = true := by rfl) (hosc : X.env.scope = osc := by rfl) (hNN : X.N = N := by rfl) (hs : ∀ x, foldedSetIterable iter X.env x = pure x := by intro _; rfl) : PE X (.ListComp elt [⟨tg, iter, ifs, 0⟩] scope pos) (tComp nt caps wi g tt te) := by
  subst hosc hNN
  intro pins s σ H Q I h
  have hfr : ∀ x ∈ scope.names, x.2 = .free → ∃ c, X.env.cells.lookup x.1 = some c := fun x hx hf => I.ok.has x.1 (S.frees x hx hf)
  rw [eval_ListComp]
  refine wpAny_comprehension_free (use := none) rfl hs (closureFor_eq hfr) S.kind S.names (thn (hi pins s σ H _ I h) fun v s1 h1 => thn h1 fun itv s2 h2 => ?_)
  obtain ⟨it, fp, tn, J, H2, e, I2, T, st2, f2, W, w0, turn⟩ := h2
  subst e
  refine comp_runC (RR := fun acc C => compPost (model X.prog X.w) X.A X.xe none (EP X pins σ Q) acc C) hc S hg ht he I2 T st2 f2 w0 turn ?_
  intro D C s' ys H' z hn J' fC ⟨m, hm⟩
  refine ⟨m, hm, fun h'' sb => ⟨.ref D, _, J'.turnedL (t' := s'.toks) (ch := [C]) (fun b o hb e => sb.extBut b o (fun z => hb (by simp [z])) e) (fun b hb => ?_), rfl, z D hn⟩⟩
  have e : b = C := by simpa using hb
  subst e
  exact fC
end
theorem pg_nameK {X : Cx} {i : Nat} {x : Str} {pos : Pos} (N : List Str) (hN : N.Nodup) (hi : N[i]? = some x) (hx : X.env.scope.names.lookup x = some .cell := by rfl) (hf : X.fn x = true := by rfl) (hXN : X.N = N := by rfl) : PG X (.Name x pos) (gName i) :=
  pg_name (by rw [hXN]; exact hN) (by rw [hXN]; exact hi) (.inr hx) (.inl hf)
end L2

namespace L2
open PySem PySem.Spec PyProof.Rows
section
variable {X : Cx}
end
end L2

namespace L2
open PySem PySem.Spec PyProof.Rows SeqAt
section
variable {X : Cx} {pins : List (Addr × Obj)} {σ : St} {H : Hp} {s : Shared} {A : Around} {a b : Addr}
theorem rc_true {xs ys : List V} (I : Inv X pins σ H s) (hu : A.units < cLine) (qa : SqL X.K H a xs) (qb : SqL X.K H b ys) (hl : xs.length = ys.length)
    (he : ∀ (j : Nat) (x y : V) (u v : Value), xs[j]? = some x → ys[j]? = some y → RelV x u → RelV y v → EqAt A.in1 s u v true) : RcAt A s (.ref a) (.ref b) true ∧ RcNeAt A s (.ref a) (.ref b) false := by
  obtain ⟨its, rv, p, _⟩ := I.list qa
  obtain ⟨its2, rw', p2, _⟩ := I.list qb
  have l1 := rv.length
  have l2 := rw'.length
  have hh : ∀ j (h1 : j < its.toArray.size) (h2 : j < its2.toArray.size), EqAt A.in1 s its.toArray[j] its2.toArray[j] ((fun _ => true) j) := fun j h1 h2 => by
    rw [List.size_toArray] at h1 h2
    obtain ⟨u, hu1, ru⟩ := rv.get (i := j) (List.getElem?_eq_getElem (by omega))
    obtain ⟨v, hv1, rv2⟩ := rw'.get (i := j) (List.getElem?_eq_getElem (by omega))
    rw [List.getElem_toArray, List.getElem_toArray, (List.getElem?_eq_some_iff.mp hu1).2, (List.getElem?_eq_some_iff.mp hv1).2]
    exact he j _ _ u v (List.getElem?_eq_getElem (by omega)) (List.getElem?_eq_getElem (by omega)) ru rv2
  have all : ∀ n : Nat, ((List.range n).all fun _ => true) = true := fun n => by simp
  have q := RcAt.lists (A := A) p.isList p2.isList (by simp; omega) hu hh
  have q2 := RcNeAt.lists (A := A) p.isList p2.isList (by simp; omega) hu hh
  rw [all] at q q2
  exact ⟨q, q2⟩
theorem eq_of_rc (h : RcAt A s (.ref a) (.ref b) true) : EqAt A s (.ref a) (.ref b) true := by
  by_cases e : a = b
  · subst e; exact EqAt.same _
  · exact EqAt.of_refs e h
theorem eq_flat {xs : List V} (I : Inv X pins σ H s) (hu : A.units < cLine) (qa : SqL X.K H a xs) (qb : SqL X.K H b xs) (hf : ∀ x ∈ xs, flatV x = true ∧ eqV x x = true) : EqAt A s (.ref a) (.ref b) true :=
  eq_of_rc (rc_true I hu qa qb rfl fun j x y u v hx hy ru rv => by
    rw [hx] at hy
    cases hy
    obtain ⟨f1, f2⟩ := hf x (List.mem_of_getElem? hx)
    have q := eqAt_V (A := A.in1) (s := s) ru rv f1 f1
    rw [f2] at q
    exact q).1
theorem flat_int (ys : List Int) : ∀ x ∈ vints ys, flatV x = true ∧ eqV x x = true := fun x hx => by
  obtain ⟨y, _, rfl⟩ := List.mem_map.mp hx
  exact ⟨rfl, by simp [eqV]⟩
theorem in1_units {A : Around} : A.in1.units = A.units + 1 := by
  first | rfl | (simp [Around.in1, Around.units])
end
theorem hu2_of {A : Around} {k : Nat} (hr : Room k A) : A.units + 2 < cLine := Nat.lt_of_le_of_lt (Nat.add_le_add_left (by decide : 2 ≤ 64) _) hr.units
/-- but for these addresses all that was tracked stays -/
def ButL (A : List Addr) (H H' : Hp) : Prop := ∀ c u, H c = some u → c ∉ A → H' c = some u
theorem ButL.refl {A : List Addr} {H : Hp} : ButL A H H := fun _ _ e _ => e
theorem ButL.trans {A : List Addr} {H H1 H2 : Hp} (a : ButL A H H1) (b : ButL A H1 H2) : ButL A H H2 := fun c u e n => b c u (a c u e n) n
theorem ButL.upd {A : List Addr} {H H' : Hp} (k : ButL A H H') {x : Addr} {o : HO} (hx : x ∈ A) : ButL A H (upd H' x o) := fun c u e n => by
  have hc : c ≠ x := fun z => n (by rw [z]; exact hx)
  rw [upd_ne hc]
  exact k c u e n
theorem ButL.rows {A : List Addr} {H H' : Hp} (k : ButL A H H') : ∀ {as : List Addr} {rs : List (List Int)}, Rows H as rs → (∀ a ∈ as, a ∉ A) → Rows H' as rs
  | _, _, .nil, _ => .nil
  | _, _, .cons e r, h => .cons (k _ _ e (h _ (List.mem_cons_self ..))) (ButL.rows k r fun a ha => h a (List.mem_cons_of_mem _ ha))
theorem ButL.parts {A : List Addr} {H H' : Hp} {p b d t g f : Addr} {ts gs : List Addr} {N : NetV} (k : ButL A H H') (P : PartsIn H p b d t g f ts gs N) (h : ∀ a ∈ [p, b, d, t, g, f] ++ ts ++ gs, a ∉ A) : PartsIn H' p b d t g f ts gs N := by
  have m : ∀ a ∈ [p, b, d, t, g, f], a ∉ A := fun a ha => h a (List.mem_append_left _ (List.mem_append_left _ ha))
  exact ⟨k _ _ P.top (m _ (by simp)), k _ _ P.hb (m _ (by simp)), k _ _ P.hd (m _ (by simp)), k _ _ P.ht (m _ (by simp)), k.rows P.tr fun a ha => h a (List.mem_append_left _ (List.mem_append_right _ ha)), k _ _ P.hg (m _ (by simp)), k.rows P.gr fun a ha => h a (List.mem_append_right _ ha), k _ _ P.hf (m _ (by simp))⟩
theorem ButL.net {A : List Addr} {C : Addr} {H H' : Hp} {x dx b d t g f : Addr} {ts gs : List Addr} {N : NetV} (k : ButL A H H') (P : NetIn C H x dx b d t g f ts gs N) (h : ∀ a ∈ [x, b, d, t, g, f] ++ ts ++ gs, a ∉ A) : NetIn C H' x dx b d t g f ts gs N := by
  have m : ∀ a ∈ [x, b, d, t, g, f], a ∉ A := fun a ha => h a (List.mem_append_left _ (List.mem_append_left _ ha))
  exact ⟨k _ _ P.ob (m _ (by simp)), k _ _ P.hb (m _ (by simp)), k _ _ P.hd (m _ (by simp)), k _ _ P.ht (m _ (by simp)), k.rows P.tr fun a ha => h a (List.mem_append_left _ (List.mem_append_right _ ha)), k _ _ P.hg (m _ (by simp)), k.rows P.gr fun a ha => h a (List.mem_append_right _ ha), k _ _ P.hf (m _ (by simp))⟩
theorem Rows.memE {H : Hp} : ∀ {as : List Addr} {rs : List (List Int)}, Rows H as rs → ∀ a ∈ as, ∃ r ∈ rs, H a = some (.lst (vints r))
  | _, _, .nil, a, h => nomatch h
  | _, _, .cons (b := r) e R, a, h => by
    rcases List.mem_cons.mp h with q | q
    · subst q; exact ⟨r, List.mem_cons_self .., e⟩
    · obtain ⟨r', h1, h2⟩ := Rows.memE R a q
      exact ⟨r', List.mem_cons_of_mem _ h1, h2⟩
theorem PartsIn.has {H : Hp} {p b d t g f : Addr} {ts gs : List Addr} {N : NetV} (P : PartsIn H p b d t g f ts gs N) : ∀ a ∈ [p, b, d, t, g, f] ++ ts ++ gs, ∃ o, H a = some o := by
  intro a ha
  rcases List.mem_append.mp ha with ha | ha
  · rcases List.mem_append.mp ha with ha | ha
    · simp only [List.mem_cons, List.not_mem_nil, or_false] at ha
      rcases ha with rfl | rfl | rfl | rfl | rfl | rfl
      · exact ⟨_, P.top⟩
      · exact ⟨_, P.hb⟩
      · exact ⟨_, P.hd⟩
      · exact ⟨_, P.ht⟩
      · exact ⟨_, P.hg⟩
      · exact ⟨_, P.hf⟩
    · obtain ⟨r, _, e⟩ := P.tr.memE a ha; exact ⟨_, e⟩
  · obtain ⟨r, _, e⟩ := P.gr.memE a ha; exact ⟨_, e⟩
theorem ButL.seq {A : List Addr} {K : PySem.W.Frag} {H H' : Hp} {a : Addr} {xs : List V} (k : ButL A H H') (h : SqL K H a xs) (n : ∀ u, H a = some u → a ∉ A) : SqL K H' a xs := by
  rcases h with (h | ⟨o, h⟩) | h
  · exact .inl (.inl (k _ _ h (n _ h)))
  · exact .inl (.inr ⟨o, k _ _ h (n _ h)⟩)
  · exact .inr h
/-- lists of at most n items at all these addresses -/
def Lsts (H : Hp) (n : Nat) (A : List Addr) : Prop := ∀ a ∈ A, ∃ xs, H a = some (.lst xs) ∧ xs.length ≤ n
theorem Lsts.upd {H : Hp} {n m : Nat} {A : List Addr} (h : Lsts H n A) {x : Addr} {ys : List V} (hl : ys.length ≤ m) (hm : n ≤ m) : Lsts (upd H x (.lst ys)) m A := fun a ha => by
  by_cases e : a = x
  · subst e; exact ⟨ys, upd_same, hl⟩
  · obtain ⟨xs, h1, h2⟩ := h a ha
    exact ⟨xs, by rw [upd_ne e]; exact h1, Nat.le_trans h2 hm⟩
theorem Lsts.same {H H' : Hp} {n : Nat} {A : List Addr} (h : Lsts H n A) (S : Same H H') : Lsts H' n A := fun a ha => let ⟨xs, h1, h2⟩ := h a ha; ⟨xs, S _ _ h1, h2⟩
end L2

namespace L2
open PySem PySem.Spec PyProof.Rows
abbrev TJ := Str → St → Hp → (Str → Hp → Prop) → Prop
section
variable {X : Cx} {e : Expr} {es : List Expr} {te : TE} {tr : TJ}
end
end L2

namespace L2
open PySem PySem.Spec PyProof.Rows
section
variable {X : Cx}
end
end L2

namespace L2
open PySem PySem.Spec PyProof.Rows SeqAt
section
variable {X : Cx}
end
end L2

namespace L2
open PySem PySem.Spec PyProof.Rows SeqAt
section
variable {X : Cx}
end
section
variable {X : Cx}
end
def sub (xs ys : List Int) : List Int := List.zipWith (fun i j => i - j) xs ys
def add (xs ys : List Int) : List Int := List.zipWith (fun i j => i + j) xs ys
def hi2 (xs ys : List Int) : List Int := List.zipWith mx xs ys
theorem sub_len {xs ys : List Int} {z : Nat} (h1 : xs.length = z) (h2 : ys.length = z) : (sub xs ys).length = z := by unfold sub; rw [List.length_zipWith, h1, h2, Nat.min_self]
theorem zip_at (f : Int → Int → Int) {xs ys : List Int} {i : Nat} (h1 : i < xs.length) (h2 : i < ys.length) : (List.zipWith f xs ys).getD i 0 = f (xs.getD i 0) (ys.getD i 0) := by
  simp [List.getD_eq_getElem?_getD, List.getElem?_zipWith, List.getElem?_eq_getElem h1, List.getElem?_eq_getElem h2]
theorem sub_at {xs ys : List Int} {z i : Nat} (h1 : xs.length = z) (h2 : ys.length = z) (h : i < z) : (sub xs ys).getD i 0 = xs.getD i 0 - ys.getD i 0 := zip_at _ (by omega) (by omega)
/-- bags of doors: all of length z -/
def Wd (z : Nat) (rs : List (List Int)) : Prop := ∀ r ∈ rs, r.length = z
theorem getDm {rs : List (List Int)} {d : Nat} (h : d < rs.length) : rs.getD d [] ∈ rs := by
  rw [List.getD_eq_getElem?_getD, List.getElem?_eq_getElem h]
  exact List.getElem_mem h
theorem Wd.at {z : Nat} {rs : List (List Int)} (w : Wd z rs) {d : Nat} (h : d < rs.length) : (rs.getD d []).length = z := w _ (getDm h)
/-- the least beads ahead of a door, so that the goal lies beneath what is behind -/
def ahead (t g goal : List Int) : List Int := hi2 t (sub goal (sub g t))
def behind (t g b : List Int) : List Int := add (sub b t) g
theorem cut_take (xs : List V) (k : Nat) : cutV xs none (some (k : Int)) = xs.take k := by
  unfold cutV
  rw [HT.sIx_none, HT.sIx_nat, List.drop_zero, Nat.sub_zero]
  by_cases h : k ≤ xs.length
  · rw [Nat.min_eq_left h]
  · rw [Nat.min_eq_right (by omega), List.take_of_length_le (Nat.le_refl _), List.take_of_length_le (by omega)]
theorem rep_flat (k : Nat) : (List.replicate k [V.int 0]).flatten = vints (List.replicate k 0) := by
  induction k with
  | zero => rfl
  | succ k ih => rw [List.replicate_succ, List.flatten_cons, ih, List.replicate_succ]; rfl
theorem wd_of {z : Nat} {rs : List (List Int)} (h : ∀ r ∈ rs, okBag z r) : Wd z rs := fun r hr => (h r hr).1
theorem getDr {rs : List (List Int)} {d : Nat} (h : d < rs.length) : rs.getD d [] = rs[d] := by
  rw [List.getD_eq_getElem?_getD, List.getElem?_eq_getElem h]
  rfl
/-- a row of doors, as whole numbers -/
abbrev zs (ds : List Nat) : List Int := ds.map fun n : Nat => (n : Int)
end L2
namespace L2
open PySem PySem.Spec PyProof.Rows
theorem size6 (c : Int) : ∃ z : Nat, 1 + c % 6 = (z : Int) ∧ 1 ≤ z ∧ z ≤ 6 := by
  have h1 : 0 ≤ c % 6 := Int.emod_nonneg _ (by decide)
  have h2 : c % 6 < 6 := Int.emod_lt_of_pos _ (by decide)
  exact ⟨(1 + c % 6).toNat, by omega, by omega, by omega⟩
theorem size9 (c : Int) : ∃ z : Nat, c % 9 = (z : Int) ∧ z ≤ 8 := by
  have h1 : 0 ≤ c % 9 := Int.emod_nonneg _ (by decide)
  have h2 : c % 9 < 9 := Int.emod_lt_of_pos _ (by decide)
  exact ⟨(c % 9).toNat, by omega, by omega⟩
end L2
namespace L2
open PySem PySem.Spec PyProof.Rows
end L2

namespace L2
open PySem PySem.Spec PyProof.Rows SeqAt
theorem comp_ints {te : Blk → TE} {H1 : Hp} {Z : List V → Hp → Prop} {lo : Int} {n : Nat} {τ : St} (P : Int → Prop) (hn : n < sizeLine)
    (hs : ∀ B i H, i < n → Same H1 H → ∀ Q' : VK, (∀ m H2, P m → Same H H2 → Q' (.int m) H2) → te B (some (.int (lo + i)) :: τ) H Q')
    (hd : ∀ ns H2, Same H1 H2 → ns.length = n → (∀ m ∈ ns, P m) → Z (vints ns) H2) :
    ∃ W : Nat → Nat → List V → St → Hp → Prop, (∃ m, W 0 m [] (none :: τ) H1) ∧ ∀ B : Blk, CompW (Itr lo n) (gName 0) tTrue (te B) W Z := by
  refine comp_rangeP (g := fun _ => gName 0) (tt := fun _ => tTrue) (fun i ys σ H => ∃ (v : Option V) (ns : List Int), σ = v :: τ ∧ Same H1 H ∧ ys = vints ns ∧ ns.length = i ∧ ∀ m ∈ ns, P m) ⟨none, [], rfl, Same.refl _, rfl, rfl, fun m hm => nomatch hm⟩ ?_ ?_ ?_
  · rintro i ys σ H hi ⟨v, ns, rfl, S, rfl, e, _⟩
    rw [ints_len, e]; omega
  · rintro B i ys σ H hi ⟨v, ns, rfl, S, rfl, e, hp⟩
    try dsimp only [gName, tTrue]
    rw [if_pos rfl]
    refine hs B i H hi S _ fun m H2 pm S2 => ⟨_, ns ++ [m], rfl, S.trans S2, (vints_snoc _ _).symm, by rw [List.length_append, e]; rfl, fun k hk => ?_⟩
    rcases List.mem_append.mp hk with q | q
    · exact hp k q
    · rw [List.mem_singleton.mp q]; exact pm
  · rintro ys σ H ⟨v, ns, rfl, S, rfl, e, hp⟩
    exact hd ns H S e hp
section
variable {X : Cx}
end
/-- the parts of a net of the laws of sets -/
structure PartsT (H : Hp) (p pt pg pu : Addr) (ts gs : List Addr) (z : Nat) (tk gv : List (List Int)) (us : List Int) : Prop where
  top : H p = some (.lst [.int (z : Int), .ref pt, .ref pg, .ref pu])
  ht : H pt = some (.lst (ts.map V.ref))
  tr : Rows H ts tk
  hg : H pg = some (.lst (gs.map V.ref))
  gr : Rows H gs gv
  hu : H pu = some (.lst (vints us))
theorem PartsT.same {H H' : Hp} {p pt pg pu : Addr} {ts gs : List Addr} {z : Nat} {tk gv : List (List Int)} {us : List Int} (P : PartsT H p pt pg pu ts gs z tk gv us) (S : Same H H') : PartsT H' p pt pg pu ts gs z tk gv us :=
  ⟨S _ _ P.top, S _ _ P.ht, P.tr.same S, S _ _ P.hg, P.gr.same S, S _ _ P.hu⟩
theorem at_in {P : Int → Prop} {xs : List Int} {z i : Nat} (hx : xs.length = z) (hi : i < z) (h : ∀ x ∈ xs, P x) : P (xs.getD i 0) := by
  subst hx
  rw [getD_at hi]
  exact h _ (List.getElem_mem hi)
end L2
namespace L2
open PySem PySem.Spec PyProof.Rows
theorem at_zs {xs : List Int} {b : Nat} (h : b < xs.length) : atI (vints xs) ((b : Nat) : Int) = some (V.int (xs.getD b 0)) := by
  rw [ints_at h, getD_at h]
end L2
namespace L2
open PySem PySem.Spec PyProof.Rows
end L2

namespace L2
open PySem PySem.Spec PyProof.Rows
section
variable {prog : Program} {w : World} {A : Around} {E : Value → Shared → Prop} {s : Shared}
end
section
variable {X : Cx}
end
end L2
namespace L2
open PySem PySem.Spec PyProof.Rows
theorem ext_at {xs ys : List Int} {z : Nat} (h1 : xs.length = z) (h2 : ys.length = z) (h : ∀ k, k < z → xs.getD k 0 = ys.getD k 0) : xs = ys := by
  refine List.ext_getElem (by omega) fun i hi hj => ?_
  have := h i (by omega)
  rwa [getD_at hi, getD_at hj] at this
theorem map_at {f : Int → Int} {xs : List Int} {k : Nat} (h : k < xs.length) : (xs.map f).getD k 0 = f (xs.getD k 0) := by
  rw [List.getD_eq_getElem?_getD, List.getElem?_map, List.getElem?_eq_getElem h, getD_at h]
  rfl
theorem sub_abs {xs ys : List Int} {z : Nat} (h1 : xs.length = z) (h2 : ys.length = z) (b1 : ∀ x ∈ xs, 0 ≤ x ∧ x ≤ 1000000000) (b2 : ∀ x ∈ ys, 0 ≤ x ∧ x ≤ 1000000000) : ∀ y ∈ sub xs ys, y.natAbs ≤ 1000000000 := fun y hy => by
  obtain ⟨i, hi, rfl⟩ := List.mem_iff_getElem.mp hy
  unfold sub at hi ⊢
  rw [List.length_zipWith] at hi
  rw [List.getElem_zipWith]
  have a1 := b1 _ (List.getElem_mem (show i < xs.length by omega))
  have a2 := b2 _ (List.getElem_mem (show i < ys.length by omega))
  omega
end L2

namespace L2
open PySem PySem.Spec PyProof.Rows
def DK (h h' : Heap) : Prop := ∀ b o, h.get? b = some o → ∃ o', h'.get? b = some o' ∧ o'.cls = o.cls ∧ o'.dict = o.dict
theorem DK.refl (h : Heap) : DK h h := fun _ o e => ⟨o, e, rfl, rfl⟩
theorem DK.trans {h1 h2 h3 : Heap} (a : DK h1 h2) (b : DK h2 h3) : DK h1 h3 := fun c o e =>
  let ⟨_, e1, c1, d1⟩ := a c o e
  let ⟨o2, e2, c2, d2⟩ := b c _ e1
  ⟨o2, e2, c2.trans c1, d2.trans d1⟩
structure KD {α : Type} (t : Sem α) : Prop where
  out : ∀ (M : Model) (G : PySem.Ctx) (P : α → Pos → Shared → Prop) (F : Value → Pos → Shared → Prop) (p : Pos) (s : Shared), Sem.wp M G t P F p s → Sem.wp M G t (fun a p' s' => P a p' s' ∧ DK s.heap s'.heap) F p s
namespace KD
variable {α β : Type}
theorem ret (a : α) : KD (Pure.pure a : Sem α) := ⟨fun _ _ _ _ _ s h => ⟨h, DK.refl s.heap⟩⟩
theorem uns (w : String) : KD (PySem.unsupported w : Sem α) := ⟨fun _ _ _ _ _ _ h => h⟩
theorem andThen {m : Sem α} {f : α → Sem β} (hm : KD m) (hf : ∀ a, KD (f a)) : KD (m >>= f) := ⟨fun M G P F p s h => by
  rw [Sem.wp_bind'] at h ⊢
  refine Sem.wp_mono M G m (fun a p' s' z => ?_) (fun _ _ _ x => x) p s (hm.out M G _ F p s h)
  exact Sem.wp_mono M G (f a) (fun b p2 s2 y => ⟨y.1, z.2.trans y.2⟩) (fun _ _ _ x => x) p' s' ((hf a).out M G P F p' s' z.1)⟩
theorem cond {c : Prop} [Decidable c] {t u : Sem α} (ht : KD t) (hu : KD u) : KD (if c then t else u) := by split <;> assumption
theorem ld (a : Addr) : KD (PySem.load a) := ⟨fun _ _ _ _ _ s h => by obtain ⟨o, e, q⟩ := h; exact ⟨o, e, q, DK.refl s.heap⟩⟩
theorem stk : KD PySem.stack := ⟨fun M G P F p s h => by
  unfold PySem.stack at h ⊢
  rw [Sem.wp_stack] at h ⊢
  exact ⟨h, DK.refl s.heap⟩⟩
theorem new (o : Obj) : KD (PySem.alloc o) := ⟨fun M G P F p s h => ⟨h, fun b u e => ⟨u, Heap.get?_push_of_some _ e, rfl, rfl⟩⟩⟩
theorem upd (a : Addr) (f : Obj → Obj) (k : ∀ o, (f o).isFreed = o.isFreed ∧ (f o).cls = o.cls ∧ (f o).dict = o.dict) : KD (PySem.update a f) := ⟨fun M G P F p s h => by
  obtain ⟨e, q⟩ := h
  refine ⟨e, q, fun b o hb => ?_⟩
  show ∃ o', (s.heap.update a f).get? b = some o' ∧ _
  by_cases hba : b = a
  · subst hba
    exact ⟨f o, Heap.get?_update_self f hb ((k o).1.trans (Heap.get?_some_iff.mp hb).2), (k o).2.1, (k o).2.2⟩
  · exact ⟨o, (Heap.get?_update_other _ _ (Ne.symm hba)).trans hb, rfl, rfl⟩⟩
theorem fld (v : Value) (i : Nat) : KD (PySem.field v i) := ⟨fun _ G P F p s h => by
  obtain ⟨a, o, vs, x, e, ho, hd, hx, q⟩ := (wp_field_iff G v i P F p s).mp h
  exact (wp_field_iff G v i _ F p s).mpr ⟨a, o, vs, x, e, ho, hd, hx, q, DK.refl s.heap⟩⟩
theorem setFld (v : Value) (i : Nat) (x : Value) : KD (PySem.setField v i x) := ⟨fun _ G P F p s h => by
  obtain ⟨a, o, vs, e, ho, hd, hi, q⟩ := (wp_setField_iff G v i x P F p s).mp h
  refine (wp_setField_iff G v i x _ F p s).mpr ⟨a, o, vs, e, ho, hd, hi, q, fun b ob hb => ?_⟩
  show ∃ o', (s.heap.update a _).get? b = some o' ∧ _
  by_cases hba : b = a
  · subst hba
    rw [ho] at hb
    cases hb
    have z := Heap.get?_update_self (Obj.mapFields (·.setIfInBounds i x)) ho (Obj.isFreed_of_fields (Obj.data_mapFields hd _))
    refine ⟨_, z, Obj.cls_mapFields _ _, ?_⟩
    obtain ⟨c, d, dt, sl⟩ := o
    cases dt <;> rfl
  · exact ⟨ob, (Heap.get?_update_other _ _ (Ne.symm hba)).trans hb, rfl, rfl⟩⟩
theorem any {t : Sem α} (k : KD t) {M : Model} {A : Around} {Q : α → Shared → Prop} {E : Value → Shared → Prop} {s : Shared} (h : wpAny M A t Q E s) : wpAny M A t (fun a s' => Q a s' ∧ DK s.heap s'.heap) E s :=
  fun G p hG => k.out M G _ _ p s (h G p hG)
end KD
theorem kd_import (env : Env) (outer : List Env) : KD (behindIsImport env outer) := by
  unfold behindIsImport
  (repeat' with_reducible first | assumption | exact KD.ret _ | exact KD.uns _ | exact KD.fld _ _ | exact KD.setFld _ _ _ | exact KD.ld _ | exact KD.stk | exact KD.new _ | apply KD.cond | apply KD.andThen | intro _ | split)
theorem kd_caller : KD underTheClaimsCaller := by
  unfold underTheClaimsCaller
  (repeat' with_reducible first | assumption | exact KD.ret _ | exact KD.uns _ | exact KD.fld _ _ | exact KD.setFld _ _ _ | exact KD.ld _ | exact KD.stk | exact KD.new _ | apply KD.cond | apply KD.andThen | intro _ | split)
theorem kd_back (env : Env) (i : Bool) (l : List Env) : KD (keptBack env i l) := by
  have := kd_caller
  cases l <;> unfold keptBack <;> (repeat' with_reducible first | assumption | exact KD.ret _ | exact KD.uns _ | exact KD.fld _ _ | exact KD.setFld _ _ _ | exact KD.ld _ | exact KD.stk | exact KD.new _ | apply KD.cond | apply KD.andThen | intro _ | split)
theorem kd_ready : ∀ l : List Env, KD (readyFrames l)
  | [] => KD.ret _
  | env :: outer => by
    have ih := kd_ready outer
    have h1 := kd_import env outer
    have h2 := fun i => kd_back env i outer
    unfold readyFrames
    (repeat' with_reducible first | assumption | exact KD.ret _ | exact KD.uns _ | exact KD.fld _ _ | exact KD.setFld _ _ _ | exact KD.ld _ | exact KD.stk | exact KD.new _ | apply KD.cond | apply KD.andThen | intro _ | split)
    all_goals first | exact h2 _ | exact KD.upd _ _ (fun o => ⟨by obtain ⟨c, d, dt, sl⟩ := o; cases dt <;> rfl, rfl, rfl⟩) | skip
theorem kd_frameObject (l : List Env) : KD (frameObject l) := by
  cases l with
  | nil => exact KD.ret _
  | cons env outer =>
    have := kd_ready (env :: outer)
    unfold frameObject
    (repeat' with_reducible first | assumption | exact KD.ret _ | exact KD.uns _ | exact KD.fld _ _ | exact KD.setFld _ _ _ | exact KD.ld _ | exact KD.stk | exact KD.new _ | apply KD.cond | apply KD.andThen | intro _ | split)
theorem kd_frameOf (env : Env) : KD (PySem.frameOf env) := by
  have h1 : KD frameEnvs := by unfold frameEnvs; (repeat' with_reducible first | assumption | exact KD.ret _ | exact KD.uns _ | exact KD.fld _ _ | exact KD.setFld _ _ _ | exact KD.ld _ | exact KD.stk | exact KD.new _ | apply KD.cond | apply KD.andThen | intro _ | split)
  have h2 := kd_frameObject
  unfold PySem.frameOf
  (repeat' with_reducible first | assumption | exact KD.ret _ | exact KD.uns _ | exact KD.fld _ _ | exact KD.setFld _ _ _ | exact KD.ld _ | exact KD.stk | exact KD.new _ | apply KD.cond | apply KD.andThen | intro _ | split)
  all_goals first | exact h2 _ | skip
theorem kd_place (f : Addr) (b : Bool) : KD (entryPlaceOf f b) := by
  unfold entryPlaceOf
  (repeat' with_reducible first | assumption | exact KD.ret _ | exact KD.uns _ | exact KD.fld _ _ | exact KD.setFld _ _ _ | exact KD.ld _ | exact KD.stk | exact KD.new _ | apply KD.cond | apply KD.andThen | intro _ | split)
theorem kd_newObj (T : String) (vs : Array Value) : KD (newObj (.type T) (.fields vs)) := by
  unfold newObj newObjAsIs
  try dsimp only
  (repeat' with_reducible first | assumption | exact KD.ret _ | exact KD.uns _ | exact KD.fld _ _ | exact KD.setFld _ _ _ | exact KD.ld _ | exact KD.stk | exact KD.new _ | apply KD.cond | apply KD.andThen | intro _ | split)
theorem kd_note (e : Value) (env : Env) : KD (noteFrame e env) := by
  have h1 := kd_frameOf env
  have h2 := kd_place
  unfold noteFrame EntryCells.newEntry newFields
  (repeat' with_reducible first | assumption | exact KD.ret _ | exact KD.uns _ | exact KD.fld _ _ | exact KD.setFld _ _ _ | exact KD.ld _ | exact KD.stk | exact KD.new _ | apply KD.cond | apply KD.andThen | intro _ | split)
  all_goals first | exact h2 _ _ | exact kd_newObj _ _ | skip
theorem kd_flight (e : Value) (f : Option Addr) : KD (setFlight e f) := by
  unfold setFlight
  (repeat' with_reducible first | assumption | exact KD.ret _ | exact KD.uns _ | exact KD.fld _ _ | exact KD.setFld _ _ _ | exact KD.ld _ | exact KD.stk | exact KD.new _ | apply KD.cond | apply KD.andThen | intro _ | split)
theorem kd_leaving (env : Env) (e : Value) : KD (leaving env e) := by
  have h1 := kd_note e env
  have h2 := kd_flight e none
  unfold leaving
  (repeat' with_reducible first | assumption | exact KD.ret _ | exact KD.uns _ | exact KD.fld _ _ | exact KD.setFld _ _ _ | exact KD.ld _ | exact KD.stk | exact KD.new _ | apply KD.cond | apply KD.andThen | intro _ | split)
end L2

namespace L2
open PySem PySem.Spec PyProof.Rows
def Fly (l : List Env) (H : Hp) (h : Heap) (a : Addr) (cls : Value) (dx : Option Addr) (H' : Hp) (h' : Heap) : Prop :=
  ∃ (B : Heap) (a0 : Value), Heap.FlyingW B l a cls a0 h' ∧ (∀ b o, h.get? b = some o → H b = none → b ∉ frs l → B.get? b = some o) ∧ (∀ b u o, H' b = some u → h'.get? b = some o → B.get? b = some o) ∧ ∃ oe, h'.get? a = some oe ∧ oe.dict = dx
def CXF (P : Program) (w : World) : CXT := fun outer H s E e s' =>
  ∃ (a : Addr) (cls : Value) (dx : Option Addr) (H' : Hp), e = .ref a ∧ s'.os = s.os ∧ AllBare s'.gens ∧ Un (frs outer) [] H H' s.heap s'.heap ∧ HOk P w H' s'.heap ∧ H' a = none ∧ s.heap.get? a = none ∧ Fly outer H s.heap a cls dx H' s'.heap ∧ E cls dx H'
theorem ObjOk.has {P : Program} {w : World} {H : Hp} {h : Heap} {a : Addr} {o : HO} (x : ObjOk P w H h a o) : ∃ ob, h.get? a = some ob := by
  cases o with
  | lst xs => obtain ⟨_, _, _, _, e⟩ := x; exact ⟨_, e⟩
  | tup xs => obtain ⟨_, _, _, ob, e, _⟩ := x; exact ⟨_, e⟩
  | dK kvs => obtain ⟨_, _, _, _, o, _, _, e, _⟩ := x; exact ⟨_, e⟩
  | dT kvs => obtain ⟨_, _, _, _, o, _, _, e, _⟩ := x; exact ⟨_, e⟩
  | set S n => obtain ⟨o, _, _, _, e, _⟩ := x; exact ⟨_, e⟩
  | ins C dx fs => obtain ⟨_, _, _, e, _⟩ := x; exact ⟨_, e⟩
  | own y => obtain ⟨_, e⟩ := x; exact ⟨_, e⟩
  | xd fs => obtain ⟨_, ⟨_, _, _, e, _⟩, _⟩ := x; exact ⟨_, e⟩
  | rng lo hi => obtain ⟨_, _, _, e⟩ := x; exact ⟨_, e⟩
  | frz ob u => obtain ⟨e, _⟩ := x; exact ⟨_, e⟩
  | tbl ps => exact ⟨_, x⟩
  | met f y => exact ⟨_, x⟩
  | ext φ => obtain ⟨_, ⟨_, e⟩, _⟩ := x; exact ⟨_, e⟩
section
variable {P : Program} {w : World}
theorem HOk.based {H' : Hp} {h' h'' B : Heap} (ok : HOk P w H' h') (T : ∀ b u o, H' b = some u → h'.get? b = some o → B.get? b = some o) (st : B.StaysIn h'') : HOk P w H' h'' := fun a o e => by
  refine (ok a o e).stay (fun b u hb q => ?_) (fun _ q => q) fun _ _ q => q
  rcases hb with rfl | hb
  · exact st b u (T b _ u e q)
  · exact st b u (T b _ u hb q)
/-- one more noting: the frames l' are those of l, but perhaps for frames that were not there ahead -/
theorem Un.flown {l l' : List Env} {H H' : Hp} {h h' h'' B : Heap} {a : Addr} {cls a0 : Value} (u : Un (frs l') [] H H' h h') (F : Heap.FlyingW B l a cls a0 h') (st : B.StaysIn h'') (up : h'.UpToSlots h'') (dk : DK h' h'')
    (old : ∀ b o, h.get? b = some o → H b = none → b ∉ frs l → B.get? b = some o) (sub : ∀ b ∈ frs l', b ∈ frs l) (nw : ∀ b ∈ frs l, b ∉ frs l' → h.get? b = none) : Un (frs l') [] H H' h h'' where
  keep := fun b o e n hb _ => by
    by_cases hl : b ∈ frs l
    · rw [nw b hl hb] at e; cases e
    · exact st b o (old b o e n hl)
  slot := fun b o e n hb hx => by
    obtain ⟨sl, e1⟩ := u.slot b o e n hb hx
    obtain ⟨_, ob, ho, nf⟩ := F.2.2.1.mem (sub b hb)
    rw [e1] at ho
    cases ho
    obtain ⟨sl', e2⟩ := up b _ e1 nf
    exact ⟨sl', e2⟩
  free := u.free
  there := fun b o e hx => by
    obtain ⟨o', e1⟩ := u.there b o e hx
    obtain ⟨o2, e2, _⟩ := dk b o' e1
    exact ⟨o2, e2⟩
  tups := u.tups
  frzs := u.frzs
  tbls := u.tbls
variable {K : PySem.W.Frag} {mg : Str → Option Value} {base : Heap} {N : List Str} {qual : Str} {scope : Scope} {f : Addr} {cd : Value} {A : Around} {outer : List Env} {s : Shared} {H : Hp} {E : XK}
theorem frs_cons {env : Env} {l : List Env} {L : Addr} (h : env.frame = some L) : frs (env :: l) = L :: frs l := by
  unfold frs
  rw [List.filterMap_cons, h]
theorem passF : Passes (CXF P w) (cxOf (CXF P w) P w K mg base N qual scope f cd A outer s H E) E := by
  intro pins σ H1 s1 e s' I hc
  obtain ⟨a, cls, dx, H', rfl, os, bare, un, hok, na, ha, ⟨B, a0, F, b1, b2, oe, he, hd⟩, q⟩ := hc
  have J := I.call' (H' := H') os un hok bare (fun b z => absurd z (by simp))
  have eL : (cxOf (CXF P w) P w K mg base N qual scope f cd A outer s H E).env.frame = some s.heap.objs.size := rfl
  have hfs : frs ((cxOf (CXF P w) P w K mg base N qual scope f cd A outer s H E).stack) = s.heap.objs.size :: frs outer := frs_cons eL
  show wpAny _ _ (leaving _ (.ref a)) _ _ _
  refine wpAny_mono ((kd_leaving _ _).any (wpAny_leaves_onW (Q := fun _ s'' => Heap.FlyingW B outer a cls a0 s''.heap ∧ s'.heap.UpToSlots s''.heap ∧ s'' = { s' with heap := s''.heap }) I.ok.frames eL F fun h' F' U => ⟨F', U, rfl⟩)) (fun _ s'' z => ?_) fun _ _ z => z
  obtain ⟨⟨F', U, es⟩, dk⟩ := z
  obtain ⟨oe', he', _, hd'⟩ := dk a oe he
  have old : ∀ b o, s.heap.get? b = some o → H b = none → b ∉ frs ((cxOf (CXF P w) P w K mg base N qual scope f cd A outer s H E).stack) → B.get? b = some o := fun b o e n hb => by
    have hb' : b ∉ frs outer := fun z => hb (by rw [hfs]; exact List.mem_cons_of_mem _ z)
    exact b1 b o (I.base.keep b o e n hb' (fun z => absurd z (by simp [cxOf]))) (I.base.free b o e n (fun z => absurd z (by simp [cxOf]))) hb
  have nw : ∀ b ∈ frs ((cxOf (CXF P w) P w K mg base N qual scope f cd A outer s H E).stack), b ∉ frs outer → s.heap.get? b = none := fun b hb nb => by
    rw [hfs] at hb
    rcases List.mem_cons.mp hb with z | z
    · rw [z]; exact Heap.get?_none_of_le (Nat.le_refl _)
    · exact absurd z nb
  have sub : ∀ b ∈ frs outer, b ∈ frs ((cxOf (CXF P w) P w K mg base N qual scope f cd A outer s H E).stack) := fun b hb => by
    rw [hfs]; exact List.mem_cons_of_mem _ hb
  have na' : s.heap.get? a = none := by
    cases z : s.heap.get? a with
    | none => rfl
    | some o => obtain ⟨o', e'⟩ := I.base.there a o z (fun z => absurd z (by simp [cxOf])); rw [ha] at e'; cases e'
  refine ⟨a, cls, dx, H', rfl, by rw [es]; exact J.os, by rw [es]; exact bare, J.base.flown F F'.1 U dk old sub nw, hok.based b2 F'.1, na, na', ⟨B, a0, F', fun b o e n hb => ?_, fun b u o hu ho => ?_, oe', he', hd'.trans hd⟩, q⟩
  · by_cases hs : b ∈ frs ((cxOf (CXF P w) P w K mg base N qual scope f cd A outer s H E).stack)
    · rw [nw b hs hb] at e; cases e
    · exact old b o e n hs
  · obtain ⟨ob, hob⟩ := (hok b u hu).has
    have z := b2 b u ob hu hob
    rw [F'.1 b ob z] at ho
    cases ho
    exact z
def RaiseOk (X : Cx) (C : Addr) (E : XK) : Prop := ∀ (pins : List (Addr × Obj)) (σ : St) (H : Hp) (s : Shared) (e : Addr) (h' : Heap) (vs : List Value), Inv X pins σ H s → Heap.MadeExcOf s.heap h' e (.ref C) vs → E (.ref C) none H → X.xe (.ref e) { s with heap := h' }
theorem raiseF {C : Addr} : RaiseOk (cxOf (CXF P w) P w K mg base N qual scope f cd A outer s H E) C E := by
  intro pins σ H1 s1 e h1 vs I hx q
  have eL : (cxOf (CXF P w) P w K mg base N qual scope f cd A outer s H E).env.frame = some s.heap.objs.size := rfl
  generalize hl : frs ((cxOf (CXF P w) P w K mg base N qual scope f cd A outer s H E).stack) = fs
  have hfs : fs = s.heap.objs.size :: frs outer := by rw [← hl]; exact frs_cons eL
  have FF := PySem.W.funFrames_hide (as := fs) I.stack (fun env he a ha => by rw [← hl]; exact List.mem_filterMap.mpr ⟨env, he, ha⟩)
  have st : (PySem.W.hideAll s1.heap fs).StaysIn s1.heap := fun b o z => PySem.W.of_hideAll _ z
  obtain ⟨t, het, _, _⟩ := hx.there
  have ne : H1 e = none := by
    cases z : H1 e with
    | none => rfl
    | some u => obtain ⟨ob, hob⟩ := (I.hok e u z).has; rw [hx.new] at hob; cases hob
  show wpAny _ _ (leaving _ (.ref e)) _ _ _
  refine wpAny_mono ((kd_leaving _ _).any (wpAny_leaves_madeW (Q := fun _ s'' => (∃ t, Heap.FlyingW (PySem.W.hideAll s1.heap fs) outer e (.ref C) (.ref t) s''.heap) ∧ h1.UpToSlots s''.heap ∧ s'' = { s1 with heap := s''.heap }) (s := { s1 with heap := h1 }) I.ok.frames eL st FF hx fun h' t F' _ _ U => ⟨⟨t, F'⟩, U, rfl⟩)) (fun _ s'' z => ?_) fun _ _ z => z
  obtain ⟨⟨⟨t', F'⟩, U, es⟩, dk⟩ := z
  obtain ⟨oe', he', _, hd'⟩ := dk e _ het
  have kp : ∀ b o, s1.heap.get? b = some o → b ∉ fs → (PySem.W.hideAll s1.heap fs).get? b = some o := fun b o z nb => PySem.W.hideAll_get _ z nb
  have exN : ∀ b : Addr, b ∉ (cxOf (CXF P w) P w K mg base N qual scope f cd A outer s H E).ex := fun b z => absurd z (by simp [cxOf])
  have old : ∀ b o, s.heap.get? b = some o → H b = none → b ∉ frs outer → (PySem.W.hideAll s1.heap fs).get? b = some o := fun b o e' n hb => by
    refine kp b o (I.base.keep b o e' n hb (exN b)) fun z => ?_
    rw [hfs] at z
    rcases List.mem_cons.mp z with z | z
    · rw [z] at e'; exact absurd (Heap.lt_size e') (Nat.lt_irrefl _)
    · exact hb z
  have trk : ∀ b u o, H1 b = some u → s1.heap.get? b = some o → (PySem.W.hideAll s1.heap fs).get? b = some o := fun b u o hu ho => by
    refine kp b o ho fun z => ?_
    have := I.stkFree b (by rw [hl]; exact z)
    rw [this] at hu; cases hu
  have trk' : ∀ b u o, H1 b = some u → s''.heap.get? b = some o → (PySem.W.hideAll s1.heap fs).get? b = some o := fun b u o hu ho => by
    obtain ⟨ob, hob⟩ := (I.hok b u hu).has
    have z := trk b u ob hu hob
    rw [F'.1 b ob z] at ho
    cases ho
    exact z
  have na' : s.heap.get? e = none := by
    cases z : s.heap.get? e with
    | none => rfl
    | some o => obtain ⟨o', e'⟩ := I.base.there e o z (exN e); rw [hx.new] at e'; cases e'
  refine ⟨e, .ref C, none, H1, rfl, by rw [es]; exact I.os, by rw [es]; exact I.bare, ⟨fun b o e' n hb _ => F'.1 b o (old b o e' n hb), fun b o e' n hb hx' => ?_, fun b o e' n hx' => I.base.free b o e' n (exN b), fun b o e' hx' => ?_, I.base.tups, I.base.frzs, I.base.tbls⟩, I.hok.based trk F'.1, ne, na', ⟨_, _, F', old, trk', oe', he', hd'⟩, q⟩
  · obtain ⟨sl, e1⟩ := I.base.slot b o e' n hb (exN b)
    obtain ⟨_, ob, ho, nf⟩ := I.stack.mem (b := b) (by show b ∈ frs _; rw [hl, hfs]; exact List.mem_cons_of_mem _ hb)
    rw [e1] at ho
    cases ho
    obtain ⟨sl', e2⟩ := U b _ (hx.keeps _ _ e1) nf
    exact ⟨sl', e2⟩
  · obtain ⟨o', e1⟩ := I.base.there b o e' (exN b)
    obtain ⟨o2, e2, _⟩ := dk b o' (hx.keeps _ _ e1)
    exact ⟨o2, e2⟩
end
end L2

namespace L2
open PySem PySem.Spec PyProof.Rows
abbrev excMro : List Value := [.type "ValueError", .type "Exception", .type "BaseException", .type "object"]
/-- an own class of exceptions: its object, and the classes above it -/
def ExcCls (h : Heap) (C : Addr) (bm : List Value) (N : Addr) (mN : Str → Option Value) : Prop :=
  ∃ nm qn bs hdct sn sub ab col dd k0 k1 k2 k3 k5, h.get? C = some (excClassObj nm qn C N bs bm hdct sn sub ab col dd k0 k1 k2 k3 k5 "ValueError.__new__") ∧ h.Ns N mN ∧ OwnTail h excMro bm
/-- .. read off the written part; ini: what its own namespace has for __init__ -/
def ecIn (K : PySem.W.Frag) (C : Addr) (bm : List Value) : Bool := match K.lookup C with
  | some ⟨.type "type", _, .cls cd, sl⟩ => (match cd.mro, sl.toList with
    | .ref C' :: tl, [_, _, _, _, some (.builtin n), _] => C' == C && tl == bm && n == "ValueError.__new__" && !cd.hasDel && PySem.W.tailIn K excMro bm && PySem.W.nsOkIn K cd.ns
    | _, _ => false)
  | _ => false
theorem ExcCls.of {K : PySem.W.Frag} {h : Heap} {C : Addr} {bm : List Value} (X : K.In h) (q : ecIn K C bm = true) : ∃ N mN, ExcCls h C bm N mN ∧ (PySem.W.clsIn K C).map (·.ns) = some N := by
  unfold ecIn at q
  split at q
  case h_2 => cases q
  case h_1 d cd sl lk =>
    split at q
    case h_2 => cases q
    case h_1 C2 tl a b c d2 n e2 hm hs =>
      simp only [Bool.and_eq_true, beq_iff_eq, Bool.not_eq_true'] at q
      obtain ⟨⟨⟨⟨⟨c1, c2⟩, c3⟩, c4⟩, c5⟩, c6⟩ := q
      subst c1 c2 c3
      obtain ⟨l⟩ := sl
      try dsimp only at hs
      subst hs
      obtain ⟨nm, bs, mro, ns, qn, hd, sn, sub, ab, col, del⟩ := cd
      try dsimp only at hm c4 c6
      subst hm c4
      exact ⟨ns, _, ⟨nm, qn, bs, hd, sn, sub, ab, col, d, a, b, c, d2, e2, X _ _ lk, .of_isNs (PySem.W.isNs_of_in X c6), PySem.W.tail_of_in X c5⟩, by unfold PySem.W.clsIn; rw [lk]; rfl⟩
theorem ExcCls.keeps {h h' : Heap} {C : Addr} {bm : List Value} {N : Addr} {mN : Str → Option Value} (x : ExcCls h C bm N mN) (k : ∀ b o, h.get? b = some o → h'.get? b = some o) : ExcCls h' C bm N mN := by
  obtain ⟨nm, qn, bs, hd, sn, sub, ab, col, dd, k0, k1, k2, k3, k5, e, n, t⟩ := x
  exact ⟨nm, qn, bs, hd, sn, sub, ab, col, dd, k0, k1, k2, k3, k5, k _ _ e, n.keeps k, t.keeps k⟩
/-- a plain one: no __init__ of its own -/
structure XPlain (K : PySem.W.Frag) (C : Addr) (bm : List Value) : Prop where
  ec : ecIn K C bm = true
  ni : ((PySem.W.clsIn K C).map (·.ns)).bind (fun N => PySem.W.nsIn K N "__init__") = some none
section
variable {X : Cx} {C : Addr} {bm : List Value} {E : XK}
def tRaise (C : Addr) (E : XK) (t : TA) : TS := fun _ σ H => t σ H fun vs H1 => vs.length ≤ sizeLine ∧ E (.ref C) none H1
theorem ps_raise {x : Str} {np cpos pos : Pos} {e : Expr} {es : List Expr} {t : TA} (R : RaiseOk X C E) (c : XPlain X.K C bm) (hg : Gl X x) (hm : X.mg x = some (.ref C)) (ha : PA X (e :: es) t) (hc : X.calm = true := by rfl)
    (hdb : (x == ("__debug__" : Str)) = false := by decide) (he : starEach (e :: es) X.env = (false, eval e X.env) :: starEach es X.env := by rfl) (hpl : (backTo cpos (starEach (e :: es) X.env)).any (·.1) = false := by rfl) :
    PS X (.Raise (some (.Call (.Name x np) (e :: es) [] cpos)) none pos) (tRaise C E t) := by
  intro pins s σ H D I h
  obtain ⟨N, mN, xc, hN⟩ := ExcCls.of I.ok.mod.kin c.ec
  have nin : mN "__init__" = none := by
    have z := c.ni
    rw [hN] at z
    obtain ⟨_, _, _, _, _, _, _, _, _, _, _, _, _, _, _, n, _⟩ := xc
    exact PySem.W.ns_none_of I.ok.mod.kin n z
  obtain ⟨nm, qn, bs, hd, sn, sub, ab, col, dd, k0, k1, k2, k3, k5, e0, n0, t0⟩ := xc
  refine wpAny_Raise_call_subT (C := C) (N := N) (mN := mN) (nm := nm) (q := qn) (bs := bs) (bm := bm) (hdct := hd) (sn := sn) (sub := sub) (ab := ab) (col := col) (dd := dd) (k0 := k0) (k1 := k1) (k2 := k2) (k3 := k3) (k5 := k5) PySem.F.excBase_ValueError (t0.hasType PySem.F.excBase_ValueError.hasBase) (I.ok.hd hc) hpl nin (ld_glob I hg hm ⟨rfl, ?_⟩ hdb)
  have z := ha cpos pins s σ H _ I h
  rw [he] at z ⊢
  refine Calls.evalArgs_plain (thn z fun us s1 ⟨vs, H1, I1, r, hl, q⟩ => ⟨rfl, by rw [← r.length]; exact hl, I1.bk _ _ e0, n0.keeps I1.bk, t0.keeps I1.bk, fun h' a hx => R pins σ H1 s1 a h' _ I1 hx q⟩)
end
def PX (X : Cx) (ex : Expr) (tx : St → Hp → VK → XK → Prop) : Prop :=
  ∀ (pins : List (Addr × Obj)) (s : Shared) (σ : St) (H : Hp) (Q : VK) (E : XK), Inv X pins σ H s → tx σ H Q E → wpAny (model X.prog X.w) X.A (eval ex X.env) (EP X pins σ Q) (fun e s' => ∃ H1 s1, Inv X pins σ H1 s1 ∧ CXF X.prog X.w X.stack H1 s1 E e s') s
def PB (X : Cx) (body : List Stmt) (tb : Ends → XK → St → Hp → Prop) : Prop :=
  ∀ (pins : List (Addr × Obj)) (s : Shared) (σ : St) (H : Hp) (D : Ends) (E : XK), Inv X pins σ H s → tb D E σ H → wpAny (model X.prog X.w) X.A (execs body X.env) (SP X pins D) (fun e s' => ∃ H1 s1, Inv X pins σ H1 s1 ∧ CXF X.prog X.w X.stack H1 s1 E e s') s
section
variable {X : Cx} {k : Nat} {f : Addr} {fd : FuncData} {ps : List Str} {sp : Sp} {x : Str} {p pos : Pos} {e : Expr} {es : List Expr} {t : TA}
theorem px_call (F : FnOk X.prog X.w X.K X.mg X.base (CXF X.prog X.w) k f fd ps sp) (hr : Room k X.A) (hg : Gl X x) (hm : X.mg x = some (.ref f)) (hk : PySem.W.keepIn X.K (.ref f) = true) (hb : Binds X.K fd ps [])
    (ha : PA X.nox (e :: es) t) (hdb : (x == ("__debug__" : Str)) = false := by decide) (he : starEach (e :: es) X.env = (false, eval e X.env) :: starEach es X.env := by rfl) (hpl : (backTo pos (starEach es X.env)).any (·.1) = false := by rfl) :
    PX X (.Call (.Name x p) (e :: es) [] pos) (fun σ H Q E => t σ H fun vs H1 => sp vs H1 Q E) := by
  intro pins s σ H Q E I h
  refine wpAny_Call_Name_kw (ld_glob I hg hm ?_ hdb)
  refine PySem.W.callWith_K (h₀ := X.base) I.ok.mod.kin hk (wpAny_mono (ha pos pins s σ H _ (I.wish _) h) (fun us s1 ⟨vs, H1, I1', r, q⟩ => ?_) fun _ _ z => False.elim z) he hpl
  have I1 := I1'.unwish
  refine ⟨I1.kIn, ?_⟩
  have hl : us.length = ps.length := by rw [← r.length]; exact F.len _ _ _ _ q
  have bnd := hb s1 us I1.kIn (by rw [List.append_nil]; exact hl)
  rw [List.append_nil] at bnd
  refine wpAny_call (codeAny_mono (F.run X.A X.stack s1 H1 ⟨us, []⟩ us vs Q E hr I1.env0 bnd r q) fun r s' hq => ?_)
  cases r with
  | error e => exact ⟨H1, s1, I1, hq⟩
  | ok fl =>
    cases fl with
    | ret u => exact I1.after hq
    | next => exact False.elim hq
    | brk => exact False.elim hq
    | cont => exact False.elim hq
theorem pb_expr {ex : Expr} {tx : St → Hp → VK → XK → Prop} (hx : PX X ex tx) (hs : swapsWith ex none pos.line X.env = pure false := by rfl) : PB X [.Expr ex pos] (fun D E σ H => tx σ H (fun _ H1 => D.nx σ H1) E) := by
  intro pins s σ H D E I h
  refine wpAny_execs_cons (thn (wpAny_Expr_any (Q := fun fl s1 => fl = .next ∧ SP X pins D .next s1) (thn (hx pins s σ H _ E I h) fun v s1 ⟨y, H1, I1, r1, q1⟩ => ⟨rfl, σ, H1, I1, q1⟩) I.quiet hs) fun fl s1 q => ?_)
  obtain ⟨rfl, q⟩ := q
  exact wpAny_execs_nil q
end
end L2

namespace L2
open PySem PySem.Spec PyProof.Rows
abbrev Cx.hold (X : Cx) (e : Addr) (o : Obj) : Cx := { X with A := X.A.mark (some (.ref e)), calm := false, pn := X.pn ++ [(e, o)], xe := fun _ _ => False }
section
variable {X : Cx} {pins : List (Addr × Obj)} {σ : St} {H : Hp} {s : Shared} {a : Addr} {o : Obj}
theorem Cx.Ok.hold (ok : X.Ok) (e : Addr) (o : Obj) : (X.hold e o).Ok :=
  ⟨ok.mod, ok.kind, ok.glob, ok.blt, ok.above, ok.inj, ok.has, ok.cab, (fun z => Bool.noConfusion z), ok.frames, ok.stk, ok.exf, ok.bs, ok.bsz, ok.noex, ok.exfs, ok.funs, ok.frf⟩
theorem Inv.hold (I : Inv X pins σ H s) (h1 : s.heap.get? a = some o) (h2 : H a = none) (h3 : a ≠ X.env.locals) (h4 : a ∉ X.fs) (h5 : ∀ v, o.data ≠ .cell v) : Inv (X.hold a o) pins σ H s := by
  refine ⟨I.ok.hold a o, I.os, I.bare, I.base, I.loc, I.cell, I.free, I.freeC, fun p hp => ?_, I.hok, I.len⟩
  have hp : p ∈ (X.pn ++ [(a, o)]) ++ pins := hp
  rcases List.mem_append.mp hp with hp | hp
  · rcases List.mem_append.mp hp with hp | hp
    · exact I.pin p (List.mem_append_left _ hp)
    · cases List.mem_singleton.mp hp
      exact ⟨h1, h2, h3, h4, h5⟩
  · exact I.pin p (List.mem_append_right _ hp)
theorem Inv.unhold (ok : X.Ok) (I : Inv (X.hold a o) pins σ H s) : Inv X pins σ H s := by
  refine ⟨ok, I.os, I.bare, I.base, I.loc, I.cell, I.free, I.freeC, fun p hp => I.pin p ?_, I.hok, I.len⟩
  show p ∈ (X.pn ++ [(a, o)]) ++ pins
  rcases List.mem_append.mp hp with hp | hp
  · exact List.mem_append_left _ (List.mem_append_left _ hp)
  · exact List.mem_append_right _ hp
/-- the name of the exception goes -/
theorem gone_ok {M : Model} {A : Around} {E : Value → Shared → Prop} {i : Nat} {n : Str} {pos : Pos} {Q : Unit → Shared → Prop} (I : Inv X pins σ H s) (hN : X.N.Nodup) (hi : X.N[i]? = some n) (hl : X.env.scope.names.lookup n = some .local)
    (h : ∀ s', Inv X pins (σ.set i none) H s' → Q () s') : wpAny M A (do bindName X.env n .none; unbindBehindTheSuite X.env n pos) Q E s := by
  have hcls : (X.env.scope.kind == .class || (X.env.scope.kind == .module && X.env.locals != X.env.globals)) = false := by rw [I.ok.kind]; rfl
  refine wpAny_bind (wpAny_bindName (store_ok I hN hi (.inl hl) (v := .non) (u := .none) rfl (fun s1 J => ?_) (.inr hl)))
  unfold unbindBehindTheSuite
  refine wpAny_onRaise ?_
  obtain ⟨m, hn, hlk⟩ := id J.loc
  have hiσ : i < σ.length := by rw [I.len]; exact (List.getElem?_eq_some_iff.mp hi).1
  obtain ⟨u, _, lk⟩ := hlk i n .non hi (List.getElem?_set_self hiσ) (.inl hl)
  have hv : m n = some u := by
    rcases lk with ⟨_, z⟩ | ⟨z, _⟩
    · exact z
    · have z : X.env.scope.names.lookup n = some .cell ∨ X.env.scope.names.lookup n = some .free := z
      rw [hl] at z
      rcases z with z | z <;> cases z
  refine wpAny_unbindName_local hl hn hv hcls fun h' u' hn' hs => ?_
  obtain ⟨oL, _, _, hoL, _⟩ := id hn
  have cne := J.cne
  have old : ∀ b o, X.s₀.heap.get? b = some o → b ≠ X.env.locals := fun b o e => Nat.ne_of_lt (Nat.lt_of_lt_of_le (Heap.lt_size e) J.ok.above)
  refine h _ ⟨J.ok, J.os, J.bare, ⟨fun b o e n hb hx => (hs.2 b (old b o e)).trans (J.base.keep b o e n hb hx), fun b o e n hb hx => ?_, J.base.free, fun b o e hx => ?_, J.base.tups, J.base.frzs, J.base.tbls⟩, ⟨_, hn', fun j y v' e1 e2 e3 => ?_⟩, fun y c e => ?_, J.free, J.freeC, fun p hp => ?_, fun b ob e => ?_, by simpa using I.len⟩
  · obtain ⟨sl, e1⟩ := J.base.slot b o e n hb hx
    exact ⟨sl, (hs.2 b (old b o e)).trans e1⟩
  · obtain ⟨o', e1⟩ := J.base.there b o e hx
    exact ⟨o', (hs.2 b (old b o e)).trans e1⟩
  · by_cases hj : j = i
    · subst hj
      rw [List.getElem?_set_self hiσ] at e2
      cases e2
    · rw [List.getElem?_set_ne (Ne.symm hj)] at e2
      obtain ⟨w', r', q⟩ := hlk j y v' e1 (by rw [List.getElem?_set_ne (Ne.symm hj)]; exact e2) e3
      refine ⟨w', r', ?_⟩
      rcases q with ⟨k, e⟩ | ⟨k, c, e, z⟩
      · refine .inl ⟨k, ?_⟩
        have ne : y ≠ n := fun e => hj (nodup_ix hN e1 (e ▸ hi))
        show (if y = n then u' else m y) = some w'
        rw [if_neg ne]
        exact e
      · exact .inr ⟨k, c, e, z.sameBut hs (cne y c e)⟩
  · obtain ⟨w', z⟩ := J.cell y c e
    exact ⟨w', z.sameBut hs (cne y c e)⟩
  · obtain ⟨e, n, ne, nf, d⟩ := J.pin p hp
    exact ⟨(hs.2 p.1 ne).trans e, n, ne, nf, d⟩
  · refine (J.hok b ob e).stay (fun c w' hc q => (hs.2 c ?_).trans q) (fun _ q => q) fun _ _ q => q
    rintro rfl
    rcases hc with z | hc
    · rw [← z, J.free] at e; cases e
    · rw [J.free] at hc; cases hc
end
theorem exc_matches {M : Model} {A : Around} {E : Value → Shared → Prop} {s : Shared} {e C D : Addr} {oe : Obj} {bm bd : List Value} {N N' : Addr} {mN mN' : Str → Option Value} {Q : Bool → Shared → Prop} (hC : ExcCls s.heap C bm N mN) (hD : ExcCls s.heap D bd N' mN')
    (he : s.heap.get? e = some oe) (hcls : oe.cls = .ref C) (q : Q ((Value.ref C :: bm).contains (.ref D)) s) : wpAny M A (excMatches (.ref e) (.ref D)) Q E s := by
  obtain ⟨nm, qn, bs, hd, sn, sub, ab, col, dd, k0, k1, k2, k3, k5, e0, n0, t0⟩ := hC
  obtain ⟨nm', qn', bs', hd', sn', sub', ab', col', dd', k0', k1', k2', k3', k5', e0', n0', t0'⟩ := hD
  have hb : (Value.ref D :: bd).contains (.type "BaseException") = true := by rw [List.contains_cons, t0'.hasType PySem.F.excBase_ValueError.hasBase, Bool.or_true]
  have f := tc_notTuple
  obtain ⟨hp, g, d, t, os⟩ := s
  generalize hr : (Value.ref C :: bm).contains (.ref D) = r at q
  unfold excMatches
  repeat (first | (with_reducible refine wpAny_loadPart_at he ?_; rw [hcls]) | with_reducible refine wpAny_loadPart_at e0' ?_ | (with_reducible refine wpAny_isSubtype_exc e0' ?_; rw [hb]) | (with_reducible refine wpAny_isSubtype_exc e0 ?_; rw [hr]) | wp_step)
  cases r <;> (wp_walk; exact q)
end L2

namespace L2
open PySem PySem.Spec PyProof.Rows
/-- an exception's object, of the class at C, with its own dict at dx -/
structure XObj (o : Obj) (C : Addr) (dx : Option Addr) : Prop where
  cls : o.cls = .ref C
  dict : o.dict = dx
  no : PySem.W.notCls o = true
/-- C is caught by a clause that names D -/
structure Caught (K : PySem.W.Frag) (C D : Addr) : Prop where
  w : ∃ bm bd, ecIn K C bm = true ∧ ecIn K D bd = true ∧ (Value.ref C :: bm).contains (.ref D) = true
def afterS (D : Ends) (i : Nat) : Ends := { nx := fun σ H => D.nx (σ.set i none) H, rt := D.rt, bk := fun σ H => D.bk (σ.set i none) H, ct := fun σ H => D.ct (σ.set i none) H }
def tTryAs (K : PySem.W.Frag) (Dc : Addr) (i : Nat) (tb : Ends → XK → St → Hp → Prop) (th : Addr → Obj → TS) : TS := fun D σ H =>
  tb D (fun cls dx H' => ∃ C, cls = .ref C ∧ Caught K C Dc ∧ ∀ e o, H' e = none → XObj o C dx → th e o (afterS D i) (σ.set i (some (.ref e))) H') σ H
section
variable {X : Cx} {body suite : List Stmt} {b₀ : Stmt} {np hp pos : Pos} {cn n : Str} {i : Nat} {Dc : Addr} {tb : Ends → XK → St → Hp → Prop} {th : Addr → Obj → TS}
/-- up to the clause's suite -/
theorem to_suite {pins : List (Addr × Obj)} {σ : St} {a : Addr} {s' : Shared} {name : Option Str} {Q : Flow → Shared → Prop} {W : Value → Option Addr → Hp → Prop} (hst : X.stack = X.env :: X.outer) (hfr : X.env.frame = some X.env.locals)
    (hg : Gl X cn) (hm : X.mg cn = some (.ref Dc)) (hdb : (cn == ("__debug__" : Str)) = false)
    (z : ∃ H1 s1, Inv X.nox pins σ H1 s1 ∧ CXF X.prog X.w X.nox.stack H1 s1 (fun cls dx H' => ∃ C, cls = .ref C ∧ Caught X.K C Dc ∧ W cls dx H') (.ref a) s')
    (k : ∀ (h5 : Heap) (H' : Hp) (C : Addr) (oe : Obj), Inv (X.nox.hold a oe) pins σ H' { s' with heap := h5 } → H' a = none → oe.cls = .ref C → W (.ref C) oe.dict H' →
      (∀ Q' : Unit → Shared → Prop, (∀ h6 oe6, Inv (X.nox.hold a oe6) pins σ H' { s' with heap := h6 } → XObj oe6 C oe.dict → Q' () { s' with heap := h6 }) → ∀ (A' : Around) (E' : Value → Shared → Prop), wpAny (model X.prog X.w) A' (setFlight (.ref a) none) Q' E' { s' with heap := h5 }) →
      codeAny (model X.prog X.w) (X.A.mark (some (.ref a))) (.handlers (.ref a) [.ExceptHandler none name (b₀ :: suite) hp] X.env) (fun r s₂ => match r with
          | .ok f => (match name with
            | none => Q f s₂
            | some n => wpAny (model X.prog X.w) X.A (do bindName X.env n .none; unbindBehindTheSuite X.env n hp) (fun _ s₃ => Q f s₃) (fun _ _ => False) s₂)
          | .error x => cameBackBy (model X.prog X.w) X.A X.env (fun _ _ => False) x s₂) { s' with heap := h5 }) :
    wpAny (model X.prog X.w) X.A (noteFrame (.ref a) X.env) (fun _ s₂ => wpAny (model X.prog X.w) X.A (setFlight (.ref a) none) (fun _ s₃ =>
      wpAny (model X.prog X.w) X.A (handleBy (.ref a) X.env [.ExceptHandler (some (.Name cn np)) name (b₀ :: suite) hp]) Q (fun _ _ => False) s₃) (fun _ _ => False) s₂) (fun _ _ => False) s' := by
  obtain ⟨H1, s1, I1, a', cls, dx, H', ea, os, bare, un, hok, na, ha, ⟨B, a0, F, b1, b2, oe, he, hd⟩, C, rfl, ⟨bm, bd, cc, cd, cm⟩, q⟩ := z
  cases ea
  have F : Heap.FlyingW B (X.env :: X.outer) a (.ref C) a0 s'.heap := hst ▸ F
  have fr : X.A.frames = some (X.env :: X.outer) := hst ▸ I1.ok.frames
  have un : Un (frs (X.env :: X.outer)) [] H1 H' s1.heap s'.heap := hst ▸ un
  have b1 : ∀ b o, s1.heap.get? b = some o → H1 b = none → b ∉ frs (X.env :: X.outer) → B.get? b = some o := hst ▸ b1
  have aL : a ≠ X.env.locals := fun z => by
    obtain ⟨_, ⟨o, _, _, ho, _⟩, _⟩ := I1.loc
    rw [z] at ha
    rw [show s1.heap.get? X.env.locals = some o from ho] at ha
    cases ha
  have aF : a ∉ X.fs := fun z => by
    obtain ⟨_, o, ho, _⟩ := I1.funs.mem z
    rw [ha] at ho; cases ho
  have land : ∀ h5, Heap.FlyingW B (X.env :: X.outer) a (.ref C) a0 h5 → s'.heap.UpToSlots h5 → DK s'.heap h5 → ∃ oe5, Inv (X.nox.hold a oe5) pins σ H' { s' with heap := h5 } ∧ XObj oe5 C dx := fun h5 F5 U5 K5 => by
    obtain ⟨oe5, he5, c5, d5⟩ := K5 a oe he
    obtain ⟨o', vs, ho', hc', hd', _⟩ := F5.first
    rw [he5] at ho'
    cases ho'
    have u5 := un.flown F F5.1 U5 K5 b1 (fun b hb => hb) (fun b h1 h2 => absurd h1 h2)
    have J := I1.call' (s' := { s' with heap := h5 }) (ch := []) os (by show Un (frs X.stack) _ _ _ _ _; rw [hst]; exact u5) (hok.based b2 F5.1) bare (fun b z => absurd z (by simp))
    exact ⟨oe5, J.hold he5 na aL aF (fun v z => by rw [hd'] at z; cases z), hc', d5.trans hd, by unfold PySem.W.notCls; rw [hd']⟩
  refine wpAny_mono ((kd_note _ _).any (wpAny_looks_onW (Q := fun _ s2 => ∃ h4, s2 = { s' with heap := h4 } ∧ Heap.HeldW B (X.env :: X.outer) a (.ref C) a0 X.env.locals h4 ∧ s'.heap.UpToSlots h4) fr hfr F fun h4 x U => ⟨h4, rfl, x, U⟩)) (fun _ s2 z2 => ?_) fun _ _ z => z
  obtain ⟨⟨h4, rfl, held, U4⟩, dk4⟩ := z2
  refine wpAny_mono ((kd_flight _ _).any (wpAny_landsW (Q := fun _ s3 => ∃ h5, s3 = { s' with heap := h5 } ∧ Heap.FlyingW B (X.env :: X.outer) a (.ref C) a0 h5 ∧ h4.UpToSlots h5) held fun h5 x U => ⟨h5, rfl, x, U⟩)) (fun _ s3 z3 => ?_) fun _ _ z => z
  obtain ⟨⟨h5, rfl, F5, U5⟩, dk5⟩ := z3
  have dk : DK s'.heap h5 := dk4.trans dk5
  obtain ⟨oe5, J5, c5, d5, n5⟩ := land h5 F5 (U4.trans U5) dk
  obtain ⟨N, mN, xc, _⟩ := ExcCls.of I1.ok.mod.kin cc
  obtain ⟨N', mN', xd, _⟩ := ExcCls.of I1.ok.mod.kin cd
  have at5 := (J5.pin (a, oe5) (List.mem_append_left _ (List.mem_append_right _ (List.mem_singleton.mpr rfl)))).1
  refine wpAny_handleBy_cons (codeAny_handlers_test (ld_glob J5 hg hm ?_ hdb)) (by intro q; cases q)
  refine exc_matches (xc.keeps J5.bk) (xd.keeps J5.bk) at5 c5 ?_
  rw [cm]
  refine k h5 H' C oe5 J5 na c5 (by rw [d5]; exact q) fun Q' hQ A' E' => ?_
  refine wpAny_mono ((kd_flight _ _).any (lands_againW (Q := fun _ s3 => ∃ h6, s3 = { s' with heap := h6 } ∧ Heap.FlyingW B (X.env :: X.outer) a (.ref C) a0 h6 ∧ h5.UpToSlots h6) F5 fun h6 x U => ⟨h6, rfl, x, U⟩)) (fun _ s3 z3 => ?_) fun _ _ z => z
  obtain ⟨⟨h6, rfl, F6, U6⟩, dk6⟩ := z3
  obtain ⟨oe6, J6, c6, d6, n6⟩ := land h6 F6 ((U4.trans U5).trans U6) (dk.trans dk6)
  exact hQ h6 oe6 J6 ⟨c6, d6.trans d5.symm, n6⟩
theorem ps_tryAs (hN : X.N.Nodup) (hg : Gl X cn) (hm : X.mg cn = some (.ref Dc)) (hb : PB X.nox body tb) (hh : ∀ e o, PSs (X.nox.hold e o) (b₀ :: suite) (th e o)) (hi : X.N[i]? = some n := by rfl) (hl : X.env.scope.names.lookup n = some .local := by rfl)
    (hst : X.stack = X.env :: X.outer := by rfl) (hfr : X.env.frame = some X.env.locals := by rfl) (hdb : (cn == ("__debug__" : Str)) = false := by decide) :
    PS X.nox (.Try body [.ExceptHandler (some (.Name cn np)) (some n) (b₀ :: suite) hp] [] [] pos) (tTryAs X.K Dc i tb th) := by
  intro pins s σ H D I h
  refine wpAny_Try_except (wpAny_mono (hb pins s σ H D _ I h) (fun fl s1 q => ?_) fun e s' z => ?_)
  · cases fl with
    | next => exact wpAny_execs_nil q
    | brk => exact q
    | cont => exact q
    | ret u => exact q
  · obtain ⟨a, rfl⟩ : ∃ a, e = .ref a := by obtain ⟨_, _, _, a, _, _, _, ea, _⟩ := z; exact ⟨a, ea⟩
    refine to_suite (X := X) (pins := pins) (σ := σ) (name := some n) (W := fun cls dx H' => ∃ C, cls = .ref C ∧ ∀ e o, H' e = none → XObj o C dx → th e o (afterS D i) (σ.set i (some (.ref e))) H') hst hfr hg hm hdb ?_ fun h5 H' C oe J5 na c5 q land => ?_
    · obtain ⟨H1, s1, I1, a', cls, dx, H', r1, r2, r3, r4, r5, r6, r7, r8, C, rfl, ct, q⟩ := z
      exact ⟨H1, s1, I1, a', _, dx, H', r1, r2, r3, r4, r5, r6, r7, r8, C, rfl, ct, C, rfl, q⟩
    · obtain ⟨C', e', q⟩ := q
      cases e'
      refine codeAny_handlers_suite_as (land _ (fun h6 oe6 J6 x6 => ?_) _ _)
      refine store_ok (X := X.nox.hold a oe6) J6 hN hi (.inl hl) (v := .ref a) (u := .ref a) rfl (fun s7 J7 => ?_) (.inr hl)
      refine wpAny_mono (hh a oe6 pins s7 _ H' (afterS D i) J7 (q a oe6 na x6)) (fun fl s8 z => ?_) (fun _ _ z => False.elim z)
      cases fl with
      | next => obtain ⟨σ', H2, J8, q8⟩ := z; exact gone_ok (X := X.nox) (Inv.unhold I.ok J8) hN hi hl fun s9 J9 => ⟨_, H2, J9, q8⟩
      | brk => obtain ⟨σ', H2, J8, q8⟩ := z; exact gone_ok (X := X.nox) (Inv.unhold I.ok J8) hN hi hl fun s9 J9 => ⟨_, H2, J9, q8⟩
      | cont => obtain ⟨σ', H2, J8, q8⟩ := z; exact gone_ok (X := X.nox) (Inv.unhold I.ok J8) hN hi hl fun s9 J9 => ⟨_, H2, J9, q8⟩
      | ret u => obtain ⟨v, σ', H2, J8, r8, q8⟩ := z; exact gone_ok (X := X.nox) (Inv.unhold I.ok J8) hN hi hl fun s9 J9 => ⟨v, _, H2, J9, r8, q8⟩
end
end L2

namespace L2
open PySem PySem.Spec PyProof.Rows PySem.W
structure XAttr (K : PySem.W.Frag) (C : Addr) : Prop where
  ga : findIn K (.ref C) "__getattribute__" = some (some (.builtin "BaseException.__getattribute__"))
  gh : findIn K (.ref C) "__getattr__" = some none
  mb : mroIn K C (.type "BaseException") = some true
  mo : mroIn K C (.type "object") = some true
  ca : findIn K (.ref C) "__class__" = some (some (.builtin "object.__class__"))
  cg : specialIn K (.builtin "object.__class__") "__get__" = some (some (.builtin "getset_descriptor.__get__"))
  ck : takesIn K (.builtin "object.__class__") = some true
section
variable {prog : Program} {w : World} {A : Around} {E : Value → Shared → Prop} {s : Shared} {K : PySem.W.Frag} {x C : Addr} {ox : Obj} {od : Option Obj} {name : Str} {tk : Tok}
theorem xa_check {M : Model} {nv : Value} {Q : Unit → Shared → Prop} (X : K.In s.heap) (I : InstAt s.heap x ox C od) (hb : mroIn K C (.type "BaseException") = some true) (hq : Q () s) :
    wpAny M A (checkBuiltinCall "BaseException.__getattribute__" ⟨[.ref x, nv], []⟩) Q E s := by
  have hk : builtinKind "BaseException.__getattribute__" = some .slot := by decide +kernel
  have hs : splitId "BaseException.__getattribute__" = some ("BaseException", "__getattribute__") := by decide +kernel
  have ha := F.args_bexc_ga (.ref x) nv
  have L : Looks M s.heap (isInstance (.ref x) (.type "BaseException")) true := I.type.andThen (looks_mroIn X hb)
  obtain ⟨h, g, d, t, os⟩ := s
  simp only [checkBuiltinCall, hk, hs]
  refine wpAny_bind (L.at ?_)
  repeat (any_goals (first | assumption | wp_step))
theorem xa_by {fill expr : Bool} {Q : Value → Shared → Prop} (X : K.In s.heap) (I : InstAt s.heap x ox C od) (a : XAttr K C)
    (h : ∀ A', wpAny (model prog w) A' (Builtin.«object.__getattribute__» ⟨[.ref x, .str name tk], []⟩) (fun fin s' => match fin with | .done (.ret v) => wpAny (model prog w) A (handedOut v) Q E s' | _ => False) (fun _ _ => False) s) :
    wpAny (model prog w) A (getAttrBy (.ref x) (.str name tk) fill expr) Q E s := by
  have L0 := I.type (M := model prog w)
  have L1 := looks_findIn (M := model prog w) X a.ga
  have L2 : Looks (model prog w) s.heap (hookBefore (.ref C)) none := looks_hook X (show findIn K (.ref C) "__getattr__" = _ from a.gh)
  obtain ⟨hh, g, d, t, os⟩ := s
  unfold getAttrBy
  refine wpAny_holding (wpAny_bind (L0.at (wpAny_bind (L1.at ?_))))
  have e1 : (onTheHeap (.ref C) && Value.builtin "BaseException.__getattribute__" == .builtin "object.__getattribute__") = false := by
    rw [show (Value.builtin "BaseException.__getattribute__" == Value.builtin "object.__getattribute__") = false from by decide +kernel]; rfl
  show wpAny _ _ (if (onTheHeap (.ref C) && Value.builtin "BaseException.__getattribute__" == .builtin "object.__getattribute__") = true then _ else _) _ _ _
  rw [if_neg (by rw [e1]; exact Bool.false_ne_true)]
  unfold getAttrByItsOwn
  refine wpAny_bind (L2.at (wpAny_bind (wpAny_attempt (wpAny_holding ?_))))
  unfold callGetattribute
  rw [if_neg (by cases expr <;> exact Bool.false_ne_true)]
  unfold boundAndCalled
  refine wpAny_bind (wpAny_of_eq (PySem.F.attr_ValueError.ga.bind (.ref x)) ?_)
  refine wpAny_call (codeAny_call_builtin PySem.F.attr_ValueError.ga.plain F.entry_bexc_ga (xa_check X I a.mb ?_))
  refine wpAny_mono (h _) (fun fin s' z => ?_) fun _ _ z => False.elim z
  rcases fin with (_ | _ | _ | _) | _ <;> first | exact z | exact z.elim
theorem fo_data {g a : Value} (hc : (clsIn K C).isSome = true) (e1 : findIn K (.ref C) name = some (some a)) (e2 : specialIn K a "__get__" = some (some g)) (e3 : takesIn K a = some true) : findObj K C od name = some (.bind g a) := by
  obtain ⟨cd, z⟩ := Option.isSome_iff_exists.mp hc
  unfold findObj
  rw [z]
  simp [e1, e2, e3]
theorem xa_class {Q : Option Value → Shared → Prop} (hc : (clsIn K C).isSome = true) (X : K.In s.heap) (I : InstAt s.heap x ox C od) (a : XAttr K C) (hq : Q (some (.ref C)) { s with toks := s.toks + 1 }) :
    wpAny (model prog w) A (getAttr? (.ref x) "__class__") Q E s := by
  obtain ⟨hp, g, d, t, os⟩ := s
  unfold getAttr? getAttrBy?
  refine wpAny_bind (wpAny_mkText (wpAny_bind (wpAny_attempt (xa_by (s := ⟨hp, g, d, t + 1, os⟩) X I a fun A' => ?_))))
  have L0 := I.type (M := model prog w)
  have L1 := looks_find (M := model prog w) X I (fo_data (od := od) hc a.ca a.cg a.ck)
  unfold Builtin.«object.__getattribute__»
  refine wpAny_bind (wpAny_pure (wpAny_bind (wpAny_pure (wpAny_bind (L0.at (wpAny_bind (L1.at ?_)))))))
  refine wpAny_bind (wpAny_holding (wpAny_call (class_get (s := ⟨hp, g, d, t + 1, os⟩) X I a.mo ?_)))
  exact wpAny_pure (wpAny_pure (wpAny_pure hq))
theorem kitx_exc (hc : (clsIn K C).isSome = true) (a : XAttr K C) : KitX K (.ref x) (.ref C) (fun h => InstAt h x ox C od) where
  ty := fun _ _ _ I => I.type
  it := fun _ _ X _ => by
    unfold clsIn at hc
    split at hc
    case h_2 => cases hc
    case h_1 cd lk =>
      intro A1 Q1 E1 s1 k1 q1
      unfold isType loadHead
      exact wpAny_bind (wpAny_loadPart (k1 _ _ (X _ _ lk)) (wpAny_pure q1))
  ne := fun h tp dd its n sl X htp => by
    unfold clsIn at hc
    split at hc
    case h_2 => cases hc
    case h_1 cd lk =>
      refine Bool.eq_false_iff.mpr fun q => ?_
      have e : C = tp := Value.ref.inj (beq_iff_eq.mp q)
      subst e
      have z := (X _ _ lk).symm.trans htp
      cases z
  ca := fun X I k => xa_class hc X I a k
end
/-- what is known of the class of a held exception -/
structure XIs (K : PySem.W.Frag) (C : Addr) : Prop where
  cl : (clsIn K C).isSome = true
  at_ : XAttr K C
section
variable {X : Cx} {pins : List (Addr × Obj)} {σ : St} {H : Hp} {s : Shared} {e C : Addr} {o : Obj} {dx : Option Addr}
/-- the own dict of an exception: none, or one that is tracked -/
def XDict (H : Hp) (dx : Option Addr) : Prop := ∀ d, dx = some d → ∃ fs, H d = some (.xd fs)
theorem Inv.held (I : Inv X pins σ H s) (hm : (e, o) ∈ X.pn) (x : XObj o C dx) (hd : XDict H dx) : ∃ od, InstAt s.heap e o C od := by
  have at1 := (I.pin _ (List.mem_append_left _ hm)).1
  cases dx with
  | none => exact ⟨none, at1, x.cls, x.no, by rw [x.dict]; trivial⟩
  | some d =>
    obtain ⟨fs, hf⟩ := hd d rfl
    obtain ⟨od, ho⟩ := (I.hok d _ hf).has
    exact ⟨some od, at1, x.cls, x.no, by rw [x.dict]; exact ho⟩
theorem vals_refs : ∀ {ds : List Addr} {its : List Value}, Vals (ds.map V.ref) its → its = ds.map Value.ref
  | [], _, .nil => rfl
  | d :: ds, _, .cons a t => by
    obtain rfl := (show _ = Value.ref d from a)
    rw [vals_refs t]
    rfl
def clsV : V → Value → Prop := fun v c => (∃ n, v = .ty n ∧ c = .type n) ∨ (∃ D, v = .ref D ∧ c = .ref D)
theorem call_isX : CallR X (.builtin "isinstance") (fun xs H Q => ∃ (e : Addr) (o : Obj) (C : Addr) (dx : Option Addr) (v : V) (c : Value) (b : Bool), xs = [.ref e, v] ∧ (e, o) ∈ X.pn ∧ XObj o C dx ∧ XDict H dx ∧ XIs X.K C ∧ clsV v c ∧ kitOne X.K (.ref C) c = some b ∧ Q (.bl b) H) := by
  intro pins s σ H xs us Q I r h
  obtain ⟨e, o, C, dx, v, c, b, rfl, hm, xo, xd, xi, cv, k, q⟩ := h
  obtain ⟨u1, u2, rfl, r1, r2⟩ := vals2 r
  obtain rfl : u1 = Value.ref e := r1
  obtain ⟨od, J⟩ := I.held hm xo xd
  have e2 : u2 = c := by
    rcases cv with ⟨n, rfl, rfl⟩ | ⟨D, rfl, rfl⟩
    · exact r2
    · exact r2
  subst e2
  exact kia_one (kitx_exc (od := od) (ox := o) xi.cl xi.at_) I.kIn J k (fun z => nomatch z) fun tk => ⟨.bl b, H, I.tok tk, rfl, q⟩
theorem call_isXT : CallR X (.builtin "isinstance") (fun xs H Q => ∃ (e : Addr) (o : Obj) (C tp : Addr) (dx : Option Addr) (ds : List Addr) (b : Bool), xs = [.ref e, .ref tp] ∧ H tp = some (.tup (ds.map V.ref)) ∧ (e, o) ∈ X.pn ∧ XObj o C dx ∧ XDict H dx ∧ XIs X.K C ∧ kitAny X.K (.ref C) (ds.map Value.ref) = some b ∧ Q (.bl b) H) := by
  intro pins s σ H xs us Q I r h
  obtain ⟨e, o, C, tp, dx, ds, b, rfl, ht, hm, xo, xd, xi, k, q⟩ := h
  obtain ⟨u1, u2, rfl, r1, r2⟩ := vals2 r
  obtain rfl : u1 = Value.ref e := r1
  obtain rfl : u2 = Value.ref tp := r2
  obtain ⟨od, J⟩ := I.held hm xo xd
  obtain ⟨_, its, rv, p⟩ := (show ObjOk X.prog X.w H s.heap tp (.tup (ds.map V.ref)) from I.hok tp _ ht)
  obtain ⟨⟨oc, od2, oda, sl⟩, h1, h2, h3⟩ := p
  have ei : its = ds.map Value.ref := vals_refs rv
  subst ei
  obtain ⟨n, h3⟩ := h3
  try dsimp only at h2 h3
  subst h2 h3
  exact kia_tup (kitx_exc (od := od) (ox := o) xi.cl xi.at_) I.kIn J h1 k (fun z => nomatch z) fun tk => ⟨.bl b, H, I.tok tk, rfl, q⟩
end
theorem ec_lookup {K : PySem.W.Frag} {C : Addr} {bm : List Value} (q : ecIn K C bm = true) : ∃ d cd sl, K.lookup C = some ⟨.type "type", d, .cls cd, sl⟩ ∧ cd.mro = .ref C :: bm := by
  unfold ecIn at q
  split at q
  case h_2 => cases q
  case h_1 d cd sl lk =>
    split at q
    case h_2 => cases q
    case h_1 C2 tl a b c d2 n e2 hm hs =>
      simp only [Bool.and_eq_true, beq_iff_eq, Bool.not_eq_true'] at q
      obtain ⟨⟨⟨⟨⟨c1, c2⟩, _⟩, _⟩, _⟩, _⟩ := q
      subst c1 c2
      exact ⟨d, cd, sl, lk, hm⟩
theorem ec_cls {K : PySem.W.Frag} {C : Addr} {bm : List Value} (q : ecIn K C bm = true) : (clsIn K C).isSome = true := by
  obtain ⟨d, cd, sl, lk, _⟩ := ec_lookup q
  unfold clsIn
  rw [lk]
  rfl
theorem ec_mro {K : PySem.W.Frag} {C : Addr} {bm : List Value} (q : ecIn K C bm = true) (v : Value) : mroIn K C v = some ((Value.ref C :: bm).contains v) := by
  obtain ⟨d, cd, sl, lk, hm⟩ := ec_lookup q
  unfold mroIn clsIn
  rw [lk]
  show (if cd.mro.isEmpty then none else some (cd.mro.contains v)) = _
  rw [hm]
  rfl
theorem ec_one {K : PySem.W.Frag} {C D : Addr} {bm bd : List Value} (q : ecIn K C bm = true) (qd : ecIn K D bd = true) : kitOne K (.ref C) (.ref D) = some ((Value.ref C :: bm).contains (.ref D)) := by
  unfold kitOne
  by_cases z : (Value.ref C == Value.ref D) = true
  · rw [if_pos z, List.contains_cons, show (Value.ref D == Value.ref C) = true from by rw [beq_iff_eq] at z ⊢; exact z.symm]
    rfl
  · rw [if_neg z]
    unfold kitCls
    obtain ⟨d, cd, sl, lk, _⟩ := ec_lookup qd
    have ty : typeIn K (.ref D) = some (.type "type") := by
      show Option.map (fun x => x.cls) (K.lookup D) = _
      rw [lk]
      rfl
    show (if ((clsIn K D).isSome && typeIn K (.ref D) == some (.type "type")) = true then subIn K (.ref C) (.ref D) else none) = _
    rw [ec_cls qd, ty]
    exact ec_mro q _
theorem ec_type {K : PySem.W.Frag} {C : Addr} {bm : List Value} (q : ecIn K C bm = true) {T : String} (hT : kitMeta T = true) : kitOne K (.ref C) (.type T) = some ((Value.ref C :: bm).contains (.type T)) := by
  unfold kitOne
  rw [if_neg (by simp)]
  unfold kitCls
  try dsimp only
  rw [if_pos hT]
  exact ec_mro q _
theorem kitMeta_VE : kitMeta "ValueError" = true := by decide +kernel
end L2

namespace L2
open PySem PySem.Spec PyProof.Rows
theorem bt_ValueError : bootBuiltins "ValueError" = some (.type "ValueError") := PyProof.Rows.Boot.«ValueError»
section
variable {P : Program} {w : World} {K : PySem.W.Frag} {mg : Str → Option Value} {base : Heap}
/-- a def out of which an exception may fly -/
theorem Fun.okF {x qual : Str} {st : Stmt} {f : Addr} {fd : FuncData} {N ps : List Str} {k : Nat} {sp : Sp} (F : Fun K x qual st f fd) (S : FnScope N ps (defScope st)) (len : ∀ vs H Q E, sp vs H Q E → vs.length = ps.length)
    (hb : ∀ (cdv : Value) (A : Around) (outer : List Env) (s : Shared) (H : Hp) (vs : List V) (Q : VK) (E : XK), Room k (A.deeper (envOfC qual (defScope st) s.heap.objs.size f cdv)) → sp vs H Q E →
      ∃ t, PSs (cxOf (CXF P w) P w K mg base N qual (defScope st) f cdv A outer s H E) (defBody st) t ∧ t { nx := fun _ H' => Q .non H', rt := Q } (start N vs) H) : FnOk P w K mg base (CXF P w) (k + 1) f fd ps sp := by
  obtain ⟨oc, od, kV, doc, pm, an, cdv, ct, osl, rfl, lk, hcd⟩ := F.ex
  exact fn_of lk hcd S len fun A outer s H vs Q E hr hsp => hb cdv A outer s H vs Q E hr hsp
/-- .. called where none may -/
theorem FnOk.never {k : Nat} {f : Addr} {fd : FuncData} {ps : List Str} {sp : Sp} (F : FnOk P w K mg base (CXF P w) k f fd ps sp) : FnOk P w K mg base CX0 k f fd ps (fun vs H Q _ => sp vs H Q E0) := by
  refine ⟨fun vs H Q E h => F.len vs H Q E0 h, fun A outer s H args us vs Q E hr he hb r h => codeAny_mono (F.run A outer s H args us vs Q E0 hr he hb r h) fun r s' q => ?_⟩
  cases r with
  | error e =>
    obtain ⟨_, _, _, _, _, _, _, _, _, _, _, _, z⟩ := q
    exact z
  | ok fl => cases fl <;> exact q
end
abbrev small (xs : List Int) : Prop := ∀ x ∈ xs, x.natAbs < 10 ^ 60
section
open PySem.W
variable {K : PySem.W.Frag} {C D A : Addr} {bd : List Value}
theorem ec_no (q : ecIn K C (.ref A :: excMro) = true) (qd : ecIn K D bd = true) (h1 : D ≠ C) (h2 : D ≠ A) : kitOne K (.ref C) (.ref D) = some false := by
  rw [ec_one q qd]
  simp [h1, h2]
theorem ec_up (q : ecIn K C (.ref A :: excMro) = true) (qd : ecIn K A bd = true) : kitOne K (.ref C) (.ref A) = some true := by
  rw [ec_one q qd]
  simp
theorem ec_VE (q : ecIn K C (.ref A :: excMro) = true) : kitOne K (.ref C) (.type "ValueError") = some true := by
  rw [ec_type q kitMeta_VE]
  simp
theorem caught_self (q : ecIn K C (.ref A :: excMro) = true) : Caught K C C := ⟨_, _, q, q, by simp⟩
theorem noDict {H : Hp} : XDict H none := fun _ z => nomatch z
end
end L2

namespace L2
open PySem PySem.Spec PyProof.Rows
/-- no longer tracked -/
def drop (H : Hp) (e : Addr) : Hp := fun b => if b = e then none else H b
theorem drop_self {H : Hp} {e : Addr} : drop H e e = none := by unfold drop; rw [if_pos rfl]
theorem drop_ne {H : Hp} {e b : Addr} (h : b ≠ e) : drop H e b = H b := by unfold drop; rw [if_neg h]
theorem HOk.dropped {P : Program} {w : World} {H : Hp} {h : Heap} {e : Addr} {φ : Heap → Prop} (ok : HOk P w H h) (he : H e = some (.ext φ)) : HOk P w (drop H e) h := fun a o z => by
  have ne : a ≠ e := fun q => by rw [q, drop_self] at z; cases z
  rw [drop_ne ne] at z
  refine (ok a o z).stay (fun _ _ _ q => q) (fun b q => ?_) fun b xs q => ?_
  · rw [drop_ne (fun y => by rw [y, he] at q; cases q)]; exact q
  · rw [drop_ne (fun y => by rw [y, he] at q; cases q)]; exact q
section
variable {P : Program} {w : World} {K : PySem.W.Frag} {mg : Str → Option Value} {base : Heap} {N : List Str} {qual : Str} {scope : Scope} {f : Addr} {cd : Value} {A : Around} {outer : List Env} {s : Shared} {H : Hp} {E : XK}
end
end L2

namespace L2
open PySem PySem.Spec PyProof.Rows PySem.W PySem.Builtin PySem.Builtin.ObjectAttr
structure XSet (K : PySem.W.Frag) (C : Addr) : Prop where
  sa : findIn K (.ref C) "__setattr__" = some (some (.builtin "object.__setattr__"))
  hd : hasDictIn K C = true
section
variable {prog : Program} {w : World} {A : Around} {E : Value → Shared → Prop} {K : PySem.W.Frag} {x C B : Addr} {name : Str} {v : Value}
end
end L2

namespace L2
open PySem PySem.Spec PyProof.Rows PySem.W
section
variable {X : Cx} {pins : List (Addr × Obj)} {σ : St} {H : Hp} {s : Shared} {e C B t : Addr}
end
end L2

namespace L2
open PySem PySem.Spec PyProof.Rows PySem.W
section
variable {X : Cx} {C f : Addr} {bm : List Value} {E : XK} {k : Nat} {fd : FuncData} {ps : List Str} {sp : Sp}
def okV : V → Prop
  | .int _ => True
  | .str _ => True
  | .bl _ => True
  | _ => False
theorem okV.handed {v : V} (h : okV v) : ∀ u, RelV v u → handedIn u = true := fun u r => by
  cases v with
  | int i => obtain ⟨t, rfl⟩ := r; rfl
  | str i => obtain ⟨t, rfl⟩ := r; rfl
  | bl i => cases r; rfl
  | _ => exact False.elim h
end
end L2

namespace L2
open PySem PySem.Spec PyProof.Rows
end L2

namespace L2
open PySem PySem.Spec PyProof.Rows
section
variable {prog : Program} {w : World} {A : Around} {R : Result → Shared → Prop} {I S : Addr} {fp wr : List Addr} {n : Nat} {P : Nat → Value → Prop} {St : Nat → Heap → Prop}
end
section
variable {X : Cx} {p pos kp : Pos} {e e2 : Expr} {t tk : TA}
end
end L2
namespace L2
open PySem PySem.Spec PyProof.Rows SeqAt
theorem comp_at {te : Blk → TE} {H1 : Hp} {Z : List V → Hp → Prop} {lo : Int} {n : Nat} {τ : St} (f : Nat → Int) (hn : n < sizeLine)
    (hs : ∀ B i H, i < n → Same H1 H → ∀ Q' : VK, (∀ H2, Same H H2 → Q' (.int (f i)) H2) → te B (some (.int (lo + i)) :: τ) H Q')
    (hd : ∀ H2, Same H1 H2 → Z (vints ((List.range n).map f)) H2) :
    ∃ W : Nat → Nat → List V → St → Hp → Prop, (∃ m, W 0 m [] (none :: τ) H1) ∧ ∀ B : Blk, CompW (Itr lo n) (gName 0) tTrue (te B) W Z := by
  refine comp_rangeP (g := fun _ => gName 0) (tt := fun _ => tTrue) (fun i ys σ H => ∃ v : Option V, σ = v :: τ ∧ Same H1 H ∧ ys = vints ((List.range i).map f)) ⟨none, rfl, Same.refl _, rfl⟩ ?_ ?_ ?_
  · rintro i ys σ H hi ⟨v, rfl, S, rfl⟩
    rw [ints_len, List.length_map, List.length_range]; omega
  · rintro B i ys σ H hi ⟨v, rfl, S, rfl⟩
    try dsimp only [gName, tTrue]
    rw [if_pos rfl]
    refine hs B i H hi S _ fun H2 S2 => ⟨_, rfl, S.trans S2, ?_⟩
    rw [List.range_succ, List.map_append]
    exact (vints_snoc _ _).symm
  · rintro ys σ H ⟨v, rfl, S, rfl⟩
    exact hd H S
theorem comp_rowsAt {te : Blk → TE} {H1 : Hp} {Z : List V → Hp → Prop} {lo : Int} {n : Nat} {τ : St} (f : Nat → List Int) (hn : n < sizeLine)
    (hs : ∀ B i H, i < n → Same H1 H → ∀ Q' : VK, (∀ q H2, H q = none → Same H H2 → H2 q = some (.lst (vints (f i))) → Q' (.ref q) H2) → te B (some (.int (lo + i)) :: τ) H Q')
    (hd : ∀ as H2, Same H1 H2 → Rows H2 as ((List.range n).map f) → (∀ b ∈ as, H1 b = none) → Z (as.map V.ref) H2) :
    ∃ W : Nat → Nat → List V → St → Hp → Prop, (∃ m, W 0 m [] (none :: τ) H1) ∧ ∀ B : Blk, CompW (Itr lo n) (gName 0) tTrue (te B) W Z := by
  refine comp_rangeP (g := fun _ => gName 0) (tt := fun _ => tTrue) (fun i ys σ H => ∃ (v : Option V) (as : List Addr), σ = v :: τ ∧ Same H1 H ∧ ys = as.map V.ref ∧ Rows H as ((List.range i).map f) ∧ ∀ b ∈ as, H1 b = none) ⟨none, [], rfl, Same.refl _, rfl, .nil, fun b hb => nomatch hb⟩ ?_ ?_ ?_
  · rintro i ys σ H hi ⟨v, as, rfl, S, rfl, R, _⟩
    rw [List.length_map, R.length, List.length_map, List.length_range]; omega
  · rintro B i ys σ H hi ⟨v, as, rfl, S, rfl, R, fr⟩
    try dsimp only [gName, tTrue]
    rw [if_pos rfl]
    refine hs B i H hi S _ fun q H2 nq S2 hq => ⟨_, as ++ [q], rfl, S.trans S2, (vrefs_snoc _ _).symm, ?_, fun b hb => ?_⟩
    · rw [List.range_succ, List.map_append]
      exact (R.same S2).snoc hq
    · rcases List.mem_append.mp hb with w | w
      · exact fr b w
      · rw [List.mem_singleton.mp w]; exact S.free nq
  · rintro ys σ H ⟨v, as, rfl, S, rfl, R, fr⟩
    exact hd as H S R fr
/-- over a list of whole numbers: a number for each of them -/
theorem comp_mapI {K : PySem.W.Frag} {te : Blk → TE} {H1 : Hp} {Z : List V → Hp → Prop} {a : Addr} {xs : List Int} {τ : St} (f : Int → Int) (ha : SqL K H1 a (vints xs)) (hn : xs.length < sizeLine)
    (hs : ∀ B x H, x ∈ xs → Same H1 H → ∀ Q' : VK, (∀ H2, Same H H2 → Q' (.int (f x)) H2) → te B (some (.int x) :: τ) H Q')
    (hd : ∀ H2, Same H1 H2 → Z (vints (xs.map f)) H2) :
    ∃ W : Nat → Nat → List V → St → Hp → Prop, (∃ m, W 0 m [] (none :: τ) H1) ∧ ∀ B : Blk, CompW (Itl K a) (gName 0) tTrue (te B) W Z := by
  refine comp_listP (g := fun _ => gName 0) (tt := fun _ => tTrue) (K := K) (a := a) (xs := vints xs) (fun i ys σ H => ∃ v : Option V, σ = v :: τ ∧ Same H1 H ∧ ys = vints ((xs.take i).map f)) ⟨none, rfl, Same.refl _, rfl⟩ ?_ ?_ ?_
  · rintro i ys σ H hi ⟨v, rfl, S, rfl⟩
    refine ⟨S.seq ha, ?_⟩
    rw [ints_len, List.length_map, List.length_take]; omega
  · rintro B i x ys σ H hx ⟨v, rfl, S, rfl⟩
    obtain ⟨n, hn1, rfl⟩ := ints_get hx
    try dsimp only [gName, tTrue]
    rw [if_pos rfl]
    refine hs B n H (List.mem_of_getElem? hn1) S _ fun H2 S2 => ⟨_, rfl, S.trans S2, ?_⟩
    rw [List.take_add_one, hn1, Option.toList_some, List.map_append]
    exact (vints_snoc _ _).symm
  · rintro ys σ H ⟨v, rfl, S, rfl⟩
    rw [ints_len, List.take_length]
    exact hd H S
end L2
namespace L2
open PySem PySem.Spec PyProof.Rows SeqAt
structure PlanP (H : Hp) (p pt pg pf : Addr) (ts gs : List Addr) (tk gv : List (List Int)) (fs : List Int) : Prop where
  top : H p = some (.lst [.ref pt, .ref pg, .ref pf])
  ht : H pt = some (.lst (ts.map V.ref))
  tr : Rows H ts tk
  hg : H pg = some (.lst (gs.map V.ref))
  gr : Rows H gs gv
  hf : H pf = some (.lst (vints fs))
theorem PlanP.same {H H' : Hp} {p pt pg pf : Addr} {ts gs : List Addr} {tk gv : List (List Int)} {fs : List Int} (P : PlanP H p pt pg pf ts gs tk gv fs) (S : Same H H') : PlanP H' p pt pg pf ts gs tk gv fs :=
  ⟨S _ _ P.top, S _ _ P.ht, P.tr.same S, S _ _ P.hg, P.gr.same S, S _ _ P.hf⟩
structure OkP (z : Nat) (tk gv : List (List Int)) (fs : List Int) : Prop where
  z1 : 1 ≤ z
  z6 : z ≤ 6
  t8 : tk.length ≤ 8
  gl : gv.length = tk.length
  tk : ∀ r ∈ tk, okBag z r
  gv : ∀ r ∈ gv, okBag z r
  fs : okBag z fs
def sixB : List Str := [Str.ofString "ba", Str.ofString "bb", Str.ofString "bc", Str.ofString "bd", Str.ofString "be", Str.ofString "bf"]
abbrev vsixB : List V := [V.str (Str.ofString "ba"), V.str (Str.ofString "bb"), V.str (Str.ofString "bc"), V.str (Str.ofString "bd"), V.str (Str.ofString "be"), V.str (Str.ofString "bf")]
def eitD : List Str := [Str.ofString "da", Str.ofString "db", Str.ofString "dc", Str.ofString "dd", Str.ofString "de", Str.ofString "df", Str.ofString "dg", Str.ofString "dh"]
abbrev veitD : List V := [V.str (Str.ofString "da"), V.str (Str.ofString "db"), V.str (Str.ofString "dc"), V.str (Str.ofString "dd"), V.str (Str.ofString "de"), V.str (Str.ofString "df"), V.str (Str.ofString "dg"), V.str (Str.ofString "dh")]
theorem sixB_ok : ∀ y ∈ sixB, okName y = true := by decide +kernel
theorem sixB_nd : sixB.Nodup := by decide +kernel
theorem eitD_ok : ∀ y ∈ eitD, okName y = true := by decide +kernel
theorem eitD_nd : eitD.Nodup := by decide +kernel
theorem cut_sixB (k : Nat) : cutV vsixB none (some (k : Int)) = vstrs (sixB.take k) := by
  rw [cut_take, vstrs, List.map_take]
  rfl
theorem cut_eitD (k : Nat) : cutV veitD none (some (k : Int)) = vstrs (eitD.take k) := by
  rw [cut_take, vstrs, List.map_take]
  rfl
def netP (tk gv : List (List Int)) (fs : List Int) : NetV := ⟨sixB.take fs.length, eitD.take tk.length, tk, gv, fs⟩
theorem netP_len {tk gv : List (List Int)} {fs : List Int} (h6 : fs.length ≤ 6) : (netP tk gv fs).bowls.length = fs.length := by
  show (sixB.take fs.length).length = _
  rw [List.length_take]
  have : sixB.length = 6 := rfl
  omega
theorem netP_ok {z : Nat} {tk gv : List (List Int)} {fs : List Int} (o : OkP z tk gv fs) : (netP tk gv fs).Ok := by
  have fl := o.fs.1
  have z1 := o.z1
  have z6 := o.z6
  have t8 := o.t8
  have e : (netP tk gv fs).bowls.length = z := by rw [netP_len (by omega), fl]
  have e2 : (netP tk gv fs).doors.length = tk.length := by
    show (eitD.take tk.length).length = _
    rw [List.length_take]
    have : eitD.length = 8 := rfl
    omega
  refine ⟨by omega, by omega, by omega, fun y hy => sixB_ok y (List.mem_of_mem_take hy), fun y hy => eitD_ok y (List.mem_of_mem_take hy), sixB_nd.sublist (List.take_sublist ..), eitD_nd.sublist (List.take_sublist ..), e2.symm, by rw [e2]; exact o.gl, ?_, ?_, ?_⟩
  · rw [e]; exact o.tk
  · rw [e]; exact o.gv
  · rw [e]; exact o.fs
/-- a number by its kind: small but for kind two -/
def nbK (kd : Nat) (n : Int) : Prop := 0 ≤ n ∧ n ≤ 1000000000 ∧ (kd ≠ 2 → n ≤ 3)
def okK (kd z : Nat) (r : List Int) : Prop := r.length = z ∧ ∀ x ∈ r, nbK kd x
/-- sides: lists of two rows -/
inductive Sides (H : Hp) : List Addr → List (List Int) → List (List Int) → Prop
  | nil : Sides H [] [] []
  | cons {s a b : Addr} {r q : List Int} {ss : List Addr} {tk gv : List (List Int)} : H s = some (.lst [.ref a, .ref b]) → H a = some (.lst (vints r)) → H b = some (.lst (vints q)) → Sides H ss tk gv → Sides H (s :: ss) (r :: tk) (q :: gv)
theorem Sides.same {H H' : Hp} (S : Same H H') : ∀ {ss : List Addr} {tk gv : List (List Int)}, Sides H ss tk gv → Sides H' ss tk gv
  | _, _, _, .nil => .nil
  | _, _, _, .cons h1 h2 h3 h => .cons (S _ _ h1) (S _ _ h2) (S _ _ h3) (h.same S)
theorem Sides.snoc {H : Hp} {s a b : Addr} {r q : List Int} (h1 : H s = some (.lst [.ref a, .ref b])) (h2 : H a = some (.lst (vints r))) (h3 : H b = some (.lst (vints q))) : ∀ {ss : List Addr} {tk gv : List (List Int)}, Sides H ss tk gv → Sides H (ss ++ [s]) (tk ++ [r]) (gv ++ [q])
  | _, _, _, .nil => .cons h1 h2 h3 .nil
  | _, _, _, .cons k1 k2 k3 h => .cons k1 k2 k3 (h.snoc h1 h2 h3)
theorem Sides.lenT {H : Hp} : ∀ {ss : List Addr} {tk gv : List (List Int)}, Sides H ss tk gv → ss.length = tk.length
  | _, _, _, .nil => rfl
  | _, _, _, .cons _ _ _ h => congrArg (· + 1) h.lenT
theorem Sides.lenG {H : Hp} : ∀ {ss : List Addr} {tk gv : List (List Int)}, Sides H ss tk gv → gv.length = tk.length
  | _, _, _, .nil => rfl
  | _, _, _, .cons _ _ _ h => congrArg (· + 1) h.lenG
theorem Sides.get {H : Hp} : ∀ {ss : List Addr} {tk gv : List (List Int)} {i : Nat} {s : Addr}, Sides H ss tk gv → ss[i]? = some s → ∃ a b, H s = some (.lst [.ref a, .ref b]) ∧ H a = some (.lst (vints (tk.getD i []))) ∧ H b = some (.lst (vints (gv.getD i [])))
  | _, _, _, 0, _, .cons h1 h2 h3 _, e => by cases e; exact ⟨_, _, h1, h2, h3⟩
  | _, _, _, i + 1, _, .cons _ _ _ h, e => h.get (i := i) (by simpa using e)
theorem range_map {α β : Type} (d : α) (f : α → β) : ∀ (l : List α), (List.range l.length).map (fun i => f (l.getD i d)) = l.map f := fun l => by
  refine List.ext_getElem (by simp) fun i h1 h2 => ?_
  have hi : i < l.length := by simpa using h1
  rw [List.getElem_map, List.getElem_map, List.getElem_range, List.getD_eq_getElem?_getD, List.getElem?_eq_getElem hi]
  rfl
def gnP (tk gv : List (List Int)) : List (List Int) := (List.range tk.length).map fun d => sub (gv.getD d []) (tk.getD d [])
theorem gnP_len (tk gv : List (List Int)) : (gnP tk gv).length = tk.length := by unfold gnP; rw [List.length_map, List.length_range]
theorem gnP_at {tk gv : List (List Int)} {d : Nat} (h : d < tk.length) : (gnP tk gv).getD d [] = sub (gv.getD d []) (tk.getD d []) := by
  unfold gnP
  rw [List.getD_eq_getElem?_getD, List.getElem?_map, List.getElem?_range h]
  rfl
theorem gnP_wd {z : Nat} {tk gv : List (List Int)} (wt : Wd z tk) (wg : Wd z gv) (gl : gv.length = tk.length) : ∀ r ∈ gnP tk gv, r.length = z := fun r hr => by
  obtain ⟨d, hd, rfl⟩ := List.mem_map.mp hr
  have := List.mem_range.mp hd
  exact sub_len (wg.at (by omega)) (wt.at this)
theorem wsum_at {xs ys : List Int} {z : Nat} (h1 : xs.length = z) (h2 : ys.length = z) : ((List.range z).map fun k => xs.getD k 0 * ys.getD k 0).sum = wsum xs ys := by
  unfold wsum
  congr 1
  refine List.ext_getElem (by simp [h1, h2]) fun i hi hj => ?_
  have hi' : i < z := by simpa using hi
  rw [List.getElem_map, List.getElem_range, List.getElem_zipWith, getD_at (by omega), getD_at (by omega)]
theorem wsum_cons (x y : Int) (xs ys : List Int) : wsum (x :: xs) (y :: ys) = x * y + wsum xs ys := by unfold wsum; rw [List.zipWith_cons_cons, List.sum_cons]
theorem wsum_plus : ∀ {ws a b : List Int}, a.length = b.length → wsum ws (add a b) = wsum ws a + wsum ws b
  | [], _, _, _ => by simp [wsum]
  | w :: ws, [], [], _ => by simp [wsum, add]
  | w :: ws, x :: a, y :: b, h => by
    have ih := wsum_plus (ws := ws) (a := a) (b := b) (by simpa using h)
    show wsum (w :: ws) ((x + y) :: add a b) = _
    rw [wsum_cons, wsum_cons, wsum_cons, ih, Int.mul_add]
    omega
theorem wsum_mul (m : Int) : ∀ (ws a : List Int), wsum ws (a.map fun y => m * y) = m * wsum ws a
  | [], _ => by simp [wsum]
  | w :: ws, [] => by simp [wsum]
  | w :: ws, x :: a => by
    rw [List.map_cons, wsum_cons, wsum_cons, wsum_mul m ws a, Int.mul_add, Int.mul_left_comm]
theorem wsum_nought : ∀ (ws : List Int) (z : Nat), wsum ws (List.replicate z 0) = 0
  | [], _ => by simp [wsum]
  | w :: ws, 0 => by simp [wsum]
  | w :: ws, z + 1 => by rw [List.replicate_succ, wsum_cons, wsum_nought ws z]; simp
section
variable {X : Cx}
inductive rNeRw (K : PySem.W.Frag) (x : V) (y : V) (H : Hp) (Q : VK) : Prop
  | mk : ∀ (a b : Addr) (as bs : List Addr) (rs : List (List Int)), (x = .ref a) → (y = .ref b) → (SqL K H a (as.map V.ref)) → (SqL K H b (bs.map V.ref)) → (Rows H as rs) → (Rows H bs rs) → (Q (.bl false) H) → rNeRw K x y H Q
/-- two lists of rows that are alike: != tells False -/
theorem op_neRw (hu : X.A.units + 2 < cLine) : OpR X (compareOp .NotEq) (rNeRw X.K) := by
  intro pins s σ H x y v u Q I rx ry h
  obtain ⟨a, b, as, bs, rs, rfl, rfl, qa, qb, ra, rb, q⟩ := h
  cases rx
  cases ry
  refine (rc_true I (by omega) qa qb (by rw [List.length_map, List.length_map, ra.length, rb.length]) fun j x y u v hx hy ru rv => ?_).2 _ _ _ _ ⟨.bl _, H, I, rfl, q⟩
  obtain ⟨c, hc, rfl⟩ := refs_get hx
  obtain ⟨d, hd, rfl⟩ := refs_get hy
  obtain ⟨r, hr, ec⟩ := Paired.getL ra hc
  obtain ⟨r', hr', ed⟩ := Paired.getL rb hd
  rw [hr] at hr'
  cases hr'
  cases ru
  cases rv
  exact eq_flat I (by rw [in1_units]; omega) (SqL.of ec) (SqL.of ed) (flat_int r)
end
end L2
namespace L2
open PySem PySem.Spec PyProof.Rows SeqAt
theorem cut_from (xs : List V) (k : Nat) : cutV xs (some (k : Int)) none = xs.drop k := by
  unfold cutV
  rw [HT.sIx_none, HT.sIx_nat]
  by_cases h : k ≤ xs.length
  · rw [Nat.min_eq_left h, List.take_of_length_le (by rw [List.length_drop]; omega)]
  · rw [Nat.min_eq_right (by omega), List.drop_eq_nil_of_le (Nat.le_refl _), List.drop_eq_nil_of_le (by omega), List.take_nil]
theorem cut_turn (tk : List Int) (k : Nat) : cutV (vints tk) (some (k : Int)) none ++ cutV (vints tk) none (some (k : Int)) = vints (tk.drop k ++ tk.take k) := by
  rw [cut_from, cut_take]; unfold vints; rw [List.map_append, List.map_drop, List.map_take]
theorem okK_turn {kd z : Nat} {tk : List Int} (h : okK kd z tk) (k : Nat) : okK kd z (tk.drop k ++ tk.take k) := by
  refine ⟨by rw [List.length_append, List.length_drop, List.length_take]; have := h.1; omega, fun x hx => ?_⟩
  rcases List.mem_append.mp hx with q | q
  · exact h.2 x (List.mem_of_mem_drop q)
  · exact h.2 x (List.mem_of_mem_take q)
end L2
namespace L2
open PySem PySem.Spec PyProof.Rows SeqAt
/-- over a list of addresses: a truth value for each of them -/
theorem comp_boolsOf {K : PySem.W.Frag} {te : Blk → TE} {H1 : Hp} {Z : List V → Hp → Prop} {a : Addr} {ss : List Addr} {τ : St} (f : Nat → Bool) (ha : SqL K H1 a (ss.map V.ref)) (hn : ss.length < sizeLine)
    (hs : ∀ B i s H, ss[i]? = some s → Same H1 H → ∀ Q' : VK, (∀ H2, Same H H2 → Q' (.bl (f i)) H2) → te B (some (.ref s) :: τ) H Q')
    (hd : ∀ H2, Same H1 H2 → Z (((List.range ss.length).map f).map V.bl) H2) :
    ∃ W : Nat → Nat → List V → St → Hp → Prop, (∃ m, W 0 m [] (none :: τ) H1) ∧ ∀ B : Blk, CompW (Itl K a) (gName 0) tTrue (te B) W Z := by
  refine comp_listP (g := fun _ => gName 0) (tt := fun _ => tTrue) (K := K) (a := a) (xs := ss.map V.ref) (fun i ys σ H => ∃ v : Option V, σ = v :: τ ∧ Same H1 H ∧ ys = ((List.range i).map f).map V.bl) ⟨none, rfl, Same.refl _, rfl⟩ ?_ ?_ ?_
  · rintro i ys σ H hi ⟨v, rfl, S, rfl⟩
    rw [List.length_map] at hi
    refine ⟨S.seq ha, ?_⟩
    rw [List.length_map, List.length_map, List.length_range]; omega
  · rintro B i x ys σ H hx ⟨v, rfl, S, rfl⟩
    obtain ⟨s, hs1, rfl⟩ := refs_get hx
    try dsimp only [gName, tTrue]
    rw [if_pos rfl]
    refine hs B i s H hs1 S _ fun H2 S2 => ⟨_, rfl, S.trans S2, ?_⟩
    rw [List.range_succ, List.map_append, List.map_append]
    rfl
  · rintro ys σ H ⟨v, rfl, S, rfl⟩
    rw [List.length_map]
    exact hd H S
theorem all_range {α : Type} (d : α) (f : α → Bool) (l : List α) : (((List.range l.length).map fun i => f (l.getD i d)).all id) = l.all f := by
  rw [range_map d f l, List.all_map]
  rfl
end L2
namespace L2
open PySem PySem.Spec PyProof.Rows SeqAt
end L2

namespace L2
open PySem PySem.Spec PyProof.Rows SeqAt
def era (H : Hp) (p : Addr) : Hp := fun q => if q = p then none else H q
theorem era_same (H : Hp) (p : Addr) : Same (era H p) H := fun q o e => by
  unfold era at e
  split at e
  · cases e
  · exact e
theorem era_mono {H H' : Hp} (S : Same H H') (p : Addr) : Same (era H p) (era H' p) := fun q o e => by
  unfold era at e ⊢
  split at e
  · cases e
  · rename_i h; rw [if_neg h]; exact S _ _ e
theorem era_upd (H : Hp) (p : Addr) (o : HO) : era (upd H p o) p = era H p := by
  funext q
  unfold era
  by_cases h : q = p
  · rw [if_pos h, if_pos h]
  · rw [if_neg h, if_neg h, upd_ne h]
theorem era_at {H : Hp} {p q : Addr} {o : HO} (h : q ≠ p) (e : H q = some o) : era H p q = some o := by
  unfold era
  rw [if_neg h]; exact e
theorem ints_ne_refs {H : Hp} {p q : Addr} {r : List Int} {ss : List Addr} (h1 : H p = some (.lst (vints r))) (h2 : H q = some (.lst (ss.map V.ref))) (hr : 1 ≤ r.length) : p ≠ q := fun e => by
  rw [e, h2] at h1
  injection h1 with h1
  injection h1 with h1
  cases r with
  | nil => simp at hr
  | cons x r => cases ss with
    | nil => cases h1
    | cons s ss => injection h1 with h1 _; cases h1
theorem Sides.at {H : Hp} {ss : List Addr} {tk gv : List (List Int)} {i : Nat} (h : Sides H ss tk gv) (hi : i < ss.length) : ∃ s a b, atI (ss.map V.ref) (i : Int) = some (.ref s) ∧ H s = some (.lst [.ref a, .ref b]) ∧ H a = some (.lst (vints (tk.getD i []))) ∧ H b = some (.lst (vints (gv.getD i []))) := by
  obtain ⟨a, b, h1, h2, h3⟩ := h.get (List.getElem?_eq_getElem hi)
  refine ⟨ss[i], a, b, ?_, h1, h2, h3⟩
  exact atI_nat (by rw [List.getElem?_map, List.getElem?_eq_getElem hi]; rfl)
/-- [s[k] for s in sides]: the rows of one side -/
theorem comp_side {K : PySem.W.Frag} {te : Blk → TE} {H1 : Hp} {Z : List V → Hp → Prop} {a : Addr} {ss : List Addr} {rs : List (List Int)} {τ : St} (ha : SqL K H1 a (ss.map V.ref)) (hn : ss.length < sizeLine) (hl : rs.length = ss.length)
    (hs : ∀ B i s, ss[i]? = some s → ∀ Q' : VK, (∀ q, H1 q = some (.lst (vints (rs.getD i []))) → Q' (.ref q) H1) → te B (some (.ref s) :: τ) H1 Q')
    (hd : ∀ as, Rows H1 as rs → Z (as.map V.ref) H1) :
    ∃ W : Nat → Nat → List V → St → Hp → Prop, (∃ m, W 0 m [] (none :: τ) H1) ∧ ∀ B : Blk, CompW (Itl K a) (gName 0) tTrue (te B) W Z := by
  refine comp_listP (g := fun _ => gName 0) (tt := fun _ => tTrue) (K := K) (a := a) (xs := ss.map V.ref) (fun i ys σ H => ∃ (v : Option V) (as : List Addr), σ = v :: τ ∧ H = H1 ∧ ys = as.map V.ref ∧ Rows H1 as (rs.take i)) ⟨none, [], rfl, rfl, rfl, .nil⟩ ?_ ?_ ?_
  · rintro i ys σ H hi ⟨v, as, rfl, rfl, rfl, R⟩
    rw [List.length_map] at hi
    refine ⟨ha, ?_⟩
    rw [List.length_map, R.length, List.length_take]; omega
  · rintro B i x ys σ H hx ⟨v, as, rfl, rfl, rfl, R⟩
    obtain ⟨s, hs1, rfl⟩ := refs_get hx
    have hi := (List.getElem?_eq_some_iff.mp hs1).1
    try dsimp only [gName, tTrue]
    rw [if_pos rfl]
    refine hs B i s hs1 _ fun q hq => ⟨_, as ++ [q], rfl, rfl, (vrefs_snoc _ _).symm, ?_⟩
    rw [List.take_add_one, List.getElem?_eq_getElem (by omega), Option.toList_some]
    rw [getDr (by omega)] at hq
    exact R.snoc hq
  · rintro ys σ H ⟨v, as, rfl, rfl, rfl, R⟩
    rw [List.length_map, ← hl, List.take_length] at R
    exact hd as R
def okS (z : Nat) (r : List Int) : Prop := r.length = z ∧ ∀ x ∈ r, 0 ≤ x ∧ x ≤ 3
theorem okS_of {kd z : Nat} {r : List Int} (h : okK kd z r) (hk : kd ≠ 2) : okS z r := ⟨h.1, fun x hx => ⟨(h.2 x hx).1, (h.2 x hx).2.2 hk⟩⟩
theorem okK_bag {kd z : Nat} {r : List Int} (h : okK kd z r) : okBag z r := ⟨h.1, fun x hx => ⟨(h.2 x hx).1, (h.2 x hx).2.1⟩⟩
theorem okS_two {z : Nat} {r : List Int} (h : okS z r) : okBag z (r.map fun x => 2 * x) := ⟨by rw [List.length_map]; exact h.1, fun x hx => by
  obtain ⟨y, hy, rfl⟩ := List.mem_map.mp hx
  have := h.2 y hy
  omega⟩
theorem part_bag {pr t r : Int} (p1 : 2 ≤ pr) (p2 : pr ≤ 1000) (t0 : 0 ≤ t) (t3 : t ≤ 3) (r0 : 0 ≤ r) (r1 : r ≤ 1000) : 0 ≤ pr * t + r ∧ pr * t + r ≤ 1000000000 := by
  have e : t = 0 ∨ t = 1 ∨ t = 2 ∨ t = 3 := by omega
  rcases e with e | e | e | e <;> rw [e] <;> omega
def mulB (n : Int) (p : Nat) : Bool := if p = 0 then decide (n = 0) else decide (n % (p : Int) = 0)
def unB (rows : List (List Int)) (ws : List Int) (p : Nat) : Bool := rows.all fun r => mulB (wsum ws r) p
theorem dec_intD {i j : Int} : decide (V.int i = V.int j) = decide (i = j) := by
  by_cases h : i = j
  · rw [h, decide_eq_true rfl, decide_eq_true rfl]
  · rw [decide_eq_false h, decide_eq_false fun e => h (by injection e)]
theorem kit_six {K : PySem.W.Frag} {t a b c d e f : Value} (h1 : PySem.W.kitOne K t a = some false) (h2 : PySem.W.kitOne K t b = some false) (h3 : PySem.W.kitOne K t c = some false) (h4 : PySem.W.kitOne K t d = some false) (h5 : PySem.W.kitOne K t e = some false) (h6 : PySem.W.kitOne K t f = some false) : PySem.W.kitAny K t [a, b, c, d, e, f] = some false := by
  simp only [PySem.W.kitAny, h1, h2, h3, h4, h5, h6]
end L2

namespace L2
open PySem PySem.Spec PyProof.Rows SeqAt
theorem op_isB {X : Cx} : OpR X (compareOp .Is) (fun x y H Q => ∃ c d, x = .bl c ∧ y = .bl d ∧ Q (.bl (c == d)) H) := by
  intro pins s σ H x y v u Q I rx ry h
  obtain ⟨c, d, rfl, rfl, q⟩ := h
  cases rx
  cases ry
  exact is_bool (fin_bl I q rfl)
theorem rng_get {n k : Nat} (f : Nat → Int) (h : k < n) : ((List.range n).map f).getD k 0 = f k := by
  rw [List.getD_eq_getElem?_getD, List.getElem?_map, List.getElem?_range h]
  rfl
theorem mulB_iff {n : Int} {p : Nat} : mulB n p = true ↔ (p : Int) ∣ n := by
  unfold mulB
  by_cases h : p = 0
  · rw [if_pos h, decide_eq_true_eq, h]
    exact ⟨fun e => by rw [e]; exact Int.dvd_refl _, fun e => Int.zero_dvd.mp e⟩
  · rw [if_neg h, decide_eq_true_eq]
    exact (Int.dvd_iff_emod_eq_zero ..).symm
/-- a bag that the rows reach: what is nought on every row is nought on what it changed -/
def Rch (z : Nat) (rows : List (List Int)) (fs bag : List Int) : Prop := ∀ (ws : List Int) (p : Nat), ws.length = z → unB rows ws p = true → mulB (wsum ws (sub bag fs)) p = true
theorem rch_start {z : Nat} {rows : List (List Int)} {fs : List Int} (hf : fs.length = z) : Rch z rows fs fs := fun ws p _ _ => by
  have e : sub fs fs = List.replicate z 0 := by
    refine ext_at (z := z) (sub_len hf hf) List.length_replicate fun k hk => ?_
    rw [sub_at hf hf hk, List.getD_eq_getElem?_getD (l := List.replicate z 0), List.getElem?_replicate, if_pos hk]
    show _ = (0 : Int)
    omega
  rw [e, wsum_nought]
  exact mulB_iff.mpr (Int.dvd_zero _)
theorem rch_step {z : Nat} {rows : List (List Int)} {fs bag r : List Int} {m : Int} (hf : fs.length = z) (hb : bag.length = z) (hr : r.length = z) (rm : r ∈ rows) (h : Rch z rows fs bag) : Rch z rows fs ((List.range z).map fun b => bag.getD b 0 + m * r.getD b 0) := fun ws p hw hu => by
  have lz : ((List.range z).map fun b => bag.getD b 0 + m * r.getD b 0).length = z := by simp
  have e : sub ((List.range z).map fun b => bag.getD b 0 + m * r.getD b 0) fs = add (sub bag fs) (r.map fun y => m * y) := by
    refine ext_at (z := z) (sub_len lz hf) (by unfold add; rw [List.length_zipWith, sub_len hb hf, List.length_map, hr, Nat.min_self]) fun k hk => ?_
    rw [sub_at lz hf hk, rng_get (fun b => bag.getD b 0 + m * r.getD b 0) hk]
    have e2 : (add (sub bag fs) (r.map fun y => m * y)).getD k 0 = (sub bag fs).getD k 0 + (r.map fun y => m * y).getD k 0 := by
      unfold add
      rw [List.getD_eq_getElem?_getD, List.getElem?_zipWith, List.getD_eq_getElem?_getD, List.getD_eq_getElem?_getD, List.getElem?_eq_getElem (by rw [sub_len hb hf]; exact hk), List.getElem?_eq_getElem (by rw [List.length_map, hr]; exact hk)]
      rfl
    rw [e2, sub_at hb hf hk, map_at (by omega)]
    omega
  have h1 := h ws p hw hu
  have h2 : mulB (wsum ws r) p = true := List.all_eq_true.mp hu r rm
  rw [e, wsum_plus (by rw [sub_len hb hf, List.length_map, hr]), wsum_mul]
  exact mulB_iff.mpr (Int.dvd_add (mulB_iff.mp h1) (Int.dvd_mul_of_dvd_right (mulB_iff.mp h2)))
end L2


namespace Law
open PySem L2
def top (i : Nat) : Stmt := PySem.Challenge.pw_beadhall_k38_told_apart.main.body.getD i (.Pass ⟨0, 0, 0, 0⟩)
abbrev s_law_mixed : Stmt := top 30
abbrev s_law_number : Stmt := top 31
abbrev s_law_door : Stmt := top 32
abbrev s_law_net : Stmt := top 33
abbrev s_law_weights : Stmt := top 37
abbrev s_law_part : Stmt := top 38
abbrev s_law_gains : Stmt := top 35
abbrev s_law_behind : Stmt := top 40
abbrev s_law_tally : Stmt := top 39
abbrev s_law_bag : Stmt := top 41
abbrev s_law_is_nought : Stmt := top 42
abbrev s_law_weigh : Stmt := top 36
abbrev s_is_name : Stmt := top 21
abbrev s_refuse_bad_names : Stmt := top 20
abbrev s_refuse_bad_bags : Stmt := top 22
abbrev s_Net_init : Stmt := inClass (top 19) 0
abbrev s_law_made : Stmt := top 34
abbrev s_refuse_unlike : Stmt := top 10
abbrev s_less : Stmt := top 11
abbrev s_gain : Stmt := top 23
abbrev s_gains : Stmt := top 25
abbrev s_is_multiple : Stmt := top 27
abbrev s_weighed : Stmt := top 12
abbrev s_unmoved : Stmt := top 26
abbrev s_tells_apart : Stmt := top 28
abbrev s_law_refused : Stmt := top 43
abbrev s_law : Stmt := top 44
inductive sp_law_mixed (K : PySem.W.Frag) (vs : List V) (H : Hp) (Q : VK) (z_3 : XK) : Prop
  | mk : ∀ (a : Addr) (ns : List Int) (k : Nat), (vs = [.ref a, .int k]) → (SqL K H a (vints ns)) → (ns.length ≤ 63) → (k < 1000) → (∀ n : Int, 0 ≤ n → n < 2147483647 → Q (.int n) H) → sp_law_mixed K vs H Q z_3
inductive sp_law_number (K : PySem.W.Frag) (vs : List V) (H : Hp) (Q : VK) (z_3 : XK) : Prop
  | mk : ∀ (a : Addr) (ns : List Int) (k kd : Nat), (vs = [.ref a, .int k, .int kd]) → (SqL K H a (vints ns)) → (ns.length ≤ 63) → (k < 1000) → (∀ n : Int, nbK kd n → Q (.int n) H) → sp_law_number K vs H Q z_3
inductive sp_law_door (K : PySem.W.Frag) (vs : List V) (H : Hp) (Q : VK) (z_3 : XK) : Prop
  | mk : ∀ (a pa p0 p1 : Addr) (ns t0 g0 : List Int) (d z kd : Nat), (vs = [.ref a, .int d, .int z, .int kd, .ref pa]) → (SqL K H a (vints ns)) → (ns.length ≤ 63) → (d ≤ 8) → (1 ≤ z) → (z ≤ 6) → (SqL K H pa [.ref p0, .ref p1]) → (SqL K H p0 (vints t0)) → (SqL K H p1 (vints g0)) → ((kd = 1 → d % 2 = 1 → okS z t0 ∧ okS z g0)) → (∀ (p pt pg : Addr) (tk gv : List Int) (H' : Hp), H p = none → Same H H' → H' p = some (.lst [.ref pt, .ref pg]) → H' pt = some (.lst (vints tk)) → H' pg = some (.lst (vints gv)) → okBag z tk → okBag z gv → (kd = 1 → d % 2 = 0 → okS z tk ∧ okS z gv) → Q (.ref p) H') → sp_law_door K vs H Q z_3
inductive sp_law_net (K : PySem.W.Frag) (vs : List V) (H : Hp) (Q : VK) (z_3 : XK) : Prop
  | mk : ∀ (a : Addr) (ns : List Int), (vs = [.ref a]) → (SqL K H a (vints ns)) → (ns.length ≤ 63) → (∀ (p pt pg pf : Addr) (ts gs : List Addr) (z : Nat) (tk gv : List (List Int)) (fs : List Int) (H' : Hp), H p = none → Same H H' → PlanP H' p pt pg pf ts gs tk gv fs → OkP z tk gv fs → Q (.ref p) H') → sp_law_net K vs H Q z_3
inductive sp_law_weights (K : PySem.W.Frag) (vs : List V) (H : Hp) (Q : VK) (z_3 : XK) : Prop
  | mk : ∀ (a : Addr) (ns : List Int) (z : Nat), (vs = [.ref a, .int z]) → (SqL K H a (vints ns)) → (ns.length ≤ 63) → (z ≤ 8) → (∀ (p : Addr) (ms : List Int) (H' : Hp), H p = none → Same H H' → H' p = some (.lst (vints ms)) → ms.length = z → (∀ m ∈ ms, m.natAbs < 10 ^ 70) → Q (.ref p) H') → sp_law_weights K vs H Q z_3
inductive sp_law_part (K : PySem.W.Frag) (vs : List V) (H : Hp) (Q : VK) (z_3 : XK) : Prop
  | mk : ∀ (a : Addr) (ns : List Int), (vs = [.ref a]) → (SqL K H a (vints ns)) → (ns.length ≤ 63) → (∀ (p : Nat) (H' : Hp), Same H H' → Q (.int p) H') → sp_law_part K vs H Q z_3
inductive sp_law_gains (K : PySem.W.Frag) (vs : List V) (H : Hp) (Q : VK) (z_3 : XK) : Prop
  | mk : ∀ (p pt pg pf : Addr) (ts gs : List Addr) (z : Nat) (tk gv : List (List Int)) (fs : List Int), (vs = [.ref p]) → (PlanP H p pt pg pf ts gs tk gv fs) → (OkP z tk gv fs) → (∀ (q : Addr) (as : List Addr) (H' : Hp), H q = none → Same H H' → H' q = some (.lst (as.map V.ref)) → Rows H' as (gnP tk gv) → Q (.ref q) H') → sp_law_gains K vs H Q z_3
inductive sp_law_behind (K : PySem.W.Frag) (vs : List V) (H : Hp) (Q : VK) (z_3 : XK) : Prop
  | mk : ∀ (p pt pg pf c : Addr) (ts gs : List Addr) (z : Nat) (tk gv : List (List Int)) (fs ms : List Int), (vs = [.ref p, .ref c]) → (PlanP H p pt pg pf ts gs tk gv fs) → (OkP z tk gv fs) → (SqL K H c (vints ms)) → (ms.length = tk.length) → ((∀ m ∈ ms, m.natAbs ≤ 63000000000)) → (∀ (q : Addr) (bag : List Int) (H' : Hp), H q = none → Same H H' → H' q = some (.lst (vints bag)) → bag.length = z → (∀ y ∈ bag, y.natAbs ≤ 10 ^ 30) → Rch z (gnP tk gv) fs bag → Q (.ref q) H') → sp_law_behind K vs H Q z_3
inductive sp_law_tally (K : PySem.W.Frag) (vs : List V) (H : Hp) (Q : VK) (z_3 : XK) : Prop
  | mk : ∀ (a : Addr) (ns : List Int) (z : Nat), (vs = [.ref a, .int z]) → (SqL K H a (vints ns)) → (ns.length ≤ 63) → (z ≤ 8) → (∀ (p : Addr) (ms : List Int) (H' : Hp), H p = none → Same H H' → H' p = some (.lst (vints ms)) → ms.length = z → (∀ m ∈ ms, m.natAbs ≤ 63000000000) → Q (.ref p) H') → sp_law_tally K vs H Q z_3
inductive sp_law_bag (K : PySem.W.Frag) (vs : List V) (H : Hp) (Q : VK) (z_3 : XK) : Prop
  | mk : ∀ (a p pt pg pf : Addr) (ns : List Int) (ts gs : List Addr) (z : Nat) (tk gv : List (List Int)) (fs : List Int), (vs = [.ref a, .ref p]) → (SqL K H a (vints ns)) → (ns.length ≤ 63) → (PlanP H p pt pg pf ts gs tk gv fs) → (OkP z tk gv fs) → (∀ (q : Addr) (bag : List Int) (H' : Hp), H q = none → Same H H' → H' q = some (.lst (vints bag)) → bag.length = z → (∀ y ∈ bag, y.natAbs ≤ 10 ^ 31) → Q (.ref q) H') → sp_law_bag K vs H Q z_3
inductive sp_law_is_nought (K : PySem.W.Frag) (vs : List V) (H : Hp) (Q : VK) (z_3 : XK) : Prop
  | mk : ∀ (n : Int) (p : Nat), (vs = [.int n, .int p]) → (Q (.bl (mulB n p)) H) → sp_law_is_nought K vs H Q z_3
inductive sp_law_weigh (K : PySem.W.Frag) (vs : List V) (H : Hp) (Q : VK) (z_3 : XK) : Prop
  | mk : ∀ (a b : Addr) (ws os : List Int), (vs = [.ref a, .ref b]) → (SqL K H a (vints ws)) → (SqL K H b (vints os)) → (ws.length = os.length) → (os.length ≤ 70) → ((∀ x ∈ ws, x.natAbs < 10 ^ 70)) → ((∀ y ∈ os, y.natAbs < 10 ^ 70)) → (∀ (H' : Hp), Same H H' → Q (.int (wsum ws os)) H') → sp_law_weigh K vs H Q z_3
inductive sp_is_name (K : PySem.W.Frag) (vs : List V) (H : Hp) (Q : VK) (z_3 : XK) : Prop
  | mk : ∀ (x : Str), (vs = [.str x]) → (x.cps.all (· < 128) = true) → (x.length ≤ 1000) → (∀ H', Same H H' → Q (.bl (okName x)) H') → sp_is_name K vs H Q z_3
inductive sp_refuse_bad_names (K : PySem.W.Frag) (vs : List V) (H : Hp) (Q : VK) (z_3 : XK) : Prop
  | mk : ∀ (a : Addr) (ys : List Str) (lo hi : Int), (vs = [.ref a, .int lo, .int hi]) → (SqL K H a (vstrs ys)) → (lo ≤ ys.length) → (ys.length ≤ hi) → (ys.length ≤ 60) → ((∀ y ∈ ys, okName y = true)) → (ys.Nodup) → (∀ H', Same H H' → Q .non H') → sp_refuse_bad_names K vs H Q z_3
inductive sp_refuse_bad_bags (K : PySem.W.Frag) (vs : List V) (H : Hp) (Q : VK) (z_3 : XK) : Prop
  | mk : ∀ (a : Addr) (as : List Addr) (rs : List (List Int)) (n : Nat), (vs = [.ref a, .int rs.length, .int n]) → (SqL K H a (as.map V.ref)) → (Rows H as rs) → ((∀ r ∈ rs, okBag n r)) → (Q .non H) → sp_refuse_bad_bags K vs H Q z_3
inductive sp_Net_init (C : Addr) (K : PySem.W.Frag) (vs : List V) (H : Hp) (Q : VK) (z_3 : XK) : Prop
  | mk : ∀ (x dx pb pd pt pg pf : Addr) (ts gs : List Addr) (N : NetV), (vs = [.ref x, .ref pb, .ref pd, .ref pt, .ref pg, .ref pf]) → (H x = some (.ins C dx [])) → (N.Ok) → (SqL K H pb (vstrs N.bowls)) → (SqL K H pd (vstrs N.doors)) → (SqL K H pt (ts.map V.ref)) → (Rows H ts N.takes) → (SqL K H pg (gs.map V.ref)) → (Rows H gs N.gives) → (H pf = some (.lst (vints N.first))) → (∀ (b d t g f : Addr) (ts' gs' : List Addr) (H' : Hp), (∀ a ∈ [b, d, t, g, f] ++ ts' ++ gs', H a = none) → (∀ q o, H q = some o → q ≠ x → H' q = some o) → NetIn C H' x dx b d t g f ts' gs' N → Q .non H') → sp_Net_init C K vs H Q z_3
inductive sp_law_made (C : Addr) (K : PySem.W.Frag) (vs : List V) (H : Hp) (Q : VK) (z_3 : XK) : Prop
  | mk : ∀ (p pt pg pf : Addr) (ts gs : List Addr) (z : Nat) (tk gv : List (List Int)) (fs : List Int), (vs = [.ref p]) → (PlanP H p pt pg pf ts gs tk gv fs) → (OkP z tk gv fs) → (∀ (x dx b d t g f : Addr) (ts' gs' : List Addr) (H' : Hp), H x = none → Same H H' → NetIn C H' x dx b d t g f ts' gs' (netP tk gv fs) → (netP tk gv fs).Ok → Q (.ref x) H') → sp_law_made C K vs H Q z_3
inductive sp_refuse_unlike (C : Addr) (K : PySem.W.Frag) (vs : List V) (H : Hp) (Q : VK) (E : XK) : Prop
  | mk : ∀ (a b : Addr) (xs ys : List V), (vs = [.ref a, .ref b]) → (SqL K H a xs) → (SqL K H b ys) → ((xs.length = ys.length → Q .non H)) → ((xs.length ≠ ys.length → E (.ref C) none H)) → sp_refuse_unlike C K vs H Q E
inductive sp_less (C : Addr) (K : PySem.W.Frag) (vs : List V) (H : Hp) (Q : VK) (E : XK) : Prop
  | mk : ∀ (a b : Addr) (xs ys : List Int), (vs = [.ref a, .ref b]) → (SqL K H a (vints xs)) → (SqL K H b (vints ys)) → (xs.length ≤ 70) → ((xs.length = ys.length → ∀ (p : Addr) (H' : Hp), H p = none → Same H H' → H' p = some (.lst (vints (List.zipWith (fun i j => i - j) xs ys))) → Q (.ref p) H')) → ((xs.length ≠ ys.length → E (.ref C) none H)) → sp_less C K vs H Q E
inductive sp_gain (C : Addr) (K : PySem.W.Frag) (vs : List V) (H : Hp) (Q : VK) (z_3 : XK) : Prop
  | mk : ∀ (x dx b d t g f : Addr) (ts gs : List Addr) (N : NetV) (k : Nat) (ht : k < N.takes.length) (hg : k < N.gives.length), (vs = [.ref x, .int k]) → (NetIn C H x dx b d t g f ts gs N) → (N.Ok) → (∀ (p : Addr) (H' : Hp), H p = none → Same H H' → H' p = some (.lst (vints (List.zipWith (fun i j => i - j) N.gives[k] N.takes[k]))) → Q (.ref p) H') → sp_gain C K vs H Q z_3
inductive sp_gains (C : Addr) (K : PySem.W.Frag) (vs : List V) (H : Hp) (Q : VK) (z_3 : XK) : Prop
  | mk : ∀ (x dx b d t g f : Addr) (ts gs : List Addr) (N : NetV), (vs = [.ref x]) → (NetIn C H x dx b d t g f ts gs N) → (N.Ok) → (∀ (q : Addr) (as : List Addr) (H' : Hp), H q = none → Same H H' → H' q = some (.lst (as.map V.ref)) → Rows H' as (gnP N.takes N.gives) → Q (.ref q) H') → sp_gains C K vs H Q z_3
inductive sp_is_multiple (K : PySem.W.Frag) (vs : List V) (H : Hp) (Q : VK) (z_3 : XK) : Prop
  | mk : ∀ (n : Int) (p : Nat), (vs = [.int n, .int p]) → (Q (.bl (mulB n p)) H) → sp_is_multiple K vs H Q z_3
inductive sp_weighed (K : PySem.W.Frag) (vs : List V) (H : Hp) (Q : VK) (z_3 : XK) : Prop
  | mk : ∀ (a b : Addr) (xs ys : List Int), (vs = [.ref a, .ref b]) → (SqL K H a (vints xs)) → (SqL K H b (vints ys)) → (xs.length = ys.length) → (xs.length ≤ 70) → ((∀ x ∈ xs, x.natAbs < 10 ^ 70)) → ((∀ y ∈ ys, y.natAbs < 10 ^ 70)) → (∀ (H' : Hp), Same H H' → Q (.int (wsum xs ys)) H') → sp_weighed K vs H Q z_3
inductive sp_unmoved (C G : Addr) (K : PySem.W.Frag) (vs : List V) (H : Hp) (Q : VK) (E : XK) : Prop
  | mk : ∀ (x dx b d t g f c : Addr) (ts gs : List Addr) (N : NetV) (ws : List Int) (p : Nat), (vs = [.ref x, .ref c, .int p]) → (NetIn C H x dx b d t g f ts gs N) → (N.Ok) → (SqL K H c (vints ws)) → ((∀ w ∈ ws, w.natAbs < 10 ^ 70)) → ((N.bowls.length = ws.length → ∀ (H' : Hp), Same H H' → Q (.bl (unB (gnP N.takes N.gives) ws p)) H')) → ((N.bowls.length ≠ ws.length → E (.ref G) none H)) → sp_unmoved C G K vs H Q E
inductive sp_tells_apart (C G : Addr) (K : PySem.W.Frag) (vs : List V) (H : Hp) (Q : VK) (E : XK) : Prop
  | mk : ∀ (x dx b d t g f c e : Addr) (ts gs : List Addr) (N : NetV) (ws bs : List Int) (p : Nat), (vs = [.ref x, .ref c, .int p, .ref e]) → (NetIn C H x dx b d t g f ts gs N) → (N.Ok) → (SqL K H c (vints ws)) → (SqL K H e (vints bs)) → ((∀ w ∈ ws, w.natAbs < 10 ^ 70)) → ((∀ y ∈ bs, y.natAbs < 10 ^ 40)) → (bs.length ≤ 70) → ((bs.length = N.bowls.length → N.bowls.length = ws.length → ∀ (H' : Hp), Same H H' → Q (.bl (unB (gnP N.takes N.gives) ws p && !mulB (wsum ws (sub bs N.first)) p)) H')) → ((¬ (bs.length = N.bowls.length ∧ N.bowls.length = ws.length) → ∀ (H' : Hp), Same H H' → E (.ref G) none H')) → sp_tells_apart C G K vs H Q E
inductive sp_law_refused (C : Addr) (K : PySem.W.Frag) (vs : List V) (H : Hp) (Q : VK) (z_3 : XK) : Prop
  | mk : ∀ (x dx b d t g f c e : Addr) (ts gs : List Addr) (N : NetV) (ws bs : List Int) (p : Nat), (vs = [.ref x, .ref c, .int p, .ref e]) → (NetIn C H x dx b d t g f ts gs N) → (N.Ok) → (SqL K H c (vints ws)) → (SqL K H e (vints bs)) → ((∀ w ∈ ws, w.natAbs < 10 ^ 70)) → ((∀ y ∈ bs, y.natAbs < 10 ^ 40)) → (bs.length ≤ 70) → (¬ (bs.length = N.bowls.length ∧ N.bowls.length = ws.length)) → (∀ H', Same H H' → Q (.bl true) H') → sp_law_refused C K vs H Q z_3
inductive sp_law (K : PySem.W.Frag) (vs : List V) (H : Hp) (Q : VK) (z_3 : XK) : Prop
  | mk : ∀ (a : Addr) (ns : List Int), (vs = [.ref a]) → (SqL K H a (vints ns)) → (ns.length ≤ 63) → (∀ H', Q (.bl true) H') → sp_law K vs H Q z_3
theorem kx1 (CX : CXT) (P : Program) (w : World) (K : PySem.W.Frag) (mg : Str → Option Value) (base : Heap) (N : List Str) (q : Str) (sc : Scope) (f : Addr) (cd : Value) (A : Around) (outer : List Env) (s : Shared) (H : Hp) (E : XK) : (cxOf CX P w K mg base N q sc f cd A outer s H E).K = K := rfl
theorem kx2 (X : Cx) (N : List Str) (sc : Scope) (B : Blk) : (cxComp X N sc B).K = X.K := rfl
theorem kx3 (X : Cx) (N : List Str) (sc : Scope) (B : Blk) : (cxCompC X N sc B).K = X.K := rfl
set_option genInjectivity false in
set_option genSizeOf false in
structure Adr where
  f_law_mixed : Addr
  f_law_number : Addr
  f_law_door : Addr
  f_law_net : Addr
  f_law_weights : Addr
  f_law_part : Addr
  f_law_gains : Addr
  f_law_behind : Addr
  f_law_tally : Addr
  f_law_bag : Addr
  f_law_is_nought : Addr
  f_law_weigh : Addr
  f_is_name : Addr
  f_refuse_bad_names : Addr
  f_refuse_bad_bags : Addr
  f_Net_init : Addr
  f_law_made : Addr
  f_refuse_unlike : Addr
  f_less : Addr
  f_gain : Addr
  f_gains : Addr
  f_is_multiple : Addr
  f_weighed : Addr
  f_unmoved : Addr
  f_tells_apart : Addr
  f_law_refused : Addr
  f_law : Addr
  C_Net : Addr
  C_HallError : Addr
  C_Unlike : Addr
  C_BadAsk : Addr
  C_BadNet : Addr
  C_BadPaper : Addr
  C_BadText : Addr
  C_NoGo : Addr
  C_TooWide : Addr
set_option genInjectivity false in
set_option genSizeOf false in
structure Fds where
  d_law_mixed : FuncData
  d_law_number : FuncData
  d_law_door : FuncData
  d_law_net : FuncData
  d_law_weights : FuncData
  d_law_part : FuncData
  d_law_gains : FuncData
  d_law_behind : FuncData
  d_law_tally : FuncData
  d_law_bag : FuncData
  d_law_is_nought : FuncData
  d_law_weigh : FuncData
  d_is_name : FuncData
  d_refuse_bad_names : FuncData
  d_refuse_bad_bags : FuncData
  d_Net_init : FuncData
  d_law_made : FuncData
  d_refuse_unlike : FuncData
  d_less : FuncData
  d_gain : FuncData
  d_gains : FuncData
  d_is_multiple : FuncData
  d_weighed : FuncData
  d_unmoved : FuncData
  d_tells_apart : FuncData
  d_law_refused : FuncData
  d_law : FuncData
structure Txt (K : PySem.W.Frag) (mg : Str → Option Value) (AR : Adr) (FR : Fds) : Prop where
  F_law_mixed : Fun K "_law_mixed" "_law_mixed" s_law_mixed AR.f_law_mixed FR.d_law_mixed
  m_law_mixed : mg "_law_mixed" = some (.ref AR.f_law_mixed)
  b_law_mixed : Binds K FR.d_law_mixed ["script", "k"] []
  F_law_number : Fun K "_law_number" "_law_number" s_law_number AR.f_law_number FR.d_law_number
  m_law_number : mg "_law_number" = some (.ref AR.f_law_number)
  b_law_number : Binds K FR.d_law_number ["script", "k", "kind"] []
  F_law_door : Fun K "_law_door" "_law_door" s_law_door AR.f_law_door FR.d_law_door
  m_law_door : mg "_law_door" = some (.ref AR.f_law_door)
  b_law_door : Binds K FR.d_law_door ["script", "d", "size", "kind", "ahead"] []
  F_law_net : Fun K "_law_net" "_law_net" s_law_net AR.f_law_net FR.d_law_net
  m_law_net : mg "_law_net" = some (.ref AR.f_law_net)
  b_law_net : Binds K FR.d_law_net ["script"] []
  F_law_weights : Fun K "_law_weights" "_law_weights" s_law_weights AR.f_law_weights FR.d_law_weights
  m_law_weights : mg "_law_weights" = some (.ref AR.f_law_weights)
  b_law_weights : Binds K FR.d_law_weights ["script", "size"] []
  F_law_part : Fun K "_law_part" "_law_part" s_law_part AR.f_law_part FR.d_law_part
  m_law_part : mg "_law_part" = some (.ref AR.f_law_part)
  b_law_part : Binds K FR.d_law_part ["script"] []
  F_law_gains : Fun K "_law_gains" "_law_gains" s_law_gains AR.f_law_gains FR.d_law_gains
  m_law_gains : mg "_law_gains" = some (.ref AR.f_law_gains)
  b_law_gains : Binds K FR.d_law_gains ["parts"] []
  F_law_behind : Fun K "_law_behind" "_law_behind" s_law_behind AR.f_law_behind FR.d_law_behind
  m_law_behind : mg "_law_behind" = some (.ref AR.f_law_behind)
  b_law_behind : Binds K FR.d_law_behind ["parts", "tally"] []
  F_law_tally : Fun K "_law_tally" "_law_tally" s_law_tally AR.f_law_tally FR.d_law_tally
  m_law_tally : mg "_law_tally" = some (.ref AR.f_law_tally)
  b_law_tally : Binds K FR.d_law_tally ["script", "many"] []
  F_law_bag : Fun K "_law_bag" "_law_bag" s_law_bag AR.f_law_bag FR.d_law_bag
  m_law_bag : mg "_law_bag" = some (.ref AR.f_law_bag)
  b_law_bag : Binds K FR.d_law_bag ["script", "parts"] []
  F_law_is_nought : Fun K "_law_is_nought" "_law_is_nought" s_law_is_nought AR.f_law_is_nought FR.d_law_is_nought
  m_law_is_nought : mg "_law_is_nought" = some (.ref AR.f_law_is_nought)
  b_law_is_nought : Binds K FR.d_law_is_nought ["number", "part"] []
  F_law_weigh : Fun K "_law_weigh" "_law_weigh" s_law_weigh AR.f_law_weigh FR.d_law_weigh
  m_law_weigh : mg "_law_weigh" = some (.ref AR.f_law_weigh)
  b_law_weigh : Binds K FR.d_law_weigh ["weights", "ones"] []
  F_is_name : Fun K "is_name" "is_name" s_is_name AR.f_is_name FR.d_is_name
  m_is_name : mg "is_name" = some (.ref AR.f_is_name)
  b_is_name : Binds K FR.d_is_name ["word"] []
  F_refuse_bad_names : Fun K "refuse_bad_names" "refuse_bad_names" s_refuse_bad_names AR.f_refuse_bad_names FR.d_refuse_bad_names
  m_refuse_bad_names : mg "refuse_bad_names" = some (.ref AR.f_refuse_bad_names)
  b_refuse_bad_names : Binds K FR.d_refuse_bad_names ["names", "least", "most"] []
  F_refuse_bad_bags : Fun K "refuse_bad_bags" "refuse_bad_bags" s_refuse_bad_bags AR.f_refuse_bad_bags FR.d_refuse_bad_bags
  m_refuse_bad_bags : mg "refuse_bad_bags" = some (.ref AR.f_refuse_bad_bags)
  b_refuse_bad_bags : Binds K FR.d_refuse_bad_bags ["bags", "many", "width"] []
  F_Net_init : Fun K "__init__" "Net.__init__" s_Net_init AR.f_Net_init FR.d_Net_init
  b_Net_init : Binds K FR.d_Net_init ["self", "bowls", "doors", "takes", "gives", "first"] []
  F_law_made : Fun K "_law_made" "_law_made" s_law_made AR.f_law_made FR.d_law_made
  m_law_made : mg "_law_made" = some (.ref AR.f_law_made)
  b_law_made : Binds K FR.d_law_made ["parts"] []
  F_refuse_unlike : Fun K "refuse_unlike" "refuse_unlike" s_refuse_unlike AR.f_refuse_unlike FR.d_refuse_unlike
  m_refuse_unlike : mg "refuse_unlike" = some (.ref AR.f_refuse_unlike)
  b_refuse_unlike : Binds K FR.d_refuse_unlike ["ones", "others"] []
  F_less : Fun K "less" "less" s_less AR.f_less FR.d_less
  m_less : mg "less" = some (.ref AR.f_less)
  b_less : Binds K FR.d_less ["ones", "others"] []
  F_gain : Fun K "gain" "gain" s_gain AR.f_gain FR.d_gain
  m_gain : mg "gain" = some (.ref AR.f_gain)
  b_gain : Binds K FR.d_gain ["net", "door"] []
  F_gains : Fun K "gains" "gains" s_gains AR.f_gains FR.d_gains
  m_gains : mg "gains" = some (.ref AR.f_gains)
  b_gains : Binds K FR.d_gains ["net"] []
  F_is_multiple : Fun K "is_multiple" "is_multiple" s_is_multiple AR.f_is_multiple FR.d_is_multiple
  m_is_multiple : mg "is_multiple" = some (.ref AR.f_is_multiple)
  b_is_multiple : Binds K FR.d_is_multiple ["number", "part"] []
  F_weighed : Fun K "weighed" "weighed" s_weighed AR.f_weighed FR.d_weighed
  m_weighed : mg "weighed" = some (.ref AR.f_weighed)
  b_weighed : Binds K FR.d_weighed ["weights", "ones"] []
  F_unmoved : Fun K "unmoved" "unmoved" s_unmoved AR.f_unmoved FR.d_unmoved
  m_unmoved : mg "unmoved" = some (.ref AR.f_unmoved)
  b_unmoved : Binds K FR.d_unmoved ["net", "weights", "part"] []
  F_tells_apart : Fun K "tells_apart" "tells_apart" s_tells_apart AR.f_tells_apart FR.d_tells_apart
  m_tells_apart : mg "tells_apart" = some (.ref AR.f_tells_apart)
  b_tells_apart : Binds K FR.d_tells_apart ["net", "weights", "part", "bag"] []
  F_law_refused : Fun K "_law_refused" "_law_refused" s_law_refused AR.f_law_refused FR.d_law_refused
  m_law_refused : mg "_law_refused" = some (.ref AR.f_law_refused)
  b_law_refused : Binds K FR.d_law_refused ["net", "weights", "part", "bag"] []
  F_law : Fun K "law" "law" s_law AR.f_law FR.d_law
  m_law : mg "law" = some (.ref AR.f_law)
  b_law : Binds K FR.d_law ["script"] []
  z_len : mg "len" = none
  z_range : mg "range" = none
  z_min : mg "min" = none
  z_int : mg "int" = none
  z_list : mg "list" = none
  z_sum : mg "sum" = none
  z_all : mg "all" = none
  z_set : mg "set" = none
  z_zip : mg "zip" = none
  z_isinstance : mg "isinstance" = none
  z_ValueError : mg "ValueError" = none
  z_bool : mg "bool" = none
  cl_Net : Cls K AR.C_Net
  mC_Net : mg "Net" = some (.ref AR.C_Net)
  mk_Net : Mk K AR.C_Net AR.f_Net_init
  n_Net_bowls : NoAttr K AR.C_Net "bowls"
  n_Net_doors : NoAttr K AR.C_Net "doors"
  n_Net_takes : NoAttr K AR.C_Net "takes"
  n_Net_gives : NoAttr K AR.C_Net "gives"
  n_Net_first : NoAttr K AR.C_Net "first"
  mC_HallError : mg "HallError" = some (.ref AR.C_HallError)
  ec_HallError : ecIn K AR.C_HallError excMro = true
  xp_HallError : XPlain K AR.C_HallError excMro
  mC_Unlike : mg "Unlike" = some (.ref AR.C_Unlike)
  ec_Unlike : ecIn K AR.C_Unlike (.ref AR.C_HallError :: excMro) = true
  xi_Unlike : XIs K AR.C_Unlike
  xp_Unlike : XPlain K AR.C_Unlike (.ref AR.C_HallError :: excMro)
  mC_BadAsk : mg "BadAsk" = some (.ref AR.C_BadAsk)
  ec_BadAsk : ecIn K AR.C_BadAsk (.ref AR.C_HallError :: excMro) = true
  xs_BadAsk : XSet K AR.C_BadAsk
  mC_BadNet : mg "BadNet" = some (.ref AR.C_BadNet)
  ec_BadNet : ecIn K AR.C_BadNet (.ref AR.C_HallError :: excMro) = true
  xp_BadNet : XPlain K AR.C_BadNet (.ref AR.C_HallError :: excMro)
  mC_BadPaper : mg "BadPaper" = some (.ref AR.C_BadPaper)
  ec_BadPaper : ecIn K AR.C_BadPaper (.ref AR.C_HallError :: excMro) = true
  xs_BadPaper : XSet K AR.C_BadPaper
  mC_BadText : mg "BadText" = some (.ref AR.C_BadText)
  ec_BadText : ecIn K AR.C_BadText (.ref AR.C_HallError :: excMro) = true
  xs_BadText : XSet K AR.C_BadText
  mC_NoGo : mg "NoGo" = some (.ref AR.C_NoGo)
  ec_NoGo : ecIn K AR.C_NoGo (.ref AR.C_HallError :: excMro) = true
  xs_NoGo : XSet K AR.C_NoGo
  mC_TooWide : mg "TooWide" = some (.ref AR.C_TooWide)
  ec_TooWide : ecIn K AR.C_TooWide (.ref AR.C_HallError :: excMro) = true
  xp_TooWide : XPlain K AR.C_TooWide (.ref AR.C_HallError :: excMro)
  ne_BadAsk_HallError : AR.C_BadAsk ≠ AR.C_HallError
  ne_BadAsk_Unlike : AR.C_BadAsk ≠ AR.C_Unlike
  ne_BadNet_HallError : AR.C_BadNet ≠ AR.C_HallError
  ne_BadNet_Unlike : AR.C_BadNet ≠ AR.C_Unlike
  ne_BadPaper_HallError : AR.C_BadPaper ≠ AR.C_HallError
  ne_BadPaper_Unlike : AR.C_BadPaper ≠ AR.C_Unlike
  ne_BadText_HallError : AR.C_BadText ≠ AR.C_HallError
  ne_BadText_Unlike : AR.C_BadText ≠ AR.C_Unlike
  ne_NoGo_HallError : AR.C_NoGo ≠ AR.C_HallError
  ne_NoGo_Unlike : AR.C_NoGo ≠ AR.C_Unlike
  ne_TooWide_HallError : AR.C_TooWide ≠ AR.C_HallError
  ne_TooWide_Unlike : AR.C_TooWide ≠ AR.C_Unlike
  c_MOST_SIGNS : ∃ t, mg "MOST_SIGNS" = some (.int 8 t)
  c_MOST_BEADS : ∃ t, mg "MOST_BEADS" = some (.int 1000000000 t)
  c_LEAST_BOWLS : ∃ t, mg "LEAST_BOWLS" = some (.int 1 t)
  c_MOST_BOWLS : ∃ t, mg "MOST_BOWLS" = some (.int 6 t)
  c_MOST_DOORS : ∃ t, mg "MOST_DOORS" = some (.int 8 t)
section
variable {P : Program} {w : World} {K : PySem.W.Frag} {mg : Str → Option Value} {base : Heap} {AR : Adr} {FR : Fds}
theorem sc_law_mixed : FnScope ["script", "k", "cell"] ["script", "k"] (defScope s_law_mixed) := ⟨rfl, rfl, rfl, by decide +kernel, rfl, by decide +kernel, by decide +kernel⟩
set_option maxHeartbeats 4000000 in
theorem ok_law_mixed (T : Txt K mg AR FR) : FnOk P w K mg base CX0 1 AR.f_law_mixed FR.d_law_mixed ["script", "k"] (sp_law_mixed K) := by
  refine T.F_law_mixed.ok sc_law_mixed (fun vs H Q E h => ?_) (fun cdv A outer s H vs Q E hr h => ?_)
  · obtain ⟨a, ns, k, rfl, hS, h63, k1, hQ⟩ := h
    rfl
  · obtain ⟨a, ns, k, rfl, hS, h63, k1, hQ⟩ := h
    refine ⟨_, (pss_cons (ps_set (i := 2) sc_law_mixed.nd rfl (Or.inl rfl) pe_int)
      (pss_cons (ps_if (pt_cmpR op_gt (pe_callB call_len_seq (by rfl) T.z_len bt_len (pa_cons (pv 0) pa_nil)) pe_int (nomark _)) (pss_one (ps_set (i := 2) sc_law_mixed.nd rfl (Or.inl rfl) (pe_op op_mod (pe_ix ix_list (pv 0) (pe_op op_mod (pv 1) (pe_callB call_len_seq (by rfl) T.z_len bt_len (pa_cons (pv 0) pa_nil))) (fun _ _ => rfl)) pe_int))) pss_nil)
      (pss_one (ps_ret (pe_op op_mod (pe_op op_mul (pe_op op_add (pe_op op_add (pv 2) (pe_op op_mul pe_int (pv 1))) pe_int) (pe_op op_add pe_int (pe_op op_mul (pe_op op_mul pe_int (pv 1)) (pv 1)))) pe_int))))), ?_⟩
    try dsimp only [kx1, kx2, kx3, Cx.nox, Cx.wish]
    have vl : (vints ns).length = ns.length := ints_len ns
    try dsimp only [tNext]
    refine seq_join (fun σ' H' => σ' = [some (.ref a), some (.int k), some (.int 0)] ∧ H = H') ?_ (fun N hN => hN _ _ ⟨rfl, rfl⟩)
    rintro _ _ ⟨rfl, rfl⟩
    refine seq_join (fun σ' H' => ∃ c : Int, σ' = [some (.ref a), some (.int k), some (.int c)] ∧ H' = H ∧ 0 ≤ c ∧ c < 2147483647) ?_ ?_
    · rintro _ _ ⟨c, rfl, rfl, c0, c1⟩
      refine ⟨_, rfl, _, rfl, _, _, rfl, rfl, .inl ⟨by decide, by decide⟩, _, _, rfl, rfl, _, _, rfl, rfl, _, rfl, _, _, rfl, rfl, .inl ⟨by decide, by decide⟩, _, rfl, _, _, rfl, rfl, .inr ⟨by omega, by omega⟩, _, _, rfl, rfl, _, _, rfl, rfl, .inl ⟨by omega, by omega⟩, _, _, rfl, rfl, (by show (0 : Int) < 2147483647; decide), ?_⟩
      exact hQ _ (Int.emod_nonneg _ (by decide)) (Int.emod_lt_of_pos _ (by decide))
    intro N hN
    refine ⟨_, rfl, a, _, rfl, .inl hS, _, _, rfl, rfl, _, rfl, ?_⟩
    rw [vl]
    refine iteD (fun h => ?_) (fun _ => hN _ _ ⟨0, rfl, rfl, by decide, by decide⟩)
    have h : (0 : Int) < ns.length := h
    obtain ⟨i, hi⟩ := Int.eq_ofNat_of_zero_le (Int.emod_nonneg (k : Int) (show (ns.length : Int) ≠ 0 by omega))
    have hi2 := Int.emod_lt_of_pos (k : Int) h
    have il : i < ns.length := by omega
    refine ⟨_, rfl, _, rfl, _, rfl, a, _, rfl, .inl hS, _, _, rfl, rfl, by show (0 : Int) < _; rw [vl]; exact h, ?_⟩
    rw [vl]
    try dsimp only
    rw [hi]
    refine ⟨a, _, _, _, rfl, rfl, hS, at_zs il, _, _, rfl, rfl, (by show (0 : Int) < 2147483647; decide), hN _ _ ⟨_, rfl, rfl, Int.emod_nonneg _ (by decide), Int.emod_lt_of_pos _ (by decide)⟩⟩
theorem sc_law_number : FnScope ["script", "k", "kind", "drawn"] ["script", "k", "kind"] (defScope s_law_number) := ⟨rfl, rfl, rfl, by decide +kernel, rfl, by decide +kernel, by decide +kernel⟩
set_option maxHeartbeats 4000000 in
theorem ok_law_number (T : Txt K mg AR FR) : FnOk P w K mg base CX0 2 AR.f_law_number FR.d_law_number ["script", "k", "kind"] (sp_law_number K) := by
  have G_law_mixed : FnOk P w K mg base CX0 1 AR.f_law_mixed FR.d_law_mixed _ (sp_law_mixed K) := ok_law_mixed T
  refine T.F_law_number.ok sc_law_number (fun vs H Q E h => ?_) (fun cdv A outer s H vs Q E hr h => ?_)
  · obtain ⟨a, ns, k, kd, rfl, hS, h63, k1, hQ⟩ := h
    rfl
  · obtain ⟨a, ns, k, kd, rfl, hS, h63, k1, hQ⟩ := h
    refine ⟨_, (pss_cons (ps_set (i := 3) sc_law_number.nd rfl (Or.inl rfl) (pe_call G_law_mixed (hr.mono (by decide)) (by rfl) T.m_law_mixed T.F_law_mixed.kp T.b_law_mixed .nil pass0 (pa_cons (pv 0) (pa_cons (pv 1) pa_nil))))
      (pss_cons (ps_if (pt_cmpR op_eq (pv 2) pe_int (nomark _)) (pss_one (ps_ret (pe_op op_mod (pv 3) pe_int))) pss_nil)
      (pss_cons (ps_if (pt_cmpR op_eq (pe_op op_mod (pv 3) pe_int) pe_int (nomark _)) (pss_one (ps_ret pe_int)) pss_nil)
      (pss_one (ps_ret (pe_op op_mod (pe_op op_fdiv (pv 3) pe_int) pe_int)))))), ?_⟩
    try dsimp only [kx1, kx2, kx3, Cx.nox, Cx.wish]
    refine ⟨_, rfl, _, rfl, a, ns, k, rfl, hS, h63, k1, fun n n0 n1 => ?_⟩
    refine ⟨_, rfl, rfl, _, rfl, ?_⟩
    refine iteD (fun h => ?_) (fun h => ?_)
    · have e : kd = 2 := by injection h with h; omega
      have a1 : 0 ≤ n % 1000000001 := Int.emod_nonneg _ (by decide)
      have a2 : n % 1000000001 < 1000000001 := Int.emod_lt_of_pos _ (by decide)
      exact ⟨_, rfl, _, _, rfl, rfl, (by show (0 : Int) < 1000000001; decide), hQ _ ⟨a1, by omega, fun h => absurd e h⟩⟩
    refine ⟨_, rfl, _, _, rfl, rfl, (by show (0 : Int) < 3; decide), rfl, _, rfl, ?_⟩
    refine iteD (fun _ => hQ 0 ⟨by decide, by decide, fun _ => by decide⟩) (fun _ => ?_)
    have a1 : 0 ≤ n / 3 % 4 := Int.emod_nonneg _ (by decide)
    have a2 : n / 3 % 4 < 4 := Int.emod_lt_of_pos _ (by decide)
    exact ⟨_, rfl, _, _, rfl, rfl, ⟨by decide, by decide⟩, _, _, rfl, rfl, (by show (0 : Int) < 4; decide), hQ _ ⟨a1, by omega, fun _ => by omega⟩⟩
theorem sc_law_door : FnScope ["script", "d", "size", "kind", "ahead", "take", "give", "part", "turn", "rest"] ["script", "d", "size", "kind", "ahead"] (defScope s_law_door) := ⟨rfl, rfl, rfl, by decide +kernel, rfl, by decide +kernel, by decide +kernel⟩
set_option maxHeartbeats 4000000 in
theorem ok_law_door (T : Txt K mg AR FR) : FnOk P w K mg base CX0 3 AR.f_law_door FR.d_law_door ["script", "d", "size", "kind", "ahead"] (sp_law_door K) := by
  have G_law_number : FnOk P w K mg base CX0 2 AR.f_law_number FR.d_law_number _ (sp_law_number K) := ok_law_number T
  have G_law_mixed : FnOk P w K mg base CX0 1 AR.f_law_mixed FR.d_law_mixed _ (sp_law_mixed K) := ok_law_mixed T
  refine T.F_law_door.ok sc_law_door (fun vs H Q E h => ?_) (fun cdv A outer s H vs Q E hr h => ?_)
  · obtain ⟨a, pa, p0, p1, ns, t0, g0, d, z, kd, rfl, hS, h63, hd, z1, z6, hpa, hp0, hp1, hsm, hQ⟩ := h
    rfl
  · obtain ⟨a, pa, p0, p1, ns, t0, g0, d, z, kd, rfl, hS, h63, hd, z1, z6, hpa, hp0, hp1, hsm, hQ⟩ := h
    refine ⟨_, (pss_cons (ps_set (i := 5) sc_law_door.nd rfl (Or.inr rfl) (pe_comp (N' := ["b", "script", "d", "kind"]) (nt := 1) (caps := [0, 1, 3]) _ _ (CompScope.of (by kernel_rfl)) (pi_range1 (by rfl) T.z_range (pa_cons (pv 2) pa_nil)) (fun _ => (pg_nameC (i := 0) ["b", "script", "d", "kind"] (by decide +kernel) (by rfl))) (fun _ => pts_nil) (fun _ => (pe_call G_law_number (hr.mono (by decide)) (by rfl) T.m_law_number T.F_law_number.kp T.b_law_number .nil pass0 (pa_cons (pv 1) (pa_cons (pe_op op_add (pe_op op_add pe_int (pe_op op_mul pe_int (pv 2))) (pv 0)) (pa_cons (pv 3) pa_nil)))))))
      (pss_cons (ps_set (i := 6) sc_law_door.nd rfl (Or.inr rfl) (pe_comp (N' := ["b", "script", "d", "kind"]) (nt := 1) (caps := [0, 1, 3]) _ _ (CompScope.of (by kernel_rfl)) (pi_range1 (by rfl) T.z_range (pa_cons (pv 2) pa_nil)) (fun _ => (pg_nameC (i := 0) ["b", "script", "d", "kind"] (by decide +kernel) (by rfl))) (fun _ => pts_nil) (fun _ => (pe_call G_law_number (hr.mono (by decide)) (by rfl) T.m_law_number T.F_law_number.kp T.b_law_number .nil pass0 (pa_cons (pv 1) (pa_cons (pe_op op_add (pe_op op_add pe_int (pe_op op_mul pe_int (pv 2))) (pv 0)) (pa_cons (pv 3) pa_nil)))))))
      (pss_cons (ps_set (i := 7) sc_law_door.nd rfl (Or.inr rfl) (pe_op op_add pe_int (pe_op op_mod (pe_op op_fdiv (pe_call G_law_mixed (hr.mono (by decide)) (by rfl) T.m_law_mixed T.F_law_mixed.kp T.b_law_mixed .nil pass0 (pa_cons (pv 0) (pa_cons pe_int pa_nil))) pe_int) pe_int)))
      (pss_cons (ps_if (PW.pt (pw_and (pt_cmpR op_eq (pv 3) pe_int (nomark _)) (pw_and1 (pt_cmpR op_eq (pe_op op_mod (pv 1) pe_int) pe_int (nomark _))))) (pss_one (ps_ret (pe_lst (pa_cons (pe_comp (N' := ["one"]) (nt := 1) (caps := []) _ _ (CompScope.of (by kernel_rfl)) (pi_list (pe_ix ix_list (pv 4) pe_int (fun _ _ => rfl))) (fun _ => (pg_nameC (i := 0) ["one"] (by decide +kernel) (by rfl))) (fun _ => pts_nil) (fun _ => (pe_op op_mul pe_int (pv 0)))) (pa_cons (pe_comp (N' := ["one"]) (nt := 1) (caps := []) _ _ (CompScope.of (by kernel_rfl)) (pi_list (pe_ix ix_list (pv 4) pe_int (fun _ _ => rfl))) (fun _ => (pg_nameC (i := 0) ["one"] (by decide +kernel) (by rfl))) (fun _ => pts_nil) (fun _ => (pe_op op_mul pe_int (pv 0)))) pa_nil))))) pss_nil)
      (pss_cons (ps_if (pt_cmpR op_eq (pv 3) pe_int (nomark _)) (pss_cons (ps_set (i := 8) sc_law_door.nd rfl (Or.inl rfl) (pe_op op_mod (pe_op op_add pe_int (pv 1)) (pv 2)))
      (pss_one (ps_ret (pe_lst (pa_cons (pv 5) (pa_cons (pe_op op_cat (pe_slice sl_list (pv 5) (po_some (pv 8)) po_none) (pe_slice sl_list (pv 5) po_none (po_some (pv 8)))) pa_nil)))))) pss_nil)
      (pss_cons (ps_if (pt_cmpR op_eq (pv 3) pe_int (nomark _)) (pss_cons (ps_set (i := 9) sc_law_door.nd rfl (Or.inr rfl) (pe_comp (N' := ["b", "script", "part"]) (nt := 1) (caps := [0, 7]) _ _ (CompScope.of (by kernel_rfl)) (pi_range1 (by rfl) T.z_range (pa_cons (pv 2) pa_nil)) (fun _ => (pg_nameC (i := 0) ["b", "script", "part"] (by decide +kernel) (by rfl))) (fun _ => pts_nil) (fun _ => (pe_op op_mod (pe_call G_law_mixed (hr.mono (by decide)) (by rfl) T.m_law_mixed T.F_law_mixed.kp T.b_law_mixed .nil pass0 (pa_cons (pv 1) (pa_cons (pe_op op_add pe_int (pv 0)) pa_nil))) (pv 2)))))
      (pss_cons (ps_set (i := 5) sc_law_door.nd rfl (Or.inr rfl) (pe_comp (N' := ["b", "part", "take", "rest"]) (nt := 1) (caps := [7, 5, 9]) _ _ (CompScope.of (by kernel_rfl)) (pi_range1 (by rfl) T.z_range (pa_cons (pv 2) pa_nil)) (fun _ => (pg_nameC (i := 0) ["b", "part", "take", "rest"] (by decide +kernel) (by rfl))) (fun _ => pts_nil) (fun _ => (pe_op op_add (pe_op op_mul (pv 1) (pe_ix ix_list (pv 2) (pv 0) (fun _ _ => rfl))) (pe_ix ix_list (pv 3) (pv 0) (fun _ _ => rfl))))))
      (pss_one (ps_set (i := 6) sc_law_door.nd rfl (Or.inr rfl) (pe_comp (N' := ["b", "part", "give", "rest"]) (nt := 1) (caps := [7, 6, 9]) _ _ (CompScope.of (by kernel_rfl)) (pi_range1 (by rfl) T.z_range (pa_cons (pv 2) pa_nil)) (fun _ => (pg_nameC (i := 0) ["b", "part", "give", "rest"] (by decide +kernel) (by rfl))) (fun _ => pts_nil) (fun _ => (pe_op op_add (pe_op op_mul (pv 1) (pe_ix ix_list (pv 2) (pv 0) (fun _ _ => rfl))) (pe_ix ix_list (pv 3) (pv 0) (fun _ _ => rfl))))))))) pss_nil)
      (pss_one (ps_ret (pe_lst (pa_cons (pv 5) (pa_cons (pv 6) pa_nil))))))))))), ?_⟩
    try dsimp only [kx1, kx2, kx3, Cx.nox, Cx.wish]
    have zr1 : -(2 ^ 62) ≤ (z : Int) := by omega
    have zr2 : (z : Int) < 2 ^ 62 := by omega
    have zs70 : z < sizeLine := small70 (by omega)
    refine ⟨_, rfl, _, rfl, zr1, zr2, ?_⟩
    rw [Int.toNat_natCast]
    refine comp_ints (τ := [some (.ref a), some (.int d), some (.int kd)]) (nbK kd) zs70 (fun B j H2 hj S2 Q' hq => ?_) ?_
    · exact ⟨_, rfl, _, rfl, _, _, rfl, rfl, .inl ⟨by decide, by decide⟩, _, _, rfl, rfl, _, rfl, _, _, rfl, rfl, _, rfl, a, ns, 4 + 12 * d + j, kd, by rw [show ((4 + 12 * d + j : Nat) : Int) = 4 + 12 * (d : Int) + (0 + (j : Int)) by omega]; rfl, S2.seq hS, h63, by omega, fun n hn => hq n H2 hn (Same.refl _)⟩
    intro tk H2 S2 l0 b0 q0 nq0
    have T2 := S2.upd nq0 (o := .lst (vints tk))
    have e0 := upd_same (H := H2) (a := q0) (o := .lst (vints tk))
    generalize upd H2 q0 (.lst (vints tk)) = H3 at T2 e0 ⊢
    refine ⟨_, rfl, _, rfl, zr1, zr2, ?_⟩
    rw [Int.toNat_natCast]
    refine comp_ints (τ := [some (.ref a), some (.int d), some (.int kd)]) (nbK kd) zs70 (fun B j H4 hj S4 Q' hq => ?_) ?_
    · exact ⟨_, rfl, _, rfl, _, _, rfl, rfl, .inl ⟨by decide, by decide⟩, _, _, rfl, rfl, _, rfl, _, _, rfl, rfl, _, rfl, a, ns, 10 + 12 * d + j, kd, by rw [show ((10 + 12 * d + j : Nat) : Int) = 10 + 12 * (d : Int) + (0 + (j : Int)) by omega]; rfl, (T2.trans S4).seq hS, h63, by omega, fun n hn => hq n H4 hn (Same.refl _)⟩
    intro gv H4 S4 m0 c0 q1 nq1
    have T4 := S4.upd nq1 (o := .lst (vints gv))
    have e1 := upd_same (H := H4) (a := q1) (o := .lst (vints gv))
    have U4 := T2.trans T4
    have e0' := T4 _ _ e0
    generalize upd H4 q1 (.lst (vints gv)) = H5 at T4 e1 U4 e0' ⊢
    clear T4 T2 S4 S2 e0 nq1 nq0
    have kt : okK kd z tk := ⟨l0, b0⟩
    have kg : okK kd z gv := ⟨m0, c0⟩
    -- part
    refine ⟨_, rfl, a, ns, 3, rfl, U4.seq hS, h63, by decide, fun c3 _ _ => ?_⟩
    have a1 : 0 ≤ c3 / 7 % 999 := Int.emod_nonneg _ (by decide)
    have a2 : c3 / 7 % 999 < 999 := Int.emod_lt_of_pos _ (by decide)
    refine ⟨_, _, rfl, rfl, ⟨by decide, by decide⟩, _, _, rfl, rfl, (by show (0 : Int) < 999; decide), _, _, rfl, rfl, ?_⟩
    try dsimp only
    generalize epr : 2 + c3 / 7 % 999 = pr
    have p1' : 2 ≤ pr := by omega
    have p2' : pr ≤ 1000 := by omega
    clear epr a1 a2
    -- kind one
    refine seq_join (fun σ' H' => σ' = [some (.ref a), some (.int d), some (.int z), some (.int kd), some (.ref pa), some (.ref q0), some (.ref q1), some (.int pr), none, none] ∧ H5 = H' ∧ (kd = 1 → d % 2 = 0)) ?_ ?_
    rotate_left
    · intro N hN
      refine ⟨_, rfl, rfl, _, rfl, ?_⟩
      refine iteD (fun hk1 => ?_) (fun hk1 => hN _ _ ⟨rfl, rfl, fun e => absurd (by rw [e]; rfl) hk1⟩)
      have hk1 : kd = 1 := by injection hk1 with h; omega
      refine ⟨_, rfl, _, _, rfl, rfl, (by show (0 : Int) < 2; decide), rfl, _, rfl, ?_⟩
      refine iteD (fun hd1 => ?_) (fun hd1 => hN _ _ ⟨rfl, rfl, fun _ => ?_⟩)
      rotate_left
      · have hd1 : ¬ ((d : Int) % 2 = 1) := fun e => hd1 (by show V.int ((d : Int) % 2) = V.int 1; rw [e])
        omega
      have hd1 : d % 2 = 1 := by injection hd1 with h; omega
      obtain ⟨s0, s1⟩ := hsm hk1 hd1
      refine ⟨_, rfl, pa, _, _, _, rfl, rfl, U4.seq hpa, rfl, p1, rfl, ⟨_, U4.seq hp1⟩, ?_⟩
      refine comp_mapI (K := K) (τ := []) (fun x => 2 * x) (U4.seq hp1) (small70 (by rw [s1.1]; omega)) (fun B x H6 hx S6 Q'' hq2 => ⟨_, rfl, _, _, rfl, rfl, .inl ⟨by decide, by decide⟩, hq2 _ (Same.refl _)⟩) fun H6 S6 q6 nq6 => ?_
      have V6 := S6.upd nq6 (o := .lst (vints (g0.map fun x => 2 * x)))
      have e6 := upd_same (H := H6) (a := q6) (o := .lst (vints (g0.map fun x => 2 * x)))
      have U6 := U4.trans V6
      generalize upd H6 q6 (.lst (vints (g0.map fun x => 2 * x))) = H7 at V6 e6 U6 ⊢
      refine ⟨_, rfl, pa, _, _, _, rfl, rfl, U6.seq hpa, rfl, p0, rfl, ⟨_, U6.seq hp0⟩, ?_⟩
      refine comp_mapI (K := K) (τ := []) (fun x => 2 * x) (U6.seq hp0) (small70 (by rw [s0.1]; omega)) (fun B x H8 hx S8 Q'' hq2 => ⟨_, rfl, _, _, rfl, rfl, .inl ⟨by decide, by decide⟩, hq2 _ (Same.refl _)⟩) fun H8 S8 q8 nq8 => ?_
      have V8 := S8.upd nq8 (o := .lst (vints (t0.map fun x => 2 * x)))
      have e8 := upd_same (H := H8) (a := q8) (o := .lst (vints (t0.map fun x => 2 * x)))
      have U8 := U6.trans V8
      have e6' := V8 _ _ e6
      generalize upd H8 q8 (.lst (vints (t0.map fun x => 2 * x))) = H9 at V8 e8 U8 e6' ⊢
      refine ⟨by show 2 ≤ sizeLine; decide, fun p np => ?_⟩
      have X := (Same.refl H9).upd np (o := .lst [V.ref q6, V.ref q8])
      exact hQ p q6 q8 _ _ _ (U8.free np) (U8.trans X) upd_same (X _ _ e6') (X _ _ e8) (okS_two s1) (okS_two s0) (fun _ h => absurd hd1 (by omega))
    rintro _ _ ⟨rfl, rfl, hev⟩
    have sm : kd = 1 → d % 2 = 0 → okS z tk ∧ okS z gv := fun h _ => ⟨okS_of kt (by omega), okS_of kg (by omega)⟩
    -- kind three
    refine seq_join (fun σ' H' => σ' = [some (.ref a), some (.int d), some (.int z), some (.int kd), some (.ref pa), some (.ref q0), some (.ref q1), some (.int pr), none, none] ∧ H5 = H') ?_ ?_
    rotate_left
    · intro N hN
      refine ⟨_, rfl, rfl, _, rfl, ?_⟩
      refine iteD (fun hk3 => ?_) (fun _ => hN _ _ ⟨rfl, rfl⟩)
      have hk3 : kd = 3 := by injection hk3 with h; omega
      obtain ⟨tn, htn⟩ := Int.eq_ofNat_of_zero_le (Int.emod_nonneg (1 + (d : Int)) (show (z : Int) ≠ 0 by omega))
      refine ⟨_, rfl, _, _, rfl, rfl, _, rfl, _, _, rfl, rfl, (by show (0 : Int) < z; omega), ?_⟩
      try dsimp only
      rw [htn]
      refine ⟨_, rfl, _, rfl, _, rfl, _, rfl, q0, _, rfl, SqL.of e0', fun p1 np1 => ?_⟩
      have U7 := (Same.refl H5).upd np1 (o := .lst (cutV (vints tk) (some (tn : Int)) none))
      refine ⟨_, rfl, _, rfl, _, rfl, q0, _, rfl, SqL.of (U7 _ _ e0'), fun p2 np2 => ?_⟩
      have U8 := U7.upd np2 (o := .lst (cutV (vints tk) none (some (tn : Int))))
      have p12 : p1 ≠ p2 := ne_of_none upd_same np2
      have ll := congrArg List.length (cut_turn tk tn)
      rw [List.length_append, ints_len, (okK_turn kt tn).1] at ll
      refine ⟨p1, p2, _, _, rfl, rfl, by rw [upd_ne p12, upd_same], upd_same, by omega, fun p3 np3 => ?_⟩
      rw [cut_turn]
      have U9 := U8.upd np3 (o := .lst (vints (tk.drop tn ++ tk.take tn)))
      refine ⟨by show 2 ≤ sizeLine; decide, fun p np => ?_⟩
      have X := U9.upd np (o := .lst [V.ref q0, V.ref p3])
      refine hQ p q0 p3 tk _ _ ((U4.trans U9).free np) (U4.trans X) upd_same (X _ _ e0') ?_ (okK_bag kt) (okK_bag (okK_turn kt tn)) (fun h => absurd h (by omega))
      rw [upd_ne (ne_of_none upd_same np), upd_same]
    rintro _ _ ⟨rfl, rfl⟩
    -- kind four
    refine seq_join (fun σ' H' => ∃ (qt qg : Addr) (o : Option V) (t g : List Int), σ' = [some (.ref a), some (.int d), some (.int z), some (.int kd), some (.ref pa), some (.ref qt), some (.ref qg), some (.int pr), none, o] ∧ Same H H' ∧ H' qt = some (.lst (vints t)) ∧ H' qg = some (.lst (vints g)) ∧ okBag z t ∧ okBag z g ∧ (kd = 1 → d % 2 = 0 → okS z t ∧ okS z g)) ?_ ?_
    rotate_left
    · intro N hN
      refine ⟨_, rfl, rfl, _, rfl, ?_⟩
      refine iteD (fun hk4 => ?_) (fun _ => hN _ _ ⟨q0, q1, none, tk, gv, rfl, U4, e0', e1, okK_bag kt, okK_bag kg, sm⟩)
      have hk4 : kd = 4 := by injection hk4 with h; omega
      have ts := okS_of kt (by omega)
      have gs := okS_of kg (by omega)
      refine ⟨_, rfl, _, rfl, zr1, zr2, ?_⟩
      rw [Int.toNat_natCast]
      refine comp_ints (τ := [some (.ref a), some (.int pr)]) (fun m => 0 ≤ m ∧ m ≤ 1000) zs70 (fun B j H6 hj S6 Q' hq => ?_) ?_
      · refine ⟨_, rfl, _, rfl, _, _, rfl, rfl, a, ns, 5 + j, by rw [Int.zero_add]; rfl, (U4.trans S6).seq hS, h63, by omega, fun c _ _ => ?_⟩
        have r1 : 0 ≤ c % pr := Int.emod_nonneg _ (by omega)
        have r2 : c % pr < pr := Int.emod_lt_of_pos _ (by omega)
        exact ⟨_, rfl, _, _, rfl, rfl, (by show (0 : Int) < pr; omega), hq _ _ ⟨r1, by omega⟩ (Same.refl _)⟩
      intro rs H6 S6 rl rb q6 nq6
      have V6 := S6.upd nq6 (o := .lst (vints rs))
      have e6 := upd_same (H := H6) (a := q6) (o := .lst (vints rs))
      have U6 := U4.trans V6
      have f0 := V6 _ _ e0'
      have f1 := V6 _ _ e1
      generalize upd H6 q6 (.lst (vints rs)) = H7 at V6 e6 U6 f0 f1 ⊢
      refine ⟨_, rfl, _, rfl, zr1, zr2, ?_⟩
      rw [Int.toNat_natCast]
      refine comp_ints (τ := [some (.int pr), some (.ref q0), some (.ref q6)]) (fun m => 0 ≤ m ∧ m ≤ 1000000000) zs70 (fun B j H8 hj S8 Q' hq => ?_) ?_
      · have ht := at_in (P := fun x => 0 ≤ x ∧ x ≤ 3) ts.1 hj ts.2
        have hr' := at_in (P := fun x => 0 ≤ x ∧ x ≤ 1000) rl hj rb
        exact ⟨_, rfl, _, rfl, _, rfl, q0, _, _, _, rfl, rfl, SqL.of (S8 _ _ f0), at_place ts.1 hj, _, _, rfl, rfl, .inl ⟨by omega, by omega⟩, _, rfl, _, rfl, q6, _, _, _, rfl, rfl, SqL.of (S8 _ _ e6), at_place rl hj, _, _, rfl, rfl, hq _ _ (part_bag p1' p2' ht.1 ht.2 hr'.1 hr'.2) (Same.refl _)⟩
      intro t8 H8 S8 l8 b8 q8 nq8
      have V8 := S8.upd nq8 (o := .lst (vints t8))
      have e8 := upd_same (H := H8) (a := q8) (o := .lst (vints t8))
      have U8 := U6.trans V8
      have f1' := V8 _ _ f1
      have e6' := V8 _ _ e6
      generalize upd H8 q8 (.lst (vints t8)) = H9 at V8 e8 U8 f1' e6' ⊢
      refine ⟨_, rfl, _, rfl, zr1, zr2, ?_⟩
      rw [Int.toNat_natCast]
      refine comp_ints (τ := [some (.int pr), some (.ref q1), some (.ref q6)]) (fun m => 0 ≤ m ∧ m ≤ 1000000000) zs70 (fun B j H10 hj S10 Q' hq => ?_) ?_
      · have ht := at_in (P := fun x => 0 ≤ x ∧ x ≤ 3) gs.1 hj gs.2
        have hr' := at_in (P := fun x => 0 ≤ x ∧ x ≤ 1000) rl hj rb
        exact ⟨_, rfl, _, rfl, _, rfl, q1, _, _, _, rfl, rfl, SqL.of (S10 _ _ f1'), at_place gs.1 hj, _, _, rfl, rfl, .inl ⟨by omega, by omega⟩, _, rfl, _, rfl, q6, _, _, _, rfl, rfl, SqL.of (S10 _ _ e6'), at_place rl hj, _, _, rfl, rfl, hq _ _ (part_bag p1' p2' ht.1 ht.2 hr'.1 hr'.2) (Same.refl _)⟩
      intro g9 H10 S10 l9 b9 q9 nq9
      have V10 := S10.upd nq9 (o := .lst (vints g9))
      exact hN _ _ ⟨q8, q9, _, t8, g9, rfl, U8.trans V10, V10 _ _ e8, upd_same, ⟨l8, b8⟩, ⟨l9, b9⟩, fun h => absurd h (by omega)⟩
    rintro _ H6 ⟨qt, qg, o, t, g, rfl, S6, h1, h2, k1, k2, k3⟩
    refine ⟨_, rfl, _, rfl, by show 2 ≤ sizeLine; decide, fun p np => ?_⟩
    have X := (Same.refl H6).upd np (o := .lst [V.ref qt, V.ref qg])
    exact hQ p qt qg t g _ (S6.free np) (S6.trans X) upd_same (X _ _ h1) (X _ _ h2) k1 k2 k3
theorem sc_law_net : FnScope ["script", "size", "many", "kind", "sides", "d", "ahead", "first"] ["script"] (defScope s_law_net) := ⟨rfl, rfl, rfl, by decide +kernel, rfl, by decide +kernel, by decide +kernel⟩
set_option maxHeartbeats 40000000 in
theorem ok_law_net (T : Txt K mg AR FR) : FnOk P w K mg base CX0 4 AR.f_law_net FR.d_law_net ["script"] (sp_law_net K) := by
  have G_law_mixed : FnOk P w K mg base CX0 1 AR.f_law_mixed FR.d_law_mixed _ (sp_law_mixed K) := ok_law_mixed T
  have G_law_door : FnOk P w K mg base CX0 3 AR.f_law_door FR.d_law_door _ (sp_law_door K) := ok_law_door T
  have G_law_number : FnOk P w K mg base CX0 2 AR.f_law_number FR.d_law_number _ (sp_law_number K) := ok_law_number T
  refine T.F_law_net.ok sc_law_net (fun vs H Q E h => ?_) (fun cdv A outer s H vs Q E hr h => ?_)
  · obtain ⟨a, ns, rfl, hS, h63, hQ⟩ := h
    rfl
  · obtain ⟨a, ns, rfl, hS, h63, hQ⟩ := h
    refine ⟨_, (pss_cons (ps_set (i := 1) sc_law_net.nd rfl (Or.inl rfl) (pe_op op_add pe_int (pe_op op_mod (pe_call G_law_mixed (hr.mono (by decide)) (by rfl) T.m_law_mixed T.F_law_mixed.kp T.b_law_mixed .nil pass0 (pa_cons (pv 0) (pa_cons pe_int pa_nil))) pe_int)))
      (pss_cons (ps_set (i := 2) sc_law_net.nd rfl (Or.inl rfl) (pe_op op_mod (pe_op op_fdiv (pe_call G_law_mixed (hr.mono (by decide)) (by rfl) T.m_law_mixed T.F_law_mixed.kp T.b_law_mixed .nil pass0 (pa_cons (pv 0) (pa_cons pe_int pa_nil))) pe_int) pe_int))
      (pss_cons (ps_set (i := 3) sc_law_net.nd rfl (Or.inr rfl) (pe_op op_mod (pe_op op_fdiv (pe_call G_law_mixed (hr.mono (by decide)) (by rfl) T.m_law_mixed T.F_law_mixed.kp T.b_law_mixed .nil pass0 (pa_cons (pv 0) (pa_cons pe_int pa_nil))) pe_int) pe_int))
      (pss_cons (ps_if (pt_cmpR op_eq (pv 3) pe_int (nomark _)) (pss_cons (ps_set (i := 1) sc_law_net.nd rfl (Or.inl rfl) (pe_callB (call_min2 rfl) (by rfl) T.z_min bt_min (pa_cons (pv 1) (pa_cons pe_int pa_nil))))
      (pss_one (ps_set (i := 2) sc_law_net.nd rfl (Or.inl rfl) (pe_callB (call_min2 rfl) (by rfl) T.z_min bt_min (pa_cons (pv 2) (pa_cons pe_int pa_nil)))))) pss_nil)
      (pss_cons (ps_set (i := 4) sc_law_net.nd rfl (Or.inl rfl) (pe_lst pa_nil))
      (pss_cons (ps_for PassesOwn.never rfl (pi_range1 (by rfl) T.z_range (pa_cons (pv 2) pa_nil)) (pg_name (i := 5) sc_law_net.nd (by rfl) (Or.inl rfl))
      (pss_cons (ps_set (i := 6) sc_law_net.nd rfl (Or.inl rfl) (pe_lst (pa_cons (pe_lst pa_nil) (pa_cons (pe_lst pa_nil) pa_nil))))
      (pss_cons (ps_if (pt_cmpR op_gt (pv 5) pe_int (nomark _)) (pss_one (ps_set (i := 6) sc_law_net.nd rfl (Or.inl rfl) (pe_ix ix_list (pv 4) (pe_op op_sub (pv 5) pe_int) (fun _ _ => rfl)))) pss_nil)
      (pss_one (ps_expr (pe_bm PySem.F.plainAttrs_list PySem.F.slot_list_append PySem.F.type_list_append mt_append (pv 4) (pa_cons (pe_call G_law_door (hr.mono (by decide)) (by rfl) T.m_law_door T.F_law_door.kp T.b_law_door .nil pass0 (pa_cons (pv 0) (pa_cons (pv 5) (pa_cons (pv 1) (pa_cons (pv 3) (pa_cons (pv 6) pa_nil)))))) pa_nil)))))))
      (pss_cons (ps_setComp (i := 7) (N' := ["b", "script", "kind"]) (nt := 1) (caps := [0, 3]) _ _ (CompScope.of (by kernel_rfl)) sc_law_net.nd rfl rfl (pi_range1 (by rfl) T.z_range (pa_cons (pv 1) pa_nil)) (fun _ => (pg_nameC (i := 0) ["b", "script", "kind"] (by decide +kernel) (by rfl))) (fun _ => pts_nil) (fun _ => (pe_call G_law_number (hr.mono (by decide)) (by rfl) T.m_law_number T.F_law_number.kp T.b_law_number .nil pass0 (pa_cons (pv 1) (pa_cons (pe_op op_add pe_int (pv 0)) (pa_cons (pv 2) pa_nil))))))
      (pss_one (ps_ret (pe_lst (pa_cons (pe_comp (N' := ["side"]) (nt := 1) (caps := []) _ _ (CompScope.of (by kernel_rfl)) (pi_list (pv 4)) (fun _ => (pg_nameC (i := 0) ["side"] (by decide +kernel) (by rfl))) (fun _ => pts_nil) (fun _ => (pe_ix ix_list (pv 0) pe_int (fun _ _ => rfl)))) (pa_cons (pe_comp (N' := ["side"]) (nt := 1) (caps := []) _ _ (CompScope.of (by kernel_rfl)) (pi_list (pv 4)) (fun _ => (pg_nameC (i := 0) ["side"] (by decide +kernel) (by rfl))) (fun _ => pts_nil) (fun _ => (pe_ix ix_list (pv 0) pe_int (fun _ _ => rfl)))) (pa_cons (pv 7) pa_nil))))))))))))), ?_⟩
    try dsimp only [kx1, kx2, kx3, Cx.nox, Cx.wish]
    refine ⟨_, rfl, a, ns, 0, rfl, hS, h63, by decide, fun c0 _ _ => ?_⟩
    refine ⟨_, _, rfl, rfl, (by show (0 : Int) < 6; decide), _, _, rfl, rfl, ?_⟩
    obtain ⟨z0, ez, z1, z6⟩ := size6 c0
    try dsimp only
    rw [ez]
    refine ⟨_, rfl, a, ns, 1, rfl, hS, h63, by decide, fun c1 _ _ => ?_⟩
    obtain ⟨d0, ed, d8⟩ := size9 (c1 / 5)
    refine ⟨_, _, rfl, rfl, ⟨by decide, by decide⟩, _, _, rfl, rfl, (by show (0 : Int) < 9; decide), ?_⟩
    try dsimp only
    rw [ed]
    refine ⟨_, rfl, a, ns, 2, rfl, hS, h63, by decide, fun c2 _ _ => ?_⟩
    obtain ⟨kd, ek⟩ := Int.eq_ofNat_of_zero_le (Int.emod_nonneg (c2 / 3) (show (5 : Int) ≠ 0 by decide))
    refine ⟨_, _, rfl, rfl, ⟨by decide, by decide⟩, _, _, rfl, rfl, (by show (0 : Int) < 5; decide), ?_⟩
    try dsimp only
    rw [ek]
    refine seq_join (fun σ' H' => ∃ (z dn : Nat), σ' = [some (.ref a), some (.int z), some (.int dn), some (.int kd), none, none, none, none] ∧ H = H' ∧ 1 ≤ z ∧ z ≤ 6 ∧ dn ≤ 8) ?_ ?_
    rotate_left
    · intro N hN
      refine ⟨_, rfl, rfl, _, rfl, ?_⟩
      refine iteD (fun h => ?_) (fun h => hN _ _ ⟨z0, d0, rfl, rfl, z1, z6, d8⟩)
      obtain ⟨z, e1, h1, h2⟩ : ∃ z : Nat, (if (4 : Int) < (z0 : Int) then 4 else (z0 : Int)) = (z : Int) ∧ 1 ≤ z ∧ z ≤ 6 := by
        split
        · exact ⟨4, rfl, by decide, by decide⟩
        · exact ⟨z0, rfl, z1, z6⟩
      obtain ⟨dn, e2, h3⟩ : ∃ z : Nat, (if (4 : Int) < (d0 : Int) then 4 else (d0 : Int)) = (z : Int) ∧ z ≤ 8 := by
        split
        · exact ⟨4, rfl, by decide⟩
        · exact ⟨d0, rfl, d8⟩
      refine ⟨_, rfl, _, _, rfl, ?_⟩
      rw [e1]
      refine ⟨_, rfl, _, _, rfl, ?_⟩
      rw [e2]
      exact hN _ _ ⟨z, dn, rfl, rfl, h1, h2, h3⟩
    clear ez ed ek z1 z6 d8
    rintro _ _ ⟨z, dn, rfl, rfl, z1, z6, d8⟩
    -- sides
    refine ⟨by decide, fun ps nps => ?_⟩
    have U0 := (Same.refl H).upd nps (o := .lst [])
    have e0 := upd_same (H := H) (a := ps) (o := .lst [])
    generalize upd H ps (.lst []) = H0 at U0 e0 ⊢
    refine ⟨_, rfl, _, rfl, by omega, by omega, ?_⟩
    rw [Int.toNat_natCast]
    refine for_range (n := _) (fun i σ H2 => ∃ (o5 o6 : Option V) (ss : List Addr) (tk gv : List (List Int)), σ = [some (.ref a), some (.int z), some (.int dn), some (.int kd), some (.ref ps), o5, o6, none] ∧ Same H H2 ∧ H2 ps = some (.lst (ss.map V.ref)) ∧ Sides (era H2 ps) ss tk gv ∧ tk.length = i ∧ (∀ r ∈ tk, okBag z r) ∧ (∀ r ∈ gv, okBag z r) ∧ (kd = 1 → ∀ j, j < i → j % 2 = 0 → okS z (tk.getD j []) ∧ okS z (gv.getD j [])))
      ⟨none, none, [], [], [], rfl, U0, e0, .nil, rfl, (fun r hr => nomatch hr), (fun r hr => nomatch hr), fun _ j h => absurd h (Nat.not_lt_zero _)⟩ ?_ ?_
    · rintro i σ H2 hi ⟨o5, o6, ss, tk, gv, rfl, S2, hps, R, tl, okt, okg, sm⟩
      have hi : i < dn := hi
      have sl := R.lenT
      have gl := R.lenG
      -- ahead
      refine ⟨by show 0 ≤ sizeLine; decide, fun l1 n1 => ?_⟩
      have U1 := (Same.refl H2).upd n1 (o := .lst [])
      refine ⟨by show 0 ≤ sizeLine; decide, fun l2 n2 => ?_⟩
      have U2 := U1.upd n2 (o := .lst [])
      have h12 : l1 ≠ l2 := ne_of_none upd_same n2
      have h1 : upd (upd H2 l1 (.lst [])) l2 (.lst []) l1 = some (.lst (vints [])) := by rw [upd_ne h12, upd_same]; rfl
      have h2 : upd (upd H2 l1 (.lst [])) l2 (.lst []) l2 = some (.lst (vints [])) := by rw [upd_same]; rfl
      generalize upd (upd H2 l1 (.lst [])) l2 (.lst []) = H3 at U2 h1 h2 ⊢
      refine ⟨by show 2 ≤ sizeLine; decide, fun l3 n3 => ?_⟩
      have U3 := U2.upd n3 (o := .lst [V.ref l1, V.ref l2])
      have h3 := upd_same (H := H3) (a := l3) (o := .lst [V.ref l1, V.ref l2])
      have V3 := (Same.refl H3).upd n3 (o := .lst [V.ref l1, V.ref l2])
      have h1' := V3 _ _ h1
      have h2' := V3 _ _ h2
      generalize upd H3 l3 (.lst [V.ref l1, V.ref l2]) = H4 at U3 V3 h3 h1' h2' ⊢
      clear V3 h1 h2 h12 U1 U2 n1 n2 n3
      try dsimp only [tNext]
      refine seq_join (fun σ' H' => ∃ (pa p0 p1 : Addr) (t0 g0 : List Int), σ' = [some (.ref a), some (.int z), some (.int dn), some (.int kd), some (.ref ps), some (.int (0 + (i : Int))), some (.ref pa), none] ∧ H4 = H' ∧ H4 pa = some (.lst [.ref p0, .ref p1]) ∧ H4 p0 = some (.lst (vints t0)) ∧ H4 p1 = some (.lst (vints g0)) ∧ (kd = 1 → i % 2 = 1 → okS z t0 ∧ okS z g0)) ?_ ?_
      rotate_left
      · intro N hN
        refine ⟨_, rfl, _, _, rfl, rfl, _, rfl, ?_⟩
        refine iteD (fun h => ?_) (fun h => hN _ _ ⟨l3, l1, l2, [], [], rfl, rfl, h3, h1', h2', fun _ h1 => by omega⟩)
        obtain ⟨j, rfl⟩ : ∃ j, i = j + 1 := ⟨i - 1, by omega⟩
        obtain ⟨s, p0, p1, es, k1, k2, k3⟩ := R.at (i := j) (by omega)
        have S4 := (era_same H2 ps).trans U3
        refine ⟨_, rfl, _, rfl, _, _, rfl, rfl, ps, _, _, _, rfl, rfl, SqL.of (U3 _ _ hps), ?_, hN _ _ ⟨s, p0, p1, _, _, rfl, rfl, S4 _ _ k1, S4 _ _ k2, S4 _ _ k3, fun hk h1 => sm hk j (by omega) (by omega)⟩⟩
        rw [show (0 : Int) + ((j + 1 : Nat) : Int) - 1 = (j : Int) by omega]
        exact es
      rintro _ _ ⟨pa, p0, p1, t0, g0, rfl, rfl, hpa, hp0, hp1, hsm⟩
      refine ⟨_, rfl, .inl ⟨rfl, _, SqL.of (U3 _ _ hps)⟩, _, rfl, _, rfl, _, rfl, _, rfl, _, rfl, a, pa, p0, p1, ns, t0, g0, i, z, kd, by rw [Int.zero_add]; rfl, (S2.trans U3).seq hS, h63, by omega, z1, z6, SqL.of hpa, SqL.of hp0, SqL.of hp1, hsm, fun p pt pg t g H5 np S5 hp ht hg k1 k2 k3 => ?_⟩
      have hps5 := S5 _ _ (U3 _ _ hps)
      have S25 := U3.trans S5
      refine ⟨ps, _, _, rfl, rfl, hps5, by rw [List.length_map]; exact small70 (by omega), ?_⟩
      refine ⟨_, _, ss ++ [p], tk ++ [t], gv ++ [g], rfl, (S2.trans S25).upd' nps, by rw [upd_same, vrefs_snoc], ?_, by rw [List.length_append, tl]; rfl, fun r hr => ?_, fun r hr => ?_, fun hk j hj h0 => ?_⟩
      · rw [era_upd]
        refine (R.same (era_mono S25 ps)).snoc (era_at (fun e => ?_) hp) (era_at (ints_ne_refs ht hps5 (by rw [k1.1]; exact z1)) ht) (era_at (ints_ne_refs hg hps5 (by rw [k2.1]; exact z1)) hg)
        rw [e, U3 _ _ hps] at np
        cases np
      · rcases List.mem_append.mp hr with w | w
        · exact okt r w
        · rw [List.mem_singleton.mp w]; exact k1
      · rcases List.mem_append.mp hr with w | w
        · exact okg r w
        · rw [List.mem_singleton.mp w]; exact k2
      · rw [List.getD_eq_getElem?_getD, List.getD_eq_getElem?_getD]
        by_cases hji : j < i
        · rw [List.getElem?_append_left (by omega), List.getElem?_append_left (by omega), ← List.getD_eq_getElem?_getD, ← List.getD_eq_getElem?_getD]
          exact sm hk j hji h0
        · have e : j = i := by omega
          rw [List.getElem?_append_right (by omega), List.getElem?_append_right (by omega), show j - tk.length = 0 by omega, show j - gv.length = 0 by omega]
          exact k3 hk (by omega)
    rintro σ H2 ⟨o5, o6, ss, tk, gv, rfl, S2, hps, R0, tl, okt, okg, _⟩
    have R := R0.same (era_same H2 ps)
    have sl := R.lenT
    have gl := R.lenG
    -- first
    refine ⟨_, rfl, _, rfl, by omega, by omega, ?_⟩
    rw [Int.toNat_natCast]
    refine comp_ints (τ := [some (.ref a), some (.int kd)]) (nbK kd) (small70 (by omega)) (fun B j H3 hj S3 Q' hq => ?_) ?_
    · exact ⟨_, rfl, _, rfl, _, _, rfl, rfl, _, rfl, a, ns, 100 + j, kd, by rw [Int.zero_add]; rfl, (S2.trans S3).seq hS, h63, by omega, fun n hn => hq n H3 hn (Same.refl _)⟩
    intro fs H3 S3 fl fb pf npf
    have V3 := S3.upd npf (o := .lst (vints fs))
    have hf3 := upd_same (H := H3) (a := pf) (o := .lst (vints fs))
    generalize upd H3 pf (.lst (vints fs)) = H4 at V3 hf3 ⊢
    have U4 := S2.trans V3
    have R4 := R.same V3
    have hps4 := V3 _ _ hps
    -- the two lists
    refine ⟨_, rfl, ps, rfl, ⟨_, SqL.of hps4⟩, ?_⟩
    refine comp_side (K := K) (τ := []) (rs := tk) (SqL.of hps4) (small70 (by omega)) sl.symm (fun B i s hs Q' hq => ?_) fun ts Rt pt npt => ?_
    · obtain ⟨x, y, k1, k2, k3⟩ := R4.get hs
      exact ⟨_, rfl, s, _, _, _, rfl, rfl, SqL.of k1, rfl, hq x k2⟩
    have V5 := (Same.refl H4).upd npt (o := .lst (ts.map V.ref))
    have ht5 := upd_same (H := H4) (a := pt) (o := .lst (ts.map V.ref))
    generalize upd H4 pt (.lst (ts.map V.ref)) = H5 at V5 ht5 ⊢
    have R5 := R4.same V5
    have hps5 := V5 _ _ hps4
    refine ⟨_, rfl, ps, rfl, ⟨_, SqL.of hps5⟩, ?_⟩
    refine comp_side (K := K) (τ := []) (rs := gv) (SqL.of hps5) (small70 (by omega)) (by omega) (fun B i s hs Q' hq => ?_) fun gs Rg pg npg => ?_
    · obtain ⟨x, y, k1, k2, k3⟩ := R5.get hs
      exact ⟨_, rfl, s, _, _, _, rfl, rfl, SqL.of k1, rfl, hq y k3⟩
    have V6 := (Same.refl H5).upd npg (o := .lst (gs.map V.ref))
    have hg6 := upd_same (H := H5) (a := pg) (o := .lst (gs.map V.ref))
    generalize upd H5 pg (.lst (gs.map V.ref)) = H6 at V6 hg6 ⊢
    refine ⟨_, rfl, by show 3 ≤ sizeLine; decide, fun p np => ?_⟩
    have X := (Same.refl H6).upd np (o := .lst [V.ref pt, V.ref pg, V.ref pf])
    have W6 := V6.trans X
    have W5 := V5.trans W6
    have UU := U4.trans (V5.trans V6)
    exact hQ p pt pg pf ts gs z tk gv fs _ (UU.free np) (UU.trans X) ⟨upd_same, W6 _ _ ht5, Rt.same W5, X _ _ hg6, Rg.same W6, W5 _ _ hf3⟩ ⟨z1, z6, by omega, by omega, okt, okg, ⟨fl, fun x hx => ⟨(fb x hx).1, (fb x hx).2.1⟩⟩⟩
theorem sc_law_weights : FnScope ["script", "size", "way", "weights"] ["script", "size"] (defScope s_law_weights) := ⟨rfl, rfl, rfl, by decide +kernel, rfl, by decide +kernel, by decide +kernel⟩
set_option maxHeartbeats 4000000 in
theorem ok_law_weights (T : Txt K mg AR FR) : FnOk P w K mg base CX0 2 AR.f_law_weights FR.d_law_weights ["script", "size"] (sp_law_weights K) := by
  have G_law_mixed : FnOk P w K mg base CX0 1 AR.f_law_mixed FR.d_law_mixed _ (sp_law_mixed K) := ok_law_mixed T
  refine T.F_law_weights.ok sc_law_weights (fun vs H Q E h => ?_) (fun cdv A outer s H vs Q E hr h => ?_)
  · obtain ⟨a, ns, z, rfl, hS, h63, z8, hQ⟩ := h
    rfl
  · obtain ⟨a, ns, z, rfl, hS, h63, z8, hQ⟩ := h
    refine ⟨_, (pss_cons (ps_set (i := 2) sc_law_weights.nd rfl (Or.inl rfl) (pe_op op_mod (pe_op op_fdiv (pe_call G_law_mixed (hr.mono (by decide)) (by rfl) T.m_law_mixed T.F_law_mixed.kp T.b_law_mixed .nil pass0 (pa_cons (pv 0) (pa_cons pe_int pa_nil))) pe_int) pe_int))
      (pss_cons (ps_if (PW.pt (pw_and (pt_cmpR op_eq (pe_op op_mod (pe_op op_fdiv (pe_call G_law_mixed (hr.mono (by decide)) (by rfl) T.m_law_mixed T.F_law_mixed.kp T.b_law_mixed .nil pass0 (pa_cons (pv 0) (pa_cons pe_int pa_nil))) pe_int) pe_int) pe_int (nomark _)) (pw_and1 (pt_cmpR op_eq (pe_op op_mod (pe_op op_fdiv (pe_call G_law_mixed (hr.mono (by decide)) (by rfl) T.m_law_mixed T.F_law_mixed.kp T.b_law_mixed .nil pass0 (pa_cons (pv 0) (pa_cons pe_int pa_nil))) pe_int) pe_int) pe_int (nomark _))))) (pss_one (ps_set (i := 2) sc_law_weights.nd rfl (Or.inl rfl) pe_int)) pss_nil)
      (pss_cons (ps_setComp (i := 3) (N' := ["b", "script"]) (nt := 1) (caps := [0]) _ _ (CompScope.of (by kernel_rfl)) sc_law_weights.nd rfl rfl (pi_range1 (by rfl) T.z_range (pa_cons (pv 1) pa_nil)) (fun _ => (pg_nameC (i := 0) ["b", "script"] (by decide +kernel) (by rfl))) (fun _ => pts_nil) (fun _ => (pe_op op_add pe_int (pe_op op_mod (pe_call G_law_mixed (hr.mono (by decide)) (by rfl) T.m_law_mixed T.F_law_mixed.kp T.b_law_mixed .nil pass0 (pa_cons (pv 1) (pa_cons pe_int pa_nil))) pe_int))))
      (pss_cons (ps_if (pt_cmpR op_eq (pv 2) pe_int (nomark _)) (pss_one (ps_setComp (i := 3) (N' := ["b", "script"]) (nt := 1) (caps := [0]) _ _ (CompScope.of (by kernel_rfl)) sc_law_weights.nd rfl rfl (pi_range1 (by rfl) T.z_range (pa_cons (pv 1) pa_nil)) (fun _ => (pg_nameC (i := 0) ["b", "script"] (by decide +kernel) (by rfl))) (fun _ => pts_nil) (fun _ => (pe_op op_sub (pe_op op_mod (pe_call G_law_mixed (hr.mono (by decide)) (by rfl) T.m_law_mixed T.F_law_mixed.kp T.b_law_mixed .nil pass0 (pa_cons (pv 1) (pa_cons (pe_op op_add pe_int (pv 0)) pa_nil))) pe_int) pe_int)))) pss_nil)
      (pss_cons (ps_if (pt_cmpR op_eq (pv 2) pe_int (nomark _)) (pss_one (ps_setComp (i := 3) (N' := ["b", "script"]) (nt := 1) (caps := [0]) _ _ (CompScope.of (by kernel_rfl)) sc_law_weights.nd rfl rfl (pi_range1 (by rfl) T.z_range (pa_cons (pv 1) pa_nil)) (fun _ => (pg_nameC (i := 0) ["b", "script"] (by decide +kernel) (by rfl))) (fun _ => pts_nil) (fun _ => (pe_op op_sub (pe_op op_mod (pe_op op_fdiv (pe_call G_law_mixed (hr.mono (by decide)) (by rfl) T.m_law_mixed T.F_law_mixed.kp T.b_law_mixed .nil pass0 (pa_cons (pv 1) (pa_cons (pe_op op_add pe_int (pv 0)) pa_nil))) pe_int) pe_int) pe_int)))) pss_nil)
      (pss_cons (ps_if (pt_cmpR op_eq (pv 2) pe_int (nomark _)) (pss_one (ps_setComp (i := 3) (N' := ["b", "script", "size"]) (nt := 1) (caps := [0, 1]) _ _ (CompScope.of (by kernel_rfl)) sc_law_weights.nd rfl rfl (pi_range1 (by rfl) T.z_range (pa_cons (pv 1) pa_nil)) (fun _ => (pg_nameC (i := 0) ["b", "script", "size"] (by decide +kernel) (by rfl))) (fun _ => pts_nil) (fun _ => (pe_callTy call_int1 (by rfl) T.z_int bt_int (pa_cons (pe_cmpR op_eq (pv 0) (pe_op op_mod (pe_op op_fdiv (pe_call G_law_mixed (hr.mono (by decide)) (by rfl) T.m_law_mixed T.F_law_mixed.kp T.b_law_mixed .nil pass0 (pa_cons (pv 1) (pa_cons pe_int pa_nil))) pe_int) (pv 2)) (nomark _)) pa_nil))))) pss_nil)
      (pss_cons (ps_if (pt_cmpR op_eq (pe_op op_mod (pe_op op_fdiv (pe_call G_law_mixed (hr.mono (by decide)) (by rfl) T.m_law_mixed T.F_law_mixed.kp T.b_law_mixed .nil pass0 (pa_cons (pv 0) (pa_cons pe_int pa_nil))) pe_int) pe_int) pe_int (nomark _)) (pss_one (ps_setComp (i := 3) (N' := ["one"]) (nt := 1) (caps := []) _ _ (CompScope.of (by kernel_rfl)) sc_law_weights.nd rfl rfl (pi_list (pv 3)) (fun _ => (pg_nameC (i := 0) ["one"] (by decide +kernel) (by rfl))) (fun _ => pts_nil) (fun _ => (pe_op op_mul (pv 0) (pe_op op_pow pe_int pe_int))))) pss_nil)
      (pss_one (ps_ret (pv 3)))))))))), ?_⟩
    try dsimp only [kx1, kx2, kx3, Cx.nox, Cx.wish]
    have zr1 : -(2 ^ 62) ≤ (z : Int) := by omega
    have zr2 : (z : Int) < 2 ^ 62 := by omega
    have zs70 : z < sizeLine := small70 (by omega)
    refine ⟨_, rfl, a, ns, 110, rfl, hS, h63, by decide, fun c0 _ _ => ?_⟩
    refine ⟨_, _, rfl, rfl, ⟨by decide, by decide⟩, _, _, rfl, rfl, (by show (0 : Int) < 4; decide), ?_⟩
    try dsimp only
    generalize c0 / 3 % 4 = way0
    refine seq_join (fun σ' H' => ∃ way : Int, σ' = [some (.ref a), some (.int z), some (.int way), none] ∧ H = H') ?_ ?_
    rotate_left
    · intro N hN
      refine ⟨_, rfl, a, ns, 121, rfl, hS, h63, by decide, fun c1 _ _ => ?_⟩
      refine ⟨_, _, rfl, rfl, ⟨by decide, by decide⟩, _, _, rfl, rfl, (by show (0 : Int) < 2; decide), rfl, _, rfl, ?_⟩
      refine iteD (fun _ => ?_) (fun _ => hN _ _ ⟨_, rfl, rfl⟩)
      refine ⟨_, rfl, a, ns, 2, rfl, hS, h63, by decide, fun c2 _ _ => ?_⟩
      refine ⟨_, _, rfl, rfl, ⟨by decide, by decide⟩, _, _, rfl, rfl, (by show (0 : Int) < 5; decide), rfl, _, rfl, ?_⟩
      exact iteD (fun _ => hN _ _ ⟨0, rfl, rfl⟩) (fun _ => hN _ _ ⟨_, rfl, rfl⟩)
    rintro _ _ ⟨way, rfl, rfl⟩
    refine ⟨_, rfl, _, rfl, zr1, zr2, ?_⟩
    rw [Int.toNat_natCast]
    refine comp_ints (τ := [some (.ref a)]) (fun m => -1000000000 ≤ m ∧ m ≤ 1000000000) zs70 (fun B j H2 hj S2 Q' hq => ?_) ?_
    · refine ⟨_, rfl, a, ns, 111, rfl, S2.seq hS, h63, by decide, fun c _ _ => ?_⟩
      have r1 : 0 ≤ c % 9 := Int.emod_nonneg _ (by decide)
      have r2 : c % 9 < 9 := Int.emod_lt_of_pos _ (by decide)
      exact ⟨_, _, rfl, rfl, (by show (0 : Int) < 9; decide), _, _, rfl, rfl, hq _ _ ⟨by omega, by omega⟩ (Same.refl _)⟩
    intro m1 H1 S1 l1 b1 p0 np0
    have U1 := S1.upd np0 (o := .lst (vints m1))
    have e1 := upd_same (H := H1) (a := p0) (o := .lst (vints m1))
    have f1 := S1.free np0
    generalize upd H1 p0 (.lst (vints m1)) = H2 at U1 e1 ⊢
    try dsimp only [tNext]
    refine seq_join (fun σ' H' => ∃ (q : Addr) (ms : List Int), σ' = [some (.ref a), some (.int z), some (.int way), some (.ref q)] ∧ H q = none ∧ Same H H' ∧ H' q = some (.lst (vints ms)) ∧ ms.length = z ∧ ∀ m ∈ ms, -1000000000 ≤ m ∧ m ≤ 1000000000) ?_ ?_
    rotate_left
    · intro N hN
      refine ⟨_, rfl, rfl, _, rfl, ?_⟩
      refine iteD (fun _ => ?_) (fun _ => hN _ _ ⟨p0, m1, rfl, f1, U1, e1, l1, b1⟩)
      refine ⟨_, rfl, _, rfl, zr1, zr2, ?_⟩
      rw [Int.toNat_natCast]
      refine comp_ints (τ := [some (.ref a)]) (fun m => -1000000000 ≤ m ∧ m ≤ 1000000000) zs70 (fun B j H2 hj S2 Q' hq => ?_) fun ms H2 S2 l2 b2 q nq => hN _ _ ⟨q, ms, rfl, (U1.trans S2).free nq, (U1.trans S2).upd nq, upd_same, l2, b2⟩
      refine ⟨_, rfl, _, rfl, _, _, rfl, rfl, a, ns, 112 + j, by rw [Int.zero_add]; rfl, (U1.trans S2).seq hS, h63, by omega, fun c _ _ => ?_⟩
      have r1 : 0 ≤ c % 2000000001 := Int.emod_nonneg _ (by decide)
      have r2 : c % 2000000001 < 2000000001 := Int.emod_lt_of_pos _ (by decide)
      exact ⟨_, _, rfl, rfl, (by show (0 : Int) < 2000000001; decide), _, _, rfl, rfl, hq _ _ ⟨by omega, by omega⟩ (Same.refl _)⟩
    clear e1 b1 l1 f1 U1
    rintro _ H3 ⟨p1, m2, rfl, f1, U1, e1, l1, b1⟩
    refine seq_join (fun σ' H' => ∃ (q : Addr) (ms : List Int), σ' = [some (.ref a), some (.int z), some (.int way), some (.ref q)] ∧ H q = none ∧ Same H H' ∧ H' q = some (.lst (vints ms)) ∧ ms.length = z ∧ ∀ m ∈ ms, -1000000000 ≤ m ∧ m ≤ 1000000000) ?_ ?_
    rotate_left
    · intro N hN
      refine ⟨_, rfl, rfl, _, rfl, ?_⟩
      refine iteD (fun _ => ?_) (fun _ => hN _ _ ⟨p1, m2, rfl, f1, U1, e1, l1, b1⟩)
      refine ⟨_, rfl, _, rfl, zr1, zr2, ?_⟩
      rw [Int.toNat_natCast]
      refine comp_ints (τ := [some (.ref a)]) (fun m => -1000000000 ≤ m ∧ m ≤ 1000000000) zs70 (fun B j H2 hj S2 Q' hq => ?_) fun ms H2 S2 l2 b2 q nq => hN _ _ ⟨q, ms, rfl, (U1.trans S2).free nq, (U1.trans S2).upd nq, upd_same, l2, b2⟩
      refine ⟨_, rfl, _, rfl, _, _, rfl, rfl, a, ns, 112 + j, by rw [Int.zero_add]; rfl, (U1.trans S2).seq hS, h63, by omega, fun c _ _ => ?_⟩
      have r1 : 0 ≤ c / 3 % 5 := Int.emod_nonneg _ (by decide)
      have r2 : c / 3 % 5 < 5 := Int.emod_lt_of_pos _ (by decide)
      exact ⟨_, _, rfl, rfl, ⟨by decide, by decide⟩, _, _, rfl, rfl, (by show (0 : Int) < 5; decide), _, _, rfl, rfl, hq _ _ ⟨by omega, by omega⟩ (Same.refl _)⟩
    clear e1 b1 l1 f1 U1
    rintro _ H4 ⟨p2, m3, rfl, f1, U1, e1, l1, b1⟩
    refine seq_join (fun σ' H' => ∃ (q : Addr) (ms : List Int), σ' = [some (.ref a), some (.int z), some (.int way), some (.ref q)] ∧ H q = none ∧ Same H H' ∧ H' q = some (.lst (vints ms)) ∧ ms.length = z ∧ ∀ m ∈ ms, -1000000000 ≤ m ∧ m ≤ 1000000000) ?_ ?_
    rotate_left
    · intro N hN
      refine ⟨_, rfl, rfl, _, rfl, ?_⟩
      refine iteD (fun _ => ?_) (fun _ => hN _ _ ⟨p2, m3, rfl, f1, U1, e1, l1, b1⟩)
      refine ⟨_, rfl, _, rfl, zr1, zr2, ?_⟩
      rw [Int.toNat_natCast]
      refine comp_ints (τ := [some (.ref a), some (.int z)]) (fun m => -1000000000 ≤ m ∧ m ≤ 1000000000) zs70 (fun B j H5 hj S5 Q' hq => ?_) fun ms H5 S5 l5 b5 q nq => hN _ _ ⟨q, ms, rfl, (U1.trans S5).free nq, (U1.trans S5).upd nq, upd_same, l5, b5⟩
      refine ⟨_, rfl, _, rfl, a, ns, 112, rfl, (U1.trans S5).seq hS, h63, by omega, fun c _ _ => ?_⟩
      refine ⟨_, _, rfl, rfl, ⟨by decide, by decide⟩, _, rfl, _, _, rfl, rfl, (by show (0 : Int) < z; omega), rfl, .inr ⟨_, rfl, hq _ _ ?_ (Same.refl _)⟩⟩
      split <;> decide
    clear e1 b1 l1 f1 U1
    rintro _ H5 ⟨p3, m4, rfl, f1, U1, e1, l1, b1⟩
    have big : ∀ {m : Int}, -1000000000 ≤ m ∧ m ≤ 1000000000 → m.natAbs < 10 ^ 70 := fun {m} h => Nat.lt_of_le_of_lt (show m.natAbs ≤ 1000000000 by omega) (by decide +kernel)
    refine seq_join (fun σ' H' => ∃ (q : Addr) (ms : List Int), σ' = [some (.ref a), some (.int z), some (.int way), some (.ref q)] ∧ H q = none ∧ Same H H' ∧ H' q = some (.lst (vints ms)) ∧ ms.length = z ∧ ∀ m ∈ ms, m.natAbs < 10 ^ 70) ?_ ?_
    rotate_left
    · intro N hN
      refine ⟨_, rfl, a, ns, 118, rfl, U1.seq hS, h63, by decide, fun c _ _ => ?_⟩
      refine ⟨_, _, rfl, rfl, ⟨by decide, by decide⟩, _, _, rfl, rfl, (by show (0 : Int) < 5; decide), rfl, _, rfl, ?_⟩
      refine iteD (fun _ => ?_) (fun _ => hN _ _ ⟨p3, m4, rfl, f1, U1, e1, l1, fun m hm => big (b1 m hm)⟩)
      refine ⟨_, rfl, p3, rfl, ⟨_, SqL.of e1⟩, ?_⟩
      refine comp_mapI (K := K) (τ := []) (fun x => x * 10 ^ 20) (SqL.of e1) (by rw [l1]; exact zs70) (fun B x H6 hx S6 Q' hq => ?_) fun H6 S6 q nq => hN _ _ ⟨q, _, rfl, (U1.trans S6).free nq, (U1.trans S6).upd nq, upd_same, by rw [List.length_map]; exact l1, fun m hm => ?_⟩
      · have := b1 x hx
        exact ⟨_, rfl, _, _, rfl, rfl, ⟨by decide, by decide, by decide⟩, _, _, rfl, rfl, .inl ⟨by omega, by omega⟩, hq _ (Same.refl _)⟩
      · obtain ⟨x, hx, rfl⟩ := List.mem_map.mp hm
        have := b1 x hx
        rw [Int.natAbs_mul]
        exact Nat.lt_of_le_of_lt (Nat.mul_le_mul_right _ (show x.natAbs ≤ 1000000000 by omega)) (by decide +kernel)
    rintro _ H6 ⟨p4, m5, rfl, f5, U5, e5, l5, b5⟩
    exact ⟨_, rfl, hQ p4 m5 _ f5 U5 e5 l5 b5⟩
theorem sc_law_part : FnScope ["script", "parts"] ["script"] (defScope s_law_part) := ⟨rfl, rfl, rfl, by decide +kernel, rfl, by decide +kernel, by decide +kernel⟩
set_option maxHeartbeats 4000000 in
theorem ok_law_part (T : Txt K mg AR FR) : FnOk P w K mg base CX0 2 AR.f_law_part FR.d_law_part ["script"] (sp_law_part K) := by
  have G_law_mixed : FnOk P w K mg base CX0 1 AR.f_law_mixed FR.d_law_mixed _ (sp_law_mixed K) := ok_law_mixed T
  refine T.F_law_part.ok sc_law_part (fun vs H Q E h => ?_) (fun cdv A outer s H vs Q E hr h => ?_)
  · obtain ⟨a, ns, rfl, hS, h63, hQ⟩ := h
    rfl
  · obtain ⟨a, ns, rfl, hS, h63, hQ⟩ := h
    refine ⟨_, (pss_cons (ps_set (i := 1) sc_law_part.nd rfl (Or.inl rfl) (pe_lst (pa_cons pe_int (pa_cons pe_int (pa_cons (pe_op op_add pe_int (pe_op op_mod (pe_op op_fdiv (pe_call G_law_mixed (hr.mono (by decide)) (by rfl) T.m_law_mixed T.F_law_mixed.kp T.b_law_mixed .nil pass0 (pa_cons (pv 0) (pa_cons pe_int pa_nil))) pe_int) pe_int)) (pa_cons (pe_op op_add pe_int (pe_op op_mod (pe_call G_law_mixed (hr.mono (by decide)) (by rfl) T.m_law_mixed T.F_law_mixed.kp T.b_law_mixed .nil pass0 (pa_cons (pv 0) (pa_cons pe_int pa_nil))) pe_int)) pa_nil))))))
      (pss_cons (ps_if (PW.pt (pw_and (pt_cmpR op_eq (pe_op op_mod (pe_op op_fdiv (pe_call G_law_mixed (hr.mono (by decide)) (by rfl) T.m_law_mixed T.F_law_mixed.kp T.b_law_mixed .nil pass0 (pa_cons (pv 0) (pa_cons pe_int pa_nil))) pe_int) pe_int) pe_int (nomark _)) (pw_and1 (pt_cmpR op_eq (pe_op op_mod (pe_op op_fdiv (pe_call G_law_mixed (hr.mono (by decide)) (by rfl) T.m_law_mixed T.F_law_mixed.kp T.b_law_mixed .nil pass0 (pa_cons (pv 0) (pa_cons pe_int pa_nil))) pe_int) pe_int) pe_int (nomark _))))) (pss_one (ps_ret (pe_ix ix_list (pv 1) pe_int (fun _ _ => rfl)))) pss_nil)
      (pss_one (ps_ret (pe_ix ix_list (pv 1) (pe_op op_mod (pe_op op_fdiv (pe_call G_law_mixed (hr.mono (by decide)) (by rfl) T.m_law_mixed T.F_law_mixed.kp T.b_law_mixed .nil pass0 (pa_cons (pv 0) (pa_cons pe_int pa_nil))) pe_int) pe_int) (fun _ _ => rfl)))))), ?_⟩
    try dsimp only [kx1, kx2, kx3, Cx.nox, Cx.wish]
    refine ⟨_, rfl, a, ns, 3, rfl, hS, h63, by decide, fun c0 _ _ => ?_⟩
    obtain ⟨x2, e2⟩ := Int.eq_ofNat_of_zero_le (show 0 ≤ 2 + c0 / 7 % 999 from Int.add_nonneg (by decide) (Int.emod_nonneg _ (by decide)))
    refine ⟨_, _, rfl, rfl, ⟨by decide, by decide⟩, _, _, rfl, rfl, (by show (0 : Int) < 999; decide), _, _, rfl, rfl, ?_⟩
    try dsimp only
    rw [e2]
    refine ⟨_, rfl, a, ns, 119, rfl, hS, h63, by decide, fun c1 _ _ => ?_⟩
    obtain ⟨x3, e3⟩ := Int.eq_ofNat_of_zero_le (show 0 ≤ 1 + c1 % 1000000000 from Int.add_nonneg (by decide) (Int.emod_nonneg _ (by decide)))
    refine ⟨_, _, rfl, rfl, (by show (0 : Int) < 1000000000; decide), _, _, rfl, rfl, ?_⟩
    try dsimp only
    rw [e3]
    refine ⟨by show 4 ≤ sizeLine; decide, fun pp npp => ?_⟩
    have U := (Same.refl H).upd npp (o := .lst [V.int 0, V.int 1, V.int (x2 : Int), V.int (x3 : Int)])
    have hp := upd_same (H := H) (a := pp) (o := .lst [V.int 0, V.int 1, V.int (x2 : Int), V.int (x3 : Int)])
    generalize upd H pp (.lst [V.int 0, V.int 1, V.int (x2 : Int), V.int (x3 : Int)]) = H1 at U hp ⊢
    refine seq_join (fun σ' H' => σ' = [some (.ref a), some (.ref pp)] ∧ H1 = H') ?_ ?_
    rotate_left
    · intro N hN
      refine ⟨_, rfl, a, ns, 121, rfl, U.seq hS, h63, by decide, fun c1 _ _ => ?_⟩
      refine ⟨_, _, rfl, rfl, ⟨by decide, by decide⟩, _, _, rfl, rfl, (by show (0 : Int) < 2; decide), rfl, _, rfl, ?_⟩
      refine iteD (fun _ => ?_) (fun _ => hN _ _ ⟨rfl, rfl⟩)
      refine ⟨_, rfl, a, ns, 2, rfl, U.seq hS, h63, by decide, fun c2 _ _ => ?_⟩
      refine ⟨_, _, rfl, rfl, ⟨by decide, by decide⟩, _, _, rfl, rfl, (by show (0 : Int) < 5; decide), rfl, _, rfl, ?_⟩
      refine iteD (fun _ => ?_) (fun _ => hN _ _ ⟨rfl, rfl⟩)
      exact ⟨_, rfl, pp, _, _, _, rfl, rfl, SqL.of hp, rfl, hQ x2 _ U⟩
    rintro _ _ ⟨rfl, rfl⟩
    refine ⟨_, rfl, _, rfl, a, ns, 120, rfl, U.seq hS, h63, by decide, fun c3 _ _ => ?_⟩
    obtain ⟨i, ei⟩ := Int.eq_ofNat_of_zero_le (Int.emod_nonneg (c3 / 3) (show (4 : Int) ≠ 0 by decide))
    have i4 : i < 4 := by have := Int.emod_lt_of_pos (c3 / 3) (show (0 : Int) < 4 by decide); omega
    refine ⟨_, _, rfl, rfl, ⟨by decide, by decide⟩, _, _, rfl, rfl, (by show (0 : Int) < 4; decide), ?_⟩
    try dsimp only
    rw [ei]
    match i, i4 with
    | 0, _ => exact ⟨pp, _, _, _, rfl, rfl, SqL.of hp, rfl, hQ 0 _ U⟩
    | 1, _ => exact ⟨pp, _, _, _, rfl, rfl, SqL.of hp, rfl, hQ 1 _ U⟩
    | 2, _ => exact ⟨pp, _, _, _, rfl, rfl, SqL.of hp, rfl, hQ x2 _ U⟩
    | 3, _ => exact ⟨pp, _, _, _, rfl, rfl, SqL.of hp, rfl, hQ x3 _ U⟩
theorem sc_law_gains : FnScope ["parts", "size"] ["parts"] (defScope s_law_gains) := ⟨rfl, rfl, rfl, by decide +kernel, rfl, by decide +kernel, by decide +kernel⟩
set_option maxHeartbeats 4000000 in
theorem ok_law_gains (T : Txt K mg AR FR) : FnOk P w K mg base CX0 1 AR.f_law_gains FR.d_law_gains ["parts"] (sp_law_gains K) := by
  refine T.F_law_gains.ok sc_law_gains (fun vs H Q E h => ?_) (fun cdv A outer s H vs Q E hr h => ?_)
  · obtain ⟨p, pt, pg, pf, ts, gs, z, tk, gv, fs, rfl, P, o, hQ⟩ := h
    rfl
  · obtain ⟨p, pt, pg, pf, ts, gs, z, tk, gv, fs, rfl, P, o, hQ⟩ := h
    refine ⟨_, (pss_cons (ps_set (i := 1) sc_law_gains.nd rfl (Or.inr rfl) (pe_callB call_len_seq (by rfl) T.z_len bt_len (pa_cons (pe_ix ix_list (pv 0) pe_int (fun _ _ => rfl)) pa_nil)))
      (pss_one (ps_ret (pe_compC (N' := ["d", "size", "parts"]) (nt := 1) (caps := [1, 0]) _ _ (CompScopeC.of (by kernel_rfl)) (pi_range1 (by rfl) T.z_range (pa_cons (pe_callB call_len_seq (by rfl) T.z_len bt_len (pa_cons (pe_ix ix_list (pv 0) pe_int (fun _ _ => rfl)) pa_nil)) pa_nil)) (fun _ => (pg_nameK (i := 0) ["d", "size", "parts"] (by decide +kernel) (by rfl))) (fun _ => pts_nil) (fun _ => (pe_comp (N' := ["b", "parts", "d"]) (nt := 1) (caps := [2, 0]) _ _ (CompScope.of (by kernel_rfl)) (pi_range1 (by rfl) T.z_range (pa_cons (pv 1) pa_nil)) (fun _ => (pg_nameC (i := 0) ["b", "parts", "d"] (by decide +kernel) (by rfl))) (fun _ => pts_nil) (fun _ => (pe_op op_sub (pe_ix ix_list (pe_ix ix_list (pe_ix ix_list (pv 1) pe_int (fun _ _ => rfl)) (pv 2) (fun _ _ => rfl)) (pv 0) (fun _ _ => rfl)) (pe_ix ix_list (pe_ix ix_list (pe_ix ix_list (pv 1) pe_int (fun _ _ => rfl)) (pv 2) (fun _ _ => rfl)) (pv 0) (fun _ _ => rfl)))))))))), ?_⟩
    try dsimp only [kx1, kx2, kx3, Cx.nox, Cx.wish]
    have z6 := o.z6
    have t8 := o.t8
    have gl := o.gl
    have fl := o.fs.1
    have vf : (vints fs).length = fs.length := ints_len fs
    have tl : (ts.map V.ref).length = tk.length := by rw [List.length_map, P.tr.length]
    refine ⟨_, rfl, p, _, _, _, rfl, rfl, SqL.of P.top, rfl, pf, _, rfl, .inl (SqL.of P.hf), ?_⟩
    rw [vf, fl]
    refine ⟨_, rfl, p, _, _, _, rfl, rfl, SqL.of P.top, rfl, pt, _, rfl, .inl (SqL.of P.ht), _, rfl, by rw [tl]; omega, by rw [tl]; omega, ?_⟩
    rw [tl, Int.toNat_natCast]
    refine comp_rowsAt (τ := [some (.int z), some (.ref p)]) (fun d => sub (gv.getD d []) (tk.getD d [])) (small70 (by omega)) (fun B d H2 hd S2 Q' hq => ?_) ?_
    · have P2 := P.same S2
      have hg : d < gv.length := by omega
      obtain ⟨qt, et, ft⟩ := rows_at P2.tr hd
      obtain ⟨qg, eg, fg⟩ := rows_at P2.gr hg
      have zt := (o.tk _ (List.getElem_mem hd)).1
      have zg := (o.gv _ (List.getElem_mem hg)).1
      refine ⟨_, rfl, _, rfl, by omega, by omega, ?_⟩
      rw [Int.toNat_natCast]
      refine comp_at (τ := [some (.ref p), some (.int (0 + (d : Int)))]) (fun b => gv[d].getD b 0 - tk[d].getD b 0) (small70 (by omega)) (fun B b H3 hb S3 Q'' hq2 => ?_) fun H3 S3 p3 np3 => ?_
      · have P3 := P2.same S3
        exact ⟨_, rfl, p, _, _, _, rfl, rfl, SqL.of P3.top, rfl, _, rfl, pg, _, _, _, rfl, rfl, SqL.of P3.hg, by rw [Int.zero_add]; exact eg, _, rfl, qg, _, _, _, rfl, rfl, SqL.of (S3 _ _ fg), at_place zg hb, _, rfl, p, _, _, _, rfl, rfl, SqL.of P3.top, rfl, _, rfl, pt, _, _, _, rfl, rfl, SqL.of P3.ht, by rw [Int.zero_add]; exact et, _, rfl, qt, _, _, _, rfl, rfl, SqL.of (S3 _ _ ft), at_place zt hb, _, _, rfl, rfl, hq2 _ (Same.refl _)⟩
      · refine hq p3 _ (S3.free np3) (S3.upd np3) ?_
        rw [upd_same, getDr hd, getDr hg]
        congr 3
        refine ext_at (z := z) (by simp) (sub_len zg zt) fun k hk => ?_
        rw [sub_at zg zt hk, List.getD_eq_getElem?_getD, List.getElem?_map, List.getElem?_range hk]
        rfl
    · intro as H2 S2 R2 _ q nq
      exact hQ q as _ (S2.free nq) (S2.upd nq) upd_same (R2.same ((Same.refl H2).upd nq))
theorem sc_law_behind : FnScope ["parts", "tally", "bag", "rows", "d"] ["parts", "tally"] (defScope s_law_behind) := ⟨rfl, rfl, rfl, by decide +kernel, rfl, by decide +kernel, by decide +kernel⟩
set_option maxHeartbeats 4000000 in
theorem ok_law_behind (T : Txt K mg AR FR) : FnOk P w K mg base CX0 2 AR.f_law_behind FR.d_law_behind ["parts", "tally"] (sp_law_behind K) := by
  have G_law_gains : FnOk P w K mg base CX0 1 AR.f_law_gains FR.d_law_gains _ (sp_law_gains K) := ok_law_gains T
  refine T.F_law_behind.ok sc_law_behind (fun vs H Q E h => ?_) (fun cdv A outer s H vs Q E hr h => ?_)
  · obtain ⟨p, pt, pg, pf, c, ts, gs, z, tk, gv, fs, ms, rfl, P, o, hc, ml, mb, hQ⟩ := h
    rfl
  · obtain ⟨p, pt, pg, pf, c, ts, gs, z, tk, gv, fs, ms, rfl, P, o, hc, ml, mb, hQ⟩ := h
    refine ⟨_, (pss_cons (ps_set (i := 2) sc_law_behind.nd rfl (Or.inr rfl) (pe_callTy call_list_of (by rfl) T.z_list bt_list (pa_cons (pe_ix ix_list (pv 0) pe_int (fun _ _ => rfl)) pa_nil)))
      (pss_cons (ps_set (i := 3) sc_law_behind.nd rfl (Or.inr rfl) (pe_call G_law_gains (hr.mono (by decide)) (by rfl) T.m_law_gains T.F_law_gains.kp T.b_law_gains .nil pass0 (pa_cons (pv 0) pa_nil)))
      (pss_cons (ps_for PassesOwn.never rfl (pi_range1 (by rfl) T.z_range (pa_cons (pe_callB call_len_seq (by rfl) T.z_len bt_len (pa_cons (pv 3) pa_nil)) pa_nil)) (pg_name (i := 4) sc_law_behind.nd (by rfl) (Or.inr rfl))
      (pss_one (ps_set (i := 2) sc_law_behind.nd rfl (Or.inr rfl) (pe_comp (N' := ["b", "bag", "tally", "d", "rows"]) (nt := 1) (caps := [2, 1, 4, 3]) _ _ (CompScope.of (by kernel_rfl)) (pi_range1 (by rfl) T.z_range (pa_cons (pe_callB call_len_seq (by rfl) T.z_len bt_len (pa_cons (pv 2) pa_nil)) pa_nil)) (fun _ => (pg_nameC (i := 0) ["b", "bag", "tally", "d", "rows"] (by decide +kernel) (by rfl))) (fun _ => pts_nil) (fun _ => (pe_op op_add (pe_ix ix_list (pv 1) (pv 0) (fun _ _ => rfl)) (pe_op op_mulB (pe_ix ix_list (pv 2) (pv 3) (fun _ _ => rfl)) (pe_ix ix_list (pe_ix ix_list (pv 4) (pv 3) (fun _ _ => rfl)) (pv 0) (fun _ _ => rfl)))))))))
      (pss_one (ps_ret (pv 2)))))), ?_⟩
    try dsimp only [kx1, kx2, kx3, Cx.nox, Cx.wish]
    have z6 := o.z6
    have t8 := o.t8
    have gl := o.gl
    have fl := o.fs.1
    have wt := wd_of o.tk
    have wg := wd_of o.gv
    refine ⟨_, rfl, p, _, _, _, rfl, rfl, SqL.of P.top, rfl, pf, _, rfl, .inl (SqL.of P.hf), fun p0 np0 => ?_⟩
    have U2 := (Same.refl H).upd np0 (o := .lst (vints fs))
    have e0 := upd_same (H := H) (a := p0) (o := .lst (vints fs))
    generalize upd H p0 (.lst (vints fs)) = H1 at U2 e0 ⊢
    refine ⟨_, rfl, p, pt, pg, pf, ts, gs, z, tk, gv, fs, rfl, P.same U2, o, fun q1 as H2 nq1 S2 hq1 R1 => ?_⟩
    have U3 := U2.trans S2
    have al : (as.map V.ref).length = tk.length := by rw [List.length_map, R1.length, gnP_len]
    refine ⟨_, rfl, q1, _, rfl, .inl (SqL.of hq1), _, rfl, by rw [al]; omega, by rw [al]; omega, ?_⟩
    rw [al, Int.toNat_natCast]
    refine for_range (n := _) (fun i σ H4 => ∃ (q : Addr) (o4 : Option V) (bag : List Int), σ = [some (.ref p), some (.ref c), some (.ref q), some (.ref q1), o4] ∧ Same H2 H4 ∧ H q = none ∧ H4 q = some (.lst (vints bag)) ∧ bag.length = z ∧ (∀ y ∈ bag, y.natAbs ≤ 1000000000 + i * 63000000000000000000) ∧ Rch z (gnP tk gv) fs bag) ⟨p0, none, fs, rfl, Same.refl _, np0, S2 _ _ e0, fl, fun y hy => by have := o.fs.2 y hy; omega, rch_start fl⟩ ?_ ?_
    · rintro i σ H4 hi ⟨q, o4, bag, rfl, S4, fq, hq, bl, bbd, rch⟩
      have hi : i < tk.length := hi
      have gi : i < (gnP tk gv).length := by rw [gnP_len]; exact hi
      obtain ⟨qr, er, fr⟩ := rows_at R1 gi
      have lr : (gnP tk gv)[i].length = z := gnP_wd wt wg gl _ (List.getElem_mem gi)
      have vq : (vints bag).length = z := by rw [ints_len, bl]
      have gb : ∀ y ∈ (gnP tk gv)[i], y.natAbs ≤ 1000000000 := fun y hy => by
        have e : (gnP tk gv)[i] = sub gv[i] tk[i] := by rw [← getDr gi, gnP_at hi, getDr hi, getDr (by omega)]
        rw [e] at hy
        exact sub_abs (o.gv _ (List.getElem_mem _)).1 (o.tk _ (List.getElem_mem _)).1 (o.gv _ (List.getElem_mem _)).2 (o.tk _ (List.getElem_mem _)).2 y hy
      refine ⟨_, rfl, q, _, rfl, .inl (SqL.of hq), _, rfl, by rw [vq]; omega, by rw [vq]; omega, ?_⟩
      rw [vq, Int.toNat_natCast]
      refine comp_at (τ := [some (.ref q), some (.ref c), some (.int (0 + (i : Int))), some (.ref q1)]) (fun b => bag.getD b 0 + ms.getD i 0 * (gnP tk gv)[i].getD b 0) (small70 (by omega)) (fun B b H5 hb S5 Q' hq2 => ?_) fun H5 S5 p5 np5 => ?_
      · have S45 := S4.trans S5
        exact ⟨_, rfl, _, rfl, q, _, _, _, rfl, rfl, SqL.of (S5 _ _ hq), at_place bl hb, _, rfl, _, rfl, c, _, _, _, rfl, rfl, (U3.trans S45).seq hc, at_place ml hi, _, rfl, _, rfl, q1, _, _, _, rfl, rfl, SqL.of (S45 _ _ hq1), by rw [Int.zero_add]; exact er, _, rfl, qr, _, _, _, rfl, rfl, SqL.of (S45 _ _ fr), at_place lr hb, _, _, rfl, rfl, ⟨Nat.lt_of_le_of_lt (at_in (P := fun x => x.natAbs ≤ 63000000000) ml hi mb) (by decide +kernel), Nat.lt_of_le_of_lt (at_in (P := fun x => x.natAbs ≤ 1000000000) lr hb gb) (by decide +kernel)⟩, _, _, rfl, rfl, hq2 _ (Same.refl _)⟩
      · refine ⟨p5, _, _, rfl, (S4.trans S5).upd np5, (U3.trans (S4.trans S5)).free np5, upd_same, by simp, fun y hy => ?_, rch_step fl bl lr (List.getElem_mem gi) rch⟩
        obtain ⟨b, hb, rfl⟩ := List.mem_map.mp hy
        have hb := List.mem_range.mp hb
        have a1 := at_in (P := fun x => x.natAbs ≤ 1000000000 + i * 63000000000000000000) bl hb bbd
        have a2 : (ms.getD i 0 * (gnP tk gv)[i].getD b 0).natAbs ≤ 63000000000 * 1000000000 := by
          rw [Int.natAbs_mul]
          exact Nat.mul_le_mul (at_in (P := fun x => x.natAbs ≤ 63000000000) ml hi mb) (at_in (P := fun x => x.natAbs ≤ 1000000000) lr hb gb)
        omega
    · rintro σ H4 ⟨q, o4, bag, rfl, S4, fq, hq, bl, bbd, rch⟩
      exact ⟨_, rfl, hQ q bag H4 fq (U3.trans S4) hq bl (fun y hy => by have := bbd y hy; omega) rch⟩
theorem sc_law_tally : FnScope ["script", "many", "tally", "k", "at"] ["script", "many"] (defScope s_law_tally) := ⟨rfl, rfl, rfl, by decide +kernel, rfl, by decide +kernel, by decide +kernel⟩
set_option maxHeartbeats 4000000 in
theorem ok_law_tally (T : Txt K mg AR FR) : FnOk P w K mg base CX0 1 AR.f_law_tally FR.d_law_tally ["script", "many"] (sp_law_tally K) := by
  refine T.F_law_tally.ok sc_law_tally (fun vs H Q E h => ?_) (fun cdv A outer s H vs Q E hr h => ?_)
  · obtain ⟨a, ns, z, rfl, hS, h63, z8, hQ⟩ := h
    rfl
  · obtain ⟨a, ns, z, rfl, hS, h63, z8, hQ⟩ := h
    refine ⟨_, (pss_cons (ps_set (i := 2) sc_law_tally.nd rfl (Or.inl rfl) (pe_op op_rep (pe_lst (pa_cons pe_int pa_nil)) (pv 1)))
      (pss_cons (ps_for PassesOwn.never rfl (pi_range1 (by rfl) T.z_range (pa_cons (pe_callB call_len_seq (by rfl) T.z_len bt_len (pa_cons (pv 0) pa_nil)) pa_nil)) (pg_name (i := 3) sc_law_tally.nd (by rfl) (Or.inl rfl))
      (pss_one (ps_if (pt_cmpR op_gt (pv 1) pe_int (nomark _)) (pss_cons (ps_set (i := 4) sc_law_tally.nd rfl (Or.inl rfl) (pe_op op_mod (pe_op op_add (pv 3) (pe_op op_fdiv (pv 3) (pv 1))) (pv 1)))
      (pss_one (ps_asg (pe_op op_sub (pe_op op_add (pe_ix ix_list (pv 2) (pv 4) (fun _ _ => rfl)) (pe_op op_mod (pe_ix ix_list (pv 0) (pv 3) (fun _ _ => rfl)) pe_int)) pe_int) (pg_sub (pv 2) (pv 4) set_list)))) pss_nil)))
      (pss_one (ps_ret (pv 2))))), ?_⟩
    try dsimp only [kx1, kx2, kx3, Cx.nox, Cx.wish]
    have zs70 : z < sizeLine := small70 (show z ≤ 70 by omega)
    have vn : (vints ns).length = ns.length := ints_len ns
    refine ⟨by decide, fun l nl => ⟨_, rfl, l, _, _, rfl, rfl, upd_same, by omega, by omega, by rw [Int.toNat_natCast]; show 1 * z ≤ _; omega, fun pm npm => ?_⟩⟩
    rw [Int.toNat_natCast, rep_flat]
    have U0 := (Same.refl H).upd nl (o := .lst [V.int 0])
    have U1 := U0.upd npm (o := .lst (vints (List.replicate z 0)))
    have e1 := upd_same (H := upd H l (.lst [V.int 0])) (a := pm) (o := .lst (vints (List.replicate z 0)))
    have fpm := U0.free npm
    generalize upd (upd H l (.lst [V.int 0])) pm (.lst (vints (List.replicate z 0))) = H1 at U1 e1 ⊢
    refine ⟨_, rfl, a, _, rfl, .inl (U1.seq hS), _, rfl, by rw [vn]; omega, by rw [vn]; omega, ?_⟩
    rw [vn, Int.toNat_natCast]
    refine for_range (n := _) (fun i σ H2 => ∃ (o3 o4 : Option V) (ms : List Int), σ = [some (.ref a), some (.int z), some (.ref pm), o3, o4] ∧ Same H H2 ∧ H2 pm = some (.lst (vints ms)) ∧ ms.length = z ∧ ∀ m ∈ ms, m.natAbs ≤ i * 1000000000) ⟨none, none, _, rfl, U1, e1, List.length_replicate, fun m hm => by rw [(List.mem_replicate.mp hm).2]; omega⟩ ?_ ?_
    · rintro i σ H2 hi ⟨o3, o4, ms, rfl, S, hm, ml, mb⟩
      have hi : i < ns.length := hi
      have mono : ∀ m ∈ ms, m.natAbs ≤ (i + 1) * 1000000000 := fun m hm => Nat.le_trans (mb m hm) (Nat.mul_le_mul_right _ (Nat.le_succ i))
      refine ⟨_, rfl, _, _, rfl, rfl, _, rfl, ?_⟩
      refine iteD (fun hz => ?_) (fun _ => ⟨_, _, ms, rfl, S, hm, ml, mono⟩)
      have hz : (0 : Int) < z := hz
      refine ⟨_, rfl, _, rfl, _, rfl, _, _, rfl, rfl, ⟨by omega, by omega⟩, _, _, rfl, rfl, _, rfl, _, _, rfl, rfl, hz, ?_⟩
      try dsimp only
      obtain ⟨k, ek⟩ := Int.eq_ofNat_of_zero_le (Int.emod_nonneg (0 + (i : Int) + (0 + (i : Int)) / (z : Int)) (show (z : Int) ≠ 0 by omega))
      have ek2 := Int.emod_lt_of_pos (0 + (i : Int) + (0 + (i : Int)) / (z : Int)) hz
      rw [ek]
      have kz : k < z := by omega
      have r1 : 0 ≤ ns.getD i 0 % 2000000001 := Int.emod_nonneg _ (by decide)
      have r2 : ns.getD i 0 % 2000000001 < 2000000001 := Int.emod_lt_of_pos _ (by decide)
      refine ⟨_, rfl, _, rfl, pm, _, _, _, rfl, rfl, SqL.of hm, at_zs (by omega), _, rfl, _, rfl, a, _, _, _, rfl, rfl, S.seq hS, at_place rfl hi, _, _, rfl, rfl, (by show (0 : Int) < 2000000001; decide), _, _, rfl, rfl, _, _, rfl, rfl, ?_⟩
      have ix : ixN (vints ms).length (k : Int) = some k := by
        unfold ixN
        rw [ints_len, ml, if_pos (by omega), if_pos (by omega), Int.toNat_natCast]
      have mk := at_in (P := fun m => m.natAbs ≤ i * 1000000000) ml kz mb
      refine ⟨_, rfl, _, rfl, pm, _, _, k, rfl, rfl, hm, ix, ?_⟩
      refine ⟨_, _, ms.set k (ms.getD k 0 + ns.getD i 0 % 2000000001 - 1000000000), rfl, S.upd' fpm, ?_, by rw [List.length_set]; exact ml, fun m hm => ?_⟩
      · rw [upd_same]
        unfold vints
        rw [List.map_set]
      · rcases List.mem_or_eq_of_mem_set hm with q | q
        · exact mono m q
        · rw [q, Nat.succ_mul]
          generalize i * 1000000000 = B1 at mk
          omega
    · rintro σ H2 ⟨o3, o4, ms, rfl, S, hm, ml, mb⟩
      exact ⟨_, rfl, hQ pm ms H2 fpm S hm ml fun m hm => Nat.le_trans (mb m hm) (Nat.mul_le_mul_right 1000000000 h63)⟩
theorem sc_law_bag : FnScope ["script", "parts", "bag", "way", "at"] ["script", "parts"] (defScope s_law_bag) := ⟨rfl, rfl, rfl, by decide +kernel, rfl, by decide +kernel, by decide +kernel⟩
set_option maxHeartbeats 4000000 in
theorem ok_law_bag (T : Txt K mg AR FR) : FnOk P w K mg base CX0 3 AR.f_law_bag FR.d_law_bag ["script", "parts"] (sp_law_bag K) := by
  have G_law_behind : FnOk P w K mg base CX0 2 AR.f_law_behind FR.d_law_behind _ (sp_law_behind K) := ok_law_behind T
  have G_law_tally : FnOk P w K mg base CX0 1 AR.f_law_tally FR.d_law_tally _ (sp_law_tally K) := ok_law_tally T
  have G_law_mixed : FnOk P w K mg base CX0 1 AR.f_law_mixed FR.d_law_mixed _ (sp_law_mixed K) := ok_law_mixed T
  refine T.F_law_bag.ok sc_law_bag (fun vs H Q E h => ?_) (fun cdv A outer s H vs Q E hr h => ?_)
  · obtain ⟨a, p, pt, pg, pf, ns, ts, gs, z, tk, gv, fs, rfl, hS, h63, P, o, hQ⟩ := h
    rfl
  · obtain ⟨a, p, pt, pg, pf, ns, ts, gs, z, tk, gv, fs, rfl, hS, h63, P, o, hQ⟩ := h
    refine ⟨_, (pss_cons (ps_set (i := 2) sc_law_bag.nd rfl (Or.inl rfl) (pe_call G_law_behind (hr.mono (by decide)) (by rfl) T.m_law_behind T.F_law_behind.kp T.b_law_behind .nil pass0 (pa_cons (pv 1) (pa_cons (pe_call G_law_tally (hr.mono (by decide)) (by rfl) T.m_law_tally T.F_law_tally.kp T.b_law_tally .nil pass0 (pa_cons (pv 0) (pa_cons (pe_callB call_len_seq (by rfl) T.z_len bt_len (pa_cons (pe_ix ix_list (pv 1) pe_int (fun _ _ => rfl)) pa_nil)) pa_nil))) pa_nil))))
      (pss_cons (ps_set (i := 3) sc_law_bag.nd rfl (Or.inl rfl) (pe_op op_mod (pe_op op_fdiv (pe_call G_law_mixed (hr.mono (by decide)) (by rfl) T.m_law_mixed T.F_law_mixed.kp T.b_law_mixed .nil pass0 (pa_cons (pv 0) (pa_cons pe_int pa_nil))) pe_int) pe_int))
      (pss_cons (ps_set (i := 4) sc_law_bag.nd rfl (Or.inl rfl) (pe_op op_mod (pe_op op_fdiv (pe_call G_law_mixed (hr.mono (by decide)) (by rfl) T.m_law_mixed T.F_law_mixed.kp T.b_law_mixed .nil pass0 (pa_cons (pv 0) (pa_cons pe_int pa_nil))) pe_int) (pe_callB call_len_seq (by rfl) T.z_len bt_len (pa_cons (pv 2) pa_nil))))
      (pss_cons (ps_if (pt_cmpR op_eq (pv 3) pe_int (nomark _)) (pss_one (ps_asg (pe_op op_sub (pe_op op_add (pe_ix ix_list (pv 2) (pv 4) (fun _ _ => rfl)) pe_int) (pe_op op_mul pe_int (pe_op op_mod (pe_op op_fdiv (pe_call G_law_mixed (hr.mono (by decide)) (by rfl) T.m_law_mixed T.F_law_mixed.kp T.b_law_mixed .nil pass0 (pa_cons (pv 0) (pa_cons pe_int pa_nil))) pe_int) pe_int))) (pg_sub (pv 2) (pv 4) set_list))) pss_nil)
      (pss_cons (ps_if (pt_cmpR op_eq (pv 3) pe_int (nomark _)) (pss_one (ps_setComp (i := 2) (N' := ["b", "script"]) (nt := 1) (caps := [0]) _ _ (CompScope.of (by kernel_rfl)) sc_law_bag.nd rfl rfl (pi_range1 (by rfl) T.z_range (pa_cons (pe_callB call_len_seq (by rfl) T.z_len bt_len (pa_cons (pv 2) pa_nil)) pa_nil)) (fun _ => (pg_nameC (i := 0) ["b", "script"] (by decide +kernel) (by rfl))) (fun _ => pts_nil) (fun _ => (pe_op op_sub (pe_op op_mod (pe_call G_law_mixed (hr.mono (by decide)) (by rfl) T.m_law_mixed T.F_law_mixed.kp T.b_law_mixed .nil pass0 (pa_cons (pv 1) (pa_cons (pe_op op_add pe_int (pv 0)) pa_nil))) pe_int) pe_int)))) pss_nil)
      (pss_one (ps_ret (pv 2)))))))), ?_⟩
    try dsimp only [kx1, kx2, kx3, Cx.nox, Cx.wish]
    have z1 := o.z1
    have z6 := o.z6
    have t8 := o.t8
    have tl : (ts.map V.ref).length = tk.length := by rw [List.length_map, P.tr.length]
    refine ⟨_, rfl, _, rfl, _, rfl, p, _, _, _, rfl, rfl, SqL.of P.top, rfl, pt, _, rfl, .inl (SqL.of P.ht), a, ns, tk.length, by rw [tl]; rfl, hS, h63, t8, fun c ms H1 nc S1 hc ml mb => ?_⟩
    refine ⟨p, pt, pg, pf, c, ts, gs, z, tk, gv, fs, ms, rfl, P.same S1, o, SqL.of hc, ml, mb, fun q bag H2 nq S2 hq bl bb _ => ?_⟩
    have S12 := S1.trans S2
    have fq := S1.free nq
    have vq : (vints bag).length = z := by rw [ints_len, bl]
    refine ⟨_, rfl, a, ns, 131, rfl, S12.seq hS, h63, by decide, fun c1 _ _ => ?_⟩
    refine ⟨_, _, rfl, rfl, ⟨by decide, by decide⟩, _, _, rfl, rfl, (by show (0 : Int) < 3; decide), ?_⟩
    try dsimp only
    generalize c1 / 3 % 3 = way
    refine ⟨_, rfl, a, ns, 132, rfl, S12.seq hS, h63, by decide, fun c2 _ _ => ?_⟩
    refine ⟨_, _, rfl, rfl, ⟨by decide, by decide⟩, _, rfl, q, _, rfl, .inl (SqL.of hq), _, _, rfl, rfl, (by show (0 : Int) < _; rw [vq]; omega), ?_⟩
    try dsimp only
    rw [vq]
    obtain ⟨k, ek⟩ := Int.eq_ofNat_of_zero_le (Int.emod_nonneg (c2 / 5) (show (z : Int) ≠ 0 by omega))
    have ek2 := Int.emod_lt_of_pos (c2 / 5) (show (0 : Int) < z by omega)
    rw [ek]
    have kz : k < z := by omega
    refine seq_join (fun σ' H' => ∃ (bag2 : List Int), σ' = [some (.ref a), some (.ref p), some (.ref q), some (.int way), some (.int k)] ∧ Same H H' ∧ H' q = some (.lst (vints bag2)) ∧ bag2.length = z ∧ ∀ y ∈ bag2, y.natAbs ≤ 10 ^ 31) ?_ ?_
    rotate_left
    · intro N hN
      have b31 : ∀ y ∈ bag, y.natAbs ≤ 10 ^ 31 := fun y hy => Nat.le_trans (bb y hy) (by decide +kernel)
      refine ⟨_, rfl, rfl, _, rfl, ?_⟩
      refine iteD (fun _ => ?_) (fun _ => hN _ _ ⟨bag, rfl, S12, hq, bl, b31⟩)
      refine ⟨_, rfl, _, rfl, q, _, _, _, rfl, rfl, SqL.of hq, at_zs (by omega), _, _, rfl, rfl, _, rfl, a, ns, 133, rfl, S12.seq hS, h63, by decide, fun c3 _ _ => ?_⟩
      have r1 : 0 ≤ c3 / 7 % 2 := Int.emod_nonneg _ (by decide)
      have r2 : c3 / 7 % 2 < 2 := Int.emod_lt_of_pos _ (by decide)
      refine ⟨_, _, rfl, rfl, ⟨by decide, by decide⟩, _, _, rfl, rfl, (by show (0 : Int) < 2; decide), _, _, rfl, rfl, .inl ⟨by decide, by decide⟩, _, _, rfl, rfl, ?_⟩
      have ix : ixN (vints bag).length (k : Int) = some k := by
        unfold ixN
        rw [ints_len, bl, if_pos (by omega), if_pos (by omega), Int.toNat_natCast]
      have mk := at_in (P := fun m => m.natAbs ≤ 10 ^ 30) bl kz bb
      refine ⟨_, rfl, _, rfl, q, _, _, k, rfl, rfl, hq, ix, hN _ _ ⟨bag.set k (bag.getD k 0 + 1 - 2 * (c3 / 7 % 2)), rfl, S12.upd' fq, ?_, by rw [List.length_set]; exact bl, fun y hy => ?_⟩⟩
      · rw [upd_same]
        unfold vints
        rw [List.map_set]
      · rcases List.mem_or_eq_of_mem_set hy with w | w
        · exact b31 y w
        · rw [w]
          refine Nat.le_trans (show _ ≤ (bag.getD k 0).natAbs + 3 by omega) (Nat.le_trans (Nat.add_le_add_right mk 3) (by decide +kernel))
    rintro _ H3 ⟨bag2, rfl, S3, hq3, bl3, bb3⟩
    have vq3 : (vints bag2).length = z := by rw [ints_len, bl3]
    refine seq_join (fun σ' H' => ∃ (q4 : Addr) (bag4 : List Int), σ' = [some (.ref a), some (.ref p), some (.ref q4), some (.int way), some (.int k)] ∧ H q4 = none ∧ Same H H' ∧ H' q4 = some (.lst (vints bag4)) ∧ bag4.length = z ∧ ∀ y ∈ bag4, y.natAbs ≤ 10 ^ 31) ?_ ?_
    rotate_left
    · intro N hN
      refine ⟨_, rfl, rfl, _, rfl, ?_⟩
      refine iteD (fun _ => ?_) (fun _ => hN _ _ ⟨q, bag2, rfl, fq, S3, hq3, bl3, bb3⟩)
      refine ⟨_, rfl, q, _, rfl, .inl (SqL.of hq3), _, rfl, by rw [vq3]; omega, by rw [vq3]; omega, ?_⟩
      rw [vq3, Int.toNat_natCast]
      refine comp_ints (n := z) (τ := [some (.ref a)]) (fun m => m.natAbs ≤ 10 ^ 31) (small70 (by omega)) (fun B j H4 hj S4 Q' hq4 => ?_) fun ms4 H4 S4 l4 b4 p4 np4 => hN _ _ ⟨p4, ms4, rfl, (S3.trans S4).free np4, (S3.trans S4).upd np4, upd_same, l4, b4⟩
      refine ⟨_, rfl, _, rfl, _, _, rfl, rfl, a, ns, 134 + j, by rw [Int.zero_add]; rfl, (S3.trans S4).seq hS, h63, by omega, fun c5 _ _ => ?_⟩
      have r1 : 0 ≤ c5 % 2000000001 := Int.emod_nonneg _ (by decide)
      have r2 : c5 % 2000000001 < 2000000001 := Int.emod_lt_of_pos _ (by decide)
      refine ⟨_, _, rfl, rfl, (by show (0 : Int) < 2000000001; decide), _, _, rfl, rfl, hq4 _ _ ?_ (Same.refl _)⟩
      exact Nat.le_trans (show _ ≤ 2000000001 by omega) (by decide +kernel)
    rintro _ H4 ⟨q4, bag4, rfl, f4, S4, hq4, bl4, bb4⟩
    exact ⟨_, rfl, hQ q4 bag4 H4 f4 S4 hq4 bl4 bb4⟩
theorem sc_law_is_nought : FnScope ["number", "part"] ["number", "part"] (defScope s_law_is_nought) := ⟨rfl, rfl, rfl, by decide +kernel, rfl, by decide +kernel, by decide +kernel⟩
set_option maxHeartbeats 4000000 in
theorem ok_law_is_nought (T : Txt K mg AR FR) : FnOk P w K mg base CX0 1 AR.f_law_is_nought FR.d_law_is_nought ["number", "part"] (sp_law_is_nought K) := by
  refine T.F_law_is_nought.ok sc_law_is_nought (fun vs H Q E h => ?_) (fun cdv A outer s H vs Q E hr h => ?_)
  · obtain ⟨n, p, rfl, hQ⟩ := h
    rfl
  · obtain ⟨n, p, rfl, hQ⟩ := h
    refine ⟨_, (pss_cons (ps_if (pt_cmpR op_eq (pv 1) pe_int (nomark _)) (pss_one (ps_ret (pe_cmpR op_eq (pv 0) pe_int (nomark _)))) pss_nil)
      (pss_one (ps_ret (pe_cmpR op_eq (pe_op op_mod (pv 0) (pv 1)) pe_int (nomark _))))), ?_⟩
    try dsimp only [kx1, kx2, kx3, Cx.nox, Cx.wish]
    unfold mulB at hQ
    refine ⟨_, rfl, rfl, _, rfl, ?_⟩
    refine iteD (fun h => ?_) (fun h => ?_)
    · have e : p = 0 := by injection h with h; omega
      rw [if_pos e] at hQ
      refine ⟨_, rfl, rfl, ?_⟩
      rw [dec_intD]
      exact hQ
    · have e : p ≠ 0 := fun e => h (by rw [e]; rfl)
      rw [if_neg e] at hQ
      refine ⟨_, rfl, _, rfl, _, _, rfl, rfl, (by show (0 : Int) < p; omega), rfl, ?_⟩
      rw [dec_intD]
      exact hQ
theorem sc_law_weigh : FnScope ["weights", "ones"] ["weights", "ones"] (defScope s_law_weigh) := ⟨rfl, rfl, rfl, by decide +kernel, rfl, by decide +kernel, by decide +kernel⟩
set_option maxHeartbeats 4000000 in
theorem ok_law_weigh (T : Txt K mg AR FR) : FnOk P w K mg base CX0 1 AR.f_law_weigh FR.d_law_weigh ["weights", "ones"] (sp_law_weigh K) := by
  refine T.F_law_weigh.ok sc_law_weigh (fun vs H Q E h => ?_) (fun cdv A outer s H vs Q E hr h => ?_)
  · obtain ⟨a, b, ws, os, rfl, ha, hb, hl, l70, bw, bo, hQ⟩ := h
    rfl
  · obtain ⟨a, b, ws, os, rfl, ha, hb, hl, l70, bw, bo, hQ⟩ := h
    refine ⟨_, (pss_one (ps_ret (pe_callB (call_sum_list rfl) (by rfl) T.z_sum bt_sum (pa_cons (pe_comp (N' := ["k", "weights", "ones"]) (nt := 1) (caps := [0, 1]) _ _ (CompScope.of (by kernel_rfl)) (pi_range1 (by rfl) T.z_range (pa_cons (pe_callB call_len_seq (by rfl) T.z_len bt_len (pa_cons (pv 1) pa_nil)) pa_nil)) (fun _ => (pg_nameC (i := 0) ["k", "weights", "ones"] (by decide +kernel) (by rfl))) (fun _ => pts_nil) (fun _ => (pe_op op_mulB (pe_ix ix_list (pv 1) (pv 0) (fun _ _ => rfl)) (pe_ix ix_list (pv 2) (pv 0) (fun _ _ => rfl))))) pa_nil)))), ?_⟩
    try dsimp only [kx1, kx2, kx3, Cx.nox, Cx.wish]
    have vl : (vints os).length = os.length := ints_len os
    refine ⟨_, rfl, b, _, rfl, .inl hb, _, rfl, by rw [vl]; omega, by rw [vl]; omega, ?_⟩
    rw [vl, Int.toNat_natCast]
    refine comp_at (τ := [some (.ref a), some (.ref b)]) (fun k => ws.getD k 0 * os.getD k 0) (small70 l70) (fun B k H2 hk S2 Q' hq => ?_) fun H2 S2 p np => ?_
    · exact ⟨_, rfl, _, rfl, a, _, _, _, rfl, rfl, S2.seq ha, at_place hl hk, _, rfl, _, rfl, b, _, _, _, rfl, rfl, S2.seq hb, at_place rfl hk, _, _, rfl, rfl, ⟨p70 (at_in (P := fun x => x.natAbs < 10 ^ 70) hl hk bw), p70 (at_in (P := fun x => x.natAbs < 10 ^ 70) rfl hk bo)⟩, hq _ (Same.refl _)⟩
    · rw [show vints ((List.range os.length).map fun k => ws.getD k 0 * os.getD k 0) = ((List.range os.length).map fun k => ws.getD k 0 * os.getD k 0).map V.int from rfl]
      refine ⟨p, _, rfl, SqL.of upd_same, ?_⟩
      rw [wsum_at hl rfl]
      exact hQ _ (S2.upd np)
theorem sc_is_name : FnScope ["word"] ["word"] (defScope s_is_name) := ⟨rfl, rfl, rfl, by decide +kernel, rfl, by decide +kernel, by decide +kernel⟩
set_option maxHeartbeats 4000000 in
theorem ok_is_name (T : Txt K mg AR FR) : FnOk P w K mg base CX0 1 AR.f_is_name FR.d_is_name ["word"] (sp_is_name K) := by
  obtain ⟨_, cc_MOST_SIGNS⟩ := T.c_MOST_SIGNS
  refine T.F_is_name.ok sc_is_name (fun vs H Q E h => ?_) (fun cdv A outer s H vs Q E hr h => ?_)
  · obtain ⟨x, rfl, hx, hz, hQ⟩ := h
    rfl
  · obtain ⟨x, rfl, hx, hz, hQ⟩ := h
    refine ⟨_, (pss_one (ps_ret (pe_and (pe_chain op_le op_le pe_int (pe_callB call_len_str (by rfl) T.z_len bt_len (pa_cons (pv 0) pa_nil)) (pe_glob (v := .int 8) (by rfl) cc_MOST_SIGNS ⟨_, rfl⟩)) (pe_one (pe_callB (call_all_list rfl) (by rfl) T.z_all bt_all (pa_cons (pe_comp (N' := ["sign"]) (nt := 1) (caps := []) _ _ (CompScope.of (by kernel_rfl)) (pi_str (pv 0)) (fun _ => (pg_nameC (i := 0) ["sign"] (by decide +kernel) (by rfl))) (fun _ => pts_nil) (fun _ => (pe_chain op_le_str op_le_str pe_str (pv 0) pe_str))) pa_nil)))))), ?_⟩
    try dsimp only [kx1, kx2, kx3, Cx.nox, Cx.wish]
    have hcs : x.cps.size = x.length := rfl
    refine ⟨_, rfl, x, rfl, Nat.le_trans hz (by decide), _, _, rfl, rfl, _, rfl, ?_⟩
    have key : ∀ (k : Bool) (H' : Hp), Same H H' → okName x = k → Q (.bl k) H' := fun k H' S e => e ▸ hQ H' S
    refine iteD (fun h1 => ?_) (fun h1 => ?_)
    · refine ⟨_, _, rfl, rfl, _, rfl, ?_⟩
      refine iteD (fun h8 => ?_) (fun h8 => ?_)
      · refine ⟨_, rfl, x, rfl, hx, ?_⟩
        refine comp_strP (fun i zs σ H2 => (∃ v, σ = [v]) ∧ Same H H2 ∧ zs = ((x.cps.toList.take i).map okSign).map V.bl) ⟨⟨none, rfl⟩, Same.refl _, rfl⟩ ?_ ?_ ?_
        · rintro i zs σ H2 hi ⟨_, S, rfl⟩
          rw [List.length_map, List.length_map, List.length_take]
          exact small70 (by omega)
        · rintro B i c zs σ H2 hc ⟨⟨v, rfl⟩, S, rfl⟩
          try dsimp only [gName, tTrue]
          rw [if_pos rfl]
          have hc' : x.cps.toList[i]? = some c := by simpa using hc
          have fin : ∀ k : Bool, okSign c = k → (((x.cps.toList.take i).map okSign).map V.bl ++ [V.bl k]) = ((x.cps.toList.take (i + 1)).map okSign).map V.bl := fun k e => by
            rw [List.take_add_one, hc', Option.toList_some, List.map_append, List.map_append, ← e]
            rfl
          refine ⟨_, rfl, _, _, rfl, rfl, _, rfl, ?_⟩
          have ea : (!decide ((⟨#[c]⟩ : Str).cps.toList < (Str.ofString "a").cps.toList)) = decide (97 ≤ c) := le_one
          have ez : (!decide ((Str.ofString "z").cps.toList < (⟨#[c]⟩ : Str).cps.toList)) = decide (c ≤ 122) := le_one
          rw [ea]
          refine iteD (fun g1 => ?_) (fun g1 => ?_)
          · refine ⟨_, _, rfl, rfl, ⟨_, rfl⟩, S, ?_⟩
            rw [ez]
            exact fin _ (by unfold okSign; simp [g1])
          · exact ⟨⟨_, rfl⟩, S, fin _ (by unfold okSign; simp [g1])⟩
        · rintro zs σ H2 ⟨_, S, rfl⟩ p hp
          rw [← Array.length_toList, List.take_length]
          refine ⟨p, _, rfl, SqL.of upd_same, key _ _ (S.upd hp) ?_⟩
          rw [all_map_sign]
          unfold okName
          simp [show 1 ≤ x.length by omega, show x.length ≤ 8 by omega]
      · refine key _ _ (Same.refl _) ?_
        unfold okName
        simp [show ¬ x.length ≤ 8 by omega]
    · refine ⟨_, rfl, ?_⟩
      refine iteF (key _ _ (Same.refl _) ?_)
      unfold okName
      simp [show ¬ 1 ≤ x.length by omega]
theorem sc_refuse_bad_names : FnScope ["names", "least", "most", "name"] ["names", "least", "most"] (defScope s_refuse_bad_names) := ⟨rfl, rfl, rfl, by decide +kernel, rfl, by decide +kernel, by decide +kernel⟩
set_option maxHeartbeats 4000000 in
theorem ok_refuse_bad_names (T : Txt K mg AR FR) : FnOk P w K mg base CX0 2 AR.f_refuse_bad_names FR.d_refuse_bad_names ["names", "least", "most"] (sp_refuse_bad_names K) := by
  have G_is_name : FnOk P w K mg base CX0 1 AR.f_is_name FR.d_is_name _ (sp_is_name K) := ok_is_name T
  refine T.F_refuse_bad_names.ok sc_refuse_bad_names (fun vs H Q E h => ?_) (fun cdv A outer s H vs Q E hr h => ?_)
  · obtain ⟨a, ys, lo, hi, rfl, ha, h1, h2, h6, hn, hd, hQ⟩ := h
    rfl
  · obtain ⟨a, ys, lo, hi, rfl, ha, h1, h2, h6, hn, hd, hQ⟩ := h
    refine ⟨_, (pss_cons (ps_if (pt_not (pt_chain op_le op_le (pv 1) (pe_callB call_len_seq (by rfl) T.z_len bt_len (pa_cons (pv 0) pa_nil)) (pv 2))) (pss_one ps_never) pss_nil)
      (pss_cons (ps_for PassesOwn.never rfl (pi_list (pv 0)) (pg_name (i := 3) sc_refuse_bad_names.nd (by rfl) (Or.inl rfl))
      (pss_one (ps_if (pt_not (pt_val (pe_call G_is_name (hr.mono (by decide)) (by rfl) T.m_is_name T.F_is_name.kp T.b_is_name .nil pass0 (pa_cons (pv 3) pa_nil)))) (pss_one ps_never) pss_nil)))
      (pss_one (ps_if (pt_cmpR op_ne (pe_callB call_len_setS (by rfl) T.z_len bt_len (pa_cons (pe_callTy (call_set_strs rfl) (by rfl) T.z_set bt_set (pa_cons (pv 0) pa_nil)) pa_nil)) (pe_callB call_len_seq (by rfl) T.z_len bt_len (pa_cons (pv 0) pa_nil)) (nomark _)) (pss_one ps_never) pss_nil)))), ?_⟩
    try dsimp only [kx1, kx2, kx3, Cx.nox, Cx.wish]
    have hL : (vstrs ys).length = ys.length := List.length_map ..
    refine ⟨_, rfl, _, rfl, a, _, rfl, .inl ha, _, _, rfl, rfl, _, rfl, ?_⟩
    refine iteD (fun _ => ?_) (fun g => absurd (by rw [hL]; omega) g)
    refine ⟨_, rfl, _, _, rfl, rfl, _, rfl, ?_⟩
    refine iteND (fun g => absurd (by rw [hL]; omega) g) (fun _ => ?_)
    -- for name in names
    refine ⟨_, rfl, a, rfl, ⟨_, ha⟩, for_list (K := K) (a := a) (xs := vstrs ys) (fun i σ H2 => ∃ o, σ = [some (.ref a), some (.int lo), some (.int hi), o] ∧ Same H H2) ⟨none, rfl, Same.refl _⟩ (fun i σ H2 _ hp4 => by obtain ⟨_, _, S⟩ := hp4; exact S.seq ha) ?_ ?_⟩
    · rintro i x σ H2 hx ⟨o, rfl, S⟩
      obtain ⟨y, hy, rfl⟩ := strs_get hx
      have ok := hn y (List.mem_of_getElem? hy)
      have ol : y.length ≤ 8 := by
        unfold okName at ok
        rw [Bool.and_eq_true, Bool.and_eq_true, decide_eq_true_eq, decide_eq_true_eq] at ok
        exact ok.1.2
      refine ⟨_, rfl, y, rfl, okName_ascii ok, by omega, fun H3 S3 => ⟨_, rfl, ?_⟩⟩
      rw [ok]
      refine iteF ?_
      exact ⟨_, rfl, S.trans S3⟩
    · rintro σ H2 ⟨o, rfl, S⟩
      refine ⟨_, rfl, a, ys, rfl, S.seq ha, by omega, fun p hp => ?_⟩
      refine ⟨p, _, rfl, upd_same, _, rfl, a, _, rfl, .inl ((S.upd hp).seq ha), rfl, _, rfl, ?_⟩
      refine iteNS (by rw [metS_all hd, hL]) ?_
      exact hQ _ (S.upd hp)
theorem sc_refuse_bad_bags : FnScope ["bags", "many", "width", "bag", "number"] ["bags", "many", "width"] (defScope s_refuse_bad_bags) := ⟨rfl, rfl, rfl, by decide +kernel, rfl, by decide +kernel, by decide +kernel⟩
set_option maxHeartbeats 4000000 in
theorem ok_refuse_bad_bags (T : Txt K mg AR FR) : FnOk P w K mg base CX0 1 AR.f_refuse_bad_bags FR.d_refuse_bad_bags ["bags", "many", "width"] (sp_refuse_bad_bags K) := by
  obtain ⟨_, cc_MOST_BEADS⟩ := T.c_MOST_BEADS
  refine T.F_refuse_bad_bags.ok sc_refuse_bad_bags (fun vs H Q E h => ?_) (fun cdv A outer s H vs Q E hr h => ?_)
  · obtain ⟨a, as, rs, n, rfl, ha, R, ok, hQ⟩ := h
    rfl
  · obtain ⟨a, as, rs, n, rfl, ha, R, ok, hQ⟩ := h
    refine ⟨_, (pss_cons (ps_if (pt_cmpR op_ne (pe_callB call_len_seq (by rfl) T.z_len bt_len (pa_cons (pv 0) pa_nil)) (pv 1) (nomark _)) (pss_one ps_never) pss_nil)
      (pss_one (ps_for PassesOwn.never rfl (pi_list (pv 0)) (pg_name (i := 3) sc_refuse_bad_bags.nd (by rfl) (Or.inl rfl))
      (pss_cons (ps_if (pt_cmpR op_ne (pe_callB call_len_seq (by rfl) T.z_len bt_len (pa_cons (pv 3) pa_nil)) (pv 2) (nomark _)) (pss_one ps_never) pss_nil)
      (pss_one (ps_for PassesOwn.never rfl (pi_list (pv 3)) (pg_name (i := 4) sc_refuse_bad_bags.nd (by rfl) (Or.inl rfl))
      (pss_one (ps_if (pt_not (pt_chain op_le op_le pe_int (pv 4) (pe_glob (v := .int 1000000000) (by rfl) cc_MOST_BEADS ⟨_, rfl⟩))) (pss_one ps_never) pss_nil)))))))), ?_⟩
    try dsimp only [kx1, kx2, kx3, Cx.nox, Cx.wish]
    have hal := R.length
    refine ⟨_, rfl, a, _, rfl, .inl ha, _, rfl, rfl, _, rfl, ?_⟩
    refine iteNS (by rw [List.length_map, hal]) ?_
    refine ⟨_, rfl, a, rfl, ⟨_, ha⟩, for_list (K := K) (a := a) (xs := as.map V.ref) (fun i σ H2 => ∃ o3 o4, σ = [some (.ref a), some (.int rs.length), some (.int n), o3, o4] ∧ H2 = H) ⟨none, none, rfl, rfl⟩ (fun i σ H2 _ hp4 => by obtain ⟨_, _, _, e⟩ := hp4; exact e ▸ ha) ?_ ?_⟩
    · rintro i x σ H2 hx ⟨o3, o4, rfl, rfl⟩
      obtain ⟨b, hb1, rfl⟩ := refs_get hx
      obtain ⟨r, hr1, hb⟩ := Paired.getL R hb1
      obtain ⟨hrl, hrb⟩ := ok r (List.mem_of_getElem? hr1)
      refine ⟨_, rfl, b, _, rfl, .inl (SqL.of hb), _, rfl, rfl, _, rfl, ?_⟩
      refine iteNS (by rw [ints_len, hrl]) ?_
      refine ⟨_, rfl, b, rfl, ⟨_, SqL.of hb⟩, for_list (K := K) (a := b) (xs := vints r) (fun i' σ H3 => ∃ o4, σ = [some (.ref a), some (.int rs.length), some (.int n), some (.ref b), o4] ∧ H3 = H2) ⟨_, rfl, rfl⟩ (fun i σ H3 _ hp4 => by obtain ⟨_, _, e⟩ := hp4; exact e ▸ SqL.of hb) ?_ ?_⟩
      · rintro i' y σ H3 hy ⟨o, rfl, rfl⟩
        obtain ⟨m, hm, rfl⟩ := ints_get hy
        obtain ⟨g1, g2⟩ := hrb m (List.mem_of_getElem? hm)
        refine ⟨_, rfl, _, _, rfl, rfl, _, rfl, ?_⟩
        refine iteD (fun _ => ?_) (fun g => absurd g1 g)
        refine ⟨_, _, rfl, rfl, _, rfl, ?_⟩
        refine iteND (fun g => absurd g2 g) (fun _ => ?_)
        exact ⟨_, rfl, rfl⟩
      · rintro σ H3 ⟨o, rfl, rfl⟩
        exact ⟨_, _, rfl, rfl⟩
    · rintro σ H2 ⟨o3, o4, rfl, rfl⟩
      exact hQ
theorem sc_Net_init : FnScope ["self", "bowls", "doors", "takes", "gives", "first"] ["self", "bowls", "doors", "takes", "gives", "first"] (defScope s_Net_init) := ⟨rfl, rfl, rfl, by decide +kernel, rfl, by decide +kernel, by decide +kernel⟩
set_option maxHeartbeats 4000000 in
theorem ok_Net_init (T : Txt K mg AR FR) : FnOk P w K mg base CX0 3 AR.f_Net_init FR.d_Net_init ["self", "bowls", "doors", "takes", "gives", "first"] (sp_Net_init AR.C_Net K) := by
  obtain ⟨_, cc_LEAST_BOWLS⟩ := T.c_LEAST_BOWLS
  obtain ⟨_, cc_MOST_BOWLS⟩ := T.c_MOST_BOWLS
  obtain ⟨_, cc_MOST_DOORS⟩ := T.c_MOST_DOORS
  have G_refuse_bad_names : FnOk P w K mg base CX0 2 AR.f_refuse_bad_names FR.d_refuse_bad_names _ (sp_refuse_bad_names K) := ok_refuse_bad_names T
  have G_refuse_bad_bags : FnOk P w K mg base CX0 1 AR.f_refuse_bad_bags FR.d_refuse_bad_bags _ (sp_refuse_bad_bags K) := ok_refuse_bad_bags T
  refine T.F_Net_init.ok sc_Net_init (fun vs H Q E h => ?_) (fun cdv A outer s H vs Q E hr h => ?_)
  · obtain ⟨x, dx, pb, pd, pt, pg, pf, ts, gs, N, rfl, hx, ok, hb, hd, ht, tr, hg, gr, hf, hQ⟩ := h
    rfl
  · obtain ⟨x, dx, pb, pd, pt, pg, pf, ts, gs, N, rfl, hx, ok, hb, hd, ht, tr, hg, gr, hf, hQ⟩ := h
    refine ⟨_, (pss_cons (ps_expr (pe_call G_refuse_bad_names (hr.mono (by decide)) (by rfl) T.m_refuse_bad_names T.F_refuse_bad_names.kp T.b_refuse_bad_names .nil pass0 (pa_cons (pv 1) (pa_cons (pe_glob (v := .int 1) (by rfl) cc_LEAST_BOWLS ⟨_, rfl⟩) (pa_cons (pe_glob (v := .int 6) (by rfl) cc_MOST_BOWLS ⟨_, rfl⟩) pa_nil)))))
      (pss_cons (ps_expr (pe_call G_refuse_bad_names (hr.mono (by decide)) (by rfl) T.m_refuse_bad_names T.F_refuse_bad_names.kp T.b_refuse_bad_names .nil pass0 (pa_cons (pv 2) (pa_cons pe_int (pa_cons (pe_glob (v := .int 8) (by rfl) cc_MOST_DOORS ⟨_, rfl⟩) pa_nil)))))
      (pss_cons (ps_expr (pe_call G_refuse_bad_bags (hr.mono (by decide)) (by rfl) T.m_refuse_bad_bags T.F_refuse_bad_bags.kp T.b_refuse_bad_bags .nil pass0 (pa_cons (pv 3) (pa_cons (pe_callB call_len_seq (by rfl) T.z_len bt_len (pa_cons (pv 2) pa_nil)) (pa_cons (pe_callB call_len_seq (by rfl) T.z_len bt_len (pa_cons (pv 1) pa_nil)) pa_nil)))))
      (pss_cons (ps_expr (pe_call G_refuse_bad_bags (hr.mono (by decide)) (by rfl) T.m_refuse_bad_bags T.F_refuse_bad_bags.kp T.b_refuse_bad_bags .nil pass0 (pa_cons (pv 4) (pa_cons (pe_callB call_len_seq (by rfl) T.z_len bt_len (pa_cons (pv 2) pa_nil)) (pa_cons (pe_callB call_len_seq (by rfl) T.z_len bt_len (pa_cons (pv 1) pa_nil)) pa_nil)))))
      (pss_cons (ps_expr (pe_call G_refuse_bad_bags (hr.mono (by decide)) (by rfl) T.m_refuse_bad_bags T.F_refuse_bad_bags.kp T.b_refuse_bad_bags .nil pass0 (pa_cons (pe_lst (pa_cons (pv 5) pa_nil)) (pa_cons pe_int (pa_cons (pe_callB call_len_seq (by rfl) T.z_len bt_len (pa_cons (pv 1) pa_nil)) pa_nil)))))
      (pss_cons (ps_fld (pv 0) (pe_callTy call_list_of (by rfl) T.z_list bt_list (pa_cons (pv 1) pa_nil)) rfl)
      (pss_cons (ps_fld (pv 0) (pe_callTy call_list_of (by rfl) T.z_list bt_list (pa_cons (pv 2) pa_nil)) rfl)
      (pss_cons (ps_fld (pv 0) (pe_comp (N' := ["bag"]) (nt := 1) (caps := []) _ _ (CompScope.of (by kernel_rfl)) (pi_list (pv 3)) (fun _ => (pg_nameC (i := 0) ["bag"] (by decide +kernel) (by rfl))) (fun _ => pts_nil) (fun _ => (pe_callTy call_list_of (by rfl) T.z_list bt_list (pa_cons (pv 0) pa_nil)))) rfl)
      (pss_cons (ps_fld (pv 0) (pe_comp (N' := ["bag"]) (nt := 1) (caps := []) _ _ (CompScope.of (by kernel_rfl)) (pi_list (pv 4)) (fun _ => (pg_nameC (i := 0) ["bag"] (by decide +kernel) (by rfl))) (fun _ => pts_nil) (fun _ => (pe_callTy call_list_of (by rfl) T.z_list bt_list (pa_cons (pv 0) pa_nil)))) rfl)
      (pss_one (ps_fld (pv 0) (pe_callTy call_list_of (by rfl) T.z_list bt_list (pa_cons (pv 5) pa_nil)) rfl))))))))))), ?_⟩
    try dsimp only [kx1, kx2, kx3, Cx.nox, Cx.wish]
    have tl := tr.length
    have gl := gr.length
    have lb : (vstrs N.bowls).length = N.bowls.length := List.length_map ..
    have ld : (vstrs N.doors).length = N.doors.length := List.length_map ..
    -- the refusals do not come
    refine ⟨_, rfl, pb, N.bowls, 1, 6, rfl, hb, by have := ok.b1; omega, by have := ok.b6; omega, by have := ok.b6; omega, ok.bn, ok.bd, fun H1 S1 => ?_⟩
    refine ⟨_, rfl, pd, N.doors, 0, 8, rfl, S1.seq hd, by omega, by have := ok.d8; omega, by have := ok.d8; omega, ok.dn, ok.dd, fun H2 S2 => ?_⟩
    have S12 := S1.trans S2
    refine ⟨_, rfl, _, rfl, pd, _, rfl, .inl (S12.seq hd), _, rfl, pb, _, rfl, .inl (S12.seq hb), pt, ts, N.takes, N.bowls.length, by rw [ld, lb, ok.tl]; rfl, S12.seq ht, tr.same S12, ok.tk, ?_⟩
    refine ⟨_, rfl, _, rfl, pd, _, rfl, .inl (S12.seq hd), _, rfl, pb, _, rfl, .inl (S12.seq hb), pg, gs, N.gives, N.bowls.length, by rw [ld, lb, ok.gl]; rfl, S12.seq hg, gr.same S12, ok.gv, ?_⟩
    refine ⟨_, rfl, by show 1 ≤ sizeLine; decide, fun q0 m0 => ?_⟩
    have U0 := S12.upd m0 (o := .lst [V.ref pf])
    refine ⟨_, rfl, pb, _, rfl, .inl (U0.seq hb), q0, [pf], [N.first], N.bowls.length, by rw [lb]; rfl, SqL.of upd_same, .cons (U0 _ _ hf) .nil, (fun r hr => by rw [List.mem_singleton.mp hr]; exact ok.fs), ?_⟩
    -- from here on what was tracked stays, but for the instance
    generalize upd H2 q0 (.lst [V.ref pf]) = H3 at U0
    have x3 := U0 _ _ hx
    have k3 : But x H H3 := U0.but
    -- self.bowls = list(bowls)
    refine ⟨_, rfl, pb, _, rfl, .inl (U0.seq hb), fun b nb => ?_⟩
    have nxb : x ≠ b := ne_of_none x3 nb
    refine ⟨_, rfl, x, AR.C_Net, dx, [], rfl, by rw [upd_ne nxb]; exact x3, T.cl_Net, T.n_Net_bowls, by show 0 < 1000; decide, ?_⟩
    have k4 : But x H3 _ := But.step (x := x) (o := .lst (vstrs N.bowls)) (o' := .ins AR.C_Net dx (nf1 (.ref b))) nb
    have x4 := upd_same (H := upd H3 b (.lst (vstrs N.bowls))) (a := x) (o := .ins AR.C_Net dx (nf1 (.ref b)))
    have b4 : upd (upd H3 b (.lst (vstrs N.bowls))) x (.ins AR.C_Net dx (nf1 (.ref b))) b = some (.lst (vstrs N.bowls)) := by rw [upd_ne (Ne.symm nxb), upd_same]
    generalize hH4 : upd (upd H3 b (.lst (vstrs N.bowls))) x (.ins AR.C_Net dx (nf1 (.ref b))) = H4 at k4 x4 b4
    have a4 := k3.trans k4
    -- self.doors = list(doors)
    refine ⟨_, rfl, pd, _, rfl, .inl (by rw [show upd (upd H3 b (.lst (vstrs N.bowls))) x (.ins AR.C_Net dx (putF "bowls" (V.ref b) [])) = H4 from hH4]; exact a4.seq hx hd), ?_⟩
    rw [show upd (upd H3 b (.lst (vstrs N.bowls))) x (.ins AR.C_Net dx (putF "bowls" (V.ref b) [])) = H4 from hH4]
    intro d nd
    have nxd : x ≠ d := ne_of_none x4 nd
    refine ⟨_, rfl, x, AR.C_Net, dx, _, rfl, by rw [upd_ne nxd]; exact x4, T.cl_Net, T.n_Net_doors, by show 1 < 1000; decide, ?_⟩
    rw [put_n2]
    have k5 : But x H4 _ := But.step (x := x) (o := .lst (vstrs N.doors)) (o' := .ins AR.C_Net dx (nf2 (.ref b) (.ref d))) nd
    have x5 := upd_same (H := upd H4 d (.lst (vstrs N.doors))) (a := x) (o := .ins AR.C_Net dx (nf2 (.ref b) (.ref d)))
    have d5 : upd (upd H4 d (.lst (vstrs N.doors))) x (.ins AR.C_Net dx (nf2 (.ref b) (.ref d))) d = some (.lst (vstrs N.doors)) := by rw [upd_ne (Ne.symm nxd), upd_same]
    have b5 := k5 _ _ b4 (Ne.symm nxb)
    generalize upd (upd H4 d (.lst (vstrs N.doors))) x (.ins AR.C_Net dx (nf2 (.ref b) (.ref d))) = H5 at k5 x5 d5 b5 ⊢
    have a5 := a4.trans k5
    -- self.takes = [list(bag) for bag in takes]
    refine ⟨_, rfl, pt, rfl, ⟨_, a5.seq hx ht⟩, ?_⟩
    refine comp_copies (K := K) (τ := []) (fun _ => rfl) (a5.seq hx ht) (a5.rows hx tr) (by have := ok.tl; have := ok.d8; omega) fun H6 ts' S6 R6 f6 t nt => ?_
    have x6 := S6 _ _ x5
    have nxt : x ≠ t := ne_of_none x6 nt
    refine ⟨_, rfl, x, AR.C_Net, dx, _, rfl, by rw [upd_ne nxt]; exact x6, T.cl_Net, T.n_Net_takes, by show 2 < 1000; decide, ?_⟩
    rw [put_n3]
    have k7 : But x H6 _ := But.step (x := x) (o := .lst (ts'.map V.ref)) (o' := .ins AR.C_Net dx (nf3 (.ref b) (.ref d) (.ref t))) nt
    have x7 := upd_same (H := upd H6 t (.lst (ts'.map V.ref))) (a := x) (o := .ins AR.C_Net dx (nf3 (.ref b) (.ref d) (.ref t)))
    have t7 : upd (upd H6 t (.lst (ts'.map V.ref))) x (.ins AR.C_Net dx (nf3 (.ref b) (.ref d) (.ref t))) t = some (.lst (ts'.map V.ref)) := by rw [upd_ne (Ne.symm nxt), upd_same]
    have b7 := k7 _ _ (S6 _ _ b5) (Ne.symm nxb)
    have d7 := k7 _ _ (S6 _ _ d5) (Ne.symm nxd)
    have r7 := k7.rows x6 R6
    generalize upd (upd H6 t (.lst (ts'.map V.ref))) x (.ins AR.C_Net dx (nf3 (.ref b) (.ref d) (.ref t))) = H7 at k7 x7 t7 b7 d7 r7 ⊢
    have a7 := a5.trans (S6.but.trans k7)
    -- self.gives = [list(bag) for bag in gives]
    refine ⟨_, rfl, pg, rfl, ⟨_, a7.seq hx hg⟩, ?_⟩
    refine comp_copies (K := K) (τ := []) (fun _ => rfl) (a7.seq hx hg) (a7.rows hx gr) (by have := ok.gl; have := ok.d8; omega) fun H8 gs' S8 R8 f8 g ng => ?_
    have x8 := S8 _ _ x7
    have nxg : x ≠ g := ne_of_none x8 ng
    refine ⟨_, rfl, x, AR.C_Net, dx, _, rfl, by rw [upd_ne nxg]; exact x8, T.cl_Net, T.n_Net_gives, by show 3 < 1000; decide, ?_⟩
    rw [put_n4]
    have k9 : But x H8 _ := But.step (x := x) (o := .lst (gs'.map V.ref)) (o' := .ins AR.C_Net dx (nf4 (.ref b) (.ref d) (.ref t) (.ref g))) ng
    have x9 := upd_same (H := upd H8 g (.lst (gs'.map V.ref))) (a := x) (o := .ins AR.C_Net dx (nf4 (.ref b) (.ref d) (.ref t) (.ref g)))
    have g9 : upd (upd H8 g (.lst (gs'.map V.ref))) x (.ins AR.C_Net dx (nf4 (.ref b) (.ref d) (.ref t) (.ref g))) g = some (.lst (gs'.map V.ref)) := by rw [upd_ne (Ne.symm nxg), upd_same]
    have b9 := k9 _ _ (S8 _ _ b7) (Ne.symm nxb)
    have d9 := k9 _ _ (S8 _ _ d7) (Ne.symm nxd)
    have t9 := k9 _ _ (S8 _ _ t7) (Ne.symm nxt)
    have r9 := k9.rows x8 (r7.same S8)
    have q9 := k9.rows x8 R8
    generalize upd (upd H8 g (.lst (gs'.map V.ref))) x (.ins AR.C_Net dx (nf4 (.ref b) (.ref d) (.ref t) (.ref g))) = H9 at k9 x9 g9 b9 d9 t9 r9 q9 ⊢
    have a9 := a7.trans (S8.but.trans k9)
    -- self.first = list(first)
    refine ⟨_, rfl, pf, _, rfl, .inl (a9.seq hx (SqL.of hf)), fun f nf => ?_⟩
    have nxf : x ≠ f := ne_of_none x9 nf
    refine ⟨_, rfl, x, AR.C_Net, dx, _, rfl, by rw [upd_ne nxf]; exact x9, T.cl_Net, T.n_Net_first, by show 4 < 1000; decide, ?_⟩
    rw [put_n5]
    have k10 : But x H9 _ := But.step (x := x) (o := .lst (vints N.first)) (o' := .ins AR.C_Net dx (netF b d t g f)) nf
    have free : ∀ {Ha : Hp} {q : Addr} {o : HO}, But x H Ha → Ha x = some o → Ha q = none → H q = none := fun k e n => k.free (C := AR.C_Net) (dx := dx) (fs := []) e n
    refine hQ b d t g f ts' gs' _ (fun a ha => ?_) (fun q o e n => k10 _ _ (a9 _ _ e n) n) ⟨upd_same, k10 _ _ b9 (Ne.symm nxb), k10 _ _ d9 (Ne.symm nxd), k10 _ _ t9 (Ne.symm nxt), k10.rows x9 r9, k10 _ _ g9 (Ne.symm nxg), k10.rows x9 q9, by rw [upd_ne (Ne.symm nxf), upd_same]⟩
    rcases List.mem_append.mp ha with ha | ha
    · rcases List.mem_append.mp ha with ha | ha
      · simp only [List.mem_cons, List.not_mem_nil, or_false] at ha
        rcases ha with rfl | rfl | rfl | rfl | rfl
        · exact free k3 x3 nb
        · exact free a4 x4 nd
        · exact free (a5.trans S6.but) x6 nt
        · exact free (a7.trans S8.but) x8 ng
        · exact free a9 x9 nf
      · exact free a5 x5 (f6 a ha)
    · exact free a7 x7 (f8 a ha)
theorem sc_law_made : FnScope ["parts", "bowls", "doors"] ["parts"] (defScope s_law_made) := ⟨rfl, rfl, rfl, by decide +kernel, rfl, by decide +kernel, by decide +kernel⟩
set_option maxHeartbeats 4000000 in
theorem ok_law_made (T : Txt K mg AR FR) : FnOk P w K mg base CX0 5 AR.f_law_made FR.d_law_made ["parts"] (sp_law_made AR.C_Net K) := by
  have G_Net_init : FnOk P w K mg base CX0 3 AR.f_Net_init FR.d_Net_init _ (sp_Net_init AR.C_Net K) := ok_Net_init T
  refine T.F_law_made.ok sc_law_made (fun vs H Q E h => ?_) (fun cdv A outer s H vs Q E hr h => ?_)
  · obtain ⟨p, pt, pg, pf, ts, gs, z, tk, gv, fs, rfl, P, o, hQ⟩ := h
    rfl
  · obtain ⟨p, pt, pg, pf, ts, gs, z, tk, gv, fs, rfl, P, o, hQ⟩ := h
    refine ⟨_, (pss_cons (ps_set (i := 1) sc_law_made.nd rfl (Or.inl rfl) (pe_slice sl_list (pe_lst (pa_cons pe_str (pa_cons pe_str (pa_cons pe_str (pa_cons pe_str (pa_cons pe_str (pa_cons pe_str pa_nil))))))) po_none (po_some (pe_callB call_len_seq (by rfl) T.z_len bt_len (pa_cons (pe_ix ix_list (pv 0) pe_int (fun _ _ => rfl)) pa_nil)))))
      (pss_cons (ps_set (i := 2) sc_law_made.nd rfl (Or.inl rfl) (pe_slice sl_list (pe_lst (pa_cons pe_str (pa_cons pe_str (pa_cons pe_str (pa_cons pe_str (pa_cons pe_str (pa_cons pe_str (pa_cons pe_str (pa_cons pe_str pa_nil))))))))) po_none (po_some (pe_callB call_len_seq (by rfl) T.z_len bt_len (pa_cons (pe_ix ix_list (pv 0) pe_int (fun _ _ => rfl)) pa_nil)))))
      (pss_one (ps_ret (pe_make T.mk_Net G_Net_init (hr.mono (by decide)) (by rfl) T.mC_Net T.b_Net_init .nil pass0 (pa_cons (pv 1) (pa_cons (pv 2) (pa_cons (pe_comp (N' := ["one"]) (nt := 1) (caps := []) _ _ (CompScope.of (by kernel_rfl)) (pi_list (pe_ix ix_list (pv 0) pe_int (fun _ _ => rfl))) (fun _ => (pg_nameC (i := 0) ["one"] (by decide +kernel) (by rfl))) (fun _ => pts_nil) (fun _ => (pe_callTy call_list_of (by rfl) T.z_list bt_list (pa_cons (pv 0) pa_nil)))) (pa_cons (pe_comp (N' := ["one"]) (nt := 1) (caps := []) _ _ (CompScope.of (by kernel_rfl)) (pi_list (pe_ix ix_list (pv 0) pe_int (fun _ _ => rfl))) (fun _ => (pg_nameC (i := 0) ["one"] (by decide +kernel) (by rfl))) (fun _ => pts_nil) (fun _ => (pe_callTy call_list_of (by rfl) T.z_list bt_list (pa_cons (pv 0) pa_nil)))) (pa_cons (pe_callTy call_list_of (by rfl) T.z_list bt_list (pa_cons (pe_ix ix_list (pv 0) pe_int (fun _ _ => rfl)) pa_nil)) pa_nil)))))))))), ?_⟩
    try dsimp only [kx1, kx2, kx3, Cx.nox, Cx.wish]
    have ok := netP_ok o
    have z6 := o.z6
    have t8 := o.t8
    have gl := o.gl
    have tl := P.tr.length
    -- bowls
    refine ⟨by show 6 ≤ sizeLine; decide, fun l1 n1 => ?_⟩
    have U1 := (Same.refl H).upd n1 (o := .lst vsixB)
    have P1 := P.same U1
    refine ⟨_, rfl, p, _, _, _, rfl, rfl, SqL.of P1.top, rfl, pf, _, rfl, .inl (SqL.of P1.hf), _, rfl, l1, vsixB, rfl, SqL.of upd_same, fun b1 nb1 => ?_⟩
    rw [ints_len, cut_sixB]
    have U2 := U1.upd nb1 (o := .lst (vstrs (sixB.take fs.length)))
    have hb1 := upd_same (H := upd H l1 (.lst vsixB)) (a := b1) (o := .lst (vstrs (sixB.take fs.length)))
    generalize upd (upd H l1 (.lst vsixB)) b1 (.lst (vstrs (sixB.take fs.length))) = H1 at U2 hb1 ⊢
    have P2 := P.same U2
    -- doors
    refine ⟨by show 8 ≤ sizeLine; decide, fun l2 n2 => ?_⟩
    have U3 := (Same.refl H1).upd n2 (o := .lst veitD)
    have P3 := P2.same U3
    refine ⟨_, rfl, p, _, _, _, rfl, rfl, SqL.of P3.top, rfl, pt, _, rfl, .inl (SqL.of P3.ht), _, rfl, l2, veitD, rfl, SqL.of upd_same, fun d1 nd1 => ?_⟩
    rw [List.length_map, tl, cut_eitD]
    have U4 := U3.upd nd1 (o := .lst (vstrs (eitD.take tk.length)))
    have hd1 := upd_same (H := upd H1 l2 (.lst veitD)) (a := d1) (o := .lst (vstrs (eitD.take tk.length)))
    have hb2 := U4 _ _ hb1
    have U5 := U2.trans U4
    generalize upd (upd H1 l2 (.lst veitD)) d1 (.lst (vstrs (eitD.take tk.length))) = H2 at U4 U5 hb2 hd1 ⊢
    have P5 := P.same U5
    -- takes, gives
    refine ⟨_, rfl, _, rfl, _, rfl, p, _, _, _, rfl, rfl, SqL.of P5.top, rfl, pt, rfl, ⟨_, SqL.of P5.ht⟩, ?_⟩
    refine comp_copies (K := K) (τ := []) (fun _ => rfl) (SqL.of P5.ht) P5.tr (by omega) fun H6 ts' S6 R6 f6 t nt => ?_
    have V6 := S6.upd nt (o := .lst (ts'.map V.ref))
    have ht6 := upd_same (H := H6) (a := t) (o := .lst (ts'.map V.ref))
    have R6' := R6.same ((Same.refl H6).upd nt (o := .lst (ts'.map V.ref)))
    generalize upd H6 t (.lst (ts'.map V.ref)) = H7 at V6 ht6 R6' ⊢
    have P7 := P5.same V6
    refine ⟨_, rfl, p, _, _, _, rfl, rfl, SqL.of P7.top, rfl, pg, rfl, ⟨_, SqL.of P7.hg⟩, ?_⟩
    refine comp_copies (K := K) (τ := []) (fun _ => rfl) (SqL.of P7.hg) P7.gr (by omega) fun H8 gs' S8 R8 f8 g ng => ?_
    have V8 := S8.upd ng (o := .lst (gs'.map V.ref))
    have hg8 := upd_same (H := H8) (a := g) (o := .lst (gs'.map V.ref))
    have R8' := R8.same ((Same.refl H8).upd ng (o := .lst (gs'.map V.ref)))
    generalize upd H8 g (.lst (gs'.map V.ref)) = H9 at V8 hg8 R8' ⊢
    have P9 := P7.same V8
    refine ⟨_, rfl, p, _, _, _, rfl, rfl, SqL.of P9.top, rfl, pf, _, rfl, .inl (SqL.of P9.hf), fun f nf => ?_⟩
    have V10 := (Same.refl H9).upd nf (o := .lst (vints fs))
    have hf10 := upd_same (H := H9) (a := f) (o := .lst (vints fs))
    generalize upd H9 f (.lst (vints fs)) = H10 at V10 hf10 ⊢
    have U10 := ((U5.trans V6).trans V8).trans V10
    intro x dx nx ndx ne
    have nx' : upd H10 dx (.own x) x = none := by rw [upd_ne (Ne.symm ne)]; exact nx
    have U := ((Same.refl H10).upd ndx (o := .own x)).upd nx' (o := .ins AR.C_Net dx [])
    have W6 := (V8.trans V10).trans U
    have W7 := V6.trans W6
    refine ⟨x, dx, b1, d1, t, g, f, ts', gs', netP tk gv fs, rfl, upd_same, ok, SqL.of (W7 _ _ hb2), SqL.of (W7 _ _ hd1), SqL.of (W6 _ _ ht6), R6'.same W6, SqL.of ((V10.trans U) _ _ hg8), R8'.same (V10.trans U), U _ _ hf10, fun b2 d2 t2 g2 f2 ts2 gs2 H2 fr kp NI => ⟨rfl, ?_⟩⟩
    exact hQ x dx b2 d2 t2 g2 f2 ts2 gs2 H2 (U10.free nx) (U10.trans fun q o e => kp q o (U q o e) (ne_of_none e nx)) NI ok
theorem sc_refuse_unlike : FnScope ["ones", "others"] ["ones", "others"] (defScope s_refuse_unlike) := ⟨rfl, rfl, rfl, by decide +kernel, rfl, by decide +kernel, by decide +kernel⟩
set_option maxHeartbeats 4000000 in
theorem ok_refuse_unlike (T : Txt K mg AR FR) : FnOk P w K mg base (CXF P w) 1 AR.f_refuse_unlike FR.d_refuse_unlike ["ones", "others"] (sp_refuse_unlike AR.C_Unlike K) := by
  refine T.F_refuse_unlike.okF sc_refuse_unlike (fun vs H Q E h => ?_) (fun cdv A outer s H vs Q E hr h => ?_)
  · obtain ⟨a, b, xs, ys, rfl, ha, hb, hQ, hE⟩ := h
    rfl
  · obtain ⟨a, b, xs, ys, rfl, ha, hb, hQ, hE⟩ := h
    refine ⟨_, (pss_one (ps_if (pt_cmpR op_ne (pe_callB call_len_seq (by rfl) T.z_len bt_len (pa_cons (pv 0) pa_nil)) (pe_callB call_len_seq (by rfl) T.z_len bt_len (pa_cons (pv 1) pa_nil)) (nomark _)) (pss_one (ps_raise raiseF T.xp_Unlike (by rfl) T.mC_Unlike (pa_cons pe_str pa_nil))) pss_nil)), ?_⟩
    try dsimp only [kx1, kx2, kx3, Cx.nox, Cx.wish]
    refine ⟨_, rfl, a, _, rfl, .inl ha, _, rfl, b, _, rfl, .inl hb, rfl, _, rfl, ?_⟩
    refine iteND (fun hne => ?_) (fun he => hQ (by have := vint_eq.mp he; omega))
    exact ⟨by show 1 ≤ sizeLine; decide, hE (fun z => hne (by rw [z]))⟩
theorem sc_less : FnScope ["ones", "others"] ["ones", "others"] (defScope s_less) := ⟨rfl, rfl, rfl, by decide +kernel, rfl, by decide +kernel, by decide +kernel⟩
set_option maxHeartbeats 4000000 in
theorem ok_less (T : Txt K mg AR FR) : FnOk P w K mg base (CXF P w) 2 AR.f_less FR.d_less ["ones", "others"] (sp_less AR.C_Unlike K) := by
  have G_refuse_unlike : FnOk P w K mg base (CXF P w) 1 AR.f_refuse_unlike FR.d_refuse_unlike _ (sp_refuse_unlike AR.C_Unlike K) := ok_refuse_unlike T
  refine T.F_less.okF sc_less (fun vs H Q E h => ?_) (fun cdv A outer s H vs Q E hr h => ?_)
  · obtain ⟨a, b, xs, ys, rfl, ha, hb, hz, hQ, hE⟩ := h
    rfl
  · obtain ⟨a, b, xs, ys, rfl, ha, hb, hz, hQ, hE⟩ := h
    refine ⟨_, (pss_cons (ps_expr (pe_call G_refuse_unlike (hr.mono (by decide)) (by rfl) T.m_refuse_unlike T.F_refuse_unlike.kp T.b_refuse_unlike .nil passF (pa_cons (pv 0) (pa_cons (pv 1) pa_nil))))
      (pss_one (ps_ret (pe_comp (N' := ["one", "other"]) (nt := 2) (caps := []) _ _ (CompScope.of (by kernel_rfl)) (pi_zip (by rfl) T.z_zip (pa_cons (pv 0) (pa_cons (pv 1) pa_nil))) (fun _ => (pg_tup (by rfl) (pgs_cons (pg_nameC (i := 0) ["one", "other"] (by decide +kernel) (by rfl)) (pgs_cons (pg_nameC (i := 1) ["one", "other"] (by decide +kernel) (by rfl)) pgs_nil)))) (fun _ => pts_nil) (fun _ => (pe_op op_sub (pv 0) (pv 1))))))), ?_⟩
    try dsimp only [kx1, kx2, kx3, Cx.nox, Cx.wish]
    refine ⟨_, rfl, _, rfl, a, b, _, _, rfl, ha, hb, fun hl => ?_, fun h => hE (by rw [ints_len, ints_len] at h; exact h)⟩
    rw [ints_len, ints_len] at hl
    refine ⟨_, rfl, _, rfl, a, b, _, _, rfl, ha, hb, ?_⟩
    refine comp_zip1 (τ := []) (gInt fun i j => i - j) (by rw [ints_len, ints_len]; exact hl) (by rw [ints_len]; exact small70 hz) ha hb ?_ ?_
    · intro B x w H2 hx hw S Q' hq
      obtain ⟨i, _, rfl⟩ := ints_mem hx
      obtain ⟨j, _, rfl⟩ := ints_mem hw
      exact ⟨_, rfl, _, rfl, _, _, rfl, rfl, hq H2 (Same.refl _)⟩
    · intro H2 S p hp
      rw [zip_ints (f := fun i j => i - j) fun _ _ => rfl]
      exact hQ hl p _ (S.free hp) (S.upd hp) upd_same
theorem sc_gain : FnScope ["net", "door"] ["net", "door"] (defScope s_gain) := ⟨rfl, rfl, rfl, by decide +kernel, rfl, by decide +kernel, by decide +kernel⟩
set_option maxHeartbeats 4000000 in
theorem ok_gain (T : Txt K mg AR FR) : FnOk P w K mg base CX0 5 AR.f_gain FR.d_gain ["net", "door"] (sp_gain AR.C_Net K) := by
  have G_Net_init : FnOk P w K mg base CX0 3 AR.f_Net_init FR.d_Net_init _ (sp_Net_init AR.C_Net K) := ok_Net_init T
  have G_less : FnOk P w K mg base (CXF P w) 2 AR.f_less FR.d_less _ (sp_less AR.C_Unlike K) := ok_less T
  refine T.F_gain.ok sc_gain (fun vs H Q E h => ?_) (fun cdv A outer s H vs Q E hr h => ?_)
  · obtain ⟨x, dx, b, d, t, g, f, ts, gs, N, k, kt, kg, rfl, n, ok, hQ⟩ := h
    rfl
  · obtain ⟨x, dx, b, d, t, g, f, ts, gs, N, k, kt, kg, rfl, n, ok, hQ⟩ := h
    refine ⟨_, (pss_one (ps_ret (pe_call G_less.never (hr.mono (by decide)) (by rfl) T.m_less T.F_less.kp T.b_less .nil pass0 (pa_cons (pe_ix ix_list (pe_fld (pv 0) rfl) (pv 1) (fun _ _ => rfl)) (pa_cons (pe_ix ix_list (pe_fld (pv 0) rfl) (pv 1) (fun _ _ => rfl)) pa_nil))))), ?_⟩
    try dsimp only [kx1, kx2, kx3, Cx.nox, Cx.wish]
    obtain ⟨qg, eg, fg⟩ := rows_at n.gr kg
    obtain ⟨qt, et, ft⟩ := rows_at n.tr kt
    have lg := (ok.gv _ (List.getElem_mem kg)).1
    have lt := (ok.tk _ (List.getElem_mem kt)).1
    have b6 := ok.b6
    exact ⟨_, rfl, x, _, dx, _, _, rfl, n.ob, T.cl_Net, T.n_Net_gives, rfl, _, rfl, g, _, _, _, rfl, rfl, SqL.of n.hg, eg, _, rfl, x, _, dx, _, _, rfl, n.ob, T.cl_Net, T.n_Net_takes, rfl, _, rfl, t, _, _, _, rfl, rfl, SqL.of n.ht, et, qg, qt, _, _, rfl, SqL.of fg, SqL.of ft, by omega, fun _ => hQ, fun h => absurd (by omega) h⟩
theorem sc_gains : FnScope ["net"] ["net"] (defScope s_gains) := ⟨rfl, rfl, rfl, by decide +kernel, rfl, by decide +kernel, by decide +kernel⟩
set_option maxHeartbeats 4000000 in
theorem ok_gains (T : Txt K mg AR FR) : FnOk P w K mg base CX0 6 AR.f_gains FR.d_gains ["net"] (sp_gains AR.C_Net K) := by
  have G_Net_init : FnOk P w K mg base CX0 3 AR.f_Net_init FR.d_Net_init _ (sp_Net_init AR.C_Net K) := ok_Net_init T
  have G_gain : FnOk P w K mg base CX0 5 AR.f_gain FR.d_gain _ (sp_gain AR.C_Net K) := ok_gain T
  refine T.F_gains.ok sc_gains (fun vs H Q E h => ?_) (fun cdv A outer s H vs Q E hr h => ?_)
  · obtain ⟨x, dx, b, d, t, g, f, ts, gs, N, rfl, n, ok, hQ⟩ := h
    rfl
  · obtain ⟨x, dx, b, d, t, g, f, ts, gs, N, rfl, n, ok, hQ⟩ := h
    refine ⟨_, (pss_one (ps_ret (pe_comp (N' := ["door", "net"]) (nt := 1) (caps := [0]) _ _ (CompScope.of (by kernel_rfl)) (pi_range1 (by rfl) T.z_range (pa_cons (pe_callB call_len_seq (by rfl) T.z_len bt_len (pa_cons (pe_fld (pv 0) rfl) pa_nil)) pa_nil)) (fun _ => (pg_nameC (i := 0) ["door", "net"] (by decide +kernel) (by rfl))) (fun _ => pts_nil) (fun _ => (pe_call G_gain (hr.mono (by decide)) (by rfl) T.m_gain T.F_gain.kp T.b_gain .nil pass0 (pa_cons (pv 1) (pa_cons (pv 0) pa_nil))))))), ?_⟩
    try dsimp only [kx1, kx2, kx3, Cx.nox, Cx.wish]
    have d8 := ok.d8
    have tl := ok.tl
    have gl := ok.gl
    have vd : (vstrs N.doors).length = N.takes.length := by unfold vstrs; rw [List.length_map, tl]
    refine ⟨_, rfl, x, _, dx, _, _, rfl, n.ob, T.cl_Net, T.n_Net_doors, rfl, d, _, rfl, .inl (SqL.of n.hd), _, rfl, by rw [vd]; omega, by rw [vd]; omega, ?_⟩
    rw [vd, Int.toNat_natCast]
    refine comp_rowsAt (τ := [some (.ref x)]) (fun d => sub (N.gives.getD d []) (N.takes.getD d [])) (small70 (by omega)) (fun B i H2 hi S2 Q' hq => ?_) fun as H2 S2 R2 _ q nq => hQ q as _ (S2.free nq) (S2.upd nq) upd_same (R2.same ((Same.refl H2).upd nq))
    have hg : i < N.gives.length := by omega
    refine ⟨_, rfl, _, rfl, x, dx, b, d, t, g, f, ts, gs, N, i, hi, hg, by rw [Int.zero_add]; rfl, n.same S2, ok, fun q H3 nq S3 hq3 => hq q H3 nq S3 ?_⟩
    rw [hq3, getDr hi, getDr hg]
    rfl
theorem sc_is_multiple : FnScope ["number", "part"] ["number", "part"] (defScope s_is_multiple) := ⟨rfl, rfl, rfl, by decide +kernel, rfl, by decide +kernel, by decide +kernel⟩
set_option maxHeartbeats 4000000 in
theorem ok_is_multiple (T : Txt K mg AR FR) : FnOk P w K mg base CX0 1 AR.f_is_multiple FR.d_is_multiple ["number", "part"] (sp_is_multiple K) := by
  refine T.F_is_multiple.ok sc_is_multiple (fun vs H Q E h => ?_) (fun cdv A outer s H vs Q E hr h => ?_)
  · obtain ⟨n, p, rfl, hQ⟩ := h
    rfl
  · obtain ⟨n, p, rfl, hQ⟩ := h
    refine ⟨_, (pss_cons (ps_if (pt_cmpR op_eq (pv 1) pe_int (nomark _)) (pss_one (ps_ret (pe_cmpR op_eq (pv 0) pe_int (nomark _)))) pss_nil)
      (pss_one (ps_ret (pe_cmpR op_eq (pe_op op_mod (pv 0) (pv 1)) pe_int (nomark _))))), ?_⟩
    try dsimp only [kx1, kx2, kx3, Cx.nox, Cx.wish]
    unfold mulB at hQ
    refine ⟨_, rfl, rfl, _, rfl, ?_⟩
    refine iteD (fun h => ?_) (fun h => ?_)
    · have e : p = 0 := by injection h with h; omega
      rw [if_pos e] at hQ
      refine ⟨_, rfl, rfl, ?_⟩
      rw [dec_intD]
      exact hQ
    · have e : p ≠ 0 := fun e => h (by rw [e]; rfl)
      rw [if_neg e] at hQ
      refine ⟨_, rfl, _, rfl, _, _, rfl, rfl, (by show (0 : Int) < p; omega), rfl, ?_⟩
      rw [dec_intD]
      exact hQ
theorem sc_weighed : FnScope ["weights", "ones"] ["weights", "ones"] (defScope s_weighed) := ⟨rfl, rfl, rfl, by decide +kernel, rfl, by decide +kernel, by decide +kernel⟩
set_option maxHeartbeats 4000000 in
theorem ok_weighed (T : Txt K mg AR FR) : FnOk P w K mg base CX0 2 AR.f_weighed FR.d_weighed ["weights", "ones"] (sp_weighed K) := by
  have G_refuse_unlike : FnOk P w K mg base (CXF P w) 1 AR.f_refuse_unlike FR.d_refuse_unlike _ (sp_refuse_unlike AR.C_Unlike K) := ok_refuse_unlike T
  refine T.F_weighed.ok sc_weighed (fun vs H Q E h => ?_) (fun cdv A outer s H vs Q E hr h => ?_)
  · obtain ⟨a, b, xs, ys, rfl, ha, hb, hl, hz, hx, hy, hQ⟩ := h
    rfl
  · obtain ⟨a, b, xs, ys, rfl, ha, hb, hl, hz, hx, hy, hQ⟩ := h
    refine ⟨_, (pss_cons (ps_expr (pe_call G_refuse_unlike.never (hr.mono (by decide)) (by rfl) T.m_refuse_unlike T.F_refuse_unlike.kp T.b_refuse_unlike .nil pass0 (pa_cons (pv 0) (pa_cons (pv 1) pa_nil))))
      (pss_one (ps_ret (pe_callB (call_sum_list rfl) (by rfl) T.z_sum bt_sum (pa_cons (pe_comp (N' := ["weight", "one"]) (nt := 2) (caps := []) _ _ (CompScope.of (by kernel_rfl)) (pi_zip (by rfl) T.z_zip (pa_cons (pv 0) (pa_cons (pv 1) pa_nil))) (fun _ => (pg_tup (by rfl) (pgs_cons (pg_nameC (i := 0) ["weight", "one"] (by decide +kernel) (by rfl)) (pgs_cons (pg_nameC (i := 1) ["weight", "one"] (by decide +kernel) (by rfl)) pgs_nil)))) (fun _ => pts_nil) (fun _ => (pe_op op_mulB (pv 0) (pv 1)))) pa_nil))))), ?_⟩
    try dsimp only [kx1, kx2, kx3, Cx.nox, Cx.wish]
    refine ⟨_, rfl, _, rfl, a, b, _, _, rfl, ha, hb, fun _ => ?_, fun h => absurd (by rw [ints_len, ints_len]; exact hl) h⟩
    refine ⟨_, rfl, _, rfl, a, b, _, _, rfl, ha, hb, ?_⟩
    refine comp_zip1 (τ := []) (gInt fun i j => i * j) (by rw [ints_len, ints_len]; exact hl) (by rw [ints_len]; exact small70 hz) ha hb ?_ ?_
    · intro B x w H2 hx' hw S Q' hq
      obtain ⟨i, hi, rfl⟩ := ints_mem hx'
      obtain ⟨j, hj, rfl⟩ := ints_mem hw
      exact ⟨_, rfl, _, rfl, _, _, rfl, rfl, ⟨p70 (hx i hi), p70 (hy j hj)⟩, hq H2 (Same.refl _)⟩
    · intro H2 S p hp
      rw [zip_ints (f := fun i j => i * j) fun _ _ => rfl]
      exact ⟨p, _, rfl, SqL.of upd_same, hQ _ (S.upd hp)⟩
theorem sc_unmoved : FnScope ["net", "weights", "part"] ["net", "weights", "part"] (defScope s_unmoved) := ⟨rfl, rfl, rfl, by decide +kernel, rfl, by decide +kernel, by decide +kernel⟩
set_option maxHeartbeats 4000000 in
theorem ok_unmoved (T : Txt K mg AR FR) : FnOk P w K mg base (CXF P w) 7 AR.f_unmoved FR.d_unmoved ["net", "weights", "part"] (sp_unmoved AR.C_Net AR.C_Unlike K) := by
  have G_Net_init : FnOk P w K mg base CX0 3 AR.f_Net_init FR.d_Net_init _ (sp_Net_init AR.C_Net K) := ok_Net_init T
  have G_refuse_unlike : FnOk P w K mg base (CXF P w) 1 AR.f_refuse_unlike FR.d_refuse_unlike _ (sp_refuse_unlike AR.C_Unlike K) := ok_refuse_unlike T
  have G_gains : FnOk P w K mg base CX0 6 AR.f_gains FR.d_gains _ (sp_gains AR.C_Net K) := ok_gains T
  have G_is_multiple : FnOk P w K mg base CX0 1 AR.f_is_multiple FR.d_is_multiple _ (sp_is_multiple K) := ok_is_multiple T
  have G_weighed : FnOk P w K mg base CX0 2 AR.f_weighed FR.d_weighed _ (sp_weighed K) := ok_weighed T
  refine T.F_unmoved.okF sc_unmoved (fun vs H Q E h => ?_) (fun cdv A outer s H vs Q E hr h => ?_)
  · obtain ⟨x, dx, b, d, t, g, f, c, ts, gs, N, ws, p, rfl, n, ok, hc, wb, hQ, hE⟩ := h
    rfl
  · obtain ⟨x, dx, b, d, t, g, f, c, ts, gs, N, ws, p, rfl, n, ok, hc, wb, hQ, hE⟩ := h
    refine ⟨_, (pss_cons (ps_expr (pe_call G_refuse_unlike (hr.mono (by decide)) (by rfl) T.m_refuse_unlike T.F_refuse_unlike.kp T.b_refuse_unlike .nil passF (pa_cons (pe_fld (pv 0) rfl) (pa_cons (pv 1) pa_nil))))
      (pss_one (ps_ret (pe_callB (call_all_list rfl) (by rfl) T.z_all bt_all (pa_cons (pe_comp (N' := ["row", "weights", "part"]) (nt := 1) (caps := [1, 2]) _ _ (CompScope.of (by kernel_rfl)) (pi_list (pe_call G_gains (hr.mono (by decide)) (by rfl) T.m_gains T.F_gains.kp T.b_gains .nil pass0 (pa_cons (pv 0) pa_nil))) (fun _ => (pg_nameC (i := 0) ["row", "weights", "part"] (by decide +kernel) (by rfl))) (fun _ => pts_nil) (fun _ => (pe_call G_is_multiple (hr.mono (by decide)) (by rfl) T.m_is_multiple T.F_is_multiple.kp T.b_is_multiple .nil pass0 (pa_cons (pe_call G_weighed (hr.mono (by decide)) (by rfl) T.m_weighed T.F_weighed.kp T.b_weighed .nil pass0 (pa_cons (pv 1) (pa_cons (pv 0) pa_nil))) (pa_cons (pv 2) pa_nil))))) pa_nil))))), ?_⟩
    try dsimp only [kx1, kx2, kx3, Cx.nox, Cx.wish]
    have d8 := ok.d8
    have b6 := ok.b6
    have tl := ok.tl
    have gl := ok.gl
    have vb : (vstrs N.bowls).length = N.bowls.length := List.length_map ..
    refine ⟨_, rfl, x, _, dx, _, _, rfl, n.ob, T.cl_Net, T.n_Net_bowls, rfl, _, rfl, b, c, _, _, rfl, SqL.of n.hb, hc, fun hl => ?_, fun hl => hE (by rw [vb, ints_len] at hl; exact hl)⟩
    rw [vb, ints_len] at hl
    refine ⟨_, rfl, x, dx, b, d, t, g, f, ts, gs, N, rfl, n, ok, fun q as H1 nq S1 hq R1 => ?_⟩
    have al : as.length = N.takes.length := by rw [R1.length, gnP_len]
    refine ⟨q, rfl, ⟨_, SqL.of hq⟩, ?_⟩
    refine comp_boolsOf (K := K) (τ := [some (.ref c), some (.int p)]) (fun i => mulB (wsum ws ((gnP N.takes N.gives).getD i [])) p) (SqL.of hq) (small70 (by omega)) (fun B i s H2 hs S2 Q' hq2 => ?_) fun H2 S2 pp np => ?_
    · have hi : i < N.takes.length := by have := (List.getElem?_eq_some_iff.mp hs).1; omega
      have hg : i < N.gives.length := by omega
      obtain ⟨r, hr, he⟩ := Paired.getL R1 hs
      have e : (gnP N.takes N.gives).getD i [] = r := by rw [List.getD_eq_getElem?_getD, hr]; rfl
      have e2 := gnP_at (gv := N.gives) hi
      rw [getDr hi, getDr hg] at e2
      have lg := (ok.gv _ (List.getElem_mem hg)).1
      have lt := (ok.tk _ (List.getElem_mem hi)).1
      have lr : r.length = N.bowls.length := by rw [← e, e2]; exact sub_len lg lt
      rw [e] at hq2
      refine ⟨_, rfl, _, rfl, c, s, ws, r, rfl, (S1.trans S2).seq hc, SqL.of (S2 _ _ he), by omega, by omega, wb, fun y hy => ?_, fun H3 S3 => ⟨_, rfl, _, p, rfl, hq2 H3 S3⟩⟩
      rw [← e, e2] at hy
      exact Nat.lt_of_le_of_lt (sub_abs lg lt (ok.gv _ (List.getElem_mem hg)).2 (ok.tk _ (List.getElem_mem hi)).2 y hy) (by decide +kernel)
    · refine ⟨pp, _, rfl, SqL.of upd_same, ?_⟩
      rw [al, ← gnP_len N.takes N.gives, all_range [] (fun r => mulB (wsum ws r) p)]
      exact hQ hl _ ((S1.trans S2).upd np)
theorem sc_tells_apart : FnScope ["net", "weights", "part", "bag", "changed"] ["net", "weights", "part", "bag"] (defScope s_tells_apart) := ⟨rfl, rfl, rfl, by decide +kernel, rfl, by decide +kernel, by decide +kernel⟩
set_option maxHeartbeats 4000000 in
theorem ok_tells_apart (T : Txt K mg AR FR) : FnOk P w K mg base (CXF P w) 8 AR.f_tells_apart FR.d_tells_apart ["net", "weights", "part", "bag"] (sp_tells_apart AR.C_Net AR.C_Unlike K) := by
  have G_Net_init : FnOk P w K mg base CX0 3 AR.f_Net_init FR.d_Net_init _ (sp_Net_init AR.C_Net K) := ok_Net_init T
  have G_less : FnOk P w K mg base (CXF P w) 2 AR.f_less FR.d_less _ (sp_less AR.C_Unlike K) := ok_less T
  have G_unmoved : FnOk P w K mg base (CXF P w) 7 AR.f_unmoved FR.d_unmoved _ (sp_unmoved AR.C_Net AR.C_Unlike K) := ok_unmoved T
  have G_is_multiple : FnOk P w K mg base CX0 1 AR.f_is_multiple FR.d_is_multiple _ (sp_is_multiple K) := ok_is_multiple T
  have G_weighed : FnOk P w K mg base CX0 2 AR.f_weighed FR.d_weighed _ (sp_weighed K) := ok_weighed T
  refine T.F_tells_apart.okF sc_tells_apart (fun vs H Q E h => ?_) (fun cdv A outer s H vs Q E hr h => ?_)
  · obtain ⟨x, dx, b, d, t, g, f, c, e, ts, gs, N, ws, bs, p, rfl, n, ok, hc, he, wb, bb, b70, hQ, hE⟩ := h
    rfl
  · obtain ⟨x, dx, b, d, t, g, f, c, e, ts, gs, N, ws, bs, p, rfl, n, ok, hc, he, wb, bb, b70, hQ, hE⟩ := h
    refine ⟨_, (pss_cons (ps_set (i := 4) sc_tells_apart.nd rfl (Or.inl rfl) (pe_call G_less (hr.mono (by decide)) (by rfl) T.m_less T.F_less.kp T.b_less .nil passF (pa_cons (pv 3) (pa_cons (pe_fld (pv 0) rfl) pa_nil))))
      (pss_one (ps_ret (pe_and (pe_call G_unmoved (hr.mono (by decide)) (by rfl) T.m_unmoved T.F_unmoved.kp T.b_unmoved .nil passF (pa_cons (pv 0) (pa_cons (pv 1) (pa_cons (pv 2) pa_nil)))) (pe_one (pe_not (pe_call G_is_multiple (hr.mono (by decide)) (by rfl) T.m_is_multiple T.F_is_multiple.kp T.b_is_multiple .nil pass0 (pa_cons (pe_call G_weighed (hr.mono (by decide)) (by rfl) T.m_weighed T.F_weighed.kp T.b_weighed .nil pass0 (pa_cons (pv 1) (pa_cons (pv 4) pa_nil))) (pa_cons (pv 2) pa_nil))))))))), ?_⟩
    try dsimp only [kx1, kx2, kx3, Cx.nox, Cx.wish]
    have b6 := ok.b6
    have fl := ok.fs.1
    refine ⟨_, rfl, _, rfl, x, _, dx, _, _, rfl, n.ob, T.cl_Net, T.n_Net_first, rfl, e, f, bs, _, rfl, he, SqL.of n.hf, b70, fun hl q H1 nq S1 hq => ?_, fun h => hE (fun z => h (by omega)) H (Same.refl _)⟩
    have hl2 : bs.length = N.bowls.length := by omega
    refine ⟨_, rfl, _, rfl, _, rfl, x, dx, b, d, t, g, f, c, ts, gs, N, ws, p, rfl, n.same S1, ok, S1.seq hc, wb, fun hw H2 S2 => ?_, fun h => hE (fun z => h z.2) H1 S1⟩
    have hQ := hQ hl2 hw
    refine ⟨_, rfl, ?_⟩
    cases hu : unB (gnP N.takes N.gives) ws p with
    | false =>
      rw [hu] at hQ
      exact hQ _ (S1.trans S2)
    | true =>
      rw [hu] at hQ
      refine iteT ?_
      have ls : (sub bs N.first).length = N.bowls.length := sub_len hl2 fl
      refine ⟨_, rfl, _, rfl, c, q, ws, sub bs N.first, rfl, (S1.trans S2).seq hc, SqL.of (S2 _ _ hq), by omega, by omega, wb, fun y hy => ?_, fun H3 S3 => ⟨_, rfl, _, p, rfl, _, rfl, hQ _ ((S1.trans S2).trans S3)⟩⟩
      obtain ⟨k, hk, rfl⟩ := List.mem_iff_getElem.mp hy
      have hk2 : k < N.bowls.length := by omega
      rw [← L2.getD_at hk, sub_at hl2 fl hk2]
      have a1 := at_in (P := fun y => y.natAbs < 10 ^ 40) hl2 hk2 bb
      have a2 := at_in (P := fun y => 0 ≤ y ∧ y ≤ 1000000000) fl hk2 ok.fs.2
      omega
theorem sc_law_refused : FnScope ["net", "weights", "part", "bag", "e", "others"] ["net", "weights", "part", "bag"] (defScope s_law_refused) := ⟨rfl, rfl, rfl, by decide +kernel, rfl, by decide +kernel, by decide +kernel⟩
set_option maxHeartbeats 4000000 in
theorem ok_law_refused (T : Txt K mg AR FR) : FnOk P w K mg base CX0 9 AR.f_law_refused FR.d_law_refused ["net", "weights", "part", "bag"] (sp_law_refused AR.C_Net K) := by
  have G_Net_init : FnOk P w K mg base CX0 3 AR.f_Net_init FR.d_Net_init _ (sp_Net_init AR.C_Net K) := ok_Net_init T
  have G_tells_apart : FnOk P w K mg base (CXF P w) 8 AR.f_tells_apart FR.d_tells_apart _ (sp_tells_apart AR.C_Net AR.C_Unlike K) := ok_tells_apart T
  refine T.F_law_refused.ok sc_law_refused (fun vs H Q E h => ?_) (fun cdv A outer s H vs Q E hr h => ?_)
  · obtain ⟨x, dx, b, d, t, g, f, c, e0, ts, gs, N, ws, bs, p, rfl, n, ok, hc, he, wb, bb, b70, hl, hQ⟩ := h
    rfl
  · obtain ⟨x, dx, b, d, t, g, f, c, e0, ts, gs, N, ws, bs, p, rfl, n, ok, hc, he, wb, bb, b70, hl, hQ⟩ := h
    refine ⟨_, (pss_cons (ps_tryAs (i := 4) sc_law_refused.nd (by rfl) T.mC_Unlike (pb_expr (px_call G_tells_apart (hr.mono (by decide)) (by rfl) T.m_tells_apart T.F_tells_apart.kp T.b_tells_apart (pa_cons (pv 0) (pa_cons (pv 1) (pa_cons (pv 2) (pa_cons (pv 3) pa_nil)))))) (fun _ _ => (pss_cons (ps_set (i := 5) sc_law_refused.nd rfl (Or.inl rfl) (pe_callB call_isXT (by rfl) T.z_isinstance bt_isinstance (pa_cons (pv 4) (pa_cons (pe_tup (pa_cons (pe_glob (v := .ref AR.C_BadAsk) (by rfl) T.mC_BadAsk rfl) (pa_cons (pe_glob (v := .ref AR.C_BadNet) (by rfl) T.mC_BadNet rfl) (pa_cons (pe_glob (v := .ref AR.C_BadPaper) (by rfl) T.mC_BadPaper rfl) (pa_cons (pe_glob (v := .ref AR.C_BadText) (by rfl) T.mC_BadText rfl) (pa_cons (pe_glob (v := .ref AR.C_NoGo) (by rfl) T.mC_NoGo rfl) (pa_cons (pe_glob (v := .ref AR.C_TooWide) (by rfl) T.mC_TooWide rfl) pa_nil))))))) pa_nil))))
      (pss_one (ps_ret (pe_and (pe_callB call_isX (by rfl) T.z_isinstance bt_isinstance (pa_cons (pv 4) (pa_cons (pe_glob (v := .ref AR.C_HallError) (by rfl) T.mC_HallError rfl) pa_nil))) (pe_and (pe_callB call_isX (by rfl) T.z_isinstance bt_isinstance (pa_cons (pv 4) (pa_cons (pe_bltn (v := .ty "ValueError") (by rfl) T.z_ValueError bt_ValueError rfl) pa_nil))) (pe_one (pe_not (pv 5))))))))))
      (pss_one (ps_ret pe_bl))), ?_⟩
    try dsimp only [kx1, kx2, kx3, Cx.nox, Cx.wish]
    refine ⟨_, rfl, _, rfl, _, rfl, _, rfl, x, dx, b, d, t, g, f, c, e0, ts, gs, N, ws, bs, p, rfl, n, ok, hc, he, wb, bb, b70, fun h1 h2 => absurd ⟨h1, h2⟩ hl, fun _ H1 S1 => ?_⟩
    refine ⟨_, rfl, caught_self T.ec_Unlike, fun e o ne xo => ?_⟩
    have m : (e, o) ∈ ([] ++ [(e, o)] : List (Addr × Obj)) := by simp
    have no : ∀ {D : Addr}, ecIn K D (.ref AR.C_HallError :: excMro) = true → D ≠ AR.C_Unlike → D ≠ AR.C_HallError → PySem.W.kitOne K (.ref AR.C_Unlike) (.ref D) = some false := fun q h1 h2 => ec_no T.ec_Unlike q h1 h2
    have n1 := no T.ec_BadAsk (by first | exact T.ne_BadAsk_Unlike | exact (Ne.symm T.ne_Unlike_BadAsk)) T.ne_BadAsk_HallError
    have n2 := no T.ec_BadNet (by first | exact T.ne_BadNet_Unlike | exact (Ne.symm T.ne_Unlike_BadNet)) T.ne_BadNet_HallError
    have n3 := no T.ec_BadPaper (by first | exact T.ne_BadPaper_Unlike | exact (Ne.symm T.ne_Unlike_BadPaper)) T.ne_BadPaper_HallError
    have n4 := no T.ec_BadText (by first | exact T.ne_BadText_Unlike | exact (Ne.symm T.ne_Unlike_BadText)) T.ne_BadText_HallError
    have n5 := no T.ec_NoGo (by first | exact T.ne_NoGo_Unlike | exact (Ne.symm T.ne_Unlike_NoGo)) T.ne_NoGo_HallError
    have n6 := no T.ec_TooWide (by first | exact T.ne_TooWide_Unlike | exact (Ne.symm T.ne_Unlike_TooWide)) T.ne_TooWide_HallError
    refine ⟨_, rfl, by show 6 ≤ sizeLine; decide, fun tp ntp => ?_⟩
    have U := (Same.refl H1).upd ntp (o := .tup [V.ref AR.C_BadAsk, V.ref AR.C_BadNet, V.ref AR.C_BadPaper, V.ref AR.C_BadText, V.ref AR.C_NoGo, V.ref AR.C_TooWide])
    refine ⟨e, o, _, tp, _, [AR.C_BadAsk, AR.C_BadNet, AR.C_BadPaper, AR.C_BadText, AR.C_NoGo, AR.C_TooWide], false, rfl, upd_same, m, xo, noDict, T.xi_Unlike, kit_six n1 n2 n3 n4 n5 n6, ?_⟩
    refine ⟨_, rfl, e, o, _, _, _, _, true, rfl, m, xo, noDict, T.xi_Unlike, .inr ⟨_, rfl, rfl⟩, ec_up T.ec_Unlike T.ec_HallError, _, rfl, ?_⟩
    refine iteT ?_
    refine ⟨_, rfl, e, o, _, _, _, _, true, rfl, m, xo, noDict, T.xi_Unlike, .inl ⟨_, rfl, rfl⟩, ec_VE T.ec_Unlike, _, rfl, ?_⟩
    refine iteT ?_
    exact ⟨_, rfl, _, rfl, hQ _ (S1.trans U)⟩
theorem sc_law : FnScope ["script", "parts", "size", "weights", "part", "bag", "due", "row", "net", "handed", "found", "plain"] ["script"] (defScope s_law) := ⟨rfl, rfl, rfl, by decide +kernel, rfl, by decide +kernel, by decide +kernel⟩
set_option maxHeartbeats 40000000 in
theorem ok_law (T : Txt K mg AR FR) : FnOk P w K mg base CX0 10 AR.f_law FR.d_law ["script"] (sp_law K) := by
  have G_law_net : FnOk P w K mg base CX0 4 AR.f_law_net FR.d_law_net _ (sp_law_net K) := ok_law_net T
  have G_law_weights : FnOk P w K mg base CX0 2 AR.f_law_weights FR.d_law_weights _ (sp_law_weights K) := ok_law_weights T
  have G_law_part : FnOk P w K mg base CX0 2 AR.f_law_part FR.d_law_part _ (sp_law_part K) := ok_law_part T
  have G_law_bag : FnOk P w K mg base CX0 3 AR.f_law_bag FR.d_law_bag _ (sp_law_bag K) := ok_law_bag T
  have G_law_is_nought : FnOk P w K mg base CX0 1 AR.f_law_is_nought FR.d_law_is_nought _ (sp_law_is_nought K) := ok_law_is_nought T
  have G_law_weigh : FnOk P w K mg base CX0 1 AR.f_law_weigh FR.d_law_weigh _ (sp_law_weigh K) := ok_law_weigh T
  have G_law_gains : FnOk P w K mg base CX0 1 AR.f_law_gains FR.d_law_gains _ (sp_law_gains K) := ok_law_gains T
  have G_law_made : FnOk P w K mg base CX0 5 AR.f_law_made FR.d_law_made _ (sp_law_made AR.C_Net K) := ok_law_made T
  have G_tells_apart : FnOk P w K mg base (CXF P w) 8 AR.f_tells_apart FR.d_tells_apart _ (sp_tells_apart AR.C_Net AR.C_Unlike K) := ok_tells_apart T
  have G_law_refused : FnOk P w K mg base CX0 9 AR.f_law_refused FR.d_law_refused _ (sp_law_refused AR.C_Net K) := ok_law_refused T
  have G_law_behind : FnOk P w K mg base CX0 2 AR.f_law_behind FR.d_law_behind _ (sp_law_behind K) := ok_law_behind T
  have G_law_tally : FnOk P w K mg base CX0 1 AR.f_law_tally FR.d_law_tally _ (sp_law_tally K) := ok_law_tally T
  refine T.F_law.ok sc_law (fun vs H Q E h => ?_) (fun cdv A outer s H vs Q E hr h => ?_)
  · obtain ⟨a, ns, rfl, hS, hlen, hQ⟩ := h
    rfl
  · obtain ⟨a, ns, rfl, hS, hlen, hQ⟩ := h
    refine ⟨_, (pss_cons (ps_set (i := 1) sc_law.nd rfl (Or.inr rfl) (pe_call G_law_net (hr.mono (by decide)) (by rfl) T.m_law_net T.F_law_net.kp T.b_law_net .nil pass0 (pa_cons (pv 0) pa_nil)))
      (pss_cons (ps_set (i := 2) sc_law.nd rfl (Or.inl rfl) (pe_callB call_len_seq (by rfl) T.z_len bt_len (pa_cons (pe_ix ix_list (pv 1) pe_int (fun _ _ => rfl)) pa_nil)))
      (pss_cons (ps_set (i := 3) sc_law.nd rfl (Or.inl rfl) (pe_call G_law_weights (hr.mono (by decide)) (by rfl) T.m_law_weights T.F_law_weights.kp T.b_law_weights .nil pass0 (pa_cons (pv 0) (pa_cons (pv 2) pa_nil))))
      (pss_cons (ps_set (i := 4) sc_law.nd rfl (Or.inl rfl) (pe_call G_law_part (hr.mono (by decide)) (by rfl) T.m_law_part T.F_law_part.kp T.b_law_part .nil pass0 (pa_cons (pv 0) pa_nil)))
      (pss_cons (ps_set (i := 5) sc_law.nd rfl (Or.inr rfl) (pe_call G_law_bag (hr.mono (by decide)) (by rfl) T.m_law_bag T.F_law_bag.kp T.b_law_bag .nil pass0 (pa_cons (pv 0) (pa_cons (pv 1) pa_nil))))
      (pss_cons (ps_set (i := 6) sc_law.nd rfl (Or.inl rfl) (pe_not (pe_call G_law_is_nought (hr.mono (by decide)) (by rfl) T.m_law_is_nought T.F_law_is_nought.kp T.b_law_is_nought .nil pass0 (pa_cons (pe_call G_law_weigh (hr.mono (by decide)) (by rfl) T.m_law_weigh T.F_law_weigh.kp T.b_law_weigh .nil pass0 (pa_cons (pv 3) (pa_cons (pe_comp (N' := ["b", "bag", "parts"]) (nt := 1) (caps := [5, 1]) _ _ (CompScope.of (by kernel_rfl)) (pi_range1 (by rfl) T.z_range (pa_cons (pv 2) pa_nil)) (fun _ => (pg_nameC (i := 0) ["b", "bag", "parts"] (by decide +kernel) (by rfl))) (fun _ => pts_nil) (fun _ => (pe_op op_sub (pe_ix ix_list (pv 1) (pv 0) (fun _ _ => rfl)) (pe_ix ix_list (pe_ix ix_list (pv 2) pe_int (fun _ _ => rfl)) (pv 0) (fun _ _ => rfl))))) pa_nil))) (pa_cons (pv 4) pa_nil)))))
      (pss_cons (ps_for PassesOwn.never rfl (pi_list (pe_call G_law_gains (hr.mono (by decide)) (by rfl) T.m_law_gains T.F_law_gains.kp T.b_law_gains .nil pass0 (pa_cons (pv 1) pa_nil))) (pg_name (i := 7) sc_law.nd (by rfl) (Or.inl rfl))
      (pss_one (ps_if (pt_not (pt_val (pe_call G_law_is_nought (hr.mono (by decide)) (by rfl) T.m_law_is_nought T.F_law_is_nought.kp T.b_law_is_nought .nil pass0 (pa_cons (pe_call G_law_weigh (hr.mono (by decide)) (by rfl) T.m_law_weigh T.F_law_weigh.kp T.b_law_weigh .nil pass0 (pa_cons (pv 3) (pa_cons (pv 7) pa_nil))) (pa_cons (pv 4) pa_nil))))) (pss_one (ps_set (i := 6) sc_law.nd rfl (Or.inl rfl) pe_bl)) pss_nil)))
      (pss_cons (ps_set (i := 8) sc_law.nd rfl (Or.inl rfl) (pe_call G_law_made (hr.mono (by decide)) (by rfl) T.m_law_made T.F_law_made.kp T.b_law_made .nil pass0 (pa_cons (pv 1) pa_nil)))
      (pss_cons (ps_set (i := 9) sc_law.nd rfl (Or.inl rfl) (pe_lst (pa_cons (pe_callTy call_list_of (by rfl) T.z_list bt_list (pa_cons (pv 3) pa_nil)) (pa_cons (pe_callTy call_list_of (by rfl) T.z_list bt_list (pa_cons (pv 5) pa_nil)) pa_nil))))
      (pss_cons (ps_set (i := 10) sc_law.nd rfl (Or.inl rfl) (pe_call G_tells_apart.never (hr.mono (by decide)) (by rfl) T.m_tells_apart T.F_tells_apart.kp T.b_tells_apart .nil pass0 (pa_cons (pv 8) (pa_cons (pe_ix ix_list (pv 9) pe_int (fun _ _ => rfl)) (pa_cons (pv 4) (pa_cons (pe_ix ix_list (pv 9) pe_int (fun _ _ => rfl)) pa_nil))))))
      (pss_cons (ps_if (PW.pt (pw_or (pt_not (pt_val (pe_callB call_isinst (by rfl) T.z_isinstance bt_isinstance (pa_cons (pv 10) (pa_cons (pe_bltn (v := .ty "bool") (by rfl) T.z_bool bt_bool rfl) pa_nil))))) (pw_or (pt_cmpR op_ne (pv 10) (pv 6) (nomark _)) (pw_or1 (pt_cmpR (op_neRw (hu2_of hr)) (pv 9) (pe_lst (pa_cons (pv 3) (pa_cons (pv 5) pa_nil))) (nomark _)))))) (pss_one (ps_ret pe_bl)) pss_nil)
      (pss_cons (ps_if (PW.pt (pw_or (pt_not (pt_val (pe_call G_law_refused (hr.mono (by decide)) (by rfl) T.m_law_refused T.F_law_refused.kp T.b_law_refused .nil pass0 (pa_cons (pv 8) (pa_cons (pe_op op_cat (pv 3) (pe_lst (pa_cons pe_int pa_nil))) (pa_cons (pv 4) (pa_cons (pv 5) pa_nil))))))) (pw_or1 (pt_not (pt_val (pe_call G_law_refused (hr.mono (by decide)) (by rfl) T.m_law_refused T.F_law_refused.kp T.b_law_refused .nil pass0 (pa_cons (pv 8) (pa_cons (pe_slice sl_list (pv 3) (po_some pe_int) po_none) (pa_cons (pv 4) (pa_cons (pv 5) pa_nil)))))))))) (pss_one (ps_ret pe_bl)) pss_nil)
      (pss_cons (ps_if (PW.pt (pw_or (pt_not (pt_val (pe_call G_law_refused (hr.mono (by decide)) (by rfl) T.m_law_refused T.F_law_refused.kp T.b_law_refused .nil pass0 (pa_cons (pv 8) (pa_cons (pv 3) (pa_cons (pv 4) (pa_cons (pe_op op_cat (pv 5) (pe_lst (pa_cons pe_int pa_nil))) pa_nil))))))) (pw_or1 (pt_not (pt_val (pe_call G_law_refused (hr.mono (by decide)) (by rfl) T.m_law_refused T.F_law_refused.kp T.b_law_refused .nil pass0 (pa_cons (pv 8) (pa_cons (pv 3) (pa_cons (pv 4) (pa_cons (pe_slice sl_list (pv 5) (po_some pe_int) po_none) pa_nil)))))))))) (pss_one (ps_ret pe_bl)) pss_nil)
      (pss_cons (ps_set (i := 11) sc_law.nd rfl (Or.inl rfl) (pe_call G_law_behind (hr.mono (by decide)) (by rfl) T.m_law_behind T.F_law_behind.kp T.b_law_behind .nil pass0 (pa_cons (pv 1) (pa_cons (pe_call G_law_tally (hr.mono (by decide)) (by rfl) T.m_law_tally T.F_law_tally.kp T.b_law_tally .nil pass0 (pa_cons (pv 0) (pa_cons (pe_callB call_len_seq (by rfl) T.z_len bt_len (pa_cons (pe_ix ix_list (pv 1) pe_int (fun _ _ => rfl)) pa_nil)) pa_nil))) pa_nil))))
      (pss_one (ps_ret (pe_cmpR op_isB (pe_call G_tells_apart.never (hr.mono (by decide)) (by rfl) T.m_tells_apart T.F_tells_apart.kp T.b_tells_apart .nil pass0 (pa_cons (pv 8) (pa_cons (pv 3) (pa_cons (pv 4) (pa_cons (pv 11) pa_nil))))) pe_bl (nomark _)))))))))))))))))), ?_⟩
    try dsimp only [kx1, kx2, kx3, Cx.nox, Cx.wish]
    refine ⟨_, rfl, a, ns, rfl, hS, hlen, fun p pt pg pf ts gs z tk gv fs H1 np S1 P o => ?_⟩
    have z1 := o.z1
    have z6 := o.z6
    have t8 := o.t8
    have gl := o.gl
    have fl := o.fs.1
    have vf : (vints fs).length = z := by rw [ints_len, fl]
    refine ⟨_, rfl, p, _, _, _, rfl, rfl, SqL.of P.top, rfl, pf, _, rfl, .inl (SqL.of P.hf), ?_⟩
    rw [vf]
    refine ⟨_, rfl, _, rfl, a, ns, z, rfl, S1.seq hS, hlen, by omega, fun pw ws H2 npw S2 hw wl wb => ?_⟩
    refine ⟨_, rfl, a, ns, rfl, (S1.trans S2).seq hS, hlen, fun pr H3 S3 => ?_⟩
    refine ⟨_, rfl, _, rfl, a, p, pt, pg, pf, ns, ts, gs, z, tk, gv, fs, rfl, ((S1.trans S2).trans S3).seq hS, hlen, P.same (S2.trans S3), o, fun pb bs H4 npb S4 hb bl bb => ?_⟩
    have S24 := (S2.trans S3).trans S4
    have P4 := P.same S24
    have hw4 := (S3.trans S4) _ _ hw
    have bb40 : ∀ y ∈ bs, y.natAbs < 10 ^ 40 := fun y hy => Nat.lt_of_le_of_lt (bb y hy) (by decide +kernel)
    have rl : ∀ r ∈ gnP tk gv, r.length = ws.length := fun r hr => by rw [wl]; exact gnP_wd (wd_of o.tk) (wd_of o.gv) gl r hr
    have rb : ∀ r ∈ gnP tk gv, ∀ y ∈ r, y.natAbs < 10 ^ 70 := fun r hr y hy => by
      obtain ⟨i, hi, rfl⟩ := List.mem_map.mp hr
      have hi := List.mem_range.mp hi
      rw [getDr hi, getDr (by omega)] at hy
      exact Nat.lt_of_le_of_lt (sub_abs (o.gv _ (List.getElem_mem _)).1 (o.tk _ (List.getElem_mem _)).1 (o.gv _ (List.getElem_mem _)).2 (o.tk _ (List.getElem_mem _)).2 y hy) (by decide +kernel)
    -- due
    have ls : (sub bs fs).length = z := sub_len bl fl
    have es : ((List.range z).map fun b => bs.getD b 0 - fs.getD b 0) = sub bs fs := ext_at (z := z) (by simp) ls fun k hk => by rw [rng_get (fun b => bs.getD b 0 - fs.getD b 0) hk, sub_at bl fl hk]
    have sb : ∀ y ∈ sub bs fs, y.natAbs < 10 ^ 70 := fun y hy => by
      obtain ⟨k, hk, rfl⟩ := List.mem_iff_getElem.mp hy
      have hk2 : k < z := by omega
      rw [← L2.getD_at hk, sub_at bl fl hk2]
      have a1 := at_in (P := fun y => y.natAbs < 10 ^ 40) bl hk2 bb40
      have a2 := at_in (P := fun y => 0 ≤ y ∧ y ≤ 1000000000) fl hk2 o.fs.2
      omega
    refine ⟨_, rfl, _, rfl, _, rfl, by omega, by omega, ?_⟩
    rw [Int.toNat_natCast]
    refine comp_at (n := z) (τ := [some (.ref pb), some (.ref p)]) (fun b => bs.getD b 0 - fs.getD b 0) (small70 (by omega)) (fun B b H5 hb2 S5 Q' hq2 => ?_) fun H5 S5 p5 np5 => ?_
    · exact ⟨_, rfl, _, rfl, pb, _, _, _, rfl, rfl, SqL.of (S5 _ _ hb), at_place bl hb2, _, rfl, p, _, _, _, rfl, rfl, SqL.of (S5 _ _ P4.top), rfl, _, rfl, pf, _, _, _, rfl, rfl, SqL.of (S5 _ _ P4.hf), at_place fl hb2, _, _, rfl, rfl, hq2 _ (Same.refl _)⟩
    rw [es]
    have U5 := S5.upd np5 (o := .lst (vints (sub bs fs)))
    refine ⟨pw, p5, ws, sub bs fs, rfl, SqL.of (U5 _ _ hw4), SqL.of upd_same, by rw [wl, ls], by rw [ls]; omega, wb, sb, fun H6 S6 => ?_⟩
    have S46 := U5.trans S6
    refine ⟨_, rfl, _, pr, rfl, ?_⟩
    refine ⟨_, rfl, ?_⟩
    try dsimp only [gName]
    have P6 := P4.same S46
    have hw6 := S46 _ _ hw4
    have hb6 := S46 _ _ hb
    generalize hd0 : mulB (wsum ws (sub bs fs)) pr = d0
    -- the doors
    refine ⟨_, rfl, p, pt, pg, pf, ts, gs, z, tk, gv, fs, rfl, P6, o, fun q as H7 nq S7 hq R => ?_⟩
    refine ⟨q, rfl, ⟨_, SqL.of hq⟩, ?_⟩
    refine for_list (K := K) (a := q) (xs := as.map V.ref) (fun i σ H8 => ∃ (o7 : Option V), σ = [some (.ref a), some (.ref p), some (.int z), some (.ref pw), some (.int pr), some (.ref pb), some (.bl (!d0 && unB ((gnP tk gv).take i) ws pr)), o7, none, none, none, none] ∧ Same H7 H8) ⟨none, by rw [show unB ((gnP tk gv).take 0) ws pr = true from rfl, Bool.and_true]; rfl, Same.refl _⟩ (fun i σ H8 _ hp4 => by obtain ⟨_, _, S⟩ := hp4; exact SqL.of (S _ _ hq)) ?_ ?_
    · rintro i x σ H8 hx ⟨o7, rfl, S8⟩
      obtain ⟨s, hs, rfl⟩ := refs_get hx
      obtain ⟨r, hr, he⟩ := Paired.getL R hs
      have rm := List.mem_of_getElem? hr
      have et : unB ((gnP tk gv).take (i + 1)) ws pr = (unB ((gnP tk gv).take i) ws pr && mulB (wsum ws r) pr) := by
        unfold unB
        rw [List.take_add_one, hr, Option.toList_some, List.all_append]
        simp
      refine ⟨_, rfl, _, rfl, pw, s, ws, r, rfl, SqL.of ((S7.trans S8) _ _ hw6), SqL.of (S8 _ _ he), (rl r rm).symm, by rw [rl r rm]; omega, wb, rb r rm, fun H9 S9 => ?_⟩
      refine ⟨_, rfl, _, pr, rfl, _, rfl, ?_⟩
      cases hm : mulB (wsum ws r) pr with
      | true =>
        rw [hm, Bool.and_true] at et
        exact iteF ⟨_, by rw [et]; rfl, S8.trans S9⟩
      | false =>
        rw [hm, Bool.and_false] at et
        exact iteT ⟨_, by rw [et, Bool.and_false]; rfl, S8.trans S9⟩
    rintro σ H8 ⟨o7, rfl, S8⟩
    have al : (as.map V.ref).length = (gnP tk gv).length := by rw [List.length_map, R.length]
    rw [al, List.take_length]
    have S78 := S7.trans S8
    have P8 := P6.same S78
    have hw8 := S78 _ _ hw6
    have hb8 := S78 _ _ hb6
    refine ⟨_, rfl, p, pt, pg, pf, ts, gs, z, tk, gv, fs, rfl, P8, o, fun x dx b d t g f ts' gs' H9 nx S9 NI ok => ?_⟩
    have eB : (netP tk gv fs).bowls.length = z := by rw [netP_len (by omega), fl]
    have hw9 := S9 _ _ hw8
    have hb9 := S9 _ _ hb8
    -- handed
    refine ⟨_, rfl, pw, _, rfl, .inl (SqL.of hw9), fun q1 n1 => ?_⟩
    have V1 := (Same.refl H9).upd n1 (o := .lst (vints ws))
    have hq1 := upd_same (H := H9) (a := q1) (o := .lst (vints ws))
    generalize upd H9 q1 (.lst (vints ws)) = H10 at V1 hq1 ⊢
    refine ⟨_, rfl, pb, _, rfl, .inl (SqL.of (V1 _ _ hb9)), fun q2 n2 => ?_⟩
    have V2 := (Same.refl H10).upd n2 (o := .lst (vints bs))
    have hq2 := upd_same (H := H10) (a := q2) (o := .lst (vints bs))
    have hq1' := V2 _ _ hq1
    generalize upd H10 q2 (.lst (vints bs)) = H11 at V2 hq2 hq1' ⊢
    refine ⟨by show 2 ≤ sizeLine; decide, fun ph nph => ?_⟩
    have V3 := (Same.refl H11).upd nph (o := .lst [V.ref q1, V.ref q2])
    have hph := upd_same (H := H11) (a := ph) (o := .lst [V.ref q1, V.ref q2])
    have g1 := V3 _ _ hq1'
    have g2 := V3 _ _ hq2
    generalize upd H11 ph (.lst [V.ref q1, V.ref q2]) = H12 at V3 hph g1 g2 ⊢
    have S912 := (V1.trans V2).trans V3
    have b70 : bs.length ≤ 70 := by omega
    refine ⟨_, rfl, _, rfl, ph, _, _, _, rfl, rfl, SqL.of hph, rfl, _, rfl, _, rfl, ph, _, _, _, rfl, rfl, SqL.of hph, rfl, x, dx, b, d, t, g, f, q1, q2, ts', gs', _, ws, bs, pr, rfl, NI.same S912, ok, SqL.of g1, SqL.of g2, wb, bb40, b70, fun _ _ H13 S13 => ?_, fun h => absurd ⟨bl.trans eB.symm, eB.trans wl.symm⟩ h⟩
    have S913 := S912.trans S13
    have hw13 := S913 _ _ hw9
    have hb13 := S913 _ _ hb9
    have N13 := NI.same S913
    have edue : (unB (gnP (netP tk gv fs).takes (netP tk gv fs).gives) ws pr && !mulB (wsum ws (sub bs (netP tk gv fs).first)) pr) = (!d0 && unB (gnP tk gv) ws pr) := by
      rw [← hd0, Bool.and_comm]
      rfl
    rw [edue]
    generalize (!d0 && unB (gnP tk gv) ws pr) = due
    refine ⟨_, rfl, _, _, _, _, rfl, .bl _, by rfl, _, rfl, ?_⟩
    refine iteF ?_
    refine ⟨_, rfl, _, rfl, rfl, _, rfl, ?_⟩
    refine iteND (fun h => absurd rfl h) (fun _ => ?_)
    refine ⟨_, rfl, _, rfl, _, rfl, by show 2 ≤ sizeLine; decide, fun p6 n6 => ?_⟩
    have V6 := (Same.refl H13).upd n6 (o := .lst [V.ref pw, V.ref pb])
    refine ⟨ph, p6, [q1, q2], [pw, pb], [ws, bs], rfl, rfl, SqL.of (V6 _ _ (S13 _ _ hph)), SqL.of upd_same, .cons (V6 _ _ (S13 _ _ g1)) (.cons (V6 _ _ (S13 _ _ g2)) .nil), .cons (V6 _ _ hw13) (.cons (V6 _ _ hb13) .nil), _, rfl, ?_⟩
    refine iteF ?_
    have hw14 := V6 _ _ hw13
    have hb14 := V6 _ _ hb13
    have N14 := N13.same V6
    have S914 := S913.trans V6
    generalize upd H13 p6 (.lst [V.ref pw, V.ref pb]) = H14 at V6 hw14 hb14 N14 S914 ⊢
    have out : ∀ {xs ys : List Int}, xs.length ≠ z ∨ ys.length ≠ z → ¬ (ys.length = (netP tk gv fs).bowls.length ∧ (netP tk gv fs).bowls.length = xs.length) := fun h q => by rw [eB] at q; omega
    -- weights + [0]
    refine ⟨_, rfl, _, rfl, by show 1 ≤ sizeLine; decide, fun l1 m1 => ?_⟩
    have W1 := (Same.refl H14).upd m1 (o := .lst [V.int 0])
    refine ⟨pw, l1, _, _, rfl, rfl, W1 _ _ hw14, upd_same, by rw [ints_len, wl]; show z + 1 ≤ _; exact Nat.le_of_lt (small70 (by omega)), fun l2 m2 => ?_⟩
    have W2 := W1.upd m2 (o := .lst (vints ws ++ [V.int 0]))
    have e2 := upd_same (H := upd H14 l1 (.lst [V.int 0])) (a := l2) (o := .lst (vints ws ++ [V.int 0]))
    generalize upd (upd H14 l1 (.lst [V.int 0])) l2 (.lst (vints ws ++ [V.int 0])) = H15 at W2 e2 ⊢
    refine ⟨_, rfl, _, rfl, x, dx, b, d, t, g, f, l2, pb, ts', gs', _, ws ++ [0], bs, pr, rfl, N14.same W2, ok, SqL.of (by rw [vints_snoc]; exact e2), SqL.of (W2 _ _ hb14), fun w hw => ?_, bb40, b70, out (.inl (by rw [List.length_append, wl]; show z + 1 ≠ z; omega)), fun H16 S16 => ?_⟩
    · rcases List.mem_append.mp hw with q | q
      · exact wb w q
      · rw [List.mem_singleton.mp q]; decide +kernel
    refine ⟨_, rfl, ?_⟩
    refine iteF ?_
    -- weights[1:]
    have W3 := W2.trans S16
    refine ⟨_, rfl, _, rfl, _, rfl, pw, _, rfl, SqL.of (W3 _ _ hw14), fun l3 m3 => ?_⟩
    rw [show (1 : Int) = ((1 : Nat) : Int) from rfl, cut_from, show (vints ws).drop 1 = vints (ws.drop 1) by unfold vints; rw [List.map_drop]]
    have W4 := W3.upd m3 (o := .lst (vints (ws.drop 1)))
    refine ⟨_, rfl, _, rfl, x, dx, b, d, t, g, f, l3, pb, ts', gs', _, ws.drop 1, bs, pr, rfl, N14.same W4, ok, SqL.of upd_same, SqL.of (W4 _ _ hb14), fun w hw => wb w (List.mem_of_mem_drop hw), bb40, b70, out (.inl (by rw [List.length_drop, wl]; omega)), fun H17 S17 => ?_⟩
    refine ⟨_, rfl, ?_⟩
    refine iteF ?_
    -- bag + [0]
    have W5 := W4.trans S17
    refine ⟨_, rfl, _, rfl, _, rfl, _, rfl, by show 1 ≤ sizeLine; decide, fun l4 m4 => ?_⟩
    have W6 := W5.upd m4 (o := .lst [V.int 0])
    refine ⟨pb, l4, _, _, rfl, rfl, W6 _ _ hb14, upd_same, by rw [ints_len, bl]; show z + 1 ≤ _; exact Nat.le_of_lt (small70 (by omega)), fun l5 m5 => ?_⟩
    have W7 := W6.upd m5 (o := .lst (vints bs ++ [V.int 0]))
    refine ⟨x, dx, b, d, t, g, f, pw, l5, ts', gs', _, ws, bs ++ [0], pr, rfl, N14.same W7, ok, SqL.of (W7 _ _ hw14), SqL.of (by rw [vints_snoc]; exact upd_same), wb, fun w hw => ?_, by rw [List.length_append]; show bs.length + 1 ≤ 70; omega, out (.inr (by rw [List.length_append, bl]; show z + 1 ≠ z; omega)), fun H18 S18 => ?_⟩
    · rcases List.mem_append.mp hw with q | q
      · exact bb40 w q
      · rw [List.mem_singleton.mp q]; decide +kernel
    refine ⟨_, rfl, ?_⟩
    refine iteF ?_
    -- bag[1:]
    have W8 := W7.trans S18
    refine ⟨_, rfl, _, rfl, _, rfl, _, rfl, _, rfl, pb, _, rfl, SqL.of (W8 _ _ hb14), fun l6 m6 => ?_⟩
    rw [cut_from, show (vints bs).drop 1 = vints (bs.drop 1) by unfold vints; rw [List.map_drop]]
    have W9 := W8.upd m6 (o := .lst (vints (bs.drop 1)))
    refine ⟨x, dx, b, d, t, g, f, pw, l6, ts', gs', _, ws, bs.drop 1, pr, rfl, N14.same W9, ok, SqL.of (W9 _ _ hw14), SqL.of upd_same, wb, fun w hw => bb40 w (List.mem_of_mem_drop hw), by rw [List.length_drop]; omega, out (.inr (by rw [List.length_drop, bl]; omega)), fun H19 S19 => ?_⟩
    refine ⟨_, rfl, ?_⟩
    refine iteF ?_
    -- plain
    have W10 := W9.trans S19
    have S819 := S9.trans (S914.trans W10)
    have P19 := P8.same S819
    have S119 := ((S24.trans S46).trans S78).trans S819
    have tl : (ts.map V.ref).length = tk.length := by rw [List.length_map, P.tr.length]
    refine ⟨_, rfl, _, rfl, _, rfl, p, _, _, _, rfl, rfl, SqL.of P19.top, rfl, pt, _, rfl, .inl (SqL.of P19.ht), a, ns, tk.length, by rw [tl]; rfl, (S1.trans S119).seq hS, hlen, t8, fun c ms H20 nc S20 hc ml mb => ?_⟩
    refine ⟨p, pt, pg, pf, c, ts, gs, z, tk, gv, fs, ms, rfl, P19.same S20, o, SqL.of hc, ml, mb, fun q9 bag H21 nq9 S21 hq9 bl9 bb9 rch => ?_⟩
    have W11 := (W10.trans S20).trans S21
    refine ⟨_, rfl, _, rfl, _, rfl, _, rfl, x, dx, b, d, t, g, f, pw, q9, ts', gs', _, ws, bag, pr, rfl, N14.same W11, ok, SqL.of (W11 _ _ hw14), SqL.of hq9, wb, fun y hy => Nat.lt_of_le_of_lt (bb9 y hy) (by decide +kernel), by omega, fun _ _ H22 S22 => ?_, fun h => absurd ⟨bl9.trans eB.symm, eB.trans wl.symm⟩ h⟩
    refine ⟨_, _, rfl, rfl, ?_⟩
    have ef : (unB (gnP (netP tk gv fs).takes (netP tk gv fs).gives) ws pr && !mulB (wsum ws (sub bag (netP tk gv fs).first)) pr) = false := by
      show (unB (gnP tk gv) ws pr && !mulB (wsum ws (sub bag fs)) pr) = false
      cases hu : unB (gnP tk gv) ws pr with
      | false => rfl
      | true => rw [rch ws pr wl hu]; rfl
    rw [ef]
    exact hQ _
end
theorem ex_S {us : List Value} {n : Nat} (hl : us.length = n + 1) : ∃ a r, us = a :: r ∧ r.length = n := by cases us with | nil => cases hl | cons a r => exact ⟨a, r, rfl, Nat.succ.inj hl⟩
theorem ex_Z {us : List Value} (hl : us.length = 0) : us = [] := List.eq_nil_of_length_eq_zero hl
theorem ex_0 {us : List Value} (hl : us.length = 0) : us = [] := List.eq_nil_of_length_eq_zero hl
theorem ex_1 {us : List Value} (hl : us.length = 1) : ∃ a0, us = [a0] := by obtain ⟨a, r, rfl, h⟩ := ex_S hl; obtain rfl := ex_0 h; exact ⟨a, rfl⟩
theorem ex_2 {us : List Value} (hl : us.length = 2) : ∃ a0 a1, us = [a0, a1] := by obtain ⟨a, r, rfl, h⟩ := ex_S hl; obtain ⟨_, rfl⟩ := ex_1 h; exact ⟨a, _, rfl⟩
theorem ex_3 {us : List Value} (hl : us.length = 3) : ∃ a0 a1 a2, us = [a0, a1, a2] := by obtain ⟨a, r, rfl, h⟩ := ex_S hl; obtain ⟨_, _, rfl⟩ := ex_2 h; exact ⟨a, _, _, rfl⟩
theorem ex_4 {us : List Value} (hl : us.length = 4) : ∃ a0 a1 a2 a3, us = [a0, a1, a2, a3] := by obtain ⟨a, r, rfl, h⟩ := ex_S hl; obtain ⟨_, _, _, rfl⟩ := ex_3 h; exact ⟨a, _, _, _, rfl⟩
theorem ex_5 {us : List Value} (hl : us.length = 5) : ∃ a0 a1 a2 a3 a4, us = [a0, a1, a2, a3, a4] := by obtain ⟨a, r, rfl, h⟩ := ex_S hl; obtain ⟨_, _, _, _, rfl⟩ := ex_4 h; exact ⟨a, _, _, _, _, rfl⟩
theorem ex_6 {us : List Value} (hl : us.length = 6) : ∃ a0 a1 a2 a3 a4 a5, us = [a0, a1, a2, a3, a4, a5] := by obtain ⟨a, r, rfl, h⟩ := ex_S hl; obtain ⟨_, _, _, _, _, rfl⟩ := ex_5 h; exact ⟨a, _, _, _, _, _, rfl⟩
set_option maxHeartbeats 0 in
theorem all_mk {l : PySem.W.OpenLaw} {w : World} {K : PySem.W.Frag} {h : Heap} {mg : Str → Option Value} {fa f_law_mixed f_law_number f_law_door f_law_net f_law_weights f_law_part f_law_gains f_law_behind f_law_tally f_law_bag f_law_is_nought f_law_weigh f_is_name f_refuse_bad_names f_refuse_bad_bags f_Net_init f_law_made f_refuse_unlike f_less f_gain f_gains f_is_multiple f_weighed f_unmoved f_tells_apart f_law_refused f_law C_Net C_HallError C_Unlike C_BadAsk C_BadNet C_BadPaper C_BadText C_NoGo C_TooWide : Addr} (X : K.In h) (G : h.Ns mainGlobals mg) (hfa : mg "law" = some (.ref fa))
    {od_law_mixed an_law_mixed : Option Addr} {sl_law_mixed : Array (Option Value)} {oc_law_mixed kV_law_mixed dc_law_mixed pm_law_mixed cd_law_mixed ct_law_mixed : Value}
    {od_law_number an_law_number : Option Addr} {sl_law_number : Array (Option Value)} {oc_law_number kV_law_number dc_law_number pm_law_number cd_law_number ct_law_number : Value}
    {od_law_door an_law_door : Option Addr} {sl_law_door : Array (Option Value)} {oc_law_door kV_law_door dc_law_door pm_law_door cd_law_door ct_law_door : Value}
    {od_law_net an_law_net : Option Addr} {sl_law_net : Array (Option Value)} {oc_law_net kV_law_net dc_law_net pm_law_net cd_law_net ct_law_net : Value}
    {od_law_weights an_law_weights : Option Addr} {sl_law_weights : Array (Option Value)} {oc_law_weights kV_law_weights dc_law_weights pm_law_weights cd_law_weights ct_law_weights : Value}
    {od_law_part an_law_part : Option Addr} {sl_law_part : Array (Option Value)} {oc_law_part kV_law_part dc_law_part pm_law_part cd_law_part ct_law_part : Value}
    {od_law_gains an_law_gains : Option Addr} {sl_law_gains : Array (Option Value)} {oc_law_gains kV_law_gains dc_law_gains pm_law_gains cd_law_gains ct_law_gains : Value}
    {od_law_behind an_law_behind : Option Addr} {sl_law_behind : Array (Option Value)} {oc_law_behind kV_law_behind dc_law_behind pm_law_behind cd_law_behind ct_law_behind : Value}
    {od_law_tally an_law_tally : Option Addr} {sl_law_tally : Array (Option Value)} {oc_law_tally kV_law_tally dc_law_tally pm_law_tally cd_law_tally ct_law_tally : Value}
    {od_law_bag an_law_bag : Option Addr} {sl_law_bag : Array (Option Value)} {oc_law_bag kV_law_bag dc_law_bag pm_law_bag cd_law_bag ct_law_bag : Value}
    {od_law_is_nought an_law_is_nought : Option Addr} {sl_law_is_nought : Array (Option Value)} {oc_law_is_nought kV_law_is_nought dc_law_is_nought pm_law_is_nought cd_law_is_nought ct_law_is_nought : Value}
    {od_law_weigh an_law_weigh : Option Addr} {sl_law_weigh : Array (Option Value)} {oc_law_weigh kV_law_weigh dc_law_weigh pm_law_weigh cd_law_weigh ct_law_weigh : Value}
    {od_is_name an_is_name : Option Addr} {sl_is_name : Array (Option Value)} {oc_is_name kV_is_name dc_is_name pm_is_name cd_is_name ct_is_name : Value}
    {od_refuse_bad_names an_refuse_bad_names : Option Addr} {sl_refuse_bad_names : Array (Option Value)} {oc_refuse_bad_names kV_refuse_bad_names dc_refuse_bad_names pm_refuse_bad_names cd_refuse_bad_names ct_refuse_bad_names : Value}
    {od_refuse_bad_bags an_refuse_bad_bags : Option Addr} {sl_refuse_bad_bags : Array (Option Value)} {oc_refuse_bad_bags kV_refuse_bad_bags dc_refuse_bad_bags pm_refuse_bad_bags cd_refuse_bad_bags ct_refuse_bad_bags : Value}
    {od_Net_init an_Net_init : Option Addr} {sl_Net_init : Array (Option Value)} {oc_Net_init kV_Net_init dc_Net_init pm_Net_init cd_Net_init ct_Net_init : Value}
    {od_law_made an_law_made : Option Addr} {sl_law_made : Array (Option Value)} {oc_law_made kV_law_made dc_law_made pm_law_made cd_law_made ct_law_made : Value}
    {od_refuse_unlike an_refuse_unlike : Option Addr} {sl_refuse_unlike : Array (Option Value)} {oc_refuse_unlike kV_refuse_unlike dc_refuse_unlike pm_refuse_unlike cd_refuse_unlike ct_refuse_unlike : Value}
    {od_less an_less : Option Addr} {sl_less : Array (Option Value)} {oc_less kV_less dc_less pm_less cd_less ct_less : Value}
    {od_gain an_gain : Option Addr} {sl_gain : Array (Option Value)} {oc_gain kV_gain dc_gain pm_gain cd_gain ct_gain : Value}
    {od_gains an_gains : Option Addr} {sl_gains : Array (Option Value)} {oc_gains kV_gains dc_gains pm_gains cd_gains ct_gains : Value}
    {od_is_multiple an_is_multiple : Option Addr} {sl_is_multiple : Array (Option Value)} {oc_is_multiple kV_is_multiple dc_is_multiple pm_is_multiple cd_is_multiple ct_is_multiple : Value}
    {od_weighed an_weighed : Option Addr} {sl_weighed : Array (Option Value)} {oc_weighed kV_weighed dc_weighed pm_weighed cd_weighed ct_weighed : Value}
    {od_unmoved an_unmoved : Option Addr} {sl_unmoved : Array (Option Value)} {oc_unmoved kV_unmoved dc_unmoved pm_unmoved cd_unmoved ct_unmoved : Value}
    {od_tells_apart an_tells_apart : Option Addr} {sl_tells_apart : Array (Option Value)} {oc_tells_apart kV_tells_apart dc_tells_apart pm_tells_apart cd_tells_apart ct_tells_apart : Value}
    {od_law_refused an_law_refused : Option Addr} {sl_law_refused : Array (Option Value)} {oc_law_refused kV_law_refused dc_law_refused pm_law_refused cd_law_refused ct_law_refused : Value}
    {od_law an_law : Option Addr} {sl_law : Array (Option Value)} {oc_law kV_law dc_law pm_law cd_law ct_law : Value}
    {t_MOST_SIGNS : Tok}
    {t_MOST_BEADS : Tok}
    {t_LEAST_BOWLS : Tok}
    {t_MOST_BOWLS : Tok}
    {t_MOST_DOORS : Tok}
    (aC_Net : PySem.W.nsIn K mainGlobals "Net" = some (some (.ref C_Net)))
    (aC_HallError : PySem.W.nsIn K mainGlobals "HallError" = some (some (.ref C_HallError)))
    (aC_Unlike : PySem.W.nsIn K mainGlobals "Unlike" = some (some (.ref C_Unlike)))
    (aC_BadAsk : PySem.W.nsIn K mainGlobals "BadAsk" = some (some (.ref C_BadAsk)))
    (aC_BadNet : PySem.W.nsIn K mainGlobals "BadNet" = some (some (.ref C_BadNet)))
    (aC_BadPaper : PySem.W.nsIn K mainGlobals "BadPaper" = some (some (.ref C_BadPaper)))
    (aC_BadText : PySem.W.nsIn K mainGlobals "BadText" = some (some (.ref C_BadText)))
    (aC_NoGo : PySem.W.nsIn K mainGlobals "NoGo" = some (some (.ref C_NoGo)))
    (aC_TooWide : PySem.W.nsIn K mainGlobals "TooWide" = some (some (.ref C_TooWide)))
    (a_law_mixed : PySem.W.nsIn K mainGlobals "_law_mixed" = some (some (.ref f_law_mixed)))
    (l_law_mixed : K.lookup f_law_mixed = some ⟨oc_law_mixed, od_law_mixed, .func (PySem.W.fnOf "_law_mixed" "_law_mixed" (defArgs s_law_mixed) (defBody s_law_mixed) (defScope s_law_mixed) .none kV_law_mixed dc_law_mixed pm_law_mixed an_law_mixed cd_law_mixed ct_law_mixed), sl_law_mixed⟩)
    (c_law_mixed : PySem.W.codeIn K cd_law_mixed "_law_mixed" = true)
    (k_law_mixed : PySem.W.keepIn K (.ref f_law_mixed) = true)
    (a_law_number : PySem.W.nsIn K mainGlobals "_law_number" = some (some (.ref f_law_number)))
    (l_law_number : K.lookup f_law_number = some ⟨oc_law_number, od_law_number, .func (PySem.W.fnOf "_law_number" "_law_number" (defArgs s_law_number) (defBody s_law_number) (defScope s_law_number) .none kV_law_number dc_law_number pm_law_number an_law_number cd_law_number ct_law_number), sl_law_number⟩)
    (c_law_number : PySem.W.codeIn K cd_law_number "_law_number" = true)
    (k_law_number : PySem.W.keepIn K (.ref f_law_number) = true)
    (a_law_door : PySem.W.nsIn K mainGlobals "_law_door" = some (some (.ref f_law_door)))
    (l_law_door : K.lookup f_law_door = some ⟨oc_law_door, od_law_door, .func (PySem.W.fnOf "_law_door" "_law_door" (defArgs s_law_door) (defBody s_law_door) (defScope s_law_door) .none kV_law_door dc_law_door pm_law_door an_law_door cd_law_door ct_law_door), sl_law_door⟩)
    (c_law_door : PySem.W.codeIn K cd_law_door "_law_door" = true)
    (k_law_door : PySem.W.keepIn K (.ref f_law_door) = true)
    (a_law_net : PySem.W.nsIn K mainGlobals "_law_net" = some (some (.ref f_law_net)))
    (l_law_net : K.lookup f_law_net = some ⟨oc_law_net, od_law_net, .func (PySem.W.fnOf "_law_net" "_law_net" (defArgs s_law_net) (defBody s_law_net) (defScope s_law_net) .none kV_law_net dc_law_net pm_law_net an_law_net cd_law_net ct_law_net), sl_law_net⟩)
    (c_law_net : PySem.W.codeIn K cd_law_net "_law_net" = true)
    (k_law_net : PySem.W.keepIn K (.ref f_law_net) = true)
    (a_law_weights : PySem.W.nsIn K mainGlobals "_law_weights" = some (some (.ref f_law_weights)))
    (l_law_weights : K.lookup f_law_weights = some ⟨oc_law_weights, od_law_weights, .func (PySem.W.fnOf "_law_weights" "_law_weights" (defArgs s_law_weights) (defBody s_law_weights) (defScope s_law_weights) .none kV_law_weights dc_law_weights pm_law_weights an_law_weights cd_law_weights ct_law_weights), sl_law_weights⟩)
    (c_law_weights : PySem.W.codeIn K cd_law_weights "_law_weights" = true)
    (k_law_weights : PySem.W.keepIn K (.ref f_law_weights) = true)
    (a_law_part : PySem.W.nsIn K mainGlobals "_law_part" = some (some (.ref f_law_part)))
    (l_law_part : K.lookup f_law_part = some ⟨oc_law_part, od_law_part, .func (PySem.W.fnOf "_law_part" "_law_part" (defArgs s_law_part) (defBody s_law_part) (defScope s_law_part) .none kV_law_part dc_law_part pm_law_part an_law_part cd_law_part ct_law_part), sl_law_part⟩)
    (c_law_part : PySem.W.codeIn K cd_law_part "_law_part" = true)
    (k_law_part : PySem.W.keepIn K (.ref f_law_part) = true)
    (a_law_gains : PySem.W.nsIn K mainGlobals "_law_gains" = some (some (.ref f_law_gains)))
    (l_law_gains : K.lookup f_law_gains = some ⟨oc_law_gains, od_law_gains, .func (PySem.W.fnOf "_law_gains" "_law_gains" (defArgs s_law_gains) (defBody s_law_gains) (defScope s_law_gains) .none kV_law_gains dc_law_gains pm_law_gains an_law_gains cd_law_gains ct_law_gains), sl_law_gains⟩)
    (c_law_gains : PySem.W.codeIn K cd_law_gains "_law_gains" = true)
    (k_law_gains : PySem.W.keepIn K (.ref f_law_gains) = true)
    (a_law_behind : PySem.W.nsIn K mainGlobals "_law_behind" = some (some (.ref f_law_behind)))
    (l_law_behind : K.lookup f_law_behind = some ⟨oc_law_behind, od_law_behind, .func (PySem.W.fnOf "_law_behind" "_law_behind" (defArgs s_law_behind) (defBody s_law_behind) (defScope s_law_behind) .none kV_law_behind dc_law_behind pm_law_behind an_law_behind cd_law_behind ct_law_behind), sl_law_behind⟩)
    (c_law_behind : PySem.W.codeIn K cd_law_behind "_law_behind" = true)
    (k_law_behind : PySem.W.keepIn K (.ref f_law_behind) = true)
    (a_law_tally : PySem.W.nsIn K mainGlobals "_law_tally" = some (some (.ref f_law_tally)))
    (l_law_tally : K.lookup f_law_tally = some ⟨oc_law_tally, od_law_tally, .func (PySem.W.fnOf "_law_tally" "_law_tally" (defArgs s_law_tally) (defBody s_law_tally) (defScope s_law_tally) .none kV_law_tally dc_law_tally pm_law_tally an_law_tally cd_law_tally ct_law_tally), sl_law_tally⟩)
    (c_law_tally : PySem.W.codeIn K cd_law_tally "_law_tally" = true)
    (k_law_tally : PySem.W.keepIn K (.ref f_law_tally) = true)
    (a_law_bag : PySem.W.nsIn K mainGlobals "_law_bag" = some (some (.ref f_law_bag)))
    (l_law_bag : K.lookup f_law_bag = some ⟨oc_law_bag, od_law_bag, .func (PySem.W.fnOf "_law_bag" "_law_bag" (defArgs s_law_bag) (defBody s_law_bag) (defScope s_law_bag) .none kV_law_bag dc_law_bag pm_law_bag an_law_bag cd_law_bag ct_law_bag), sl_law_bag⟩)
    (c_law_bag : PySem.W.codeIn K cd_law_bag "_law_bag" = true)
    (k_law_bag : PySem.W.keepIn K (.ref f_law_bag) = true)
    (a_law_is_nought : PySem.W.nsIn K mainGlobals "_law_is_nought" = some (some (.ref f_law_is_nought)))
    (l_law_is_nought : K.lookup f_law_is_nought = some ⟨oc_law_is_nought, od_law_is_nought, .func (PySem.W.fnOf "_law_is_nought" "_law_is_nought" (defArgs s_law_is_nought) (defBody s_law_is_nought) (defScope s_law_is_nought) .none kV_law_is_nought dc_law_is_nought pm_law_is_nought an_law_is_nought cd_law_is_nought ct_law_is_nought), sl_law_is_nought⟩)
    (c_law_is_nought : PySem.W.codeIn K cd_law_is_nought "_law_is_nought" = true)
    (k_law_is_nought : PySem.W.keepIn K (.ref f_law_is_nought) = true)
    (a_law_weigh : PySem.W.nsIn K mainGlobals "_law_weigh" = some (some (.ref f_law_weigh)))
    (l_law_weigh : K.lookup f_law_weigh = some ⟨oc_law_weigh, od_law_weigh, .func (PySem.W.fnOf "_law_weigh" "_law_weigh" (defArgs s_law_weigh) (defBody s_law_weigh) (defScope s_law_weigh) .none kV_law_weigh dc_law_weigh pm_law_weigh an_law_weigh cd_law_weigh ct_law_weigh), sl_law_weigh⟩)
    (c_law_weigh : PySem.W.codeIn K cd_law_weigh "_law_weigh" = true)
    (k_law_weigh : PySem.W.keepIn K (.ref f_law_weigh) = true)
    (a_is_name : PySem.W.nsIn K mainGlobals "is_name" = some (some (.ref f_is_name)))
    (l_is_name : K.lookup f_is_name = some ⟨oc_is_name, od_is_name, .func (PySem.W.fnOf "is_name" "is_name" (defArgs s_is_name) (defBody s_is_name) (defScope s_is_name) .none kV_is_name dc_is_name pm_is_name an_is_name cd_is_name ct_is_name), sl_is_name⟩)
    (c_is_name : PySem.W.codeIn K cd_is_name "is_name" = true)
    (k_is_name : PySem.W.keepIn K (.ref f_is_name) = true)
    (a_refuse_bad_names : PySem.W.nsIn K mainGlobals "refuse_bad_names" = some (some (.ref f_refuse_bad_names)))
    (l_refuse_bad_names : K.lookup f_refuse_bad_names = some ⟨oc_refuse_bad_names, od_refuse_bad_names, .func (PySem.W.fnOf "refuse_bad_names" "refuse_bad_names" (defArgs s_refuse_bad_names) (defBody s_refuse_bad_names) (defScope s_refuse_bad_names) .none kV_refuse_bad_names dc_refuse_bad_names pm_refuse_bad_names an_refuse_bad_names cd_refuse_bad_names ct_refuse_bad_names), sl_refuse_bad_names⟩)
    (c_refuse_bad_names : PySem.W.codeIn K cd_refuse_bad_names "refuse_bad_names" = true)
    (k_refuse_bad_names : PySem.W.keepIn K (.ref f_refuse_bad_names) = true)
    (a_refuse_bad_bags : PySem.W.nsIn K mainGlobals "refuse_bad_bags" = some (some (.ref f_refuse_bad_bags)))
    (l_refuse_bad_bags : K.lookup f_refuse_bad_bags = some ⟨oc_refuse_bad_bags, od_refuse_bad_bags, .func (PySem.W.fnOf "refuse_bad_bags" "refuse_bad_bags" (defArgs s_refuse_bad_bags) (defBody s_refuse_bad_bags) (defScope s_refuse_bad_bags) .none kV_refuse_bad_bags dc_refuse_bad_bags pm_refuse_bad_bags an_refuse_bad_bags cd_refuse_bad_bags ct_refuse_bad_bags), sl_refuse_bad_bags⟩)
    (c_refuse_bad_bags : PySem.W.codeIn K cd_refuse_bad_bags "refuse_bad_bags" = true)
    (k_refuse_bad_bags : PySem.W.keepIn K (.ref f_refuse_bad_bags) = true)
    (a_Net_init : PySem.W.findIn K (.ref C_Net) "__init__" = some (some (.ref f_Net_init)))
    (i_Net_init : PySem.W.isFn K (.ref f_Net_init) = true)
    (l_Net_init : K.lookup f_Net_init = some ⟨oc_Net_init, od_Net_init, .func (PySem.W.fnOf "__init__" "Net.__init__" (defArgs s_Net_init) (defBody s_Net_init) (defScope s_Net_init) .none kV_Net_init dc_Net_init pm_Net_init an_Net_init cd_Net_init ct_Net_init), sl_Net_init⟩)
    (c_Net_init : PySem.W.codeIn K cd_Net_init "Net.__init__" = true)
    (k_Net_init : PySem.W.keepIn K (.ref f_Net_init) = true)
    (a_law_made : PySem.W.nsIn K mainGlobals "_law_made" = some (some (.ref f_law_made)))
    (l_law_made : K.lookup f_law_made = some ⟨oc_law_made, od_law_made, .func (PySem.W.fnOf "_law_made" "_law_made" (defArgs s_law_made) (defBody s_law_made) (defScope s_law_made) .none kV_law_made dc_law_made pm_law_made an_law_made cd_law_made ct_law_made), sl_law_made⟩)
    (c_law_made : PySem.W.codeIn K cd_law_made "_law_made" = true)
    (k_law_made : PySem.W.keepIn K (.ref f_law_made) = true)
    (a_refuse_unlike : PySem.W.nsIn K mainGlobals "refuse_unlike" = some (some (.ref f_refuse_unlike)))
    (l_refuse_unlike : K.lookup f_refuse_unlike = some ⟨oc_refuse_unlike, od_refuse_unlike, .func (PySem.W.fnOf "refuse_unlike" "refuse_unlike" (defArgs s_refuse_unlike) (defBody s_refuse_unlike) (defScope s_refuse_unlike) .none kV_refuse_unlike dc_refuse_unlike pm_refuse_unlike an_refuse_unlike cd_refuse_unlike ct_refuse_unlike), sl_refuse_unlike⟩)
    (c_refuse_unlike : PySem.W.codeIn K cd_refuse_unlike "refuse_unlike" = true)
    (k_refuse_unlike : PySem.W.keepIn K (.ref f_refuse_unlike) = true)
    (a_less : PySem.W.nsIn K mainGlobals "less" = some (some (.ref f_less)))
    (l_less : K.lookup f_less = some ⟨oc_less, od_less, .func (PySem.W.fnOf "less" "less" (defArgs s_less) (defBody s_less) (defScope s_less) .none kV_less dc_less pm_less an_less cd_less ct_less), sl_less⟩)
    (c_less : PySem.W.codeIn K cd_less "less" = true)
    (k_less : PySem.W.keepIn K (.ref f_less) = true)
    (a_gain : PySem.W.nsIn K mainGlobals "gain" = some (some (.ref f_gain)))
    (l_gain : K.lookup f_gain = some ⟨oc_gain, od_gain, .func (PySem.W.fnOf "gain" "gain" (defArgs s_gain) (defBody s_gain) (defScope s_gain) .none kV_gain dc_gain pm_gain an_gain cd_gain ct_gain), sl_gain⟩)
    (c_gain : PySem.W.codeIn K cd_gain "gain" = true)
    (k_gain : PySem.W.keepIn K (.ref f_gain) = true)
    (a_gains : PySem.W.nsIn K mainGlobals "gains" = some (some (.ref f_gains)))
    (l_gains : K.lookup f_gains = some ⟨oc_gains, od_gains, .func (PySem.W.fnOf "gains" "gains" (defArgs s_gains) (defBody s_gains) (defScope s_gains) .none kV_gains dc_gains pm_gains an_gains cd_gains ct_gains), sl_gains⟩)
    (c_gains : PySem.W.codeIn K cd_gains "gains" = true)
    (k_gains : PySem.W.keepIn K (.ref f_gains) = true)
    (a_is_multiple : PySem.W.nsIn K mainGlobals "is_multiple" = some (some (.ref f_is_multiple)))
    (l_is_multiple : K.lookup f_is_multiple = some ⟨oc_is_multiple, od_is_multiple, .func (PySem.W.fnOf "is_multiple" "is_multiple" (defArgs s_is_multiple) (defBody s_is_multiple) (defScope s_is_multiple) .none kV_is_multiple dc_is_multiple pm_is_multiple an_is_multiple cd_is_multiple ct_is_multiple), sl_is_multiple⟩)
    (c_is_multiple : PySem.W.codeIn K cd_is_multiple "is_multiple" = true)
    (k_is_multiple : PySem.W.keepIn K (.ref f_is_multiple) = true)
    (a_weighed : PySem.W.nsIn K mainGlobals "weighed" = some (some (.ref f_weighed)))
    (l_weighed : K.lookup f_weighed = some ⟨oc_weighed, od_weighed, .func (PySem.W.fnOf "weighed" "weighed" (defArgs s_weighed) (defBody s_weighed) (defScope s_weighed) .none kV_weighed dc_weighed pm_weighed an_weighed cd_weighed ct_weighed), sl_weighed⟩)
    (c_weighed : PySem.W.codeIn K cd_weighed "weighed" = true)
    (k_weighed : PySem.W.keepIn K (.ref f_weighed) = true)
    (a_unmoved : PySem.W.nsIn K mainGlobals "unmoved" = some (some (.ref f_unmoved)))
    (l_unmoved : K.lookup f_unmoved = some ⟨oc_unmoved, od_unmoved, .func (PySem.W.fnOf "unmoved" "unmoved" (defArgs s_unmoved) (defBody s_unmoved) (defScope s_unmoved) .none kV_unmoved dc_unmoved pm_unmoved an_unmoved cd_unmoved ct_unmoved), sl_unmoved⟩)
    (c_unmoved : PySem.W.codeIn K cd_unmoved "unmoved" = true)
    (k_unmoved : PySem.W.keepIn K (.ref f_unmoved) = true)
    (a_tells_apart : PySem.W.nsIn K mainGlobals "tells_apart" = some (some (.ref f_tells_apart)))
    (l_tells_apart : K.lookup f_tells_apart = some ⟨oc_tells_apart, od_tells_apart, .func (PySem.W.fnOf "tells_apart" "tells_apart" (defArgs s_tells_apart) (defBody s_tells_apart) (defScope s_tells_apart) .none kV_tells_apart dc_tells_apart pm_tells_apart an_tells_apart cd_tells_apart ct_tells_apart), sl_tells_apart⟩)
    (c_tells_apart : PySem.W.codeIn K cd_tells_apart "tells_apart" = true)
    (k_tells_apart : PySem.W.keepIn K (.ref f_tells_apart) = true)
    (a_law_refused : PySem.W.nsIn K mainGlobals "_law_refused" = some (some (.ref f_law_refused)))
    (l_law_refused : K.lookup f_law_refused = some ⟨oc_law_refused, od_law_refused, .func (PySem.W.fnOf "_law_refused" "_law_refused" (defArgs s_law_refused) (defBody s_law_refused) (defScope s_law_refused) .none kV_law_refused dc_law_refused pm_law_refused an_law_refused cd_law_refused ct_law_refused), sl_law_refused⟩)
    (c_law_refused : PySem.W.codeIn K cd_law_refused "_law_refused" = true)
    (k_law_refused : PySem.W.keepIn K (.ref f_law_refused) = true)
    (a_law : PySem.W.nsIn K mainGlobals "law" = some (some (.ref f_law)))
    (l_law : K.lookup f_law = some ⟨oc_law, od_law, .func (PySem.W.fnOf "law" "law" (defArgs s_law) (defBody s_law) (defScope s_law) .none kV_law dc_law pm_law an_law cd_law ct_law), sl_law⟩)
    (c_law : PySem.W.codeIn K cd_law "law" = true)
    (k_law : PySem.W.keepIn K (.ref f_law) = true)
    (pg_Net : PySem.W.plainGet K C_Net Str.empty = true)
    (hd_Net : PySem.W.hasDictIn K C_Net = true)
    (po_Net : PySem.W.plainOver K C_Net = true)
    (sa_Net : PySem.W.findIn K (.ref C_Net) "__setattr__" = some (some (.builtin "object.__setattr__")))
    (mk_Net : PySem.W.makesIn K C_Net = true)
    (kc_Net : PySem.W.keepIn K (.ref C_Net) = true)
    (n_Net_bowls : PySem.W.findIn K (.ref C_Net) "bowls" = some none)
    (n_Net_doors : PySem.W.findIn K (.ref C_Net) "doors" = some none)
    (n_Net_takes : PySem.W.findIn K (.ref C_Net) "takes" = some none)
    (n_Net_gives : PySem.W.findIn K (.ref C_Net) "gives" = some none)
    (n_Net_first : PySem.W.findIn K (.ref C_Net) "first" = some none)
    (ec_HallError : ecIn K C_HallError excMro = true)
    (xp_HallError : ((PySem.W.clsIn K C_HallError).map (·.ns)).bind (fun N => PySem.W.nsIn K N "__init__") = some none)
    (ec_Unlike : ecIn K C_Unlike (.ref C_HallError :: excMro) = true)
    (xp_Unlike : ((PySem.W.clsIn K C_Unlike).map (·.ns)).bind (fun N => PySem.W.nsIn K N "__init__") = some none)
    (xga_Unlike : PySem.W.findIn K (.ref C_Unlike) "__getattribute__" = some (some (.builtin "BaseException.__getattribute__")))
    (xgh_Unlike : PySem.W.findIn K (.ref C_Unlike) "__getattr__" = some none)
    (xca_Unlike : PySem.W.findIn K (.ref C_Unlike) "__class__" = some (some (.builtin "object.__class__")))
    (xcg_Unlike : PySem.W.specialIn K (.builtin "object.__class__") "__get__" = some (some (.builtin "getset_descriptor.__get__")))
    (xck_Unlike : PySem.W.takesIn K (.builtin "object.__class__") = some true)
    (ec_BadAsk : ecIn K C_BadAsk (.ref C_HallError :: excMro) = true)
    (xsa_BadAsk : PySem.W.findIn K (.ref C_BadAsk) "__setattr__" = some (some (.builtin "object.__setattr__")))
    (xhd_BadAsk : PySem.W.hasDictIn K C_BadAsk = true)
    (ec_BadNet : ecIn K C_BadNet (.ref C_HallError :: excMro) = true)
    (xp_BadNet : ((PySem.W.clsIn K C_BadNet).map (·.ns)).bind (fun N => PySem.W.nsIn K N "__init__") = some none)
    (ec_BadPaper : ecIn K C_BadPaper (.ref C_HallError :: excMro) = true)
    (xsa_BadPaper : PySem.W.findIn K (.ref C_BadPaper) "__setattr__" = some (some (.builtin "object.__setattr__")))
    (xhd_BadPaper : PySem.W.hasDictIn K C_BadPaper = true)
    (ec_BadText : ecIn K C_BadText (.ref C_HallError :: excMro) = true)
    (xsa_BadText : PySem.W.findIn K (.ref C_BadText) "__setattr__" = some (some (.builtin "object.__setattr__")))
    (xhd_BadText : PySem.W.hasDictIn K C_BadText = true)
    (ec_NoGo : ecIn K C_NoGo (.ref C_HallError :: excMro) = true)
    (xsa_NoGo : PySem.W.findIn K (.ref C_NoGo) "__setattr__" = some (some (.builtin "object.__setattr__")))
    (xhd_NoGo : PySem.W.hasDictIn K C_NoGo = true)
    (ec_TooWide : ecIn K C_TooWide (.ref C_HallError :: excMro) = true)
    (xp_TooWide : ((PySem.W.clsIn K C_TooWide).map (·.ns)).bind (fun N => PySem.W.nsIn K N "__init__") = some none)
    (ne_BadAsk_HallError : C_BadAsk ≠ C_HallError)
    (ne_BadAsk_Unlike : C_BadAsk ≠ C_Unlike)
    (ne_BadNet_HallError : C_BadNet ≠ C_HallError)
    (ne_BadNet_Unlike : C_BadNet ≠ C_Unlike)
    (ne_BadPaper_HallError : C_BadPaper ≠ C_HallError)
    (ne_BadPaper_Unlike : C_BadPaper ≠ C_Unlike)
    (ne_BadText_HallError : C_BadText ≠ C_HallError)
    (ne_BadText_Unlike : C_BadText ≠ C_Unlike)
    (ne_NoGo_HallError : C_NoGo ≠ C_HallError)
    (ne_NoGo_Unlike : C_NoGo ≠ C_Unlike)
    (ne_TooWide_HallError : C_TooWide ≠ C_HallError)
    (ne_TooWide_Unlike : C_TooWide ≠ C_Unlike)
    (g_MOST_SIGNS : PySem.W.nsIn K mainGlobals "MOST_SIGNS" = some (some (.int 8 t_MOST_SIGNS)))
    (g_MOST_BEADS : PySem.W.nsIn K mainGlobals "MOST_BEADS" = some (some (.int 1000000000 t_MOST_BEADS)))
    (g_LEAST_BOWLS : PySem.W.nsIn K mainGlobals "LEAST_BOWLS" = some (some (.int 1 t_LEAST_BOWLS)))
    (g_MOST_BOWLS : PySem.W.nsIn K mainGlobals "MOST_BOWLS" = some (some (.int 6 t_MOST_BOWLS)))
    (g_MOST_DOORS : PySem.W.nsIn K mainGlobals "MOST_DOORS" = some (some (.int 8 t_MOST_DOORS)))
    (z_len : PySem.W.nsIn K mainGlobals "len" = some none)
    (z_range : PySem.W.nsIn K mainGlobals "range" = some none)
    (z_min : PySem.W.nsIn K mainGlobals "min" = some none)
    (z_int : PySem.W.nsIn K mainGlobals "int" = some none)
    (z_list : PySem.W.nsIn K mainGlobals "list" = some none)
    (z_sum : PySem.W.nsIn K mainGlobals "sum" = some none)
    (z_all : PySem.W.nsIn K mainGlobals "all" = some none)
    (z_set : PySem.W.nsIn K mainGlobals "set" = some none)
    (z_zip : PySem.W.nsIn K mainGlobals "zip" = some none)
    (z_isinstance : PySem.W.nsIn K mainGlobals "isinstance" = some none)
    (z_ValueError : PySem.W.nsIn K mainGlobals "ValueError" = some none)
    (z_bool : PySem.W.nsIn K mainGlobals "bool" = some none)
    : ∃ fd : FuncData, (∀ (s : Shared) (v : Value), BindsTo s fd ⟨[v], []⟩ [("script", v)]) ∧ ∀ base : Heap, K.In base → base.Ns mainGlobals mg → FnOk l.prog w K mg base CX0 10 fa fd ["script"] (sp_law K) := by
  have e := hfa.symm.trans (PySem.W.mg_of X G a_law)
  cases e
  have F_law_mixed := fun_mk (st := s_law_mixed) l_law_mixed c_law_mixed k_law_mixed
  have b_law_mixed := F_law_mixed.binds (ps := ["script", "k"]) fun _ _ _ _ _ _ us hl => by obtain ⟨_, _, rfl⟩ := ex_2 hl; rfl
  have F_law_number := fun_mk (st := s_law_number) l_law_number c_law_number k_law_number
  have b_law_number := F_law_number.binds (ps := ["script", "k", "kind"]) fun _ _ _ _ _ _ us hl => by obtain ⟨_, _, _, rfl⟩ := ex_3 hl; rfl
  have F_law_door := fun_mk (st := s_law_door) l_law_door c_law_door k_law_door
  have b_law_door := F_law_door.binds (ps := ["script", "d", "size", "kind", "ahead"]) fun _ _ _ _ _ _ us hl => by obtain ⟨_, _, _, _, _, rfl⟩ := ex_5 hl; rfl
  have F_law_net := fun_mk (st := s_law_net) l_law_net c_law_net k_law_net
  have b_law_net := F_law_net.binds (ps := ["script"]) fun _ _ _ _ _ _ us hl => by obtain ⟨_, rfl⟩ := ex_1 hl; rfl
  have F_law_weights := fun_mk (st := s_law_weights) l_law_weights c_law_weights k_law_weights
  have b_law_weights := F_law_weights.binds (ps := ["script", "size"]) fun _ _ _ _ _ _ us hl => by obtain ⟨_, _, rfl⟩ := ex_2 hl; rfl
  have F_law_part := fun_mk (st := s_law_part) l_law_part c_law_part k_law_part
  have b_law_part := F_law_part.binds (ps := ["script"]) fun _ _ _ _ _ _ us hl => by obtain ⟨_, rfl⟩ := ex_1 hl; rfl
  have F_law_gains := fun_mk (st := s_law_gains) l_law_gains c_law_gains k_law_gains
  have b_law_gains := F_law_gains.binds (ps := ["parts"]) fun _ _ _ _ _ _ us hl => by obtain ⟨_, rfl⟩ := ex_1 hl; rfl
  have F_law_behind := fun_mk (st := s_law_behind) l_law_behind c_law_behind k_law_behind
  have b_law_behind := F_law_behind.binds (ps := ["parts", "tally"]) fun _ _ _ _ _ _ us hl => by obtain ⟨_, _, rfl⟩ := ex_2 hl; rfl
  have F_law_tally := fun_mk (st := s_law_tally) l_law_tally c_law_tally k_law_tally
  have b_law_tally := F_law_tally.binds (ps := ["script", "many"]) fun _ _ _ _ _ _ us hl => by obtain ⟨_, _, rfl⟩ := ex_2 hl; rfl
  have F_law_bag := fun_mk (st := s_law_bag) l_law_bag c_law_bag k_law_bag
  have b_law_bag := F_law_bag.binds (ps := ["script", "parts"]) fun _ _ _ _ _ _ us hl => by obtain ⟨_, _, rfl⟩ := ex_2 hl; rfl
  have F_law_is_nought := fun_mk (st := s_law_is_nought) l_law_is_nought c_law_is_nought k_law_is_nought
  have b_law_is_nought := F_law_is_nought.binds (ps := ["number", "part"]) fun _ _ _ _ _ _ us hl => by obtain ⟨_, _, rfl⟩ := ex_2 hl; rfl
  have F_law_weigh := fun_mk (st := s_law_weigh) l_law_weigh c_law_weigh k_law_weigh
  have b_law_weigh := F_law_weigh.binds (ps := ["weights", "ones"]) fun _ _ _ _ _ _ us hl => by obtain ⟨_, _, rfl⟩ := ex_2 hl; rfl
  have F_is_name := fun_mk (st := s_is_name) l_is_name c_is_name k_is_name
  have b_is_name := F_is_name.binds (ps := ["word"]) fun _ _ _ _ _ _ us hl => by obtain ⟨_, rfl⟩ := ex_1 hl; rfl
  have F_refuse_bad_names := fun_mk (st := s_refuse_bad_names) l_refuse_bad_names c_refuse_bad_names k_refuse_bad_names
  have b_refuse_bad_names := F_refuse_bad_names.binds (ps := ["names", "least", "most"]) fun _ _ _ _ _ _ us hl => by obtain ⟨_, _, _, rfl⟩ := ex_3 hl; rfl
  have F_refuse_bad_bags := fun_mk (st := s_refuse_bad_bags) l_refuse_bad_bags c_refuse_bad_bags k_refuse_bad_bags
  have b_refuse_bad_bags := F_refuse_bad_bags.binds (ps := ["bags", "many", "width"]) fun _ _ _ _ _ _ us hl => by obtain ⟨_, _, _, rfl⟩ := ex_3 hl; rfl
  have F_Net_init := fun_mk (st := s_Net_init) l_Net_init c_Net_init k_Net_init
  have b_Net_init := F_Net_init.binds (ps := ["self", "bowls", "doors", "takes", "gives", "first"]) fun _ _ _ _ _ _ us hl => by obtain ⟨_, _, _, _, _, _, rfl⟩ := ex_6 hl; rfl
  have F_law_made := fun_mk (st := s_law_made) l_law_made c_law_made k_law_made
  have b_law_made := F_law_made.binds (ps := ["parts"]) fun _ _ _ _ _ _ us hl => by obtain ⟨_, rfl⟩ := ex_1 hl; rfl
  have F_refuse_unlike := fun_mk (st := s_refuse_unlike) l_refuse_unlike c_refuse_unlike k_refuse_unlike
  have b_refuse_unlike := F_refuse_unlike.binds (ps := ["ones", "others"]) fun _ _ _ _ _ _ us hl => by obtain ⟨_, _, rfl⟩ := ex_2 hl; rfl
  have F_less := fun_mk (st := s_less) l_less c_less k_less
  have b_less := F_less.binds (ps := ["ones", "others"]) fun _ _ _ _ _ _ us hl => by obtain ⟨_, _, rfl⟩ := ex_2 hl; rfl
  have F_gain := fun_mk (st := s_gain) l_gain c_gain k_gain
  have b_gain := F_gain.binds (ps := ["net", "door"]) fun _ _ _ _ _ _ us hl => by obtain ⟨_, _, rfl⟩ := ex_2 hl; rfl
  have F_gains := fun_mk (st := s_gains) l_gains c_gains k_gains
  have b_gains := F_gains.binds (ps := ["net"]) fun _ _ _ _ _ _ us hl => by obtain ⟨_, rfl⟩ := ex_1 hl; rfl
  have F_is_multiple := fun_mk (st := s_is_multiple) l_is_multiple c_is_multiple k_is_multiple
  have b_is_multiple := F_is_multiple.binds (ps := ["number", "part"]) fun _ _ _ _ _ _ us hl => by obtain ⟨_, _, rfl⟩ := ex_2 hl; rfl
  have F_weighed := fun_mk (st := s_weighed) l_weighed c_weighed k_weighed
  have b_weighed := F_weighed.binds (ps := ["weights", "ones"]) fun _ _ _ _ _ _ us hl => by obtain ⟨_, _, rfl⟩ := ex_2 hl; rfl
  have F_unmoved := fun_mk (st := s_unmoved) l_unmoved c_unmoved k_unmoved
  have b_unmoved := F_unmoved.binds (ps := ["net", "weights", "part"]) fun _ _ _ _ _ _ us hl => by obtain ⟨_, _, _, rfl⟩ := ex_3 hl; rfl
  have F_tells_apart := fun_mk (st := s_tells_apart) l_tells_apart c_tells_apart k_tells_apart
  have b_tells_apart := F_tells_apart.binds (ps := ["net", "weights", "part", "bag"]) fun _ _ _ _ _ _ us hl => by obtain ⟨_, _, _, _, rfl⟩ := ex_4 hl; rfl
  have F_law_refused := fun_mk (st := s_law_refused) l_law_refused c_law_refused k_law_refused
  have b_law_refused := F_law_refused.binds (ps := ["net", "weights", "part", "bag"]) fun _ _ _ _ _ _ us hl => by obtain ⟨_, _, _, _, rfl⟩ := ex_4 hl; rfl
  have F_law := fun_mk (st := s_law) l_law c_law k_law
  have b_law := F_law.binds (ps := ["script"]) fun _ _ _ _ _ _ us hl => by obtain ⟨_, rfl⟩ := ex_1 hl; rfl
  have T : Txt K mg (Adr.mk _ _ _ _ _ _ _ _ _ _ _ _ _ _ _ _ _ _ _ _ _ _ _ _ _ _ _ _ _ _ _ _ _ _ _ _) (Fds.mk _ _ _ _ _ _ _ _ _ _ _ _ _ _ _ _ _ _ _ _ _ _ _ _ _ _ _) := ⟨F_law_mixed, PySem.W.mg_of X G a_law_mixed, b_law_mixed, F_law_number, PySem.W.mg_of X G a_law_number, b_law_number, F_law_door, PySem.W.mg_of X G a_law_door, b_law_door, F_law_net, PySem.W.mg_of X G a_law_net, b_law_net, F_law_weights, PySem.W.mg_of X G a_law_weights, b_law_weights, F_law_part, PySem.W.mg_of X G a_law_part, b_law_part, F_law_gains, PySem.W.mg_of X G a_law_gains, b_law_gains, F_law_behind, PySem.W.mg_of X G a_law_behind, b_law_behind, F_law_tally, PySem.W.mg_of X G a_law_tally, b_law_tally, F_law_bag, PySem.W.mg_of X G a_law_bag, b_law_bag, F_law_is_nought, PySem.W.mg_of X G a_law_is_nought, b_law_is_nought, F_law_weigh, PySem.W.mg_of X G a_law_weigh, b_law_weigh, F_is_name, PySem.W.mg_of X G a_is_name, b_is_name, F_refuse_bad_names, PySem.W.mg_of X G a_refuse_bad_names, b_refuse_bad_names, F_refuse_bad_bags, PySem.W.mg_of X G a_refuse_bad_bags, b_refuse_bad_bags, F_Net_init, b_Net_init, F_law_made, PySem.W.mg_of X G a_law_made, b_law_made, F_refuse_unlike, PySem.W.mg_of X G a_refuse_unlike, b_refuse_unlike, F_less, PySem.W.mg_of X G a_less, b_less, F_gain, PySem.W.mg_of X G a_gain, b_gain, F_gains, PySem.W.mg_of X G a_gains, b_gains, F_is_multiple, PySem.W.mg_of X G a_is_multiple, b_is_multiple, F_weighed, PySem.W.mg_of X G a_weighed, b_weighed, F_unmoved, PySem.W.mg_of X G a_unmoved, b_unmoved, F_tells_apart, PySem.W.mg_of X G a_tells_apart, b_tells_apart, F_law_refused, PySem.W.mg_of X G a_law_refused, b_law_refused, F_law, PySem.W.mg_of X G a_law, b_law, PySem.W.mg_none_of X G z_len, PySem.W.mg_none_of X G z_range, PySem.W.mg_none_of X G z_min, PySem.W.mg_none_of X G z_int, PySem.W.mg_none_of X G z_list, PySem.W.mg_none_of X G z_sum, PySem.W.mg_none_of X G z_all, PySem.W.mg_none_of X G z_set, PySem.W.mg_none_of X G z_zip, PySem.W.mg_none_of X G z_isinstance, PySem.W.mg_none_of X G z_ValueError, PySem.W.mg_none_of X G z_bool, ⟨pg_Net, hd_Net, po_Net, sa_Net⟩, PySem.W.mg_of X G aC_Net, ⟨mk_Net, a_Net_init, i_Net_init, kc_Net⟩, n_Net_bowls, n_Net_doors, n_Net_takes, n_Net_gives, n_Net_first, PySem.W.mg_of X G aC_HallError, ec_HallError, ⟨ec_HallError, xp_HallError⟩, PySem.W.mg_of X G aC_Unlike, ec_Unlike, ⟨ec_cls ec_Unlike, xga_Unlike, xgh_Unlike, (ec_mro ec_Unlike _).trans rfl, (ec_mro ec_Unlike _).trans rfl, xca_Unlike, xcg_Unlike, xck_Unlike⟩, ⟨ec_Unlike, xp_Unlike⟩, PySem.W.mg_of X G aC_BadAsk, ec_BadAsk, ⟨xsa_BadAsk, xhd_BadAsk⟩, PySem.W.mg_of X G aC_BadNet, ec_BadNet, ⟨ec_BadNet, xp_BadNet⟩, PySem.W.mg_of X G aC_BadPaper, ec_BadPaper, ⟨xsa_BadPaper, xhd_BadPaper⟩, PySem.W.mg_of X G aC_BadText, ec_BadText, ⟨xsa_BadText, xhd_BadText⟩, PySem.W.mg_of X G aC_NoGo, ec_NoGo, ⟨xsa_NoGo, xhd_NoGo⟩, PySem.W.mg_of X G aC_TooWide, ec_TooWide, ⟨ec_TooWide, xp_TooWide⟩, ne_BadAsk_HallError, ne_BadAsk_Unlike, ne_BadNet_HallError, ne_BadNet_Unlike, ne_BadPaper_HallError, ne_BadPaper_Unlike, ne_BadText_HallError, ne_BadText_Unlike, ne_NoGo_HallError, ne_NoGo_Unlike, ne_TooWide_HallError, ne_TooWide_Unlike, ⟨_, PySem.W.mg_of X G g_MOST_SIGNS⟩, ⟨_, PySem.W.mg_of X G g_MOST_BEADS⟩, ⟨_, PySem.W.mg_of X G g_LEAST_BOWLS⟩, ⟨_, PySem.W.mg_of X G g_MOST_BOWLS⟩, ⟨_, PySem.W.mg_of X G g_MOST_DOORS⟩⟩
  exact ⟨PySem.W.fnOf "law" "law" (defArgs s_law) (defBody s_law) (defScope s_law) .none kV_law dc_law pm_law an_law cd_law ct_law, fun s v => .of_eq rfl, fun base _ _ => ok_law T⟩
theorem walk {l : PySem.W.OpenLaw} {q : Program} {loose : List Str} {XP : (Str → Option Value) → Heap → Prop} {YP : World → Heap → Prop} {d : DefRec} {K : Params → PySem.W.Frag} (hn : l.most = some 63) (hdf : d.params.defaults = [])
    (hY : ∀ (w : World) (h : Heap), YP w h → (K w.params).In h)
    (F : ∀ (w : World) (mg : Str → Option Value) (fa : Addr) (h : Heap), (K w.params).In h → h.Ns mainGlobals mg → mg d.name = some (.ref fa) →
      ∃ fd : FuncData, (∀ (s : Shared) (u : Value), BindsTo s fd ⟨[u], []⟩ [("script", u)]) ∧ ∀ base : Heap, (K w.params).In base → base.Ns mainGlobals mg → FnOk l.prog w (K w.params) mg base CX0 10 fa fd ["script"] (sp_law (K w.params))) :
    PySem.W.WalkO q loose XP YP l.row.toRowW d [] (fun f vs => PySem.call f vs) :=
  L2.walk_of (n := 63) (k := 10) (x := "script") (CX := fun _ => CX0) (sp := fun w => sp_law (K w.params)) hn (by decide) hdf ⟨rfl, by decide, by decide⟩ hY F (fun _ _ a ns hl _ hS => ⟨a, ns, rfl, hS, hl, fun _ => rfl⟩) fun _ _ _ _ _ z => z
end Law
open PySem PySem.W PyProof.Rows
set_option maxRecDepth 100000 in
set_option maxHeartbeats 0 in
theorem PySem.Challenge.cw_beadhall_k38_told_apart_holds : PySem.Challenge.rw_beadhall_k38_told_apart.Holds := by
  w_on; o_law; k_head; (case hw => w_witness2)
  k_fill
  refine Law.walk (l := PySem.Challenge.rw_beadhall_k38_told_apart) rfl rfl (fun w h Y => PySem.W.kIn_of Y) ?F
  case F =>
    intro w mg fa h KX G hmg
    refine' Law.all_mk KX G hmg ?aC_Net ?aC_HallError ?aC_Unlike ?aC_BadAsk ?aC_BadNet ?aC_BadPaper ?aC_BadText ?aC_NoGo ?aC_TooWide ?a_law_mixed ?l_law_mixed ?c_law_mixed ?k_law_mixed ?a_law_number ?l_law_number ?c_law_number ?k_law_number ?a_law_door ?l_law_door ?c_law_door ?k_law_door ?a_law_net ?l_law_net ?c_law_net ?k_law_net ?a_law_weights ?l_law_weights ?c_law_weights ?k_law_weights ?a_law_part ?l_law_part ?c_law_part ?k_law_part ?a_law_gains ?l_law_gains ?c_law_gains ?k_law_gains ?a_law_behind ?l_law_behind ?c_law_behind ?k_law_behind ?a_law_tally ?l_law_tally ?c_law_tally ?k_law_tally ?a_law_bag ?l_law_bag ?c_law_bag ?k_law_bag ?a_law_is_nought ?l_law_is_nought ?c_law_is_nought ?k_law_is_nought ?a_law_weigh ?l_law_weigh ?c_law_weigh ?k_law_weigh ?a_is_name ?l_is_name ?c_is_name ?k_is_name ?a_refuse_bad_names ?l_refuse_bad_names ?c_refuse_bad_names ?k_refuse_bad_names ?a_refuse_bad_bags ?l_refuse_bad_bags ?c_refuse_bad_bags ?k_refuse_bad_bags ?a_Net_init ?i_Net_init ?l_Net_init ?c_Net_init ?k_Net_init ?a_law_made ?l_law_made ?c_law_made ?k_law_made ?a_refuse_unlike ?l_refuse_unlike ?c_refuse_unlike ?k_refuse_unlike ?a_less ?l_less ?c_less ?k_less ?a_gain ?l_gain ?c_gain ?k_gain ?a_gains ?l_gains ?c_gains ?k_gains ?a_is_multiple ?l_is_multiple ?c_is_multiple ?k_is_multiple ?a_weighed ?l_weighed ?c_weighed ?k_weighed ?a_unmoved ?l_unmoved ?c_unmoved ?k_unmoved ?a_tells_apart ?l_tells_apart ?c_tells_apart ?k_tells_apart ?a_law_refused ?l_law_refused ?c_law_refused ?k_law_refused ?a_law ?l_law ?c_law ?k_law ?pg_Net ?hd_Net ?po_Net ?sa_Net ?mk_Net ?kc_Net ?n_Net_bowls ?n_Net_doors ?n_Net_takes ?n_Net_gives ?n_Net_first ?ec_HallError ?xp_HallError ?ec_Unlike ?xp_Unlike ?xga_Unlike ?xgh_Unlike ?xca_Unlike ?xcg_Unlike ?xck_Unlike ?ec_BadAsk ?xsa_BadAsk ?xhd_BadAsk ?ec_BadNet ?xp_BadNet ?ec_BadPaper ?xsa_BadPaper ?xhd_BadPaper ?ec_BadText ?xsa_BadText ?xhd_BadText ?ec_NoGo ?xsa_NoGo ?xhd_NoGo ?ec_TooWide ?xp_TooWide ?ne_BadAsk_HallError ?ne_BadAsk_Unlike ?ne_BadNet_HallError ?ne_BadNet_Unlike ?ne_BadPaper_HallError ?ne_BadPaper_Unlike ?ne_BadText_HallError ?ne_BadText_Unlike ?ne_NoGo_HallError ?ne_NoGo_Unlike ?ne_TooWide_HallError ?ne_TooWide_Unlike ?g_MOST_SIGNS ?g_MOST_BEADS ?g_LEAST_BOWLS ?g_MOST_BOWLS ?g_MOST_DOORS ?z_len ?z_range ?z_min ?z_int ?z_list ?z_sum ?z_all ?z_set ?z_zip ?z_isinstance ?z_ValueError ?z_bool
    (case aC_Net => k_is)
    (case aC_HallError => k_is)
    (case aC_Unlike => k_is)
    (case aC_BadAsk => k_is)
    (case aC_BadNet => k_is)
    (case aC_BadPaper => k_is)
    (case aC_BadText => k_is)
    (case aC_NoGo => k_is)
    (case aC_TooWide => k_is)
    (case a_law_mixed => k_is)
    (case l_law_mixed => k_is)
    (case c_law_mixed => k_is)
    (case k_law_mixed => k_is)
    (case a_law_number => k_is)
    (case l_law_number => k_is)
    (case c_law_number => k_is)
    (case k_law_number => k_is)
    (case a_law_door => k_is)
    (case l_law_door => k_is)
    (case c_law_door => k_is)
    (case k_law_door => k_is)
    (case a_law_net => k_is)
    (case l_law_net => k_is)
    (case c_law_net => k_is)
    (case k_law_net => k_is)
    (case a_law_weights => k_is)
    (case l_law_weights => k_is)
    (case c_law_weights => k_is)
    (case k_law_weights => k_is)
    (case a_law_part => k_is)
    (case l_law_part => k_is)
    (case c_law_part => k_is)
    (case k_law_part => k_is)
    (case a_law_gains => k_is)
    (case l_law_gains => k_is)
    (case c_law_gains => k_is)
    (case k_law_gains => k_is)
    (case a_law_behind => k_is)
    (case l_law_behind => k_is)
    (case c_law_behind => k_is)
    (case k_law_behind => k_is)
    (case a_law_tally => k_is)
    (case l_law_tally => k_is)
    (case c_law_tally => k_is)
    (case k_law_tally => k_is)
    (case a_law_bag => k_is)
    (case l_law_bag => k_is)
    (case c_law_bag => k_is)
    (case k_law_bag => k_is)
    (case a_law_is_nought => k_is)
    (case l_law_is_nought => k_is)
    (case c_law_is_nought => k_is)
    (case k_law_is_nought => k_is)
    (case a_law_weigh => k_is)
    (case l_law_weigh => k_is)
    (case c_law_weigh => k_is)
    (case k_law_weigh => k_is)
    (case a_is_name => k_is)
    (case l_is_name => k_is)
    (case c_is_name => k_is)
    (case k_is_name => k_is)
    (case a_refuse_bad_names => k_is)
    (case l_refuse_bad_names => k_is)
    (case c_refuse_bad_names => k_is)
    (case k_refuse_bad_names => k_is)
    (case a_refuse_bad_bags => k_is)
    (case l_refuse_bad_bags => k_is)
    (case c_refuse_bad_bags => k_is)
    (case k_refuse_bad_bags => k_is)
    (case a_Net_init => k_is)
    (case i_Net_init => k_is)
    (case l_Net_init => k_is)
    (case c_Net_init => k_is)
    (case k_Net_init => k_is)
    (case a_law_made => k_is)
    (case l_law_made => k_is)
    (case c_law_made => k_is)
    (case k_law_made => k_is)
    (case a_refuse_unlike => k_is)
    (case l_refuse_unlike => k_is)
    (case c_refuse_unlike => k_is)
    (case k_refuse_unlike => k_is)
    (case a_less => k_is)
    (case l_less => k_is)
    (case c_less => k_is)
    (case k_less => k_is)
    (case a_gain => k_is)
    (case l_gain => k_is)
    (case c_gain => k_is)
    (case k_gain => k_is)
    (case a_gains => k_is)
    (case l_gains => k_is)
    (case c_gains => k_is)
    (case k_gains => k_is)
    (case a_is_multiple => k_is)
    (case l_is_multiple => k_is)
    (case c_is_multiple => k_is)
    (case k_is_multiple => k_is)
    (case a_weighed => k_is)
    (case l_weighed => k_is)
    (case c_weighed => k_is)
    (case k_weighed => k_is)
    (case a_unmoved => k_is)
    (case l_unmoved => k_is)
    (case c_unmoved => k_is)
    (case k_unmoved => k_is)
    (case a_tells_apart => k_is)
    (case l_tells_apart => k_is)
    (case c_tells_apart => k_is)
    (case k_tells_apart => k_is)
    (case a_law_refused => k_is)
    (case l_law_refused => k_is)
    (case c_law_refused => k_is)
    (case k_law_refused => k_is)
    (case a_law => k_is)
    (case l_law => k_is)
    (case c_law => k_is)
    (case k_law => k_is)
    (case pg_Net => k_is)
    (case hd_Net => k_is)
    (case po_Net => k_is)
    (case sa_Net => k_is)
    (case mk_Net => k_is)
    (case kc_Net => k_is)
    (case n_Net_bowls => k_is)
    (case n_Net_doors => k_is)
    (case n_Net_takes => k_is)
    (case n_Net_gives => k_is)
    (case n_Net_first => k_is)
    (case ec_HallError => kernel_rfl)
    (case xp_HallError => kernel_rfl)
    (case ec_Unlike => kernel_rfl)
    (case xp_Unlike => kernel_rfl)
    (case xga_Unlike => k_is)
    (case xgh_Unlike => k_is)
    (case xca_Unlike => k_is)
    (case xcg_Unlike => k_is)
    (case xck_Unlike => k_is)
    (case ec_BadAsk => kernel_rfl)
    (case xsa_BadAsk => k_is)
    (case xhd_BadAsk => k_is)
    (case ec_BadNet => kernel_rfl)
    (case xp_BadNet => kernel_rfl)
    (case ec_BadPaper => kernel_rfl)
    (case xsa_BadPaper => k_is)
    (case xhd_BadPaper => k_is)
    (case ec_BadText => kernel_rfl)
    (case xsa_BadText => k_is)
    (case xhd_BadText => k_is)
    (case ec_NoGo => kernel_rfl)
    (case xsa_NoGo => k_is)
    (case xhd_NoGo => k_is)
    (case ec_TooWide => kernel_rfl)
    (case xp_TooWide => kernel_rfl)
    (case ne_BadAsk_HallError => decide)
    (case ne_BadAsk_Unlike => decide)
    (case ne_BadNet_HallError => decide)
    (case ne_BadNet_Unlike => decide)
    (case ne_BadPaper_HallError => decide)
    (case ne_BadPaper_Unlike => decide)
    (case ne_BadText_HallError => decide)
    (case ne_BadText_Unlike => decide)
    (case ne_NoGo_HallError => decide)
    (case ne_NoGo_Unlike => decide)
    (case ne_TooWide_HallError => decide)
    (case ne_TooWide_Unlike => decide)
    (case g_MOST_SIGNS => k_is)
    (case g_MOST_BEADS => k_is)
    (case g_LEAST_BOWLS => k_is)
    (case g_MOST_BOWLS => k_is)
    (case g_MOST_DOORS => k_is)
    (case z_len => k_is)
    (case z_range => k_is)
    (case z_min => k_is)
    (case z_int => k_is)
    (case z_list => k_is)
    (case z_sum => k_is)
    (case z_all => k_is)
    (case z_set => k_is)
    (case z_zip => k_is)
    (case z_isinstance => k_is)
    (case z_ValueError => k_is)
    (case z_bool => k_is)
