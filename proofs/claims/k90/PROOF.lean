import PyProof.Rows.All
import Wide.All
import OpenK.AllK
import Wide.FinOn
import Lean
import PyProof.EqAt
import PyProof.EqKinds
import PyProof.TupleCall
import PySem.Challenge.RW_beadhall_k90_rooms
set_option Elab.async false
set_option linter.all false
set_option maxRecDepth 100000
namespace L2
open PySem PySem.Spec PyProof.Rows

/-- a key: an int or a str -/
abbrev Key := Sum Int Str
def keyIs : Key → Value → Bool
  | .inl k, v => Value.isInt k v
  | .inr x, v => Value.isStrOf x v
def keyH (w : World) : Key → Int
  | .inl k => hashInt k
  | .inr x => hashStr w x
theorem keyIs_shape : ∀ {k : Key} {v : Value}, keyIs k v = true → (∃ i t, k = Sum.inl i ∧ v = Value.int i t) ∨ (∃ x t, k = Sum.inr x ∧ v = Value.str x t)
  | .inl i, v, h => by
    obtain ⟨t, e⟩ := Value.isInt_shape (k := i) (v := v) h
    exact .inl ⟨i, t, rfl, e⟩
  | .inr x, v, h => by
    obtain ⟨t, e⟩ := Value.isStrOf_shape (x := x) (v := v) h
    exact .inr ⟨x, t, rfl, e⟩
theorem keyIs_str (x : Str) (t : Tok) : keyIs (.inr x) (.str x t) = true := by simp [keyIs, Value.isStrOf]
theorem key_ll (a b : Int) : decide ((Sum.inl a : Key) = Sum.inl b) = (a == b) := by
  by_cases e : a = b
  · subst e; simp
  · have h : ¬ (Sum.inl a : Key) = Sum.inl b := fun q => e (Sum.inl.inj q)
    rw [decide_eq_false h]
    exact (beq_eq_false_iff_ne.mpr e).symm
theorem key_rr (a b : Str) : decide ((Sum.inr a : Key) = Sum.inr b) = decide (a = b) := by
  by_cases e : a = b
  · subst e; simp
  · have h : ¬ (Sum.inr a : Key) = Sum.inr b := fun q => e (Sum.inr.inj q)
    rw [decide_eq_false h, decide_eq_false e]
theorem key_lr (a : Int) (b : Str) : decide ((Sum.inl a : Key) = Sum.inr b) = false := decide_eq_false (fun q => nomatch q)
theorem key_rl (a : Str) (b : Int) : decide ((Sum.inr a : Key) = Sum.inl b) = false := decide_eq_false (fun q => nomatch q)

def mixKind (prog : Program) (w : World) : PySem.KeyKind prog w Key where
  is := keyIs
  hash := keyH w
  inj := fun v a b ha hb => by
    rcases keyIs_shape ha with ⟨i, t, rfl, rfl⟩ | ⟨x, t, rfl, rfl⟩
    · rcases keyIs_shape hb with ⟨j, u, rfl, e⟩ | ⟨y, u, rfl, e⟩
      · injection e with e1 _; rw [e1]
      · exact nomatch e
    · rcases keyIs_shape hb with ⟨j, u, rfl, e⟩ | ⟨y, u, rfl, e⟩
      · exact nomatch e
      · injection e with e1 _; rw [e1]
  byValue := fun k v h => by
    rcases keyIs_shape h with ⟨i, t, rfl, rfl⟩ | ⟨x, t, rfl, rfl⟩ <;> rfl
  pyHash := fun hv h => by
    rcases keyIs_shape hv with ⟨i, t, rfl, rfl⟩ | ⟨x, t, rfl, rfl⟩
    · exact wpAny_pyHash_int h
    · exact wpAny_pyHash_str h
  eqBool := fun hu hv h => by
    rcases keyIs_shape hu with ⟨i, t, rfl, rfl⟩ | ⟨x, t, rfl, rfl⟩
    · rcases keyIs_shape hv with ⟨j, u, rfl, rfl⟩ | ⟨y, u, rfl, rfl⟩
      · rw [key_ll] at h; exact wpAny_eqBool_int h
      · rw [key_lr] at h; exact SeqAt.EqAt.int_str i t y u _ _ _ _ h
    · rcases keyIs_shape hv with ⟨j, u, rfl, rfl⟩ | ⟨y, u, rfl, rfl⟩
      · rw [key_rl] at h; exact SeqAt.EqAt.str_int x t j u _ _ _ _ h
      · rw [key_rr] at h; exact wpAny_eqBool_str h
  «strs» := fun k x t v h => by
    rcases keyIs_shape h with ⟨i, u, rfl, e⟩ | ⟨y, u, rfl, e⟩
    · exact nomatch e
    · injection e with e1 _
      subst e1
      cases v <;> rfl

end L2

namespace L2
open PySem PySem.Spec PyProof.Rows

/-- a value, without the heap -/
inductive V where
  | non | bl (b : Bool) | int (i : Int) | str (x : Str) | byt (b : Array UInt8) | flt (b : UInt64) | ref (a : Addr) | ty (n : String)
  deriving DecidableEq

def RelV : V → Value → Prop
  | .non, u => u = Value.none
  | .bl b, u => u = Value.bool b
  | .int i, u => ∃ t, u = Value.int i t
  | .str x, u => ∃ t, u = Value.str x t
  | .byt b, u => ∃ t, u = Value.bytes b t
  | .flt b, u => ∃ t, u = Value.float b t
  | .ref a, u => u = Value.ref a
  | .ty n, u => u = Value.type n

abbrev Vals : List V → List Value → Prop := Paired RelV
theorem Vals.length {xs : List V} {us : List Value} (r : Vals xs us) : xs.length = us.length := Paired.length r
theorem Vals.get : ∀ {xs : List V} {us : List Value} {i : Nat} {x : V}, Vals xs us → xs[i]? = some x → ∃ u, us[i]? = some u ∧ RelV x u
  | _, _, _, _, .nil, e => by simp at e
  | _, _, 0, _, .cons r _, e => by simp at e; subst e; exact ⟨_, rfl, r⟩
  | _, _, i + 1, x, .cons _ t, e => by
    obtain ⟨u, h1, h2⟩ := Vals.get (i := i) (x := x) t (by simpa using e)
    exact ⟨u, by simpa using h1, h2⟩
theorem Vals.append : ∀ {xs ys : List V} {us ws : List Value}, Vals xs us → Vals ys ws → Vals (xs ++ ys) (us ++ ws)
  | _, _, _, _, .nil, s => s
  | _, _, _, _, .cons r t, s => .cons r (Vals.append t s)
theorem Vals.take : ∀ {xs : List V} {us : List Value} (n : Nat), Vals xs us → Vals (xs.take n) (us.take n)
  | _, _, 0, _ => .nil
  | _, _, _ + 1, .nil => .nil
  | _, _, n + 1, .cons r t => .cons r (Vals.take n t)
theorem Vals.drop : ∀ {xs : List V} {us : List Value} (n : Nat), Vals xs us → Vals (xs.drop n) (us.drop n)
  | _, _, 0, r => r
  | _, _, _ + 1, .nil => .nil
  | _, _, n + 1, .cons _ t => Vals.drop n t
def RelO : Option V → Option Value → Prop
  | some v, some u => RelV v u
  | none, none => True
  | _, _ => False
def KV {κ : Type} : List (κ × V) → List (κ × Value) → Prop := Paired fun (p : κ × V) (q : κ × Value) => p.1 = q.1 ∧ RelV p.2 q.2

/-- a key of a dict (00_mix): an int or a text -/
def kV : Key → V
  | .inl i => .int i
  | .inr x => .str x

/-- what stands at a tracked address -/
inductive HO where
  /-- a list -/
  | lst (xs : List V)
  /-- a tuple (never changes) -/
  | tup (xs : List V)
  /-- a dict whose keys are ints and texts; one whose keys are tuples of ints and texts (the empty one is both) -/
  | dK (kvs : List (Key × V)) | dT (kvs : List (List Key × V))
  /-- a set of ints: its members, its size -/
  | set (S : Int → Bool) (n : Nat)
  /-- an instance of the class at C, its dict at dx, its attributes -/
  | ins (C dx : Addr) (fs : List (Str × V))
  /-- the dict of the instance at x -/
  | own (x : Addr)
  /-- the dict of an exception -/
  | xd (fs : List (Str × V))
  /-- a bound method, f of x -/
  | met (f x : Addr)
  /-- a range object lo, lo + 1, .. below hi -/
  | rng (lo hi : Int)
  /-- a thing that is known to the object (the script; a dict while a loop walks it): read, never written while it is so -/
  | frz (o : Obj) (u : HO)
  /-- a code object's table -/
  | tbl (ps : Array Value)
  /-- any other thing, by what is true of its one object (a def of one's own: SetO a S n := HO.ext fun h => ..) -/
  | ext (φ : Heap → Prop)

abbrev Hp := Addr → Option HO
def upd (H : Hp) (a : Addr) (o : HO) : Hp := fun b => if b = a then some o else H b
theorem upd_same {H : Hp} {a : Addr} {o : HO} : upd H a o a = some o := by unfold upd; rw [if_pos rfl]
theorem upd_ne {H : Hp} {a b : Addr} {o : HO} (h : b ≠ a) : upd H a o b = H b := by unfold upd; rw [if_neg h]
/-- two objects of different content stand apart -/
theorem ne_of {H : Hp} {a b : Addr} {o u : HO} (h : H a = some o) (h' : H b = some u) (d : o ≠ u) : a ≠ b := by
  intro e; subst e; rw [h] at h'; exact d (Option.some.inj h')
theorem ne_of_none {H : Hp} {a b : Addr} {o : HO} (h : H a = some o) (h' : H b = none) : a ≠ b := by
  intro e; subst e; rw [h] at h'; cases h'

section
variable (P : Program) (w : World)
def ObjOk (H : Hp) (h : Heap) (a : Addr) : HO → Prop
  | .lst xs => xs.length ≤ sizeLine ∧ ∃ (its : List Value) (n : Nat), Vals xs its ∧ h.get? a = some { cls := .type "list", data := .seq its.toArray n }
  | .tup xs => xs.length ≤ sizeLine ∧ ∃ its : List Value, Vals xs its ∧ IsTup h a its.toArray
  | .dK kvs => kvs.length ≤ sizeLine ∧ (a == sysModules) = false ∧ ∃ vs, KV kvs vs ∧ h.DictOf (mixKind P w) a vs
  | .dT kvs => kvs.length ≤ sizeLine ∧ (a == sysModules) = false ∧ ∃ xs : List (List Key × Addr × Value),
      Paired (fun (p : List Key × V) (q : List Key × Addr × Value) => p.1 = q.1 ∧ H q.2.1 = some (.tup (p.1.map kV)) ∧ RelV p.2 q.2.2) kvs xs ∧
      ∃ o es ep, h.get? a = some o ∧ o.ExactDict ∧ o.data = .dict es ep ∧ es.toList = xs.map (entryOfKey (tupleKind (mixKind P w))) ∧ (xs.map (·.1)).Nodup
  | .set S n => h.SetOf (intKind P w) a S n
  | .ins C dx fs => H dx = some (.own a) ∧ fs.length ≤ 1000 ∧ dx ≠ a ∧ h.get? a = some (PySem.W.instObj C dx) ∧
      ∃ mA, h.Ns1 dx mA ∧ (∀ f, RelO (fs.lookup f) (mA f)) ∧ PySem.Within mA (fs.map (·.1))
  | .own _ => ∃ o, h.get? a = some o
  | .xd fs => ∃ mA, h.Ns1 a mA ∧ ∀ f, RelO (fs.lookup f) (mA f)
  | .rng lo hi => ∃ t u v, h.get? a = some { cls := .type "range", data := .fields #[.int lo t, .int hi u, .int 1 v] }
  | .frz o u => h.get? a = some o ∧ ObjOk H h a u
  | .tbl ps => h.get? a = some { cls := .none, data := .fields ps }
  | .met f x => h.get? a = some (PySem.W.methodObj (.ref f) (.ref x))
  | .ext φ => φ h ∧ (∃ o, h.get? a = some o) ∧ ∀ h1 h2 : Heap, φ h1 → (∀ o, h1.get? a = some o → h2.get? a = some o) → φ h2
/-- the abstract heap is held -/
def HOk (H : Hp) (h : Heap) : Prop := ∀ a o, H a = some o → ObjOk P w H h a o
end

section
variable {P : Program} {w : World} {H H' : Hp} {h h' : Heap} {a : Addr} {o : HO}
theorem ObjOk.lt (x : ObjOk P w H h a o) : a < h.objs.size := by
  cases o with
  | lst xs => obtain ⟨_, _, _, _, e⟩ := x; exact Heap.lt_size e
  | tup xs => obtain ⟨_, _, _, p⟩ := x; exact p.lt
  | dK kvs => obtain ⟨_, _, _, _, o, _, _, e, _⟩ := x; exact Heap.lt_size e
  | dT kvs => obtain ⟨_, _, _, _, o, _, _, e, _⟩ := x; exact Heap.lt_size e
  | set S n => obtain ⟨o, _, _, _, e, _⟩ := x; exact Heap.lt_size e
  | ins C dx fs => obtain ⟨_, _, _, e, _⟩ := x; exact Heap.lt_size e
  | own y => obtain ⟨_, e⟩ := x; exact Heap.lt_size e
  | xd fs => obtain ⟨_, ⟨_, _, _, e, _⟩, _⟩ := x; exact Heap.lt_size e
  | rng lo hi => obtain ⟨_, _, _, e⟩ := x; exact Heap.lt_size e
  | frz ob u => obtain ⟨e, _⟩ := x; exact Heap.lt_size e
  | tbl ps => exact Heap.lt_size (show h.get? a = some _ from x)
  | met f y => exact Heap.lt_size (show h.get? a = some _ from x)
  | ext φ => obtain ⟨_, ⟨_, e⟩, _⟩ := x; exact Heap.lt_size e
theorem Paired.mapP {α β : Type} {F G : α → β → Prop} : ∀ {l₁ : List α} {l₂ : List β}, Paired F l₁ l₂ → (∀ a b, F a b → G a b) → Paired G l₁ l₂
  | _, _, .nil, _ => .nil
  | _, _, .cons r t, f => .cons (f _ _ r) (Paired.mapP t f)
/-- what an object's description leans on: its own object, its own dict, the tuples -/
theorem ObjOk.stay (x : ObjOk P w H h a o) (k : ∀ b u, (b = a ∨ H b = some (.own a)) → h.get? b = some u → h'.get? b = some u)
    (ho : ∀ b, H b = some (.own a) → H' b = some (.own a)) (ht : ∀ b xs, H b = some (.tup xs) → H' b = some (.tup xs)) : ObjOk P w H' h' a o := by
  induction o with
  | lst xs => obtain ⟨z, its, n, r, e⟩ := x; exact ⟨z, its, n, r, k _ _ (.inl rfl) e⟩
  | tup xs => obtain ⟨z, its, r, ob, e, c⟩ := x; exact ⟨z, its, r, ob, k _ _ (.inl rfl) e, c⟩
  | dK kvs => obtain ⟨z, y, vs, r, ob, es, ep, e, c⟩ := x; exact ⟨z, y, vs, r, ob, es, ep, k _ _ (.inl rfl) e, c⟩
  | dT kvs =>
    obtain ⟨z, y, xs, r, ob, es, ep, e, c⟩ := x
    exact ⟨z, y, xs, Paired.mapP r fun p q z => ⟨z.1, ht _ _ z.2.1, z.2.2⟩, ob, es, ep, k _ _ (.inl rfl) e, c⟩
  | set S n => obtain ⟨ob, es, ep, t, e, c⟩ := x; exact ⟨ob, es, ep, t, k _ _ (.inl rfl) e, c⟩
  | ins C dx fs =>
    obtain ⟨d, z, ne, e, mA, ⟨od, es, ep, e2, c⟩, r⟩ := x
    exact ⟨ho _ d, z, ne, k _ _ (.inl rfl) e, mA, ⟨od, es, ep, k _ _ (.inr d) e2, c⟩, r⟩
  | own y => obtain ⟨ob, e⟩ := x; exact ⟨ob, k _ _ (.inl rfl) e⟩
  | xd fs => obtain ⟨mA, ⟨od, es, ep, e, c⟩, r⟩ := x; exact ⟨mA, ⟨od, es, ep, k _ _ (.inl rfl) e, c⟩, r⟩
  | rng lo hi => obtain ⟨t, u, v, e⟩ := x; exact ⟨t, u, v, k _ _ (.inl rfl) e⟩
  | frz ob u ih => obtain ⟨e, q⟩ := x; exact ⟨k _ _ (.inl rfl) e, ih q⟩
  | tbl ps =>
    have e : h.get? a = some { cls := .none, data := .fields ps } := x
    show h'.get? a = some { cls := .none, data := .fields ps }
    exact k a _ (.inl rfl) e
  | met f y =>
    have e : h.get? a = some (PySem.W.methodObj (.ref f) (.ref y)) := x
    show h'.get? a = some (PySem.W.methodObj (.ref f) (.ref y))
    exact k a _ (.inl rfl) e
  | ext φ => obtain ⟨p, ⟨o, e⟩, st⟩ := x; exact ⟨st _ _ p fun o q => k _ _ (.inl rfl) q, ⟨o, k _ _ (.inl rfl) e⟩, st⟩
theorem HOk.lt (x : HOk P w H h) (e : H a = some o) : a < h.objs.size := (x a o e).lt
theorem HOk.fresh (x : HOk P w H h) (e : h.objs.size ≤ a) : H a = none := by
  cases q : H a with
  | none => rfl
  | some u => exact absurd (Nat.lt_of_lt_of_le (x.lt q) e) (Nat.lt_irrefl _)
/-- every object of the heap is kept -/
theorem HOk.kept (x : HOk P w H h) (k : ∀ b u, h.get? b = some u → h'.get? b = some u) : HOk P w H h' := fun a o e =>
  (x a o e).stay (fun b u _ q => k b u q) (fun _ q => q) fun _ _ q => q
/-- a new object is laid and tracked -/
theorem HOk.laid (x : HOk P w H h) (k : ∀ b u, h.get? b = some u → h'.get? b = some u) (hp : h.objs.size ≤ a) (new : ObjOk P w (upd H a o) h' a o) : HOk P w (upd H a o) h' := fun b u e => by
  have hn := x.fresh hp
  by_cases hb : b = a
  · subst hb; rw [upd_same] at e; cases e; exact new
  · rw [upd_ne hb] at e
    exact (x b u e).stay (fun c v _ q => k c v q) (fun c q => by rw [upd_ne (ne_of_none q hn)]; exact q) fun c xs q => by rw [upd_ne (ne_of_none q hn)]; exact q
end

/-- what may be read as u: it is u, or a known u -/
def Rd (H : Hp) (a : Addr) (u : HO) : Prop := H a = some u ∨ ∃ o, H a = some (.frz o u)
theorem Rd.ok {P : Program} {w : World} {H : Hp} {h : Heap} {a : Addr} {u : HO} (r : Rd H a u) (x : HOk P w H h) : ObjOk P w H h a u := by
  rcases r with r | ⟨o, r⟩
  · exact x a u r
  · obtain ⟨_, q⟩ := x a _ r
    exact q
/-- what may be written -/
def Mut : Option HO → Prop
  | some (.lst _) => True
  | some (.dK _) => True
  | some (.dT _) => True
  | some (.set _ _) => True
  | some (.ins _ _ _) => True
  | some (.ext _) => True
  | _ => False
section
variable {P : Program} {w : World} {H : Hp} {h h' : Heap} {x e : Addr} {o' : HO}
/-- the object at e is changed: x itself, or the dict of the instance x -/
theorem HOk.write (ok : HOk P w H h) (mu : Mut (H x)) (he : e = x ∨ H e = some (.own x)) (k : ∀ b u, b ≠ e → h.get? b = some u → h'.get? b = some u) (heo : ∃ u, h'.get? e = some u)
    (new : ObjOk P w (upd H x o') h' x o') : HOk P w (upd H x o') h' := fun b u q => by
  have nown : ∀ c y, H c = some (.own y) → c ≠ x := fun c y r z => by subst z; rw [r] at mu; exact mu
  have ntup : ∀ c xs, H c = some (.tup xs) → c ≠ x := fun c xs r z => by subst z; rw [r] at mu; exact mu
  by_cases hb : b = x
  · subst hb; rw [upd_same] at q; cases q; exact new
  · rw [upd_ne hb] at q
    by_cases hbe : b = e
    · have q' : H b = some (.own x) := by
        rcases he with z | z
        · exact absurd (hbe.trans z) hb
        · rw [hbe]; exact z
      rw [q] at q'; cases q'
      obtain ⟨v, hv⟩ := heo
      exact ⟨v, by rw [hbe]; exact hv⟩
    · refine (ok b u q).stay (fun c v hc r => k c v ?_ r) (fun c r => by rw [upd_ne (nown c b r)]; exact r) fun c xs r => by rw [upd_ne (ntup c xs r)]; exact r
      rcases hc with rfl | hc
      · exact hbe
      · rintro rfl
        rcases he with z | z
        · exact nown c b hc z
        · rw [hc] at z; cases z; exact hb rfl
end

structure Un (fs ex : List Addr) (H H' : Hp) (h h' : Heap) : Prop where
  keep : ∀ b o, h.get? b = some o → H b = none → b ∉ fs → b ∉ ex → h'.get? b = some o
  slot : ∀ b o, h.get? b = some o → H b = none → b ∈ fs → b ∉ ex → ∃ sl, h'.get? b = some { o with slots := sl }
  free : ∀ b o, h.get? b = some o → H b = none → b ∉ ex → H' b = none
  there : ∀ b o, h.get? b = some o → b ∉ ex → ∃ o', h'.get? b = some o'
  tups : ∀ b xs, H b = some (.tup xs) → H' b = some (.tup xs)
  frzs : ∀ b o u, H b = some (.frz o u) → H' b = some (.frz o u)
  tbls : ∀ b ps, H b = some (.tbl ps) → ∃ more, H' b = some (.tbl (ps ++ more))
section
variable {fs fs' ex ex' : List Addr} {H H1 H2 : Hp} {h h1 h2 h' : Heap} {a x e : Addr} {o : HO}
theorem Un.any (u : Un fs ex H H1 h h1) {b : Addr} {ob : Obj} (q : h.get? b = some ob) (n : H b = none) (hx : b ∉ ex) : ∃ sl, h1.get? b = some { ob with slots := sl } := by
  by_cases hb : b ∈ fs
  · exact u.slot b ob q n hb hx
  · exact ⟨ob.slots, u.keep b ob q n hb hx⟩
theorem Un.kept (k : ∀ b u, h.get? b = some u → h'.get? b = some u) : Un fs ex H H h h' :=
  ⟨fun b ob q _ _ _ => k b ob q, fun b ob q _ _ _ => ⟨ob.slots, k b ob q⟩, fun _ _ _ n _ => n, fun b ob q _ => ⟨ob, k b ob q⟩, fun _ _ q => q, fun _ _ _ q => q, fun _ ps q => ⟨#[], by rw [q]; simp⟩⟩
theorem Un.refl : Un fs ex H H h h := Un.kept fun _ _ q => q
theorem Un.laid (k : ∀ b u, h.get? b = some u → h'.get? b = some u) (hp : h.objs.size ≤ a) (hn : H a = none) : Un fs ex H (upd H a o) h h' where
  keep := fun b u q _ _ _ => k b u q
  slot := fun b u q _ _ _ => ⟨u.slots, k b u q⟩
  free := fun b u q n _ => by rw [upd_ne (Nat.ne_of_lt (Nat.lt_of_lt_of_le (Heap.lt_size q) hp))]; exact n
  there := fun b u q _ => ⟨u, k b u q⟩
  tups := fun b xs q => by rw [upd_ne (ne_of_none q hn)]; exact q
  frzs := fun b u xs q => by rw [upd_ne (ne_of_none q hn)]; exact q
  tbls := fun b ps q => ⟨#[], by rw [upd_ne (ne_of_none q hn), q]; simp⟩
theorem Un.write (mu : Mut (H x)) (he : e = x ∨ H e = some (.own x)) (k : ∀ b u, b ≠ e → h.get? b = some u → h'.get? b = some u) (heo : ∃ u, h'.get? e = some u) : Un fs ex H (upd H x o) h h' := by
  have hx : ∀ b, H b = none → b ≠ x := fun b n z => by subst z; rw [n] at mu; exact mu
  have hb : ∀ b, H b = none → b ≠ e := fun b n z => by
    subst z
    rcases he with r | r
    · exact hx b n r
    · rw [n] at r; cases r
  have hm : ∀ b u, H b = some u → ¬ Mut (some u) → b ≠ x := fun b u q nm z => by subst z; rw [q] at mu; exact nm mu
  refine ⟨fun b u q n _ _ => k b u (hb b n) q, fun b u q n _ _ => ⟨u.slots, k b u (hb b n) q⟩, fun b u q n _ => by rw [upd_ne (hx b n)]; exact n, fun b u q _ => ?_,
    fun b xs q => by rw [upd_ne (hm b _ q fun z => z)]; exact q, fun b u xs q => by rw [upd_ne (hm b _ q fun z => z)]; exact q, fun b ps q => ⟨#[], by rw [upd_ne (hm b _ q fun z => z), q]; simp⟩⟩
  by_cases hbe : b = e
  · subst hbe; exact heo
  · exact ⟨u, k b u hbe q⟩
end

def trk (h : Heap) (H : Hp) : List Addr := (List.range h.objs.size).filter fun a => (H a).isSome
def hidT (h : Heap) (H : Hp) : Heap := PySem.W.hideAll h (trk h H)
theorem hidT_size (h : Heap) (H : Hp) : (hidT h H).objs.size = h.objs.size := PySem.W.hideAll_size _ _
theorem hidT_get {h : Heap} {H : Hp} {b : Addr} {o : Obj} (e : h.get? b = some o) (n : H b = none) : (hidT h H).get? b = some o :=
  PySem.W.hideAll_get _ e fun hm => by
    have q : (H b).isSome = true := (List.mem_filter.mp hm).2
    rw [n] at q; simp at q
theorem of_hidT {h : Heap} {H : Hp} {b : Addr} {o : Obj} (e : (hidT h H).get? b = some o) : h.get? b = some o ∧ H b = none := by
  have e' : h.get? b = some o := PySem.W.of_hideAll (trk h H) e
  refine ⟨e', ?_⟩
  cases q : H b with
  | none => rfl
  | some x =>
    have hm : b ∈ trk h H := List.mem_filter.mpr ⟨List.mem_range.mpr (Heap.lt_size e'), by simp [q]⟩
    have z : (hidT h H).get? b = none := PySem.W.hideAll_none (trk h H) hm
    rw [z] at e; cases e

end L2

namespace L2
open PySem PySem.Spec PyProof.Rows

/-- the module's facts, over the base: the heap at the law's entry without what is tracked there -/
structure Mod (K : PySem.W.Frag) (mg : Str → Option Value) (base : Heap) : Prop where
  kin : K.In base
  glob : base.Ns mainGlobals mg
  blt : ∃ mb, base.Ns builtinsNs mb ∧ ∀ x : Str, x ≠ "__name__" → mb x = bootBuiltins x
  nolimit : base.NoLimit

set_option genInjectivity false in
set_option genSizeOf false in
/-- the context: a def's body (or a comprehension's block) running. base: fixed through the whole law; s₀, H₀: the entry; outer: the frames whose slots others may change (a def's callers); stack: all frames that run;
   ex: iterators that were made ahead of the entry and are walked here (a comprehension's); fn: the names whose cells were made at the entry (a def: all; a comprehension's block: its own); calm: not within an except suite; pn: pins that every state bears; xe: what is wanted of an exception that leaves the code -/
structure Cx where
  prog : Program
  w : World
  K : PySem.W.Frag
  mg : Str → Option Value
  base : Heap
  A : Around
  N : List Str
  s₀ : Shared
  H₀ : Hp
  env : Env
  outer : List Env
  stack : List Env
  ex : List Addr
  fn : Str → Bool
  calm : Bool
  pn : List (Addr × Obj)
  xe : Value → Shared → Prop
/-- the callers' frames -/
def frs (l : List Env) : List Addr := l.filterMap (·.frame)
abbrev Cx.fs (X : Cx) : List Addr := frs X.outer

def Vis (sc : Scope) (x : Str) : Prop := sc.names.lookup x = some .local ∨ sc.names.lookup x = some .cell ∨ sc.names.lookup x = some .free
def Loc (sc : Scope) (x : Str) : Prop := sc.names.lookup x = some .local ∨ sc.names.lookup x = some .cell
def Look (env : Env) (h : Heap) (m : Str → Option Value) (x : Str) (u : Value) : Prop :=
  (env.kindOf x = some .local ∧ m x = some u) ∨ ((env.kindOf x = some .cell ∨ env.kindOf x = some .free) ∧ ∃ c, env.cells.lookup x = some c ∧ h.IsCell c (some u))

structure Cx.Ok (X : Cx) : Prop where
  mod : Mod X.K X.mg X.base
  kind : X.env.scope.kind = .function
  glob : X.env.globals = mainGlobals
  blt : X.env.builtins = builtinsNs
  above : X.s₀.heap.objs.size ≤ X.env.locals
  inj : ∀ x y c, X.env.cells.lookup x = some c → X.env.cells.lookup y = some c → x = y
  has : ∀ x, (X.env.kindOf x = some .cell ∨ X.env.kindOf x = some .free) → ∃ c, X.env.cells.lookup x = some c
  cab : ∀ x c, X.fn x = true → X.env.cells.lookup x = some c → X.s₀.heap.objs.size ≤ c
  hd : X.calm = true → X.A.handled = none
  frames : X.A.frames = some X.stack
  stk : X.stack = X.outer ∨ (X.stack = X.env :: X.outer ∧ X.env.frame = some X.env.locals)
  exf : ∀ b ∈ X.ex, b ≠ X.env.locals ∧ ∀ x c, X.env.cells.lookup x = some c → c ≠ b
  bs : ∀ b o, X.base.get? b = some o → X.s₀.heap.get? b = some o ∧ X.H₀ b = none
  bsz : X.base.objs.size ≤ X.s₀.heap.objs.size
  noex : ∀ b o, X.base.get? b = some o → b ∉ X.ex
  exfs : ∀ b ∈ X.ex, b ∉ X.fs
  funs : X.s₀.heap.FunFrames X.base X.outer
  frf : ∀ b ∈ X.fs, X.H₀ b = none

structure Inv (X : Cx) (pins : List (Addr × Obj)) (σ : List (Option V)) (H : Hp) (s : Shared) : Prop where
  ok : X.Ok
  os : s.os = X.s₀.os
  bare : AllBare s.gens
  base : Un X.fs X.ex X.H₀ H X.s₀.heap s.heap
  loc : ∃ m, s.heap.Ns X.env.locals m ∧ ∀ (i : Nat) (x : Str) (v : V), X.N[i]? = some x → σ[i]? = some (some v) → Vis X.env.scope x → ∃ u, RelV v u ∧ Look X.env s.heap m x u
  cell : ∀ x c, X.env.cells.lookup x = some c → ∃ v, s.heap.IsCell c v
  free : H X.env.locals = none
  freeC : ∀ x c, X.env.cells.lookup x = some c → H c = none
  pin : ∀ p ∈ X.pn ++ pins, s.heap.get? p.1 = some p.2 ∧ H p.1 = none ∧ p.1 ≠ X.env.locals ∧ p.1 ∉ X.fs ∧ ∀ v, p.2.data ≠ .cell v
  hok : HOk X.prog X.w H s.heap
  len : σ.length = X.N.length

section
variable {X : Cx} {pins : List (Addr × Obj)} {σ : List (Option V)} {H H' : Hp} {s : Shared} {h' : Heap}

theorem Cx.Ok.nofr (ok : X.Ok) {b : Addr} {o : Obj} (e : X.base.get? b = some o) : b ∉ X.fs := fun hb => by
  have := (ok.funs.mem hb).1
  rw [e] at this; cases this
theorem Inv.bs (I : Inv X pins σ H s) : ∀ b o, X.base.get? b = some o → s.heap.get? b = some o ∧ H b = none := fun b o e =>
  ⟨I.base.keep b o (I.ok.bs b o e).1 (I.ok.bs b o e).2 (I.ok.nofr e) (I.ok.noex b o e), I.base.free b o (I.ok.bs b o e).1 (I.ok.bs b o e).2 (I.ok.noex b o e)⟩
theorem Inv.bk (I : Inv X pins σ H s) : ∀ b o, X.base.get? b = some o → s.heap.get? b = some o := fun b o e => (I.bs b o e).1
theorem Inv.mod (I : Inv X pins σ H s) : Mod X.K X.mg X.base := I.ok.mod
theorem Inv.kIn (I : Inv X pins σ H s) : X.K.In s.heap := I.ok.mod.kin.keeps I.bk
theorem Inv.lt (I : Inv X pins σ H s) : X.env.locals < s.heap.objs.size := let ⟨_, hn, _⟩ := I.loc; hn.lt
theorem Inv.sz (I : Inv X pins σ H s) : X.s₀.heap.objs.size ≤ s.heap.objs.size := Nat.le_trans I.ok.above (Nat.le_of_lt I.lt)
theorem Inv.nofs (I : Inv X pins σ H s) {a : Addr} (h : s.heap.objs.size ≤ a) : a ∉ X.fs := fun hb => by
  obtain ⟨_, o, ho, _⟩ := I.ok.funs.mem hb
  exact absurd (Nat.lt_of_lt_of_le (Heap.lt_size ho) (Nat.le_trans I.sz h)) (Nat.lt_irrefl _)
theorem Inv.cne (I : Inv X pins σ H s) : ∀ x c, X.env.cells.lookup x = some c → c ≠ X.env.locals := fun x c e z => by
  obtain ⟨v, o, ho, hd⟩ := I.cell x c e
  obtain ⟨m, ⟨o', es, ep, ho', hd', _⟩, _⟩ := I.loc
  rw [z, ho'] at ho; cases ho; rw [hd'] at hd; cases hd
theorem Inv.funs (I : Inv X pins σ H s) : s.heap.FunFrames X.base X.outer := by
  have all : ∀ (l : List Env), (∀ b ∈ frs l, b ∈ X.fs) → X.s₀.heap.FunFrames X.base l → s.heap.FunFrames X.base l := by
    intro l
    induction l with
    | nil => intro _ _; trivial
    | cons env r ih =>
      intro hs hl
      obtain ⟨hk, ⟨L, o, hf, hn, ho, hd⟩, hr⟩ := hl
      have hL : L ∈ X.fs := hs L (by unfold frs; rw [List.filterMap_cons, hf]; exact List.mem_cons_self)
      obtain ⟨sl, e⟩ := I.base.slot L o ho (I.ok.frf L hL) hL fun z => I.ok.exfs L z hL
      exact ⟨hk, ⟨L, _, hf, hn, e, hd⟩, ih (fun b hb => hs b (by unfold frs; rw [List.filterMap_cons, hf]; exact List.mem_cons_of_mem _ hb)) hr⟩
  exact all X.outer (fun _ hb => hb) I.ok.funs

/-- the frames that run, for a call -/
theorem Inv.stack (I : Inv X pins σ H s) : s.heap.FunFrames X.base X.stack := by
  rcases I.ok.stk with e | ⟨e, hf⟩
  · rw [e]; exact I.funs
  · rw [e]
    obtain ⟨m, hn, _⟩ := I.loc
    refine .cons (by rw [I.ok.kind]; decide) hf hn ?_ I.funs
    exact Heap.get?_none_of_le (Nat.le_trans I.ok.bsz I.ok.above)
theorem Inv.stkSub (I : Inv X pins σ H s) : ∀ b ∈ frs X.stack, b ∈ X.env.locals :: X.fs := fun b hb => by
  rcases I.ok.stk with e | ⟨e, hf⟩
  · rw [e] at hb; exact List.mem_cons_of_mem _ hb
  · rw [e] at hb
    unfold frs at hb
    rw [List.filterMap_cons, hf] at hb
    exact hb
theorem Inv.stkFree (I : Inv X pins σ H s) : ∀ b ∈ frs X.stack, H b = none := fun b hb => by
  rcases List.mem_cons.mp (I.stkSub b hb) with e | hb
  · rw [e]; exact I.free
  · obtain ⟨_, o, ho, _⟩ := I.ok.funs.mem hb
    exact I.base.free b o ho (I.ok.frf b hb) fun z => I.ok.exfs b z hb

/-- THE STEP: the untracked objects but the frame and the records at ch are kept (the callers' frames up to slots), the frame's map is kept, the new abstract heap is held -/
theorem Inv.step {g' : Array GenState} {t' : Nat} {d' : Drawn} {ch : List Addr} (I : Inv X pins σ H s)
    (hch : ∀ b ∈ ch, (b ∈ X.ex ∨ X.s₀.heap.objs.size ≤ b) ∧ b ≠ X.env.locals ∧ (∀ x c, X.env.cells.lookup x = some c → c ≠ b) ∧ ∀ p ∈ X.pn ++ pins, p.1 ≠ b)
    (keep : ∀ b o, b ≠ X.env.locals → b ∉ X.fs → b ∉ ch → s.heap.get? b = some o → H b = none → h'.get? b = some o)
    (slot : ∀ b o, b ≠ X.env.locals → b ∈ X.fs → b ∉ ch → s.heap.get? b = some o → H b = none → ∃ sl, h'.get? b = some { o with slots := sl }) (free : ∀ b o, b ∉ ch → s.heap.get? b = some o → H b = none → H' b = none)
    (there : ∀ b o, b ∉ ch → s.heap.get? b = some o → ∃ o', h'.get? b = some o')
    (tups : ∀ b xs, H b = some (.tup xs) → H' b = some (.tup xs)) (frzs : ∀ b o u, H b = some (.frz o u) → H' b = some (.frz o u)) (tbls : ∀ b ps, H b = some (.tbl ps) → ∃ more, H' b = some (.tbl (ps ++ more)))
    (ns : ∀ m, s.heap.Ns X.env.locals m → h'.Ns X.env.locals m) (hok : HOk X.prog X.w H' h') (hg : AllBare g') :
    Inv X pins σ H' { s with heap := h', gens := g', drawn := d', toks := t' } := by
  have neL : ∀ b o, X.s₀.heap.get? b = some o → b ≠ X.env.locals := fun b o e => Nat.ne_of_lt (Nat.lt_of_lt_of_le (Heap.lt_size e) I.ok.above)
  have neC : ∀ b o, X.s₀.heap.get? b = some o → b ∉ X.ex → b ∉ ch := fun b o e hx hb => by
    rcases (hch b hb).1 with z | z
    · exact hx z
    · exact absurd (Nat.lt_of_lt_of_le (Heap.lt_size e) z) (Nat.lt_irrefl _)
  have cellK : ∀ x c, X.env.cells.lookup x = some c → ∀ v, s.heap.IsCell c v → h'.IsCell c v := fun x c e v ⟨o, ho, hd⟩ => by
    have nch : c ∉ ch := fun z => (hch c z).2.2.1 x c e rfl
    by_cases hc : c ∈ X.fs
    · obtain ⟨sl, q⟩ := slot c o (I.cne x c e) hc nch ho (I.freeC x c e)
      exact ⟨_, q, hd⟩
    · exact ⟨o, keep c o (I.cne x c e) hc nch ho (I.freeC x c e), hd⟩
  refine ⟨I.ok, I.os, hg, ⟨fun b o e n hb hx => ?_, fun b o e n hb hx => ?_, fun b o e n hx => ?_, fun b o e hx => ?_, fun b xs e => tups b xs (I.base.tups b xs e), fun b o xs e => frzs b o xs (I.base.frzs b o xs e), fun b ps e => ?_⟩, ?_, fun x c e => ?_, ?_, fun x c e => ?_, fun p hp => ?_, hok, I.len⟩
  · exact keep b o (neL b o e) hb (neC b o e hx) (I.base.keep b o e n hb hx) (I.base.free b o e n hx)
  · obtain ⟨sl, e1⟩ := I.base.slot b o e n hb hx
    obtain ⟨sl', e2⟩ := slot b _ (neL b o e) hb (neC b o e hx) e1 (I.base.free b o e n hx)
    exact ⟨sl', e2⟩
  · obtain ⟨o', e1⟩ := I.base.there b o e hx
    exact free b o' (neC b o e hx) e1 (I.base.free b o e n hx)
  · obtain ⟨o', e1⟩ := I.base.there b o e hx
    exact there b o' (neC b o e hx) e1
  · obtain ⟨m1, e1⟩ := I.base.tbls b ps e
    obtain ⟨m2, e2⟩ := tbls b _ e1
    exact ⟨m1 ++ m2, by rw [e2, Array.append_assoc]⟩
  · obtain ⟨m, hn, hl⟩ := I.loc
    refine ⟨m, ns m hn, fun i x v e1 e2 e3 => ?_⟩
    obtain ⟨u, r, l⟩ := hl i x v e1 e2 e3
    refine ⟨u, r, ?_⟩
    rcases l with l | ⟨k, c, e, z⟩
    · exact .inl l
    · exact .inr ⟨k, c, e, cellK x c e _ z⟩
  · obtain ⟨v, z⟩ := I.cell x c e
    exact ⟨v, cellK x c e v z⟩
  · obtain ⟨m, ⟨o, _, _, ho, _⟩, _⟩ := I.loc
    exact free _ o (fun z => (hch _ z).2.1 rfl) ho I.free
  · obtain ⟨v, o, ho, hd⟩ := I.cell x c e
    exact free c o (fun z => (hch c z).2.2.1 x c e rfl) ho (I.freeC x c e)
  · obtain ⟨e, n, ne, nf, d⟩ := I.pin p hp
    have nch : p.1 ∉ ch := fun z => (hch p.1 z).2.2.2 p hp rfl
    exact ⟨keep p.1 p.2 ne nf nch e n, free p.1 p.2 nch e n, ne, nf, d⟩
/-- .. where the frame's own object is kept too -/
theorem Inv.un {t' : Nat} (I : Inv X pins σ H s) (u : Un X.fs [] H H' s.heap h') (hok : HOk X.prog X.w H' h') : Inv X pins σ H' { s with heap := h', toks := t' } := by
  obtain ⟨m, ⟨o, es, ep, ho, r⟩, _⟩ := id I.loc
  obtain ⟨sl, hL⟩ := u.any ho I.free (by simp)
  exact I.step (g' := s.gens) (d' := s.drawn) (ch := []) (fun _ z => nomatch z) (fun b o _ hb _ e n => u.keep b o e n hb (by simp)) (fun b o _ hb _ e n => u.slot b o e n hb (by simp)) (fun b o _ e n => u.free b o e n (by simp)) (fun b o _ e => u.there b o e (by simp)) u.tups u.frzs u.tbls (fun m' hm => by
    obtain ⟨o', es', ep', ho', r'⟩ := hm
    rw [ho] at ho'; cases ho'
    exact ⟨_, es', ep', hL, r'⟩) hok I.bare
/-- behind a call (or a comprehension's block): the slots of this frame may have changed too, the records at ch may have turned -/
theorem Inv.call {g' : Array GenState} {t' : Nat} {d' : Drawn} {ch : List Addr} (I : Inv X pins σ H s) (u : Un (frs X.stack) ch H H' s.heap h') (hok : HOk X.prog X.w H' h') (hg : AllBare g')
    (hch : ∀ b ∈ ch, (b ∈ X.ex ∨ X.s₀.heap.objs.size ≤ b) ∧ b ≠ X.env.locals ∧ (∀ x c, X.env.cells.lookup x = some c → c ≠ b) ∧ ∀ p ∈ X.pn ++ pins, p.1 ≠ b) :
    Inv X pins σ H' { s with heap := h', gens := g', drawn := d', toks := t' } := by
  obtain ⟨m, ⟨o, es, ep, ho, r⟩, _⟩ := id I.loc
  obtain ⟨sl, hL⟩ := u.any ho I.free fun z => (hch _ z).2.1 rfl
  exact I.step (ch := ch) hch (fun b o hL hb hc e n => u.keep b o e n (fun z => (List.mem_cons.mp (I.stkSub b z)).elim hL hb) hc) (fun b o _ _ hc e n => u.any e n hc) (fun b o hc e n => u.free b o e n hc) (fun b o hc e => u.there b o e hc) u.tups u.frzs u.tbls (fun m' hm => by
    obtain ⟨o', es', ep', ho', r'⟩ := hm
    rw [ho] at ho'; cases ho'
    exact ⟨_, es', ep', hL, r'⟩) hok hg
/-- an untracked record of ours (an iterator) has turned -/
theorem Inv.turned {t' : Nat} {it : Addr} (I : Inv X pins σ H s) (k : ∀ b o, b ≠ it → s.heap.get? b = some o → h'.get? b = some o) (hn : H it = none) (hL : it ≠ X.env.locals)
    (h1 : it ∈ X.ex ∨ X.s₀.heap.objs.size ≤ it) (h2 : ∀ x c, X.env.cells.lookup x = some c → c ≠ it) (h3 : ∀ p ∈ X.pn ++ pins, p.1 ≠ it) : Inv X pins σ H { s with heap := h', toks := t' } := by
  have nit : ∀ b u, H b = some u → b ≠ it := fun b u e z => by rw [z, hn] at e; cases e
  refine I.step (g' := s.gens) (d' := s.drawn) (ch := [it]) (fun b hb => ?_) (fun b o _ _ hc e _ => k b o (fun z => hc (by simp [z])) e) (fun b o _ _ hc e _ => ⟨o.slots, k b o (fun z => hc (by simp [z])) e⟩) (fun _ _ _ _ n => n)
    (fun b o hc e => ⟨o, k b o (fun z => hc (by simp [z])) e⟩) (fun _ _ e => e) (fun _ _ _ e => e) (fun b ps e => ⟨#[], by rw [e]; simp⟩) (fun m hm => ?_) (fun b u e => ?_) I.bare
  · have e : b = it := by simpa using hb
    subst e
    exact ⟨h1, hL, h2, h3⟩
  · obtain ⟨o, es, ep, ho, r⟩ := hm
    exact ⟨o, es, ep, k _ o (Ne.symm hL) ho, r⟩
  · refine (I.hok b u e).stay (fun c v hc q => k c v ?_ q) (fun _ q => q) fun _ _ q => q
    rcases hc with z | z
    · rw [z]; exact nit b u e
    · exact nit c _ z
theorem Inv.tok (I : Inv X pins σ H s) (t : Nat) : Inv X pins σ H { s with toks := t } := I.un (h' := s.heap) (t' := t) Un.refl I.hok
/-- all objects kept -/
theorem Inv.kept {t' : Nat} (I : Inv X pins σ H s) (k : ∀ b u, s.heap.get? b = some u → h'.get? b = some u) : Inv X pins σ H { s with heap := h', toks := t' } := I.un (Un.kept k) (I.hok.kept k)
/-- a new object laid and tracked -/
theorem Inv.laid {a : Addr} {o : HO} {t' : Nat} (I : Inv X pins σ H s) (k : ∀ b u, s.heap.get? b = some u → h'.get? b = some u) (hp : s.heap.objs.size ≤ a) (new : ObjOk X.prog X.w (upd H a o) h' a o) :
    Inv X pins σ (upd H a o) { s with heap := h', toks := t' } := I.un (Un.laid k hp (I.hok.fresh hp)) (I.hok.laid k hp new)
/-- an object written -/
theorem Inv.write {x e : Addr} {o : HO} {t' : Nat} (I : Inv X pins σ H s) (mu : Mut (H x)) (he : e = x ∨ H e = some (.own x)) (k : ∀ b u, b ≠ e → s.heap.get? b = some u → h'.get? b = some u) (heo : ∃ u, h'.get? e = some u)
    (new : ObjOk X.prog X.w (upd H x o) h' x o) : Inv X pins σ (upd H x o) { s with heap := h', toks := t' } := I.un (Un.write mu he k heo) (I.hok.write mu he k heo new)
theorem Inv.pins_of {pins' : List (Addr × Obj)} (I : Inv X pins σ H s) (h : ∀ p ∈ pins', s.heap.get? p.1 = some p.2 ∧ H p.1 = none ∧ p.1 ≠ X.env.locals ∧ p.1 ∉ X.fs ∧ ∀ v, p.2.data ≠ .cell v) : Inv X pins' σ H s :=
  ⟨I.ok, I.os, I.bare, I.base, I.loc, I.cell, I.free, I.freeC, fun p hp => (List.mem_append.mp hp).elim (fun z => I.pin p (List.mem_append_left _ z)) (h p), I.hok, I.len⟩

theorem nodup_ix {N : List Str} (hN : N.Nodup) {i j : Nat} {x : Str} (a : N[i]? = some x) (b : N[j]? = some x) : i = j := by
  obtain ⟨h1, e1⟩ := List.getElem?_eq_some_iff.mp a
  obtain ⟨h2, e2⟩ := List.getElem?_eq_some_iff.mp b
  exact (List.getElem_inj hN).mp (e1.trans e2.symm)

/-- a name is stored; what changed -/
theorem store_ok2 {M : Model} {A : Around} {E : Value → Shared → Prop} {i : Nat} {x : Str} {v : V} {u : Value} {Q : Unit → Shared → Prop} (I : Inv X pins σ H s) (hN : X.N.Nodup) (hi : X.N[i]? = some x) (hx : Loc X.env.scope x) (r : RelV v u)
    (h : ∀ s', Inv X pins (σ.set i (some v)) H s' → (∃ a, Heap.SameBut a s.heap s'.heap ∧ (a = X.env.locals ∨ X.env.cells.lookup x = some a)) → Q () s') (hf : X.fn x = true ∨ X.env.scope.names.lookup x = some .local := by first | exact .inl rfl | exact .inr rfl | assumption) : wpAny M A (storeName X.env x u) Q E s := by
  obtain ⟨m, hn, hl⟩ := id I.loc
  have hcls : (X.env.scope.kind == .class || (X.env.scope.kind == .module && X.env.locals != X.env.globals)) = false := by rw [I.ok.kind]; rfl
  have hiσ : i < σ.length := by rw [I.len]; exact (List.getElem?_eq_some_iff.mp hi).1
  have cne := I.cne
  have tracked : ∀ {a : Addr} {h' : Heap}, (∃ o, s.heap.get? a = some o ∧ H a = none) → Heap.SameBut a s.heap h' → HOk X.prog X.w H h' := fun {a h'} ha hs b ob e => by
    obtain ⟨_, _, hfree⟩ := ha
    refine (I.hok b ob e).stay (fun c w' hc q => (hs.2 c ?_).trans q) (fun _ q => q) fun _ _ q => q
    rintro rfl
    rcases hc with rfl | hc
    · rw [hfree] at e; cases e
    · rw [hfree] at hc; cases hc
  rcases hx with hk | hk
  · refine wpAny_storeName_local hk hn (fun h' hn' hs => ?_) hcls
    obtain ⟨oL, _, _, hoL, _⟩ := id hn
    refine h _ ⟨I.ok, I.os, I.bare, ⟨fun b o e n hb hx => ?_, fun b o e n hb hx => ?_, I.base.free, fun b o e hx => ?_, I.base.tups, I.base.frzs, I.base.tbls⟩, ⟨_, hn', fun j y v' e1 e2 e3 => ?_⟩, fun y c e => ?_, I.free, I.freeC, fun p hp => ?_, tracked ⟨oL, hoL, I.free⟩ hs, by simpa using I.len⟩ ⟨_, hs, .inl rfl⟩
    · exact (hs.2 b (Nat.ne_of_lt (Nat.lt_of_lt_of_le (Heap.lt_size e) I.ok.above))).trans (I.base.keep b o e n hb hx)
    · obtain ⟨sl, e1⟩ := I.base.slot b o e n hb hx
      exact ⟨sl, (hs.2 b (Nat.ne_of_lt (Nat.lt_of_lt_of_le (Heap.lt_size e) I.ok.above))).trans e1⟩
    · obtain ⟨o', e1⟩ := I.base.there b o e hx
      exact ⟨o', (hs.2 b (Nat.ne_of_lt (Nat.lt_of_lt_of_le (Heap.lt_size e) I.ok.above))).trans e1⟩
    · by_cases hj : j = i
      · subst hj
        rw [hi] at e1; cases e1
        rw [List.getElem?_set_self hiσ] at e2
        cases e2
        exact ⟨u, r, .inl ⟨hk, by simp⟩⟩
      · rw [List.getElem?_set_ne (Ne.symm hj)] at e2
        obtain ⟨u', r', q⟩ := hl j y v' e1 e2 e3
        refine ⟨u', r', ?_⟩
        rcases q with ⟨k, e⟩ | ⟨k, c, e, z⟩
        · refine .inl ⟨k, ?_⟩
          have : y ≠ x := fun e => hj (nodup_ix hN e1 (e ▸ hi))
          simp [this, e]
        · exact .inr ⟨k, c, e, z.sameBut hs (cne y c e)⟩
    · obtain ⟨w', z⟩ := I.cell y c e
      exact ⟨w', z.sameBut hs (cne y c e)⟩
    · obtain ⟨e, n, ne, nf, d⟩ := I.pin p hp
      exact ⟨(hs.2 p.1 ne).trans e, n, ne, nf, d⟩
  · have hfn : X.fn x = true := by
      rcases hf with z | z
      · exact z
      · rw [z] at hk; cases hk
    obtain ⟨c, hc⟩ := I.ok.has x (.inl hk)
    obtain ⟨w', z⟩ := I.cell x c hc
    refine wpAny_storeName_cell I.ok.kind hk hc z (fun h' hc' hs => ?_)
    obtain ⟨oc, hoc, hocd⟩ := id z
    refine h { s with heap := h' } ⟨I.ok, I.os, I.bare, ⟨fun b o e n hb hx => ?_, fun b o e n hb hx => ?_, I.base.free, fun b o e hx => ?_, I.base.tups, I.base.frzs, I.base.tbls⟩, ⟨m, hn.sameBut hs (Ne.symm (cne x c hc)), fun j y v' e1 e2 e3 => ?_⟩, fun y c' e => ?_, I.free, I.freeC, fun p hp => ?_, tracked ⟨oc, hoc, I.freeC x c hc⟩ hs, by simpa using I.len⟩ ⟨c, hs, .inr hc⟩
    · exact (hs.2 b (Nat.ne_of_lt (Nat.lt_of_lt_of_le (Heap.lt_size e) (I.ok.cab x c hfn hc)))).trans (I.base.keep b o e n hb hx)
    · obtain ⟨sl, e1⟩ := I.base.slot b o e n hb hx
      exact ⟨sl, (hs.2 b (Nat.ne_of_lt (Nat.lt_of_lt_of_le (Heap.lt_size e) (I.ok.cab x c hfn hc)))).trans e1⟩
    · obtain ⟨o', e1⟩ := I.base.there b o e hx
      exact ⟨o', (hs.2 b (Nat.ne_of_lt (Nat.lt_of_lt_of_le (Heap.lt_size e) (I.ok.cab x c hfn hc)))).trans e1⟩
    · by_cases hj : j = i
      · subst hj
        rw [hi] at e1; cases e1
        rw [List.getElem?_set_self hiσ] at e2
        cases e2
        exact ⟨u, r, .inr ⟨.inl hk, c, hc, hc'⟩⟩
      · rw [List.getElem?_set_ne (Ne.symm hj)] at e2
        obtain ⟨u', r', q⟩ := hl j y v' e1 e2 e3
        refine ⟨u', r', ?_⟩
        rcases q with q | ⟨k, c', e, z'⟩
        · exact .inl q
        · refine .inr ⟨k, c', e, z'.sameBut hs ?_⟩
          rintro rfl
          exact hj (nodup_ix hN e1 (I.ok.inj _ _ _ e hc ▸ hi))
    · by_cases hcc : c' = c
      · subst hcc; exact ⟨_, hc'⟩
      · obtain ⟨w2, z2⟩ := I.cell y c' e
        exact ⟨w2, z2.sameBut hs hcc⟩
    · obtain ⟨e, n, ne, nf, d⟩ := I.pin p hp
      refine ⟨(hs.2 p.1 ?_).trans e, n, ne, nf, d⟩
      intro q
      rw [q, hoc] at e
      have q' : oc = p.2 := Option.some.inj e
      exact d w' (by rw [← q']; exact hocd)
theorem store_ok {M : Model} {A : Around} {E : Value → Shared → Prop} {i : Nat} {x : Str} {v : V} {u : Value} {Q : Unit → Shared → Prop} (I : Inv X pins σ H s) (hN : X.N.Nodup) (hi : X.N[i]? = some x) (hx : Loc X.env.scope x) (r : RelV v u)
    (h : ∀ s', Inv X pins (σ.set i (some v)) H s' → Q () s') (hf : X.fn x = true ∨ X.env.scope.names.lookup x = some .local := by first | exact .inl rfl | exact .inr rfl | assumption) : wpAny M A (storeName X.env x u) Q E s :=
  store_ok2 I hN hi hx r (fun s' I' _ => h s' I') hf
/-- behind a call or a block, the state as it is -/
theorem Inv.call' {s' : Shared} {ch : List Addr} (I : Inv X pins σ H s) (ho : s'.os = s.os) (u : Un (frs X.stack) ch H H' s.heap s'.heap) (hok : HOk X.prog X.w H' s'.heap) (hg : AllBare s'.gens)
    (hch : ∀ b ∈ ch, (b ∈ X.ex ∨ X.s₀.heap.objs.size ≤ b) ∧ b ≠ X.env.locals ∧ (∀ x c, X.env.cells.lookup x = some c → c ≠ b) ∧ ∀ p ∈ X.pn ++ pins, p.1 ≠ b) : Inv X pins σ H' s' := by
  obtain ⟨h', g', d', t', o'⟩ := s'
  have e : o' = s.os := ho
  subst e
  exact I.call (g' := g') (t' := t') (d' := d') u hok hg hch
end

/-- an exception: its class, its own dict's address (where it has one), the abstract heap behind it -/
abbrev XK := Value → Option Addr → Hp → Prop
abbrev St := List (Option V)
abbrev VK := V → Hp → Prop
/-- an expression's reading; a test's; an argument list's -/
abbrev TE := St → Hp → VK → Prop
abbrev TT := St → Hp → (Bool → Hp → Prop) → Prop
abbrev TA := St → Hp → (List V → Hp → Prop) → Prop
set_option genInjectivity false in
set_option genSizeOf false in
/-- what is wanted behind a statement -/
structure Ends where
  nx : St → Hp → Prop
  rt : VK
  bk : St → Hp → Prop := fun _ _ => False
  ct : St → Hp → Prop := fun _ _ => False
abbrev TS := Ends → St → Hp → Prop

def EP (X : Cx) (pins : List (Addr × Obj)) (σ : St) (Q : VK) (u : Value) (s' : Shared) : Prop := ∃ v H', Inv X pins σ H' s' ∧ RelV v u ∧ Q v H'
def TP (X : Cx) (pins : List (Addr × Obj)) (σ : St) (Q : Bool → Hp → Prop) (b : Bool) (s' : Shared) : Prop := ∃ H', Inv X pins σ H' s' ∧ Q b H'
def AP (X : Cx) (pins : List (Addr × Obj)) (σ : St) (Q : List V → Hp → Prop) (us : List Value) (s' : Shared) : Prop := ∃ vs H', Inv X pins σ H' s' ∧ Vals vs us ∧ Q vs H'
def SP (X : Cx) (pins : List (Addr × Obj)) (D : Ends) (f : Flow) (s' : Shared) : Prop :=
  match f with
  | .next => ∃ σ' H', Inv X pins σ' H' s' ∧ D.nx σ' H'
  | .brk => ∃ σ' H', Inv X pins σ' H' s' ∧ D.bk σ' H'
  | .cont => ∃ σ' H', Inv X pins σ' H' s' ∧ D.ct σ' H'
  | .ret u => ∃ v σ' H', Inv X pins σ' H' s' ∧ RelV v u ∧ D.rt v H'

def PE (X : Cx) (e : Expr) (t : TE) : Prop :=
  ∀ (pins : List (Addr × Obj)) (s : Shared) (σ : St) (H : Hp) (Q : VK), Inv X pins σ H s → t σ H Q → wpAny (model X.prog X.w) X.A (eval e X.env) (EP X pins σ Q) X.xe s
def PT (X : Cx) (e : Expr) (t : TT) : Prop :=
  ∀ (pins : List (Addr × Obj)) (s : Shared) (σ : St) (H : Hp) (Q : Bool → Hp → Prop), Inv X pins σ H s → t σ H Q → wpAny (model X.prog X.w) X.A (isTrue e X.env (eval e X.env)) (TP X pins σ Q) X.xe s
/-- a test whatever its 'whole' is (and, or) -/
def PW (X : Cx) (e : Expr) (t : TT) : Prop :=
  ∀ (whole : Sem Value) (pins : List (Addr × Obj)) (s : Shared) (σ : St) (H : Hp) (Q : Bool → Hp → Prop), Inv X pins σ H s → t σ H Q → wpAny (model X.prog X.w) X.A (isTrue e X.env whole) (TP X pins σ Q) X.xe s
theorem PW.pt {X : Cx} {e : Expr} {t : TT} (h : PW X e t) : PT X e t := h _
/-- an argument list (no star), from the left -/
def PA (X : Cx) (es : List Expr) (t : TA) : Prop :=
  ∀ (pos : Pos) (pins : List (Addr × Obj)) (s : Shared) (σ : St) (H : Hp) (Q : List V → Hp → Prop), Inv X pins σ H s → t σ H Q → wpAny (model X.prog X.w) X.A (spliced (backTo pos (starEach es X.env))) (AP X pins σ Q) X.xe s
def PS (X : Cx) (st : Stmt) (t : TS) : Prop :=
  ∀ (pins : List (Addr × Obj)) (s : Shared) (σ : St) (H : Hp) (D : Ends), Inv X pins σ H s → t D σ H → wpAny (model X.prog X.w) X.A (exec st X.env) (SP X pins D) X.xe s
def PSs (X : Cx) (st : List Stmt) (t : TS) : Prop :=
  ∀ (pins : List (Addr × Obj)) (s : Shared) (σ : St) (H : Hp) (D : Ends), Inv X pins σ H s → t D σ H → wpAny (model X.prog X.w) X.A (execs st X.env) (SP X pins D) X.xe s
/-- weaken the end -/
theorem thn {α : Type} {t : Sem α} {Q Q' : α → Shared → Prop} {M : Model} {A : Around} {E : Value → Shared → Prop} {s : Shared} (h : wpAny M A t Q E s) (hQ : ∀ a s, Q a s → Q' a s) : wpAny M A t Q' E s := wpAny_mono h hQ fun _ _ x => x
end L2

namespace L2
open PySem PySem.Spec PyProof.Rows
section
variable {X : Cx}

def tVar (i : Nat) : TE := fun σ H Q => ∃ v, σ[i]? = some (some v) ∧ Q v H
def tC (v : V) : TE := fun _ H Q => Q v H
theorem pe_var {i : Nat} {x : Str} {pos : Pos} (hN : X.N[i]? = some x) (hv : Vis X.env.scope x) (hd : (x == ("__debug__" : Str)) = false := by decide) (hcd : (x == ("__classdict__" : Str)) = false := by decide) : PE X (.Name x pos) (tVar i) := by
  intro pins s σ H Q I h
  obtain ⟨v, e, h⟩ := h
  obtain ⟨m, hn, hl⟩ := I.loc
  obtain ⟨u, r, l⟩ := hl i x v hN e hv
  have fin : EP X pins σ Q u s := ⟨v, H, I, r, h⟩
  rcases l with ⟨hk, hm⟩ | ⟨hk, c, hc, hcell⟩
  · exact wpAny_Name (wpAny_loadName_local I.ok.kind hk hn hm fin) hd
  · rcases hk with hk | hk
    · exact wpAny_Name (wpAny_loadName_cell I.ok.kind hk hc hcell fin) hd
    · exact wpAny_Name (wpAny_loadName_free I.ok.kind hk hc hcell fin hcd) hd
theorem pe_int {i j pos} : PE X (.Constant (.int i) j pos) (tC (.int i)) := fun _ _ _ H _ I h => wpAny_Constant_int ⟨.int i, H, I.tok _, ⟨_, rfl⟩, h⟩
theorem pe_bl {b j pos} : PE X (.Constant (.bool b) j pos) (tC (.bl b)) := fun _ _ _ H _ I h => Constant_bool ⟨.bl b, H, I, rfl, h⟩
theorem pe_non {j pos} : PE X (.Constant .none j pos) (tC .non) := fun _ _ _ H _ I h => Constant_none ⟨.non, H, I, rfl, h⟩
theorem pe_str {x j pos} : PE X (.Constant (.str x) j pos) (tC (.str x)) := fun _ _ _ H _ I h => Calls.Constant_str ⟨.str x, H, I.tok _, ⟨_, rfl⟩, h⟩

/-- a global name of the def -/
def Gl (X : Cx) (x : Str) : Prop := X.env.kindOf x = some .globalImplicit
theorem ld_glob {E : Value → Shared → Prop} {pins : List (Addr × Obj)} {s : Shared} {σ : St} {H : Hp} {x : Str} {u : Value} {pos : Pos} {Q : Value → Shared → Prop} (I : Inv X pins σ H s) (hg : Gl X x) (hm : X.mg x = some u) (h : Q u s)
    (hd : (x == ("__debug__" : Str)) = false := by decide) : wpAny (model X.prog X.w) X.A (eval (.Name x pos) X.env) Q E s :=
  Calls.Name_function_global I.ok.kind hg (Calls.loadGlobal_global (by rw [I.ok.glob]; exact I.mod.glob.keeps I.bk) hm h) hd
theorem ld_blt {E : Value → Shared → Prop} {pins : List (Addr × Obj)} {s : Shared} {σ : St} {H : Hp} {x : Str} {u : Value} {pos : Pos} {Q : Value → Shared → Prop} (I : Inv X pins σ H s) (hg : Gl X x) (hm : X.mg x = none) (hv : bootBuiltins x = some u) (h : Q u s)
    (hn : x ≠ "__name__" := by decide) (hd : (x == ("__debug__" : Str)) = false := by decide) : wpAny (model X.prog X.w) X.A (eval (.Name x pos) X.env) Q E s := by
  obtain ⟨mb, h1, h2⟩ := I.mod.blt
  exact Calls.Name_function_global I.ok.kind hg (Calls.loadGlobal_builtin (by rw [I.ok.glob]; exact I.mod.glob.keeps I.bk) hm (by rw [I.ok.blt]; exact h1.keeps I.bk) ((h2 x hn).trans hv) h) hd
/-- a module's constant, a class, a function, as a value -/
theorem pe_glob {x : Str} {v : V} {u : Value} {pos : Pos} (hg : Gl X x) (hm : X.mg x = some u) (r : RelV v u) (hd : (x == ("__debug__" : Str)) = false := by decide) : PE X (.Name x pos) (tC v) :=
  fun _ _ _ H _ I h => ld_glob I hg hm ⟨v, H, I, r, h⟩ hd
theorem pe_bltn {x : Str} {v : V} {u : Value} {pos : Pos} (hg : Gl X x) (hm : X.mg x = none) (hv : bootBuiltins x = some u) (r : RelV v u) (hn : x ≠ "__name__" := by decide) (hd : (x == ("__debug__" : Str)) = false := by decide) : PE X (.Name x pos) (tC v) :=
  fun _ _ _ H _ I h => ld_blt I hg hm hv ⟨v, H, I, r, h⟩ hn hd

variable {a b : Expr} {ta tb : TE} {pos : Pos}
/-- a comparison as a value, as a test -/
def tB (t : TE) : TT := fun σ H Q => t σ H fun x H1 => ∃ c, x = .bl c ∧ Q c H1
/-- an expression whose value is a bool, as a test -/
theorem pt_val {e : Expr} {t : TE} (h : PE X e t) (he : ∀ whole, isTrue e X.env whole = (do let v ← whole; standAt e.pos; holding [v] (truthy v)) := by intro _; rfl) : PT X e (tB t) := by
  intro pins s σ H Q I hw
  refine isTrue_plain (thn (h pins s σ H _ I hw) fun v s1 ⟨x, H1, I1, r1, q1⟩ => ?_) (he _)
  obtain ⟨d, rfl, q⟩ := q1
  cases r1
  exact wpAny_truthy_bool ⟨H1, I1, q⟩

variable {tA tB' : TT} {rest : List Expr}
def tAnd (t u : TT) : TT := fun σ H Q => t σ H fun c H1 => if c = true then u σ H1 Q else Q false H1
def tOr (t u : TT) : TT := fun σ H Q => t σ H fun c H1 => if c = true then Q true H1 else u σ H1 Q
def tNot (t : TT) : TT := fun σ H Q => t σ H fun c H1 => Q (!c) H1
theorem pw_and1 (ha : PT X a tA) : PW X (.BoolOp .And [a] pos) tA := by
  intro wh pins s σ H Q I h
  refine isTrue_and (thn (ha pins s σ H Q I h) fun c s1 e => ?_)
  cases c with
  | true => exact isTrue_and_nil e
  | false => exact e
theorem pw_or1 (ha : PT X a tA) : PW X (.BoolOp .Or [a] pos) tA := by
  intro wh pins s σ H Q I h
  refine isTrue_or (thn (ha pins s σ H Q I h) fun c s1 e => ?_)
  cases c with
  | false => exact isTrue_or_nil e
  | true => exact e
theorem pw_and (ha : PT X a tA) (hb : PW X (.BoolOp .And (b :: rest) pos) tB') : PW X (.BoolOp .And (a :: b :: rest) pos) (tAnd tA tB') := by
  intro wh pins s σ H Q I h
  refine isTrue_and (thn (ha pins s σ H _ I h) fun c s1 ⟨H1, I1, q1⟩ => ?_)
  cases c with
  | true => exact hb wh pins s1 σ H1 Q I1 q1
  | false => exact ⟨H1, I1, q1⟩
theorem pw_or (ha : PT X a tA) (hb : PW X (.BoolOp .Or (b :: rest) pos) tB') : PW X (.BoolOp .Or (a :: b :: rest) pos) (tOr tA tB') := by
  intro wh pins s σ H Q I h
  refine isTrue_or (thn (ha pins s σ H _ I h) fun c s1 ⟨H1, I1, q1⟩ => ?_)
  cases c with
  | true => exact ⟨H1, I1, q1⟩
  | false => exact hb wh pins s1 σ H1 Q I1 q1
theorem pt_not (ha : PT X a tA) : PT X (.UnaryOp .Not a pos) (tNot tA) := by
  intro pins s σ H Q I h
  exact isTrue_not (ha pins s σ H (fun c H1 => Q (!c) H1) I h)
/-- .. as values (bools) -/
def tAndV (ta tb : TE) : TE := fun σ H Q => ta σ H fun x H1 => ∃ c, x = .bl c ∧ if c = true then tb σ H1 Q else Q (.bl false) H1
def tNotV (ta : TE) : TE := fun σ H Q => ta σ H fun x H1 => ∃ c, x = .bl c ∧ Q (.bl (!c)) H1
theorem pe_one {op} {t : TE} (h : PE X a t) : PE X (.BoolOp op [a] pos) t := fun pins s σ H Q I hw => BoolOp_one (h pins s σ H Q I hw)
theorem pe_and (ha : PE X a ta) (hb : PE X (.BoolOp .And (b :: rest) pos) tb) : PE X (.BoolOp .And (a :: b :: rest) pos) (tAndV ta tb) := by
  intro pins s σ H Q I h
  refine BoolOp_and (thn (ha pins s σ H _ I h) fun v s1 ⟨x, H1, I1, r1, q1⟩ => ?_)
  obtain ⟨c, rfl, q1⟩ := q1
  cases r1
  refine wpAny_truthy_bool ?_
  cases c with
  | true => exact hb pins s1 σ H1 Q I1 q1
  | false => exact ⟨.bl false, H1, I1, rfl, q1⟩
theorem pe_not (ha : PE X a ta) : PE X (.UnaryOp .Not a pos) (tNotV ta) := by
  intro pins s σ H Q I h
  refine UnaryOp_ (thn (ha pins s σ H _ I h) fun v s1 ⟨x, H1, I1, r1, q1⟩ => ?_)
  obtain ⟨c, rfl, q1⟩ := q1
  cases r1
  exact not_of (wpAny_truthy_bool ⟨.bl (!c), H1, I1, rfl, q1⟩)
end
end L2

namespace L2
open PySem PySem.Spec PyProof.Rows

def SqL (K : PySem.W.Frag) (H : Hp) (a : Addr) (xs : List V) : Prop :=
  Rd H a (.lst xs) ∨
    ∃ (o : Obj) (its : Array Value) (n : Nat), K.lookup a = some o ∧ o.cls = .type "list" ∧ o.dict = none ∧ o.data = .seq its n ∧ its.size ≤ sizeLine ∧ Vals xs its.toList
def SqT (K : PySem.W.Frag) (H : Hp) (a : Addr) (xs : List V) : Prop :=
  Rd H a (.tup xs) ∨
    ∃ (o : Obj) (its : Array Value) (n : Nat), K.lookup a = some o ∧ o.cls = .type "tuple" ∧ o.data = .seq its n ∧ its.size ≤ sizeLine ∧ Vals xs its.toList
def absV : Value → Option V
  | .none => some .non
  | .bool b => some (.bl b)
  | .int i _ => some (.int i)
  | .str x _ => some (.str x)
  | .bytes b _ => some (.byt b)
  | .float b _ => some (.flt b)
  | .ref a => some (.ref a)
  | .type n => some (.ty n)
  | _ => none
theorem RelV.abs {x : V} {u : Value} (r : RelV x u) : absV u = some x := by
  cases x with
  | non => cases r; rfl
  | bl _ => cases r; rfl
  | int _ => obtain ⟨t, rfl⟩ := r; rfl
  | str _ => obtain ⟨t, rfl⟩ := r; rfl
  | byt _ => obtain ⟨t, rfl⟩ := r; rfl
  | flt _ => obtain ⟨t, rfl⟩ := r; rfl
  | ref _ => cases r; rfl
  | ty _ => cases r; rfl
theorem RelV.inj {x y : V} {u : Value} (r : RelV x u) (q : RelV y u) : x = y := Option.some.inj (r.abs.symm.trans q.abs)
theorem Vals.inj : ∀ {xs ys : List V} {us : List Value}, Vals xs us → Vals ys us → xs = ys
  | _, _, _, .nil, .nil => rfl
  | _, _, _, .cons r t, .cons r' t' => by rw [r.inj r', Vals.inj t t']
section
variable {X : Cx} {pins : List (Addr × Obj)} {σ : St} {H : Hp} {s : Shared} {a : Addr} {xs ys : List V}
theorem SqL.of {K : PySem.W.Frag} (h : H a = some (.lst xs)) : SqL K H a xs := .inl (.inl h)
theorem SqT.of {K : PySem.W.Frag} (h : H a = some (.tup xs)) : SqT K H a xs := .inl (.inl h)
theorem Inv.list (I : Inv X pins σ H s) (h : SqL X.K H a xs) : ∃ its : List Value, Vals xs its ∧ PlainL s.heap a its.toArray ∧ xs.length ≤ sizeLine := by
  rcases h with h | ⟨o, its, n, hk, hc, hd, hs, hz, r⟩
  · obtain ⟨z, its, n, r, e⟩ := h.ok I.hok
    exact ⟨its, r, ⟨_, n, e, rfl, rfl, rfl⟩, z⟩
  · refine ⟨its.toList, r, ⟨o, n, I.kIn a o hk, hc, hd, by simpa using hs⟩, ?_⟩
    have e := r.length
    simp only [Array.length_toList] at e
    omega
theorem Inv.tuple (I : Inv X pins σ H s) (h : SqT X.K H a xs) : ∃ its : List Value, Vals xs its ∧ IsTup s.heap a its.toArray ∧ xs.length ≤ sizeLine := by
  rcases h with h | ⟨o, its, n, hk, hc, hs, hz, r⟩
  · obtain ⟨z, its, r, p⟩ := h.ok I.hok
    exact ⟨its, r, p, z⟩
  · refine ⟨its.toList, r, ⟨o, I.kIn a o hk, hc, n, by simpa using hs⟩, ?_⟩
    have e := r.length
    simp only [Array.length_toList] at e
    omega
theorem Inv.list_inj (I : Inv X pins σ H s) (h : SqL X.K H a xs) (h' : SqL X.K H a ys) : xs = ys := by
  obtain ⟨its, r, ⟨o, n, e, _, _, d⟩, _⟩ := I.list h
  obtain ⟨its', r', ⟨o', n', e', _, _, d'⟩, _⟩ := I.list h'
  rw [e] at e'; cases e'
  rw [d] at d'
  injection d' with d1 _
  have : its = its' := by simpa using congrArg Array.toList d1
  subst this
  exact r.inj r'
end

abbrev Cx.wish (X : Cx) (E : Value → Shared → Prop) : Cx := { X with xe := E }
/-- no exception leaves -/
abbrev Cx.nox (X : Cx) : Cx := X.wish fun _ _ => False
theorem Cx.Ok.wish {X : Cx} (ok : X.Ok) (E : Value → Shared → Prop) : (X.wish E).Ok :=
  ⟨ok.mod, ok.kind, ok.glob, ok.blt, ok.above, ok.inj, ok.has, ok.cab, ok.hd, ok.frames, ok.stk, ok.exf, ok.bs, ok.bsz, ok.noex, ok.exfs, ok.funs, ok.frf⟩
theorem Cx.Ok.unwish {X : Cx} {E : Value → Shared → Prop} (ok : (X.wish E).Ok) : X.Ok :=
  ⟨ok.mod, ok.kind, ok.glob, ok.blt, ok.above, ok.inj, ok.has, ok.cab, ok.hd, ok.frames, ok.stk, ok.exf, ok.bs, ok.bsz, ok.noex, ok.exfs, ok.funs, ok.frf⟩
section
variable {X : Cx} {pins : List (Addr × Obj)} {σ : St} {H : Hp} {s : Shared} {E : Value → Shared → Prop}
theorem Inv.wish (I : Inv X pins σ H s) (E : Value → Shared → Prop) : Inv (X.wish E) pins σ H s := ⟨I.ok.wish E, I.os, I.bare, I.base, I.loc, I.cell, I.free, I.freeC, I.pin, I.hok, I.len⟩
theorem Inv.unwish (I : Inv (X.wish E) pins σ H s) : Inv X pins σ H s := ⟨I.ok.unwish, I.os, I.bare, I.base, I.loc, I.cell, I.free, I.freeC, I.pin, I.hok, I.len⟩
theorem SP.unwish {D : Ends} {f : Flow} {s' : Shared} (h : SP (X.wish E) pins D f s') : SP X pins D f s' := by
  cases f with
  | next => obtain ⟨σ', H', I, q⟩ := h; exact ⟨σ', H', I.unwish, q⟩
  | brk => obtain ⟨σ', H', I, q⟩ := h; exact ⟨σ', H', I.unwish, q⟩
  | cont => obtain ⟨σ', H', I, q⟩ := h; exact ⟨σ', H', I.unwish, q⟩
  | ret u => obtain ⟨v, σ', H', I, r, q⟩ := h; exact ⟨v, σ', H', I.unwish, r, q⟩
theorem PSs.nox {st : List Stmt} {t : TS} (h : PSs X.nox st t) : PSs X st t := fun pins s σ H D I hw =>
  wpAny_mono (h pins s σ H D (I.wish _) hw) (fun _ _ q => q.unwish) fun _ _ z => False.elim z
end

section
variable {X : Cx} {st : Stmt} {rest : List Stmt} {t u : TS} {e : Expr} {te : TE} {pos : Pos}
def tNext : TS := fun D σ H => D.nx σ H
def tSeq (t u : TS) : TS := fun D σ H => t { D with nx := u D } σ H
theorem pss_nil : PSs X [] tNext := fun _ _ σ H _ I h => wpAny_execs_nil ⟨σ, H, I, h⟩
theorem pss_cons (h1 : PS X st t) (h2 : PSs X rest u) : PSs X (st :: rest) (tSeq t u) := by
  intro pins s σ H D I h
  refine wpAny_execs_cons (thn (h1 pins s σ H { D with nx := u D } I h) fun f s1 q => ?_)
  cases f with
  | next =>
    obtain ⟨σ', H', I', q⟩ := q
    exact h2 pins s1 σ' H' D I' q
  | ret v => exact q
  | brk => exact q
  | cont => exact q
theorem pss_one (h1 : PS X st t) : PSs X [st] t := by
  intro pins s σ H D I h
  refine wpAny_execs_cons (thn (h1 pins s σ H D I h) fun f s1 q => ?_)
  cases f with
  | next => exact wpAny_execs_nil q
  | ret v => exact q
  | brk => exact q
  | cont => exact q
/-- in a def's body nothing is shown -/
theorem Inv.quiet {pins : List (Addr × Obj)} {σ : St} {H : Hp} {s : Shared} (I : Inv X pins σ H s) : interactive X.env = false := by simp [interactive, I.ok.kind]
/-- an expression whose value is dropped -/
def tDrop (te : TE) : TS := fun D σ H => te σ H fun _ H1 => D.nx σ H1
theorem ps_expr (he : PE X e te) (hs : swapsWith e none pos.line X.env = pure false := by rfl) : PS X (.Expr e pos) (tDrop te) := by
  intro pins s σ H D I h
  exact wpAny_Expr_any (thn (he pins s σ H _ I h) fun v s1 ⟨x, H1, I1, r1, q1⟩ => ⟨σ, H1, I1, q1⟩) I.quiet hs
def tRet (te : TE) : TS := fun D σ H => te σ H D.rt
theorem ps_ret (he : PE X e te) : PS X (.Return (some e) pos) (tRet te) := by
  intro pins s σ H D I h
  exact wpAny_Return_some (thn (he pins s σ H _ I h) fun v s1 ⟨x, H1, I1, r1, q1⟩ => ⟨x, σ, H1, I1, r1, q1⟩)
def tRetN : TS := fun D _ H => D.rt .non H
theorem ps_retN : PS X (.Return none pos) tRetN := fun _ _ σ H _ I h => wpAny_Return_none ⟨.non, σ, H, I, rfl, h⟩
def tIfS (c : TT) (t u : TS) : TS := fun D σ H => c σ H fun b H1 => if b = true then t D σ H1 else u D σ H1
theorem ps_if {c : Expr} {a b : List Stmt} {tc : TT} (hc : PT X c tc) (ha : PSs X a t) (hb : PSs X b u) : PS X (.If c a b pos) (tIfS tc t u) := by
  intro pins s σ H D I h
  refine wpAny_If (thn (hc pins s σ H _ I h) fun d s1 ⟨H1, I1, q1⟩ => ?_)
  cases d with
  | true => exact ha pins s1 σ H1 D I1 q1
  | false => exact hb pins s1 σ H1 D I1 q1
/-- code that the proof never comes to -/
def tNever : TS := fun _ _ _ => False
theorem ps_never : PS X st tNever := fun _ _ _ _ _ _ h => h.elim
end

abbrev TG := V → St → Hp → (St → Hp → Prop) → Prop
abbrev TGs := List V → St → Hp → (St → Hp → Prop) → Prop
def PG (X : Cx) (target : Expr) (t : TG) : Prop :=
  ∀ (pins : List (Addr × Obj)) (s : Shared) (σ : St) (H : Hp) (v : V) (u : Value) (Q : St → Hp → Prop), Inv X pins σ H s → RelV v u → t v σ H Q →
    wpAny (model X.prog X.w) X.A (assign target X.env u) (fun _ s' => ∃ σ' H', Inv X pins σ' H' s' ∧ Q σ' H') X.xe s
/-- several targets, one after another -/
def PGs (X : Cx) (ts : List Expr) (t : TGs) : Prop :=
  ∀ (pins : List (Addr × Obj)) (s : Shared) (σ : St) (H : Hp) (vs : List V) (us : List Value) (Q : St → Hp → Prop), Inv X pins σ H s → Vals vs us → t vs σ H Q →
    wpAny (model X.prog X.w) X.A (assignInOrder ((assignEach ts X.env).map (·.2)) us) (fun _ s' => ∃ σ' H', Inv X pins σ' H' s' ∧ Q σ' H') X.xe s
section
variable {X : Cx} {pos : Pos}
def gName (i : Nat) : TG := fun v σ H Q => Q (σ.set i (some v)) H
theorem pg_name {i : Nat} {x : Str} (hN : X.N.Nodup) (hi : X.N[i]? = some x) (hx : Loc X.env.scope x) (hf : X.fn x = true ∨ X.env.scope.names.lookup x = some .local := by first | exact .inl rfl | exact .inr rfl | assumption) : PG X (.Name x pos) (gName i) := by
  intro pins s σ H v u Q I r h
  exact wpAny_assign_Name (store_ok I hN hi hx r (fun s' I' => ⟨_, H, I', h⟩) hf)
def gNil : TGs := fun vs σ H Q => vs = [] ∧ Q σ H
def gCons (t : TG) (u : TGs) : TGs := fun vs σ H Q => ∃ v r, vs = v :: r ∧ t v σ H fun σ' H' => u r σ' H' Q
theorem pgs_nil : PGs X [] gNil := by
  intro pins s σ H vs us Q I r h
  obtain ⟨e, h⟩ := h
  subst e
  cases r
  exact assignInOrder_nil ⟨σ, H, I, h⟩
theorem pgs_cons {e : Expr} {es : List Expr} {t : TG} {u : TGs} (h1 : PG X e t) (h2 : PGs X es u)
    (hs : (assignEach (e :: es) X.env).map (·.2) = assign e X.env :: (assignEach es X.env).map (·.2) := by rfl) : PGs X (e :: es) (gCons t u) := by
  intro pins s σ H vs us Q I r h
  obtain ⟨v, vr, e1, h⟩ := h
  subst e1
  cases r with
  | cons r rr =>
    rw [hs]
    refine assignInOrder_cons (thn (h1 pins s σ H _ _ _ I r h) fun _ s1 ⟨σ1, H1, I1, q1⟩ => ?_)
    exact h2 pins s1 σ1 H1 _ _ Q I1 rr q1
/-- (a, b, ..) = a tuple of that length -/
def gTup (K : PySem.W.Frag) (n : Nat) (t : TGs) : TG := fun v σ H Q => ∃ a xs, v = .ref a ∧ SqT K H a xs ∧ xs.length = n ∧ t xs σ H Q
theorem pg_tup {es : List Expr} {k : Nat} {t : TGs} {n : Nat} (hc : X.calm = true) (h : PGs X es t)
    (hn : (assignEach es X.env).length = n := by rfl) (hst : (assignEach es X.env).findIdx? (·.1) = none := by rfl) : PG X (.Tuple es k pos) (gTup X.K n t) := by
  intro pins s σ H v u Q I r hw
  obtain ⟨a, xs, e1, hq, hl, hw⟩ := hw
  subst e1
  cases r
  obtain ⟨its, rv, ht, hz⟩ := I.tuple hq
  refine assign_Tuple_tuple (I.ok.hd hc) ht (by simp [hn, ← hl, rv.length]) hst fun h' hx => ?_
  have I1 : Inv X pins σ H { s with heap := h' } := I.kept (t' := s.toks) fun b o e => hx b o (Nat.ne_of_lt (Heap.lt_size e)) e
  exact h pins _ σ H xs _ Q I1 (by simpa using rv) hw
/-- target = value -/
def tAsg (te : TE) (g : TG) : TS := fun D σ H => te σ H fun x H1 => g x σ H1 D.nx
/-- name = value -/
theorem ps_set {i : Nat} {x : Str} {e : Expr} {te : TE} {pos' : Pos} (hN : X.N.Nodup) (hi : X.N[i]? = some x) (hx : Loc X.env.scope x) (he : PE X e te) (hs : swapsWith e (some (.Name x pos')) pos.line X.env = pure false := by rfl) (hf : X.fn x = true ∨ X.env.scope.names.lookup x = some .local := by first | exact .inl rfl | exact .inr rfl | assumption) :
    PS X (.Assign [.Name x pos'] e pos) (tAsg te (gName i)) := by
  intro pins s σ H D I h
  refine wpAny_Assign_Name (thn (he pins s σ H _ I h) fun v s1 ⟨y, H1, I1, r1, q1⟩ => ?_) hs
  exact store_ok I1 hN hi hx r1 (fun s2 I2 => ⟨_, H1, I2, q1⟩) hf
end

section
variable {X : Cx} {pos : Pos}
/-- the invariant W with its measure -/
def tWhile (c : TT) (tb : TS) : TS := fun D σ H => ∃ W : Nat → St → Hp → Prop, (∃ m, W m σ H) ∧ ∀ m σ H, W m σ H →
  c σ H fun b H1 => if b = true then ∃ N : St → Hp → Prop, (∀ σ' H', N σ' H' → ∃ m', m' < m ∧ W m' σ' H') ∧ tb { D with nx := N, ct := N, bk := D.nx } σ H1 else D.nx σ H1
theorem ps_while {c : Expr} {body : List Stmt} {tc : TT} {tb : TS} (hp : PassesOwn (model X.prog X.w) X.A X.env X.xe) (hc : PT X c tc) (hb : PSs X body tb) : PS X (.While c body [] pos) (tWhile tc tb) := by
  intro pins s σ H D I h
  obtain ⟨W, ⟨m0, w0⟩, turn⟩ := h
  refine wpAny_While (codeAny_whileLoop (fun n s' => ∃ σ' H', Inv X pins σ' H' s' ∧ W n σ' H') ?_ m0 ⟨σ, H, I, w0⟩)
  rintro n s1 ⟨σ1, H1, I1, w1⟩
  refine wpAny_passesOwn hp (thn (hc pins s1 σ1 H1 _ I1 (turn n σ1 H1 w1)) fun b s2 ⟨H2, I2, q2⟩ => ?_)
  cases b with
  | true =>
    obtain ⟨N, hN, q2⟩ := q2
    rw [if_pos rfl]
    refine wpAny_passesOwn hp (thn (hb pins s2 σ1 H2 _ I2 q2) fun f s3 q3 => ?_)
    cases f with
    | next =>
      obtain ⟨σ3, H3, I3, n3⟩ := q3
      obtain ⟨m', hm, w3⟩ := hN σ3 H3 n3
      exact ⟨m', hm, σ3, H3, I3, w3⟩
    | cont =>
      obtain ⟨σ3, H3, I3, n3⟩ := q3
      obtain ⟨m', hm, w3⟩ := hN σ3 H3 n3
      exact ⟨m', hm, σ3, H3, I3, w3⟩
    | brk => exact q3
    | ret v => exact q3
  | false =>
    rw [if_neg Bool.false_ne_true]
    exact wpAny_execs_nil ⟨σ1, H2, I2, q2⟩
end

set_option genInjectivity false in
set_option genSizeOf false in
/-- at turn i: it yields x (the heap may grow), or it stops -/
structure It where
  go : Nat → Hp → Prop
  yld : Nat → Hp → V → Hp → Prop
  stop : Nat → Hp → Prop
/-- the iterator's own objects may turn: they are not the frame's, not pinned, younger than the entry (or a comprehension's own) -/
def FpOk (X : Cx) (pins : List (Addr × Obj)) (H : Hp) (b : Addr) : Prop :=
  H b = none ∧ b ≠ X.env.locals ∧ b ∉ X.fs ∧ (b ∈ X.ex ∨ X.s₀.heap.objs.size ≤ b) ∧ (∀ x c, X.env.cells.lookup x = some c → c ≠ b) ∧ ∀ p ∈ X.pn ++ pins, p.1 ≠ b
theorem Inv.fpOk {X : Cx} {pins : List (Addr × Obj)} {σ : St} {H H' : Hp} {s : Shared} {b : Addr} (I : Inv X pins σ H s) (hb : s.heap.objs.size ≤ b) (hn : H' b = none) : FpOk X pins H' b := by
  refine ⟨hn, Nat.ne_of_gt (Nat.lt_of_lt_of_le I.lt hb), I.nofs hb, .inr (Nat.le_trans I.sz hb), fun x c e z => ?_, fun p hp z => ?_⟩
  · obtain ⟨v, q⟩ := I.cell x c e
    exact absurd (Nat.lt_of_lt_of_le q.lt (by rw [z]; exact hb)) (Nat.lt_irrefl _)
  · exact absurd (Nat.lt_of_lt_of_le (Heap.lt_size (I.pin p hp).1) (by rw [z]; exact hb)) (Nat.lt_irrefl _)
structure Turn (P : Program) (w : World) (K : PySem.W.Frag) (tg : Expr) (J : It) (fp : List Addr) (it : Addr) (tn : Nat → Heap → Prop) : Prop where
  mem : it ∈ fp
  obj : ∀ i h, tn i h → ∀ b ∈ fp, ∃ o, h.get? b = some o ∧ ∀ v, o.data ≠ .cell v
  keep : ∀ i h h', tn i h → (∀ b ∈ fp, ∀ o, h.get? b = some o → h'.get? b = some o) → tn i h'
  item : ∀ (X : Cx), X.prog = P → X.w = w → X.K = K → X.calm = true → ∀ (i : Nat) (pins : List (Addr × Obj)) (s : Shared) (σ : St) (H : Hp) (E : Value → Shared → Prop), Inv X pins σ H s → (∀ b ∈ fp, FpOk X pins H b) → tn i s.heap → J.go i H →
    wpAny (model P w) X.A (pyNext (.ref it)) (fun r s1 => ∃ u, r = some u ∧
      wpAny (model P w) X.A (letOwnedTupleGo tg (.ref it) u) (fun _ s2 => ∃ x H', Inv X pins σ H' s2 ∧ RelV x u ∧ J.yld i H x H' ∧ tn (i + 1) s2.heap ∧ ∀ b ∈ fp, H' b = none) E s1) E s
  done : ∀ (X : Cx), X.prog = P → X.w = w → X.K = K → X.calm = true → ∀ (i : Nat) (pins : List (Addr × Obj)) (s : Shared) (σ : St) (H : Hp) (E : Value → Shared → Prop), Inv X pins σ H s → (∀ b ∈ fp, FpOk X pins H b) → tn i s.heap → J.stop i H →
    wpAny (model P w) X.A (pyNext (.ref it)) (fun r s1 => r = none ∧ Inv X pins σ H s1) E s
  self : ∀ (A : Around) (i : Nat) (s : Shared) (Q : Value → Shared → Prop) (E : Value → Shared → Prop), tn i s.heap → Q (.ref it) s → wpAny (model P w) A (pyIter (.ref it)) Q E s
abbrev TI := St → Hp → (It → Hp → Prop) → Prop
/-- an iterator has come -/
def PIE (X : Cx) (pins : List (Addr × Obj)) (σ : St) (tg : Expr) (R : It → Hp → Prop) (itv : Value) (s2 : Shared) : Prop :=
  ∃ (it : Addr) (fp : List Addr) (tn : Nat → Heap → Prop) (J : It) (H' : Hp), itv = .ref it ∧ Inv X pins σ H' s2 ∧ Turn X.prog X.w X.K tg J fp it tn ∧ tn 0 s2.heap ∧ (∀ b ∈ fp, FpOk X pins H' b) ∧ R J H'
def PI (X : Cx) (tg iter : Expr) (wi : TI) : Prop :=
  ∀ (pins : List (Addr × Obj)) (s : Shared) (σ : St) (H : Hp) (R : It → Hp → Prop), Inv X pins σ H s → wi σ H R →
    wpAny (model X.prog X.w) X.A (eval iter X.env) (fun v s1 => wpAny (model X.prog X.w) X.A (pyIter v) (PIE X pins σ tg R) X.xe s1) X.xe s

/-- the step ahead of the store is nothing for an iterator that keeps no tuple -/
theorem go_of {M : Model} {A : Around} {E : Value → Shared → Prop} {s : Shared} {tg : Expr} {it : Addr} {u : Value} {o : Obj} {n : String} {vs : Array Value} {Q : Unit → Shared → Prop} (ho : s.heap.get? it = some o) (hc : o.cls = .type n) (hd : o.data = .fields vs)
    (hn : ["enumerate", "zip", "dict_itemiterator", "dict_reverseitemiterator", "odict_iterator", "itertools.zip_longest", "itertools.pairwise"].contains n = false) (hQ : Q () s) : wpAny M A (letOwnedTupleGo tg (.ref it) u) Q E s := by
  unfold letOwnedTupleGo
  cases tg <;> first
    | exact wpAny_pure hQ
    | (cases u <;> first
        | exact wpAny_pure hQ
        | (refine wpAny_bind (wpAny_load ho ?_)
           rw [hc, hd]
           show wpAny M A (if (["enumerate", "zip", "dict_itemiterator", "dict_reverseitemiterator", "odict_iterator", "itertools.zip_longest", "itertools.pairwise"].contains n && vs[0]? == some (rawInt _)) = true then _ else _) Q E s
           rw [if_neg (by intro h; rw [hn, Bool.false_and] at h; cases h)]
           exact wpAny_pure hQ))

/-- the list at a, as it stands at each turn (a loop may append to it) -/
def Itl (K : PySem.W.Frag) (a : Addr) : It :=
  ⟨fun i H => ∃ xs x, SqL K H a xs ∧ xs[i]? = some x, fun i H x H' => H' = H ∧ ∀ xs, SqL K H a xs → xs[i]? = some x, fun i H => ∃ xs, SqL K H a xs ∧ xs.length ≤ i⟩
/-- lo, lo + 1, .. (n of them) -/
def Itr (lo : Int) (n : Nat) : It := ⟨fun i _ => i < n, fun i H x H' => H' = H ∧ x = .int (lo + i), fun i _ => n ≤ i⟩
theorem turn_list {P : Program} {w : World} {K : PySem.W.Frag} {tg : Expr} (a it : Addr) : Turn P w K tg (Itl K a) [it] it (fun i h => h.IsListIter it a i) where
  mem := by simp
  obj := fun i h st b hb => by
    have e : b = it := by simpa using hb
    subst e
    obtain ⟨o, e, c, d⟩ := st
    exact ⟨o, e, fun v z => by rw [d] at z; cases z⟩
  keep := fun i h h' st k => st.at fun o e => k it (by simp) o e
  item := by
    intro X hP hw hK hc i pins s σ H E I hf st hg
    subst hP hw hK
    obtain ⟨xs, x, hq, hx⟩ := hg
    obtain ⟨its, rv, p, hz⟩ := I.list hq
    obtain ⟨u, hu, ru⟩ := rv.get hx
    obtain ⟨f0, f1, f2, f3, f4, f5⟩ := hf it (by simp)
    refine wpAny_pyNext_list_item st p.isList (x := u) (by simpa using hu) fun h' st' sb => ?_
    have I1 : Inv X pins σ H { s with heap := h' } := I.turned (t' := s.toks) (fun b o hb e => (sb.2 b hb).trans e) f0 f1 f3 f4 f5
    obtain ⟨o, e, c, d⟩ := id st'
    exact ⟨u, rfl, go_of (s := { s with heap := h' }) e c d (by decide) ⟨x, H, I1, ru, ⟨rfl, fun ys hy => by rw [I.list_inj hy hq]; exact hx⟩, st', fun b hb => (hf b hb).1⟩⟩
  done := by
    intro X hP hw hK hc i pins s σ H E I hf st hg
    subst hP hw hK
    obtain ⟨xs, hq, hx⟩ := hg
    obtain ⟨its, rv, p, hz⟩ := I.list hq
    obtain ⟨f0, f1, f2, f3, f4, f5⟩ := hf it (by simp)
    have hl := rv.length
    exact wpAny_pyNext_list_end (I.ok.hd hc) st p.isList (by simp; omega) fun h' eb => ⟨rfl, I.turned (t' := s.toks) (fun b o hb e => eb b o hb e) f0 f1 f3 f4 f5⟩
  self := fun _ _ _ _ _ st h => wpAny_pyIter_listiter st h
theorem turn_range {P : Program} {w : World} {K : PySem.W.Frag} {tg : Expr} (it : Addr) (lo : Int) (n : Nat) : Turn P w K tg (Itr lo n) [it] it (fun i h => IsRangeIter h it (lo + (i : Nat) * 1) ((n : Int) - (i : Nat)) 1) where
  mem := by simp
  obj := fun i h st b hb => by
    have e : b = it := by simpa using hb
    subst e
    exact ⟨_, st, fun v z => by
      have z' : Data.fields _ = Data.cell v := z
      cases z'⟩
  keep := fun i h h' st k => k it (by simp) _ st
  item := by
    intro X hP hw hK hc i pins s σ H E I hf st hg
    subst hP hw hK
    obtain ⟨f0, f1, f2, f3, f4, f5⟩ := hf it (by simp)
    have W := Walks.range (prog := X.prog) (w := X.w) (I.ok.hd hc) it lo 1 n
    refine W.item i s _ _ hg st fun v h' tk hv st' kk => ?_
    obtain ⟨t, rfl⟩ := hv
    have I1 : Inv X pins σ H { s with heap := h', toks := tk } := I.turned (fun b o hb e => kk b o (by simpa using hb) e) f0 f1 f3 f4 f5
    refine ⟨_, rfl, go_of (s := { s with heap := h', toks := tk }) (n := "range_iterator") st' rfl rfl (by decide) ⟨.int (lo + i), H, I1, ⟨t, ?_⟩, ⟨rfl, rfl⟩, st', fun b hb => (hf b hb).1⟩⟩
    rw [Int.mul_one]
  done := by
    intro X hP hw hK hc i pins s σ H E I hf st hg
    subst hP hw hK
    obtain ⟨f0, f1, f2, f3, f4, f5⟩ := hf it (by simp)
    exact wpAny_pyNext_range_end (I.ok.hd hc) st (by have : n ≤ i := hg; omega) fun h' eb => ⟨rfl, I.turned (t' := s.toks) (fun b o hb e => eb b o hb e) f0 f1 f3 f4 f5⟩
  self := fun _ _ _ _ _ st h => wpAny_pyIter_rangeiter st h
end L2

namespace L2
open PySem PySem.Spec PyProof.Rows
section
variable {X : Cx} {tg : Expr}
def iList (K : PySem.W.Frag) (tl : TE) : TI := fun σ H R => tl σ H fun x H1 => ∃ a, x = .ref a ∧ (∃ xs, SqL K H1 a xs) ∧ R (Itl K a) H1
theorem pi_list {l : Expr} {tl : TE} (hl : PE X l tl) : PI X tg l (iList X.K tl) := by
  intro pins s σ H R I h
  refine thn (hl pins s σ H _ I h) fun v s1 ⟨x, H1, I1, r1, q1⟩ => ?_
  obtain ⟨a, e, ⟨xs, hq⟩, q⟩ := q1
  subst e
  cases r1
  obtain ⟨its, rv, p, hz⟩ := I1.list hq
  refine wpAny_pyIter_list p.isList ?_
  refine ⟨s1.heap.objs.size, [s1.heap.objs.size], _, _, H1, rfl, I1.kept (t' := s1.toks) fun b o e => Heap.get?_push_of_some _ e, turn_list a _, ⟨_, Heap.get?_push_size _ rfl, rfl, rfl⟩, fun b hb => ?_, q⟩
  have e : b = s1.heap.objs.size := by simpa using hb
  subst e
  exact I1.fpOk (Nat.le_refl _) (I1.hok.fresh (Nat.le_refl _))
/-- a range object just made, walked -/
theorem range_it {pins : List (Addr × Obj)} {σ : St} {H : Hp} {s : Shared} {R : It → Hp → Prop} {E : Value → Shared → Prop} {lo hi : Int} {t u v : Tok} {tk : Nat} (I : Inv X pins σ H s) (h1 : -(2 ^ 62) ≤ lo) (h2 : lo < 2 ^ 62) (h3 : -(2 ^ 62) ≤ hi) (h4 : hi < 2 ^ 62)
    (q : R (Itr lo (hi - lo).toNat) H) : wpAny (model X.prog X.w) X.A (pyIter (.ref s.heap.objs.size)) (PIE X pins σ tg R) E { s with heap := s.heap.push { cls := .type "range", data := .fields #[.int lo t, .int hi u, .int 1 v] }, toks := tk } := by
  refine wpAny_pyIter_range (IsRange.new ..) (small_one h1 h2 h3 h4) ?_
  have I1 : Inv X pins σ H { s with heap := s.heap.push { cls := .type "range", data := .fields #[.int lo t, .int hi u, .int 1 v] }, toks := tk } := I.kept fun b o e => Heap.get?_push_of_some _ e
  refine ⟨(s.heap.push { cls := .type "range", data := .fields #[.int lo t, .int hi u, .int 1 v] }).objs.size, [(s.heap.push { cls := .type "range", data := .fields #[.int lo t, .int hi u, .int 1 v] }).objs.size], _, _, H, rfl,
    I1.kept (t' := tk) fun b o e => Heap.get?_push_of_some _ e, turn_range _ lo (hi - lo).toNat, ?_, fun b hb => ?_, q⟩
  · have e1 : lo + ((0 : Nat) : Int) * 1 = lo := by simp
    have e2 : (((hi - lo).toNat : Nat) : Int) - ((0 : Nat) : Int) = Builtin.Range.rangeSize lo hi 1 := by rw [rangeSize_one]; split <;> omega
    show IsRangeIter _ _ (lo + ((0 : Nat) : Int) * 1) ((((hi - lo).toNat : Nat) : Int) - ((0 : Nat) : Int)) 1
    rw [e1, e2]
    exact Heap.get?_push_size _ rfl
  · have e : b = (s.heap.push { cls := .type "range", data := .fields #[.int lo t, .int hi u, .int 1 v] }).objs.size := by simpa using hb
    subst e
    exact I1.fpOk (Nat.le_refl _) (I1.hok.fresh (Nat.le_refl _))
def iRng1 (ta : TA) : TI := fun σ H R => ta σ H fun vs H1 => ∃ j : Int, vs = [.int j] ∧ -(2 ^ 62) ≤ j ∧ j < 2 ^ 62 ∧ R (Itr 0 j.toNat) H1
theorem pi_range1 {a : Expr} {ta : TA} {p pos : Pos} (hg : Gl X "range") (hm : X.mg "range" = none) (ha : PA X [a] ta) (hs : starEach [a] X.env = [(false, eval a X.env)] := by rfl) : PI X tg (.Call (.Name "range" p) [a] [] pos) (iRng1 ta) := by
  intro pins s σ H R I h
  refine Call_ (ld_blt I hg hm boot_range (PyProof.Rows.callWith_type1 (thn (ha pos pins s σ H _ I h) fun us s1 ⟨vs, H1, I1, r1, q1⟩ => ?_) hs rfl))
  obtain ⟨j, e, q1, q2, q⟩ := q1
  subst e
  cases r1 with
  | cons r rr =>
    cases rr
    obtain ⟨t, rfl⟩ := r
    exact call_range_1 (range_it I1 (by omega) (by omega) q1 q2 (by simpa using q))
/-- W: the invariant by the turn and a measure; N: what the body is to reach -/
def tFor (wi : TI) (g : TG) (tb : TS) : TS := fun D σ H => wi σ H fun J H1 => ∃ W : Nat → Nat → St → Hp → Prop, (∃ m, W 0 m σ H1) ∧ ∀ i m σ H, W i m σ H →
  (J.stop i H ∧ D.nx σ H) ∨ (J.go i H ∧ ∃ N : St → Hp → Prop, (∀ σ' H', N σ' H' → ∃ m', m' < m ∧ W (i + 1) m' σ' H') ∧ ∀ x H', J.yld i H x H' → g x σ H' fun σ2 H2 => tb { D with nx := N, ct := N, bk := D.nx } σ2 H2)
/-- the records at fp as they stand -/
def pinsAt (fp : List Addr) (h : Heap) : List (Addr × Obj) := fp.filterMap fun b => (h.get? b).map fun o => (b, o)
theorem mem_pinsAt {fp : List Addr} {h : Heap} {b : Addr} {o : Obj} (hb : b ∈ fp) (e : h.get? b = some o) : (b, o) ∈ pinsAt fp h := List.mem_filterMap.mpr ⟨b, hb, by rw [e]; rfl⟩
theorem of_pinsAt {fp : List Addr} {h : Heap} {p : Addr × Obj} (hp : p ∈ pinsAt fp h) : p.1 ∈ fp ∧ h.get? p.1 = some p.2 := by
  obtain ⟨b, hb, e⟩ := List.mem_filterMap.mp hp
  cases q : h.get? b with
  | none => rw [q] at e; cases e
  | some o =>
    rw [q] at e
    have e' : (b, o) = p := Option.some.inj e
    subst e'
    exact ⟨hb, q⟩
theorem Inv.pinned {pins : List (Addr × Obj)} {σ : St} {H : Hp} {s : Shared} {fp : List Addr} (I : Inv X pins σ H s) (hf : ∀ b ∈ fp, FpOk X pins H b) (ho : ∀ b ∈ fp, ∃ o, s.heap.get? b = some o ∧ ∀ v, o.data ≠ .cell v) : Inv X (pins ++ pinsAt fp s.heap) σ H s :=
  I.pins_of fun p hp => (List.mem_append.mp hp).elim (fun z => I.pin p (List.mem_append_right _ z)) fun z => by
    obtain ⟨hb, e⟩ := of_pinsAt z
    obtain ⟨f0, f1, f2, _⟩ := hf p.1 hb
    obtain ⟨o, e', d⟩ := ho p.1 hb
    rw [e] at e'; cases e'
    exact ⟨e, f0, f1, f2, d⟩
theorem Inv.unpinned {pins pl : List (Addr × Obj)} {σ : St} {H : Hp} {s : Shared} (I : Inv X (pins ++ pl) σ H s) : Inv X pins σ H s := I.pins_of fun p hp => I.pin p (List.mem_append_right _ (List.mem_append_left _ hp))
theorem ps_for {iter : Expr} {body : List Stmt} {wi : TI} {g : TG} {tb : TS} {pos : Pos} (hp : PassesOwn (model X.prog X.w) X.A X.env X.xe) (hc : X.calm = true) (hi : PI X tg iter wi) (hg : PG X tg g) (hb : PSs X body tb)
    (hs : ∀ x, foldedSetIterable iter X.env x = pure x := by intro _; rfl) : PS X (.For tg iter body [] pos) (tFor wi g tb) := by
  intro pins s σ H D I h
  refine wpAny_For (thn (hi pins s σ H _ I h) fun v s1 h1 => thn h1 fun itv s2 h2 => ?_) hs
  obtain ⟨it, fp, tn, J, H2, e, I2, T, st2, f2, W, ⟨m0, w0⟩, turn⟩ := h2
  subst e
  -- what stays true of the iterator's objects through the loop
  have stat : ∀ {H' : Hp}, (∀ b ∈ fp, H' b = none) → ∀ b ∈ fp, FpOk X pins H' b := fun hn b hb => ⟨hn b hb, (f2 b hb).2⟩
  refine codeAny_forLoop_any (fun n s' => ∃ i σ' H', Inv X pins σ' H' s' ∧ tn i s'.heap ∧ (∀ b ∈ fp, H' b = none) ∧ W i n σ' H') ?_ m0 ⟨0, σ, H2, I2, st2, fun b hb => (f2 b hb).1, w0⟩
  rintro n s3 ⟨i, σ3, H3, I3, st3, fr3, w3⟩
  rcases turn i n σ3 H3 w3 with ⟨stop, qn⟩ | ⟨go, N, hN, step⟩
  · refine wpAny_passesOwn hp (thn (T.done X rfl rfl rfl hc i pins s3 σ3 H3 X.xe I3 (stat fr3) st3 stop) fun r s4 ⟨hr, I4⟩ => ?_)
    subst hr
    exact wpAny_execs_nil ⟨σ3, H3, I4, qn⟩
  · refine wpAny_passesOwn hp (thn (T.item X rfl rfl rfl hc i pins s3 σ3 H3 X.xe I3 (stat fr3) st3 go) fun r s4 ⟨u, hr, h4⟩ => ?_)
    subst hr
    refine wpAny_passesOwn hp (thn h4 fun _ s5 ⟨x, H5, I5, r5, y5, st5, fr5⟩ => ?_)
    have I5' := I5.pinned (stat fr5) (T.obj _ _ st5)
    refine wpAny_passesOwn hp (thn (hg _ s5 σ3 H5 x u _ I5' r5 (step x H5 y5)) fun _ s6 ⟨σ6, H6, I6, q6⟩ => ?_)
    refine wpAny_passesOwn hp (thn (hb _ s6 σ6 H6 _ I6 q6) fun f s7 q7 => ?_)
    have again : ∀ {σ7 : St} {H7 : Hp}, Inv X (pins ++ pinsAt fp s5.heap) σ7 H7 s7 → N σ7 H7 → ∃ m, m < n ∧ ∃ i σ' H', Inv X pins σ' H' s7 ∧ tn i s7.heap ∧ (∀ b ∈ fp, H' b = none) ∧ W i m σ' H' := fun {σ7 H7} I7 n7 => by
      obtain ⟨m', hm, w7⟩ := hN σ7 H7 n7
      refine ⟨m', hm, i + 1, σ7, H7, I7.unpinned, T.keep _ _ _ st5 fun b hb o e => (I7.pin (b, o) (List.mem_append_right _ (List.mem_append_right _ (mem_pinsAt hb e)))).1, fun b hb => ?_, w7⟩
      obtain ⟨o, e, d⟩ := T.obj _ _ st5 b hb
      exact (I7.pin (b, o) (List.mem_append_right _ (List.mem_append_right _ (mem_pinsAt hb e)))).2.1
    cases f with
    | next => obtain ⟨σ7, H7, I7, n7⟩ := q7; exact again I7 n7
    | cont => obtain ⟨σ7, H7, I7, n7⟩ := q7; exact again I7 n7
    | brk => obtain ⟨σ7, H7, I7, q7⟩ := q7; exact ⟨σ7, H7, I7.unpinned, q7⟩
    | ret v => obtain ⟨x7, σ7, H7, I7, r7, q7⟩ := q7; exact ⟨x7, σ7, H7, I7.unpinned, r7, q7⟩
end

/-- over a list that the body leaves as it is -/
theorem for_list {K : PySem.W.Frag} {a : Addr} {xs : List V} {g : TG} {tb : TS} {D : Ends} {σ : St} {H : Hp} (Pv : Nat → St → Hp → Prop) (h0 : Pv 0 σ H) (hl : ∀ i σ H, i ≤ xs.length → Pv i σ H → SqL K H a xs)
    (hs : ∀ i x σ H, xs[i]? = some x → Pv i σ H → g x σ H fun σ2 H2 => tb { D with nx := Pv (i + 1), ct := Pv (i + 1), bk := D.nx } σ2 H2) (hd : ∀ σ H, Pv xs.length σ H → D.nx σ H) :
    ∃ W : Nat → Nat → St → Hp → Prop, (∃ m, W 0 m σ H) ∧ ∀ i m σ H, W i m σ H →
      ((Itl K a).stop i H ∧ D.nx σ H) ∨ ((Itl K a).go i H ∧ ∃ N : St → Hp → Prop, (∀ σ' H', N σ' H' → ∃ m', m' < m ∧ W (i + 1) m' σ' H') ∧ ∀ x H', (Itl K a).yld i H x H' → g x σ H' fun σ2 H2 => tb { D with nx := N, ct := N, bk := D.nx } σ2 H2) := by
  refine ⟨fun i m σ H => m = xs.length - i ∧ i ≤ xs.length ∧ Pv i σ H, ⟨xs.length, by simp, Nat.zero_le _, h0⟩, ?_⟩
  rintro i m σ H ⟨rfl, hi, p⟩
  have q := hl i σ H hi p
  by_cases hlt : i < xs.length
  · refine .inr ⟨⟨xs, xs[i], q, by simp [hlt]⟩, Pv (i + 1), fun σ' H' p' => ⟨xs.length - (i + 1), by omega, rfl, hlt, p'⟩, fun x H' y => ?_⟩
    obtain ⟨e, y⟩ := y
    subst e
    exact hs i x σ _ (y xs q) p
  · have e : i = xs.length := by omega
    subst e
    exact .inl ⟨⟨xs, q, Nat.le_refl _⟩, hd σ H p⟩
theorem for_range {lo : Int} {n : Nat} {g : TG} {tb : TS} {D : Ends} {σ : St} {H : Hp} (Pv : Nat → St → Hp → Prop) (h0 : Pv 0 σ H)
    (hs : ∀ i σ H, i < n → Pv i σ H → g (.int (lo + i)) σ H fun σ2 H2 => tb { D with nx := Pv (i + 1), ct := Pv (i + 1), bk := D.nx } σ2 H2) (hd : ∀ σ H, Pv n σ H → D.nx σ H) :
    ∃ W : Nat → Nat → St → Hp → Prop, (∃ m, W 0 m σ H) ∧ ∀ i m σ H, W i m σ H →
      ((Itr lo n).stop i H ∧ D.nx σ H) ∨ ((Itr lo n).go i H ∧ ∃ N : St → Hp → Prop, (∀ σ' H', N σ' H' → ∃ m', m' < m ∧ W (i + 1) m' σ' H') ∧ ∀ x H', (Itr lo n).yld i H x H' → g x σ H' fun σ2 H2 => tb { D with nx := N, ct := N, bk := D.nx } σ2 H2) := by
  refine ⟨fun i m σ H => m = n - i ∧ i ≤ n ∧ Pv i σ H, ⟨n, by simp, Nat.zero_le _, h0⟩, ?_⟩
  rintro i m σ H ⟨rfl, hi, p⟩
  by_cases hlt : i < n
  · refine .inr ⟨hlt, Pv (i + 1), fun σ' H' p' => ⟨n - (i + 1), by omega, rfl, hlt, p'⟩, fun x H' y => ?_⟩
    obtain ⟨e, y⟩ := y
    subst e y
    exact hs i σ _ hlt p
  · have e : i = n := by omega
    subst e
    exact .inl ⟨Nat.le_refl _, hd σ H p⟩
end L2

namespace L2
open PySem PySem.Spec PyProof.Rows

abbrev R2 := V → V → Hp → VK → Prop
/-- a two-place operation on values: f is binaryOp op, inplaceOp op or compareOp op -/
def OpR (X : Cx) (f : Value → Value → Sem Value) (r : R2) : Prop :=
  ∀ (pins : List (Addr × Obj)) (s : Shared) (σ : St) (H : Hp) (x y : V) (v u : Value) (Q : VK), Inv X pins σ H s → RelV x v → RelV y u → r x y H Q →
    wpAny (model X.prog X.w) X.A (f v u) (EP X pins σ Q) X.xe s
/-- a one-place operation -/
def UnR (X : Cx) (f : Value → Sem Value) (r : V → Hp → VK → Prop) : Prop :=
  ∀ (pins : List (Addr × Obj)) (s : Shared) (σ : St) (H : Hp) (x : V) (v : Value) (Q : VK), Inv X pins σ H s → RelV x v → r x H Q →
    wpAny (model X.prog X.w) X.A (f v) (EP X pins σ Q) X.xe s
/-- a call of a value that is known (a builtin, a type) with values -/
def CallR (X : Cx) (f : Value) (r : List V → Hp → VK → Prop) : Prop :=
  ∀ (pins : List (Addr × Obj)) (s : Shared) (σ : St) (H : Hp) (xs : List V) (us : List Value) (Q : VK), Inv X pins σ H s → Vals xs us → r xs H Q →
    wpAny (model X.prog X.w) X.A (call f us) (EP X pins σ Q) X.xe s
def tOp (r : R2) (ta tb : TE) : TE := fun σ H Q => ta σ H fun x H1 => tb σ H1 fun y H2 => r x y H2 Q
def tUn (r : V → Hp → VK → Prop) (ta : TE) : TE := fun σ H Q => ta σ H fun x H1 => r x H1 Q
/-- ints in, under C, and a value out -/
def rI (C : Int → Int → Prop) (g : Int → Int → V) : R2 := fun x y H Q => ∃ i j, x = .int i ∧ y = .int j ∧ C i j ∧ Q (g i j) H
def rI0 (g : Int → Int → V) : R2 := fun x y H Q => ∃ i j, x = .int i ∧ y = .int j ∧ Q (g i j) H
def rU (g : Int → V) : V → Hp → VK → Prop := fun x H Q => ∃ i, x = .int i ∧ Q (g i) H

section
variable {X : Cx} {a b c : Expr} {ta tb tc : TE} {pos : Pos}

theorem binT (ha : PE X a ta) (hb : PE X b tb) {pins : List (Addr × Obj)} {s : Shared} {σ : St} {H : Hp} {R : V → V → Hp → Prop} (I : Inv X pins σ H s)
    (h : ta σ H fun x H1 => tb σ H1 fun y H2 => R x y H2) {Q : Value → Shared → Prop} {f : Value → Value → Sem Value}
    (hf : ∀ v u s2 x y H2, Inv X pins σ H2 s2 → RelV x v → RelV y u → R x y H2 → wpAny (model X.prog X.w) X.A (f v u) Q X.xe s2) :
    wpAny (model X.prog X.w) X.A (eval a X.env) (fun v s₁ => wpAny (model X.prog X.w) X.A (eval b X.env) (fun u s₂ => wpAny (model X.prog X.w) X.A (f v u) Q X.xe s₂) X.xe s₁) X.xe s := by
  refine thn (ha pins s σ H _ I h) fun v s1 ⟨x, H1, I1, r1, q1⟩ => ?_
  refine thn (hb pins s1 σ H1 _ I1 q1) fun u s2 ⟨y, H2, I2, r2, q2⟩ => ?_
  exact hf v u s2 x y H2 I2 r1 r2 q2

theorem pe_op {op : Operator} {r : R2} (ho : OpR X (binaryOp op) r) (ha : PE X a ta) (hb : PE X b tb) : PE X (.BinOp a op b pos) (tOp r ta tb) := by
  intro pins s σ H Q I h
  exact wpAny_BinOp (binT ha hb I h fun v u s2 x y H2 I2 rx ry q => ho pins s2 σ H2 x y v u Q I2 rx ry q)
theorem pe_un {op : UnaryOp} {r : V → Hp → VK → Prop} (ho : UnR X (unaryOp op) r) (ha : PE X a ta) : PE X (.UnaryOp op a pos) (tUn r ta) := by
  intro pins s σ H Q I h
  exact UnaryOp_ (thn (ha pins s σ H _ I h) fun v s1 ⟨x, H1, I1, r1, q1⟩ => ho pins s1 σ H1 x v Q I1 r1 q1)
theorem opI {f : Value → Value → Sem Value} {C : Int → Int → Prop} {g : Int → Int → Int}
    (rule : ∀ (i j : Int) (t u : Tok) (s : Shared) (Q : Value → Shared → Prop) (E : Value → Shared → Prop), C i j → Q (.int (g i j) s.toks) { s with toks := s.toks + 1 } → wpAny (model X.prog X.w) X.A (f (.int i t) (.int j u)) Q E s) :
    OpR X f (rI C fun i j => .int (g i j)) := by
  intro pins s σ H x y v u Q I rx ry h
  obtain ⟨i, j, rfl, rfl, hc, q⟩ := h
  obtain ⟨t, rfl⟩ := rx
  obtain ⟨t', rfl⟩ := ry
  exact rule i j t t' s _ _ hc ⟨.int (g i j), H, I.tok _, ⟨_, rfl⟩, q⟩
theorem opI0 {f : Value → Value → Sem Value} {g : Int → Int → Int}
    (rule : ∀ (i j : Int) (t u : Tok) (s : Shared) (Q : Value → Shared → Prop) (E : Value → Shared → Prop), Q (.int (g i j) s.toks) { s with toks := s.toks + 1 } → wpAny (model X.prog X.w) X.A (f (.int i t) (.int j u)) Q E s) :
    OpR X f (rI0 fun i j => .int (g i j)) := by
  intro pins s σ H x y v u Q I rx ry h
  obtain ⟨i, j, rfl, rfl, q⟩ := h
  obtain ⟨t, rfl⟩ := rx
  obtain ⟨t', rfl⟩ := ry
  exact rule i j t t' s _ _ ⟨.int (g i j), H, I.tok _, ⟨_, rfl⟩, q⟩
theorem opB0 {f : Value → Value → Sem Value} {g : Int → Int → Bool}
    (rule : ∀ (i j : Int) (t u : Tok) (s : Shared) (Q : Value → Shared → Prop) (E : Value → Shared → Prop), Q (.bool (g i j)) s → wpAny (model X.prog X.w) X.A (f (.int i t) (.int j u)) Q E s) :
    OpR X f (rI0 fun i j => .bl (g i j)) := by
  intro pins s σ H x y v u Q I rx ry h
  obtain ⟨i, j, rfl, rfl, q⟩ := h
  obtain ⟨t, rfl⟩ := rx
  obtain ⟨t', rfl⟩ := ry
  exact rule i j t t' s _ _ ⟨.bl (g i j), H, I, rfl, q⟩

def CMul (i j : Int) : Prop := (-(2 ^ 64) < i ∧ i < 2 ^ 64) ∨ (-(2 ^ 64) < j ∧ j < 2 ^ 64)
theorem CMul.ok {i j : Int} (h : CMul i j) : IntMulOk i j := by
  rcases h with ⟨h1, h2⟩ | ⟨h1, h2⟩
  · exact .of_left (intBits_le_64 h1 h2)
  · exact .of_right (intBits_le_64 h1 h2)
theorem op_add : OpR X (binaryOp .Add) (rI0 fun i j => .int (i + j)) := opI0 fun _ _ _ _ _ _ _ q => add_int q
theorem op_sub : OpR X (binaryOp .Sub) (rI0 fun i j => .int (i - j)) := opI0 fun _ _ _ _ _ _ _ q => sub_int q
theorem op_mul : OpR X (binaryOp .Mult) (rI CMul fun i j => .int (i * j)) := opI fun _ _ _ _ _ _ _ hc q => mul_int q hc.ok
/-- % by a positive divisor of any size -/
theorem op_mod : OpR X (binaryOp .Mod) (rI (fun _ j => 0 < j) fun i j => .int (i % j)) := opI fun i j _ _ _ _ _ hc q => by
  have h1 : (0 : Int) < j := hc
  exact mod_int' (by omega) (by rw [Int.fmod_eq_emod_of_nonneg i (by omega)]; exact q)
theorem unI {f : Value → Sem Value} {g : Int → Int}
    (rule : ∀ (i : Int) (t : Tok) (s : Shared) (Q : Value → Shared → Prop) (E : Value → Shared → Prop), Q (.int (g i) s.toks) { s with toks := s.toks + 1 } → wpAny (model X.prog X.w) X.A (f (.int i t)) Q E s) :
    UnR X f (rU fun i => .int (g i)) := by
  intro pins s σ H x v Q I rx h
  obtain ⟨i, rfl, q⟩ := h
  obtain ⟨t, rfl⟩ := rx
  exact rule i t s _ _ ⟨.int (g i), H, I.tok _, ⟨_, rfl⟩, q⟩
theorem un_neg : UnR X (unaryOp .USub) (rU fun i => .int (-i)) := unI fun _ _ _ _ _ q => neg_int q
end

/-- the scalars that == tells apart as data does -/
def scal : V → V → Bool
  | .non, .non => true | .non, .int _ => true | .int _, .non => true | .non, .bl _ => true | .bl _, .non => true | .non, .str _ => true | .str _, .non => true
  | .int _, .int _ => true | .bl _, .bl _ => true | .str _, .str _ => true | .byt _, .byt _ => true
  | .int _, .str _ => true | .str _, .int _ => true | .bl _, .str _ => true | .str _, .bl _ => true
  | _, _ => false
def rEq : R2 := fun x y H Q => scal x y = true ∧ Q (.bl (decide (x = y))) H
def rNe : R2 := fun x y H Q => scal x y = true ∧ Q (.bl (!decide (x = y))) H

theorem dec_int {i j : Int} : decide (V.int i = V.int j) = (i == j) := by
  rw [Bool.eq_iff_iff]
  simp
theorem dec_bl {i j : Bool} : decide (V.bl i = V.bl j) = (i == j) := by
  rw [Bool.eq_iff_iff]
  simp
theorem dec_str {i j : Str} : decide (V.str i = V.str j) = (i == j) := by
  rw [Bool.eq_iff_iff]
  simp
theorem dec_byt {i j : Array UInt8} : decide (V.byt i = V.byt j) = (i.toList == j.toList) := by
  rw [Bool.eq_iff_iff]
  cases i
  cases j
  simp

section
variable {X : Cx} {a b c : Expr} {ta tb tc : TE} {pos : Pos}
theorem fin_bl {pins : List (Addr × Obj)} {σ : St} {H : Hp} {s : Shared} {Q : VK} {k k' : Bool} (I : Inv X pins σ H s) (q : Q (.bl k) H) (e : k = k') : EP X pins σ Q (.bool k') s := by
  subst e
  exact ⟨.bl k, H, I, rfl, q⟩
theorem op_eq : OpR X (compareOp .Eq) rEq := by
  intro pins s σ H x y v u Q I rx ry h
  obtain ⟨hs, q⟩ := h
  cases x with
  | non =>
    cases rx
    cases y with
    | non => cases ry; exact PySem.EqNone.eq_none_none (fin_bl I q (by simp))
    | bl j => cases ry; exact PySem.EqNone.eq_none_bool (fin_bl I q (by simp))
    | int j => obtain ⟨t', rfl⟩ := ry; exact PySem.EqNone.eq_none_int (fin_bl I q (by simp))
    | str j => obtain ⟨t', rfl⟩ := ry; exact PySem.EqNone.eq_none_str (fin_bl I q (by simp))
    | _ => exact absurd (show false = true from hs) Bool.false_ne_true
  | bl i =>
    cases rx
    cases y with
    | non => cases ry; exact PySem.EqNone.eq_bool_none (fin_bl I q (by simp))
    | bl j => cases ry; exact eq_bool (fin_bl I q dec_bl)
    | str j => obtain ⟨t', rfl⟩ := ry; exact PySem.EqMixed.eq_bool_str (fin_bl I q (by simp))
    | _ => exact absurd (show false = true from hs) Bool.false_ne_true
  | int i =>
    obtain ⟨t, rfl⟩ := rx
    cases y with
    | non => cases ry; exact PySem.EqNone.eq_int_none (fin_bl I q (by simp))
    | int j => obtain ⟨t', rfl⟩ := ry; exact eq_int (fin_bl I q dec_int)
    | str j => obtain ⟨t', rfl⟩ := ry; exact PySem.EqMixed.eq_int_str (fin_bl I q (by simp))
    | _ => exact absurd (show false = true from hs) Bool.false_ne_true
  | str i =>
    obtain ⟨t, rfl⟩ := rx
    cases y with
    | non => cases ry; exact PySem.EqNone.eq_str_none (fin_bl I q (by simp))
    | bl j => cases ry; exact PySem.EqMixed.eq_str_bool (fin_bl I q (by simp))
    | int j => obtain ⟨t', rfl⟩ := ry; exact PySem.EqMixed.eq_str_int (fin_bl I q (by simp))
    | str j => obtain ⟨t', rfl⟩ := ry; exact eq_str (fin_bl I q dec_str)
    | _ => exact absurd (show false = true from hs) Bool.false_ne_true
  | byt i =>
    obtain ⟨t, rfl⟩ := rx
    cases y with
    | byt j => obtain ⟨t', rfl⟩ := ry; exact PySem.W.eq_bytes (fin_bl I q dec_byt)
    | _ => exact absurd (show false = true from hs) Bool.false_ne_true
  | _ => cases y <;> exact absurd (show false = true from hs) Bool.false_ne_true
theorem op_ne : OpR X (compareOp .NotEq) rNe := by
  intro pins s σ H x y v u Q I rx ry h
  obtain ⟨hs, q⟩ := h
  cases x with
  | non =>
    cases rx
    cases y with
    | non => cases ry; exact PySem.EqNone.ne_none_none (fin_bl I q (by simp))
    | bl j => cases ry; exact PySem.EqNone.ne_none_bool (fin_bl I q (by simp))
    | int j => obtain ⟨t', rfl⟩ := ry; exact PySem.EqNone.ne_none_int (fin_bl I q (by simp))
    | str j => obtain ⟨t', rfl⟩ := ry; exact PySem.EqNone.ne_none_str (fin_bl I q (by simp))
    | _ => exact absurd (show false = true from hs) Bool.false_ne_true
  | bl i =>
    cases rx
    cases y with
    | non => cases ry; exact PySem.EqNone.ne_bool_none (fin_bl I q (by simp))
    | bl j => cases ry; exact ne_bool (fin_bl I q (congrArg not dec_bl))
    | str j => obtain ⟨t', rfl⟩ := ry; exact PySem.EqMixed.ne_bool_str (fin_bl I q (by simp))
    | _ => exact absurd (show false = true from hs) Bool.false_ne_true
  | int i =>
    obtain ⟨t, rfl⟩ := rx
    cases y with
    | non => cases ry; exact PySem.EqNone.ne_int_none (fin_bl I q (by simp))
    | int j => obtain ⟨t', rfl⟩ := ry; exact ne_int (fin_bl I q (congrArg not dec_int))
    | str j => obtain ⟨t', rfl⟩ := ry; exact PySem.EqMixed.ne_int_str (fin_bl I q (by simp))
    | _ => exact absurd (show false = true from hs) Bool.false_ne_true
  | str i =>
    obtain ⟨t, rfl⟩ := rx
    cases y with
    | non => cases ry; exact PySem.EqNone.ne_str_none (fin_bl I q (by simp))
    | bl j => cases ry; exact PySem.EqMixed.ne_str_bool (fin_bl I q (by simp))
    | int j => obtain ⟨t', rfl⟩ := ry; exact PySem.EqMixed.ne_str_int (fin_bl I q (by simp))
    | str j => obtain ⟨t', rfl⟩ := ry; exact ne_str (fin_bl I q (congrArg not dec_str))
    | _ => exact absurd (show false = true from hs) Bool.false_ne_true
  | byt i =>
    obtain ⟨t, rfl⟩ := rx
    cases y with
    | byt j => obtain ⟨t', rfl⟩ := ry; exact PySem.W.ne_bytes (fin_bl I q (congrArg not dec_byt))
    | _ => exact absurd (show false = true from hs) Bool.false_ne_true
  | _ => cases y <;> exact absurd (show false = true from hs) Bool.false_ne_true

theorem op_lt : OpR X (compareOp .Lt) (rI0 fun i j => .bl (decide (i < j))) := opB0 fun _ _ _ _ _ _ _ q => lt_int q
theorem op_le : OpR X (compareOp .LtE) (rI0 fun i j => .bl (decide (i ≤ j))) := opB0 fun _ _ _ _ _ _ _ q => le_int q
theorem op_gt : OpR X (compareOp .Gt) (rI0 fun i j => .bl (decide (j < i))) := opB0 fun _ _ _ _ _ _ _ q => gt_int q
theorem op_ge : OpR X (compareOp .GtE) (rI0 fun i j => .bl (decide (j ≤ i))) := opB0 fun _ _ _ _ _ _ _ q => ge_int q
/-- is None, is not None: the right side a value none -/
theorem op_isN : OpR X (compareOp .Is) (fun x y H Q => y = .non ∧ Q (.bl (decide (x = .non))) H) := by
  intro pins s σ H x y v u Q I rx ry h
  obtain ⟨rfl, q⟩ := h
  cases ry
  refine is_none_gen (fin_bl I q ?_)
  cases x <;> first
    | (cases rx; rfl)
    | (obtain ⟨t, rfl⟩ := rx; rfl)
theorem op_notN : OpR X (compareOp .IsNot) (fun x y H Q => y = .non ∧ Q (.bl (!decide (x = .non))) H) := by
  intro pins s σ H x y v u Q I rx ry h
  obtain ⟨rfl, q⟩ := h
  cases ry
  refine isnot_none_gen (fin_bl I q ?_)
  cases x <;> first
    | (cases rx; rfl)
    | (obtain ⟨t, rfl⟩ := rx; rfl)

theorem nomark (b : Expr) {op : CmpOp} (h : op ≠ .In := by decide) (h2 : op ≠ .NotIn := by decide) : behindInMarks op b = false := by
  have e1 : (op == CmpOp.In) = false := by cases op <;> first | rfl | exact absurd rfl h
  have e2 : (op == CmpOp.NotIn) = false := by cases op <;> first | rfl | exact absurd rfl h2
  cases b <;> simp [behindInMarks, e1, e2]
/-- a comparison as a value; hm: nomark b, or (for in, not in) by with_unfolding_all rfl -/
theorem pe_cmpR {op : CmpOp} {r : R2} (ho : OpR X (compareOp op) r) (ha : PE X a ta) (hb : PE X b tb) (hm : behindInMarks op b = false) : PE X (.Compare a [op] [b] pos) (tOp r ta tb) := by
  intro pins s σ H Q I h
  exact wpAny_Compare1 (binT ha hb I h fun v u s2 x y H2 I2 rx ry q => ho pins s2 σ H2 x y v u Q I2 rx ry q) hm
/-- a reading of a value as a test -/
def tTest (t : TE) : TT := fun σ H Q => t σ H fun x H' => ∃ k, x = .bl k ∧ Q k H'
theorem pt_cmpR {op : CmpOp} {r : R2} (ho : OpR X (compareOp op) r) (ha : PE X a ta) (hb : PE X b tb) (hm : behindInMarks op b = false) : PT X (.Compare a [op] [b] pos) (tTest (tOp r ta tb)) := by
  intro pins s σ H Q I h
  refine wpAny_isTrue_Compare1 (thn (ha pins s σ H _ I h) fun v s1 ⟨x, H1, I1, r1, q1⟩ => thn (hb pins s1 σ H1 _ I1 q1) fun u s2 ⟨y, H2, I2, r2, q2⟩ =>
    thn (ho pins s2 σ H2 x y v u _ I2 r1 r2 q2) fun c s3 ⟨z, H3, I3, r3, k, e, q3⟩ => ?_) hm
  subst e
  cases r3
  exact wpAny_truthy_bool ⟨H3, I3, q3⟩
/-- a op1 b op2 c -/
def tChain (r r' : R2) (ta tb tc : TE) : TE := fun σ H Q => ta σ H fun x H1 => tb σ H1 fun y H2 => r x y H2 fun z H3 => ∃ k, z = .bl k ∧
  (if k = true then tc σ H3 fun w' H4 => r' y w' H4 Q else Q (.bl false) H3)
theorem pe_chain {op op' : CmpOp} {r r' : R2} (ho : OpR X (compareOp op) r) (ho' : OpR X (compareOp op') r') (ha : PE X a ta) (hb : PE X b tb) (hc : PE X c tc)
    (hm : lastMarks [op, op'] [b, c] = false := by with_unfolding_all rfl) : PE X (.Compare a [op, op'] [b, c] pos) (tChain r r' ta tb tc) := by
  intro pins s σ H Q I h
  refine Compare_chain (thn (ha pins s σ H _ I h) fun v s1 ⟨x, H1, I1, r1, q1⟩ => chain_link (thn (hb pins s1 σ H1 _ I1 q1) fun u s2 ⟨y, H2, I2, r2, q2⟩ =>
    thn (ho pins s2 σ H2 x y v u _ I2 r1 r2 q2) fun d s3 ⟨z, H3, I3, r3, k, e, q3⟩ => ?_)) hm
  subst e
  cases r3
  refine wpAny_truthy_bool ?_
  cases k with
  | false => exact ite_ff ⟨.bl false, H3, I3, rfl, q3⟩
  | true => exact ite_tt (chain_last (thn (hc pins s3 σ H3 _ I3 q3) fun w' s4 ⟨z', H4, I4, r4, q4⟩ => ho' pins s4 σ H4 y z' u w' Q I4 r2 r4 q4))
theorem pt_chain {op op' : CmpOp} {r r' : R2} (ho : OpR X (compareOp op) r) (ho' : OpR X (compareOp op') r') (ha : PE X a ta) (hb : PE X b tb) (hc : PE X c tc)
    (hm : lastMarks [op, op'] [b, c] = false := by with_unfolding_all rfl) : PT X (.Compare a [op, op'] [b, c] pos) (tTest (tChain r r' ta tb tc)) := by
  intro pins s σ H Q I h
  refine isTrue_chain (thn (ha pins s σ H _ I h) fun v s1 ⟨x, H1, I1, r1, q1⟩ => test_link (thn (hb pins s1 σ H1 _ I1 q1) fun u s2 ⟨y, H2, I2, r2, q2⟩ =>
    thn (ho pins s2 σ H2 x y v u _ I2 r1 r2 q2) fun d s3 ⟨z, H3, I3, r3, k, e, q3⟩ => ?_)) hm
  subst e
  cases r3
  refine wpAny_truthy_bool ?_
  cases k with
  | false =>
    obtain ⟨k', e', q'⟩ := q3
    cases e'
    exact ite_ff ⟨H3, I3, q'⟩
  | true =>
    refine ite_tt (test_last (thn (hc pins s3 σ H3 _ I3 q3) fun w' s4 ⟨z', H4, I4, r4, q4⟩ => thn (ho' pins s4 σ H4 y z' u w' _ I4 r2 r4 q4) fun d' s5 ⟨z2, H5, I5, r5, k2, e2, q5⟩ => ?_))
    subst e2
    cases r5
    exact wpAny_truthy_bool ⟨H5, I5, q5⟩

theorem line63 : (sizeLine : Nat) < 2 ^ 63 := by rw [sizeLine_eq]; decide
theorem vals1 {x : V} {us : List Value} (r : Vals [x] us) : ∃ u, us = [u] ∧ RelV x u := by
  cases r with
  | cons r1 r2 => cases r2; exact ⟨_, rfl, r1⟩
theorem vals2 {x y : V} {us : List Value} (r : Vals [x, y] us) : ∃ u w', us = [u, w'] ∧ RelV x u ∧ RelV y w' := by
  cases r with
  | cons r1 r2 =>
    cases r2 with
    | cons r3 r4 => cases r4; exact ⟨_, _, rfl, r1, r3⟩
end
end L2

namespace L2
open PySem PySem.Spec PyProof.Rows

structure ObjM (h : Heap) (x dx C : Addr) (mA : Str → Option Value) : Prop where
  obj : h.get? x = some (PySem.W.instObj C dx)
  ns : h.Ns1 dx mA
  ne : dx ≠ x

theorem lookIn_ns {h : Heap} {dx : Addr} {mA : Str → Option Value} (n : h.Ns1 dx mA) : ∃ od, h.get? dx = some od ∧ ∀ name, PySem.W.lookIn name od = some (mA name) := by
  obtain ⟨o, es, ep, ho, hd, hk, _, hm⟩ := n
  refine ⟨o, ho, fun name => ?_⟩
  have e := hm name
  unfold nsFind findBy at e
  rw [← Array.find?_toList] at e
  unfold PySem.W.lookIn
  rw [hd]
  dsimp only
  split
  · rename_i y q
    rw [q] at e
    exact congrArg some e
  · rename_i q
    rw [q] at e
    have a : es.toList.any (·.refKey) = false := by
      rw [List.any_eq_false]
      intro y hy
      obtain ⟨z, t, hkey⟩ := hk y (Array.mem_toList_iff.mp hy)
      simp [DictEntry.refKey, hkey]
    have a' : ¬ es.toList.any (·.refKey) = true := by rw [a]; exact Bool.false_ne_true
    rw [if_neg a']
    exact congrArg some e

theorem ObjM.look {h : Heap} {x dx C : Addr} {mA : Str → Option Value} (I : ObjM h x dx C mA) : ∃ od, PySem.W.InstAt h x (PySem.W.instObj C dx) C (some od) ∧ ∀ name, PySem.W.lookIn name od = some (mA name) :=
  let ⟨od, ho, hl⟩ := lookIn_ns I.ns
  ⟨od, ⟨I.obj, rfl, rfl, ho⟩, hl⟩

section
variable {prog : Program} {w : World} {A : Around} {E : Value → Shared → Prop} {s : Shared} {K : PySem.W.Frag} {x dx C f : Addr} {mA : Str → Option Value} {name : Str} {v : Value}

theorem get_map {expr : Bool} {Q : Value → Shared → Prop} (X : K.In s.heap) (I : ObjM s.heap x dx C mA) (hg : PySem.W.plainGet K C name = true) (hh : PySem.W.hasDictIn K C = true)
    (ha : PySem.W.findIn K (.ref C) name = some none) (hv : mA name = some v) (hv' : PySem.W.handedIn v = true) (h : Q v { s with toks := s.toks + 1 }) :
    wpAny (model prog w) A (getAttr (.ref x) name expr) Q E s := by
  obtain ⟨od, J, hl⟩ := I.look
  exact PySem.W.get_value X J (PySem.W.plainGet_of hg).1 (PySem.W.findObj_own hh ha rfl (by rw [hl, hv])) hv' h

theorem set_map {ns : List Str} {Q : Unit → Shared → Prop} (X : K.In s.heap) (I : ObjM s.heap x dx C mA)
    (hs : PySem.W.findIn K (.ref C) "__setattr__" = some (some (.builtin "object.__setattr__"))) (hp : PySem.W.plainOver K C = true) (ht : PySem.W.takerIn K C name = some none) (hh : PySem.W.hasDictIn K C = true)
    (hw : PySem.Within mA ns) (hsz : ns.length ≤ sizeLine)
    (h : ∀ h', ObjM h' x dx C (fun y => if y = name then some v else mA y) → Heap.SameBut dx s.heap h' → Q () { s with heap := h', toks := s.toks + 2 }) :
    wpAny (model prog w) A (setAttr (.ref x) name v) Q E s := by
  obtain ⟨od, J, hl⟩ := I.look
  refine PySem.W.set_plain X J hs (PySem.W.osa_open (s := { s with toks := s.toks + 1 }) (r := none) X J hp ht fun b => ?_)
  obtain ⟨cd, hc, hd'⟩ := PySem.W.any_some hh
  have hx : s.heap.get? x = some ⟨.ref C, some dx, .plain, #[]⟩ := I.obj
  refine wpAny_bind (wpAny_pure (wpAny_bind (wpAny_bind (wpAny_loadPart hx (wpAny_bind (PySem.W.Looks.here (s := { s with toks := s.toks + 1 }) (PySem.W.looks_clsIn X hc) ?_))))))
  rw [hd']
  refine wpAny_pure (a := some dx) (wpAny_bind (wpAny_pure (wpAny_bind ?_)))
  refine wpAny_nsSet1 (s := { s with toks := s.toks + 1 }) I.ns fun h' hn2 hs2 => ?_
  obtain ⟨oD, esD, epD, hoD, hdD, hcD⟩ := hn2.count (PySem.Within.cons name v hw)
  refine wpAny_bind (wpAny_lookBehind hoD (by rw [hdD]; exact pastItsLine_dict (Nat.le_trans hcD (by rw [List.length_cons]; omega))) ?_)
  exact wpAny_pure (h _ ⟨(hs2.2 _ (Ne.symm I.ne)).trans I.obj, hn2, I.ne⟩ hs2)

/-- C(..): the dict at the heap's end, the instance behind it; then its __init__ -/
theorem make_map {R : Result → Shared → Prop} {vs : List Value} {kw : List (Str × Value)} (X : K.In s.heap) (hm : PySem.W.makesIn K C = true)
    (hi : PySem.W.findIn K (.ref C) "__init__" = some (some (.ref f))) (hf : PySem.W.typeIn K (.ref f) = some (.type "function"))
    (h : codeAny (model prog w) (A.under (.builtin "type.__call__" ⟨.ref C :: vs, kw⟩)) (.call (.ref f) ⟨.ref (s.heap.objs.size + 1) :: vs, kw⟩) (PySem.W.InitBack (s.heap.objs.size + 1) R)
      { s with heap := (s.heap.push PySem.W.emptyDict).push (PySem.W.instObj C s.heap.objs.size) }) :
    codeAny (model prog w) A (.call (.ref C) ⟨vs, kw⟩) R s := by
  obtain ⟨hh, g, d, t, os⟩ := s
  exact PySem.W.make_core (PySem.W.makes_of X hm) (PySem.W.looks_findIn X hi) (fun self => PySem.W.bind_fn X self hf) (.inl rfl) h
end

def putF (f : Str) (v : V) : List (Str × V) → List (Str × V)
  | [] => [(f, v)]
  | (g, x) :: r => if g = f then (g, v) :: r else (g, x) :: putF f v r
theorem lookup_putF (f g : Str) (v : V) : ∀ fs : List (Str × V), (putF f v fs).lookup g = if g = f then some v else fs.lookup g
  | [] => by
    show List.lookup g [(f, v)] = _
    by_cases h : g = f
    · have hb : (g == f) = true := beq_iff_eq.mpr h
      simp only [List.lookup, hb, if_pos h]
    · have hb : (g == f) = false := beq_eq_false_iff_ne.mpr h
      simp only [List.lookup, hb, if_neg h]
  | (k, x) :: r => by
    have ih := lookup_putF f g v r
    rw [show putF f v ((k, x) :: r) = (if k = f then (k, v) :: r else (k, x) :: putF f v r) from rfl]
    by_cases hk : k = f
    · rw [if_pos hk]
      by_cases h : g = k
      · have hb : (g == k) = true := beq_iff_eq.mpr h
        simp only [List.lookup, hb, if_pos (h.trans hk)]
      · have hb : (g == k) = false := beq_eq_false_iff_ne.mpr h
        simp only [List.lookup, hb, if_neg (fun e : g = f => h (e.trans hk.symm))]
    · rw [if_neg hk]
      by_cases h : g = k
      · have hb : (g == k) = true := beq_iff_eq.mpr h
        simp only [List.lookup, hb, if_neg (fun e : g = f => hk (h.symm.trans e))]
      · have hb : (g == k) = false := beq_eq_false_iff_ne.mpr h
        simp only [List.lookup, hb]
        exact ih
theorem keys_putF (f : Str) (v : V) : ∀ fs : List (Str × V), f ∈ (putF f v fs).map (·.1) ∧ ∀ g, g ∈ fs.map (·.1) → g ∈ (putF f v fs).map (·.1)
  | [] => ⟨by simp [putF], fun g h => by simp at h⟩
  | (k, x) :: r => by
    obtain ⟨i1, i2⟩ := keys_putF f v r
    rw [show putF f v ((k, x) :: r) = (if k = f then (k, v) :: r else (k, x) :: putF f v r) from rfl]
    by_cases hk : k = f
    · rw [if_pos hk]
      subst hk
      exact ⟨by simp, fun g h => by simpa using h⟩
    · rw [if_neg hk]
      refine ⟨?_, fun g h => ?_⟩
      · rw [List.map_cons]
        exact List.mem_cons_of_mem _ i1
      · rw [List.map_cons] at h ⊢
        rcases List.mem_cons.mp h with e | e
        · exact List.mem_cons.mpr (.inl e)
        · exact List.mem_cons_of_mem _ (i2 g e)
theorem length_putF (f : Str) (v : V) : ∀ fs : List (Str × V), (putF f v fs).length ≤ fs.length + 1
  | [] => by simp [putF]
  | (k, x) :: r => by
    have ih := length_putF f v r
    rw [show putF f v ((k, x) :: r) = (if k = f then (k, v) :: r else (k, x) :: putF f v r) from rfl]
    by_cases hk : k = f
    · rw [if_pos hk, List.length_cons, List.length_cons]; omega
    · rw [if_neg hk, List.length_cons, List.length_cons]; omega

theorem RelO.some_of {v : V} {o : Option Value} (r : RelO (some v) o) : ∃ u, o = some u ∧ RelV v u := by
  cases o with
  | none => exact (show False from r).elim
  | some u => exact ⟨u, rfl, r⟩
theorem handed_of {v : V} {u : Value} (r : RelV v u) : PySem.W.handedIn u = true := by
  cases v with
  | non => cases (show u = Value.none from r); rfl
  | bl b => cases (show u = Value.bool b from r); rfl
  | int i => obtain ⟨t, e⟩ := (show ∃ t, u = Value.int i t from r); cases e; rfl
  | str x => obtain ⟨t, e⟩ := (show ∃ t, u = Value.str x t from r); cases e; rfl
  | byt b => obtain ⟨t, e⟩ := (show ∃ t, u = Value.bytes b t from r); cases e; rfl
  | flt b => obtain ⟨t, e⟩ := (show ∃ t, u = Value.float b t from r); cases e; rfl
  | ref a => cases (show u = Value.ref a from r); rfl
  | ty n => cases (show u = Value.type n from r); rfl

section
variable {P : Program} {w : World} {H H' : Hp} {h h' : Heap} {a C dx : Addr} {fs fs' : List (Str × V)}
theorem ins_get (hok : HOk P w H h) (e : H a = some (.ins C dx fs)) : ∃ mA, ObjM h a dx C mA ∧ (∀ f, RelO (fs.lookup f) (mA f)) ∧ PySem.Within mA (fs.map (·.1)) ∧ fs.length ≤ 1000 ∧ H dx = some (.own a) := by
  obtain ⟨d, z, ne, ob, mA, n, r, q⟩ := (show ObjOk P w H h a (.ins C dx fs) from hok a _ e)
  exact ⟨mA, ⟨ob, n, ne⟩, r, q, z, d⟩
end

structure Cls (K : PySem.W.Frag) (C : Addr) : Prop where
  pg : PySem.W.plainGet K C Str.empty = true
  hd : PySem.W.hasDictIn K C = true
  po : PySem.W.plainOver K C = true
  sa : PySem.W.findIn K (.ref C) "__setattr__" = some (some (.builtin "object.__setattr__"))
theorem Cls.get {K : PySem.W.Frag} {C : Addr} (c : Cls K C) (f : Str) : PySem.W.plainGet K C f = true := c.pg
/-- no class of it has the name -/
def NoAttr (K : PySem.W.Frag) (C : Addr) (f : Str) : Prop := PySem.W.findIn K (.ref C) f = some none
theorem NoAttr.taker {K : PySem.W.Frag} {C : Addr} {f : Str} (n : NoAttr K C f) : PySem.W.takerIn K C f = some none := by
  unfold PySem.W.takerIn
  rw [show PySem.W.findIn K (.ref C) f = some none from n]
  rfl
section
variable {X : Cx} {pins : List (Addr × Obj)} {σ : St} {H : Hp} {s : Shared} {a C dx : Addr} {fs : List (Str × V)} {f : Str} {v : V} {A : Around} {E : Value → Shared → Prop}

theorem getattr_ok {b : Bool} {Q : Value → Shared → Prop} (I : Inv X pins σ H s) (e : H a = some (.ins C dx fs)) (c : Cls X.K C) (n : NoAttr X.K C f) (l : fs.lookup f = some v)
    (h : ∀ u s', Inv X pins σ H s' → RelV v u → Q u s') : wpAny (model X.prog X.w) A (getAttr (.ref a) f b) Q E s := by
  obtain ⟨mA, O, r, _, _, _⟩ := ins_get I.hok e
  obtain ⟨u, hu, ru⟩ := RelO.some_of (v := v) (o := mA f) (by rw [← l]; exact r f)
  exact get_map I.kIn O (c.get f) c.hd n hu (handed_of ru) (h u _ (I.tok _) ru)

theorem setattr_ok {y : V} {u : Value} {Q : Unit → Shared → Prop} (I : Inv X pins σ H s) (e : H a = some (.ins C dx fs)) (c : Cls X.K C) (n : NoAttr X.K C f) (hl : fs.length < 1000) (ry : RelV y u)
    (h : ∀ s', Inv X pins σ (upd H a (.ins C dx (putF f y fs))) s' → Q () s') : wpAny (model X.prog X.w) A (setAttr (.ref a) f u) Q E s := by
  obtain ⟨mA, O, r, wi, _, ho⟩ := ins_get I.hok e
  have hz : (fs.map (·.1)).length ≤ sizeLine := by rw [List.length_map, sizeLine_eq]; omega
  refine set_map I.kIn O c.sa c.po n.taker c.hd wi hz fun h' O' sb => h _ ?_
  have hd : ∃ o, h'.get? dx = some o := let ⟨o, _, _, e', _⟩ := O'.ns; ⟨o, e'⟩
  refine I.write (x := a) (e := dx) (by rw [e]; exact True.intro) (.inr ho) (fun b q hb z => (sb.2 b hb).trans z) hd ?_
  refine ⟨by rw [upd_ne O.ne]; exact ho, ?_, O.ne, O'.obj, _, O'.ns, fun g => ?_, fun g hg => ?_⟩
  · have := length_putF f y fs; omega
  · show RelO ((putF f y fs).lookup g) (if g = f then some u else mA g)
    rw [lookup_putF]
    by_cases q : g = f
    · rw [if_pos q, if_pos q]; exact ry
    · rw [if_neg q, if_neg q]; exact r g
  · by_cases q : g = f
    · rw [q]; exact (keys_putF f y fs).1
    · refine (keys_putF f y fs).2 g (wi g fun z => hg ?_)
      show (if g = f then some u else mA g) = none
      rw [if_neg q]; exact z

/-- a new instance, tracked, without attributes -/
theorem Inv.made (I : Inv X pins σ H s) : Inv X pins σ (upd (upd H s.heap.objs.size (.own (s.heap.objs.size + 1))) (s.heap.objs.size + 1) (.ins C s.heap.objs.size []))
    { s with heap := (s.heap.push PySem.W.emptyDict).push (PySem.W.instObj C s.heap.objs.size) } := by
  have e1 : (s.heap.push PySem.W.emptyDict).get? s.heap.objs.size = some PySem.W.emptyDict := Heap.get?_push_size s.heap rfl
  have e2 : ((s.heap.push PySem.W.emptyDict).push (PySem.W.instObj C s.heap.objs.size)).get? (s.heap.objs.size + 1) = some (PySem.W.instObj C s.heap.objs.size) := by
    have := Heap.get?_push_size (s.heap.push PySem.W.emptyDict) (o := PySem.W.instObj C s.heap.objs.size) rfl
    rwa [Heap.size_push] at this
  have e3 : (s.heap.push PySem.W.emptyDict).Ns s.heap.objs.size (fun _ => none) := ⟨PySem.W.emptyDict, #[], _, e1, rfl, (fun e he => absurd he (by simp)), fun _ => rfl⟩
  have I1 := I.laid (a := s.heap.objs.size) (o := .own (s.heap.objs.size + 1)) (h' := s.heap.push PySem.W.emptyDict) (t' := s.toks) (fun b u q => Heap.get?_push_of_some _ q) (Nat.le_refl _) ⟨_, e1⟩
  refine I1.laid (a := s.heap.objs.size + 1) (o := .ins C s.heap.objs.size []) (t' := s.toks) (fun b u q => Heap.get?_push_of_some _ q) (Nat.le_of_eq (Heap.size_push _ _)) ?_
  have ne : s.heap.objs.size ≠ s.heap.objs.size + 1 := Nat.ne_of_lt (Nat.lt_succ_self _)
  refine ⟨by rw [upd_ne ne, upd_same], Nat.zero_le _, ne, e2, fun _ => none, (Heap.Ns1.of_empty e3).at fun o q => Heap.get?_push_of_some _ q, fun _ => True.intro, fun y hy => absurd rfl hy⟩

/-- e.f where nothing but the object is asked: through attributeBase (super) and the last hold -/
theorem attr_of {prog : Program} {w : World} {env : Env} {e : Expr} {f : Str} {pos : Pos} {s : Shared} {Q : Value → Shared → Prop} (hb : attributeBase e f env (eval e env) = eval e env)
    (h : wpAny (model prog w) A (eval e env) (fun o s₁ => wpAny (model prog w) A (getAttr o f true) Q E s₁) E s) : wpAny (model prog w) A (eval (.Attribute e f pos) env) Q E s :=
  Attribute_any_ h (by rw [arm_eval_Attribute, hb])
end

/-- e.f, an attribute of the instance -/
def tFld (K : PySem.W.Frag) (ta : TE) (f : Str) : TE := fun σ H Q => ta σ H fun x H1 => ∃ a C dx fs v, x = .ref a ∧ H1 a = some (.ins C dx fs) ∧ Cls K C ∧ NoAttr K C f ∧ fs.lookup f = some v ∧ Q v H1
/-- e.f = value -/
def sFld (K : PySem.W.Frag) (ta tv : TE) (f : Str) : TS := fun D σ H => tv σ H fun y H1 => ta σ H1 fun x H2 => ∃ a C dx fs, x = .ref a ∧ H2 a = some (.ins C dx fs) ∧ Cls K C ∧ NoAttr K C f ∧ fs.length < 1000 ∧
  D.nx σ (upd H2 a (.ins C dx (putF f y fs)))
section
variable {X : Cx} {o e value : Expr} {f : Str} {pos pos' tpos : Pos} {ta tv : TE}
theorem pe_fld (he : PE X e ta) (hb : attributeBase e f X.env (eval e X.env) = eval e X.env) : PE X (.Attribute e f pos) (tFld X.K ta f) := by
  intro pins s σ H Q I h
  refine attr_of hb (thn (he pins s σ H _ I h) fun u s1 ⟨x, H1, I1, rx, a, C, dx, fs, v, ex, ea, c, n, l, q⟩ => ?_)
  subst ex
  obtain rfl : u = Value.ref a := rx
  exact getattr_ok I1 ea c n l fun u' s2 I2 ru => ⟨v, H1, I2, ru, q⟩
theorem ps_fld (ha : PE X o ta) (hv : PE X value tv) (hs : swapsWith value (some (.Attribute o f pos')) pos.line X.env = pure false) : PS X (.Assign [.Attribute o f pos'] value pos) (sFld X.K ta tv f) := by
  intro pins s σ H D I h
  refine plainObj_wpAny_Assign_Attribute (thn (hv pins s σ H _ I h) fun u s1 ⟨y, H1, I1, ry, q⟩ => thn (ha pins s1 σ H1 _ I1 q) fun ov s2 ⟨x, H2, I2, rx, a, C, dx, fs, ex, ea, c, n, l, q2⟩ => ?_) hs
  subst ex
  obtain rfl : ov = Value.ref a := rx
  exact setattr_ok I2 ea c n l ry fun s3 I3 => ⟨σ, _, I3, q2⟩
end

section
variable {X : Cx} {pins : List (Addr × Obj)} {σ : St} {H : Hp} {s : Shared} {A : Around} {E : Value → Shared → Prop} {Q : Value → Shared → Prop} {c : Value} {b : Bool}
/-- the type of a value, as the fragment's deciders take it; for an instance its class -/
inductive TyOf (K : PySem.W.Frag) (H : Hp) : V → Value → Prop where
  | non : TyOf K H .non (.type "NoneType")
  | bl (x : Bool) : TyOf K H (.bl x) (.type "bool")
  | int (i : Int) : TyOf K H (.int i) (.type "int")
  | str (x : Str) : TyOf K H (.str x) (.type "str")
  | flt (x : UInt64) : TyOf K H (.flt x) (.type "float")
  | lst {a : Addr} {xs : List V} (e : H a = some (.lst xs)) : TyOf K H (.ref a) (.type "list")
  | frz {a : Addr} {o : Obj} {xs : List V} (e : H a = some (.frz o (.lst xs))) : TyOf K H (.ref a) (.type "list")
  | tup {a : Addr} {xs : List V} (e : H a = some (.tup xs)) : TyOf K H (.ref a) (.type "tuple")
  | dK {a : Addr} {kvs : List (Key × V)} (e : H a = some (.dK kvs)) : TyOf K H (.ref a) (.type "dict")
  | dT {a : Addr} {kvs : List (List Key × V)} (e : H a = some (.dT kvs)) : TyOf K H (.ref a) (.type "dict")
  | ins {a C dx : Addr} {fs : List (Str × V)} (e : H a = some (.ins C dx fs)) (cl : Cls K C) (ha : PySem.W.findIn K (.ref C) "__class__" = some (some (.builtin "object.__class__")))
      (hn : PySem.W.specialIn K (.builtin "object.__class__") "__get__" = some (some (.builtin "getset_descriptor.__get__"))) (htk : PySem.W.takesIn K (.builtin "object.__class__") = some true)
      (hm : PySem.W.mroIn K C (.type "object") = some true) : TyOf K H (.ref a) (.ref C)
/-- isinstance(x, c) for one class c, a built-in or an own one: kitOne's answer -/
theorem isinst_ok {x : V} {u t : Value} (I : Inv X pins σ H s) (rx : RelV x u) (ty : TyOf X.K H x t) (e : PySem.W.kitOne X.K t c = some b) (h : ∀ tk, Q (.bool b) { s with toks := tk }) :
    wpAny (model X.prog X.w) A (call (.builtin "isinstance") [u, c]) Q E s := by
  cases ty with
  | non => cases (show u = Value.none from rx); exact PySem.W.kia_one PySem.W.kitx_none I.kIn True.intro e (fun z => nomatch z) h
  | bl y => cases (show u = Value.bool y from rx); exact PySem.W.kia_one PySem.W.kitx_bool I.kIn True.intro e (fun z => nomatch z) h
  | int i => obtain ⟨t, q⟩ := (show ∃ t, u = Value.int i t from rx); cases q; exact PySem.W.kia_one PySem.W.kitx_int I.kIn True.intro e (fun z => nomatch z) h
  | str y => obtain ⟨t, q⟩ := (show ∃ t, u = Value.str y t from rx); cases q; exact PySem.W.kia_one PySem.W.kitx_str I.kIn True.intro e (fun z => nomatch z) h
  | flt y => obtain ⟨t, q⟩ := (show ∃ t, u = Value.float y t from rx); cases q; exact PySem.W.kia_one PySem.W.kitx_float I.kIn True.intro e (fun z => nomatch z) h
  | @lst a xs ea =>
    cases (show u = Value.ref a from rx)
    obtain ⟨_, _, n, _, h1⟩ := (show ObjOk X.prog X.w H s.heap a (.lst xs) from I.hok a _ ea)
    exact PySem.W.kia_one PySem.W.kitx_list I.kIn ⟨_, h1, rfl⟩ e (fun z => nomatch z) h
  | @frz a ob xs ea =>
    cases (show u = Value.ref a from rx)
    obtain ⟨_, _, _, n, _, h1⟩ := (show ObjOk X.prog X.w H s.heap a (.frz ob (.lst xs)) from I.hok a _ ea)
    exact PySem.W.kia_one PySem.W.kitx_list I.kIn ⟨_, h1, rfl⟩ e (fun z => nomatch z) h
  | @tup a xs ea =>
    cases (show u = Value.ref a from rx)
    obtain ⟨_, _, _, p⟩ := (show ObjOk X.prog X.w H s.heap a (.tup xs) from I.hok a _ ea)
    obtain ⟨o, h1, h2, _⟩ := p
    exact PySem.W.kia_one PySem.W.kitx_tuple I.kIn ⟨o, h1, h2⟩ e (fun z => nomatch z) h
  | @dK a kvs ea =>
    cases (show u = Value.ref a from rx)
    obtain ⟨_, _, vs, _, p⟩ := (show ObjOk X.prog X.w H s.heap a (.dK kvs) from I.hok a _ ea)
    obtain ⟨o, es, ep, h1, h2, _⟩ := p
    exact PySem.W.kia_one PySem.W.kitx_dict I.kIn ⟨o, h1, h2.1⟩ e (fun z => nomatch z) h
  | @dT a kvs ea =>
    cases (show u = Value.ref a from rx)
    obtain ⟨_, _, xs, _, o, es, ep, h1, h2, _⟩ := (show ObjOk X.prog X.w H s.heap a (.dT kvs) from I.hok a _ ea)
    exact PySem.W.kia_one PySem.W.kitx_dict I.kIn ⟨o, h1, h2.1⟩ e (fun z => nomatch z) h
  | @ins a C dx fs ea cl ha hn htk hm =>
    cases (show u = Value.ref a from rx)
    obtain ⟨mA, O, _⟩ := ins_get I.hok ea
    obtain ⟨od, J, _⟩ := O.look
    exact PySem.W.kia_one (PySem.W.kitx_own (cl.get _) cl.hd ha hn htk hm) I.kIn J e (fun z => nomatch z) h
end
end L2

namespace L2
open PySem PySem.Spec PyProof.Rows

structure Room (k : Nat) (A : Around) : Prop where
  hd : A.handled = none
  dp : A.depth + 3 * k + 5 < recursionLimit
  un : A.units + 16 * k + 200 < cLine
theorem Room.mono {j k : Nat} {A : Around} (r : Room k A) (h : j ≤ k) : Room j A := ⟨r.hd, by have := r.dp; omega, by have := r.un; omega⟩
theorem Room.deeper {k : Nat} {A : Around} (r : Room (k + 1) A) (env : Env) : Room k (A.deeper env) :=
  ⟨r.hd, by have := r.dp; show A.depth + 1 + 3 * k + 5 < _; omega, by have := r.un; show A.units + 3 + 16 * k + 200 < _; omega⟩
theorem make_depth {A : Around} {C : Addr} {us : List Value} {kw : List (Str × Value)} : (A.under (.builtin "type.__call__" ⟨.ref C :: us, kw⟩)).depth = A.depth + 1 := by
  first | rfl | simp [Around.under, Code.weight, Code.isCreation, Code.isGuard, Code.isCaller, Code.frames, Code.isFrame, guardIds]
theorem make_units {A : Around} {C : Addr} {us : List Value} {kw : List (Str × Value)} : (A.under (.builtin "type.__call__" ⟨.ref C :: us, kw⟩)).units = A.units + 1 := by
  first | rfl | simp [Around.under, Code.cUnits, Code.frames, Code.isFrame]
theorem Room.make {k : Nat} {A : Around} (r : Room (k + 1) A) (C : Addr) (us : List Value) (kw : List (Str × Value)) : Room k (A.under (.builtin "type.__call__" ⟨.ref C :: us, kw⟩)) :=
  ⟨r.hd, by have := r.dp; rw [make_depth]; omega, by have := r.un; rw [make_units]; omega⟩
theorem Room.depth {k : Nat} {A : Around} (r : Room k A) : A.depth < recursionLimit := by have := r.dp; omega
theorem Room.units {k : Nat} {A : Around} (r : Room k A) : A.units + 64 < cLine := by have := r.un; omega
theorem Room.units0 {k : Nat} {A : Around} (r : Room k A) : A.units < cLine := by have := r.un; omega

def tNil : TA := fun _ H Q => Q [] H
def tCons (ta : TE) (tr : TA) : TA := fun σ H Q => ta σ H fun x H1 => tr σ H1 fun xs H2 => Q (x :: xs) H2
section
variable {X : Cx} {e : Expr} {es : List Expr} {te : TE} {t : TA} {pos : Pos}
theorem pa_nil : PA X [] tNil := fun _ _ _ _ H Q I h => Calls.spliced_nil ⟨[], H, I, .nil, h⟩
theorem pa_cons (ha : PE X e te) (hr : PA X es t) (hs : starEach (e :: es) X.env = (false, eval e X.env) :: starEach es X.env := by rfl) : PA X (e :: es) (tCons te t) := by
  intro pos pins s σ H Q I h
  rw [hs]
  show wpAny _ _ (spliced ((false, eval e X.env) :: backTo pos (starEach es X.env))) _ _ s
  refine Calls.spliced_cons (thn (ha pins s σ H _ I h) fun u s1 ⟨x, H1, I1, r1, q1⟩ => ?_)
  exact thn (hr pos pins s1 σ H1 _ I1 q1) fun us s2 ⟨xs, H2, I2, r2, q2⟩ => ⟨x :: xs, H2, I2, .cons r1 r2, q2⟩

/-- a tuple, a list of written items -/
def tTup (t : TA) : TE := fun σ H Q => t σ H fun xs H1 => xs.length ≤ sizeLine ∧ ∀ p, H1 p = none → Q (.ref p) (upd H1 p (.tup xs))
def tLst (t : TA) : TE := fun σ H Q => t σ H fun xs H1 => xs.length ≤ sizeLine ∧ ∀ p, H1 p = none → Q (.ref p) (upd H1 p (.lst xs))
theorem pe_tup {x1} (h : PA X es t) : PE X (.Tuple es x1 pos) (tTup t) := by
  intro pins s σ H Q I hq
  refine wpAny_Tuple_spliced (thn (h pos pins s σ H _ I hq) fun us s1 ⟨xs, H1, I1, r, z, q⟩ => ⟨by rw [← r.length]; exact z, ?_⟩)
  have hf : H1 s1.heap.objs.size = none := I1.hok.fresh (Nat.le_refl _)
  refine ⟨.ref s1.heap.objs.size, upd H1 s1.heap.objs.size (.tup xs), I1.laid (t' := s1.toks) (fun b u e => Heap.get?_push_of_some _ e) (Nat.le_refl _) ?_, rfl, q _ hf⟩
  exact ⟨z, us, r, ⟨_, Heap.get?_push_size _ rfl, rfl, _, rfl⟩⟩
theorem pe_lst (h : PA X es t) : PE X (.List es pos) (tLst t) := by
  intro pins s σ H Q I hq
  refine wpAny_List_spliced (thn (h pos pins s σ H _ I hq) fun us s1 ⟨xs, H1, I1, r, z, q⟩ => ⟨by rw [← r.length]; exact z, ?_⟩)
  have hf : H1 s1.heap.objs.size = none := I1.hok.fresh (Nat.le_refl _)
  refine ⟨.ref s1.heap.objs.size, upd H1 s1.heap.objs.size (.lst xs), I1.laid (t' := s1.toks) (fun b u e => Heap.get?_push_of_some _ e) (Nat.le_refl _) ?_, rfl, q _ hf⟩
  exact ⟨z, us, 0, r, Heap.get?_push_size _ rfl⟩
end

/-- a def's promise: the bound arguments in the parameters' order, the heap, the wanted end, the wanted exception -/
abbrev Sp := List V → Hp → VK → XK → Prop
/-- how an exception lies behind a call (file 08 gives it): the callers' frames, abstract heap and state ahead of the call, the wish, the exception, the state -/
abbrev CXT := List Env → Hp → Shared → XK → Value → Shared → Prop

/-- the state at a call -/
structure Env0 (P : Program) (w : World) (K : PySem.W.Frag) (mg : Str → Option Value) (base : Heap) (A : Around) (outer : List Env) (s : Shared) (H : Hp) : Prop where
  frames : A.frames = some outer
  mod : Mod K mg base
  bs : ∀ b o, base.get? b = some o → s.heap.get? b = some o ∧ H b = none
  bsz : base.objs.size ≤ s.heap.objs.size
  funs : s.heap.FunFrames base outer
  frf : ∀ b ∈ frs outer, H b = none
  hok : HOk P w H s.heap
  bare : AllBare s.gens
/-- a call's end -/
def CE (outer : List Env) (P : Program) (w : World) (H : Hp) (s : Shared) (Q : VK) (u : Value) (s' : Shared) : Prop :=
  ∃ v H', s'.os = s.os ∧ AllBare s'.gens ∧ Un (frs outer) [] H H' s.heap s'.heap ∧ HOk P w H' s'.heap ∧ RelV v u ∧ Q v H'
def CR (CX : CXT) (outer : List Env) (P : Program) (w : World) (H : Hp) (s : Shared) (Q : VK) (E : XK) (r : Result) (s' : Shared) : Prop :=
  match r with
  | .ok (.ret u) => CE outer P w H s Q u s'
  | .ok _ => False
  | .error e => CX outer H s E e s'
structure FnOk (P : Program) (w : World) (K : PySem.W.Frag) (mg : Str → Option Value) (base : Heap) (CX : CXT) (k : Nat) (f : Addr) (fd : FuncData) (ps : List Str) (sp : Sp) : Prop where
  len : ∀ vs H Q E, sp vs H Q E → vs.length = ps.length
  run : ∀ (A : Around) (outer : List Env) (s : Shared) (H : Hp) (args : Args) (us : List Value) (vs : List V) (Q : VK) (E : XK), Room k A → Env0 P w K mg base A outer s H → BindsTo s fd args (ps.zip us) → Vals vs us → sp vs H Q E →
    codeAny (model P w) A (.call (.ref f) args) (CR CX outer P w H s Q E) s
theorem Env0.make {P : Program} {w : World} {K : PySem.W.Frag} {mg : Str → Option Value} {base : Heap} {A : Around} {outer : List Env} {s : Shared} {H : Hp} (e : Env0 P w K mg base A outer s H) (C : Addr) (us : List Value) (kw : List (Str × Value)) :
    Env0 P w K mg base (A.under (.builtin "type.__call__" ⟨.ref C :: us, kw⟩)) outer s H := ⟨by first | exact e.frames | (simpa [Around.under, Code.envs, Code.isFrame, pushEnvs] using e.frames), e.mod, e.bs, e.bsz, e.funs, e.frf, e.hok, e.bare⟩
section
variable {X : Cx} {pins : List (Addr × Obj)} {σ : St} {H : Hp} {s s' : Shared}
/-- from a body: what a callee wants -/
theorem Inv.env0 (I : Inv X pins σ H s) : Env0 X.prog X.w X.K X.mg X.base X.A X.stack s H :=
  ⟨I.ok.frames, I.ok.mod, I.bs, Nat.le_trans I.ok.bsz I.sz, I.stack, I.stkFree, I.hok, I.bare⟩
/-- behind a call -/
theorem Inv.after {Q : VK} {u : Value} (I : Inv X pins σ H s) (h : CE X.stack X.prog X.w H s Q u s') : EP X pins σ Q u s' := by
  obtain ⟨v, H', os, bare, un, hok, r, q⟩ := h
  obtain ⟨hh, g, d, t, os'⟩ := s'
  obtain rfl : os' = s.os := os
  exact ⟨v, H', I.call (h' := hh) (g' := g) (d' := d) (t' := t) (ch := []) un hok bare (fun b z => absurd z (by simp)), r, q⟩
end

/-- f(..): the written arguments, then the defaults dvs; E: what is wanted of an exception -/
def tCall (sp : Sp) (dvs : List V) (E : XK) (t : TA) : TE := fun σ H Q => t σ H fun vs H1 => sp (vs ++ dvs) H1 Q E
/-- C(..): a new instance and its dict, then __init__ -/
def tMake (C : Addr) (sp : Sp) (dvs : List V) (E : XK) (t : TA) : TE := fun σ H Q => t σ H fun vs H1 => ∀ x dx, H1 x = none → H1 dx = none → dx ≠ x →
  sp (.ref x :: (vs ++ dvs)) (upd (upd H1 dx (.own x)) x (.ins C dx [])) (fun v H2 => v = .non ∧ Q (.ref x) H2) E

/-- how the parameters are bound: us the positional arguments, kw the keywords' values by name, ds the defaults that fill up -/
def Binds (K : PySem.W.Frag) (fd : FuncData) (ps : List Str) (ds : List Value) : Prop :=
  ∀ (s : Shared) (us : List Value), K.In s.heap → (us ++ ds).length = ps.length → BindsTo s fd ⟨us, []⟩ (ps.zip (us ++ ds))
/-- every parameter is given -/
theorem Binds.all {K : PySem.W.Frag} {fd : FuncData} {ps : List Str} (h : ∀ us : List Value, us.length = ps.length → bindArgs fd ⟨us, []⟩ = pure (ps.zip us)) : Binds K fd ps [] := fun s us _ hl => by
  rw [List.append_nil] at hl ⊢
  exact .of_eq (h us hl)

/-- an exception of a callee reaches what this body wants of exceptions -/
def Passes (CX : CXT) (X : Cx) (E : XK) : Prop := ∀ (pins : List (Addr × Obj)) (σ : St) (H : Hp) (s : Shared) (e : Value) (s' : Shared), Inv X pins σ H s → CX X.stack H s E e s' → X.xe e s'

section
variable {X : Cx} {CX : CXT} {k : Nat} {f C : Addr} {fd : FuncData} {ps : List Str} {sp : Sp} {dvs : List V} {ds : List Value} {E : XK} {x m : Str} {p pos apos : Pos} {e o : Expr} {es : List Expr} {ta : TE} {t : TA}

/-- the callee runs -/
theorem run_fn {pins : List (Addr × Obj)} {σ : St} {H : Hp} {s : Shared} {Q : VK} {us : List Value} {vs : List V} (F : FnOk X.prog X.w X.K X.mg X.base CX k f fd ps sp) (hr : Room k X.A) (hb : Binds X.K fd ps ds) (hd : Vals dvs ds) (hx : Passes CX X E)
    (I : Inv X pins σ H s) (r : Vals vs us) (h : sp (vs ++ dvs) H Q E) : wpAny (model X.prog X.w) X.A (call (.ref f) us) (EP X pins σ Q) X.xe s := by
  have r2 : Vals (vs ++ dvs) (us ++ ds) := r.append hd
  have hl : (us ++ ds).length = ps.length := by rw [← r2.length]; exact F.len _ _ _ _ h
  refine wpAny_call (codeAny_mono (F.run X.A X.stack s H ⟨us, []⟩ (us ++ ds) (vs ++ dvs) Q E hr I.env0 (hb s us I.kIn hl) r2 h) fun r s' hq => ?_)
  cases r with
  | error e => exact hx pins σ H s e s' I hq
  | ok fl =>
    cases fl with
    | ret u => exact I.after hq
    | next => exact False.elim hq
    | brk => exact False.elim hq
    | cont => exact False.elim hq

theorem pe_call (F : FnOk X.prog X.w X.K X.mg X.base CX k f fd ps sp) (hr : Room k X.A) (hg : Gl X x) (hm : X.mg x = some (.ref f)) (hk : PySem.W.keepIn X.K (.ref f) = true) (hb : Binds X.K fd ps ds) (hd : Vals dvs ds) (hx : Passes CX X E)
    (ha : PA X (e :: es) t) (hdb : (x == ("__debug__" : Str)) = false := by decide) (he : starEach (e :: es) X.env = (false, eval e X.env) :: starEach es X.env := by rfl) (hpl : (backTo pos (starEach es X.env)).any (·.1) = false := by rfl) :
    PE X (.Call (.Name x p) (e :: es) [] pos) (tCall sp dvs E t) := by
  intro pins s σ H Q I h
  refine wpAny_Call_Name_kw (ld_glob I hg hm ?_ hdb)
  refine PySem.W.callWith_K (h₀ := X.base) I.ok.mod.kin hk (thn (ha pos pins s σ H _ I h) fun us s1 ⟨vs, H1, I1, r, q⟩ => ⟨I1.kIn, ?_⟩) he hpl
  exact run_fn F hr hb hd hx I1 r q
/-- what a class must have to be made -/
structure Mk (K : PySem.W.Frag) (C f : Addr) : Prop where
  makes : PySem.W.makesIn K C = true
  init : PySem.W.findIn K (.ref C) "__init__" = some (some (.ref f))
  fn : PySem.W.isFn K (.ref f) = true
  kp : PySem.W.keepIn K (.ref C) = true

theorem run_make {pins : List (Addr × Obj)} {σ : St} {H : Hp} {s : Shared} {Q : VK} {us : List Value} {vs : List V} (M : Mk X.K C f) (F : FnOk X.prog X.w X.K X.mg X.base CX k f fd ps sp) (hr : Room (k + 1) X.A) (hb : Binds X.K fd ps ds) (hd : Vals dvs ds)
    (hx : Passes CX X E) (I : Inv X pins σ H s) (r : Vals vs us)
    (h : ∀ x dx, H x = none → H dx = none → dx ≠ x → sp (.ref x :: (vs ++ dvs)) (upd (upd H dx (.own x)) x (.ins C dx [])) (fun v H2 => v = .non ∧ Q (.ref x) H2) E) :
    wpAny (model X.prog X.w) X.A (call (.ref C) us) (EP X pins σ Q) X.xe s := by
  have hq := h (s.heap.objs.size + 1) s.heap.objs.size (I.hok.fresh (Nat.le_succ _)) (I.hok.fresh (Nat.le_refl _)) (Nat.ne_of_lt (Nat.lt_succ_self _))
  have I2 := Inv.made (C := C) I
  have r2 : Vals (V.ref (s.heap.objs.size + 1) :: (vs ++ dvs)) (Value.ref (s.heap.objs.size + 1) :: (us ++ ds)) := .cons rfl (r.append hd)
  have hl : (Value.ref (s.heap.objs.size + 1) :: us ++ ds).length = ps.length := by
    have e := r2.length
    rw [F.len _ _ _ _ hq] at e
    exact e.symm
  refine wpAny_call (make_map (f := f) I.kIn M.makes M.init (beq_iff_eq.mp M.fn) (codeAny_mono (F.run _ X.stack _ _ ⟨Value.ref (s.heap.objs.size + 1) :: us, []⟩ (Value.ref (s.heap.objs.size + 1) :: (us ++ ds)) _ _ E (hr.make C us [])
    (I2.env0.make C us []) (hb _ (Value.ref (s.heap.objs.size + 1) :: us) I2.kIn hl) r2 hq) fun r s' hq' => ?_))
  cases r with
  | error e => exact hx pins σ _ _ e s' I2 hq'
  | ok fl =>
    cases fl with
    | ret u =>
      obtain ⟨v, H', I3, rv, ev, q3⟩ := I2.after hq'
      subst ev
      exact ⟨rv, ⟨V.ref (s.heap.objs.size + 1), H', I3, rfl, q3⟩⟩
    | next => exact False.elim hq'
    | brk => exact False.elim hq'
    | cont => exact False.elim hq'
theorem pe_make (M : Mk X.K C f) (F : FnOk X.prog X.w X.K X.mg X.base CX k f fd ps sp) (hr : Room (k + 1) X.A) (hg : Gl X x) (hm : X.mg x = some (.ref C)) (hb : Binds X.K fd ps ds) (hd : Vals dvs ds) (hx : Passes CX X E)
    (ha : PA X (e :: es) t) (hdb : (x == ("__debug__" : Str)) = false := by decide) (he : starEach (e :: es) X.env = (false, eval e X.env) :: starEach es X.env := by rfl) (hpl : (backTo pos (starEach es X.env)).any (·.1) = false := by rfl) :
    PE X (.Call (.Name x p) (e :: es) [] pos) (tMake C sp dvs E t) := by
  intro pins s σ H Q I h
  refine wpAny_Call_Name_kw (ld_glob I hg hm ?_ hdb)
  refine PySem.W.callWith_K (h₀ := X.base) I.ok.mod.kin M.kp (thn (ha pos pins s σ H _ I h) fun us s1 ⟨vs, H1, I1, r, q⟩ => ⟨I1.kIn, ?_⟩) he hpl
  exact run_make M F hr hb hd hx I1 r q
end

section
variable {X : Cx} {CX : CXT} {k : Nat} {f C : Addr} {fd : FuncData} {ps ks : List Str} {sp : Sp} {E : XK} {x m : Str} {p pos apos kpos : Pos} {e o : Expr} {es : List Expr} {kws : List Keyword} {te ta : TE} {t tk : TA} {nm : Option Str}
variable {g : List Value → List Value → List Value} {gV : List V → List V → List V}
end

/-- names: the parameters first -/
structure FnScope (N P : List Str) (sc : Scope) : Prop where
  kind : sc.kind = .function
  co : sc.isCoroutine = false
  gen : sc.isGenerator = false
  nd : N.Nodup
  pre : N.take P.length = P
  par : ∀ x ∈ P, sc.names.lookup x = some .local ∨ sc.names.lookup x = some .cell
  nofree : ∀ y ∈ sc.names, y.2 ≠ .free

theorem bindL_out {kindOf : Str → Option NameKind} {x : Str} : ∀ {binds : List (Str × Value)} {m : Str → Option Value}, (∀ v, (x, v) ∉ binds) → bindL kindOf binds m x = m x
  | [], _, _ => rfl
  | (n, v) :: r, m, h => by
    unfold bindL
    rw [bindL_out fun w hw => h w (List.mem_cons_of_mem _ hw)]
    split
    · have : x ≠ n := by rintro rfl; exact h v List.mem_cons_self
      simp [this]
    · rfl
theorem bindC_out {kindOf : Str → Option NameKind} {x : Str} : ∀ {binds : List (Str × Value)} {m : Str → Option Value}, (∀ v, (x, v) ∉ binds) → bindC kindOf binds m x = m x
  | [], _, _ => rfl
  | (n, v) :: r, m, h => by
    unfold bindC
    rw [bindC_out fun w hw => h w (List.mem_cons_of_mem _ hw)]
    split
    · rfl
    · have : x ≠ n := by rintro rfl; exact h v List.mem_cons_self
      simp [this]
theorem bindL_get {kindOf : Str → Option NameKind} {x : Str} {v : Value} : ∀ {P : List Str} {vs : List Value} {i : Nat} {m : Str → Option Value}, P.Nodup → P[i]? = some x → vs[i]? = some v → kindOf x = some .local →
    bindL kindOf (P.zip vs) m x = some v
  | [], _, _, _, _, h, _, _ => by simp at h
  | _ :: _, [], _, _, _, _, h, _ => by simp at h
  | p :: P, w :: vs, 0, m, nd, h1, h2, hk => by
    simp at h1 h2; subst h1; subst h2
    show bindL kindOf ((p, w) :: P.zip vs) m p = _
    unfold bindL
    rw [bindL_out fun v hv => (List.nodup_cons.mp nd).1 (List.of_mem_zip hv).1, if_pos hk]
    simp
  | p :: P, w :: vs, i + 1, m, nd, h1, h2, hk => by
    show bindL kindOf ((p, w) :: P.zip vs) m x = _
    unfold bindL
    exact bindL_get (i := i) (List.nodup_cons.mp nd).2 (by simpa using h1) (by simpa using h2) hk
theorem bindC_get {kindOf : Str → Option NameKind} {x : Str} {v : Value} : ∀ {P : List Str} {vs : List Value} {i : Nat} {m : Str → Option Value}, P.Nodup → P[i]? = some x → vs[i]? = some v → kindOf x ≠ some .local →
    bindC kindOf (P.zip vs) m x = some v
  | [], _, _, _, _, h, _, _ => by simp at h
  | _ :: _, [], _, _, _, _, h, _ => by simp at h
  | p :: P, w :: vs, 0, m, nd, h1, h2, hk => by
    simp at h1 h2; subst h1; subst h2
    show bindC kindOf ((p, w) :: P.zip vs) m p = _
    unfold bindC
    rw [bindC_out fun v hv => (List.nodup_cons.mp nd).1 (List.of_mem_zip hv).1, if_neg hk]
    simp
  | p :: P, w :: vs, i + 1, m, nd, h1, h2, hk => by
    show bindC kindOf ((p, w) :: P.zip vs) m x = _
    unfold bindC
    exact bindC_get (i := i) (List.nodup_cons.mp nd).2 (by simpa using h1) (by simpa using h2) hk

/-- the names' values at the entry -/
def start (N : List Str) (vs : List V) : St := vs.map some ++ List.replicate (N.length - vs.length) none

/-- the context of a def's body, at its entry; an exception leaves the frame, then lies as CX says -/
def cxOf (CX : CXT) (P : Program) (w : World) (K : PySem.W.Frag) (mg : Str → Option Value) (base : Heap) (N : List Str) (qual : Str) (scope : Scope) (f : Addr) (cd : Value) (A : Around) (outer : List Env) (s : Shared) (H : Hp) (E : XK) : Cx where
  prog := P
  w := w
  K := K
  mg := mg
  base := base
  A := A.deeper (envOfC qual scope s.heap.objs.size f cd)
  N := N
  s₀ := s
  H₀ := H
  env := envOfC qual scope s.heap.objs.size f cd
  outer := outer
  stack := envOfC qual scope s.heap.objs.size f cd :: outer
  ex := []
  calm := true
  fn := fun _ => true
  pn := []
  xe := fun e s' => wpAny (model P w) (A.deeper (envOfC qual scope s.heap.objs.size f cd)) (leaving (envOfC qual scope s.heap.objs.size f cd) e) (fun _ s'' => CX outer H s E e s'') (fun e' s'' => CX outer H s E e' s'') s'

theorem cell_has {sc : Scope} {n : Nat} {x : Str} (h : sc.names.lookup x = some .cell) : ∃ c, (cellsFrom n sc.names []).lookup x = some c := by
  have q := PySem.W.cellsFrom_some sc.names n [] (.inl h)
  exact Option.isSome_iff_exists.mp q

theorem inv_start {CX : CXT} {P : Program} {w : World} {K : PySem.W.Frag} {mg : Str → Option Value} {base : Heap} {N ps : List Str} {qual : Str} {scope : Scope} {f : Addr} {cd : Value} {A : Around} {outer : List Env} {s s1 : Shared} {H : Hp} {E : XK} {us : List Value} {vs : List V}
    (S : FnScope N ps scope) (hd : A.handled = none) (e0 : Env0 P w K mg base A outer s H) (hl : vs.length = ps.length) (r : Vals vs us)
    (x : InCallC s s.heap.objs.size (bindL (envOfC qual scope s.heap.objs.size f cd).kindOf (ps.zip us) fun _ => none) (cellsFrom (s.heap.objs.size + 1) scope.names []) (bindC (envOfC qual scope s.heap.objs.size f cd).kindOf (ps.zip us) fun _ => none) s1) :
    Inv (cxOf CX P w K mg base N qual scope f cd A outer s H E) [] (start N vs) H s1 := by
  have hpl : ps.length ≤ N.length := by have := congrArg List.length S.pre; rw [List.length_take] at this; omega
  obtain ⟨h1, tk, rfl, hk⟩ := x.done
  have noA : ∀ b : Addr, b ∉ (cxOf CX P w K mg base N qual scope f cd A outer s H E).ex := fun b z => absurd (show b ∈ ([] : List Addr) from z) (by simp)
  refine ⟨⟨e0.mod, S.kind, rfl, rfl, Nat.le_refl _, fun y z c h1 h2 => ?_, fun y hy => ?_, fun y c _ h => ?_, fun _ => hd, Around.frames_deeper e0.frames, .inr ⟨rfl, rfl⟩, fun b z => absurd z (noA b), e0.bs, e0.bsz, fun b _ _ => noA b, fun b z => absurd z (noA b), e0.funs, e0.frf⟩,
    rfl, e0.bare, Un.kept hk, ⟨_, x.toInCall.ns, fun i y v h1 h2 h3 => ?_⟩, fun y c h => ⟨_, x.cell y c h⟩, e0.hok.fresh (Nat.le_refl _), fun y c h => ?_, fun p hp => absurd (show p ∈ ([] : List (Addr × Obj)) from hp) (by simp), e0.hok.kept hk, ?_⟩
  · exact name_of_addr x.apart (PySem.mem_of_lookup h1) (PySem.mem_of_lookup h2)
  · have hy : scope.names.lookup y = some .cell ∨ scope.names.lookup y = some .free := hy
    rcases hy with hy | hy
    · exact cell_has hy
    · exact absurd rfl (S.nofree _ (PySem.mem_of_lookup hy))
  · exact Nat.le_of_lt (x.above y c (PySem.mem_of_lookup h))
  · have hi : i < vs.length := by
      unfold start at h2
      by_cases hi : i < vs.length
      · exact hi
      · rw [List.getElem?_append_right (by simpa using hi)] at h2
        rw [List.getElem?_replicate] at h2
        split at h2 <;> cases h2
    have ha : vs[i]? = some v := by
      unfold start at h2
      rw [List.getElem?_append_left (by simpa using hi), List.getElem?_map] at h2
      cases e : vs[i]? with
      | none => rw [e] at h2; cases h2
      | some a => rw [e] at h2; cases h2; rfl
    obtain ⟨u, hu, rv⟩ := r.get ha
    have hp : ps[i]? = some y := by
      rw [← S.pre, List.getElem?_take_of_lt (by omega)]; exact h1
    have ndP : ps.Nodup := by rw [← S.pre]; exact S.nd.sublist (List.take_sublist _ _)
    refine ⟨u, rv, ?_⟩
    rcases S.par y (List.mem_of_getElem? hp) with k | k
    · exact .inl ⟨k, bindL_get ndP hp hu k⟩
    · obtain ⟨c, e⟩ := cell_has (n := s.heap.objs.size + 1) k
      refine .inr ⟨.inl k, c, e, ?_⟩
      have q := x.cell y c e
      rw [bindC_get ndP hp hu (by show scope.names.lookup y ≠ _; rw [k]; decide)] at q
      exact q
  · exact e0.hok.fresh (Nat.le_of_lt (x.above y c (PySem.mem_of_lookup h)))
  · unfold start
    show _ = N.length
    rw [List.length_append, List.length_map, List.length_replicate]
    omega

/-- THE RULE: a def (or a method) of the text, by its body. The body's reading t is chosen for each entry; it is run at the parameters' values -/
theorem fn_of {CX : CXT} {P : Program} {w : World} {K : PySem.W.Frag} {mg : Str → Option Value} {base : Heap} {k : Nat} {f : Addr} {name qual : Str} {params : Arguments} {body : List Stmt} {scope : Scope} {dV kV doc pm cdv ct oc : Value} {an od : Option Addr}
    {osl : Array (Option Value)} {N ps : List Str} {sp : Sp} (lk : K.lookup f = some ⟨oc, od, .func (PySem.W.fnOf name qual params body scope dV kV doc pm an cdv ct), osl⟩) (hcd : PySem.W.codeIn K cdv qual = true) (S : FnScope N ps scope)
    (len : ∀ vs H Q E, sp vs H Q E → vs.length = ps.length)
    (hbody : ∀ (A : Around) (outer : List Env) (s : Shared) (H : Hp) (vs : List V) (Q : VK) (E : XK), Room k (A.deeper (envOfC qual scope s.heap.objs.size f cdv)) → sp vs H Q E →
      ∃ t, PSs (cxOf CX P w K mg base N qual scope f cdv A outer s H E) body t ∧ t { nx := fun _ H' => Q .non H', rt := Q } (start N vs) H) :
    FnOk P w K mg base CX (k + 1) f (PySem.W.fnOf name qual params body scope dV kV doc pm an cdv ct) ps sp := by
  refine ⟨len, fun A outer s H args us vs Q E hr e0 hb r hsp => ?_⟩
  have hl := len _ _ _ _ hsp
  have KX : K.In s.heap := e0.mod.kin.keeps fun b o e => (e0.bs b o e).1
  have lim : s.heap.NoLimit := e0.mod.nolimit.keeps fun b o e => (e0.bs b o e).1
  have hkind : ∀ y ∈ ps.zip us, scope.names.lookup y.1 = some .local ∨ (scope.names.lookup y.1 = some .cell ∧ ((cellsFrom (s.heap.objs.size + 1) scope.names []).lookup y.1).isSome = true) := fun ⟨n, v⟩ hy => by
    rcases S.par n (List.of_mem_zip hy).1 with q | q
    · exact .inl q
    · exact .inr ⟨q, PySem.W.cellsFrom_some _ _ _ (.inl q)⟩
  refine codeAny_call_function hr.depth (KX _ _ lk) rfl S.co S.gen rfl (PySem.W.codeRec_of KX hcd) (hb _ _ _ _ ?_)
  refine wpAny_newFunctionEnv_cells S.kind hkind fun env he s1 x => ?_
  subst he
  refine ⟨lim.keeps x.toInCall.keep, codeAny_func ?_⟩
  obtain ⟨t, ht, hq⟩ := hbody A outer s H vs Q E (hr.deeper _) hsp
  have I : Inv (cxOf CX P w K mg base N qual scope f cdv A outer s H E) [] (start N vs) H s1 := inv_start S hr.hd e0 hl r x
  refine wpAny_mono (ht [] s1 (start N vs) H _ I hq) (fun fl s' hs => ?_) fun e s' hs => hs
  have fin : ∀ {σ' : St} {H' : Hp} {v : V} {u : Value}, Inv (cxOf CX P w K mg base N qual scope f cdv A outer s H E) [] σ' H' s' → RelV v u → Q v H' → CE outer P w H s Q u s' :=
    fun {σ' H' v u} J rv q => ⟨v, H', J.os, J.bare, J.base, J.hok, rv, q⟩
  cases fl with
  | ret u =>
    obtain ⟨v, σ', H', J, rv, q⟩ := hs
    exact fin J rv q
  | next =>
    obtain ⟨σ', H', J, q⟩ := hs
    exact fin (v := V.non) (u := Value.none) J rfl q
  | brk =>
    obtain ⟨_, _, _, q⟩ := hs
    exact False.elim q
  | cont =>
    obtain ⟨_, _, _, q⟩ := hs
    exact False.elim q
end L2

namespace L2
open PySem PySem.Spec PyProof.Rows
section
variable {X : Cx} {x : Str} {p pos : Pos} {e : Expr} {es : List Expr} {t : TA} {id T : String} {r : List V → Hp → VK → Prop}

def tCB (r : List V → Hp → VK → Prop) (t : TA) : TE := fun σ H Q => t σ H fun vs H1 => r vs H1 Q
/-- f(e, ..), f a built-in function -/
theorem pe_callB (hc : CallR X (.builtin id) r) (hg : Gl X x) (hm : X.mg x = none) (hv : bootBuiltins x = some (.builtin id)) (ha : PA X (e :: es) t) (hn : x ≠ "__name__" := by decide) (hdb : (x == ("__debug__" : Str)) = false := by decide)
    (he : starEach (e :: es) X.env = (false, eval e X.env) :: starEach es X.env := by rfl) (hpl : (backTo pos (starEach es X.env)).any (·.1) = false := by rfl) : PE X (.Call (.Name x p) (e :: es) [] pos) (tCB r t) := by
  intro pins s σ H Q I h
  refine wpAny_Call_Name_kw (ld_blt I hg hm hv ?_ hn hdb)
  exact PyProof.Rows.callWith_builtin1 (thn (ha pos pins s σ H _ I h) fun us s1 ⟨vs, H1, I1, r1, q1⟩ => hc pins s1 σ H1 vs us Q I1 r1 q1) he hpl
/-- T(e, ..), T a built-in type -/
theorem pe_callTy (hc : CallR X (.type T) r) (hg : Gl X x) (hm : X.mg x = none) (hv : bootBuiltins x = some (.type T)) (ha : PA X (e :: es) t) (hn : x ≠ "__name__" := by decide) (hdb : (x == ("__debug__" : Str)) = false := by decide)
    (he : starEach (e :: es) X.env = (false, eval e X.env) :: starEach es X.env := by rfl) (hpl : (backTo pos (starEach es X.env)).any (·.1) = false := by rfl) : PE X (.Call (.Name x p) (e :: es) [] pos) (tCB r t) := by
  intro pins s σ H Q I h
  refine wpAny_Call_Name_kw (ld_blt I hg hm hv ?_ hn hdb)
  exact PyProof.Rows.callWith_type1 (thn (ha pos pins s σ H _ I h) fun us s1 ⟨vs, H1, I1, r1, q1⟩ => hc pins s1 σ H1 vs us Q I1 r1 q1) he hpl
end
end L2

namespace HT
open PySem PyProof.Rows

section
open PySem.SeqAt
open PySem.AutoSeq1 (wpAny_loadPart')
open PySem.MeetsSeq PySem.MeetsSeq2 PySem.MeetsSeq3

end

section
variable {prog : Program} {w : World} {A : Around} {E : Value → Shared → Prop} {s : Shared}

/-- a slice's bound as a place among n (d where it is left out) -/
def sIx (n d : Nat) : Option Int → Nat
  | none => d
  | some v => if v < 0 then (v + (n : Int)).toNat else min v.toNat n
theorem sIx_none (n d : Nat) : sIx n d none = d := rfl
theorem sIx_nat (n d k : Nat) : sIx n d (some (k : Int)) = min k n := by
  show (if (k : Int) < 0 then ((k : Int) + (n : Int)).toNat else min (k : Int).toNat n) = min k n
  rw [if_neg (by omega), Int.toNat_natCast]
end
end HT

namespace L2
open PySem PySem.Spec PyProof.Rows

abbrev TO := St → Hp → (Option Int → Hp → Prop) → Prop
/-- a slice's part (left out, or an int) -/
def PO (X : Cx) (e : Option Expr) (t : TO) : Prop :=
  ∀ (pins : List (Addr × Obj)) (s : Shared) (σ : St) (H : Hp) (Q : Option Int → Hp → Prop), Inv X pins σ H s → t σ H Q →
    wpAny (model X.prog X.w) X.A (evalPart e X.env) (fun u s' => ∃ o H', Inv X pins σ H' s' ∧ IsPart u o ∧ Q o H') X.xe s
def tNoPart : TO := fun _ H Q => Q none H
def tPart (t : TE) : TO := fun σ H Q => t σ H fun x H1 => ∃ i, x = .int i ∧ Q (some i) H1

section
variable {X : Cx} {e : Expr} {te : TE} {lo hi : Option Expr} {tl th : TO} {pos p2 : Pos}

theorem po_none : PO X none tNoPart := by
  intro pins s σ H Q I h
  rw [evalPart_none]
  exact wpAny_pure ⟨none, H, I, .none, h⟩
theorem po_some (h : PE X e te) : PO X (some e) (tPart te) := by
  intro pins s σ H Q I hw
  rw [evalPart_some]
  refine thn (h pins s σ H _ I hw) fun u s1 ⟨x, H1, I1, r1, q1⟩ => ?_
  obtain ⟨i, rfl, q⟩ := q1
  obtain ⟨t, rfl⟩ := r1
  exact ⟨some i, H1, I1, .int i t, q⟩

/-- what a slice of a value is, by values: the slice object stands at sl -/
def SlR (X : Cx) (r : V → Option Int → Option Int → Hp → VK → Prop) : Prop :=
  ∀ (pins : List (Addr × Obj)) (s : Shared) (σ : St) (H : Hp) (x : V) (v vl vu : Value) (lo hi : Option Int) (sl : Addr) (Q : VK), Inv X pins σ H s → RelV x v → s.heap.IsSliceOf sl vl vu .none → IsPart vl lo → IsPart vu hi → r x lo hi H Q →
    ∃ T id, typeLookup (.type T) "__getitem__" = pure (some (.builtin id)) ∧ s.TypeIs v T ∧ wpAny (model X.prog X.w) X.A (getItem v (.ref sl)) (EP X pins σ Q) X.xe s
def tSl (r : V → Option Int → Option Int → Hp → VK → Prop) (te : TE) (tl th : TO) : TE := fun σ H Q => te σ H fun x H1 => tl σ H1 fun l H2 => th σ H2 fun u H3 => r x l u H3 Q
/-- a[lo:hi], any a -/
theorem pe_slice {r : V → Option Int → Option Int → Hp → VK → Prop} (hr : SlR X r) (he : PE X e te) (hl : PO X lo tl) (hu : PO X hi th) : PE X (.Subscript e (.Slice lo hi none p2) pos) (tSl r te tl th) := by
  intro pins s σ H Q I h
  refine Subscript_ (thn (he pins s σ H _ I h) fun v s1 ⟨x, H1, I1, r1, q1⟩ => ?_)
  refine wpAny_Slice (thn (hl pins s1 σ H1 _ I1 q1) fun vl s2 ⟨l, H2, I2, pl, q2⟩ => thn (hu pins s2 σ H2 _ I2 q2) fun vu s3 ⟨u, H3, I3, pu, q3⟩ => ?_)
  rw [evalPart_none]
  refine wpAny_pure ?_
  have I4 : Inv X pins σ H3 { s3 with heap := s3.heap.push { cls := .type "slice", data := .fields #[vl, vu, .none] } } := I3.kept (t' := s3.toks) fun b ob q => Heap.get?_push_of_some _ q
  obtain ⟨T, id, hT, ht, hg⟩ := hr pins { s3 with heap := s3.heap.push { cls := .type "slice", data := .fields #[vl, vu, .none] } } σ H3 x v vl vu l u s3.heap.objs.size Q I4 r1 (Heap.IsSliceOf.new ..) pl pu q3
  show wpAny (model X.prog X.w) X.A (subscriptTail e (.Slice lo hi none p2) v (.ref s3.heap.objs.size)) (EP X pins σ Q) X.xe { s3 with heap := s3.heap.push { cls := .type "slice", data := .fields #[vl, vu, .none] } }
  exact tail_any (ops := [.ref s3.heap.objs.size, v]) ht hT hg (by with_unfolding_all rfl)

/-- the items of xs[lo:hi] -/
def cutV (xs : List V) (lo hi : Option Int) : List V := (xs.drop (HT.sIx xs.length 0 lo)).take (HT.sIx xs.length xs.length hi - HT.sIx xs.length 0 lo)
theorem cutV_length (xs : List V) (lo hi : Option Int) : (cutV xs lo hi).length ≤ xs.length := by
  unfold cutV
  rw [List.length_take, List.length_drop]
  omega
end
end L2

namespace L2
open PySem PySem.Spec PyProof.Rows

/-- the place that an index of any sign means -/
def ixN (n : Nat) (i : Int) : Option Nat := if 0 ≤ i then (if i < n then some i.toNat else none) else if -(n : Int) ≤ i then some (i + n).toNat else none
def atI {α : Type} (xs : List α) (i : Int) : Option α := (ixN xs.length i).bind fun j => xs[j]?
theorem ixN_seq {n : Nat} {i : Int} {j : Nat} (h : ixN n i = some j) : seqIndex? i n = some j ∧ j < n ∧ -(n : Int) ≤ i ∧ i < n := by
  unfold ixN at h
  by_cases h0 : 0 ≤ i
  · rw [if_pos h0] at h
    by_cases h1 : i < n
    · rw [if_pos h1] at h
      have e : i.toNat = j := Option.some.inj h
      exact ⟨by rw [seqIndex_of h0 h1, e], by omega, by omega, h1⟩
    · rw [if_neg h1] at h; cases h
  · rw [if_neg h0] at h
    by_cases h1 : -(n : Int) ≤ i
    · rw [if_pos h1] at h
      have e : (i + n).toNat = j := Option.some.inj h
      exact ⟨by rw [seqIndex_neg (by omega) h1, e], by omega, h1, by omega⟩
    · rw [if_neg h1] at h; cases h
theorem atI_get {α : Type} {xs : List α} {i : Int} {v : α} (h : atI xs i = some v) : ∃ j, seqIndex? i xs.length = some j ∧ xs[j]? = some v ∧ j < xs.length ∧ -(xs.length : Int) ≤ i ∧ i < xs.length := by
  unfold atI at h
  cases e : ixN xs.length i with
  | none => rw [e] at h; cases h
  | some j =>
    rw [e] at h
    obtain ⟨h1, h2, h3, h4⟩ := ixN_seq e
    exact ⟨j, h1, h, h2, h3, h4⟩
theorem atI_nat {α : Type} {xs : List α} {j : Nat} {v : α} (h : xs[j]? = some v) : atI xs (j : Int) = some v := by
  have hj : j < xs.length := (List.getElem?_eq_some_iff.mp h).1
  have e : ixN xs.length (j : Int) = some j := by
    unfold ixN
    rw [if_pos (by omega), if_pos (by omega)]; simp
  unfold atI; rw [e]; exact h
theorem atI_last {α : Type} (xs : List α) (v : α) : atI (xs ++ [v]) (-1) = some v := by
  have hl : (xs ++ [v]).length = xs.length + 1 := by simp
  have e : ixN (xs ++ [v]).length (-1) = some xs.length := by
    unfold ixN
    rw [hl, if_neg (by decide), if_pos (by omega)]
    congr 1
    omega
  unfold atI
  rw [e]
  show (xs ++ [v])[xs.length]? = some v
  simp

/-- what stands as an index of a plain subscript -/
def PlainIx (b : Expr) : Prop := ∀ o i, subscripted b false o i = operate [o, i] (getItem o i)
/-- a subscript by values -/
def IxR (X : Cx) (r : R2) : Prop :=
  ∀ (value slice : Expr) (pins : List (Addr × Obj)) (s : Shared) (σ : St) (H : Hp) (x y : V) (v u : Value) (Q : VK), Inv X pins σ H s → RelV x v → RelV y u → r x y H Q →
    subscripted slice false v u = operate [v, u] (getItem v u) → wpAny (model X.prog X.w) X.A (subscriptTail value slice v u) (EP X pins σ Q) X.xe s
/-- a call of a builtin's method by values: the receiver, the arguments -/
def MtR (X : Cx) (id : String) (r : V → List V → Hp → VK → Prop) : Prop :=
  ∀ (pins : List (Addr × Obj)) (s : Shared) (σ : St) (H : Hp) (x : V) (xs : List V) (v : Value) (us : List Value) (Q : VK), Inv X pins σ H s → RelV x v → Vals xs us → r x xs H Q →
    wpAny (model X.prog X.w) X.A (call (.builtin id) (v :: us)) (EP X pins σ Q) X.xe s
section
variable {X : Cx} {a b : Expr} {ta tb : TE} {pos : Pos}
/-- a[b] -/
theorem pe_ix {r : R2} (hr : IxR X r) (ha : PE X a ta) (hb : PE X b tb) (hs : PlainIx b) : PE X (.Subscript a b pos) (tOp r ta tb) := by
  intro pins s σ H Q I h
  exact Subscript_ (binT ha hb I h fun v u s2 x y H2 I2 rx ry q => hr a b pins s2 σ H2 x y v u Q I2 rx ry q (hs _ _))

def rIxL (K : PySem.W.Frag) : R2 := fun x y H Q => ∃ p xs i v, x = .ref p ∧ y = .int i ∧ SqL K H p xs ∧ atI xs i = some v ∧ Q v H
def rIxT (K : PySem.W.Frag) : R2 := fun x y H Q => ∃ p xs i v, x = .ref p ∧ y = .int i ∧ SqT K H p xs ∧ atI xs i = some v ∧ Q v H
theorem ix_list : IxR X (rIxL X.K) := by
  intro value slice pins s σ H x y v u Q I rx ry h hs
  obtain ⟨p, xs, i, z, rfl, rfl, hq, he, q⟩ := h
  cases rx
  obtain ⟨t, rfl⟩ := ry
  obtain ⟨its, r, pl, hz⟩ := I.list hq
  obtain ⟨j, h1, h2, h3, h4, h5⟩ := atI_get he
  obtain ⟨w, ew, rw'⟩ := r.get h2
  have hl := r.length
  have hn := line63
  have fin : EP X pins σ Q w s := ⟨z, H, I, rw', q⟩
  by_cases h0 : 0 ≤ i
  · have hj : i.toNat = j := by
      rw [seqIndex_of h0 h5] at h1
      exact Option.some.inj h1
    exact item_listR pl.isList h0 (by omega) (by rw [hj]; simpa using ew) fin hs
  · have hj : (i + (its.toArray.size : Int)).toNat = j := by
      rw [seqIndex_neg (by omega) h4] at h1
      rw [List.size_toArray, ← hl]
      exact Option.some.inj h1
    exact subscriptTail_builtinR (x := w) pl.isList.typeIs slot_list_getitem.lookup
      (wpAny_getItem_list_neg (Q := fun r s' => r = w ∧ EP X pins σ Q r s') pl.isList (by omega) (by rw [List.size_toArray] <;> omega) (by omega) (by rw [hj]; simpa using ew) ⟨rfl, fin⟩) hs
theorem ix_tup : IxR X (rIxT X.K) := by
  intro value slice pins s σ H x y v u Q I rx ry h hs
  obtain ⟨p, xs, i, z, rfl, rfl, hq, he, q⟩ := h
  cases rx
  obtain ⟨t, rfl⟩ := ry
  obtain ⟨its, r, pl, hz⟩ := I.tuple hq
  obtain ⟨j, h1, h2, h3, h4, h5⟩ := atI_get he
  obtain ⟨w, ew, rw'⟩ := r.get h2
  have hl := r.length
  have hn := line63
  have fin : EP X pins σ Q w s := ⟨z, H, I, rw', q⟩
  exact subscriptTail_builtinR (x := w) pl.typeIs slot_tuple_getitem.lookup
    (getItem_tuple (j := j) (Q := fun r s' => r = w ∧ EP X pins σ Q r s') pl (by omega) (by omega) (by rw [List.size_toArray, ← hl]; exact h1) (by simpa using ew) ⟨rfl, fin⟩) hs
theorem slice_bounds (lo hi : Option Int) (n : Nat) : (sliceBounds lo hi none n).1 = ((HT.sIx n 0 lo : Nat) : Int) ∧ (sliceBounds lo hi none n).2.1 = ((HT.sIx n n hi : Nat) : Int) ∧ (sliceBounds lo hi none n).2.2 = 1 := by
  refine ⟨?_, ?_, rfl⟩
  · cases lo with
    | none => simp [sliceBounds, HT.sIx]
    | some i =>
      simp only [sliceBounds, HT.sIx, Option.getD_none, show (1 : Int) > 0 by decide, if_true]
      by_cases h : i < 0
      · simp only [h, if_true] <;> omega
      · simp only [h, if_false] <;> omega
  · cases hi with
    | none => simp [sliceBounds, HT.sIx]
    | some i =>
      simp only [sliceBounds, HT.sIx, Option.getD_none, show (1 : Int) > 0 by decide, if_true]
      by_cases h : i < 0
      · simp only [h, if_true] <;> omega
      · simp only [h, if_false] <;> omega
theorem slicePick_cut (its : List Value) (lo hi : Option Int) : slicePick its.toArray lo hi none = ((its.drop (HT.sIx its.length 0 lo)).take (HT.sIx its.length its.length hi - HT.sIx its.length 0 lo)).toArray := by
  obtain ⟨h1, h2, h3⟩ := slice_bounds lo hi its.toArray.size
  unfold slicePick
  rw [h1, h2, h3]
  simp only [sliceRange_one, pick_run, List.size_toArray] <;> rfl
/-- xs[lo:hi] of a list: a new list -/
def rSlL (K : PySem.W.Frag) : V → Option Int → Option Int → Hp → VK → Prop := fun x lo hi H Q => ∃ a xs, x = .ref a ∧ SqL K H a xs ∧ ∀ p, H p = none → Q (.ref p) (upd H p (.lst (cutV xs lo hi)))
theorem sl_list : SlR X (rSlL X.K) := by
  intro pins s σ H x v vl vu lo hi sl Q I rx hs pl pu h
  obtain ⟨a, xs, rfl, hx, q⟩ := h
  cases rx
  obtain ⟨its, r, ht, hz⟩ := I.list hx
  have hlen := r.length
  refine ⟨"list", _, slot_list_getitem.lookup, ht.isList.typeIs, ?_⟩
  refine wpAny_getItem_list_slice ht.isList hs pl pu .none (by simp) ?_ (by rw [List.size_toArray] <;> omega)
  rw [slicePick_cut, ← hlen]
  refine ⟨.ref s.heap.objs.size, _, I.laid (t' := s.toks) (o := .lst (cutV xs lo hi)) (fun b ob q => Heap.get?_push_of_some _ q) (Nat.le_refl _) ?_, rfl, q _ (I.hok.fresh (Nat.le_refl _))⟩
  exact ⟨Nat.le_trans (cutV_length xs lo hi) hz, _, 0, (r.drop (HT.sIx xs.length 0 lo)).take (HT.sIx xs.length xs.length hi - HT.sIx xs.length 0 lo), Heap.get?_push_size _ rfl⟩

def flatV : V → Bool
  | .non => true
  | .bl _ => true
  | .int _ => true
  | .str _ => true
  | _ => false
/-- == of flat values -/
def eqV : V → V → Bool
  | .non, .non => true
  | .bl a, .bl b => a == b
  | .bl a, .int b => (if a then 1 else 0) == b
  | .int a, .bl b => a == (if b then 1 else 0)
  | .int a, .int b => a == b
  | .str a, .str b => a == b
  | _, _ => false
theorem eqAt_V {A : Around} {s : Shared} {y x : V} {u v : Value} (ry : RelV y u) (rx : RelV x v) (fy : flatV y = true) (fx : flatV x = true) : SeqAt.EqAt A s u v (eqV y x) := by
  cases y with
  | non =>
    cases ry
    cases x with
    | non => cases rx; exact SeqAt.EqAt.same _
    | bl b => cases rx; exact SeqAt.EqAt.none_bool b
    | int b => obtain ⟨t, rfl⟩ := rx; exact SeqAt.EqAt.none_int b t
    | str b => obtain ⟨t, rfl⟩ := rx; exact SeqAt.EqAt.none_str b t
    | _ => exact absurd (show false = true from fx) Bool.false_ne_true
  | bl a =>
    cases ry
    cases x with
    | non => cases rx; exact SeqAt.EqAt.bool_none a
    | bl b => cases rx; exact SeqAt.EqAt.bool_bool a b
    | int b => obtain ⟨t, rfl⟩ := rx; exact SeqAt.EqAt.bool_int a b t
    | str b => obtain ⟨t, rfl⟩ := rx; exact SeqAt.EqAt.bool_str a b t
    | _ => exact absurd (show false = true from fx) Bool.false_ne_true
  | int a =>
    obtain ⟨t', rfl⟩ := ry
    cases x with
    | non => cases rx; exact SeqAt.EqAt.int_none a t'
    | bl b => cases rx; exact SeqAt.EqAt.int_bool a t' b
    | int b => obtain ⟨t, rfl⟩ := rx; exact SeqAt.EqAt.int_int a t' b t
    | str b => obtain ⟨t, rfl⟩ := rx; exact SeqAt.EqAt.int_str a t' b t
    | _ => exact absurd (show false = true from fx) Bool.false_ne_true
  | str a =>
    obtain ⟨t', rfl⟩ := ry
    cases x with
    | non => cases rx; exact SeqAt.EqAt.str_none a t'
    | bl b => cases rx; exact SeqAt.EqAt.str_bool a t' b
    | int b => obtain ⟨t, rfl⟩ := rx; exact SeqAt.EqAt.str_int a t' b t
    | str b => obtain ⟨t, rfl⟩ := rx; exact SeqAt.EqAt.str_str a t' b t
    | _ => exact absurd (show false = true from fx) Bool.false_ne_true
  | _ => exact absurd (show false = true from fy) Bool.false_ne_true
theorem call_len_seq : CallR X (.builtin "len") (fun xs H Q => ∃ p ys, xs = [.ref p] ∧ (SqL X.K H p ys ∨ SqT X.K H p ys) ∧ Q (.int ys.length) H) := by
  intro pins s σ H xs us Q I r h
  obtain ⟨p, ys, rfl, hq, q⟩ := h
  obtain ⟨u, rfl, rx⟩ := vals1 r
  cases rx
  have hn := line63
  rcases hq with hq | hq
  · obtain ⟨its, r', pl, hz⟩ := I.list hq
    have hlen := r'.length
    exact Calls.call_len_list pl.isList (by simp only [List.size_toArray] <;> omega) ⟨.int ys.length, H, I.tok _, ⟨s.toks + 1, by rw [List.size_toArray, hlen]⟩, q⟩
  · obtain ⟨its, r', pl, hz⟩ := I.tuple hq
    have hlen := r'.length
    exact len_tuple pl (by simp only [List.size_toArray] <;> omega) ⟨.int ys.length, H, I.tok _, ⟨s.toks + 1, by rw [List.size_toArray, hlen]⟩, q⟩
theorem call_len_str : CallR X (.builtin "len") (fun xs H Q => ∃ z, xs = [.str z] ∧ z.length ≤ sizeLine ∧ Q (.int z.length) H) := by
  intro pins s σ H xs us Q I r h
  obtain ⟨z, rfl, hz, q⟩ := h
  obtain ⟨u, rfl, t, rfl⟩ := vals1 r
  have hn := line63
  exact len_str (by omega) ⟨.int z.length, H, I.tok _, ⟨_, rfl⟩, q⟩
theorem call_list_of : CallR X (.type "list") (fun xs H Q => ∃ p ys, xs = [.ref p] ∧ (SqL X.K H p ys ∨ SqT X.K H p ys) ∧ ∀ l, H l = none → Q (.ref l) (upd H l (.lst ys))) := by
  intro pins s σ H xs us Q I r h
  obtain ⟨p, ys, rfl, hq, q⟩ := h
  obtain ⟨u, rfl, rx⟩ := vals1 r
  cases rx
  have fin : ∀ (its : List Value), Vals ys its → ys.length ≤ sizeLine → ∀ (h' : Heap) (c' : Nat), (∀ b o', s.heap.get? b = some o' → h'.get? b = some o') →
      h'.get? s.heap.objs.size = some { cls := .type "list", dict := none, data := .seq its.toArray c', slots := #[] } → EP X pins σ Q (.ref s.heap.objs.size) { s with heap := h' } := fun its r' hz h' c' kp e =>
    ⟨.ref s.heap.objs.size, _, I.laid (t' := s.toks) kp (Nat.le_refl _) (show ObjOk X.prog X.w _ h' _ (.lst ys) from ⟨hz, its, c', r', e⟩), rfl, q _ (I.hok.fresh (Nat.le_refl _))⟩
  rcases hq with hq | hq
  · obtain ⟨its, r', pl, hz⟩ := I.list hq
    have hlen := r'.length
    obtain ⟨o, ho, hc, n, hd⟩ := pl.isList
    exact call_list_seq p (.inl rfl) ho hc hd (fun h' c' kp e => fin its r' hz h' c' kp e) (by simp only [List.size_toArray] <;> omega)
  · obtain ⟨its, r', pl, hz⟩ := I.tuple hq
    have hlen := r'.length
    obtain ⟨o, ho, hc, n, hd⟩ := pl
    exact call_list_seq p (.inr rfl) ho hc hd (fun h' c' kp e => fin its r' hz h' c' kp e) (by simp only [List.size_toArray] <;> omega)
/-- the value is of that builtin type -/
def tyV (K : PySem.W.Frag) (T : String) (x : V) (H : Hp) : Prop := match x with
  | .str _ => T = "str"
  | .int _ => T = "int"
  | .ref p => (T = "list" ∧ ∃ xs, SqL K H p xs) ∨ (T = "tuple" ∧ ∃ o, K.lookup p = some o ∧ o.cls = .type "tuple" ∧ o.dict = none) ∨
      (T = "dict" ∧ ((∃ kvs, H p = some (.dK kvs)) ∨ ∃ kvs, H p = some (.dT kvs))) ∨ (T = "set" ∧ ∃ S n, H p = some (.set S n))
  | _ => False
theorem tyV_is {pins : List (Addr × Obj)} {σ : St} {H : Hp} {s : Shared} {T : String} {x : V} {v : Value} (I : Inv X pins σ H s) (r : RelV x v) (ty : tyV X.K T x H) :
    s.TypeIs v T ∧ ∀ a, v = .ref a → ∃ ob, s.heap.get? a = some ob ∧ ob.dict = none := by
  cases x with
  | str z =>
    obtain ⟨t, rfl⟩ := r
    cases (show T = "str" from ty)
    exact ⟨typeIs_str s z t, fun _ e => nomatch e⟩
  | int i =>
    obtain ⟨t, rfl⟩ := r
    cases (show T = "int" from ty)
    exact ⟨typeIs_int s i t, fun _ e => nomatch e⟩
  | ref p =>
    cases r
    rcases ty with ⟨rfl, xs, hq⟩ | ⟨rfl, o, hk, hc, hd⟩ | ⟨rfl, hk⟩ | ⟨rfl, S, n, hk⟩
    · obtain ⟨its, _, pl, _⟩ := I.list hq
      refine ⟨pl.isList.typeIs, fun a e => ?_⟩
      cases e
      obtain ⟨o, n, e, c, hd, _⟩ := pl
      exact ⟨o, e, hd⟩
    · refine ⟨⟨o, I.kIn p o hk, hc⟩, fun a e => ?_⟩
      cases e
      exact ⟨o, I.kIn _ o hk, hd⟩
    · have z : ∃ o, s.heap.get? p = some o ∧ o.ExactDict := by
        rcases hk with ⟨kvs, hk⟩ | ⟨kvs, hk⟩
        · obtain ⟨_, _, _, _, o, _, _, e, ex, _⟩ := I.hok p _ hk
          exact ⟨o, e, ex⟩
        · obtain ⟨_, _, _, _, o, _, _, e, ex, _⟩ := I.hok p _ hk
          exact ⟨o, e, ex⟩
      obtain ⟨o, e, ex⟩ := z
      refine ⟨⟨o, e, ex.1⟩, fun a e2 => ?_⟩
      cases e2
      exact ⟨o, e, ex.2.1⟩
    · obtain ⟨o, _, _, _, e, ex, _⟩ := I.hok p _ hk
      refine ⟨⟨o, e, ex.1⟩, fun a e2 => ?_⟩
      cases e2
      exact ⟨o, e, ex.2.1⟩
  | _ => exact False.elim ty
def tBM (K : PySem.W.Frag) (T : String) (r : V → List V → Hp → VK → Prop) (to : TE) (t : TA) : TE := fun σ H Q => to σ H fun x H1 => tyV K T x H1 ∧ t σ H1 fun xs H2 => r x xs H2 Q
variable {o e : Expr} {es : List Expr} {to : TE} {t : TA} {name : Str} {apos cpos : Pos} {T id : String} {r : V → List V → Hp → VK → Prop}
theorem pe_bm (pa : PlainAttrs T) (slot : Slot T name id) (hty : typeOf (.builtin id) = pure (.type "method_descriptor")) (hm : MtR X id r) (ho : PE X o to) (ha : PA X (e :: es) t)
    (hbase : attributeBase o name X.env (eval o X.env) = eval o X.env := by rfl)
    (hfew : ((backTo cpos (starEach (e :: es) X.env)).all (fun x => !x.1) && (backToKw cpos (keywordEach [] X.env)).all (fun x => x.1.isSome)
      && decide ((e :: es).length + ([] : List Keyword).length + (if ([] : List Keyword).isEmpty then 0 else 1) < 30)) = true := by rfl)
    (hline : (apos.endLine == cpos.line) = true := by rfl) (hs : starEach (e :: es) X.env = (false, eval e X.env) :: starEach es X.env := by rfl) (hplain : (backTo cpos (starEach es X.env)).any (·.1) = false := by rfl) :
    PE X (.Call (.Attribute o name apos) (e :: es) [] cpos) (tBM X.K T r to t) := by
  intro pins s σ H Q I h
  refine wpAny_Call_method_late hbase hfew hline rfl (thn (ho pins s σ H _ I h) fun v s1 ⟨x, H1, I1, r1, ty, q1⟩ => ?_)
  obtain ⟨h1, h2⟩ := tyV_is I1 r1 ty
  refine ⟨T, id, pa, slot, hty, h1, h2, ?_⟩
  have hA := ha cpos pins s1 σ H1 _ I1 q1
  rw [hs] at hA ⊢
  refine Calls.callWith_builtin (by show (false || (backTo cpos (starEach es X.env)).any (·.1)) = false; rw [hplain] <;> rfl) (Calls.evalArgs_plain ?_)
  exact thn hA fun us s2 ⟨vs, H2, I2, r2, q2⟩ => hm pins s2 σ H2 x vs v us Q I2 r1 r2 q2
/- xs.append(e), list.index on a module's tuple .. are MtR facts of 06m -/
end
end L2

namespace L2
open PySem PySem.Spec PyProof.Rows

def MtM (X : Cx) (id : String) (r : V → List V → Hp → VK → Prop) : Prop :=
  ∀ (pins : List (Addr × Obj)) (s : Shared) (σ : St) (H : Hp) (x : V) (xs : List V) (v : Value) (us : List Value) (Q : VK), Inv X pins σ H s → RelV x v → Vals xs us → r x xs H Q →
    wpAny (model X.prog X.w) X.A (call (.builtin id) (v :: us)) (EP X pins σ Q) X.xe s

theorem Vals.one : ∀ {x : V} {us : List Value}, Vals [x] us → ∃ u, us = [u] ∧ RelV x u
  | _, _, .cons r .nil => ⟨_, rfl, r⟩
section
variable {X : Cx} {pins : List (Addr × Obj)} {σ : St} {H : Hp} {s : Shared} {l b : Addr} {xs ys zs : List V}

theorem Inv.lset {its its' : List Value} {n : Nat} {f : Array Value → Array Value} {t' : Nat} (I : Inv X pins σ H s) (hH : H l = some (.lst xs))
    (e : s.heap.get? l = some { cls := .type "list", data := .seq its.toArray n }) (hf : f its.toArray = its'.toArray) (hv : Vals ys its') (hz : ys.length ≤ sizeLine) :
    Inv X pins σ (upd H l (.lst ys)) { s with heap := s.heap.update l (Obj.mapSeq f), toks := t' } := by
  have q := PySem.IsL.update e f
  rw [hf] at q
  refine I.write (x := l) (e := l) (by rw [hH]; exact trivial) (.inl rfl) (fun b' u hb hu => (Heap.get?_update_other s.heap (Obj.mapSeq f) (Ne.symm hb)).trans hu) ⟨_, q⟩ ?_
  exact ⟨hz, its', _, hv, q⟩
theorem Inv.lstM (I : Inv X pins σ H s) (hH : H l = some (.lst xs)) : xs.length ≤ sizeLine ∧ ∃ (its : List Value) (n : Nat), Vals xs its ∧ xs.length = its.length ∧ s.heap.get? l = some { cls := .type "list", data := .seq its.toArray n } := by
  obtain ⟨z, its, n, r, e⟩ := I.hok l _ hH
  exact ⟨z, its, n, r, r.length, e⟩

end

section
variable {X : Cx}

def rAppend : V → List V → Hp → VK → Prop := fun x vs H Q => ∃ l xs y, x = .ref l ∧ vs = [y] ∧ H l = some (.lst xs) ∧ xs.length < sizeLine ∧ Q .non (upd H l (.lst (xs ++ [y])))
theorem mt_append : MtM X "list.append" rAppend := by
  intro pins s σ H x vs v us Q I rx rv h
  obtain ⟨l, xs, y, rfl, rfl, hH, hz, q⟩ := h
  cases rx
  obtain ⟨u, rfl, ru⟩ := rv.one
  obtain ⟨z, its, n, r, hl, e⟩ := I.lstM hH
  refine call_meets F.slot_list_append ⟨_, e, rfl⟩ F.entry_list_append (F.args_list_append_2 _ _) (PySem.list_append l its.toArray n u (by rw [List.size_toArray]; omega)) ⟨e, ?_⟩
  refine ⟨.non, _, I.lset (its' := its ++ [u]) hH e (by simp) (r.append (.cons ru .nil)) ?_, rfl, q⟩
  rw [List.length_append, List.length_singleton]
  omega

end

section
variable {prog : Program} {w : World} {A : Around} {E : Value → Shared → Prop} {s : Shared}
end

section
variable {X : Cx}
end
end L2

namespace Att
open PySem PySem.W PySem.Calls PyProof.Rows

theorem ints_of_wellAll {P : Params} {h : Heap} : ∀ (ns : List Int) (vs : List Value), WellAll P h vs (ns.map WData.int) → IntsAre vs ns := by
  intro ns
  induction ns with
  | nil =>
    intro vs w
    rw [List.map_nil] at w
    cases w
    exact .nil
  | cons n ns ih =>
    intro vs w
    rw [List.map_cons] at w
    cases w with
    | cons a b =>
      cases a
      exact .cons _ _ (ih _ b)

theorem script_of {l : OpenLaw} {n : Nat} (hn : l.most = some n) {P : Params} {h : Heap} {args : List WData} {vals : List Value}
    (hpre : l.row.toRowW.claim.pre args = true) (hwl : WellAll P h vals args) :
    ∃ a vs ns, vals = [Value.ref a] ∧ args = [WData.list (ns.map WData.int)] ∧ h.get? a = some { cls := .type "list", data := .seq vs.toArray } ∧ IntsAre vs ns ∧ ns.length ≤ n := by
  have hsh : WShape.hasAll [] args [.list .int] = true := (pre_splitW hpre).1
  have hc : l.pre.holds [] { args := args } = true := (pre_splitW hpre).2
  obtain ⟨d, r, rfl, h1, h2⟩ := hasAllW_cons hsh
  obtain rfl := hasAllW_nil h2
  obtain ⟨xs, rfl, h3⟩ := hasW_list h1
  obtain ⟨ns, rfl⟩ := items_int h3
  have hlen : ns.length ≤ n := by
    unfold OpenLaw.pre at hc
    have h4 : (WTm.not (.lt (.lit (.int (n : Int))) (.len (.arg 0)))).holds [] { args := [.list (ns.map .int)] } = true := by
      have h4 := (holds_andW hc).1
      rw [hn] at h4
      exact h4
    have h5 := condW_of h4 (w_not (w_lt w_lit (w_len_list (w_arg rfl))))
    rw [List.length_map] at h5
    refine Nat.le_of_not_lt fun q => ?_
    have q' : (n : Int) < ((ns.length : Nat) : Int) := by omega
    first
      | (rw [decide_eq_true q'] at h5; exact absurd h5 (by decide))
      | (simp at h5; omega)
  cases hwl with
  | cons w1 w2 =>
    cases w2
    cases w1 with
    | list ho hall => exact ⟨_, _, ns, rfl, rfl, ho, ints_of_wellAll ns _ hall, hlen⟩

theorem post_true (l : OpenLaw) (args : List WData) : l.row.toRowW.claim.post args (.bool true) args = true :=
  postW_of (r := l.row.toRowW) (X := (true == true))
    (show WShape.has [] (.bool true) .bool = true by first | rfl | decide | simp [WShape.has, WShape.arms, WShape.armsAll])
    (show (WTm.eq .res (.lit (.bool true))).value [] { args := args, res := some (.bool true), after := args } = some (.bool (true == true)) from w_eq_bool (w_res rfl) w_lit) rfl

/-- the same from a codeAny of the CALL (for a layer whose function contracts speak of calls) -/
theorem attach_call {l : OpenLaw} {n : Nat} {q : Program} {loose : List Str} {XP : (Str → Option Value) → Heap → Prop} {YP : World → Heap → Prop} {d : DefRec}
    (hn : l.most = some n) (hdf : d.params.defaults = [])
    (call : ∀ (w : World) (s₀ s₁ : Shared) (mg mb : Str → Option Value) (fa : Addr) (o : Obj) (pm cd doc : Value) (a : Addr) (vs : List Value) (ns : List Int),
      Ground q loose [] XP w s₀ mg mb s₁.heap → YP w s₁.heap →
      s₁.heap.get? fa = some o → o.data = .func (docDef d.name d.params d.body d.scope pm cd doc) → s₁.heap.CodeRec cd d.name → mg d.name = some (.ref fa) →
      s₁.heap.get? a = some { cls := .type "list", data := .seq vs.toArray } → IntsAre vs ns → ns.length ≤ n → s₁.gens = #[] →
      codeAny (model l.prog w) callerA (.call (.ref fa) ⟨[.ref a], []⟩) (fun r s' => r = .ok (.ret (.bool true)) ∧ OldK s₁.heap s'.heap ∧ s'.os = s₁.os ∧ AllBare s'.gens) s₁) :
    WalkO q loose XP YP l.row.toRowW d [] (fun f vs => PySem.call f vs) := by
  intro w s₀ s₁ mg mb G Y fa o pm cd doc dV kV ho hd hcd hD hmg hg args vals as hpre hlay hrd hwl hlo
  obtain rfl : dV = .none := Dflts.none hD hdf
  obtain rfl : kV = .none := Dflts.noKw hD
  obtain ⟨a, vs, ns, rfl, rfl, hobj, hints, hlen⟩ := script_of hn hpre hwl
  refine enter_call (codeAny_mono (call w s₀ s₁ mg mb fa o pm cd doc a vs ns G Y ho (fd_plain hd) hcd hmg hobj hints hlen hg) fun r s' hq => ?_)
  obtain ⟨rfl, h2, h3, h4⟩ := hq
  exact ⟨.inl ⟨.bool true, .bool true, [], rfl, fun _ => rfl, .bool true, post_true l _, fun _ => ⟨List.Pairwise.nil, fun _ hm => (nomatch hm)⟩⟩, h2, h3, h4⟩

section
variable {prog : Program} {w : World} {A : Around} {E : Value → Shared → Prop} {s : Shared} {K : Frag}

end
end Att

namespace L2
open PySem PySem.Spec PyProof.Rows

theorem vals_ints : ∀ {vs : List Value} {ns : List Int}, IntsAre vs ns → Vals (ns.map V.int) vs
  | _, _, .nil => .nil
  | _, _, .cons n t h => .cons ⟨t, rfl⟩ (vals_ints h)

/-- nothing is tracked but the script, known to the object (or it is an object of the module) -/
def Only (H : Hp) : Prop := ∀ b, H b = none ∨ ∃ o xs, H b = some (.frz o (.lst xs))

/-- THE HEAD: the law's promise, at the heap behind the top. F, the promise of the law's def, may use that base is part of the heap (so K.In base, base.Ns mainGlobals mg stand in Mod) -/
theorem law_call {P : Program} {w : World} {K : PySem.W.Frag} {mg mb : Str → Option Value} {CX : CXT} {k : Nat} {fa a : Addr} {fd : FuncData} {x : Str} {sp : Sp} {s₁ : Shared} {vs : List Value} {ns : List Int}
    (KX : K.In s₁.heap) (hns : s₁.heap.Ns mainGlobals mg) (hb : s₁.heap.Ns builtinsNs mb) (hbb : ∀ x : Str, x ≠ "__name__" → mb x = bootBuiltins x) (hlim : s₁.heap.NoLimit) (hg : s₁.gens = #[])
    (ha : s₁.heap.get? a = some { cls := .type "list", data := .seq vs.toArray }) (hi : IntsAre vs ns) (hl : ns.length ≤ sizeLine) (hr : Room k callerA)
    (F : ∀ base : Heap, K.In base → base.Ns mainGlobals mg → FnOk P w K mg base CX k fa fd [x] sp) (hbind : ∀ (s : Shared) (u : Value), BindsTo s fd ⟨[u], []⟩ [(x, u)])
    (hsp : ∀ H : Hp, Only H → SqL K H a (ns.map V.int) → sp [.ref a] H (fun v _ => v = .bl true) fun _ _ _ => False)
    (hCX : ∀ H e s', CX [] H s₁ (fun _ _ _ => False) e s' → False) :
    codeAny (model P w) callerA (.call (.ref fa) ⟨[.ref a], []⟩) (fun r s' => r = .ok (.ret (.bool true)) ∧ OldK s₁.heap s'.heap ∧ s'.os = s₁.os ∧ AllBare s'.gens) s₁ := by
  have rv := vals_ints hi
  have lenV := hi.length
  -- from an abstract heap in which nothing but the script may be tracked
  have core : ∀ H : Hp, Only H → SqL K H a (ns.map V.int) → HOk P w H s₁.heap → (∀ b, H b ≠ none → b = a) → (H a ≠ none → K.lookup a = none) →
      codeAny (model P w) callerA (.call (.ref fa) ⟨[.ref a], []⟩) (fun r s' => r = .ok (.ret (.bool true)) ∧ OldK s₁.heap s'.heap ∧ s'.os = s₁.os ∧ AllBare s'.gens) s₁ := by
    intro H hO hS hok hA hK
    have base_of : ∀ {b : Addr} {o : Obj}, s₁.heap.get? b = some o → H b = none → (hidT s₁.heap H).get? b = some o := fun e n => hidT_get e n
    have noA : ∀ {b : Addr} {o : Obj} {es : Array DictEntry} {ep : Nat}, s₁.heap.get? b = some o → o.data = .dict es ep → H b = none := fun {b o es ep} e d => by
      cases q : H b with
      | none => rfl
      | some u =>
        have e' : b = a := hA b (by rw [q]; simp)
        subst e'
        rw [ha] at e; cases e
        have d' : Data.seq vs.toArray _ = Data.dict es ep := d
        cases d'
    have nsK : ∀ {b : Addr} {m : Str → Option Value}, s₁.heap.Ns b m → (hidT s₁.heap H).Ns b m := fun {b m} ⟨o, es, ep, e, d, r⟩ => ⟨o, es, ep, base_of e (noA e d), d, r⟩
    have hKb : K.In (hidT s₁.heap H) := fun b o e => base_of (KX b o e) (by
      cases q : H b with
      | none => rfl
      | some u =>
        have e' : b = a := hA b (by rw [q]; simp)
        subst e'
        rw [hK (by rw [q]; simp)] at e; cases e)
    have hM : Mod K mg (hidT s₁.heap H) := ⟨hKb, nsK hns, ⟨mb, nsK hb, hbb⟩, let ⟨mc, h1, h2⟩ := hlim; ⟨mc, nsK h1, h2⟩⟩
    have e0 : Env0 P w K mg (hidT s₁.heap H) callerA [] s₁ H := ⟨rfl, hM, fun b o e => of_hidT e, Nat.le_of_eq (hidT_size _ _), trivial, fun b hb => absurd (show b ∈ ([] : List Addr) from hb) (by simp), hok, .of_eq hg⟩
    refine codeAny_mono ((F _ hKb (nsK hns)).run callerA [] s₁ H ⟨[.ref a], []⟩ [.ref a] [.ref a] _ _ hr e0 (hbind s₁ (.ref a)) (.cons rfl .nil) (hsp H hO hS)) fun r s' h => ?_
    cases r with
    | error e => exact (hCX H e s' h).elim
    | ok fl =>
      cases fl with
      | next => exact False.elim h
      | brk => exact False.elim h
      | cont => exact False.elim h
      | ret u =>
        obtain ⟨v, H', os, bare, un, hok', r', q⟩ := h
        have q' : v = .bl true := q
        subst q'
        obtain rfl : u = Value.bool true := r'
        refine ⟨rfl, OldK.of_keep fun b o e => ?_, os, bare⟩
        cases q : H b with
        | none => exact un.keep b o e q (by intro z; exact absurd (show b ∈ ([] : List Addr) from z) (by simp)) (by simp)
        | some u =>
          rcases hO b with z | ⟨ob, xs, z⟩
          · rw [q] at z; cases z
          · have z2 := un.frzs b ob _ z
            obtain ⟨e1, _⟩ := hok b _ z
            obtain ⟨e2, _⟩ := hok' b _ z2
            rw [e] at e1; cases e1
            exact e2
  cases hk : K.lookup a with
  | some o =>
    -- the script is one of the module's own objects
    have e := KX a o hk
    rw [ha] at e
    cases e
    refine core (fun _ => none) (fun _ => .inl rfl) (.inr ⟨_, vs.toArray, _, hk, rfl, rfl, rfl, by rw [List.size_toArray, lenV]; exact hl, by simpa using rv⟩) (fun b u z => by have z' : (none : Option HO) = some u := z; cases z') (fun b z => absurd rfl z) fun z => absurd rfl z
  | none =>
    refine core (fun b => if b = a then some (.frz { cls := .type "list", data := .seq vs.toArray } (.lst (ns.map V.int))) else none) (fun b => ?_) (.inl (.inr ⟨{ cls := .type "list", data := .seq vs.toArray }, if_pos rfl⟩)) (fun b u z => ?_) (fun b z => ?_) fun _ => hk
    · by_cases hb : b = a
      · exact .inr ⟨_, _, if_pos hb⟩
      · exact .inl (if_neg hb)
    · by_cases hb : b = a
      · have z' := (if_pos hb).symm.trans z
        cases z'
        subst hb
        exact ⟨ha, by rw [List.length_map]; exact hl, vs, _, rv, ha⟩
      · have z' := (if_neg hb).symm.trans z
        cases z'
    · by_cases hb : b = a
      · exact hb
      · exact absurd (if_neg hb) z
end L2

namespace L2
open PySem PySem.Spec PyProof.Rows

/-- the goal that k_head leaves (case hc), from the law's promise. F gives the function object fd (K's own) once, then the promise over every base -/
theorem walk_of {l : PySem.W.OpenLaw} {n k : Nat} {q : Program} {loose : List Str} {XP : (Str → Option Value) → Heap → Prop} {YP : World → Heap → Prop} {d : DefRec} {K : Params → PySem.W.Frag} {CX : World → CXT} {sp : World → Sp} {x : Str}
    (hn : l.most = some n) (hn2 : n ≤ sizeLine) (hdf : d.params.defaults = []) (hr : Room k callerA)
    (hY : ∀ (w : World) (h : Heap), YP w h → (K w.params).In h)
    (F : ∀ (w : World) (mg : Str → Option Value) (fa : Addr) (h : Heap), (K w.params).In h → h.Ns mainGlobals mg → mg d.name = some (.ref fa) →
      ∃ fd : FuncData, (∀ (s : Shared) (u : Value), BindsTo s fd ⟨[u], []⟩ [(x, u)]) ∧
        ∀ base : Heap, (K w.params).In base → base.Ns mainGlobals mg → FnOk l.prog w (K w.params) mg base (CX w) k fa fd [x] (sp w))
    (hsp : ∀ (w : World) (H : Hp) (a : Addr) (ns : List Int), ns.length ≤ n → Only H → SqL (K w.params) H a (ns.map V.int) → sp w [.ref a] H (fun v _ => v = .bl true) fun _ _ _ => False)
    (hCX : ∀ (w : World) (H : Hp) (s : Shared) (e : Value) (s' : Shared), CX w [] H s (fun _ _ _ => False) e s' → False) :
    PySem.W.WalkO q loose XP YP l.row.toRowW d [] (fun f vs => PySem.call f vs) := by
  refine Att.attach_call hn hdf fun w s₀ s₁ mg mb fa o pm cd doc a vs ns G Y ho hd hcd hmg hobj hints hlen hg => ?_
  have KX := hY w _ Y
  obtain ⟨fd, hb, hF⟩ := F w mg fa _ KX G.T.g hmg
  exact law_call KX G.T.g G.T.b G.T.builtins G.T.nolimit hg hobj hints (Nat.le_trans hlen hn2) hr hF hb (fun H hO hS => hsp w H a ns hlen hO hS) fun H e s' => hCX w H s₁ e s'
end L2

/- THE LAST THEOREM (shape; LID, My.* are yours):
   My.Adr: a structure of the addresses that your layer names (classes, functions); My.Txt K t: a structure (Prop) of the equations over K;
   My.txt_mk : {K} {implicit addresses ..} (e1 : nsIn K mainGlobals "law" = some (some (.ref f))) (e2 : K.lookup f = some ⟨oc, od, .func (fnOf "law" "law" params body scope dV kV doc pm an cdv ct), sl⟩) (e3 : codeIn K cdv "law" = true) .. : ∃ t, My.Txt K t

(the tactic k_is has no namespace: write k_is) -/

namespace L2
open PySem PySem.Spec PyProof.Rows

/-- the j-th statement of a class's body -/
def inClass (s : Stmt) (j : Nat) : Stmt := match s with
  | .ClassDef _ _ _ body _ _ _ _ _ _ _ => body.getD j (.Pass ⟨0, 0, 0, 0⟩)
  | _ => .Pass ⟨0, 0, 0, 0⟩
def defArgs (s : Stmt) : Arguments := match s with
  | .FunctionDef _ a _ _ _ _ _ _ _ _ => a
  | _ => { posonlyargs := [], args := [], vararg := none, kwonlyargs := [], kw_defaults := [], kwarg := none, defaults := [] }
def defBody (s : Stmt) : List Stmt := match s with
  | .FunctionDef _ _ b _ _ _ _ _ _ _ => b
  | _ => []
def defScope (s : Stmt) : Scope := match s with
  | .FunctionDef _ _ _ _ _ _ sc _ _ _ => sc
  | _ => { kind := .function, names := [], isGenerator := false, isCoroutine := false }

abbrev CX0 : CXT := fun _ _ _ _ _ _ => False
abbrev E0 : XK := fun _ _ _ => False
theorem pass0 {X : Cx} : Passes CX0 X E0 := fun _ _ _ _ _ _ _ h => h.elim

structure Fun (K : PySem.W.Frag) (x qual : Str) (st : Stmt) (f : Addr) (fd : FuncData) : Prop where
  ex : ∃ (oc : Value) (od : Option Addr) (kV doc pm : Value) (an : Option Addr) (cdv ct : Value) (osl : Array (Option Value)),
    fd = PySem.W.fnOf x qual (defArgs st) (defBody st) (defScope st) .none kV doc pm an cdv ct ∧ K.lookup f = some ⟨oc, od, .func fd, osl⟩ ∧ PySem.W.codeIn K cdv qual = true
  kp : PySem.W.keepIn K (.ref f) = true
section
variable {P : Program} {w : World} {K : PySem.W.Frag} {mg : Str → Option Value} {base : Heap}
/-- THE RULE for a def: its body as a term of rules, and the reading of that term -/
theorem Fun.ok {x qual : Str} {st : Stmt} {f : Addr} {fd : FuncData} {N ps : List Str} {k : Nat} {sp : Sp} (F : Fun K x qual st f fd) (S : FnScope N ps (defScope st)) (len : ∀ vs H Q E, sp vs H Q E → vs.length = ps.length)
    (hbody : ∀ (cdv : Value) (A : Around) (outer : List Env) (s : Shared) (H : Hp) (vs : List V) (Q : VK) (E : XK), Room k (A.deeper (envOfC qual (defScope st) s.heap.objs.size f cdv)) → sp vs H Q E →
      ∃ t, PSs (cxOf CX0 P w K mg base N qual (defScope st) f cdv A outer s H E).nox (defBody st) t ∧ t { nx := fun _ H' => Q .non H', rt := Q } (start N vs) H) : FnOk P w K mg base CX0 (k + 1) f fd ps sp := by
  obtain ⟨oc, od, kV, doc, pm, an, cdv, ct, osl, rfl, lk, hcd⟩ := F.ex
  refine fn_of lk hcd S len fun A outer s H vs Q E hr hsp => ?_
  obtain ⟨t, h, q⟩ := hbody cdv A outer s H vs Q E hr hsp
  exact ⟨t, h.nox, q⟩
/-- how its arguments bind (no defaults): h is «fun _ _ _ _ _ _ us hl => match us, hl with | [_, _], _ => rfl», one _ a parameter -/
theorem Fun.binds {x qual : Str} {st : Stmt} {f : Addr} {fd : FuncData} {ps : List Str} (F : Fun K x qual st f fd)
    (h : ∀ (kV doc pm : Value) (an : Option Addr) (cdv ct : Value) (us : List Value), us.length = ps.length → bindArgs (PySem.W.fnOf x qual (defArgs st) (defBody st) (defScope st) .none kV doc pm an cdv ct) ⟨us, []⟩ = pure (ps.zip us)) : Binds K fd ps [] := by
  obtain ⟨oc, od, kV, doc, pm, an, cdv, ct, osl, rfl, lk, hcd⟩ := F.ex
  exact .all (h kV doc pm an cdv ct)
theorem fun_mk {x qual : Str} {st : Stmt} {f : Addr} {oc : Value} {od an : Option Addr} {osl : Array (Option Value)} {kV doc pm cdv ct : Value} (l : K.lookup f = some ⟨oc, od, .func (PySem.W.fnOf x qual (defArgs st) (defBody st) (defScope st) .none kV doc pm an cdv ct), osl⟩)
    (c : PySem.W.codeIn K cdv qual = true) (k : PySem.W.keepIn K (.ref f) = true) : Fun K x qual st f (PySem.W.fnOf x qual (defArgs st) (defBody st) (defScope st) .none kV doc pm an cdv ct) := ⟨⟨oc, od, kV, doc, pm, an, cdv, ct, osl, rfl, l, c⟩, k⟩
end
theorem hu_of {A : Around} {k : Nat} (hr : Room k A) : A.units + 1 < cLine := Nat.lt_of_le_of_lt (Nat.add_le_add_left (by decide : 1 ≤ 64) _) hr.units
section
variable {X : Cx}
theorem pv (i : Nat) {x : Str} {pos : Pos} (hN : X.N[i]? = some x := by rfl) (hv : Vis X.env.scope x := by first | exact Or.inl rfl | exact Or.inr (Or.inl rfl) | exact Or.inr (Or.inr rfl)) (hd : (x == ("__debug__" : Str)) = false := by decide)
    (hcd : (x == ("__classdict__" : Str)) = false := by decide) : PE X (.Name x pos) (tVar i) := pe_var hN hv hd hcd
end

theorem iteF {A B : Prop} (h : B) : if false = true then A else B := by
  rw [if_neg Bool.false_ne_true]
  exact h
theorem iteT {A B : Prop} (h : A) : if true = true then A else B := by
  rw [if_pos rfl]
  exact h
theorem iteNS {c A B : Prop} [Decidable c] (hc : c) (h : B) : if (!decide c) = true then A else B := by
  rw [decide_eq_true hc]
  exact iteF h

/-- all that was tracked is as it was -/
def Same (H H' : Hp) : Prop := ∀ b o, H b = some o → H' b = some o
theorem Same.refl (H : Hp) : Same H H := fun _ _ h => h
theorem Same.trans {H H1 H2 : Hp} (a : Same H H1) (b : Same H1 H2) : Same H H2 := fun c o h => b c o (a c o h)
theorem Same.free {H H' : Hp} (e : Same H H') {l : Addr} (h : H' l = Option.none) : H l = Option.none := by
  cases q : H l with
  | none => rfl
  | some o =>
    rw [e l o q] at h
    cases h
theorem Same.seq {K : PySem.W.Frag} {H H' : Hp} {a : Addr} {xs : List V} (e : Same H H') (h : SqL K H a xs) : SqL K H' a xs := by
  rcases h with (h | ⟨o, h⟩) | h
  · exact .inl (.inl (e _ _ h))
  · exact .inl (.inr ⟨o, e _ _ h⟩)
  · exact .inr h

end L2
namespace L2
open PySem PySem.Spec PyProof.Rows

section
variable {X : Cx} {pins : List (Addr × Obj)} {σ : St} {H : Hp} {s : Shared} {h' : Heap}
theorem Inv.track {p : Addr} {o : HO} (I : Inv X pins σ H s) (f : FpOk X pins H p) (new : ObjOk X.prog X.w (upd H p o) s.heap p o) : Inv X pins σ (upd H p o) s := by
  obtain ⟨f0, f1, f2, f3, f4, f5⟩ := f
  have nu : ∀ b u, H b = some u → b ≠ p := fun b u e z => by rw [z, f0] at e; cases e
  refine I.step (h' := s.heap) (g' := s.gens) (d' := s.drawn) (t' := s.toks) (ch := [p]) (fun b hb => ?_) (fun b o _ _ _ e _ => e) (fun b o _ _ _ e _ => ⟨o.slots, e⟩)
    (fun b o hc _ n => by rw [upd_ne (fun z => hc (by simp [z]))]; exact n) (fun b o _ e => ⟨o, e⟩) (fun b xs e => by rw [upd_ne (nu _ _ e)]; exact e) (fun b o u e => by rw [upd_ne (nu _ _ e)]; exact e)
    (fun b ps e => ⟨#[], by rw [upd_ne (nu _ _ e), e]; simp⟩) (fun m hm => hm) (fun b u e => ?_) I.bare
  · have e : b = p := by simpa using hb
    subst e
    exact ⟨f3, f1, f4, f5⟩
  · by_cases hb : b = p
    · subst hb
      rw [upd_same] at e
      cases e
      exact new
    · rw [upd_ne hb] at e
      exact (I.hok b u e).stay (fun c v _ q => q) (fun c q => by rw [upd_ne (nu _ _ q)]; exact q) fun c xs q => by rw [upd_ne (nu _ _ q)]; exact q
theorem Inv.turnedL {t' : Nat} {ch : List Addr} (I : Inv X pins σ H s) (k : ∀ b o, b ∉ ch → s.heap.get? b = some o → h'.get? b = some o) (hf : ∀ b ∈ ch, FpOk X pins H b) : Inv X pins σ H { s with heap := h', toks := t' } := by
  have nit : ∀ b u, H b = some u → b ∉ ch := fun b u e z => by rw [(hf b z).1] at e; cases e
  refine I.step (g' := s.gens) (d' := s.drawn) (ch := ch) (fun b hb => ?_) (fun b o _ _ hc e _ => k b o hc e) (fun b o _ _ hc e _ => ⟨o.slots, k b o hc e⟩) (fun _ _ _ _ n => n)
    (fun b o hc e => ⟨o, k b o hc e⟩) (fun _ _ e => e) (fun _ _ _ e => e) (fun b ps e => ⟨#[], by rw [e]; simp⟩) (fun m hm => ?_) (fun b u e => ?_) I.bare
  · obtain ⟨f0, f1, f2, f3, f4, f5⟩ := hf b hb
    exact ⟨f3, f1, f4, f5⟩
  · obtain ⟨o, es, ep, ho, r⟩ := hm
    exact ⟨o, es, ep, k _ o (fun z => (hf _ z).2.1 rfl) ho, r⟩
  · refine (I.hok b u e).stay (fun c v hc q => k c v ?_ q) (fun _ q => q) fun _ _ q => q
    rcases hc with z | z
    · rw [z]; exact nit b u e
    · exact nit c _ z
end

def closL (env : Env) : List (Str × NameKind) → List (Str × Addr) → List (Str × Addr)
  | [], cs => cs
  | (n, k) :: r, cs => if k == .free then (match env.cells.lookup n with | some c => closL env r ((n, c) :: cs) | none => closL env r cs) else closL env r cs
theorem closL_sub {env : Env} : ∀ {ns : List (Str × NameKind)} {cs : List (Str × Addr)}, (∀ p ∈ cs, env.cells.lookup p.1 = some p.2) → ∀ p ∈ closL env ns cs, env.cells.lookup p.1 = some p.2
  | [], _, h => h
  | (n, k) :: r, cs, h => by
    unfold closL
    split
    · split
      · rename_i c e
        exact closL_sub (ns := r) fun p hp => by
          rcases List.mem_cons.mp hp with rfl | hp
          · exact e
          · exact h p hp
      · exact closL_sub (ns := r) h
    · exact closL_sub (ns := r) h
theorem closL_sub0 {env : Env} {ns : List (Str × NameKind)} : ∀ p ∈ closL env ns [], env.cells.lookup p.1 = some p.2 := closL_sub fun p h => by cases h
theorem closL_mono {env : Env} : ∀ {ns : List (Str × NameKind)} {cs : List (Str × Addr)} {p : Str × Addr}, p ∈ cs → p ∈ closL env ns cs
  | [], _, _, h => h
  | (n, k) :: r, cs, p, h => by
    unfold closL
    split
    · split
      · exact closL_mono (ns := r) (List.mem_cons_of_mem _ h)
      · exact closL_mono (ns := r) h
    · exact closL_mono (ns := r) h
theorem closL_mem {env : Env} {x : Str} {c : Addr} (hc : env.cells.lookup x = some c) : ∀ {ns : List (Str × NameKind)} {cs : List (Str × Addr)}, (x, NameKind.free) ∈ ns → (x, c) ∈ closL env ns cs
  | [], _, h => nomatch h
  | (n, k) :: r, cs, h => by
    unfold closL
    rcases List.mem_cons.mp h with e | h
    · cases e
      rw [if_pos (by rfl), hc]
      exact closL_mono List.mem_cons_self
    · split
      · split
        · exact closL_mem hc (ns := r) h
        · exact closL_mem hc (ns := r) h
      · exact closL_mem hc (ns := r) h
theorem lookup_of_all {cs : List (Str × Addr)} {env : Env} (h : ∀ p ∈ cs, env.cells.lookup p.1 = some p.2) {x : Str} {c : Addr} (e : cs.lookup x = some c) : env.cells.lookup x = some c := h (x, c) (PySem.mem_of_lookup e)
theorem lookup_of_mem {x : Str} {c : Addr} : ∀ {cs : List (Str × Addr)}, (x, c) ∈ cs → ∃ c', cs.lookup x = some c'
  | [], h => nomatch h
  | (n, d) :: r, h => by
    by_cases e : x = n
    · subst e
      exact ⟨d, by simp [List.lookup]⟩
    · have hb : (x == n) = false := beq_eq_false_iff_ne.mpr e
      rcases List.mem_cons.mp h with z | z
      · cases z
        exact absurd rfl e
      · obtain ⟨c', q⟩ := lookup_of_mem z
        exact ⟨c', by simp [List.lookup, hb, q]⟩
theorem closureFor_loop {env : Env} : ∀ (ns : List (Str × NameKind)) (cs : List (Str × Addr)), (∀ x ∈ ns, x.2 = .free → ∃ c, env.cells.lookup x.1 = some c) →
    (forIn ns cs fun x r => (if (x.2 == NameKind.free) = true then (do let c ← cellOf env x.1; pure (ForInStep.yield ((x.1, c) :: r))) else pure (ForInStep.yield r) : Sem (ForInStep (List (Str × Addr))))) = (pure (closL env ns cs) : Sem (List (Str × Addr)))
  | [], cs, _ => rfl
  | (n, k) :: r, cs, h => by
    have ih := fun cs => closureFor_loop r cs fun x hx => h x (List.mem_cons_of_mem _ hx)
    rw [List.forIn_cons]
    unfold closL
    cases hk : (k == NameKind.free) with
    | false =>
      simp only [Bool.false_eq_true, if_false]
      exact ih cs
    | true =>
      obtain ⟨c, hc⟩ := h (n, k) List.mem_cons_self (by simpa using hk)
      have hc' : env.cells.lookup n = some c := hc
      simp only [if_true]
      unfold cellOf
      rw [hc']
      exact ih ((n, c) :: cs)
theorem closureFor_eq {scope : Scope} {env : Env} (h : ∀ x ∈ scope.names, x.2 = .free → ∃ c, env.cells.lookup x.1 = some c) : closureFor scope env = pure (closL env scope.names []) := by
  have e := closureFor_loop scope.names [] h
  have e2 : closureFor scope env = (forIn scope.names [] (fun x r => (if (x.2 == NameKind.free) = true then (do let c ← cellOf env x.1; pure (ForInStep.yield ((x.1, c) :: r))) else pure (ForInStep.yield r) : Sem (ForInStep (List (Str × Addr))))) >>= fun z => pure z : Sem (List (Str × Addr))) := rfl
  rw [e2, e]
  rfl
end L2

namespace L2
open PySem PySem.Spec PyProof.Rows

structure CompScope (osc : Scope) (N : List Str) (scope : Scope) (N' : List Str) (nt : Nat) (caps : List Nat) : Prop where
  kind : scope.kind = .function
  nocell : ∀ y ∈ scope.names, y.2 ≠ .cell
  names : ∀ y ∈ scope.names, y.2 = .local → scope.names.lookup y.1 = some .local
  frees : ∀ y ∈ scope.names, y.2 = .free → osc.names.lookup y.1 = some .cell ∨ osc.names.lookup y.1 = some .free
  capt : caps.map (fun j => N[j]?) = (N'.drop nt).map some
  capf : ∀ x ∈ N'.drop nt, scope.names.lookup x = some .free
  len : nt ≤ N'.length
  nd : N'.Nodup

/-- the block's names at its entry: the targets unset, then the captured ones -/
def sgm (nt : Nat) (caps : List Nat) (σ : St) : St := List.replicate nt none ++ caps.map fun j => (σ[j]?).getD none

set_option genInjectivity false in
set_option genSizeOf false in
/-- a block's own things: its names' record, the state and heap at its entry, its iterator -/
structure Blk where
  C : Addr
  s : Shared
  H : Hp
  fp : List Addr
def cxComp (X : Cx) (N' : List Str) (scope : Scope) (B : Blk) : Cx :=
  { X with N := N', s₀ := B.s, H₀ := B.H, env := compEnvC scope (closL X.env scope.names []) B.C X.env, outer := X.stack, ex := B.fp, fn := fun _ => false, xe := fun _ _ => False }

theorem mem_relabel {scope : Scope} {env : Env} {x : Str} {k : NameKind} (h : (x, k) ∈ (relabel scope env).names) : ∃ k0, (x, k0) ∈ scope.names ∧ (k = k0 ∨ (k = .cell ∧ k0 = .free)) := by
  obtain ⟨⟨n, k0⟩, hm, e⟩ := List.mem_map.mp h
  dsimp only at e
  split at e
  · rename_i hc
    cases e
    refine ⟨k0, hm, .inr ⟨rfl, ?_⟩⟩
    simp only [Bool.and_eq_true, beq_iff_eq] at hc
    exact hc.1.1
  · cases e
    exact ⟨_, hm, .inl rfl⟩
theorem lookup_relabel_free {env : Env} : ∀ {names : List (Str × NameKind)} {x : Str}, names.lookup x = some .free →
    (names.map fun (n, k) => if (k == NameKind.free && env.scope.kind == .function && env.kindOf n == some .cell) then (n, NameKind.cell) else (n, k)).lookup x = some .cell ∨
    (names.map fun (n, k) => if (k == NameKind.free && env.scope.kind == .function && env.kindOf n == some .cell) then (n, NameKind.cell) else (n, k)).lookup x = some .free
  | [], _, h => by simp at h
  | (n, k) :: r, x, h => by
    have ih := @lookup_relabel_free env r x
    rw [List.map_cons]
    cases hx : x == n with
    | true =>
      simp only [List.lookup_cons, hx] at h
      cases h
      dsimp only
      split
      · left; simp only [List.lookup_cons, hx]
      · right; simp only [List.lookup_cons, hx]
    | false =>
      simp only [List.lookup_cons, hx] at h
      dsimp only
      split
      · simp only [List.lookup_cons, hx]; exact ih h
      · simp only [List.lookup_cons, hx]; exact ih h

section
variable {X : Cx} {pins : List (Addr × Obj)} {σ : St} {H : Hp} {s₂ : Shared} {scope : Scope} {N' : List Str} {nt : Nat} {caps : List Nat} {fp : List Addr} {C : Addr}

theorem comp_ok (I : Inv X pins σ H s₂) (S : CompScope X.env.scope X.N scope N' nt caps) (f2 : ∀ b ∈ fp, FpOk X pins H b) (hlt : ∀ b ∈ fp, b < s₂.heap.objs.size) (hC : s₂.heap.objs.size ≤ C) :
    (cxComp X N' scope ⟨C, s₂, H, fp⟩).Ok where
  mod := I.ok.mod
  kind := S.kind
  glob := I.ok.glob
  blt := I.ok.blt
  above := hC
  inj := fun x y c h1 h2 => I.ok.inj x y c (lookup_of_all closL_sub0 h1) (lookup_of_all closL_sub0 h2)
  has := fun x hx => by
    have hm : ∃ k, (k = NameKind.cell ∨ k = NameKind.free) ∧ (x, k) ∈ (relabel scope X.env).names := by
      rcases hx with e | e
      · exact ⟨_, .inl rfl, PySem.mem_of_lookup e⟩
      · exact ⟨_, .inr rfl, PySem.mem_of_lookup e⟩
    obtain ⟨k, hk, hm⟩ := hm
    obtain ⟨k0, h0, e⟩ := mem_relabel hm
    have hf : k0 = .free := by
      rcases e with e | ⟨_, e⟩
      · rcases hk with z | z
        · exact absurd (e.symm.trans z) (S.nocell _ h0)
        · exact e.symm.trans z
      · exact e
    subst hf
    obtain ⟨c, hc⟩ := I.ok.has x (S.frees _ h0 rfl)
    exact lookup_of_mem (closL_mem hc h0)
  cab := fun x c h => absurd (show false = true from h) Bool.false_ne_true
  hd := I.ok.hd
  frames := I.ok.frames
  stk := .inl rfl
  exf := fun b hb => ⟨Nat.ne_of_lt (Nat.lt_of_lt_of_le (hlt b hb) hC), fun x c e => (f2 b hb).2.2.2.2.1 x c (lookup_of_all closL_sub0 e)⟩
  bs := I.bs
  bsz := Nat.le_trans I.ok.bsz I.sz
  noex := fun b o e hb => by
    rcases (f2 b hb).2.2.2.1 with z | z
    · exact I.ok.noex b o e z
    · exact absurd (Nat.lt_of_lt_of_le (Heap.lt_size e) (Nat.le_trans I.ok.bsz z)) (Nat.lt_irrefl _)
  exfs := fun b hb hf => by
    rcases List.mem_cons.mp (I.stkSub b hf) with e | e
    · exact (f2 b hb).2.1 e
    · exact (f2 b hb).2.2.1 e
  funs := I.stack
  frf := I.stkFree

theorem inv_comp {h₁ : Heap} {tk : Nat} {m0 : Str → Option Value} (I : Inv X pins σ H s₂) (S : CompScope X.env.scope X.N scope N' nt caps) (f2 : ∀ b ∈ fp, FpOk X pins H b) (hlt : ∀ b ∈ fp, b < s₂.heap.objs.size)
    (hC : s₂.heap.objs.size ≤ C) (hns : h₁.Ns C m0) (old : ∀ b o, s₂.heap.get? b = some o → h₁.get? b = some o) :
    Inv (cxComp X N' scope ⟨C, s₂, H, fp⟩) pins (sgm nt caps σ) H { s₂ with heap := h₁, toks := tk } := by
  have hl := congrArg List.length S.capt
  rw [List.length_map, List.length_map, List.length_drop] at hl
  have sub : ∀ {x c}, (closL X.env scope.names []).lookup x = some c → X.env.cells.lookup x = some c := fun e => lookup_of_all closL_sub0 e
  refine ⟨comp_ok I S f2 hlt hC, rfl, I.bare, Un.kept old, ⟨m0, hns, fun i x v e1 e2 e3 => ?_⟩, fun x c e => ?_, I.hok.fresh hC, fun x c e => I.freeC x c (sub e), fun p hp => ?_, I.hok.kept old, ?_⟩
  · have e1' : N'[i]? = some x := e1
    have e2' : (List.replicate nt none ++ caps.map fun j => (σ[j]?).getD none)[i]? = some (some v) := e2
    have hi : nt ≤ i := by
      rcases Nat.lt_or_ge i nt with z | z
      · rw [List.getElem?_append_left (by simpa using z), List.getElem?_replicate, if_pos z] at e2'
        cases e2'
      · exact z
    rw [List.getElem?_append_right (by simpa using hi), List.length_replicate, List.getElem?_map] at e2'
    cases hj : caps[i - nt]? with
    | none => rw [hj] at e2'; cases e2'
    | some j =>
      rw [hj] at e2'
      have e3' : (σ[j]?).getD none = some v := Option.some.inj e2'
      have hσ : σ[j]? = some (some v) := by
        cases q : σ[j]? with
        | none => rw [q] at e3'; cases e3'
        | some o => rw [q] at e3'; have z : o = some v := e3'; rw [z]
      have hd : (N'.drop nt)[i - nt]? = some x := by rw [List.getElem?_drop, Nat.add_sub_cancel' hi]; exact e1'
      have hN : X.N[j]? = some x := by
        have q := congrArg (fun l => l[i - nt]?) S.capt
        have q : (caps.map fun j => X.N[j]?)[i - nt]? = ((N'.drop nt).map some)[i - nt]? := q
        rw [List.getElem?_map, List.getElem?_map, hj, hd] at q
        exact Option.some.inj q
      have hfx := S.capf x (List.mem_of_getElem? hd)
      have hko := S.frees (x, .free) (PySem.mem_of_lookup hfx) rfl
      have vis : Vis X.env.scope x := .inr hko
      obtain ⟨m, hn, hl'⟩ := I.loc
      obtain ⟨u, r, l⟩ := hl' j x v hN hσ vis
      refine ⟨u, r, .inr ⟨?_, ?_⟩⟩
      · exact lookup_relabel_free hfx
      · rcases l with ⟨k, _⟩ | ⟨_, c, e, z⟩
        · have k' : X.env.scope.names.lookup x = some .local := k
          rcases hko with q | q <;> (rw [k'] at q; cases q)
        · obtain ⟨c', q⟩ := lookup_of_mem (closL_mem e (PySem.mem_of_lookup hfx) (cs := []))
          have q2 := sub q
          rw [e] at q2
          cases q2
          obtain ⟨o, ho, hd'⟩ := z
          exact ⟨c, q, o, old _ _ ho, hd'⟩
  · obtain ⟨v, o, ho, hd'⟩ := I.cell x c (sub e)
    exact ⟨v, o, old _ _ ho, hd'⟩
  · obtain ⟨a, b, c, d, e⟩ := I.pin p hp
    refine ⟨old _ _ a, b, Nat.ne_of_lt (Nat.lt_of_lt_of_le (Heap.lt_size a) hC), fun hf => ?_, e⟩
    rcases List.mem_cons.mp (I.stkSub p.1 hf) with z | z
    · exact c z
    · exact d z
  · show (List.replicate nt none ++ caps.map fun j => (σ[j]?).getD none).length = N'.length
    rw [List.length_append, List.length_replicate, List.length_map]
    have := S.len
    omega
end

def PTs (X : Cx) (ifs : List Expr) (t : TT) : Prop :=
  ∀ (pins : List (Addr × Obj)) (s : Shared) (σ : St) (H : Hp) (Q : Bool → Hp → Prop), Inv X pins σ H s → t σ H Q →
    wpAny (model X.prog X.w) X.A (forIn ifs true fun c r => if r = true then do let ok ← isTrue c X.env (eval c X.env); pure (ForInStep.yield ok) else pure (ForInStep.yield r)) (TP X pins σ Q) X.xe s
def tTrue : TT := fun _ H Q => Q true H
theorem pts_nil {X : Cx} : PTs X [] tTrue := fun _ _ _ H _ I h => wpAny_tests_nil ⟨H, I, h⟩
section
variable {prog : Program} {w : World} {A : Around} {R : Result → Shared → Prop} {s : Shared}
theorem codeAny_compLoop_go {elt target iter : Expr} {ifs : List Expr} {scope : Scope} {pos : Pos} {it acc : Value} {env : Env} (I : Nat → Shared → Prop)
    (turn : ∀ n s, I n s → wpAny (model prog w) A (pyNext it) (fun r s₁ => match r with
      | none => R (.ok .next) s₁
      | some v => wpAny (model prog w) A (letOwnedTupleGo target it v) (fun _ s₁' => wpAny (model prog w) A (assign target env v) (fun _ s₂ =>
          wpAny (model prog w) A (forIn ifs true fun c r => if r = true then do let ok ← isTrue c env (eval c env); pure (ForInStep.yield ok) else pure (ForInStep.yield r)) (fun ok s₃ =>
            if ok = true then wpAny (model prog w) A (eval elt env) (fun x s₄ =>
              wpAny (model prog w) A (call (.builtin "list.append") [acc, x]) (fun _ s₅ => ∃ m, m < n ∧ I m s₅) (notedBy (model prog w) A env fun e s' => R (.error e) s') s₄) (notedBy (model prog w) A env fun e s' => R (.error e) s') s₃
            else ∃ m, m < n ∧ I m s₃) (notedBy (model prog w) A env fun e s' => R (.error e) s') s₂) (notedBy (model prog w) A env fun e s' => R (.error e) s') s₁') (notedBy (model prog w) A env fun e s' => R (.error e) s') s₁)
      (notedBy (model prog w) A env fun e s' => R (.error e) s') s)
    (n : Nat) (h : I n s) : codeAny (model prog w) A (.compLoop (.ListComp elt [⟨target, iter, ifs, 0⟩] scope pos) 0 it acc env) R s := by
  refine codeAny_loop rfl I (fun n s hI => ?_) n h
  show wpAny _ A ((compTurn (.ListComp elt [⟨target, iter, ifs, 0⟩] scope pos) 0 it acc env).onRaise (fun x => do noteFrame x env; theTreesLotGoes x)) _ _ s
  refine wpAny_noted ?_
  rw [compTurn_list]
  refine wpAny_bind (wpAny_standAt (wpAny_bind (wpAny_mono (turn n s hI) (fun r s₁ h₁ => ?_) fun _ _ h' => h')))
  cases r with
  | none => exact wpAny_pure h₁
  | some v =>
    refine wpAny_bind (wpAny_mono h₁ (fun _ s₁' h₁' => ?_) fun _ _ h' => h')
    refine wpAny_bind (wpAny_mono h₁' (fun _ s₂ h₂ => wpAny_bind (wpAny_mono h₂ (fun ok s₃ h₃ => ?_) fun _ _ h' => h')) fun _ _ h' => h')
    cases ok with
    | false => exact wpAny_pure ⟨rfl, h₃⟩
    | true =>
      exact wpAny_bind (wpAny_bind (wpAny_mono h₃ (fun x s₄ h₄ => wpAny_bind (wpAny_mono h₄ (fun _ s₅ h₅ => wpAny_pure (wpAny_pure ⟨rfl, h₅⟩)) fun _ _ h' => h')) fun _ _ h' => h'))
end

section
variable {X : Cx} {pins : List (Addr × Obj)} {σ : St} {H : Hp} {s₂ : Shared} {scope : Scope} {N' : List Str} {nt : Nat} {caps : List Nat} {tg elt iter : Expr} {ifs : List Expr} {pos : Pos} {g : Blk → TG} {tt : Blk → TT} {te : Blk → TE}

/-- one turn and the end, by what the block wants -/
def CompW (J : It) (g : TG) (tt : TT) (te : TE) (W : Nat → Nat → List V → St → Hp → Prop) (Z : List V → Hp → Prop) : Prop :=
  ∀ i m ys σ' H', W i m ys σ' H' → (J.stop i H' ∧ Z ys H') ∨ (J.go i H' ∧ ys.length < sizeLine ∧ ∃ N : List V → St → Hp → Prop, (∀ zs σ2 H2, N zs σ2 H2 → ∃ m', m' < m ∧ W (i + 1) m' zs σ2 H2) ∧
    ∀ x H2, J.yld i H' x H2 → g x σ' H2 fun σ2 H3 => tt σ2 H3 fun b H4 => if b = true then te σ2 H4 fun y H5 => N (ys ++ [y]) σ2 H5 else N ys σ2 H4)

abbrev lobj (its : List Value) (n : Nat) : Obj := { cls := .type "list", data := .seq its.toArray n }

theorem comp_run {J : It} {it : Addr} {fp : List Addr} {tn : Nat → Heap → Prop} {W : Nat → Nat → List V → St → Hp → Prop} {Z : List V → Hp → Prop} {RR : Value → Addr → Result → Shared → Prop} {E : Value → Shared → Prop}
    (hc : X.calm = true) (S : CompScope X.env.scope X.N scope N' nt caps)
    (hg : ∀ B, PG (cxComp X N' scope B) tg (g B)) (ht : ∀ B, PTs (cxComp X N' scope B) ifs (tt B)) (he : ∀ B, PE (cxComp X N' scope B) elt (te B))
    (I : Inv X pins σ H s₂) (T : Turn X.prog X.w X.K tg J fp it tn) (st : tn 0 s₂.heap) (f2 : ∀ b ∈ fp, FpOk X pins H b) (w0 : ∃ m, W 0 m [] (sgm nt caps σ) H) (turn : ∀ B, CompW J (g B) (tt B) (te B) W Z)
    (hRR : ∀ D C s' ys H', Z ys H' → H' D = none → Inv X pins σ (upd H' D (.lst ys)) s' → FpOk X pins (upd H' D (.lst ys)) C → (∃ m, s'.heap.Ns C m) → RR (.ref D) C (.ok .next) s') :
    wpAny (model X.prog X.w) X.A (newList []) (fun acc s₃ => wpAny (model X.prog X.w) X.A (newFunctionEnv scope X.env.globals (closL X.env scope.names []) [] X.env.qual none .none (some X.env)) (fun cenv s₄ =>
      codeAny (model X.prog X.w) X.A (.compStart (.ListComp elt [⟨tg, iter, ifs, 0⟩] scope pos) 0 (.ref it) acc { cenv with scope := relabel scope X.env }) (RR acc cenv.locals) s₄) E s₃) E s₂ := by
  refine wpAny_newObj_type (wpAny_newFunctionEnv S.nocell (by intro y hy; simp at hy) (fun h₁ hns₁ hsb₁ => ?_) S.kind)
  dsimp only at hns₁ hsb₁ ⊢
  generalize hH2 : s₂.heap.push { cls := .type "list", dict := none, data := .seq ([] : List Value).toArray } = G2 at hns₁ hsb₁ ⊢
  have hCe : G2.objs.size = s₂.heap.objs.size + 1 := by rw [← hH2, Heap.size_push]
  have hDC : s₂.heap.objs.size ≠ G2.objs.size := by rw [hCe]; exact Nat.ne_of_lt (Nat.lt_succ_self _)
  have hCle : s₂.heap.objs.size ≤ G2.objs.size := by rw [hCe]; exact Nat.le_succ _
  have hlt : ∀ b ∈ fp, b < s₂.heap.objs.size := fun b hb => let ⟨o, e, _⟩ := T.obj 0 _ st b hb; Heap.lt_size e
  have old : ∀ b o, s₂.heap.get? b = some o → h₁.get? b = some o := fun b o e =>
    hsb₁.extBut b o (Nat.ne_of_lt (Nat.lt_of_lt_of_le (Heap.lt_size e) hCle)) (Heap.get?_push_of_some _ (hH2 ▸ Heap.get?_push_of_some _ e))
  have hacc : h₁.get? s₂.heap.objs.size = some (lobj [] 0) := hsb₁.extBut _ _ hDC (Heap.get?_push_of_some _ (hH2 ▸ Heap.get?_push_size _ rfl))
  generalize hD : s₂.heap.objs.size = D at hacc hDC hCle hCe
  generalize G2.objs.size = C at hns₁ hsb₁ hDC hCle hCe ⊢
  have hlt' : ∀ b ∈ fp, b < D := fun b hb => hD ▸ hlt b hb
  have hpl : ∀ p ∈ X.pn ++ pins, p.1 < D := fun p hp => hD ▸ Heap.lt_size (I.pin p hp).1
  have hcl : ∀ x c, X.env.cells.lookup x = some c → c < D := fun x c e => let ⟨v, q⟩ := I.cell x c e; hD ▸ q.lt
  have hfsl : ∀ b ∈ frs X.stack, b < D := fun b hb => by
    rcases List.mem_cons.mp (I.stkSub b hb) with z | z
    · rw [z, ← hD]; exact I.lt
    · rw [← hD]
      refine Nat.lt_of_not_le fun q => I.nofs q z
  -- the iterator's and the list's own addresses within the block
  have fD : ∀ {H' : Hp} {pl : List (Addr × Obj)}, H' D = none → (∀ p ∈ X.pn ++ pl, p.1 < D) → FpOk (cxComp X N' scope ⟨C, s₂, H, fp⟩) pl H' D := fun {H' pl} hn hp =>
    ⟨hn, hDC, fun z => Nat.lt_irrefl _ (hfsl D z), .inr (by show s₂.heap.objs.size ≤ D; rw [hD]; exact Nat.le_refl _), fun x c e z => Nat.lt_irrefl D (by have := hcl x c (lookup_of_all closL_sub0 e); rw [z] at this; exact this),
      fun p q z => Nat.lt_irrefl D (by have := hp p q; rw [z] at this; exact this)⟩
  have fI : ∀ {H' : Hp} {n : Nat} {its : List Value}, (∀ b ∈ fp, H' b = none) → ∀ b ∈ fp, FpOk (cxComp X N' scope ⟨C, s₂, H, fp⟩) (pins ++ [(D, lobj its n)]) H' b := fun {H' n its} hn b hb => by
    obtain ⟨g0, g1, g2, g3, g4, g5⟩ := f2 b hb
    refine ⟨hn b hb, Nat.ne_of_lt (Nat.lt_of_lt_of_le (hlt' b hb) hCle), fun z => ?_, .inl hb, fun x c e => g4 x c (lookup_of_all closL_sub0 e), fun p hp z => ?_⟩
    · rcases List.mem_cons.mp (I.stkSub b z) with q | q
      · exact g1 q
      · exact g2 q
    · have hp' : p ∈ X.pn ++ (pins ++ [(D, lobj its n)]) := hp
      rw [← List.append_assoc] at hp'
      rcases List.mem_append.mp hp' with q | q
      · exact g5 p q z
      · have e : p = (D, lobj its n) := by simpa using q
        rw [e] at z
        have := hlt' b hb
        rw [← z] at this
        exact Nat.lt_irrefl _ this
  have pinD : ∀ {σ' : St} {H' : Hp} {s' : Shared} {its : List Value} {n : Nat} {pl : List (Addr × Obj)}, Inv (cxComp X N' scope ⟨C, s₂, H, fp⟩) (pins ++ pl) σ' H' s' → H' D = none → s'.heap.get? D = some (lobj its n) → Inv (cxComp X N' scope ⟨C, s₂, H, fp⟩) (pins ++ [(D, lobj its n)]) σ' H' s' :=
    fun {σ' H' s' its n pl} J hn ho => J.pins_of fun p hp => by
      rcases List.mem_append.mp hp with q | q
      · exact J.pin p (List.mem_append_right _ (List.mem_append_left _ q))
      · have e : p = (D, lobj its n) := by simpa using q
        subst e
        exact ⟨ho, hn, hDC, fun z => Nat.lt_irrefl _ (hfsl D z), fun v z => by cases z⟩
  have I1 : Inv (cxComp X N' scope ⟨C, s₂, H, fp⟩) (pins ++ [(D, lobj [] 0)]) (sgm nt caps σ) H { s₂ with heap := h₁, toks := s₂.toks + ([] : List (Str × Value)).length } :=
    pinD (pl := []) (by rw [List.append_nil]; exact inv_comp I S f2 hlt (by rw [hD]; exact hCle) hns₁ old) (I.hok.fresh (by rw [hD]; exact Nat.le_refl _)) hacc
  have st1 : tn 0 h₁ := T.keep 0 _ _ st fun b _ o e => old b o e
  have loop : ∀ s₃ : Shared, s₃ = { s₂ with heap := h₁, toks := s₂.toks + ([] : List (Str × Value)).length } →
      codeAny (model X.prog X.w) X.A (.compLoop (.ListComp elt [⟨tg, iter, ifs, 0⟩] scope pos) 0 (.ref it) (.ref D) (cxComp X N' scope ⟨C, s₂, H, fp⟩).env) (RR (.ref D) C) s₃ := by
    rintro s₃ rfl
    obtain ⟨m0, w0⟩ := w0
    refine codeAny_compLoop_go (fun k s' => ∃ i ys σ' H' its n, Inv (cxComp X N' scope ⟨C, s₂, H, fp⟩) (pins ++ [(D, lobj its n)]) σ' H' s' ∧ Vals ys its ∧ tn i s'.heap ∧ (∀ b ∈ fp, H' b = none) ∧ ys.length ≤ sizeLine ∧ W i k ys σ' H') ?_ m0
      ⟨0, [], _, H, [], 0, I1, .nil, st1, fun b hb => (f2 b hb).1, Nat.zero_le _, w0⟩
    rintro k s' ⟨i, ys, σ', H', its, n, I', rv, st', fr', hz, w'⟩
    rcases turn ⟨C, s₂, H, fp⟩ i k ys σ' H' w' with ⟨stop, z⟩ | ⟨go, hlen, NN, hNN, step⟩
    · refine thn (T.done (cxComp X N' scope ⟨C, s₂, H, fp⟩) rfl rfl rfl hc i _ s' σ' H' _ I' (fI fr') st' stop) fun r s1 ⟨hr, J⟩ => ?_
      subst hr
      have pd := J.pin (D, lobj its n) (List.mem_append_right _ (List.mem_append_right _ List.mem_cons_self))
      have hDn : H' D = none := pd.2.1
      have J0 : Inv X pins σ H' s1 := I.call' (ch := fp) J.os J.base J.hok J.bare fun b hb => ⟨(f2 b hb).2.2.2.1, (f2 b hb).2.1, (f2 b hb).2.2.2.2.1, (f2 b hb).2.2.2.2.2⟩
      have J1 : Inv X pins σ (upd H' D (.lst ys)) s1 := J0.track (I.fpOk (by rw [hD]; exact Nat.le_refl _) hDn) ⟨hz, its, n, rv, pd.1⟩
      obtain ⟨mC, hnC, _⟩ := J.loc
      exact hRR D C s1 ys H' z hDn J1 (I.fpOk (by rw [hD]; exact hCle) (by rw [upd_ne (Ne.symm hDC)]; exact J.free)) ⟨mC, hnC⟩
    · refine thn (T.item (cxComp X N' scope ⟨C, s₂, H, fp⟩) rfl rfl rfl hc i _ s' σ' H' _ I' (fI fr') st' go) fun r s1 ⟨u, hr, h1⟩ => ?_
      subst hr
      refine thn h1 fun _ s5 ⟨x, H5, I5, r5, y5, st5, fr5⟩ => ?_
      have I5' := I5.pinned (fI fr5) (T.obj _ _ st5)
      refine wpAny_mono (hg ⟨C, s₂, H, fp⟩ _ s5 σ' H5 x u _ I5' r5 (step x H5 y5)) (fun _ s6 ⟨σ6, H6, I6, q6⟩ => ?_) fun _ _ z => z.elim
      refine wpAny_mono (ht ⟨C, s₂, H, fp⟩ _ s6 σ6 H6 _ I6 q6) (fun b s7 ⟨H7, I7, q7⟩ => ?_) fun _ _ z => z.elim
      have keepT : ∀ {σ8 : St} {H8 : Hp} {s8 : Shared}, Inv (cxComp X N' scope ⟨C, s₂, H, fp⟩) ((pins ++ [(D, lobj its n)]) ++ pinsAt fp s5.heap) σ8 H8 s8 → tn (i + 1) s8.heap ∧ (∀ b ∈ fp, H8 b = none) ∧ s8.heap.get? D = some (lobj its n) ∧ H8 D = none := fun {σ8 H8 s8} I8 => by
        refine ⟨T.keep _ _ _ st5 fun b hb o e => (I8.pin (b, o) (List.mem_append_right _ (List.mem_append_right _ (mem_pinsAt hb e)))).1, fun b hb => ?_, ?_⟩
        · obtain ⟨o, e, _⟩ := T.obj _ _ st5 b hb
          exact (I8.pin (b, o) (List.mem_append_right _ (List.mem_append_right _ (mem_pinsAt hb e)))).2.1
        · have pd := I8.pin (D, lobj its n) (List.mem_append_right _ (List.mem_append_left _ (List.mem_append_right _ List.mem_cons_self)))
          exact ⟨pd.1, pd.2.1⟩
      cases b with
      | false =>
        rw [if_neg Bool.false_ne_true] at q7 ⊢
        obtain ⟨m', hm, w7⟩ := hNN _ _ _ q7
        obtain ⟨t7, f7, _, _⟩ := keepT I7
        exact ⟨m', hm, i + 1, ys, σ6, H7, its, n, I7.unpinned, rv, t7, f7, hz, w7⟩
      | true =>
        rw [if_pos rfl] at q7 ⊢
        refine wpAny_mono (he ⟨C, s₂, H, fp⟩ _ s7 σ6 H7 _ I7 q7) (fun v s8 ⟨y, H8, I8, r8, q8⟩ => ?_) fun _ _ z => z.elim
        obtain ⟨m', hm, w8⟩ := hNN _ _ _ q8
        obtain ⟨t8, f8, o8, n8⟩ := keepT I8
        have hlv := rv.length
        refine append_at o8 (fun h9 sb9 o9 => ?_) (by rw [List.size_toArray, ← hlv]; exact hz)
        have I8' : Inv (cxComp X N' scope ⟨C, s₂, H, fp⟩) (pins ++ []) σ6 H8 s8 := by
          rw [List.append_nil]
          exact I8.unpinned.unpinned
        have ep : ((its.toArray.push v)) = (its ++ [v]).toArray := by simp
        rw [ep] at o9
        have I9 : Inv (cxComp X N' scope ⟨C, s₂, H, fp⟩) (pins ++ []) σ6 H8 { s8 with heap := h9 } :=
          I8'.turnedL (t' := s8.toks) (ch := [D]) (fun b o hb e => sb9.extBut b o (fun z => hb (by simp [z])) e) (fun b hb => by
            have e : b = D := by simpa using hb
            subst e
            exact fD n8 (by rw [List.append_nil]; exact hpl))
        refine ⟨m', hm, i + 1, ys ++ [y], σ6, H8, its ++ [v], n + 1, pinD I9 n8 o9, rv.append (.cons r8 .nil), T.keep _ _ _ t8 fun b hb o e => sb9.extBut b o (Nat.ne_of_lt (hlt' b hb)) e, f8, ?_, w8⟩
        rw [List.length_append, List.length_singleton]
        exact hlen
  exact codeAny_compStart_list (loop _ rfl) (T.self X.A 0 _ _ _ st1 (loop _ rfl))

/-- [elt for tg in iter if ..] -/
def tComp (nt : Nat) (caps : List Nat) (wi : TI) (g : Blk → TG) (tt : Blk → TT) (te : Blk → TE) : TE := fun σ H Q => wi σ H fun J H1 =>
  ∃ (W : Nat → Nat → List V → St → Hp → Prop), (∃ m, W 0 m [] (sgm nt caps σ) H1) ∧ ∀ B, CompW J (g B) (tt B) (te B) W fun ys H' => ∀ p, H' p = none → Q (.ref p) (upd H' p (.lst ys))

theorem pe_comp {wi : TI} (osc : Scope) (N : List Str) (S : CompScope osc N scope N' nt caps) (hi : PI X tg iter wi)
    (hg : ∀ B, PG (cxComp X N' scope B) tg (g B)) (ht : ∀ B, PTs (cxComp X N' scope B) ifs (tt B)) (he : ∀ B, PE (cxComp X N' scope B) elt (te B))
    (hc : X.calm = true := by rfl) (hosc : X.env.scope = osc := by rfl) (hNN : X.N = N := by rfl) (hs : ∀ x, foldedSetIterable iter X.env x = pure x := by intro _; rfl) : PE X (.ListComp elt [⟨tg, iter, ifs, 0⟩] scope pos) (tComp nt caps wi g tt te) := by
  subst hosc hNN
  intro pins s σ H Q I h
  have hfr : ∀ x ∈ scope.names, x.2 = .free → ∃ c, X.env.cells.lookup x.1 = some c := fun x hx hf => I.ok.has x.1 (S.frees x hx hf)
  rw [eval_ListComp]
  refine wpAny_comprehension_free (use := none) rfl hs (closureFor_eq hfr) S.kind S.names (thn (hi pins s σ H _ I h) fun v s1 h1 => thn h1 fun itv s2 h2 => ?_)
  obtain ⟨it, fp, tn, J, H2, e, I2, T, st2, f2, W, w0, turn⟩ := h2
  subst e
  refine comp_run (RR := fun acc C => compPost (model X.prog X.w) X.A X.xe none (EP X pins σ Q) acc C) hc S hg ht he I2 T st2 f2 w0 turn ?_
  intro D C s' ys H' z hn J' fC ⟨m, hm⟩
  refine ⟨m, hm, fun h'' sb => ⟨.ref D, _, J'.turnedL (t' := s'.toks) (ch := [C]) (fun b o hb e => sb.extBut b o (fun z => hb (by simp [z])) e) (fun b hb => ?_), rfl, z D hn⟩⟩
  have e : b = C := by simpa using hb
  subst e
  exact fC
/-- name = [elt for ..] where the model stores ahead of letting the block's names go -/
theorem ps_setComp {wi : TI} {i : Nat} {y : Str} {py spos : Pos} (osc : Scope) (N : List Str) (S : CompScope osc N scope N' nt caps) (hN : X.N.Nodup) (hiN : X.N[i]? = some y) (hy : X.env.scope.names.lookup y = some .local) (hi : PI X tg iter wi)
    (hg : ∀ B, PG (cxComp X N' scope B) tg (g B)) (ht : ∀ B, PTs (cxComp X N' scope B) ifs (tt B)) (he : ∀ B, PE (cxComp X N' scope B) elt (te B))
    (hsw : swapsWith (.ListComp elt [⟨tg, iter, ifs, 0⟩] scope pos) (some (.Name y py)) spos.line X.env = pure true := by rfl)
    (hc : X.calm = true := by rfl) (hosc : X.env.scope = osc := by rfl) (hNN : X.N = N := by rfl) (hs : ∀ x, foldedSetIterable iter X.env x = pure x := by intro _; rfl) : PS X (.Assign [.Name y py] (.ListComp elt [⟨tg, iter, ifs, 0⟩] scope pos) spos) (tAsg (tComp nt caps wi g tt te) (gName i)) := by
  subst hosc hNN
  intro pins s σ H D0 I h
  have hfr : ∀ x ∈ scope.names, x.2 = .free → ∃ c, X.env.cells.lookup x.1 = some c := fun x hx hf => I.ok.has x.1 (S.frees x hx hf)
  rw [exec_Assign_Name_used _ _ _ _ hsw]
  refine wpAny_bind (wpAny_standAt (wpAny_bind ?_))
  show wpAny _ _ (do let _ ← comprehension (.ListComp elt [⟨tg, iter, ifs, 0⟩] scope pos) scope X.env _ (newList []) false (eval iter X.env) (some (assign (.Name y py) X.env))) _ _ s
  refine wpAny_bind (wpAny_mono (wpAny_comprehension_free (use := some (assign (.Name y py) X.env)) (Q := fun _ s' => SP X pins D0 .next s') rfl hs (closureFor_eq hfr) S.kind S.names
    (thn (hi pins s σ H _ I h) fun v s1 h1 => thn h1 fun itv s2 h2 => ?_)) (fun _ s' hq => wpAny_pure (wpAny_pure hq)) fun _ _ e => e)
  obtain ⟨it, fp, tn, J, H2, e, I2, T, st2, f2, W, w0, turn⟩ := h2
  subst e
  refine comp_run (RR := fun acc C => compPost (model X.prog X.w) X.A X.xe (some (assign (.Name y py) X.env)) (fun _ s' => SP X pins D0 .next s') acc C) hc S hg ht he I2 T st2 f2 w0 turn ?_
  intro D C s' ys H' z hn J' fC ⟨m, hm⟩
  show wpAny _ _ (assign (.Name y py) X.env (.ref D)) _ _ s'
  refine wpAny_assign_Name (store_ok2 (v := .ref D) J' hN hiN (.inl hy) rfl (fun s'' J'' ⟨a, sb, ha⟩ => ?_) (.inr hy))
  have hCa : C ≠ a := by
    rcases ha with q | q
    · rw [q]; exact fC.2.1
    · exact Ne.symm (fC.2.2.2.2.1 _ _ q)
  refine ⟨m, hm.sameBut sb hCa, fun h'' sb' => ⟨_, _, J''.turnedL (t' := s''.toks) (ch := [C]) (fun b o hb e => sb'.extBut b o (fun z => hb (by simp [z])) e) (fun b hb => ?_), z D hn⟩⟩
  have e : b = C := by simpa using hb
  subst e
  exact fC
end

def Itz (K : PySem.W.Frag) (a b : Addr) : It where
  go i H := ∃ xs ys x y, SqL K H a xs ∧ SqL K H b ys ∧ xs[i]? = some x ∧ ys[i]? = some y
  yld i H v H' := ∃ p x y, H p = none ∧ v = .ref p ∧ H' = upd H p (.tup [x, y]) ∧ (∀ xs, SqL K H a xs → xs[i]? = some x) ∧ ∀ ys, SqL K H b ys → ys[i]? = some y
  stop i H := ∃ xs ys, SqL K H a xs ∧ SqL K H b ys ∧ (xs.length ≤ i ∨ ys.length ≤ i)
theorem ne_cls {h : Heap} {a b : Addr} {o u : Obj} {x y : Value} (ha : h.get? a = some o) (hb : h.get? b = some u) (h1 : o.cls = x) (h2 : u.cls = y) (hc : x ≠ y) : a ≠ b := by
  rintro rfl
  rw [ha] at hb
  cases hb
  exact hc (h1.symm.trans h2)
theorem zip_apart {h : Heap} {z TI TO i1 i2 a b : Addr} {k1 k2 : Nat} {xs ys : Array Value} {u v : Value} (hTT : TI ≠ TO) (hii : i1 ≠ i2) (hz : IsZip h z TI TO .none) (hTI : IsPair h TI (.ref i1) (.ref i2)) (hTO : IsPair h TO u v)
    (h1 : h.IsListIter i1 a k1) (h2 : h.IsListIter i2 b k2) (ha : h.IsList a xs) (hb : h.IsList b ys) : ZipApart z TI TO i1 i2 a b := by
  obtain ⟨o1, e1, c1, _⟩ := h1
  obtain ⟨o2, e2, c2, _⟩ := h2
  obtain ⟨oa, ea, ca, _⟩ := ha
  obtain ⟨ob, eb, cb, _⟩ := hb
  exact ⟨(ne_cls (x := .type "tuple") (y := .type "zip") hTI hz rfl rfl (by decide)), (ne_cls (x := .type "tuple") (y := .type "zip") hTO hz rfl rfl (by decide)), (ne_cls (x := .type "list_iterator") (y := .type "zip") e1 hz c1 rfl (by decide)), (ne_cls (x := .type "list_iterator") (y := .type "zip") e2 hz c2 rfl (by decide)), hTT, (ne_cls (x := .type "tuple") (y := .type "list_iterator") hTI e1 rfl c1 (by decide)), (ne_cls (x := .type "tuple") (y := .type "list_iterator") hTI e2 rfl c2 (by decide)), (ne_cls (x := .type "tuple") (y := .type "list_iterator") hTO e1 rfl c1 (by decide)), (ne_cls (x := .type "tuple") (y := .type "list_iterator") hTO e2 rfl c2 (by decide)), hii, (ne_cls (x := .type "list") (y := .type "zip") ea hz ca rfl (by decide)), (ne_cls (x := .type "list") (y := .type "tuple") ea hTO ca rfl (by decide)), (ne_cls (x := .type "list") (y := .type "list_iterator") ea e1 ca c1 (by decide)), (ne_cls (x := .type "list") (y := .type "list_iterator") ea e2 ca c2 (by decide)), (ne_cls (x := .type "list") (y := .type "zip") eb hz cb rfl (by decide)), (ne_cls (x := .type "list") (y := .type "tuple") eb hTO cb rfl (by decide)), (ne_cls (x := .type "list") (y := .type "list_iterator") eb e1 cb c1 (by decide)), (ne_cls (x := .type "list") (y := .type "list_iterator") eb e2 cb c2 (by decide))⟩
theorem turn_zip {P : Program} {w : World} {K : PySem.W.Frag} {elts : List Expr} {kx} {tpos : Pos} {z TI TO i1 i2 a b : Addr} (hTT : TI ≠ TO) (hii : i1 ≠ i2) : Turn P w K (.Tuple elts kx tpos) (Itz K a b) [z, TI, TO, i1, i2] z
    (fun i h => IsZip h z TI TO .none ∧ IsPair h TI (.ref i1) (.ref i2) ∧ (∃ u v, IsPair h TO u v) ∧ h.IsListIter i1 a i ∧ h.IsListIter i2 b i) where
  mem := by simp
  obj := fun i h st c hc => by
    obtain ⟨hz, hTI, ⟨u, v, hTO⟩, ⟨o1, e1, _, d1⟩, ⟨o2, e2, _, d2⟩⟩ := st
    simp only [List.mem_cons, List.not_mem_nil, or_false] at hc
    rcases hc with rfl | rfl | rfl | rfl | rfl
    · exact ⟨_, hz, fun v q => by cases q⟩
    · exact ⟨_, hTI, fun v q => by cases q⟩
    · exact ⟨_, hTO, fun v q => by cases q⟩
    · exact ⟨_, e1, fun v q => by rw [d1] at q; cases q⟩
    · exact ⟨_, e2, fun v q => by rw [d2] at q; cases q⟩
  keep := fun i h h' st k => by
    obtain ⟨hz, hTI, ⟨u, v, hTO⟩, h1, h2⟩ := st
    exact ⟨k z (by simp) _ hz, k TI (by simp) _ hTI, ⟨u, v, k TO (by simp) _ hTO⟩, h1.at fun o e => k i1 (by simp) o e, h2.at fun o e => k i2 (by simp) o e⟩
  item := by
    intro X hP hw hK hc i pins s σ H E I hf st hg
    subst hP hw hK
    obtain ⟨xs, ys, x, y, qa, qb, hx, hy⟩ := hg
    obtain ⟨its1, rv1, p1, z1⟩ := I.list qa
    obtain ⟨its2, rv2, p2, z2⟩ := I.list qb
    obtain ⟨u1, hu1, ru1⟩ := rv1.get hx
    obtain ⟨u2, hu2, ru2⟩ := rv2.get hy
    obtain ⟨hz, hTI, ⟨u, v, hTO⟩, h1, h2⟩ := st
    have D := zip_apart hTT hii hz hTI hTO h1 h2 p1.isList p2.isList
    refine wpAny_pyNext_zip_item D hz hTI hTO h1 h2 p1.isList p2.isList (x := u1) (y := u2) (by simpa using hu1) (by simpa using hu2) fun h' a1 a2 a3 a4 a5 a6 hk => ?_
    refine ⟨_, rfl, wpAny_letOwnedTupleGo_zip a1 fun h'' hz'' sb => ?_⟩
    have zlt := Heap.lt_size hz
    have pz : s.heap.objs.size ≠ z := Nat.ne_of_gt zlt
    have hfr := I.hok.fresh (Nat.le_refl s.heap.objs.size)
    have I1 : Inv X pins σ H { s with heap := h'' } := I.turnedL (t' := s.toks) (ch := [z, TO, i1, i2]) (fun c o hb e => by
      simp only [List.mem_cons, List.not_mem_nil, or_false, not_or] at hb
      exact sb.extBut c o hb.1 (hk c o hb.1 hb.2.1 hb.2.2.1 hb.2.2.2 e)) (fun c hb => hf c (by
      simp only [List.mem_cons, List.not_mem_nil, or_false] at hb ⊢
      rcases hb with q | q | q | q
      · exact .inl q
      · exact .inr (.inr (.inl q))
      · exact .inr (.inr (.inr (.inl q)))
      · exact .inr (.inr (.inr (.inr q)))))
    have hp : IsPair h'' s.heap.objs.size u1 u2 := sb.extBut _ _ pz a5
    have I2 : Inv X pins σ (upd H s.heap.objs.size (.tup [x, y])) { s with heap := h'' } := I1.track (I.fpOk (Nat.le_refl _) hfr) ⟨by show 2 ≤ sizeLine; decide, [u1, u2], .cons ru1 (.cons ru2 .nil), ⟨_, hp, rfl, _, rfl⟩⟩
    refine ⟨.ref s.heap.objs.size, _, I2, rfl, ⟨_, x, y, hfr, rfl, rfl, fun xs' q => by rw [I.list_inj q qa]; exact hx, fun ys' q => by rw [I.list_inj q qb]; exact hy⟩,
      ⟨hz'', sb.extBut _ _ D.TIz (hk _ _ D.TIz D.TITO D.TIi1 D.TIi2 hTI), ⟨_, _, sb.extBut _ _ D.TOz a2⟩, a3.extBut sb.extBut D.i1z, a4.extBut sb.extBut D.i2z⟩, fun c hb => ?_⟩
    rw [upd_ne (fun q => ?_)]
    · exact (hf c hb).1
    · have hlt : c < s.heap.objs.size := by
        obtain ⟨o1, e1, _⟩ := h1
        obtain ⟨o2, e2, _⟩ := h2
        simp only [List.mem_cons, List.not_mem_nil, or_false] at hb
        rcases hb with rfl | rfl | rfl | rfl | rfl
        · exact Heap.lt_size hz
        · exact Heap.lt_size hTI
        · exact Heap.lt_size hTO
        · exact Heap.lt_size e1
        · exact Heap.lt_size e2
      rw [q] at hlt
      exact Nat.lt_irrefl _ hlt
  done := by
    intro X hP hw hK hc i pins s σ H E I hf st hg
    subst hP hw hK
    obtain ⟨xs, ys, qa, qb, hend⟩ := hg
    obtain ⟨its1, rv1, p1, z1⟩ := I.list qa
    obtain ⟨its2, rv2, p2, z2⟩ := I.list qb
    obtain ⟨hz, hTI, ⟨u, v, hTO⟩, h1, h2⟩ := st
    have D := zip_apart hTT hii hz hTI hTO h1 h2 p1.isList p2.isList
    have l1 := rv1.length
    have l2 := rv2.length
    refine wpAny_pyNext_zip_end (I.ok.hd hc) D hz hTI hTO h1 h2 p1.isList p2.isList ?_ fun h' hk => ⟨rfl, ?_⟩
    · rcases hend with q | q
      · exact .inl (by simp; omega)
      · exact .inr (by simp; omega)
    · exact I.turnedL (t' := s.toks) (ch := [z, TO, i1, i2]) (fun c o hb e => by
        simp only [List.mem_cons, List.not_mem_nil, or_false, not_or] at hb
        exact hk c o hb.1 hb.2.1 hb.2.2.1 hb.2.2.2 e) (fun c hb => hf c (by
        simp only [List.mem_cons, List.not_mem_nil, or_false] at hb ⊢
        rcases hb with q | q | q | q
        · exact .inl q
        · exact .inr (.inr (.inl q))
        · exact .inr (.inr (.inr (.inl q)))
        · exact .inr (.inr (.inr (.inr q)))))
  self := fun _ _ _ _ _ st h => wpAny_pyIter_zip st.1 h
section
variable {X : Cx}
def iZip (K : PySem.W.Frag) (ta : TA) : TI := fun σ H R => ta σ H fun vs H1 => ∃ a b xs ys, vs = [.ref a, .ref b] ∧ SqL K H1 a xs ∧ SqL K H1 b ys ∧ R (Itz K a b) H1
theorem pi_zip {ea eb : Expr} {ta : TA} {elts : List Expr} {kx} {tpos p pos : Pos} (hg : Gl X "zip") (hm : X.mg "zip" = none) (ha : PA X [ea, eb] ta) (hs : starEach [ea, eb] X.env = [(false, eval ea X.env), (false, eval eb X.env)] := by rfl) (hs2 : starEach [eb] X.env = [(false, eval eb X.env)] := by rfl) :
    PI X (.Tuple elts kx tpos) (.Call (.Name "zip" p) [ea, eb] [] pos) (iZip X.K ta) := by
  intro pins s σ H R I h
  refine Call_ (ld_blt I hg hm (by rfl : bootBuiltins "zip" = some (.type "zip")) (PyProof.Rows.callWith_type1 (thn (ha pos pins s σ H _ I h) fun us s1 ⟨vs, H1, I1, r1, q1⟩ => ?_) (by rw [hs, hs2]) (by rw [hs2]; rfl)))
  obtain ⟨a, b, xs, ys, e, qa, qb, q⟩ := q1
  subst e
  cases r1 with
  | cons r rr =>
    cases rr with
    | cons r' rr =>
      cases rr
      cases r
      cases r'
      obtain ⟨its1, rv1, p1, z1⟩ := I1.list qa
      obtain ⟨its2, rv2, p2, z2⟩ := I1.list qb
      refine call_zip_2 p1.isList p2.isList fun h' hz hTI hTO h1 h2 hsz hk => wpAny_pyIter_zip hz ?_
      refine ⟨s1.heap.objs.size + 4, [s1.heap.objs.size + 4, s1.heap.objs.size + 2, s1.heap.objs.size + 3, s1.heap.objs.size, s1.heap.objs.size + 1], _, _, H1, rfl, I1.kept (t' := s1.toks) hk, turn_zip (Nat.ne_of_lt (Nat.lt_succ_self _)) (Nat.ne_of_lt (Nat.lt_succ_self _)), ⟨hz, hTI, ⟨_, _, hTO⟩, h1, h2⟩, fun c hb => ?_, q⟩
      have hle : s1.heap.objs.size ≤ c := by
        simp only [List.mem_cons, List.not_mem_nil, or_false] at hb
        rcases hb with q | q | q | q | q
        · rw [q]; exact Nat.le_add_right _ _
        · rw [q]; exact Nat.le_add_right _ _
        · rw [q]; exact Nat.le_add_right _ _
        · rw [q]; exact Nat.le_refl _
        · rw [q]; exact Nat.le_add_right _ _
      exact I1.fpOk hle (I1.hok.fresh hle)
end

section
variable {K : PySem.W.Frag} {g : Blk → TG} {tt : Blk → TT} {te : Blk → TE} {Z : List V → Hp → Prop} {σ0 : St} {H1 : Hp}
theorem comp_listP {a : Addr} {xs : List V} (Pv : Nat → List V → St → Hp → Prop) (h0 : Pv 0 [] σ0 H1) (hl : ∀ i ys σ H, i ≤ xs.length → Pv i ys σ H → SqL K H a xs ∧ ys.length < sizeLine)
    (hs : ∀ B i x ys σ H, xs[i]? = some x → Pv i ys σ H → g B x σ H fun σ2 H3 => tt B σ2 H3 fun b H4 => if b = true then te B σ2 H4 fun y H5 => Pv (i + 1) (ys ++ [y]) σ2 H5 else Pv (i + 1) ys σ2 H4)
    (hd : ∀ ys σ H, Pv xs.length ys σ H → Z ys H) : ∃ W : Nat → Nat → List V → St → Hp → Prop, (∃ m, W 0 m [] σ0 H1) ∧ ∀ B, CompW (Itl K a) (g B) (tt B) (te B) W Z := by
  refine ⟨fun i m ys σ H => m = xs.length - i ∧ i ≤ xs.length ∧ Pv i ys σ H, ⟨xs.length, by simp, Nat.zero_le _, h0⟩, ?_⟩
  rintro B i m ys σ H ⟨rfl, hi, p⟩
  obtain ⟨q, hz⟩ := hl i ys σ H hi p
  by_cases hlt : i < xs.length
  · refine .inr ⟨⟨xs, xs[i], q, by simp [hlt]⟩, hz, Pv (i + 1), fun zs σ' H' p' => ⟨xs.length - (i + 1), by omega, rfl, hlt, p'⟩, fun x H' y => ?_⟩
    obtain ⟨e, y⟩ := y
    subst e
    exact hs B i x ys σ _ (y xs q) p
  · have e : i = xs.length := by omega
    subst e
    exact .inl ⟨⟨xs, q, Nat.le_refl _⟩, hd ys σ H p⟩
theorem comp_rangeP {lo : Int} {n : Nat} (Pv : Nat → List V → St → Hp → Prop) (h0 : Pv 0 [] σ0 H1) (hl : ∀ i ys σ H, i ≤ n → Pv i ys σ H → ys.length < sizeLine)
    (hs : ∀ B i ys σ H, i < n → Pv i ys σ H → g B (.int (lo + i)) σ H fun σ2 H3 => tt B σ2 H3 fun b H4 => if b = true then te B σ2 H4 fun y H5 => Pv (i + 1) (ys ++ [y]) σ2 H5 else Pv (i + 1) ys σ2 H4)
    (hd : ∀ ys σ H, Pv n ys σ H → Z ys H) : ∃ W : Nat → Nat → List V → St → Hp → Prop, (∃ m, W 0 m [] σ0 H1) ∧ ∀ B, CompW (Itr lo n) (g B) (tt B) (te B) W Z := by
  refine ⟨fun i m ys σ H => m = n - i ∧ i ≤ n ∧ Pv i ys σ H, ⟨n, by simp, Nat.zero_le _, h0⟩, ?_⟩
  rintro B i m ys σ H ⟨rfl, hi, p⟩
  by_cases hlt : i < n
  · refine .inr ⟨hlt, hl i ys σ H hi p, Pv (i + 1), fun zs σ' H' p' => ⟨n - (i + 1), by omega, rfl, hlt, p'⟩, fun x H' y => ?_⟩
    obtain ⟨e, y⟩ := y
    subst e y
    exact hs B i ys σ _ hlt p
  · have e : i = n := by omega
    subst e
    exact .inl ⟨Nat.le_refl _, hd ys σ H p⟩
theorem comp_zipP {a b : Addr} {xs ws : List V} (Pv : Nat → List V → St → Hp → Prop) (h0 : Pv 0 [] σ0 H1) (he : xs.length = ws.length) (hl : ∀ i ys σ H, i ≤ xs.length → Pv i ys σ H → SqL K H a xs ∧ SqL K H b ws ∧ ys.length < sizeLine)
    (hs : ∀ B i x w p ys σ H, xs[i]? = some x → ws[i]? = some w → Pv i ys σ H → H p = none → g B (.ref p) σ (upd H p (.tup [x, w])) fun σ2 H3 => tt B σ2 H3 fun b H4 => if b = true then te B σ2 H4 fun y H5 => Pv (i + 1) (ys ++ [y]) σ2 H5 else Pv (i + 1) ys σ2 H4)
    (hd : ∀ ys σ H, Pv xs.length ys σ H → Z ys H) : ∃ W : Nat → Nat → List V → St → Hp → Prop, (∃ m, W 0 m [] σ0 H1) ∧ ∀ B, CompW (Itz K a b) (g B) (tt B) (te B) W Z := by
  refine ⟨fun i m ys σ H => m = xs.length - i ∧ i ≤ xs.length ∧ Pv i ys σ H, ⟨xs.length, by simp, Nat.zero_le _, h0⟩, ?_⟩
  rintro B i m ys σ H ⟨rfl, hi, p⟩
  obtain ⟨qa, qb, hz⟩ := hl i ys σ H hi p
  by_cases hlt : i < xs.length
  · refine .inr ⟨⟨xs, ws, xs[i], ws[i]'(he ▸ hlt), qa, qb, by simp [hlt], by simp [he ▸ hlt]⟩, hz, Pv (i + 1), fun zs σ' H' p' => ⟨xs.length - (i + 1), by omega, rfl, hlt, p'⟩, fun v H' y => ?_⟩
    obtain ⟨q, x, w, hq, e1, e2, hx, hw⟩ := y
    subst e1 e2
    exact hs B i x w q ys σ H (hx xs qa) (hw ws qb) p hq
  · have e : i = xs.length := by omega
    subst e
    exact .inl ⟨⟨xs, ws, qa, qb, .inl (Nat.le_refl _)⟩, hd ys σ H p⟩
end
/-- what was untracked and is laid leaves the rest -/
protected theorem Same.upd {H H' : Hp} (e : Same H H') {p : Addr} {o : HO} (h : H' p = none) : Same H (L2.upd H' p o) := fun b u q => by
  have q' := e b u q
  rw [upd_ne (ne_of_none q' h)]
  exact q'
protected theorem Same.upd' {H H' : Hp} (e : Same H H') {p : Addr} {o : HO} (h : H p = none) : Same H (L2.upd H' p o) := fun b u q => by
  rw [upd_ne (ne_of_none q h)]
  exact e b u q
/-- two targets over zip, the element a value that leaves what was tracked -/
theorem comp_zip1 {K : PySem.W.Frag} {K' : Blk → PySem.W.Frag} {te : Blk → TE} {H1 : Hp} {Z : List V → Hp → Prop} {a b : Addr} {xs ws : List V} {τ : St} (f : V → V → V) (he : xs.length = ws.length) (hn : xs.length < sizeLine) (qa : SqL K H1 a xs) (qb : SqL K H1 b ws)
    (hs : ∀ B x w H, x ∈ xs → w ∈ ws → Same H1 H → ∀ Q' : VK, (∀ H2, Same H H2 → Q' (f x w) H2) → te B (some x :: some w :: τ) H Q')
    (hd : ∀ H2, Same H1 H2 → Z (List.zipWith f xs ws) H2) :
    ∃ W : Nat → Nat → List V → St → Hp → Prop, (∃ m, W 0 m [] (none :: none :: τ) H1) ∧ ∀ B : Blk, CompW (Itz K a b) (gTup (K' B) 2 (gCons (gName 0) (gCons (gName 1) gNil))) tTrue (te B) W Z := by
  refine comp_zipP (g := fun B => gTup (K' B) 2 (gCons (gName 0) (gCons (gName 1) gNil))) (tt := fun _ => tTrue) (xs := xs) (ws := ws) (fun i ys σ H => (∃ v u, σ = v :: u :: τ) ∧ Same H1 H ∧ ys = (List.zipWith f xs ws).take i) ⟨⟨none, none, rfl⟩, Same.refl _, rfl⟩ he (fun i ys σ H hi ⟨_, S, e⟩ => ⟨S.seq qa, S.seq qb, ?_⟩) (fun B i x w p ys σ H hx hw ⟨⟨v, u, e⟩, S, ey⟩ hp => ?_) (fun ys σ H ⟨_, S, e⟩ => ?_)
  · rw [e, List.length_take, List.length_zipWith]; omega
  · subst e
    refine ⟨p, [x, w], rfl, SqT.of upd_same, rfl, x, [w], rfl, w, [], rfl, rfl, ?_⟩
    dsimp only [gName, tTrue, gNil]
    rw [if_pos rfl]
    refine hs B x w _ (List.mem_of_getElem? hx) (List.mem_of_getElem? hw) (S.upd hp) _ fun H2 S2 => ⟨⟨_, _, rfl⟩, (S.upd hp).trans S2, ?_⟩
    rw [ey, List.take_add_one, List.getElem?_zipWith, hx, hw]
    rfl
  · rw [e, List.take_of_length_le (by rw [List.length_zipWith]; omega)]
    exact hd H S
end L2

namespace L2
open PySem PySem.Spec PyProof.Rows
section
variable {X : Cx}
theorem call_isinst : CallR X (.builtin "isinstance") (fun xs H Q => ∃ x n t b, xs = [x, .ty n] ∧ TyOf X.K H x t ∧ PySem.W.kitOne X.K t (.type n) = some b ∧ Q (.bl b) H) := by
  intro pins s σ H xs us Q I r h
  obtain ⟨x, n, t, b, e, ty, k, q⟩ := h
  subst e
  obtain ⟨u, v, rfl, r1, r2⟩ := vals2 r
  obtain rfl : v = Value.type n := r2
  exact isinst_ok I r1 ty k fun tk => ⟨.bl b, H, I.tok tk, rfl, q⟩
theorem call_all_list (hc : X.calm = true) : CallR X (.builtin "all") (fun xs H Q => ∃ (a : Addr) (bs : List Bool), xs = [.ref a] ∧ SqL X.K H a (bs.map V.bl) ∧ Q (.bl (bs.all id)) H) := by
  intro pins s σ H xs us Q I r h
  obtain ⟨a, bs, e, hq, q⟩ := h
  subst e
  obtain ⟨u, rfl, r1⟩ := vals1 r
  obtain rfl : u = Value.ref a := r1
  obtain ⟨its, rv, p, hz⟩ := I.list hq
  have hal : a < s.heap.objs.size := by obtain ⟨o, e, _⟩ := p.isList; exact Heap.lt_size e
  have hl := rv.length
  rw [List.length_map] at hl
  refine call_all_walk (wpAny_pyIter_list p.isList ⟨s.heap.objs.size, _, _, _, _, _, (fun i => bs.getD i false), rfl, Walks.list (A := X.A.in1) (show X.A.in1.handled = none from I.ok.hd hc) _ a (Nat.ne_of_lt hal) its.toArray, ⟨⟨_, Heap.get?_push_size _ rfl, rfl, rfl⟩, p.isList.push _⟩, fun i v s' Q' E' hv hQ => ?_, fun h' tk hk => ?_⟩)
  · have hv' : its[i]? = some v := by simpa using hv
    have hi : i < bs.length := by rw [hl]; exact (List.getElem?_eq_some_iff.mp hv').1
    have hx : (bs.map V.bl)[i]? = some (V.bl (bs.getD i false)) := by
      rw [List.getElem?_map, List.getElem?_eq_getElem hi]
      simp [List.getD_eq_getElem?_getD, List.getElem?_eq_getElem hi]
    obtain ⟨u, hu, ru⟩ := rv.get hx
    rw [hv'] at hu
    cases hu
    obtain rfl : v = Value.bool (bs.getD i false) := ru
    exact wpAny_truthy_bool hQ
  · have es : (List.range its.toArray.size).all (fun i => bs.getD i false) = bs.all id := by
      rw [List.size_toArray, ← hl]
      rw [Bool.eq_iff_iff, List.all_eq_true, List.all_eq_true]
      constructor
      · intro z x hx
        obtain ⟨i, hi, rfl⟩ := List.mem_iff_getElem.mp hx
        have := z i (List.mem_range.mpr hi)
        simpa [List.getD_eq_getElem?_getD, List.getElem?_eq_getElem hi] using this
      · intro z i hi
        have hi := List.mem_range.mp hi
        have := z _ (List.getElem_mem hi)
        simpa [List.getD_eq_getElem?_getD, List.getElem?_eq_getElem hi] using this
    rw [es]
    exact ⟨.bl (bs.all id), H, I.kept fun b o e => hk b o (fun z => by have := List.mem_singleton.mp z; rw [this] at e; exact absurd (Heap.lt_size e) (Nat.lt_irrefl _)) (Heap.get?_push_of_some _ e), rfl, q⟩
end
end L2

namespace L2
open PySem PySem.Spec PyProof.Rows

def compOkB (osc : Scope) (N : List Str) (scope : Scope) (N' : List Str) (nt : Nat) (caps : List Nat) : Bool :=
  decide (scope.kind = .function) && decide (∀ y ∈ scope.names, y.2 ≠ .cell) && decide (∀ y ∈ scope.names, y.2 = .local → scope.names.lookup y.1 = some .local) &&
  decide (∀ y ∈ scope.names, y.2 = .free → osc.names.lookup y.1 = some .cell ∨ osc.names.lookup y.1 = some .free) && decide (caps.map (fun j => N[j]?) = (N'.drop nt).map some) &&
  decide (∀ x ∈ N'.drop nt, scope.names.lookup x = some .free) && decide (nt ≤ N'.length) && decide N'.Nodup
theorem CompScope.of {osc : Scope} {N : List Str} {scope : Scope} {N' : List Str} {nt : Nat} {caps : List Nat} (h : compOkB osc N scope N' nt caps = true) : CompScope osc N scope N' nt caps := by
  unfold compOkB at h
  simp only [Bool.and_eq_true, decide_eq_true_eq] at h
  obtain ⟨⟨⟨⟨⟨⟨⟨a, b⟩, c⟩, d⟩, e⟩, f⟩, g⟩, i⟩ := h
  exact ⟨a, b, c, d, e, f, g, i⟩

section
variable {X : Cx} {tg : Expr}
end
theorem pg_nameC {X : Cx} {i : Nat} {x : Str} {pos : Pos} (N : List Str) (hN : N.Nodup) (hi : N[i]? = some x) (hx : X.env.scope.names.lookup x = some .local := by rfl) (hXN : X.N = N := by rfl) : PG X (.Name x pos) (gName i) :=
  pg_name (by rw [hXN]; exact hN) (by rw [hXN]; exact hi) (.inl hx) (.inr hx)

theorem bt_all : bootBuiltins "all" = some (.builtin "all") := by decide +kernel
theorem bt_len : bootBuiltins "len" = some (.builtin "len") := by decide +kernel
theorem bt_isinstance : bootBuiltins "isinstance" = some (.builtin "isinstance") := by decide +kernel
theorem bt_list : bootBuiltins "list" = some (.type "list") := by decide +kernel
theorem bt_int : bootBuiltins "int" = some (.type "int") := by decide +kernel
theorem bt_bool : bootBuiltins "bool" = some (.type "bool") := by decide +kernel
theorem bt_set : bootBuiltins "set" = some (.type "set") := by decide +kernel
end L2

namespace L2
open PySem PySem.Spec PyProof.Rows
abbrev vints (ns : List Int) : List V := ns.map V.int
theorem iteD {p A B : Prop} [Decidable p] (h1 : p → A) (h2 : ¬ p → B) : if decide p = true then A else B := by
  by_cases h : p
  · rw [if_pos (decide_eq_true h)]
    exact h1 h
  · rw [if_neg (by rw [decide_eq_false h]; exact Bool.false_ne_true)]
    exact h2 h
theorem iteND {p A B : Prop} [Decidable p] (h1 : ¬ p → A) (h2 : p → B) : if (!decide p) = true then A else B := by
  by_cases h : p
  · rw [decide_eq_true h]
    exact iteF (h2 h)
  · rw [decide_eq_false h]
    exact iteT (h1 h)
theorem vint_eq {i j : Int} : (V.int i = V.int j) ↔ i = j := ⟨fun h => by cases h; rfl, fun h => by rw [h]⟩
theorem ints_get {ns : List Int} {i : Nat} {x : V} (h : (vints ns)[i]? = some x) : ∃ n, ns[i]? = some n ∧ x = V.int n := by
  rw [List.getElem?_map] at h
  cases e : ns[i]? with
  | none => rw [e] at h; cases h
  | some n => rw [e] at h; exact ⟨n, rfl, (Option.some.inj h).symm⟩
theorem ints_mem {ns : List Int} {x : V} (h : x ∈ vints ns) : ∃ n, n ∈ ns ∧ x = V.int n := by
  obtain ⟨n, hn, e⟩ := List.mem_map.mp h
  exact ⟨n, hn, e.symm⟩
theorem ints_len (ns : List Int) : (vints ns).length = ns.length := List.length_map ..
theorem ints_at {ns : List Int} {k : Nat} (h : k < ns.length) : atI (vints ns) (k : Int) = some (V.int (ns[k])) := by
  refine atI_nat ?_
  rw [List.getElem?_map, List.getElem?_eq_getElem h]
  rfl
theorem ints_inj {xs ys : List Int} (h : vints xs = vints ys) : xs = ys := by
  have e := congrArg (List.map fun v => match v with | V.int i => i | _ => 0) h
  simpa [vints, List.map_map, Function.comp_def] using e
/-- a list of lists of vints, tracked -/
def Rows (H : Hp) (as : List Addr) (rs : List (List Int)) : Prop := Paired (fun (a : Addr) (r : List Int) => H a = some (.lst (vints r))) as rs
theorem Rows.same {H H' : Hp} {as : List Addr} {rs : List (List Int)} (h : Rows H as rs) (S : Same H H') : Rows H' as rs := Paired.mapP h fun a r e => S _ _ e
theorem Rows.snoc {H : Hp} {as : List Addr} {rs : List (List Int)} {a : Addr} {r : List Int} (h : Rows H as rs) (e : H a = some (.lst (vints r))) : Rows H (as ++ [a]) (rs ++ [r]) := Paired.snoc h e
theorem Rows.length {H : Hp} {as : List Addr} {rs : List (List Int)} (h : Rows H as rs) : as.length = rs.length := Paired.length h
theorem Paired.getL {α β : Type} {F : α → β → Prop} : ∀ {l₁ : List α} {l₂ : List β} {i : Nat} {a : α}, Paired F l₁ l₂ → l₁[i]? = some a → ∃ b, l₂[i]? = some b ∧ F a b
  | _, _, _, _, .nil, e => by simp at e
  | _, _, 0, _, .cons r _, e => by simp at e; subst e; exact ⟨_, rfl, r⟩
  | _, _, i + 1, a, .cons _ t, e => by
    obtain ⟨u, h1, h2⟩ := Paired.getL (i := i) (a := a) t (by simpa using e)
    exact ⟨u, by simpa using h1, h2⟩
theorem small70 {n : Nat} (h : n ≤ 70) : n < sizeLine := Nat.lt_of_le_of_lt h (by decide)
end L2
namespace L2
open PySem PySem.Spec PyProof.Rows
def sp_zipd (f : Int → Int → Int) (K : PySem.W.Frag) : Sp := fun vs H Q _ => ∃ (a b : Addr) (xs ys : List Int), vs = [.ref a, .ref b] ∧ SqL K H a (vints xs) ∧ SqL K H b (vints ys) ∧ xs.length = ys.length ∧ xs.length ≤ 70 ∧
  ∀ (p : Addr) (H' : Hp), H p = none → Same H H' → H' p = some (.lst (vints (List.zipWith f xs ys))) → Q (.ref p) H'
theorem zip_ints {f : Int → Int → Int} {g : V → V → V} (h : ∀ i j, g (.int i) (.int j) = .int (f i j)) : ∀ (xs ys : List Int), List.zipWith g (vints xs) (vints ys) = vints (List.zipWith f xs ys)
  | [], _ => rfl
  | _ :: _, [] => rfl
  | x :: xs, y :: ys => by
    show g (.int x) (.int y) :: List.zipWith g (vints xs) (vints ys) = .int (f x y) :: vints (List.zipWith f xs ys)
    rw [h, zip_ints h]
def gInt (f : Int → Int → Int) : V → V → V
  | .int i, .int j => .int (f i j)
  | _, _ => .non
theorem at_place {xs : List Int} {z i : Nat} (hx : xs.length = z) (hi : i < z) : atI (vints xs) (0 + (i : Int)) = some (V.int (xs.getD i 0)) := by
  subst hx
  rw [Int.zero_add, ints_at hi]
  simp [List.getD_eq_getElem?_getD, List.getElem?_eq_getElem hi]
end L2
namespace L2
open PySem PySem.Spec PyProof.Rows
/-- at each place no greater -/
def bn (xs ys : List Int) : Bool := (List.zipWith (fun i j => decide (i ≤ j)) xs ys).all id
def gLe : V → V → V
  | .int i, .int j => .bl (decide (i ≤ j))
  | _, _ => .non
theorem zip_bls : ∀ (xs ys : List Int), List.zipWith gLe (vints xs) (vints ys) = (List.zipWith (fun i j => decide (i ≤ j)) xs ys).map V.bl
  | [], _ => rfl
  | _ :: _, [] => rfl
  | x :: xs, y :: ys => by
    show gLe (.int x) (.int y) :: List.zipWith gLe (vints xs) (vints ys) = _
    rw [zip_bls xs ys]
    rfl
end L2
namespace L2
open PySem PySem.Spec PyProof.Rows
theorem vints_snoc (ns : List Int) (n : Int) : vints (ns ++ [n]) = vints ns ++ [V.int n] := by rw [vints, List.map_append]; rfl
theorem vrefs_snoc (as : List Addr) (a : Addr) : (as ++ [a]).map V.ref = as.map V.ref ++ [V.ref a] := by rw [List.map_append]; rfl
theorem Rows.lay {H : Hp} {as : List Addr} {rs : List (List Int)} {p : Addr} {o : HO} (R : Rows H as rs) (h : ∀ b ∈ as, b ≠ p) : Rows (upd H p o) as rs := by
  induction R with
  | nil => exact .nil
  | cons q _ ih => exact .cons (by rw [upd_ne (h _ List.mem_cons_self)]; exact q) (ih fun b hb => h b (List.mem_cons_of_mem _ hb))
theorem Rows.apart {H : Hp} {as : List Addr} {rs : List (List Int)} {p : Addr} (R : Rows H as rs) (h : H p = some (.lst (as.map V.ref))) : ∀ b ∈ as, b ≠ p := fun b hb z => by
  subst z
  obtain ⟨k, hk, e1⟩ := List.mem_iff_getElem.mp hb
  obtain ⟨r, _, e2⟩ := Paired.getL R (List.getElem?_eq_some_iff.mpr ⟨hk, e1⟩)
  rw [h] at e2
  have e3 : as.map V.ref = vints r := by injection (Option.some.inj e2)
  have e4 : (as.map V.ref)[k]? = (vints r)[k]? := by rw [e3]
  rw [List.getElem?_map, List.getElem?_map, List.getElem?_eq_getElem hk] at e4
  cases q : r[k]? with
  | none => rw [q] at e4; cases e4
  | some n => rw [q] at e4; cases e4
theorem Rows.mem {H : Hp} {as : List Addr} {rs : List (List Int)} {b : Addr} (R : Rows H as rs) (hb : b ∈ as) : ∃ r, r ∈ rs ∧ H b = some (.lst (vints r)) := by
  obtain ⟨k, hk, e1⟩ := List.mem_iff_getElem.mp hb
  obtain ⟨r, h1, e2⟩ := Paired.getL R (List.getElem?_eq_some_iff.mpr ⟨hk, e1⟩)
  exact ⟨r, List.mem_of_getElem? h1, e2⟩
/-- a block of statements behind which one thing holds on every way -/
theorem seq_join {t rest : TS} {D : Ends} {σ : St} {H : Hp} (I : St → Hp → Prop) (tl : ∀ σ' H', I σ' H' → rest D σ' H') (hd : ∀ N : St → Hp → Prop, (∀ σ' H', I σ' H' → N σ' H') → t { D with nx := N } σ H) : tSeq t rest D σ H := hd _ tl
theorem refs_get {as : List Addr} {i : Nat} {x : V} (h : (as.map V.ref)[i]? = some x) : ∃ b, as[i]? = some b ∧ x = V.ref b := by
  rw [List.getElem?_map] at h
  cases e : as[i]? with
  | none => rw [e] at h; cases h
  | some b => rw [e] at h; exact ⟨b, rfl, (Option.some.inj h).symm⟩
theorem strs_get {as : List Str} {i : Nat} {x : V} (h : (as.map V.str)[i]? = some x) : ∃ b, as[i]? = some b ∧ x = V.str b := by
  rw [List.getElem?_map] at h
  cases e : as[i]? with
  | none => rw [e] at h; cases h
  | some b => rw [e] at h; exact ⟨b, rfl, (Option.some.inj h).symm⟩
end L2

namespace L2
open PySem PySem.Spec PyProof.Rows PySem.SeqAt
theorem all_eq_dec {xs ys : List Int} (h : xs.length = ys.length) : (List.range xs.length).all (fun j => eqV ((vints xs).getD j .non) ((vints ys).getD j .non)) = decide (xs = ys) := by
  rw [Bool.eq_iff_iff, List.all_eq_true, decide_eq_true_eq]
  constructor
  · intro z
    refine List.ext_getElem h fun i h1 h2 => ?_
    have q := z i (List.mem_range.mpr h1)
    simp only [vints, List.getD_eq_getElem?_getD, List.getElem?_map, List.getElem?_eq_getElem h1, List.getElem?_eq_getElem h2, Option.map_some, Option.getD_some, eqV, beq_iff_eq] at q
    exact q
  · rintro rfl i hi
    have h1 := List.mem_range.mp hi
    simp only [vints, List.getD_eq_getElem?_getD, List.getElem?_map, List.getElem?_eq_getElem h1, Option.map_some, Option.getD_some, eqV, beq_self_eq_true]
section
variable {X : Cx} {pins : List (Addr × Obj)} {σ : St} {H : Hp} {s : Shared} {A : Around} {a b : Addr} {xs ys : List Int}
theorem ints_eqAt {its its2 : List Value} (rv : Vals (vints xs) its) (rw' : Vals (vints ys) its2) : ∀ j (h1 : j < its.toArray.size) (h2 : j < its2.toArray.size), EqAt A s its.toArray[j] its2.toArray[j] (eqV ((vints xs).getD j .non) ((vints ys).getD j .non)) := by
  intro j h1 h2
  have l1 := rv.length
  have l2 := rw'.length
  have k1 : j < (vints xs).length := by rw [l1]; simpa using h1
  have k2 : j < (vints ys).length := by rw [l2]; simpa using h2
  obtain ⟨u, hu, ru⟩ := rv.get (List.getElem?_eq_getElem k1)
  obtain ⟨v, hv, rv2⟩ := rw'.get (List.getElem?_eq_getElem k2)
  have e1 : its.toArray[j] = u := by
    have := (List.getElem?_eq_some_iff.mp hu).2
    simpa using this
  have e2 : its2.toArray[j] = v := by
    have := (List.getElem?_eq_some_iff.mp hv).2
    simpa using this
  rw [e1, e2]
  have f : ∀ {zs : List Int} (k : j < (vints zs).length), flatV (vints zs)[j] = true ∧ (vints zs).getD j .non = (vints zs)[j] := fun {zs} k => by
    refine ⟨?_, ?_⟩
    · simp only [vints, List.getElem_map]; rfl
    · rw [List.getD_eq_getElem?_getD, List.getElem?_eq_getElem k]; rfl
  rw [(f k1).2, (f k2).2]
  exact eqAt_V ru rv2 (f k1).1 (f k2).1
theorem rc_ints (I : Inv X pins σ H s) (hu : A.units < cLine) (qa : SqL X.K H a (vints xs)) (qb : SqL X.K H b (vints ys)) : RcAt A s (.ref a) (.ref b) (decide (xs = ys)) := by
  obtain ⟨its, rv, p, _⟩ := I.list qa
  obtain ⟨its2, rw', p2, _⟩ := I.list qb
  have l1 := rv.length
  have l2 := rw'.length
  rw [ints_len] at l1 l2
  by_cases h : xs.length = ys.length
  · have q := RcAt.lists (A := A) p.isList p2.isList (by simp; omega) hu (ints_eqAt rv rw')
    have e : its.toArray.size = xs.length := by simp; omega
    rw [e, all_eq_dec h] at q
    exact q
  · have e : decide (xs = ys) = false := decide_eq_false fun z => h (by rw [z])
    rw [e]
    exact RcAt.lists_lengths p.isList p2.isList (by simp; omega) hu
theorem eq_ints (I : Inv X pins σ H s) (hu : A.units < cLine) (qa : SqL X.K H a (vints xs)) (qb : SqL X.K H b (vints ys)) : EqAt A s (.ref a) (.ref b) (decide (xs = ys)) := by
  by_cases h : a = b
  · subst h
    have e := ints_inj (I.list_inj qa qb)
    rw [decide_eq_true e]
    exact EqAt.same _
  · exact EqAt.of_refs h (rc_ints I hu qa qb)
def rEqL (K : PySem.W.Frag) : R2 := fun x y H Q => ∃ a b xs ys, x = .ref a ∧ y = .ref b ∧ SqL K H a (vints xs) ∧ SqL K H b (vints ys) ∧ Q (.bl (decide (xs = ys))) H
theorem op_eqL (hu : X.A.units < cLine) : OpR X (compareOp .Eq) (rEqL X.K) := by
  intro pins s σ H x y v u Q I rx ry h
  obtain ⟨a, b, xs, ys, rfl, rfl, qa, qb, q⟩ := h
  cases rx
  cases ry
  exact rc_ints I hu qa qb _ _ _ _ ⟨.bl _, H, I, rfl, q⟩
def memR (xs : List Int) (rs : List (List Int)) : Bool := rs.any fun r => decide (r = xs)
theorem rows_val {as : List Addr} {its : List Value} (rv : Vals (as.map V.ref) its) : its = as.map Value.ref := by
  induction as generalizing its with
  | nil => cases rv; rfl
  | cons a as ih =>
    cases rv with
    | cons r t =>
      cases r
      rw [List.map_cons, ← ih t]
def rowAt (H : Hp) (xs : List Int) (v : Value) : Bool := match v with
  | .ref a => match H a with
    | some (.lst ys) => decide (ys = vints xs)
    | _ => false
  | _ => false
theorem rowAt_of {r : List Int} {c : Addr} (h : H c = some (.lst (vints r))) (xs : List Int) : rowAt H xs (.ref c) = decide (r = xs) := by
  unfold rowAt
  simp only [h]
  by_cases e : r = xs
  · subst e; simp
  · rw [decide_eq_false e, decide_eq_false fun z => e (ints_inj z)]
theorem rows_any {as : List Addr} {rs : List (List Int)} (R : Rows H as rs) (xs : List Int) : (as.map Value.ref).toArray.any (rowAt H xs) = memR xs rs := by
  rw [List.any_toArray, List.any_map]
  unfold memR
  induction R with
  | nil => rfl
  | cons e _ ih => rw [List.any_cons, List.any_cons, ih, Function.comp_apply, rowAt_of e]
def rInR (K : PySem.W.Frag) : R2 := fun x y H Q => ∃ (a b : Addr) (as : List Addr) (rs : List (List Int)) (xs : List Int), x = .ref a ∧ y = .ref b ∧ SqL K H a (vints xs) ∧ SqL K H b (as.map V.ref) ∧ Rows H as rs ∧ Q (.bl (memR xs rs)) H
def rNotInR (K : PySem.W.Frag) : R2 := fun x y H Q => ∃ (a b : Addr) (as : List Addr) (rs : List (List Int)) (xs : List Int), x = .ref a ∧ y = .ref b ∧ SqL K H a (vints xs) ∧ SqL K H b (as.map V.ref) ∧ Rows H as rs ∧ Q (.bl (!memR xs rs)) H
theorem rows_eqAt (I : Inv X pins σ H s) (hu : A.units < cLine) {as : List Addr} {rs : List (List Int)} (R : Rows H as rs) (qa : SqL X.K H a (vints xs)) : ∀ y, y ∈ (as.map Value.ref).toArray → EqAt A s y (.ref a) (rowAt H xs y) := by
  intro y hy
  have hy : y ∈ as.map Value.ref := by simpa using hy
  obtain ⟨c, hc, rfl⟩ := List.mem_map.mp hy
  obtain ⟨k, hk, e1⟩ := List.mem_iff_getElem.mp hc
  obtain ⟨r, _, e2⟩ := Paired.getL R (List.getElem?_eq_some_iff.mpr ⟨hk, e1⟩)
  rw [rowAt_of e2]
  exact eq_ints I hu (SqL.of e2) qa
theorem op_inR (hu : X.A.units + 1 < cLine) : OpR X (compareOp .In) (rInR X.K) := by
  intro pins s σ H x y v u Q I rx ry h
  obtain ⟨a, b, as, rs, xs, rfl, rfl, qa, qb, R, q⟩ := h
  cases rx
  cases ry
  obtain ⟨its, rv, p, _⟩ := I.list qb
  have e := rows_val rv
  subst e
  refine in_listAt (rowAt H xs) p.isList (rows_eqAt (A := X.A.in1) I hu R qa) ?_
  rw [rows_any R]
  exact ⟨.bl _, H, I, rfl, q⟩
theorem op_notInR (hu : X.A.units + 1 < cLine) : OpR X (compareOp .NotIn) (rNotInR X.K) := by
  intro pins s σ H x y v u Q I rx ry h
  obtain ⟨a, b, as, rs, xs, rfl, rfl, qa, qb, R, q⟩ := h
  cases rx
  cases ry
  obtain ⟨its, rv, p, _⟩ := I.list qb
  have e := rows_val rv
  subst e
  refine notIn_listAt (rowAt H xs) p.isList (rows_eqAt (A := X.A.in1) I hu R qa) ?_
  rw [rows_any R]
  exact ⟨.bl _, H, I, rfl, q⟩
end
end L2

namespace L2
open PySem PySem.Spec PyProof.Rows
section
variable {R : List Int → List Int → Bool} {all : List (List Int)}
end
end L2
namespace L2
open PySem PySem.Spec PyProof.Rows
section
variable {X : Cx} {CX : CXT} {k i : Nat} {f : Addr} {fd : FuncData} {ps : List Str} {sp : Sp} {dvs : List V} {ds : List Value} {E : XK} {x : Str} {p pos : Pos} {e : Expr} {es : List Expr} {t : TA}
end
end L2

namespace L2
open PySem PySem.Spec PyProof.Rows

def put1 {κ : Type} [DecidableEq κ] (acc : List κ) (x : κ) : List κ := if x ∈ acc then acc else acc ++ [x]
def metK {κ : Type} [DecidableEq κ] (val : Nat → κ) : Nat → List κ
  | 0 => []
  | i + 1 => put1 (metK val i) (val i)
theorem metK_le {κ : Type} [DecidableEq κ] (val : Nat → κ) : ∀ i, (metK val i).length ≤ i
  | 0 => Nat.le_refl _
  | i + 1 => by
    have ih := metK_le val i
    unfold metK put1
    split
    · omega
    · rw [List.length_append, List.length_singleton]; omega
theorem metK_mem {κ : Type} [DecidableEq κ] (val : Nat → κ) : ∀ (i : Nat) (x : κ), x ∈ metK val i ↔ ∃ j, j < i ∧ val j = x
  | 0, x => ⟨fun h => (by cases h), fun ⟨j, h, _⟩ => absurd h (Nat.not_lt_zero _)⟩
  | i + 1, x => by
    have ih := metK_mem val i
    have e : x ∈ metK val (i + 1) ↔ x ∈ metK val i ∨ x = val i := by
      show x ∈ put1 (metK val i) (val i) ↔ _
      unfold put1
      split
      · rename_i h
        exact ⟨.inl, fun q => q.elim id fun z => z ▸ h⟩
      · rw [List.mem_append, List.mem_singleton]
    rw [e, ih x]
    constructor
    · rintro (⟨j, h, e⟩ | e)
      · exact ⟨j, by omega, e⟩
      · exact ⟨i, by omega, e.symm⟩
    · rintro ⟨j, h, e'⟩
      rcases Nat.lt_succ_iff_lt_or_eq.mp h with q | q
      · exact .inl ⟨j, q, e'⟩
      · subst q; exact .inr e'.symm
/-- as many as there are, where no two are alike -/
theorem metK_all {κ : Type} [DecidableEq κ] (val : Nat → κ) : ∀ n, (∀ i j, i < n → j < n → val i = val j → i = j) → (metK val n).length = n
  | 0, _ => rfl
  | n + 1, h => by
    have ih := metK_all val n fun i j hi hj e => h i j (by omega) (by omega) e
    have nm : val n ∉ metK val n := fun q => by
      obtain ⟨j, hj, e⟩ := (metK_mem val n _).mp q
      have := h j n (by omega) (by omega) e
      omega
    show (put1 (metK val n) (val n)).length = n + 1
    unfold put1
    rw [if_neg nm, List.length_append, ih]
    rfl
abbrev setO (led : Bool) : Obj := { cls := .type "set", dict := none, data := .set #[] 0 (.fresh 0 0 led) }
section
variable {prog : Program} {w : World} {A : Around} {R : Result → Shared → Prop} {I : Addr} {fp wr : List Addr} {G : Array GenState → Array GenState → Prop} {n : Nat} {P : Nat → Value → Prop} {St : Nat → Shared → Prop}
variable {κ : Type} [DecidableEq κ] {knd : PySem.KeyKind prog w κ}
theorem setOf_as {h : Heap} {a : Addr} {S S' : κ → Bool} {n n' : Nat} (hS : h.SetOf knd a S n) (e : ∀ k, S k = S' k) (en : n = n') : h.SetOf knd a S' n' := by
  have q : S = S' := funext e
  rw [← q, ← en]
  exact hS
theorem set_loop (W : WalksS prog w A.in1 I fp wr G n P St) (S : Addr) (hSf : S ∉ fp) (val : Nat → κ) (hval : ∀ i v, P i v → knd.is (val i) v = true ∧ v.scannable = true) (hb : n + 1 < scanBound) :
    ∀ (k i : Nat) (s : Shared), n - i = k → i ≤ n → St i s → s.heap.SetOf knd S (fun x => decide (x ∈ metK val i)) (metK val i).length →
      (∀ s', Moved (S :: wr) G s s' → s'.heap.SetOf knd S (fun x => decide (x ∈ metK val n)) (metK val n).length → R (.ok (.ret .none)) s') →
      codeAny (model prog w) A (.builtin "set.update.loop" ⟨[.ref S, .ref I], []⟩) R s := by
  have nw : S ∉ wr := fun z => hSf (W.sub _ z)
  have sub : ∀ b ∈ wr, b ∈ S :: wr := fun b z => List.mem_cons_of_mem _ z
  intro k
  induction k with
  | zero =>
    intro i s hk hi st hS fin
    obtain rfl : i = n := by omega
    refine codeAny_builtin PyProof.Rows.F.entry_set_update_loop ?_
    rw [Around.under_plainId PyProof.Rows.F.plain_set_update_loop _]
    show wpAny _ A.in1 (pyNext (.ref I) >>= _) _ _ s
    refine wpAny_bind (W.done s _ _ st fun s' mv => ?_)
    show wpAny _ A.in1 (ret Value.none) _ _ s'
    obtain ⟨o, es, ep, t, ho, more⟩ := hS
    exact wpAny_pure (fin s' (mv.mono sub) ⟨o, es, ep, t, mv.heap S _ nw ho, more⟩)
  | succ k ih =>
    intro i s hk hi st hS fin
    have lt : i < n := by omega
    refine codeAny_builtin PyProof.Rows.F.entry_set_update_loop ?_
    rw [Around.under_plainId PyProof.Rows.F.plain_set_update_loop _]
    show wpAny _ A.in1 (pyNext (.ref I) >>= _) _ _ s
    refine wpAny_bind (W.item i s _ _ lt st fun v s' pv st' mv => ?_)
    obtain ⟨kv, sv⟩ := hval i v pv
    have hS1 : s'.heap.SetOf knd S (fun x => decide (x ∈ metK val i)) (metK val i).length := by
      obtain ⟨o, es, ep, tb, ho, more⟩ := hS
      exact ⟨o, es, ep, tb, mv.heap S _ nw ho, more⟩
    show wpAny _ A.in1 (holding [v] (setAdd S v) >>= _) _ _ s'
    refine wpAny_bind (wpAny_holding ?_)
    unfold setAdd
    refine wpAny_holding (wpAny_bind (knd.pyHash (k := val i) kv ?_))
    have room : (metK val i).length + 1 < scanBound := by have := metK_le val i; omega
    refine wpAny_setAddHashed_of (knd := knd) (s := { s' with toks := s'.toks + 1 }) kv sv hS1 room fun h' sb hS2 => ?_
    have hS3 : h'.SetOf knd S (fun x => decide (x ∈ metK val (i + 1))) (metK val (i + 1)).length := by
      refine setOf_as hS2 (fun x => ?_) ?_
      · show (decide (x ∈ metK val i) || decide (x = val i)) = decide (x ∈ put1 (metK val i) (val i))
        unfold put1
        split
        · rename_i hm
          by_cases e : x = val i
          · subst e; simp [hm]
          · simp [e]
        · simp
      · show (if decide (val i ∈ metK val i) = true then _ else _) = (put1 (metK val i) (val i)).length
        unfold put1
        by_cases hm : val i ∈ metK val i
        · rw [if_pos hm, if_pos (decide_eq_true hm)]
        · rw [if_neg hm, if_neg (by simp [hm]), List.length_append]; rfl
    refine wpAny_pure ⟨plainId_quiet PyProof.Rows.F.plain_set_update_loop _, ih (i + 1) _ (by omega) lt (W.frame _ s' _ _ st' (Nat.le_succ _) fun b hb o e => ?_) hS3 fun s2 mv2 hS4 => ?_⟩
    · rw [sb.2 b (fun z : b = S => hSf (z ▸ hb))]; exact e
    · refine fin s2 (Moved.trans W.gtrans ((mv.mono sub).then_heap (Nat.le_succ _) fun b o hb e => ?_) mv2) hS4
      rw [sb.2 b (fun z : b = S => hb (z ▸ List.mem_cons_self))]; exact e
end
section
variable {prog : Program} {w : World} {A : Around} {E : Value → Shared → Prop} {s : Shared} {κ : Type} [DecidableEq κ] {knd : PySem.KeyKind prog w κ}
set_option maxHeartbeats 3200000 in
theorem set_from {l : Addr} {items : Array Value} {val : Nat → κ} {Q : Value → Shared → Prop} (hh : A.handled = none) (hl : s.heap.IsList l items) (hval : ∀ i v, items[i]? = some v → knd.is (val i) v = true ∧ v.scannable = true) (hb : items.size + 1 < scanBound)
    (h : ∀ (h' : Heap) (tk : Nat), h'.SetOf knd s.heap.objs.size (fun x => decide (x ∈ metK val items.size)) (metK val items.size).length → (∀ b o, b < s.heap.objs.size → s.heap.get? b = some o → h'.get? b = some o) →
      Q (.ref s.heap.objs.size) { s with heap := h', toks := tk }) : wpAny (model prog w) A (call (.type "set") [.ref l]) Q E s := by
  obtain ⟨c, tl, hmro⟩ := PySem.F.called_set.mro
  have hmade := PySem.F.called_set.made
  have hsub := PySem.F.called_set.sub
  refine wpAny_call (codeAny_of_tree ?_)
  show wpAny _ _ (callAny (.type "set") _) _ _ _
  refine wpAny_pure ⟨Code.quiet_builtin _ (by decide +kernel), codeAny_builtin PySem.F.entry_type_call ?_⟩
  rw [Around.under_plain (weight_type_call_type "set" [.ref l] []) rfl]
  have g1 := PySem.F.called_set.notType
  have g2 := PySem.F.called_set.canCreate
  have g3 := PySem.F.typeCall_set_1 (.ref l)
  repeat (any_goals (first | assumption | wp_step))
  refine codeAny_mono (code_set_new_1 (.ref l) (E := E) (Q₁ := fun obj s₁ => ∃ led : Bool, obj = .ref s.heap.objs.size ∧ s₁ = { s with heap := s.heap.push (setO led) }) fun led => ⟨led, rfl, rfl⟩) fun r s₁ hr => ?_
  cases r with
  | error e => exact hr
  | ok fl =>
    cases fl with
    | ret obj =>
      obtain ⟨led, rfl, rfl⟩ := hr
      have at0 : (s.heap.push (setO led)).get? s.heap.objs.size = some (setO led) := Heap.get?_push_size _ rfl
      have hT : Shared.TypeIs { s with heap := s.heap.push (setO led) } (.ref s.heap.objs.size) "set" := ⟨_, at0, rfl⟩
      have g4 := PySem.F.called_set.init.lookup
      have g5 := PySem.F.called_set.init.bind (.ref s.heap.objs.size)
      repeat (any_goals (first | assumption | wp_step))
      refine codeAny_mono (codeAny_call_builtin (R := wants (fun r s₂ => r = .none ∧ ∃ h' tk, s₂ = { s with heap := h', toks := tk } ∧ h'.SetOf knd s.heap.objs.size (fun x => decide (x ∈ metK val items.size)) (metK val items.size).length ∧
          (∀ b o, b < s.heap.objs.size → s.heap.get? b = some o → h'.get? b = some o)) E) PySem.F.called_set.init.plain PySem.F.entry_set_init (check_set_init_1 hT ?_)) fun r₂ s₂ hr₂ => ?_
      · obtain ⟨⟨ocls, odict, odata, oslots⟩, hol, hcl, nl, hdl⟩ := hl
        simp only at hcl hdl
        subst hcl; subst hdl
        have hol' : (s.heap.push (setO led)).get? l = some { cls := .type "list", dict := odict, data := .seq items nl, slots := oslots } := Heap.get?_push_of_some _ hol
        have k1 := PySem.F.sub_list_set
        have k2 := PySem.F.sub_list_frozenset
        have k3 : (Value.type "list" == Value.type "dict") = false := by decide
        have hl1 : (s.heap.push (setO led)).IsList l items := ⟨_, hol', rfl, nl, rfl⟩
        unfold Builtin.«set.__init__» noKeywords Builtin.Frozenset.updateFrom
        generalize hPI : pyIter = PI
        wp_walk
        subst hPI
        refine wpAny_pyIter_list hl1 (wpAny_bind (wpAny_runValue ?_))
        have ll : l < s.heap.objs.size := Heap.lt_size hol
        have h3 : A.in1.in1.in1.handled = none := by simp [hh]
        have nI : l ≠ (s.heap.push (setO led)).objs.size := by
          rw [Heap.size_push]
          exact Nat.ne_of_lt (Nat.lt_succ_of_lt ll)
        have nS : s.heap.objs.size ∉ [(s.heap.push (setO led)).objs.size, l] := by
          rw [Heap.size_push, List.mem_cons, List.mem_singleton, not_or]
          exact ⟨Nat.ne_of_lt (Nat.lt_succ_self _), Nat.ne_of_gt ll⟩
        refine set_loop (knd := knd) ((Walks.list h3 _ l nI items).toS) s.heap.objs.size nS val hval hb (items.size - 0) 0 _ (by omega) (Nat.zero_le _) ⟨⟨_, Heap.get?_push_size _ rfl, rfl, rfl⟩, (hl1.push _)⟩ ?hS0 ?hR
        case hS0 =>
          have at1 : ((s.heap.push (setO led)).push { cls := .type "list_iterator", data := .fields #[.ref l, .int 0 0] }).get? s.heap.objs.size = some (setO led) := Heap.get?_push_of_some _ at0
          exact setOf_as ((PyProof.Rows.setObjOf_fresh (knd := knd) led).setOf at1 (by unfold scanBound; omega)) (fun _ => by simp [metK]) rfl
        case hR =>
          intro s' mv hS'
          obtain ⟨h', g', d', tk', os'⟩ := s'
          obtain rfl : g' = s.gens := mv.gens
          obtain rfl : d' = s.drawn := mv.drawn
          obtain rfl : os' = s.os := mv.os
          show wpAny _ _ _ _ _ _
          refine wpAny_pure ?_
          show wpAny _ _ (ret Value.none) _ _ _
          refine wpAny_pure ⟨rfl, h', tk', rfl, hS', fun b o hb e => mv.heap b o ?_ (Heap.get?_push_of_some _ (Heap.get?_push_of_some _ e))⟩
          rw [List.mem_cons, List.mem_singleton, Heap.size_push, not_or]
          exact ⟨Nat.ne_of_lt hb, Nat.ne_of_lt (Nat.lt_succ_of_lt hb)⟩
      · cases r₂ with
        | error e => exact hr₂
        | ok fl₂ =>
          cases fl₂ with
          | ret r =>
            obtain ⟨rfl, h', tk, rfl, hS', hk'⟩ := hr₂
            repeat (any_goals (first | assumption | wp_step))
            exact h _ _ hS' hk'
          | _ => exact hr₂.elim
    | _ => exact hr.elim
end
end L2

namespace L2
open PySem PySem.Spec PyProof.Rows
def setHO (P : Program) (w : World) (p : Addr) (n : Nat) : HO := .ext fun h => ∃ S, h.SetOf (strKind P w) p S n
def metS (ys : List Str) : Nat := (metK (fun i => ys.getD i Str.empty) ys.length).length
theorem metS_all {ys : List Str} (h : ys.Nodup) : metS ys = ys.length := by
  refine metK_all _ _ fun i j hi hj e => ?_
  simp only [List.getD_eq_getElem?_getD, List.getElem?_eq_getElem hi, List.getElem?_eq_getElem hj, Option.getD_some] at e
  exact (List.getElem_inj h).mp e
section
variable {X : Cx}
theorem call_set_strs (hc : X.calm = true) : CallR X (.type "set") (fun xs H Q => ∃ (a : Addr) (ys : List Str), xs = [.ref a] ∧ SqL X.K H a (ys.map V.str) ∧ ys.length ≤ 70 ∧ ∀ p, H p = none → Q (.ref p) (upd H p (setHO X.prog X.w p (metS ys)))) := by
  intro pins s σ H xs us Q I r h
  obtain ⟨a, ys, e, hq, hl, q⟩ := h
  subst e
  obtain ⟨u, rfl, r1⟩ := vals1 r
  obtain rfl : u = Value.ref a := r1
  obtain ⟨its, rv, p, hz⟩ := I.list hq
  have len := rv.length
  rw [List.length_map] at len
  refine set_from (knd := strKind X.prog X.w) (val := fun i => ys.getD i Str.empty) (I.ok.hd hc) p.isList (fun i v hv => ?_) (by rw [List.size_toArray, ← len]; unfold scanBound; omega) fun h' tk hS hk => ?_
  · have hv' : its[i]? = some v := by simpa using hv
    have hi : i < ys.length := by rw [len]; exact (List.getElem?_eq_some_iff.mp hv').1
    have hx : (ys.map V.str)[i]? = some (V.str (ys.getD i Str.empty)) := by
      rw [List.getElem?_map, List.getElem?_eq_getElem hi]
      simp [List.getD_eq_getElem?_getD, List.getElem?_eq_getElem hi]
    obtain ⟨u, hu, ru⟩ := rv.get hx
    rw [hv'] at hu
    cases hu
    obtain ⟨t, rfl⟩ := ru
    exact ⟨keyIs_str _ t, rfl⟩
  · have es : its.toArray.size = ys.length := by rw [List.size_toArray, len]
    rw [es] at hS
    have I1 : Inv X pins σ H { s with heap := h', toks := tk } := I.kept fun b o e => hk b o (Heap.lt_size e) e
    have I2 := I1.track (o := setHO X.prog X.w s.heap.objs.size (metS ys)) (I.fpOk (Nat.le_refl _) (I.hok.fresh (Nat.le_refl _))) ⟨⟨_, hS⟩, (by obtain ⟨o, _, _, _, ho, _⟩ := hS; exact ⟨o, ho⟩), fun h1 h2 ⟨S, hS1⟩ k => (by
      obtain ⟨o, es, ep, t, ho, more⟩ := hS1
      exact ⟨S, o, es, ep, t, k o ho, more⟩)⟩
    exact ⟨.ref s.heap.objs.size, _, I2, rfl, q _ (I.hok.fresh (Nat.le_refl _))⟩
theorem call_len_setS : CallR X (.builtin "len") (fun xs H Q => ∃ (p : Addr) (n : Nat), xs = [.ref p] ∧ H p = some (setHO X.prog X.w p n) ∧ Q (.int n) H) := by
  intro pins s σ H xs us Q I r h
  obtain ⟨p, n, e, hp, q⟩ := h
  subst e
  obtain ⟨u, rfl, r1⟩ := vals1 r
  obtain rfl : u = Value.ref p := r1
  obtain ⟨⟨S, o, es, ep, t, ho, hex, hd, _, _, hb, hf, hn⟩, _⟩ := I.hok p _ hp
  have hb' : (es.size : Int) < 2 ^ 63 := by unfold scanBound at hb; omega
  refine call_len_set ho hex hd hf hb' ?_
  rw [hn]
  exact ⟨.int n, H, I.tok _, ⟨_, rfl⟩, q⟩

def Itx (x : Str) : It := ⟨fun i _ => i < x.cps.size, fun i H v H' => H' = H ∧ ∃ c, x.cps[i]? = some c ∧ v = .str ⟨#[c]⟩, fun i _ => x.cps.size ≤ i⟩
theorem turn_str {P : Program} {w : World} {K : PySem.W.Frag} {tg : Expr} (it : Addr) (x : Str) (t : Tok) : Turn P w K tg (Itx x) [it] it (fun i h => i ≤ x.cps.size ∧ h.IsStrIter it "str_ascii_iterator" x t i) where
  mem := by simp
  obj := fun i h st b hb => by
    have e : b = it := by simpa using hb
    subst e
    obtain ⟨_, o, e, c, d⟩ := st
    exact ⟨o, e, fun v z => by rw [d] at z; cases z⟩
  keep := fun i h h' st k => let ⟨l, o, e, r⟩ := st; ⟨l, o, k it (by simp) o e, r⟩
  item := by
    intro X hP hw hK hc i pins s σ H E I hf st hg
    subst hP hw hK
    obtain ⟨f0, f1, f2, f3, f4, f5⟩ := hf it (by simp)
    have hi : i < x.cps.size := hg
    refine (Walks.strAscii (prog := X.prog) (w := X.w) (I.ok.hd hc) it x t).item i s _ _ hi st.2 fun v h' tk hv st' kk => ?_
    obtain ⟨c, u, hcx, rfl⟩ := hv
    have I1 : Inv X pins σ H { s with heap := h', toks := tk } := I.turned (fun b o hb e => kk b o (by simpa using hb) e) f0 f1 f3 f4 f5
    obtain ⟨o, e, c', d⟩ := id st'
    exact ⟨_, rfl, go_of (s := { s with heap := h', toks := tk }) e c' d (by decide) ⟨.str ⟨#[c]⟩, H, I1, ⟨_, rfl⟩, ⟨rfl, c, hcx, rfl⟩, ⟨hi, st'⟩, fun b hb => (hf b hb).1⟩⟩
  done := by
    intro X hP hw hK hc i pins s σ H E I hf st hg
    subst hP hw hK
    obtain ⟨f0, f1, f2, f3, f4, f5⟩ := hf it (by simp)
    have hi : x.cps.size ≤ i := hg
    obtain ⟨hle, st⟩ := st
    have e : i = x.cps.size := by omega
    subst e
    exact (Walks.strAscii (prog := X.prog) (w := X.w) (I.ok.hd hc) it x t).done s _ _ st fun h' tk kk => ⟨rfl, I.turned (fun b o hb e => kk b o (by simpa using hb) e) f0 f1 f3 f4 f5⟩
  self := fun _ _ _ _ _ st h => wpAny_pyIter_striter_ascii st.2 h
def iStr (tl : TE) : TI := fun σ H R => tl σ H fun v H1 => ∃ x : Str, v = .str x ∧ x.cps.all (· < 128) = true ∧ R (Itx x) H1
theorem pi_str {tg l : Expr} {tl : TE} (hl : PE X l tl) : PI X tg l (iStr tl) := by
  intro pins s σ H R I h
  refine thn (hl pins s σ H _ I h) fun v s1 ⟨y, H1, I1, r1, q1⟩ => ?_
  obtain ⟨x, e, ha, q⟩ := q1
  subst e
  obtain ⟨t, rfl⟩ := r1
  refine wpAny_pyIter_ascii ha ?_
  refine ⟨s1.heap.objs.size, [s1.heap.objs.size], _, _, H1, rfl, I1.kept (t' := s1.toks) fun b o e => Heap.get?_push_of_some _ e, turn_str _ x t, ⟨Nat.zero_le _, _, Heap.get?_push_size _ rfl, rfl, rfl⟩, fun b hb => ?_, q⟩
  have e : b = s1.heap.objs.size := by simpa using hb
  subst e
  exact I1.fpOk (Nat.le_refl _) (I1.hok.fresh (Nat.le_refl _))
theorem comp_strP {g : Blk → TG} {tt : Blk → TT} {te : Blk → TE} {Z : List V → Hp → Prop} {σ0 : St} {H1 : Hp} {x : Str} (Pv : Nat → List V → St → Hp → Prop) (h0 : Pv 0 [] σ0 H1) (hl : ∀ i ys σ H, i ≤ x.cps.size → Pv i ys σ H → ys.length < sizeLine)
    (hs : ∀ B i c ys σ H, x.cps[i]? = some c → Pv i ys σ H → g B (.str ⟨#[c]⟩) σ H fun σ2 H3 => tt B σ2 H3 fun b H4 => if b = true then te B σ2 H4 fun y H5 => Pv (i + 1) (ys ++ [y]) σ2 H5 else Pv (i + 1) ys σ2 H4)
    (hd : ∀ ys σ H, Pv x.cps.size ys σ H → Z ys H) : ∃ W : Nat → Nat → List V → St → Hp → Prop, (∃ m, W 0 m [] σ0 H1) ∧ ∀ B, CompW (Itx x) (g B) (tt B) (te B) W Z := by
  refine ⟨fun i m ys σ H => m = x.cps.size - i ∧ i ≤ x.cps.size ∧ Pv i ys σ H, ⟨x.cps.size, by simp, Nat.zero_le _, h0⟩, ?_⟩
  rintro B i m ys σ H ⟨rfl, hi, p⟩
  by_cases hlt : i < x.cps.size
  · refine .inr ⟨hlt, hl i ys σ H hi p, Pv (i + 1), fun zs σ' H' p' => ⟨x.cps.size - (i + 1), by omega, rfl, hlt, p'⟩, fun v H' y => ?_⟩
    obtain ⟨e, c, hc, e2⟩ := y
    subst e e2
    exact hs B i c ys σ _ hc p
  · have e : i = x.cps.size := by omega
    subst e
    exact .inl ⟨Nat.le_refl _, hd ys σ H p⟩
theorem op_le_str : OpR X (compareOp .LtE) (fun x y H Q => ∃ i j, x = .str i ∧ y = .str j ∧ Q (.bl (!decide (j.cps.toList < i.cps.toList))) H) := by
  intro pins s σ H x y v u Q I rx ry h
  obtain ⟨i, j, rfl, rfl, q⟩ := h
  obtain ⟨t, rfl⟩ := rx
  obtain ⟨t', rfl⟩ := ry
  exact PySem.P.le_str ⟨.bl _, H, I, rfl, q⟩
end
def okSign (c : Nat) : Bool := decide (97 ≤ c) && decide (c ≤ 122)
def okName (x : Str) : Bool := decide (1 ≤ x.length) && decide (x.length ≤ 8) && x.cps.toList.all okSign
theorem le_one {c d : Nat} : (!decide (([d] : List Nat) < [c])) = decide (c ≤ d) := by
  have e : ([d] < [c]) ↔ d < c := by
    constructor
    · intro h
      cases h with
      | cons h => cases h
      | rel h => exact h
    · exact fun h => .rel h
  rw [Bool.eq_iff_iff, Bool.not_eq_true', decide_eq_false_iff_not, decide_eq_true_eq, e]
  omega
theorem okName_ascii {x : Str} (h : okName x = true) : x.cps.all (· < 128) = true := by
  unfold okName at h
  rw [Bool.and_eq_true] at h
  rw [← Array.all_toList, List.all_eq_true]
  intro c hc
  have := List.all_eq_true.mp h.2 c hc
  unfold okSign at this
  rw [Bool.and_eq_true, decide_eq_true_eq, decide_eq_true_eq] at this
  exact decide_eq_true (by omega)
end L2
namespace L2
open PySem PySem.Spec PyProof.Rows
set_option genInjectivity false in
set_option genSizeOf false in
structure NetV where
  bowls : List Str
  doors : List Str
  takes : List (List Int)
  gives : List (List Int)
  first : List Int
def okBag (n : Nat) (r : List Int) : Prop := r.length = n ∧ ∀ x ∈ r, 0 ≤ x ∧ x ≤ 1000000000
structure NetV.Ok (N : NetV) : Prop where
  b1 : 1 ≤ N.bowls.length
  b6 : N.bowls.length ≤ 6
  d8 : N.doors.length ≤ 8
  bn : ∀ y ∈ N.bowls, okName y = true
  dn : ∀ y ∈ N.doors, okName y = true
  bd : N.bowls.Nodup
  dd : N.doors.Nodup
  tl : N.takes.length = N.doors.length
  gl : N.gives.length = N.doors.length
  tk : ∀ r ∈ N.takes, okBag N.bowls.length r
  gv : ∀ r ∈ N.gives, okBag N.bowls.length r
  fs : okBag N.bowls.length N.first
abbrev nf1 (b : V) : List (Str × V) := [("bowls", b)]
abbrev nf2 (b d : V) : List (Str × V) := [("bowls", b), ("doors", d)]
abbrev nf3 (b d t : V) : List (Str × V) := [("bowls", b), ("doors", d), ("takes", t)]
abbrev nf4 (b d t g : V) : List (Str × V) := [("bowls", b), ("doors", d), ("takes", t), ("gives", g)]
abbrev nf5 (b d t g f : V) : List (Str × V) := [("bowls", b), ("doors", d), ("takes", t), ("gives", g), ("first", f)]
abbrev netF (b d t g f : Addr) : List (Str × V) := nf5 (.ref b) (.ref d) (.ref t) (.ref g) (.ref f)
abbrev vstrs (ys : List Str) : List V := ys.map V.str
structure NetIn (C : Addr) (H : Hp) (x dx b d t g f : Addr) (ts gs : List Addr) (N : NetV) : Prop where
  ob : H x = some (.ins C dx (netF b d t g f))
  hb : H b = some (.lst (vstrs N.bowls))
  hd : H d = some (.lst (vstrs N.doors))
  ht : H t = some (.lst (ts.map V.ref))
  tr : Rows H ts N.takes
  hg : H g = some (.lst (gs.map V.ref))
  gr : Rows H gs N.gives
  hf : H f = some (.lst (vints N.first))
theorem NetIn.same {C : Addr} {H H' : Hp} {x dx b d t g f : Addr} {ts gs : List Addr} {N : NetV} (n : NetIn C H x dx b d t g f ts gs N) (S : Same H H') : NetIn C H' x dx b d t g f ts gs N :=
  ⟨S _ _ n.ob, S _ _ n.hb, S _ _ n.hd, S _ _ n.ht, n.tr.same S, S _ _ n.hg, n.gr.same S, S _ _ n.hf⟩
/-- copies of the rows of a list of lists: [list(bag) for bag in rows] -/
theorem comp_copies {K : PySem.W.Frag} {K' : Blk → PySem.W.Frag} {Z : List V → Hp → Prop} {H1 : Hp} {a : Addr} {as : List Addr} {rs : List (List Int)} {τ : St} (hK : ∀ B, K' B = K) (ha : SqL K H1 a (as.map V.ref)) (R : Rows H1 as rs) (hn : rs.length ≤ 64)
    (hd : ∀ H2 bs, Same H1 H2 → Rows H2 bs rs → (∀ b ∈ bs, H1 b = none) → Z (bs.map V.ref) H2) :
    ∃ W : Nat → Nat → List V → St → Hp → Prop, (∃ m, W 0 m [] (none :: τ) H1) ∧ ∀ B : Blk, CompW (Itl K a) (gName 0) tTrue (tCB (fun xs H Q => ∃ p ys, xs = [.ref p] ∧ (SqL (K' B) H p ys ∨ SqT (K' B) H p ys) ∧ ∀ l, H l = none → Q (.ref l) (upd H l (.lst ys))) (tCons (tVar 0) tNil)) W Z := by
  have hal := R.length
  refine comp_listP (g := fun _ => gName 0) (tt := fun _ => tTrue) (K := K) (a := a) (xs := as.map V.ref) (fun i zs σ H4 => ∃ (o : Option V) (bs : List Addr), σ = o :: τ ∧ Same H1 H4 ∧ zs = bs.map V.ref ∧ Rows H4 bs (rs.take i) ∧ bs.length = i ∧ ∀ b ∈ bs, H1 b = none) ⟨none, [], rfl, Same.refl _, rfl, .nil, rfl, (fun b hb => by cases hb)⟩ ?_ ?_ ?_
  · rintro i zs σ H4 hi ⟨o, bs, rfl, S, rfl, RB, e, _⟩
    rw [List.length_map] at hi
    refine ⟨S.seq ha, ?_⟩
    rw [List.length_map]
    exact small70 (by omega)
  · rintro B i x zs σ H4 hx ⟨o, bs, rfl, S, rfl, RB, e, fr⟩
    obtain ⟨b, hb1, rfl⟩ := refs_get hx
    obtain ⟨r, hr1, hb⟩ := Paired.getL R hb1
    dsimp only [gName, tTrue]
    rw [if_pos rfl]
    refine ⟨_, rfl, b, _, rfl, .inl (by rw [hK]; exact SqL.of (S _ _ hb)), fun q nq => ⟨_, bs ++ [q], rfl, S.upd nq, (vrefs_snoc _ _).symm, ?_, (by rw [List.length_append, e]; rfl), fun c hc => ?_⟩⟩
    · rw [List.take_add_one, hr1, Option.toList_some]
      exact (RB.same ((Same.refl H4).upd nq)).snoc upd_same
    · rcases List.mem_append.mp hc with z | z
      · exact fr c z
      · rw [List.mem_singleton.mp z]; exact S.free nq
  · rintro zs σ H4 ⟨o, bs, rfl, S, rfl, RB, e, fr⟩
    rw [List.length_map, hal, List.take_length] at RB
    exact hd H4 bs S RB fr
theorem all_map_sign (x : Str) : (x.cps.toList.map okSign).all id = x.cps.toList.all okSign := by
  rw [List.all_map]
  rfl
end L2
namespace L2
open PySem PySem.Spec PyProof.Rows
section
variable {b d t g f : V}
theorem put_n2 : putF "doors" d (nf1 b) = nf2 b d := by
  show (if (("bowls" : Str) = "doors") then _ else (("bowls" : Str), b) :: putF "doors" d []) = _
  rw [if_neg (by decide +kernel)]
  rfl
theorem put_n3 : putF "takes" t (nf2 b d) = nf3 b d t := by
  show (if (("bowls" : Str) = "takes") then _ else (("bowls" : Str), b) :: (if (("doors" : Str) = "takes") then _ else (("doors" : Str), d) :: putF "takes" t [])) = _
  rw [if_neg (by decide +kernel), if_neg (by decide +kernel)]
  rfl
theorem put_n4 : putF "gives" g (nf3 b d t) = nf4 b d t g := by
  show (if (("bowls" : Str) = "gives") then _ else (("bowls" : Str), b) :: (if (("doors" : Str) = "gives") then _ else (("doors" : Str), d) :: (if (("takes" : Str) = "gives") then _ else (("takes" : Str), t) :: putF "gives" g []))) = _
  rw [if_neg (by decide +kernel), if_neg (by decide +kernel), if_neg (by decide +kernel)]
  rfl
theorem put_n5 : putF "first" f (nf4 b d t g) = nf5 b d t g f := by
  show (if (("bowls" : Str) = "first") then _ else (("bowls" : Str), b) :: (if (("doors" : Str) = "first") then _ else (("doors" : Str), d) :: (if (("takes" : Str) = "first") then _ else (("takes" : Str), t) :: (if (("gives" : Str) = "first") then _ else (("gives" : Str), g) :: putF "first" f [])))) = _
  rw [if_neg (by decide +kernel), if_neg (by decide +kernel), if_neg (by decide +kernel), if_neg (by decide +kernel)]
  rfl
end
/-- all that was tracked is as it was, but for the object at x -/
def But (x : Addr) (H H' : Hp) : Prop := ∀ c u, H c = some u → c ≠ x → H' c = some u
theorem But.trans {x : Addr} {H H1 H2 : Hp} (a : But x H H1) (b : But x H1 H2) : But x H H2 := fun c u e n => b c u (a c u e n) n
theorem Same.but {x : Addr} {H H' : Hp} (S : Same H H') : But x H H' := fun c u e _ => S c u e
theorem But.step {x q : Addr} {H : Hp} {o o' : HO} (hq : H q = none) : But x H (upd (upd H q o) x o') := fun c u e n => by
  rw [upd_ne n, upd_ne (ne_of_none e hq)]
  exact e
theorem But.seq {K : PySem.W.Frag} {x : Addr} {C dx : Addr} {fs : List (Str × V)} {H H' : Hp} {c : Addr} {zs : List V} (k : But x H H') (hx : H x = some (.ins C dx fs)) (h : SqL K H c zs) : SqL K H' c zs := by
  rcases h with (h | ⟨o, h⟩) | h
  · exact .inl (.inl (k _ _ h (ne_of h hx (by intro z; cases z))))
  · exact .inl (.inr ⟨o, k _ _ h (ne_of h hx (by intro z; cases z))⟩)
  · exact .inr h
theorem But.rows {x : Addr} {C dx : Addr} {fs : List (Str × V)} {H H' : Hp} {as : List Addr} {rs : List (List Int)} (k : But x H H') (hx : H x = some (.ins C dx fs)) (R : Rows H as rs) : Rows H' as rs :=
  Paired.mapP R fun a r e => k _ _ e (ne_of e hx (by intro z; cases z))
theorem But.free {x : Addr} {C dx : Addr} {fs : List (Str × V)} {H H' : Hp} {q : Addr} {o : HO} (k : But x H H') (hx : H' x = some o) (hq : H' q = none) : H q = none := by
  cases e : H q with
  | none => rfl
  | some u =>
    have n : q ≠ x := Ne.symm (ne_of_none hx hq)
    rw [k q u e n] at hq
    cases hq
end L2

namespace L2
open PySem PySem.Spec PyProof.Rows PySem.Builtin.Str

section
variable {X : Cx}
end

end L2
namespace L2
open PySem PySem.Spec PyProof.Rows
end L2

namespace L2
open PySem PySem.Spec PyProof.Rows
theorem Rows.get : ∀ {H : Hp} {as : List Addr} {rs : List (List Int)} {i : Nat}, Rows H as rs → (h : i < rs.length) → ∃ a, as[i]? = some a ∧ H a = some (.lst (vints (rs[i])))
  | _, _, _, 0, .cons r _, _ => ⟨_, rfl, r⟩
  | H, _, _, i + 1, .cons _ rs, h => Rows.get (H := H) (i := i) rs (Nat.lt_of_succ_lt_succ h)
theorem rows_at {H : Hp} {as : List Addr} {rs : List (List Int)} {i : Nat} (R : Rows H as rs) (h : i < rs.length) : ∃ a, atI (as.map V.ref) (i : Int) = some (.ref a) ∧ H a = some (.lst (vints (rs[i]))) := by
  obtain ⟨a, e, ha⟩ := Rows.get R h
  refine ⟨a, atI_nat ?_, ha⟩
  rw [List.getElem?_map, e]
  rfl
theorem getD_at {xs : List Int} {k : Nat} (h : k < xs.length) : xs.getD k 0 = xs[k] := by
  rw [List.getD_eq_getElem?_getD, List.getElem?_eq_getElem h]
  rfl
end L2

namespace L2
open PySem PySem.Spec PyProof.Rows
section
variable {X : Cx} {pins : List (Addr × Obj)} {σ : St} {H : Hp} {s₂ : Shared} {scope : Scope} {N' : List Str} {nt : Nat} {caps : List Nat} {fp : List Addr} {C : Addr}
end
section
variable {X : Cx} {pins : List (Addr × Obj)} {σ : St} {H : Hp} {s₂ : Shared} {scope : Scope} {N' : List Str} {nt : Nat} {caps : List Nat} {tg elt iter : Expr} {ifs : List Expr} {pos : Pos} {g : Blk → TG} {tt : Blk → TT} {te : Blk → TE}
end
end L2

namespace L2
open PySem PySem.Spec PyProof.Rows
section
variable {X : Cx}
end
end L2

namespace L2
open PySem PySem.Spec PyProof.Rows SeqAt
section
variable {X : Cx} {pins : List (Addr × Obj)} {σ : St} {H : Hp} {s : Shared} {A : Around} {a b : Addr}
end
end L2

namespace L2
open PySem PySem.Spec PyProof.Rows
section
variable {X : Cx} {e : Expr} {es : List Expr} {te : TE} {tr : TJ}
end
end L2

namespace L2
open PySem PySem.Spec PyProof.Rows
def Ite (K : PySem.W.Frag) (a : Addr) : It where
  go i H := ∃ xs x, SqL K H a xs ∧ xs[i]? = some x
  yld i H v H' := ∃ p x, H p = none ∧ v = .ref p ∧ H' = upd H p (.tup [.int (i : Nat), x]) ∧ ∀ xs, SqL K H a xs → xs[i]? = some x
  stop i H := ∃ xs, SqL K H a xs ∧ xs.length ≤ i
theorem turn_enum {P : Program} {w : World} {K : PySem.W.Frag} {elts : List Expr} {kx} {tpos : Pos} {e it a : Addr} (hne : e ≠ it) : Turn P w K (.Tuple elts kx tpos) (Ite K a) [e, it] e
    (fun i h => (∃ old, IsEnum h e it (i : Nat) old) ∧ h.IsListIter it a i) where
  mem := by simp
  obj := fun i h st c hc => by
    obtain ⟨⟨old, he⟩, ⟨o1, e1, _, d1⟩⟩ := st
    simp only [List.mem_cons, List.not_mem_nil, or_false] at hc
    rcases hc with rfl | rfl
    · exact ⟨_, he, fun v q => by cases q⟩
    · exact ⟨_, e1, fun v q => by rw [d1] at q; cases q⟩
  keep := fun i h h' st k => by
    obtain ⟨⟨old, he⟩, h1⟩ := st
    exact ⟨⟨old, k e (by simp) _ he⟩, h1.at fun o q => k it (by simp) o q⟩
  item := by
    intro X hP hw hK hc i pins s σ H E I hf st hg
    subst hP hw hK
    obtain ⟨xs, x, qa, hx⟩ := hg
    obtain ⟨its1, rv1, p1, z1⟩ := I.list qa
    obtain ⟨u1, hu1, ru1⟩ := rv1.get hx
    obtain ⟨⟨old, he⟩, h1⟩ := st
    refine wpAny_pyNext_enum_item he h1 p1.isList (x := u1) (by simpa using hu1) hne fun h' a1 a2 a3 a4 hk => ?_
    refine ⟨_, rfl, wpAny_letOwnedTupleGo_enum a1 fun h'' he'' sb => ?_⟩
    have elt := Heap.lt_size he
    have pz : s.heap.objs.size ≠ e := Nat.ne_of_gt elt
    have hfr := I.hok.fresh (Nat.le_refl s.heap.objs.size)
    have I1 : Inv X pins σ H { s with heap := h'', toks := s.toks + 1 } := I.turnedL (t' := s.toks + 1) (ch := [e, it]) (fun c o hb q => by
      simp only [List.mem_cons, List.not_mem_nil, or_false, not_or] at hb
      exact sb.extBut c o hb.1 (hk c o hb.1 hb.2 q)) (fun c hb => hf c hb)
    have hp : h''.get? s.heap.objs.size = some { cls := .type "tuple", data := .seq #[.int i s.toks, u1] } := sb.extBut _ _ pz a3
    have I2 : Inv X pins σ (upd H s.heap.objs.size (.tup [.int (i : Nat), x])) { s with heap := h'', toks := s.toks + 1 } := I1.track (I.fpOk (Nat.le_refl _) hfr) ⟨by show 2 ≤ sizeLine; decide, [.int i s.toks, u1], .cons ⟨_, rfl⟩ (.cons ru1 .nil), ⟨_, hp, rfl, _, rfl⟩⟩
    refine ⟨.ref s.heap.objs.size, _, I2, rfl, ⟨_, x, hfr, rfl, rfl, fun xs' q => by rw [I.list_inj q qa]; exact hx⟩, ⟨⟨_, he''⟩, a2.extBut sb.extBut (Ne.symm hne)⟩, fun c hb => ?_⟩
    rw [upd_ne (fun q => ?_)]
    · exact (hf c hb).1
    · have hlt : c < s.heap.objs.size := by
        obtain ⟨o1, e1, _⟩ := h1
        simp only [List.mem_cons, List.not_mem_nil, or_false] at hb
        rcases hb with rfl | rfl
        · exact Heap.lt_size he
        · exact Heap.lt_size e1
      rw [q] at hlt
      exact Nat.lt_irrefl _ hlt
  done := by
    intro X hP hw hK hc i pins s σ H E I hf st hg
    subst hP hw hK
    obtain ⟨xs, qa, hend⟩ := hg
    obtain ⟨its1, rv1, p1, z1⟩ := I.list qa
    obtain ⟨⟨old, he⟩, h1⟩ := st
    have l1 := rv1.length
    refine wpAny_pyNext_enum_end (I.ok.hd hc) he h1 p1.isList (by simp; omega) fun h' hk => ⟨rfl, ?_⟩
    exact I.turnedL (t' := s.toks) (ch := [it]) (fun c o hb q => hk c o (fun z => hb (by simp [z])) q) (fun c hb => hf c (by
      have z : c = it := by simpa using hb
      rw [z]; simp))
  self := fun _ _ _ _ _ st h => let ⟨⟨_, he⟩, _⟩ := st; wpAny_pyIter_enum he h
section
variable {X : Cx}
def iEnum (K : PySem.W.Frag) (ta : TA) : TI := fun σ H R => ta σ H fun vs H1 => ∃ a xs, vs = [.ref a] ∧ SqL K H1 a xs ∧ R (Ite K a) H1
theorem pi_enum {ea : Expr} {ta : TA} {elts : List Expr} {kx} {tpos p pos : Pos} (hg : Gl X "enumerate") (hm : X.mg "enumerate" = none) (ha : PA X [ea] ta) (hs : starEach [ea] X.env = [(false, eval ea X.env)] := by rfl) :
    PI X (.Tuple elts kx tpos) (.Call (.Name "enumerate" p) [ea] [] pos) (iEnum X.K ta) := by
  intro pins s σ H R I h
  refine Call_ (ld_blt I hg hm (by rfl : bootBuiltins "enumerate" = some (.type "enumerate")) (PyProof.Rows.callWith_type1 (thn (ha pos pins s σ H _ I h) fun us s1 ⟨vs, H1, I1, r1, q1⟩ => ?_) hs rfl))
  obtain ⟨a, xs, e, qa, q⟩ := q1
  subst e
  cases r1 with
  | cons r rr =>
    cases rr
    cases r
    obtain ⟨its1, rv1, p1, z1⟩ := I1.list qa
    refine call_enumerate_list p1.isList fun h' he h1 hsz hk => wpAny_pyIter_enum he ?_
    refine ⟨s1.heap.objs.size + 1, [s1.heap.objs.size + 1, s1.heap.objs.size], _, _, H1, rfl, I1.kept (t' := s1.toks) hk, turn_enum (Nat.ne_of_gt (Nat.lt_succ_self _)), ⟨⟨_, he⟩, h1⟩, fun c hb => ?_, q⟩
    have hle : s1.heap.objs.size ≤ c := by
      simp only [List.mem_cons, List.not_mem_nil, or_false] at hb
      rcases hb with q | q
      · rw [q]; exact Nat.le_add_right _ _
      · rw [q]; exact Nat.le_refl _
    exact I1.fpOk hle (I1.hok.fresh hle)
end
/-- a loop over enumerate -/
theorem for_enum {K : PySem.W.Frag} {g : TG} {a : Addr} {xs : List V} {tb : TS} {D : Ends} {σ : St} {H : Hp} (Pv : Nat → St → Hp → Prop) (h0 : Pv 0 σ H) (hl : ∀ i σ H, i ≤ xs.length → Pv i σ H → SqL K H a xs)
    (hs : ∀ i x p σ H, xs[i]? = some x → Pv i σ H → H p = none → g (.ref p) σ (upd H p (.tup [.int (i : Nat), x])) fun σ2 H2 => tb { D with nx := Pv (i + 1), ct := Pv (i + 1), bk := D.nx } σ2 H2) (hd : ∀ σ H, Pv xs.length σ H → D.nx σ H) :
    ∃ W : Nat → Nat → St → Hp → Prop, (∃ m, W 0 m σ H) ∧ ∀ i m σ H, W i m σ H →
      ((Ite K a).stop i H ∧ D.nx σ H) ∨ ((Ite K a).go i H ∧ ∃ N : St → Hp → Prop, (∀ σ' H', N σ' H' → ∃ m', m' < m ∧ W (i + 1) m' σ' H') ∧ ∀ x H', (Ite K a).yld i H x H' → g x σ H' fun σ2 H2 => tb { D with nx := N, ct := N, bk := D.nx } σ2 H2) := by
  refine ⟨fun i m σ H => m = xs.length - i ∧ i ≤ xs.length ∧ Pv i σ H, ⟨xs.length, by simp, Nat.zero_le _, h0⟩, ?_⟩
  rintro i m σ H ⟨rfl, hi, p⟩
  have qa := hl i σ H hi p
  by_cases hlt : i < xs.length
  · refine .inr ⟨⟨xs, xs[i], qa, by simp [hlt]⟩, Pv (i + 1), fun σ' H' p' => ⟨xs.length - (i + 1), by omega, rfl, hlt, p'⟩, fun v H' y => ?_⟩
    obtain ⟨q, x, hq, e1, e2, hx⟩ := y
    subst e1 e2
    exact hs i x q σ H (hx xs qa) p hq
  · have e : i = xs.length := by omega
    subst e
    exact .inl ⟨⟨xs, qa, Nat.le_refl _⟩, hd σ H p⟩
end L2

namespace L2
open PySem PySem.Spec PyProof.Rows SeqAt
section
variable {X : Cx}
theorem hu0_of {A : Around} {k : Nat} (hr : Room k A) : A.units < cLine := hr.units0
end
end L2

namespace L2
open PySem PySem.Spec PyProof.Rows SeqAt
section
variable {X : Cx}
end
section
variable {X : Cx}
end
def sub (xs ys : List Int) : List Int := List.zipWith (fun i j => i - j) xs ys
def add (xs ys : List Int) : List Int := List.zipWith (fun i j => i + j) xs ys
theorem sub_len {xs ys : List Int} {z : Nat} (h1 : xs.length = z) (h2 : ys.length = z) : (sub xs ys).length = z := by unfold sub; rw [List.length_zipWith, h1, h2, Nat.min_self]
theorem add_len {xs ys : List Int} {z : Nat} (h1 : xs.length = z) (h2 : ys.length = z) : (add xs ys).length = z := by unfold add; rw [List.length_zipWith, h1, h2, Nat.min_self]
theorem zip_at (f : Int → Int → Int) {xs ys : List Int} {i : Nat} (h1 : i < xs.length) (h2 : i < ys.length) : (List.zipWith f xs ys).getD i 0 = f (xs.getD i 0) (ys.getD i 0) := by
  simp [List.getD_eq_getElem?_getD, List.getElem?_zipWith, List.getElem?_eq_getElem h1, List.getElem?_eq_getElem h2]
theorem sub_at {xs ys : List Int} {z i : Nat} (h1 : xs.length = z) (h2 : ys.length = z) (h : i < z) : (sub xs ys).getD i 0 = xs.getD i 0 - ys.getD i 0 := zip_at _ (by omega) (by omega)
theorem add_at {xs ys : List Int} {z i : Nat} (h1 : xs.length = z) (h2 : ys.length = z) (h : i < z) : (add xs ys).getD i 0 = xs.getD i 0 + ys.getD i 0 := zip_at _ (by omega) (by omega)
theorem bn_iff : ∀ {xs ys : List Int} {z : Nat}, xs.length = z → ys.length = z → (bn xs ys = true ↔ ∀ i, i < z → xs.getD i 0 ≤ ys.getD i 0)
  | [], [], z, h, _ => by subst h; simp [bn]
  | x :: xs, [], z, h1, h2 => by subst h1; simp at h2
  | [], _ :: _, z, h1, h2 => by subst h1; simp at h2
  | x :: xs, y :: ys, z, h1, h2 => by
    subst h1
    have ih := bn_iff (xs := xs) (ys := ys) (z := xs.length) rfl (by simpa using h2)
    have e : bn (x :: xs) (y :: ys) = (decide (x ≤ y) && bn xs ys) := by simp [bn]
    rw [e, Bool.and_eq_true, decide_eq_true_eq, ih]
    constructor
    · rintro ⟨h0, h⟩ i hi
      cases i with
      | zero => simpa using h0
      | succ i => simpa using h i (by simpa using hi)
    · intro h
      refine ⟨by simpa using h 0 (by simp), fun i hi => ?_⟩
      simpa using h (i + 1) (by simpa using hi)
/-- bags of doors: all of length z -/
def Wd (z : Nat) (rs : List (List Int)) : Prop := ∀ r ∈ rs, r.length = z
def behind (t g b : List Int) : List Int := add (sub b t) g
theorem behind_len {t g b : List Int} {z : Nat} (ht : t.length = z) (hg : g.length = z) (hl : b.length = z) : (behind t g b).length = z := add_len (sub_len hl ht) hg
def six : List Str := [Str.ofString "a", Str.ofString "b", Str.ofString "c", Str.ofString "d", Str.ofString "e", Str.ofString "f"]
theorem six_ok : ∀ y ∈ six, okName y = true := by decide +kernel
theorem six_nd : six.Nodup := by decide +kernel
theorem cut_take (xs : List V) (k : Nat) : cutV xs none (some (k : Int)) = xs.take k := by
  unfold cutV
  rw [HT.sIx_none, HT.sIx_nat, List.drop_zero, Nat.sub_zero]
  by_cases h : k ≤ xs.length
  · rw [Nat.min_eq_left h]
  · rw [Nat.min_eq_right (by omega), List.take_of_length_le (Nat.le_refl _), List.take_of_length_le (by omega)]
abbrev vsix : List V := [V.str (Str.ofString "a"), V.str (Str.ofString "b"), V.str (Str.ofString "c"), V.str (Str.ofString "d"), V.str (Str.ofString "e"), V.str (Str.ofString "f")]
theorem cut_six (k : Nat) : cutV vsix none (some (k : Int)) = vstrs (six.take k) := by
  refine (cut_take _ _).trans ?_
  show (vstrs six).take k = _
  rw [vstrs, vstrs, List.map_take]
theorem behind_at {t g b : List Int} {z i : Nat} (ht : t.length = z) (hg : g.length = z) (hb : b.length = z) (hi : i < z) : (behind t g b).getD i 0 = b.getD i 0 - t.getD i 0 + g.getD i 0 := by
  unfold behind
  rw [add_at (sub_len hb ht) hg hi, sub_at hb ht hi]
theorem getDr {rs : List (List Int)} {d : Nat} (h : d < rs.length) : rs.getD d [] = rs[d] := by
  rw [List.getD_eq_getElem?_getD, List.getElem?_eq_getElem h]
  rfl
/-- a row of doors, as whole numbers -/
abbrev zs (ds : List Nat) : List Int := ds.map fun n : Nat => (n : Int)
theorem zs_get {ds : List Nat} {i : Nat} {x : V} (h : (vints (zs ds))[i]? = some x) : ∃ n : Nat, ds[i]? = some n ∧ x = V.int (n : Int) := by
  rw [List.getElem?_map, List.getElem?_map] at h
  cases e : ds[i]? with
  | none => rw [e] at h; cases h
  | some n => rw [e] at h; exact ⟨n, rfl, (Option.some.inj h).symm⟩
theorem zs_len (ds : List Nat) : (zs ds).length = ds.length := List.length_map ..
end L2
namespace L2
open PySem PySem.Spec PyProof.Rows
end L2
namespace L2
open PySem PySem.Spec PyProof.Rows
end L2

namespace L2
open PySem PySem.Spec PyProof.Rows SeqAt
theorem comp_ints {te : Blk → TE} {H1 : Hp} {Z : List V → Hp → Prop} {lo : Int} {n : Nat} {τ : St} (P : Int → Prop) (hn : n < sizeLine)
    (hs : ∀ B i H, i < n → Same H1 H → ∀ Q' : VK, (∀ m H2, P m → Same H H2 → Q' (.int m) H2) → te B (some (.int (lo + i)) :: τ) H Q')
    (hd : ∀ ns H2, Same H1 H2 → ns.length = n → (∀ m ∈ ns, P m) → Z (vints ns) H2) :
    ∃ W : Nat → Nat → List V → St → Hp → Prop, (∃ m, W 0 m [] (none :: τ) H1) ∧ ∀ B : Blk, CompW (Itr lo n) (gName 0) tTrue (te B) W Z := by
  refine comp_rangeP (g := fun _ => gName 0) (tt := fun _ => tTrue) (fun i ys σ H => ∃ (v : Option V) (ns : List Int), σ = v :: τ ∧ Same H1 H ∧ ys = vints ns ∧ ns.length = i ∧ ∀ m ∈ ns, P m) ⟨none, [], rfl, Same.refl _, rfl, rfl, fun m hm => nomatch hm⟩ ?_ ?_ ?_
  · rintro i ys σ H hi ⟨v, ns, rfl, S, rfl, e, _⟩
    rw [ints_len, e]; omega
  · rintro B i ys σ H hi ⟨v, ns, rfl, S, rfl, e, hp⟩
    dsimp only [gName, tTrue]
    rw [if_pos rfl]
    refine hs B i H hi S _ fun m H2 pm S2 => ⟨_, ns ++ [m], rfl, S.trans S2, (vints_snoc _ _).symm, by rw [List.length_append, e]; rfl, fun k hk => ?_⟩
    rcases List.mem_append.mp hk with q | q
    · exact hp k q
    · rw [List.mem_singleton.mp q]; exact pm
  · rintro ys σ H ⟨v, ns, rfl, S, rfl, e, hp⟩
    exact hd ns H S e hp
section
variable {X : Cx}
end
theorem at_in {P : Int → Prop} {xs : List Int} {z i : Nat} (hx : xs.length = z) (hi : i < z) (h : ∀ x ∈ xs, P x) : P (xs.getD i 0) := by
  subst hx
  rw [getD_at hi]
  exact h _ (List.getElem_mem hi)
end L2
namespace L2
open PySem PySem.Spec PyProof.Rows
theorem at_zs {xs : List Int} {b : Nat} (h : b < xs.length) : atI (vints xs) ((b : Nat) : Int) = some (V.int (xs.getD b 0)) := by
  rw [ints_at h, getD_at h]
end L2
namespace L2
open PySem PySem.Spec PyProof.Rows
end L2

namespace L2
open PySem PySem.Spec PyProof.Rows
section
variable {prog : Program} {w : World} {A : Around} {E : Value → Shared → Prop} {s : Shared}
theorem lri_len : typeLookup (.type "list_reverseiterator") "__len__" = pure none := by rw [typeLookup_type, builtinLookup_eq_fast]; kernel_rfl
theorem lri_hint : typeLookup (.type "list_reverseiterator") "__length_hint__" = pure (some (.builtin "list_reverseiterator.__length_hint__")) := by rw [typeLookup_type, builtinLookup_eq_fast]; kernel_rfl
theorem rev_hint {r : Addr} {Q : Bool → Shared → Prop} (t : s.TypeIs (.ref r) "list_reverseiterator") (q : Q false s) : wpAny (model prog w) A (Builtin.List.listLengthHint (.ref r)) Q E s := by
  unfold Builtin.List.listLengthHint
  refine wpAny_bind (wpAny_specialOf t lri_len ?_)
  show wpAny _ _ (specialOf (Value.ref r) (Str.ofString "__length_hint__") >>= _) _ _ s
  refine wpAny_bind (wpAny_specialOf t lri_hint ?_)
  generalize hid : ("list_reverseiterator.__length_hint__" : String) = n0
  wp_delta
  rw [show splitId n0 = some ("list_reverseiterator", "__length_hint__") from by subst hid; decide +kernel]
  subst hid
  refine wpAny_bind (wpAny_isInstance (T := "list_reverseiterator") (b := true) t (by rw [isSubtype_type]; kernel_rfl) ?_)
  refine wpAny_ite_split (fun z => absurd z (by decide)) (fun _ => ?_)
  refine wpAny_ite_split (fun _ => ?_) (fun z => absurd (by decide +kernel) z)
  refine wpAny_ite_split (fun z => absurd z (by decide)) (fun _ => ?_)
  exact wpAny_pure q
theorem rev_extend {R : Result → Shared → Prop} {it l : Addr} {its : Array Value} (hh : A.handled = none) (hi : s.heap.IsRevIter it l ((its.size : Int) - 1)) (hl : s.heap.IsList l its) (hne : l ≠ it) (S : Addr) (hSi : S ≠ it) (hSl : S ≠ l) (c0 : Nat)
    (hS : s.heap.get? S = some { cls := .type "list", data := .seq #[] c0 }) (hn : its.size ≤ sizeLine)
    (hR : ∀ h' tk acc c', (∀ b o, b ≠ S → b ≠ it → s.heap.get? b = some o → h'.get? b = some o) → h'.get? S = some { cls := .type "list", dict := none, data := .seq acc c', slots := #[] } → ItemsOf (fun i v => its[its.size - 1 - i]? = some v) acc its.size → R (.ok (.ret .none)) { s with heap := h', toks := tk }) :
    wpAny (model prog w) A.in1 (Builtin.List.listExtendWith (.ref S) (.ref it) .none)
      (fun fin s' => match fin with | .done f => R (.ok f) s' | .again c' => c'.quiet = true ∧ codeAny (model prog w) A c' R s') (fun e s' => R (.error e) s') s := by
  have W := Walks.listRev (prog := prog) (w := w) (A := A.in1) hh it l hne its
  have hSf : S ∉ [it, l] := by simp only [List.mem_cons, List.not_mem_nil, or_false, not_or]; exact ⟨hSi, hSl⟩
  have st : 0 ≤ its.size ∧ s.heap.IsRevIter it l ((its.size : Int) - 1 - ((0 : Nat) : Int)) ∧ s.heap.IsList l its := ⟨Nat.zero_le _, by simpa using hi, hl⟩
  unfold Builtin.List.listExtendWith
  refine wpAny_bind (wpAny_typeOf hi.typeIs ?_)
  have a1 : Builtin.List.listSameRef (.ref S) (.ref it) = false := by simp [Builtin.List.listSameRef, hSi]
  have a2 : (Value.type "list_reverseiterator" == Value.type "list") = false := by decide
  have a3 : (Value.type "list_reverseiterator" == Value.type "tuple") = false := by decide
  simp only [a1, a2, a3, Bool.or_false, Bool.false_eq_true, if_false]
  refine wpAny_bind (wpAny_pyIter_revIter hi ?_)
  refine wpAny_bind (wpAny_holding (rev_hint hi.typeIs ?_))
  refine wpAny_ite_split (fun z => absurd z (by decide +kernel)) (fun _ => wpAny_pure ⟨plainId_quiet F.plain_extend_loop _, ?_⟩)
  refine codeAny_extend_loopS W.toS hn S hSf .none its.size 0 _ #[] c0 rfl (Nat.zero_le _) st hS (ItemsOf.nil _) fun s' acc c' hm hS' ha => ?_
  rw [Moved.eq_with hm]
  refine hR s'.heap s'.toks acc c' (fun b o h1 h2 e => hm.heap b o (fun hb => ?_) e) hS' ha
  rcases List.mem_cons.mp hb with z | z
  · exact h1 z
  · exact h2 (List.mem_singleton.mp z)
theorem rev_list {Q : Value → Shared → Prop} {it l : Addr} {its : Array Value} (hh : A.handled = none) (hi : s.heap.IsRevIter it l ((its.size : Int) - 1)) (hl : s.heap.IsList l its) (hne : l ≠ it) (hn : its.size ≤ sizeLine)
    (hQ : ∀ h' tk acc c', (∀ b o, b ≠ it → s.heap.get? b = some o → h'.get? b = some o) → h'.get? s.heap.objs.size = some { cls := .type "list", dict := none, data := .seq acc c', slots := #[] } → ItemsOf (fun i v => its[its.size - 1 - i]? = some v) acc its.size → Q (.ref s.heap.objs.size) { s with heap := h', toks := tk }) :
    wpAny (model prog w) A (call (.type "list") [.ref it]) Q E s := by
  refine callType_codes (Q₁ := fun v s1 => v = .ref s.heap.objs.size ∧ s1 = { s with heap := s.heap.push { cls := .type "list", data := .seq #[] } }) F.called_list (F.typeCall_list_1 _) F.entry_list_init (code_list_new _ ⟨rfl, rfl⟩) fun v s1 hv => ?_
  obtain ⟨rfl, rfl⟩ := hv
  have g0 : (s.heap.push { cls := .type "list", data := .seq #[] }).get? s.heap.objs.size = some { cls := .type "list", data := .seq #[] } := Heap.get?_push_size _ rfl
  have lti : it < s.heap.objs.size := by obtain ⟨o, e, _⟩ := hi; exact Heap.lt_size e
  have ltl : l < s.heap.objs.size := by obtain ⟨o, e, _⟩ := hl; exact Heap.lt_size e
  refine ⟨⟨_, g0, rfl⟩, F.args_list_init_2 _ _, ?_⟩
  show wpAny _ _ (do let old ← Builtin.List.listItems (.ref s.heap.objs.size); Builtin.List.listUpdate (.ref s.heap.objs.size) (fun _ => #[]); letGo old.toList.reverse; Builtin.List.listExtendWith (.ref s.heap.objs.size) (.ref it) .none) _ _ _
  refine wpAny_bind ?_
  unfold Builtin.List.listItems
  refine wpAny_bind (wpAny_seqItems g0 rfl (wpAny_pure ?_))
  show wpAny _ _ (updateSeq s.heap.objs.size (fun _ => #[]) >>= fun _ => letGo (#[] : Array Value).toList.reverse >>= fun _ => Builtin.List.listExtendWith (.ref s.heap.objs.size) (.ref it) .none) _ _ _
  refine wpAny_bind (wpAny_updateSeq g0 rfl ?_)
  have g1 := Heap.get?_update_self (Obj.mapSeq (fun _ => (#[] : Array Value))) g0 rfl
  have kp : ∀ b o, b ≠ s.heap.objs.size → s.heap.get? b = some o → ((s.heap.push { cls := .type "list", data := .seq #[] }).update s.heap.objs.size (Obj.mapSeq (fun _ => (#[] : Array Value)))).get? b = some o :=
    fun b o hb e => (Heap.get?_update_other _ _ (Ne.symm hb)).trans (Heap.get?_push_of_some _ e)
  refine wpAny_bind (wpAny_letGo ?_)
  refine rev_extend (A := A.in1) hh (hi.at fun o e => kp _ o (Nat.ne_of_lt lti) e) (hl.at fun o e => kp _ o (Nat.ne_of_lt ltl) e) hne _ (Nat.ne_of_gt lti) (Nat.ne_of_gt ltl) _ g1 hn fun h' tk acc c' hk hS' ha => ?_
  exact ⟨rfl, hQ h' tk acc c' (fun b o hb e => hk b o (Nat.ne_of_lt (Heap.lt_size e)) hb (kp b o (Nat.ne_of_lt (Heap.lt_size e)) e)) hS' ha⟩
end
section
variable {X : Cx}
def tListRev (K : PySem.W.Frag) (ta : TA) : TE := fun σ H Q => ta σ H fun vs H1 => ∃ a xs, vs = [.ref a] ∧ SqL K H1 a xs ∧ ∀ p, H1 p = none → Q (.ref p) (upd H1 p (.lst xs.reverse))
theorem Vals.rev : ∀ {xs : List V} {us : List Value}, Vals xs us → Vals xs.reverse us.reverse
  | _, _, .nil => .nil
  | _, _, .cons r t => by
    rw [List.reverse_cons, List.reverse_cons]
    exact (Vals.rev t).append (.cons r .nil)
theorem pe_listRev {ea : Expr} {ta : TA} {p p2 pos pos2 : Pos} (hc : X.calm = true) (hgl : Gl X "list") (hml : X.mg "list" = none) (hg : Gl X "reversed") (hm : X.mg "reversed" = none) (ha : PA X [ea] ta) (hs : starEach [ea] X.env = [(false, eval ea X.env)] := by rfl)
    (hs2 : starEach [.Call (.Name "reversed" p2) [ea] [] pos2] X.env = [(false, eval (.Call (.Name "reversed" p2) [ea] [] pos2) X.env)] := by rfl) :
    PE X (.Call (.Name "list" p) [.Call (.Name "reversed" p2) [ea] [] pos2] [] pos) (tListRev X.K ta) := by
  intro pins s σ H Q I h
  refine Call_ (ld_blt I hgl hml bt_list (PyProof.Rows.callWith_type1 ?_ hs2 rfl))
  rw [hs2]
  show wpAny _ _ (spliced ((false, eval (.Call (.Name "reversed" p2) [ea] [] pos2) X.env) :: backTo pos [])) _ _ s
  refine Calls.spliced_cons (Call_ (ld_blt I hg hm (by rfl : bootBuiltins "reversed" = some (.type "reversed")) (PyProof.Rows.callWith_type1 (thn (ha pos2 pins s σ H _ I h) fun us s1 ⟨vs, H1, I1, r1, q1⟩ => ?_) hs rfl)))
  obtain ⟨a, xs, e, qa, q⟩ := q1
  subst e
  cases r1 with
  | cons r rr =>
    cases rr
    cases r
    obtain ⟨its, rv, p1, z1⟩ := I1.list qa
    have hl := rv.length
    refine call_reversed_list p1.isList (Calls.spliced_nil ?_)
    have g0 : (s1.heap.push (revObj a ((its.toArray.size : Int) - 1))).IsRevIter s1.heap.objs.size a ((its.toArray.size : Int) - 1) := ⟨_, Heap.get?_push_size _ rfl, rfl, rfl⟩
    have lt : a < s1.heap.objs.size := by obtain ⟨o, e, _⟩ := p1.isList; exact Heap.lt_size e
    refine rev_list (s := { s1 with heap := s1.heap.push (revObj a ((its.toArray.size : Int) - 1)) }) (I1.ok.hd hc) g0 (p1.isList.at fun o e => Heap.get?_push_of_some _ e) (Nat.ne_of_lt lt) (by rw [List.size_toArray]; omega) fun h' tk acc c' hk hS ha => ?_
    have kp : ∀ b o, s1.heap.get? b = some o → h'.get? b = some o := fun b o e => hk b o (Nat.ne_of_lt (Heap.lt_size e)) (Heap.get?_push_of_some _ e)
    have hfr : H1 (s1.heap.push (revObj a ((its.toArray.size : Int) - 1))).objs.size = none := I1.hok.fresh (by simp)
    have hacc : acc.toList = its.reverse := by
      refine List.ext_getElem? fun i => ?_
      have hsz : acc.size = its.length := by rw [ha.1, List.size_toArray]
      by_cases hi : i < its.length
      · have e1 := ha.2 i (acc[i]'(by omega)) (by rw [Array.getElem?_eq_getElem])
        rw [Array.getElem?_toList, Array.getElem?_eq_getElem (by omega), List.getElem?_reverse hi]
        rw [← e1]
        simp
      · rw [List.getElem?_eq_none (by rw [Array.length_toList]; omega), List.getElem?_eq_none (by rw [List.length_reverse]; omega)]
    refine ⟨.ref _, upd H1 _ (.lst xs.reverse), I1.laid (t' := tk) (h' := h') kp (by simp) (show ObjOk X.prog X.w _ h' _ (.lst xs.reverse) from ⟨by rw [List.length_reverse]; exact z1, its.reverse, c', rv.rev, ?_⟩), rfl, q _ hfr⟩
    rw [← hacc, Array.toArray_toList]
    exact hS
end
end L2
namespace L2
open PySem PySem.Spec PyProof.Rows
end L2

namespace L2
open PySem PySem.Spec PyProof.Rows
def DK (h h' : Heap) : Prop := ∀ b o, h.get? b = some o → ∃ o', h'.get? b = some o' ∧ o'.cls = o.cls ∧ o'.dict = o.dict
theorem DK.refl (h : Heap) : DK h h := fun _ o e => ⟨o, e, rfl, rfl⟩
theorem DK.trans {h1 h2 h3 : Heap} (a : DK h1 h2) (b : DK h2 h3) : DK h1 h3 := fun c o e =>
  let ⟨_, e1, c1, d1⟩ := a c o e
  let ⟨o2, e2, c2, d2⟩ := b c _ e1
  ⟨o2, e2, c2.trans c1, d2.trans d1⟩
structure KD {α : Type} (t : Sem α) : Prop where
  out : ∀ (M : Model) (G : PySem.Ctx) (P : α → Pos → Shared → Prop) (F : Value → Pos → Shared → Prop) (p : Pos) (s : Shared), Sem.wp M G t P F p s → Sem.wp M G t (fun a p' s' => P a p' s' ∧ DK s.heap s'.heap) F p s
namespace KD
variable {α β : Type}
theorem ret (a : α) : KD (Pure.pure a : Sem α) := ⟨fun _ _ _ _ _ s h => ⟨h, DK.refl s.heap⟩⟩
theorem uns (w : String) : KD (PySem.unsupported w : Sem α) := ⟨fun _ _ _ _ _ _ h => h⟩
theorem andThen {m : Sem α} {f : α → Sem β} (hm : KD m) (hf : ∀ a, KD (f a)) : KD (m >>= f) := ⟨fun M G P F p s h => by
  rw [Sem.wp_bind'] at h ⊢
  refine Sem.wp_mono M G m (fun a p' s' z => ?_) (fun _ _ _ x => x) p s (hm.out M G _ F p s h)
  exact Sem.wp_mono M G (f a) (fun b p2 s2 y => ⟨y.1, z.2.trans y.2⟩) (fun _ _ _ x => x) p' s' ((hf a).out M G P F p' s' z.1)⟩
theorem cond {c : Prop} [Decidable c] {t u : Sem α} (ht : KD t) (hu : KD u) : KD (if c then t else u) := by split <;> assumption
theorem ld (a : Addr) : KD (PySem.load a) := ⟨fun _ _ _ _ _ s h => by obtain ⟨o, e, q⟩ := h; exact ⟨o, e, q, DK.refl s.heap⟩⟩
theorem stk : KD PySem.stack := ⟨fun M G P F p s h => by
  unfold PySem.stack at h ⊢
  rw [Sem.wp_stack] at h ⊢
  exact ⟨h, DK.refl s.heap⟩⟩
theorem new (o : Obj) : KD (PySem.alloc o) := ⟨fun M G P F p s h => ⟨h, fun b u e => ⟨u, Heap.get?_push_of_some _ e, rfl, rfl⟩⟩⟩
theorem upd (a : Addr) (f : Obj → Obj) (k : ∀ o, (f o).isFreed = o.isFreed ∧ (f o).cls = o.cls ∧ (f o).dict = o.dict) : KD (PySem.update a f) := ⟨fun M G P F p s h => by
  obtain ⟨e, q⟩ := h
  refine ⟨e, q, fun b o hb => ?_⟩
  show ∃ o', (s.heap.update a f).get? b = some o' ∧ _
  by_cases hba : b = a
  · subst hba
    exact ⟨f o, Heap.get?_update_self f hb ((k o).1.trans (Heap.get?_some_iff.mp hb).2), (k o).2.1, (k o).2.2⟩
  · exact ⟨o, (Heap.get?_update_other _ _ (Ne.symm hba)).trans hb, rfl, rfl⟩⟩
theorem fld (v : Value) (i : Nat) : KD (PySem.field v i) := ⟨fun _ G P F p s h => by
  obtain ⟨a, o, vs, x, e, ho, hd, hx, q⟩ := (wp_field_iff G v i P F p s).mp h
  exact (wp_field_iff G v i _ F p s).mpr ⟨a, o, vs, x, e, ho, hd, hx, q, DK.refl s.heap⟩⟩
theorem setFld (v : Value) (i : Nat) (x : Value) : KD (PySem.setField v i x) := ⟨fun _ G P F p s h => by
  obtain ⟨a, o, vs, e, ho, hd, hi, q⟩ := (wp_setField_iff G v i x P F p s).mp h
  refine (wp_setField_iff G v i x _ F p s).mpr ⟨a, o, vs, e, ho, hd, hi, q, fun b ob hb => ?_⟩
  show ∃ o', (s.heap.update a _).get? b = some o' ∧ _
  by_cases hba : b = a
  · subst hba
    rw [ho] at hb
    cases hb
    have z := Heap.get?_update_self (Obj.mapFields (·.setIfInBounds i x)) ho (Obj.isFreed_of_fields (Obj.data_mapFields hd _))
    refine ⟨_, z, Obj.cls_mapFields _ _, ?_⟩
    obtain ⟨c, d, dt, sl⟩ := o
    cases dt <;> rfl
  · exact ⟨ob, (Heap.get?_update_other _ _ (Ne.symm hba)).trans hb, rfl, rfl⟩⟩
theorem any {t : Sem α} (k : KD t) {M : Model} {A : Around} {Q : α → Shared → Prop} {E : Value → Shared → Prop} {s : Shared} (h : wpAny M A t Q E s) : wpAny M A t (fun a s' => Q a s' ∧ DK s.heap s'.heap) E s :=
  fun G p hG => k.out M G _ _ p s (h G p hG)
end KD
theorem kd_import (env : Env) (outer : List Env) : KD (behindIsImport env outer) := by
  unfold behindIsImport
  (repeat' with_reducible first | assumption | exact KD.ret _ | exact KD.uns _ | exact KD.fld _ _ | exact KD.setFld _ _ _ | exact KD.ld _ | exact KD.stk | exact KD.new _ | apply KD.cond | apply KD.andThen | intro _ | split)
theorem kd_caller : KD underTheClaimsCaller := by
  unfold underTheClaimsCaller
  (repeat' with_reducible first | assumption | exact KD.ret _ | exact KD.uns _ | exact KD.fld _ _ | exact KD.setFld _ _ _ | exact KD.ld _ | exact KD.stk | exact KD.new _ | apply KD.cond | apply KD.andThen | intro _ | split)
theorem kd_back (env : Env) (i : Bool) (l : List Env) : KD (keptBack env i l) := by
  have := kd_caller
  cases l <;> unfold keptBack <;> (repeat' with_reducible first | assumption | exact KD.ret _ | exact KD.uns _ | exact KD.fld _ _ | exact KD.setFld _ _ _ | exact KD.ld _ | exact KD.stk | exact KD.new _ | apply KD.cond | apply KD.andThen | intro _ | split)
theorem kd_ready : ∀ l : List Env, KD (readyFrames l)
  | [] => KD.ret _
  | env :: outer => by
    have ih := kd_ready outer
    have h1 := kd_import env outer
    have h2 := fun i => kd_back env i outer
    unfold readyFrames
    (repeat' with_reducible first | assumption | exact KD.ret _ | exact KD.uns _ | exact KD.fld _ _ | exact KD.setFld _ _ _ | exact KD.ld _ | exact KD.stk | exact KD.new _ | apply KD.cond | apply KD.andThen | intro _ | split)
    all_goals first | exact h2 _ | exact KD.upd _ _ (fun o => ⟨by obtain ⟨c, d, dt, sl⟩ := o; cases dt <;> rfl, rfl, rfl⟩) | skip
theorem kd_frameObject (l : List Env) : KD (frameObject l) := by
  cases l with
  | nil => exact KD.ret _
  | cons env outer =>
    have := kd_ready (env :: outer)
    unfold frameObject
    (repeat' with_reducible first | assumption | exact KD.ret _ | exact KD.uns _ | exact KD.fld _ _ | exact KD.setFld _ _ _ | exact KD.ld _ | exact KD.stk | exact KD.new _ | apply KD.cond | apply KD.andThen | intro _ | split)
theorem kd_frameOf (env : Env) : KD (PySem.frameOf env) := by
  have h1 : KD frameEnvs := by unfold frameEnvs; (repeat' with_reducible first | assumption | exact KD.ret _ | exact KD.uns _ | exact KD.fld _ _ | exact KD.setFld _ _ _ | exact KD.ld _ | exact KD.stk | exact KD.new _ | apply KD.cond | apply KD.andThen | intro _ | split)
  have h2 := kd_frameObject
  unfold PySem.frameOf
  (repeat' with_reducible first | assumption | exact KD.ret _ | exact KD.uns _ | exact KD.fld _ _ | exact KD.setFld _ _ _ | exact KD.ld _ | exact KD.stk | exact KD.new _ | apply KD.cond | apply KD.andThen | intro _ | split)
  all_goals first | exact h2 _ | skip
theorem kd_place (f : Addr) (b : Bool) : KD (entryPlaceOf f b) := by
  unfold entryPlaceOf
  (repeat' with_reducible first | assumption | exact KD.ret _ | exact KD.uns _ | exact KD.fld _ _ | exact KD.setFld _ _ _ | exact KD.ld _ | exact KD.stk | exact KD.new _ | apply KD.cond | apply KD.andThen | intro _ | split)
theorem kd_newObj (T : String) (vs : Array Value) : KD (newObj (.type T) (.fields vs)) := by
  unfold newObj newObjAsIs
  dsimp only
  (repeat' with_reducible first | assumption | exact KD.ret _ | exact KD.uns _ | exact KD.fld _ _ | exact KD.setFld _ _ _ | exact KD.ld _ | exact KD.stk | exact KD.new _ | apply KD.cond | apply KD.andThen | intro _ | split)
theorem kd_note (e : Value) (env : Env) : KD (noteFrame e env) := by
  have h1 := kd_frameOf env
  have h2 := kd_place
  unfold noteFrame EntryCells.newEntry newFields
  (repeat' with_reducible first | assumption | exact KD.ret _ | exact KD.uns _ | exact KD.fld _ _ | exact KD.setFld _ _ _ | exact KD.ld _ | exact KD.stk | exact KD.new _ | apply KD.cond | apply KD.andThen | intro _ | split)
  all_goals first | exact h2 _ _ | exact kd_newObj _ _ | skip
theorem kd_flight (e : Value) (f : Option Addr) : KD (setFlight e f) := by
  unfold setFlight
  (repeat' with_reducible first | assumption | exact KD.ret _ | exact KD.uns _ | exact KD.fld _ _ | exact KD.setFld _ _ _ | exact KD.ld _ | exact KD.stk | exact KD.new _ | apply KD.cond | apply KD.andThen | intro _ | split)
theorem kd_leaving (env : Env) (e : Value) : KD (leaving env e) := by
  have h1 := kd_note e env
  have h2 := kd_flight e none
  unfold leaving
  (repeat' with_reducible first | assumption | exact KD.ret _ | exact KD.uns _ | exact KD.fld _ _ | exact KD.setFld _ _ _ | exact KD.ld _ | exact KD.stk | exact KD.new _ | apply KD.cond | apply KD.andThen | intro _ | split)
end L2

namespace L2
open PySem PySem.Spec PyProof.Rows
def Fly (l : List Env) (H : Hp) (h : Heap) (a : Addr) (cls : Value) (dx : Option Addr) (H' : Hp) (h' : Heap) : Prop :=
  ∃ (B : Heap) (a0 : Value), Heap.FlyingW B l a cls a0 h' ∧ (∀ b o, h.get? b = some o → H b = none → b ∉ frs l → B.get? b = some o) ∧ (∀ b u o, H' b = some u → h'.get? b = some o → B.get? b = some o) ∧ ∃ oe, h'.get? a = some oe ∧ oe.dict = dx
def CXF (P : Program) (w : World) : CXT := fun outer H s E e s' =>
  ∃ (a : Addr) (cls : Value) (dx : Option Addr) (H' : Hp), e = .ref a ∧ s'.os = s.os ∧ AllBare s'.gens ∧ Un (frs outer) [] H H' s.heap s'.heap ∧ HOk P w H' s'.heap ∧ H' a = none ∧ s.heap.get? a = none ∧ Fly outer H s.heap a cls dx H' s'.heap ∧ E cls dx H'
theorem ObjOk.has {P : Program} {w : World} {H : Hp} {h : Heap} {a : Addr} {o : HO} (x : ObjOk P w H h a o) : ∃ ob, h.get? a = some ob := by
  cases o with
  | lst xs => obtain ⟨_, _, _, _, e⟩ := x; exact ⟨_, e⟩
  | tup xs => obtain ⟨_, _, _, ob, e, _⟩ := x; exact ⟨_, e⟩
  | dK kvs => obtain ⟨_, _, _, _, o, _, _, e, _⟩ := x; exact ⟨_, e⟩
  | dT kvs => obtain ⟨_, _, _, _, o, _, _, e, _⟩ := x; exact ⟨_, e⟩
  | set S n => obtain ⟨o, _, _, _, e, _⟩ := x; exact ⟨_, e⟩
  | ins C dx fs => obtain ⟨_, _, _, e, _⟩ := x; exact ⟨_, e⟩
  | own y => obtain ⟨_, e⟩ := x; exact ⟨_, e⟩
  | xd fs => obtain ⟨_, ⟨_, _, _, e, _⟩, _⟩ := x; exact ⟨_, e⟩
  | rng lo hi => obtain ⟨_, _, _, e⟩ := x; exact ⟨_, e⟩
  | frz ob u => obtain ⟨e, _⟩ := x; exact ⟨_, e⟩
  | tbl ps => exact ⟨_, x⟩
  | met f y => exact ⟨_, x⟩
  | ext φ => obtain ⟨_, ⟨_, e⟩, _⟩ := x; exact ⟨_, e⟩
section
variable {P : Program} {w : World}
theorem HOk.based {H' : Hp} {h' h'' B : Heap} (ok : HOk P w H' h') (T : ∀ b u o, H' b = some u → h'.get? b = some o → B.get? b = some o) (st : B.StaysIn h'') : HOk P w H' h'' := fun a o e => by
  refine (ok a o e).stay (fun b u hb q => ?_) (fun _ q => q) fun _ _ q => q
  rcases hb with rfl | hb
  · exact st b u (T b _ u e q)
  · exact st b u (T b _ u hb q)
/-- one more noting: the frames l' are those of l, but perhaps for frames that were not there ahead -/
theorem Un.flown {l l' : List Env} {H H' : Hp} {h h' h'' B : Heap} {a : Addr} {cls a0 : Value} (u : Un (frs l') [] H H' h h') (F : Heap.FlyingW B l a cls a0 h') (st : B.StaysIn h'') (up : h'.UpToSlots h'') (dk : DK h' h'')
    (old : ∀ b o, h.get? b = some o → H b = none → b ∉ frs l → B.get? b = some o) (sub : ∀ b ∈ frs l', b ∈ frs l) (nw : ∀ b ∈ frs l, b ∉ frs l' → h.get? b = none) : Un (frs l') [] H H' h h'' where
  keep := fun b o e n hb _ => by
    by_cases hl : b ∈ frs l
    · rw [nw b hl hb] at e; cases e
    · exact st b o (old b o e n hl)
  slot := fun b o e n hb hx => by
    obtain ⟨sl, e1⟩ := u.slot b o e n hb hx
    obtain ⟨_, ob, ho, nf⟩ := F.2.2.1.mem (sub b hb)
    rw [e1] at ho
    cases ho
    obtain ⟨sl', e2⟩ := up b _ e1 nf
    exact ⟨sl', e2⟩
  free := u.free
  there := fun b o e hx => by
    obtain ⟨o', e1⟩ := u.there b o e hx
    obtain ⟨o2, e2, _⟩ := dk b o' e1
    exact ⟨o2, e2⟩
  tups := u.tups
  frzs := u.frzs
  tbls := u.tbls
variable {K : PySem.W.Frag} {mg : Str → Option Value} {base : Heap} {N : List Str} {qual : Str} {scope : Scope} {f : Addr} {cd : Value} {A : Around} {outer : List Env} {s : Shared} {H : Hp} {E : XK}
theorem frs_cons {env : Env} {l : List Env} {L : Addr} (h : env.frame = some L) : frs (env :: l) = L :: frs l := by
  unfold frs
  rw [List.filterMap_cons, h]
theorem passF : Passes (CXF P w) (cxOf (CXF P w) P w K mg base N qual scope f cd A outer s H E) E := by
  intro pins σ H1 s1 e s' I hc
  obtain ⟨a, cls, dx, H', rfl, os, bare, un, hok, na, ha, ⟨B, a0, F, b1, b2, oe, he, hd⟩, q⟩ := hc
  have J := I.call' (H' := H') os un hok bare (fun b z => absurd z (by simp))
  have eL : (cxOf (CXF P w) P w K mg base N qual scope f cd A outer s H E).env.frame = some s.heap.objs.size := rfl
  have hfs : frs ((cxOf (CXF P w) P w K mg base N qual scope f cd A outer s H E).stack) = s.heap.objs.size :: frs outer := frs_cons eL
  show wpAny _ _ (leaving _ (.ref a)) _ _ _
  refine wpAny_mono ((kd_leaving _ _).any (wpAny_leaves_onW (Q := fun _ s'' => Heap.FlyingW B outer a cls a0 s''.heap ∧ s'.heap.UpToSlots s''.heap ∧ s'' = { s' with heap := s''.heap }) I.ok.frames eL F fun h' F' U => ⟨F', U, rfl⟩)) (fun _ s'' z => ?_) fun _ _ z => z
  obtain ⟨⟨F', U, es⟩, dk⟩ := z
  obtain ⟨oe', he', _, hd'⟩ := dk a oe he
  have old : ∀ b o, s.heap.get? b = some o → H b = none → b ∉ frs ((cxOf (CXF P w) P w K mg base N qual scope f cd A outer s H E).stack) → B.get? b = some o := fun b o e n hb => by
    have hb' : b ∉ frs outer := fun z => hb (by rw [hfs]; exact List.mem_cons_of_mem _ z)
    exact b1 b o (I.base.keep b o e n hb' (fun z => absurd z (by simp [cxOf]))) (I.base.free b o e n (fun z => absurd z (by simp [cxOf]))) hb
  have nw : ∀ b ∈ frs ((cxOf (CXF P w) P w K mg base N qual scope f cd A outer s H E).stack), b ∉ frs outer → s.heap.get? b = none := fun b hb nb => by
    rw [hfs] at hb
    rcases List.mem_cons.mp hb with z | z
    · rw [z]; exact Heap.get?_none_of_le (Nat.le_refl _)
    · exact absurd z nb
  have sub : ∀ b ∈ frs outer, b ∈ frs ((cxOf (CXF P w) P w K mg base N qual scope f cd A outer s H E).stack) := fun b hb => by
    rw [hfs]; exact List.mem_cons_of_mem _ hb
  have na' : s.heap.get? a = none := by
    cases z : s.heap.get? a with
    | none => rfl
    | some o => obtain ⟨o', e'⟩ := I.base.there a o z (fun z => absurd z (by simp [cxOf])); rw [ha] at e'; cases e'
  refine ⟨a, cls, dx, H', rfl, by rw [es]; exact J.os, by rw [es]; exact bare, J.base.flown F F'.1 U dk old sub nw, hok.based b2 F'.1, na, na', ⟨B, a0, F', fun b o e n hb => ?_, fun b u o hu ho => ?_, oe', he', hd'.trans hd⟩, q⟩
  · by_cases hs : b ∈ frs ((cxOf (CXF P w) P w K mg base N qual scope f cd A outer s H E).stack)
    · rw [nw b hs hb] at e; cases e
    · exact old b o e n hs
  · obtain ⟨ob, hob⟩ := (hok b u hu).has
    have z := b2 b u ob hu hob
    rw [F'.1 b ob z] at ho
    cases ho
    exact z
def RaiseOk (X : Cx) (C : Addr) (E : XK) : Prop := ∀ (pins : List (Addr × Obj)) (σ : St) (H : Hp) (s : Shared) (e : Addr) (h' : Heap) (vs : List Value), Inv X pins σ H s → Heap.MadeExcOf s.heap h' e (.ref C) vs → E (.ref C) none H → X.xe (.ref e) { s with heap := h' }
theorem raiseF {C : Addr} : RaiseOk (cxOf (CXF P w) P w K mg base N qual scope f cd A outer s H E) C E := by
  intro pins σ H1 s1 e h1 vs I hx q
  have eL : (cxOf (CXF P w) P w K mg base N qual scope f cd A outer s H E).env.frame = some s.heap.objs.size := rfl
  generalize hl : frs ((cxOf (CXF P w) P w K mg base N qual scope f cd A outer s H E).stack) = fs
  have hfs : fs = s.heap.objs.size :: frs outer := by rw [← hl]; exact frs_cons eL
  have FF := PySem.W.funFrames_hide (as := fs) I.stack (fun env he a ha => by rw [← hl]; exact List.mem_filterMap.mpr ⟨env, he, ha⟩)
  have st : (PySem.W.hideAll s1.heap fs).StaysIn s1.heap := fun b o z => PySem.W.of_hideAll _ z
  obtain ⟨t, het, _, _⟩ := hx.there
  have ne : H1 e = none := by
    cases z : H1 e with
    | none => rfl
    | some u => obtain ⟨ob, hob⟩ := (I.hok e u z).has; rw [hx.new] at hob; cases hob
  show wpAny _ _ (leaving _ (.ref e)) _ _ _
  refine wpAny_mono ((kd_leaving _ _).any (wpAny_leaves_madeW (Q := fun _ s'' => (∃ t, Heap.FlyingW (PySem.W.hideAll s1.heap fs) outer e (.ref C) (.ref t) s''.heap) ∧ h1.UpToSlots s''.heap ∧ s'' = { s1 with heap := s''.heap }) (s := { s1 with heap := h1 }) I.ok.frames eL st FF hx fun h' t F' _ _ U => ⟨⟨t, F'⟩, U, rfl⟩)) (fun _ s'' z => ?_) fun _ _ z => z
  obtain ⟨⟨⟨t', F'⟩, U, es⟩, dk⟩ := z
  obtain ⟨oe', he', _, hd'⟩ := dk e _ het
  have kp : ∀ b o, s1.heap.get? b = some o → b ∉ fs → (PySem.W.hideAll s1.heap fs).get? b = some o := fun b o z nb => PySem.W.hideAll_get _ z nb
  have exN : ∀ b : Addr, b ∉ (cxOf (CXF P w) P w K mg base N qual scope f cd A outer s H E).ex := fun b z => absurd z (by simp [cxOf])
  have old : ∀ b o, s.heap.get? b = some o → H b = none → b ∉ frs outer → (PySem.W.hideAll s1.heap fs).get? b = some o := fun b o e' n hb => by
    refine kp b o (I.base.keep b o e' n hb (exN b)) fun z => ?_
    rw [hfs] at z
    rcases List.mem_cons.mp z with z | z
    · rw [z] at e'; exact absurd (Heap.lt_size e') (Nat.lt_irrefl _)
    · exact hb z
  have trk : ∀ b u o, H1 b = some u → s1.heap.get? b = some o → (PySem.W.hideAll s1.heap fs).get? b = some o := fun b u o hu ho => by
    refine kp b o ho fun z => ?_
    have := I.stkFree b (by rw [hl]; exact z)
    rw [this] at hu; cases hu
  have trk' : ∀ b u o, H1 b = some u → s''.heap.get? b = some o → (PySem.W.hideAll s1.heap fs).get? b = some o := fun b u o hu ho => by
    obtain ⟨ob, hob⟩ := (I.hok b u hu).has
    have z := trk b u ob hu hob
    rw [F'.1 b ob z] at ho
    cases ho
    exact z
  have na' : s.heap.get? e = none := by
    cases z : s.heap.get? e with
    | none => rfl
    | some o => obtain ⟨o', e'⟩ := I.base.there e o z (exN e); rw [hx.new] at e'; cases e'
  refine ⟨e, .ref C, none, H1, rfl, by rw [es]; exact I.os, by rw [es]; exact I.bare, ⟨fun b o e' n hb _ => F'.1 b o (old b o e' n hb), fun b o e' n hb hx' => ?_, fun b o e' n hx' => I.base.free b o e' n (exN b), fun b o e' hx' => ?_, I.base.tups, I.base.frzs, I.base.tbls⟩, I.hok.based trk F'.1, ne, na', ⟨_, _, F', old, trk', oe', he', hd'⟩, q⟩
  · obtain ⟨sl, e1⟩ := I.base.slot b o e' n hb (exN b)
    obtain ⟨_, ob, ho, nf⟩ := I.stack.mem (b := b) (by show b ∈ frs _; rw [hl, hfs]; exact List.mem_cons_of_mem _ hb)
    rw [e1] at ho
    cases ho
    obtain ⟨sl', e2⟩ := U b _ (hx.keeps _ _ e1) nf
    exact ⟨sl', e2⟩
  · obtain ⟨o', e1⟩ := I.base.there b o e' (exN b)
    obtain ⟨o2, e2, _⟩ := dk b o' (hx.keeps _ _ e1)
    exact ⟨o2, e2⟩
end
end L2

namespace L2
open PySem PySem.Spec PyProof.Rows
abbrev excMro : List Value := [.type "ValueError", .type "Exception", .type "BaseException", .type "object"]
/-- an own class of exceptions: its object, and the classes above it -/
def ExcCls (h : Heap) (C : Addr) (bm : List Value) (N : Addr) (mN : Str → Option Value) : Prop :=
  ∃ nm qn bs hdct sn sub ab col dd k0 k1 k2 k3 k5, h.get? C = some (excClassObj nm qn C N bs bm hdct sn sub ab col dd k0 k1 k2 k3 k5 "ValueError.__new__") ∧ h.Ns N mN ∧ OwnTail h excMro bm
/-- .. read off the written part; ini: what its own namespace has for __init__ -/
def ecIn (K : PySem.W.Frag) (C : Addr) (bm : List Value) : Bool := match K.lookup C with
  | some ⟨.type "type", _, .cls cd, sl⟩ => (match cd.mro, sl.toList with
    | .ref C' :: tl, [_, _, _, _, some (.builtin n), _] => C' == C && tl == bm && n == "ValueError.__new__" && !cd.hasDel && PySem.W.tailIn K excMro bm && PySem.W.nsOkIn K cd.ns
    | _, _ => false)
  | _ => false
theorem ExcCls.of {K : PySem.W.Frag} {h : Heap} {C : Addr} {bm : List Value} (X : K.In h) (q : ecIn K C bm = true) : ∃ N mN, ExcCls h C bm N mN ∧ (PySem.W.clsIn K C).map (·.ns) = some N := by
  unfold ecIn at q
  split at q
  case h_2 => cases q
  case h_1 d cd sl lk =>
    split at q
    case h_2 => cases q
    case h_1 C2 tl a b c d2 n e2 hm hs =>
      simp only [Bool.and_eq_true, beq_iff_eq, Bool.not_eq_true'] at q
      obtain ⟨⟨⟨⟨⟨c1, c2⟩, c3⟩, c4⟩, c5⟩, c6⟩ := q
      subst c1 c2 c3
      obtain ⟨l⟩ := sl
      dsimp only at hs
      subst hs
      obtain ⟨nm, bs, mro, ns, qn, hd, sn, sub, ab, col, del⟩ := cd
      dsimp only at hm c4 c6
      subst hm c4
      exact ⟨ns, _, ⟨nm, qn, bs, hd, sn, sub, ab, col, d, a, b, c, d2, e2, X _ _ lk, .of_isNs (PySem.W.isNs_of_in X c6), PySem.W.tail_of_in X c5⟩, by unfold PySem.W.clsIn; rw [lk]; rfl⟩
theorem ExcCls.keeps {h h' : Heap} {C : Addr} {bm : List Value} {N : Addr} {mN : Str → Option Value} (x : ExcCls h C bm N mN) (k : ∀ b o, h.get? b = some o → h'.get? b = some o) : ExcCls h' C bm N mN := by
  obtain ⟨nm, qn, bs, hd, sn, sub, ab, col, dd, k0, k1, k2, k3, k5, e, n, t⟩ := x
  exact ⟨nm, qn, bs, hd, sn, sub, ab, col, dd, k0, k1, k2, k3, k5, k _ _ e, n.keeps k, t.keeps k⟩
/-- a plain one: no __init__ of its own -/
structure XPlain (K : PySem.W.Frag) (C : Addr) (bm : List Value) : Prop where
  ec : ecIn K C bm = true
  ni : ((PySem.W.clsIn K C).map (·.ns)).bind (fun N => PySem.W.nsIn K N "__init__") = some none
section
variable {X : Cx} {C : Addr} {bm : List Value} {E : XK}
def tRaise (C : Addr) (E : XK) (t : TA) : TS := fun _ σ H => t σ H fun vs H1 => vs.length ≤ sizeLine ∧ E (.ref C) none H1
theorem ps_raise {x : Str} {np cpos pos : Pos} {e : Expr} {es : List Expr} {t : TA} (R : RaiseOk X C E) (c : XPlain X.K C bm) (hg : Gl X x) (hm : X.mg x = some (.ref C)) (ha : PA X (e :: es) t) (hc : X.calm = true := by rfl)
    (hdb : (x == ("__debug__" : Str)) = false := by decide) (he : starEach (e :: es) X.env = (false, eval e X.env) :: starEach es X.env := by rfl) (hpl : (backTo cpos (starEach (e :: es) X.env)).any (·.1) = false := by rfl) :
    PS X (.Raise (some (.Call (.Name x np) (e :: es) [] cpos)) none pos) (tRaise C E t) := by
  intro pins s σ H D I h
  obtain ⟨N, mN, xc, hN⟩ := ExcCls.of I.ok.mod.kin c.ec
  have nin : mN "__init__" = none := by
    have z := c.ni
    rw [hN] at z
    obtain ⟨_, _, _, _, _, _, _, _, _, _, _, _, _, _, _, n, _⟩ := xc
    exact PySem.W.ns_none_of I.ok.mod.kin n z
  obtain ⟨nm, qn, bs, hd, sn, sub, ab, col, dd, k0, k1, k2, k3, k5, e0, n0, t0⟩ := xc
  refine wpAny_Raise_call_subT (C := C) (N := N) (mN := mN) (nm := nm) (q := qn) (bs := bs) (bm := bm) (hdct := hd) (sn := sn) (sub := sub) (ab := ab) (col := col) (dd := dd) (k0 := k0) (k1 := k1) (k2 := k2) (k3 := k3) (k5 := k5) PySem.F.excBase_ValueError (t0.hasType PySem.F.excBase_ValueError.hasBase) (I.ok.hd hc) hpl nin (ld_glob I hg hm ⟨rfl, ?_⟩ hdb)
  have z := ha cpos pins s σ H _ I h
  rw [he] at z ⊢
  refine Calls.evalArgs_plain (thn z fun us s1 ⟨vs, H1, I1, r, hl, q⟩ => ⟨rfl, by rw [← r.length]; exact hl, I1.bk _ _ e0, n0.keeps I1.bk, t0.keeps I1.bk, fun h' a hx => R pins σ H1 s1 a h' _ I1 hx q⟩)
end
def PX (X : Cx) (ex : Expr) (tx : St → Hp → VK → XK → Prop) : Prop :=
  ∀ (pins : List (Addr × Obj)) (s : Shared) (σ : St) (H : Hp) (Q : VK) (E : XK), Inv X pins σ H s → tx σ H Q E → wpAny (model X.prog X.w) X.A (eval ex X.env) (EP X pins σ Q) (fun e s' => ∃ H1 s1, Inv X pins σ H1 s1 ∧ CXF X.prog X.w X.stack H1 s1 E e s') s
def PB (X : Cx) (body : List Stmt) (tb : Ends → XK → St → Hp → Prop) : Prop :=
  ∀ (pins : List (Addr × Obj)) (s : Shared) (σ : St) (H : Hp) (D : Ends) (E : XK), Inv X pins σ H s → tb D E σ H → wpAny (model X.prog X.w) X.A (execs body X.env) (SP X pins D) (fun e s' => ∃ H1 s1, Inv X pins σ H1 s1 ∧ CXF X.prog X.w X.stack H1 s1 E e s') s
section
variable {X : Cx} {k : Nat} {f : Addr} {fd : FuncData} {ps : List Str} {sp : Sp} {x : Str} {p pos : Pos} {e : Expr} {es : List Expr} {t : TA}
theorem px_call (F : FnOk X.prog X.w X.K X.mg X.base (CXF X.prog X.w) k f fd ps sp) (hr : Room k X.A) (hg : Gl X x) (hm : X.mg x = some (.ref f)) (hk : PySem.W.keepIn X.K (.ref f) = true) (hb : Binds X.K fd ps [])
    (ha : PA X.nox (e :: es) t) (hdb : (x == ("__debug__" : Str)) = false := by decide) (he : starEach (e :: es) X.env = (false, eval e X.env) :: starEach es X.env := by rfl) (hpl : (backTo pos (starEach es X.env)).any (·.1) = false := by rfl) :
    PX X (.Call (.Name x p) (e :: es) [] pos) (fun σ H Q E => t σ H fun vs H1 => sp vs H1 Q E) := by
  intro pins s σ H Q E I h
  refine wpAny_Call_Name_kw (ld_glob I hg hm ?_ hdb)
  refine PySem.W.callWith_K (h₀ := X.base) I.ok.mod.kin hk (wpAny_mono (ha pos pins s σ H _ (I.wish _) h) (fun us s1 ⟨vs, H1, I1', r, q⟩ => ?_) fun _ _ z => False.elim z) he hpl
  have I1 := I1'.unwish
  refine ⟨I1.kIn, ?_⟩
  have hl : us.length = ps.length := by rw [← r.length]; exact F.len _ _ _ _ q
  have bnd := hb s1 us I1.kIn (by rw [List.append_nil]; exact hl)
  rw [List.append_nil] at bnd
  refine wpAny_call (codeAny_mono (F.run X.A X.stack s1 H1 ⟨us, []⟩ us vs Q E hr I1.env0 bnd r q) fun r s' hq => ?_)
  cases r with
  | error e => exact ⟨H1, s1, I1, hq⟩
  | ok fl =>
    cases fl with
    | ret u => exact I1.after hq
    | next => exact False.elim hq
    | brk => exact False.elim hq
    | cont => exact False.elim hq
theorem pb_set {i : Nat} {y : Str} {ex : Expr} {pos' : Pos} {tx : St → Hp → VK → XK → Prop} (hN : X.N.Nodup) (hi : X.N[i]? = some y) (hy : Loc X.env.scope y) (hx : PX X ex tx) (hs : swapsWith ex (some (.Name y pos')) pos.line X.env = pure false := by rfl)
    (hf : X.fn y = true ∨ X.env.scope.names.lookup y = some .local := by first | exact .inl rfl | exact .inr rfl | assumption) : PB X [.Assign [.Name y pos'] ex pos] (fun D E σ H => tx σ H (fun v H1 => D.nx (σ.set i (some v)) H1) E) := by
  intro pins s σ H D E I h
  refine wpAny_execs_cons (thn (wpAny_Assign_Name (Q := fun fl s1 => fl = .next ∧ SP X pins D .next s1) (thn (hx pins s σ H _ E I h) fun v s1 ⟨y, H1, I1, r1, q1⟩ => store_ok I1 hN hi hy r1 (fun s2 I2 => ⟨rfl, _, H1, I2, q1⟩) hf) hs) fun fl s1 q => ?_)
  obtain ⟨rfl, q⟩ := q
  exact wpAny_execs_nil q
end
end L2

namespace L2
open PySem PySem.Spec PyProof.Rows
abbrev Cx.hold (X : Cx) (e : Addr) (o : Obj) : Cx := { X with A := X.A.mark (some (.ref e)), calm := false, pn := X.pn ++ [(e, o)], xe := fun _ _ => False }
section
variable {X : Cx} {pins : List (Addr × Obj)} {σ : St} {H : Hp} {s : Shared} {a : Addr} {o : Obj}
theorem Cx.Ok.hold (ok : X.Ok) (e : Addr) (o : Obj) : (X.hold e o).Ok :=
  ⟨ok.mod, ok.kind, ok.glob, ok.blt, ok.above, ok.inj, ok.has, ok.cab, (fun z => Bool.noConfusion z), ok.frames, ok.stk, ok.exf, ok.bs, ok.bsz, ok.noex, ok.exfs, ok.funs, ok.frf⟩
theorem Inv.hold (I : Inv X pins σ H s) (h1 : s.heap.get? a = some o) (h2 : H a = none) (h3 : a ≠ X.env.locals) (h4 : a ∉ X.fs) (h5 : ∀ v, o.data ≠ .cell v) : Inv (X.hold a o) pins σ H s := by
  refine ⟨I.ok.hold a o, I.os, I.bare, I.base, I.loc, I.cell, I.free, I.freeC, fun p hp => ?_, I.hok, I.len⟩
  have hp : p ∈ (X.pn ++ [(a, o)]) ++ pins := hp
  rcases List.mem_append.mp hp with hp | hp
  · rcases List.mem_append.mp hp with hp | hp
    · exact I.pin p (List.mem_append_left _ hp)
    · cases List.mem_singleton.mp hp
      exact ⟨h1, h2, h3, h4, h5⟩
  · exact I.pin p (List.mem_append_right _ hp)
theorem Inv.unhold (ok : X.Ok) (I : Inv (X.hold a o) pins σ H s) : Inv X pins σ H s := by
  refine ⟨ok, I.os, I.bare, I.base, I.loc, I.cell, I.free, I.freeC, fun p hp => I.pin p ?_, I.hok, I.len⟩
  show p ∈ (X.pn ++ [(a, o)]) ++ pins
  rcases List.mem_append.mp hp with hp | hp
  · exact List.mem_append_left _ (List.mem_append_left _ hp)
  · exact List.mem_append_right _ hp
end
theorem exc_matches {M : Model} {A : Around} {E : Value → Shared → Prop} {s : Shared} {e C D : Addr} {oe : Obj} {bm bd : List Value} {N N' : Addr} {mN mN' : Str → Option Value} {Q : Bool → Shared → Prop} (hC : ExcCls s.heap C bm N mN) (hD : ExcCls s.heap D bd N' mN')
    (he : s.heap.get? e = some oe) (hcls : oe.cls = .ref C) (q : Q ((Value.ref C :: bm).contains (.ref D)) s) : wpAny M A (excMatches (.ref e) (.ref D)) Q E s := by
  obtain ⟨nm, qn, bs, hd, sn, sub, ab, col, dd, k0, k1, k2, k3, k5, e0, n0, t0⟩ := hC
  obtain ⟨nm', qn', bs', hd', sn', sub', ab', col', dd', k0', k1', k2', k3', k5', e0', n0', t0'⟩ := hD
  have hb : (Value.ref D :: bd).contains (.type "BaseException") = true := by rw [List.contains_cons, t0'.hasType PySem.F.excBase_ValueError.hasBase, Bool.or_true]
  have f := tc_notTuple
  obtain ⟨hp, g, d, t, os⟩ := s
  generalize hr : (Value.ref C :: bm).contains (.ref D) = r at q
  unfold excMatches
  repeat (first | (with_reducible refine wpAny_loadPart_at he ?_; rw [hcls]) | with_reducible refine wpAny_loadPart_at e0' ?_ | (with_reducible refine wpAny_isSubtype_exc e0' ?_; rw [hb]) | (with_reducible refine wpAny_isSubtype_exc e0 ?_; rw [hr]) | wp_step)
  cases r <;> (wp_walk; exact q)
end L2

namespace L2
open PySem PySem.Spec PyProof.Rows
/-- an exception's object, of the class at C, with its own dict at dx -/
structure XObj (o : Obj) (C : Addr) (dx : Option Addr) : Prop where
  cls : o.cls = .ref C
  dict : o.dict = dx
  no : PySem.W.notCls o = true
/-- C is caught by a clause that names D -/
structure Caught (K : PySem.W.Frag) (C D : Addr) : Prop where
  w : ∃ bm bd, ecIn K C bm = true ∧ ecIn K D bd = true ∧ (Value.ref C :: bm).contains (.ref D) = true
def tTry0 (K : PySem.W.Frag) (Dc : Addr) (tb : Ends → XK → St → Hp → Prop) (th : Addr → Obj → TS) : TS := fun D σ H =>
  tb D (fun cls dx H' => ∃ C, cls = .ref C ∧ Caught K C Dc ∧ ∀ e o, H' e = none → XObj o C dx → th e o D σ H') σ H
section
variable {X : Cx} {body suite : List Stmt} {b₀ : Stmt} {np hp pos : Pos} {cn n : Str} {i : Nat} {Dc : Addr} {tb : Ends → XK → St → Hp → Prop} {th : Addr → Obj → TS}
/-- up to the clause's suite -/
theorem to_suite {pins : List (Addr × Obj)} {σ : St} {a : Addr} {s' : Shared} {name : Option Str} {Q : Flow → Shared → Prop} {W : Value → Option Addr → Hp → Prop} (hst : X.stack = X.env :: X.outer) (hfr : X.env.frame = some X.env.locals)
    (hg : Gl X cn) (hm : X.mg cn = some (.ref Dc)) (hdb : (cn == ("__debug__" : Str)) = false)
    (z : ∃ H1 s1, Inv X.nox pins σ H1 s1 ∧ CXF X.prog X.w X.nox.stack H1 s1 (fun cls dx H' => ∃ C, cls = .ref C ∧ Caught X.K C Dc ∧ W cls dx H') (.ref a) s')
    (k : ∀ (h5 : Heap) (H' : Hp) (C : Addr) (oe : Obj), Inv (X.nox.hold a oe) pins σ H' { s' with heap := h5 } → H' a = none → oe.cls = .ref C → W (.ref C) oe.dict H' →
      (∀ Q' : Unit → Shared → Prop, (∀ h6 oe6, Inv (X.nox.hold a oe6) pins σ H' { s' with heap := h6 } → XObj oe6 C oe.dict → Q' () { s' with heap := h6 }) → ∀ (A' : Around) (E' : Value → Shared → Prop), wpAny (model X.prog X.w) A' (setFlight (.ref a) none) Q' E' { s' with heap := h5 }) →
      codeAny (model X.prog X.w) (X.A.mark (some (.ref a))) (.handlers (.ref a) [.ExceptHandler none name (b₀ :: suite) hp] X.env) (fun r s₂ => match r with
          | .ok f => (match name with
            | none => Q f s₂
            | some n => wpAny (model X.prog X.w) X.A (do bindName X.env n .none; unbindBehindTheSuite X.env n hp) (fun _ s₃ => Q f s₃) (fun _ _ => False) s₂)
          | .error x => cameBackBy (model X.prog X.w) X.A X.env (fun _ _ => False) x s₂) { s' with heap := h5 }) :
    wpAny (model X.prog X.w) X.A (noteFrame (.ref a) X.env) (fun _ s₂ => wpAny (model X.prog X.w) X.A (setFlight (.ref a) none) (fun _ s₃ =>
      wpAny (model X.prog X.w) X.A (handleBy (.ref a) X.env [.ExceptHandler (some (.Name cn np)) name (b₀ :: suite) hp]) Q (fun _ _ => False) s₃) (fun _ _ => False) s₂) (fun _ _ => False) s' := by
  obtain ⟨H1, s1, I1, a', cls, dx, H', ea, os, bare, un, hok, na, ha, ⟨B, a0, F, b1, b2, oe, he, hd⟩, C, rfl, ⟨bm, bd, cc, cd, cm⟩, q⟩ := z
  cases ea
  have F : Heap.FlyingW B (X.env :: X.outer) a (.ref C) a0 s'.heap := hst ▸ F
  have fr : X.A.frames = some (X.env :: X.outer) := hst ▸ I1.ok.frames
  have un : Un (frs (X.env :: X.outer)) [] H1 H' s1.heap s'.heap := hst ▸ un
  have b1 : ∀ b o, s1.heap.get? b = some o → H1 b = none → b ∉ frs (X.env :: X.outer) → B.get? b = some o := hst ▸ b1
  have aL : a ≠ X.env.locals := fun z => by
    obtain ⟨_, ⟨o, _, _, ho, _⟩, _⟩ := I1.loc
    rw [z] at ha
    rw [show s1.heap.get? X.env.locals = some o from ho] at ha
    cases ha
  have aF : a ∉ X.fs := fun z => by
    obtain ⟨_, o, ho, _⟩ := I1.funs.mem z
    rw [ha] at ho; cases ho
  have land : ∀ h5, Heap.FlyingW B (X.env :: X.outer) a (.ref C) a0 h5 → s'.heap.UpToSlots h5 → DK s'.heap h5 → ∃ oe5, Inv (X.nox.hold a oe5) pins σ H' { s' with heap := h5 } ∧ XObj oe5 C dx := fun h5 F5 U5 K5 => by
    obtain ⟨oe5, he5, c5, d5⟩ := K5 a oe he
    obtain ⟨o', vs, ho', hc', hd', _⟩ := F5.first
    rw [he5] at ho'
    cases ho'
    have u5 := un.flown F F5.1 U5 K5 b1 (fun b hb => hb) (fun b h1 h2 => absurd h1 h2)
    have J := I1.call' (s' := { s' with heap := h5 }) (ch := []) os (by show Un (frs X.stack) _ _ _ _ _; rw [hst]; exact u5) (hok.based b2 F5.1) bare (fun b z => absurd z (by simp))
    exact ⟨oe5, J.hold he5 na aL aF (fun v z => by rw [hd'] at z; cases z), hc', d5.trans hd, by unfold PySem.W.notCls; rw [hd']⟩
  refine wpAny_mono ((kd_note _ _).any (wpAny_looks_onW (Q := fun _ s2 => ∃ h4, s2 = { s' with heap := h4 } ∧ Heap.HeldW B (X.env :: X.outer) a (.ref C) a0 X.env.locals h4 ∧ s'.heap.UpToSlots h4) fr hfr F fun h4 x U => ⟨h4, rfl, x, U⟩)) (fun _ s2 z2 => ?_) fun _ _ z => z
  obtain ⟨⟨h4, rfl, held, U4⟩, dk4⟩ := z2
  refine wpAny_mono ((kd_flight _ _).any (wpAny_landsW (Q := fun _ s3 => ∃ h5, s3 = { s' with heap := h5 } ∧ Heap.FlyingW B (X.env :: X.outer) a (.ref C) a0 h5 ∧ h4.UpToSlots h5) held fun h5 x U => ⟨h5, rfl, x, U⟩)) (fun _ s3 z3 => ?_) fun _ _ z => z
  obtain ⟨⟨h5, rfl, F5, U5⟩, dk5⟩ := z3
  have dk : DK s'.heap h5 := dk4.trans dk5
  obtain ⟨oe5, J5, c5, d5, n5⟩ := land h5 F5 (U4.trans U5) dk
  obtain ⟨N, mN, xc, _⟩ := ExcCls.of I1.ok.mod.kin cc
  obtain ⟨N', mN', xd, _⟩ := ExcCls.of I1.ok.mod.kin cd
  have at5 := (J5.pin (a, oe5) (List.mem_append_left _ (List.mem_append_right _ (List.mem_singleton.mpr rfl)))).1
  refine wpAny_handleBy_cons (codeAny_handlers_test (ld_glob J5 hg hm ?_ hdb)) (by intro q; cases q)
  refine exc_matches (xc.keeps J5.bk) (xd.keeps J5.bk) at5 c5 ?_
  rw [cm]
  refine k h5 H' C oe5 J5 na c5 (by rw [d5]; exact q) fun Q' hQ A' E' => ?_
  refine wpAny_mono ((kd_flight _ _).any (lands_againW (Q := fun _ s3 => ∃ h6, s3 = { s' with heap := h6 } ∧ Heap.FlyingW B (X.env :: X.outer) a (.ref C) a0 h6 ∧ h5.UpToSlots h6) F5 fun h6 x U => ⟨h6, rfl, x, U⟩)) (fun _ s3 z3 => ?_) fun _ _ z => z
  obtain ⟨⟨h6, rfl, F6, U6⟩, dk6⟩ := z3
  obtain ⟨oe6, J6, c6, d6, n6⟩ := land h6 F6 ((U4.trans U5).trans U6) (dk.trans dk6)
  exact hQ h6 oe6 J6 ⟨c6, d6.trans d5.symm, n6⟩
theorem ps_try0 (hg : Gl X cn) (hm : X.mg cn = some (.ref Dc)) (hb : PB X.nox body tb) (hh : ∀ e o, PSs (X.nox.hold e o) (b₀ :: suite) (th e o))
    (hst : X.stack = X.env :: X.outer := by rfl) (hfr : X.env.frame = some X.env.locals := by rfl) (hdb : (cn == ("__debug__" : Str)) = false := by decide) :
    PS X.nox (.Try body [.ExceptHandler (some (.Name cn np)) none (b₀ :: suite) hp] [] [] pos) (tTry0 X.K Dc tb th) := by
  intro pins s σ H D I h
  refine wpAny_Try_except (wpAny_mono (hb pins s σ H D _ I h) (fun fl s1 q => ?_) fun e s' z => ?_)
  · cases fl with
    | next => exact wpAny_execs_nil q
    | brk => exact q
    | cont => exact q
    | ret u => exact q
  · obtain ⟨a, rfl⟩ : ∃ a, e = .ref a := by obtain ⟨_, _, _, a, _, _, _, ea, _⟩ := z; exact ⟨a, ea⟩
    refine to_suite (X := X) (pins := pins) (σ := σ) (name := none) (W := fun cls dx H' => ∃ C, cls = .ref C ∧ ∀ e o, H' e = none → XObj o C dx → th e o D σ H') hst hfr hg hm hdb ?_ fun h5 H' C oe J5 na c5 q land => ?_
    · obtain ⟨H1, s1, I1, a', cls, dx, H', r1, r2, r3, r4, r5, r6, r7, r8, C, rfl, ct, q⟩ := z
      exact ⟨H1, s1, I1, a', _, dx, H', r1, r2, r3, r4, r5, r6, r7, r8, C, rfl, ct, C, rfl, q⟩
    · obtain ⟨C', e', q⟩ := q
      cases e'
      refine codeAny_handlers_suite (land _ (fun h6 oe6 J6 x6 => ?_) _ _)
      refine wpAny_mono (hh a oe6 pins _ _ H' D J6 (q a oe6 na x6)) (fun fl s8 z => ?_) (fun _ _ z => False.elim z)
      cases fl with
      | next => obtain ⟨σ', H2, J8, q8⟩ := z; exact ⟨σ', H2, Inv.unhold I.ok J8, q8⟩
      | brk => obtain ⟨σ', H2, J8, q8⟩ := z; exact ⟨σ', H2, Inv.unhold I.ok J8, q8⟩
      | cont => obtain ⟨σ', H2, J8, q8⟩ := z; exact ⟨σ', H2, Inv.unhold I.ok J8, q8⟩
      | ret u => obtain ⟨v, σ', H2, J8, r8, q8⟩ := z; exact ⟨v, σ', H2, Inv.unhold I.ok J8, r8, q8⟩
end
end L2

namespace L2
open PySem PySem.Spec PyProof.Rows PySem.W
section
variable {prog : Program} {w : World} {A : Around} {E : Value → Shared → Prop} {s : Shared} {K : PySem.W.Frag} {x C : Addr} {ox : Obj} {od : Option Obj} {name : Str} {tk : Tok}
end
section
variable {X : Cx} {pins : List (Addr × Obj)} {σ : St} {H : Hp} {s : Shared} {e C : Addr} {o : Obj} {dx : Option Addr}
end
theorem ec_lookup {K : PySem.W.Frag} {C : Addr} {bm : List Value} (q : ecIn K C bm = true) : ∃ d cd sl, K.lookup C = some ⟨.type "type", d, .cls cd, sl⟩ ∧ cd.mro = .ref C :: bm := by
  unfold ecIn at q
  split at q
  case h_2 => cases q
  case h_1 d cd sl lk =>
    split at q
    case h_2 => cases q
    case h_1 C2 tl a b c d2 n e2 hm hs =>
      simp only [Bool.and_eq_true, beq_iff_eq, Bool.not_eq_true'] at q
      obtain ⟨⟨⟨⟨⟨c1, c2⟩, _⟩, _⟩, _⟩, _⟩ := q
      subst c1 c2
      exact ⟨d, cd, sl, lk, hm⟩
theorem ec_mro {K : PySem.W.Frag} {C : Addr} {bm : List Value} (q : ecIn K C bm = true) (v : Value) : mroIn K C v = some ((Value.ref C :: bm).contains v) := by
  obtain ⟨d, cd, sl, lk, hm⟩ := ec_lookup q
  unfold mroIn clsIn
  rw [lk]
  show (if cd.mro.isEmpty then none else some (cd.mro.contains v)) = _
  rw [hm]
  rfl
end L2

namespace L2
open PySem PySem.Spec PyProof.Rows
section
variable {P : Program} {w : World} {K : PySem.W.Frag} {mg : Str → Option Value} {base : Heap}
/-- a def out of which an exception may fly -/
theorem Fun.okF {x qual : Str} {st : Stmt} {f : Addr} {fd : FuncData} {N ps : List Str} {k : Nat} {sp : Sp} (F : Fun K x qual st f fd) (S : FnScope N ps (defScope st)) (len : ∀ vs H Q E, sp vs H Q E → vs.length = ps.length)
    (hb : ∀ (cdv : Value) (A : Around) (outer : List Env) (s : Shared) (H : Hp) (vs : List V) (Q : VK) (E : XK), Room k (A.deeper (envOfC qual (defScope st) s.heap.objs.size f cdv)) → sp vs H Q E →
      ∃ t, PSs (cxOf (CXF P w) P w K mg base N qual (defScope st) f cdv A outer s H E) (defBody st) t ∧ t { nx := fun _ H' => Q .non H', rt := Q } (start N vs) H) : FnOk P w K mg base (CXF P w) (k + 1) f fd ps sp := by
  obtain ⟨oc, od, kV, doc, pm, an, cdv, ct, osl, rfl, lk, hcd⟩ := F.ex
  exact fn_of lk hcd S len fun A outer s H vs Q E hr hsp => hb cdv A outer s H vs Q E hr hsp
end
section
open PySem.W
variable {K : PySem.W.Frag} {C D A : Addr} {bd : List Value}
theorem caught_self (q : ecIn K C (.ref A :: excMro) = true) : Caught K C C := ⟨_, _, q, q, by simp⟩
end
end L2

namespace L2
open PySem PySem.Spec PyProof.Rows
def xoAt (C t : Addr) (dx : Option Addr) (e : Addr) : Heap → Prop := fun h => h.get? e = some { cls := .ref C, dict := dx, data := .fields #[.ref t, .none, .none, .none, .bool false, .none] }
theorem xo_ok {P : Program} {w : World} {H : Hp} {h : Heap} {C t e : Addr} {dx : Option Addr} (x : xoAt C t dx e h) : ObjOk P w H h e (.ext (xoAt C t dx e)) := ⟨x, ⟨_, x⟩, fun h1 h2 y k => k _ y⟩
/-- no longer tracked -/
def drop (H : Hp) (e : Addr) : Hp := fun b => if b = e then none else H b
theorem drop_self {H : Hp} {e : Addr} : drop H e e = none := by unfold drop; rw [if_pos rfl]
theorem drop_ne {H : Hp} {e b : Addr} (h : b ≠ e) : drop H e b = H b := by unfold drop; rw [if_neg h]
theorem HOk.dropped {P : Program} {w : World} {H : Hp} {h : Heap} {e : Addr} {φ : Heap → Prop} (ok : HOk P w H h) (he : H e = some (.ext φ)) : HOk P w (drop H e) h := fun a o z => by
  have ne : a ≠ e := fun q => by rw [q, drop_self] at z; cases z
  rw [drop_ne ne] at z
  refine (ok a o z).stay (fun _ _ _ q => q) (fun b q => ?_) fun b xs q => ?_
  · rw [drop_ne (fun y => by rw [y, he] at q; cases q)]; exact q
  · rw [drop_ne (fun y => by rw [y, he] at q; cases q)]; exact q
section
variable {P : Program} {w : World} {K : PySem.W.Frag} {mg : Str → Option Value} {base : Heap} {N : List Str} {qual : Str} {scope : Scope} {f : Addr} {cd : Value} {A : Around} {outer : List Env} {s : Shared} {H : Hp} {E : XK}
def RaiseOkI (X : Cx) (C : Addr) (E : XK) : Prop := ∀ (pins : List (Addr × Obj)) (σ : St) (H : Hp) (s : Shared) (e t : Addr) (dx : Option Addr), Inv X pins σ H s → H e = some (.ext (xoAt C t dx e)) → X.s₀.heap.get? e = none → E (.ref C) dx (drop H e) → X.xe (.ref e) s
theorem raiseFI {C : Addr} : RaiseOkI (cxOf (CXF P w) P w K mg base N qual scope f cd A outer s H E) C E := by
  intro pins σ H1 s1 e t dx I hx na' q
  have eL : (cxOf (CXF P w) P w K mg base N qual scope f cd A outer s H E).env.frame = some s.heap.objs.size := rfl
  generalize hl : frs ((cxOf (CXF P w) P w K mg base N qual scope f cd A outer s H E).stack) = fs
  have hfs : fs = s.heap.objs.size :: frs outer := by rw [← hl]; exact frs_cons eL
  have he : s1.heap.get? e = some { cls := .ref C, dict := dx, data := .fields #[.ref t, .none, .none, .none, .bool false, .none] } := (show ObjOk P w H1 s1.heap e (.ext (xoAt C t dx e)) from I.hok e _ hx).1
  have FF := PySem.W.funFrames_hide (as := e :: fs) I.stack (fun env he a ha => List.mem_cons_of_mem _ (by rw [← hl]; exact List.mem_filterMap.mpr ⟨env, he, ha⟩))
  have st : (PySem.W.hideAll s1.heap (e :: fs)).StaysIn s1.heap := fun b o z => PySem.W.of_hideAll _ z
  have hen : (PySem.W.hideAll s1.heap (e :: fs)).get? e = none := PySem.W.hideAll_none _ List.mem_cons_self
  show wpAny _ _ (leaving _ (.ref e)) _ _ _
  refine wpAny_mono ((kd_leaving _ _).any (wpAny_leaving_firstW (Q := fun _ s'' => Heap.LeftW (PySem.W.hideAll s1.heap (e :: fs)) ((cxOf (CXF P w) P w K mg base N qual scope f cd A outer s H E).env :: outer) e (.ref C) (.ref t) s1.heap s''.heap ∧ s'' = { s1 with heap := s''.heap }) I.ok.frames FF eL he st hen rfl rfl rfl fun h' L' => ⟨L', rfl⟩)) (fun _ s'' z => ?_) fun _ _ z => z
  obtain ⟨⟨⟨k1, ⟨_, _, k2⟩, k3, U⟩, es⟩, dk⟩ := z
  have F' : Heap.FlyingW (PySem.W.hideAll s1.heap (e :: fs)) outer e (.ref C) (.ref t) s''.heap := ⟨k1, hen, k2, k3⟩
  obtain ⟨oe', he', _, hd'⟩ := dk e _ he
  have exN : ∀ b : Addr, b ∉ (cxOf (CXF P w) P w K mg base N qual scope f cd A outer s H E).ex := fun b z => absurd z (by simp [cxOf])
  have kp : ∀ b o, s1.heap.get? b = some o → b ≠ e → b ∉ fs → (PySem.W.hideAll s1.heap (e :: fs)).get? b = some o := fun b o z n1 n2 => PySem.W.hideAll_get _ z (fun y => (List.mem_cons.mp y).elim n1 n2)
  have old : ∀ b o, s.heap.get? b = some o → H b = none → b ∉ frs outer → (PySem.W.hideAll s1.heap (e :: fs)).get? b = some o := fun b o e' n hb => by
    refine kp b o (I.base.keep b o e' n hb (exN b)) (fun z => ?_) fun z => ?_
    · rw [z] at e'
      rw [show s.heap.get? e = none from na'] at e'
      cases e'
    · rw [hfs] at z
      rcases List.mem_cons.mp z with z | z
      · rw [z] at e'; exact absurd (Heap.lt_size e') (Nat.lt_irrefl _)
      · exact hb z
  have trk : ∀ b u o, (drop H1 e) b = some u → s1.heap.get? b = some o → (PySem.W.hideAll s1.heap (e :: fs)).get? b = some o := fun b u o hu ho => by
    have ne : b ≠ e := fun z => by rw [z, drop_self] at hu; cases hu
    refine kp b o ho ne fun z => ?_
    rw [drop_ne ne] at hu
    have := I.stkFree b (by rw [hl]; exact z)
    rw [this] at hu; cases hu
  have okd := I.hok.dropped hx
  have trk' : ∀ b u o, (drop H1 e) b = some u → s''.heap.get? b = some o → (PySem.W.hideAll s1.heap (e :: fs)).get? b = some o := fun b u o hu ho => by
    obtain ⟨ob, hob⟩ := (okd b u hu).has
    have z := trk b u ob hu hob
    rw [F'.1 b ob z] at ho
    cases ho
    exact z
  have nx : ∀ b u, H1 b = some u → (∀ φ, u ≠ .ext φ) → b ≠ e := fun b u z n y => by rw [y, hx] at z; cases z; exact n _ rfl
  refine ⟨e, .ref C, dx, drop H1 e, rfl, by rw [es]; exact I.os, by rw [es]; exact I.bare, ⟨fun b o e' n hb _ => F'.1 b o (old b o e' n hb), fun b o e' n hb hx' => ?_, fun b o e' n hx' => ?_, fun b o e' hx' => ?_, fun b xs z => ?_, fun b o u z => ?_, fun b ps z => ?_⟩, okd.based trk F'.1, drop_self, na', ⟨_, _, F', old, trk', oe', he', hd'⟩, q⟩
  · obtain ⟨sl, e1⟩ := I.base.slot b o e' n hb (exN b)
    obtain ⟨_, ob, ho, nf⟩ := I.stack.mem (b := b) (by show b ∈ frs _; rw [hl, hfs]; exact List.mem_cons_of_mem _ hb)
    rw [e1] at ho
    cases ho
    obtain ⟨sl', e2⟩ := U b _ e1 nf
    exact ⟨sl', e2⟩
  · have z := I.base.free b o e' n (exN b)
    by_cases hb : b = e
    · rw [hb]; exact drop_self
    · rw [drop_ne hb]; exact z
  · obtain ⟨o', e1⟩ := I.base.there b o e' (exN b)
    obtain ⟨o2, e2, _⟩ := dk b o' e1
    exact ⟨o2, e2⟩
  · have y := I.base.tups b xs z
    rw [drop_ne (nx b _ y fun φ q => by cases q)]; exact y
  · have y := I.base.frzs b o u z
    rw [drop_ne (nx b _ y fun φ q => by cases q)]; exact y
  · obtain ⟨m, y⟩ := I.base.tbls b ps z
    exact ⟨m, by rw [drop_ne (nx b _ y fun φ q => by cases q)]; exact y⟩
end
end L2

namespace L2
open PySem PySem.Spec PyProof.Rows PySem.W PySem.Builtin PySem.Builtin.ObjectAttr
structure XSet (K : PySem.W.Frag) (C : Addr) : Prop where
  sa : findIn K (.ref C) "__setattr__" = some (some (.builtin "object.__setattr__"))
  hd : hasDictIn K C = true
section
variable {prog : Program} {w : World} {A : Around} {E : Value → Shared → Prop} {K : PySem.W.Frag} {x C B : Addr} {name : Str} {v : Value}
theorem xs_store {h : Heap} {g : Array GenState} {d : Drawn} {t : Nat} {os : OsState} {o : Obj} {vs : Array Value} {tk : Tok} {b : Bool} {Q : Fin → Shared → Prop} (X : K.In h) (hx : h.get? x = some o) (hc : o.cls = .ref C) (hn : o.dict = none) (hv : o.data = .fields vs) (hd : hasDictIn K C = true)
    (q : ∀ h' tk', h'.get? x = some { o with dict := some h.objs.size } → h'.Ns1 h.objs.size (fun y => if y = name then some v else none) → (∀ c oc, c ≠ x → h.get? c = some oc → h'.get? c = some oc) → Q (.done (.ret .none)) ⟨h', g, d, tk', os⟩) :
    wpAny (model prog w) A (storeInOwnDict (.ref x) (.ref C) (.str name tk) name v b) Q E ⟨h, g, d, t, os⟩ := by
  obtain ⟨cd, hcd, hdd⟩ := any_some hd
  have hxs : x ≠ h.objs.size := Nat.ne_of_lt (Heap.lt_size hx)
  obtain ⟨oc, od, dt, sl⟩ := o
  dsimp only at hc hn hv
  subst hc hn hv
  refine wpAny_bind (wpAny_pure (wpAny_bind (wpAny_bind (wpAny_loadPart hx (wpAny_bind ((looks_clsIn X hcd).here ?_))))))
  rw [hdd]
  have hx1 := Heap.get?_push_of_some ({ cls := .type "dict", data := .dict #[] } : Obj) hx
  refine wpAny_bind (wpAny_alloc' (wpAny_bind (wpAny_update' hx1 ?_)))
  refine wpAny_pure ?_
  generalize eh : ((h.push { cls := .type "dict", data := .dict #[] }).update x fun o => { cls := o.cls, dict := some h.objs.size, data := o.data, slots := o.slots }) = h2
  have g2 : h2.get? h.objs.size = some { cls := .type "dict", data := .dict #[] } := by rw [← eh]; exact (Heap.get?_update_ne _ _ _ _ hxs.symm).trans (Heap.get?_push_at rfl rfl)
  have gx : h2.get? x = some { cls := .ref C, dict := some h.objs.size, data := .fields vs, slots := sl } := by rw [← eh]; exact Heap.get?_update_self _ hx1 rfl
  have go : ∀ c oc, c ≠ x → h.get? c = some oc → h2.get? c = some oc := fun c oc n z => by rw [← eh]; exact (Heap.get?_update_ne _ _ _ _ n).trans (Heap.get?_push_of_some _ z)
  have nd : h2.Ns h.objs.size (fun _ => none) := ⟨_, #[], _, g2, rfl, fun e he => absurd he (by simp), fun _ => rfl⟩
  show wpAny _ _ (storeInDict h.objs.size (.str name tk) name v) _ _ _
  unfold storeInDict newKeyGuard
  refine wpAny_bind (wpAny_pure (wpAny_bind (wpAny_nsSet1 (Heap.Ns1.of_empty nd) fun h' n' sm => ?_)))
  obtain ⟨oD, esD, epD, o1, o2, o3⟩ := n'.count (Within.cons name v Within.nil)
  refine wpAny_bind (wpAny_lookBehind o1 (by rw [o2]; exact pastItsLine_dict (Nat.le_trans o3 (by rw [List.length_cons, List.length_nil, sizeLine_eq]; omega))) ?_)
  exact wpAny_pure (q h' _ ((sm.2 x hxs).trans gx) n' fun c oc n z => (sm.2 c (Nat.ne_of_lt (Heap.lt_size z))).trans (go c oc n z))
theorem xs_set {s : Shared} {o : Obj} {vs : Array Value} {bm : List Value} {Q : Unit → Shared → Prop} (X : K.In s.heap) (hx : s.heap.get? x = some o) (hc : o.cls = .ref C) (hn : o.dict = none) (hv : o.data = .fields vs) (ec : ecIn K C (.ref B :: excMro) = true) (a : XSet K C) (na : findIn K (.ref C) name = some none)
    (q : ∀ h' tk', h'.get? x = some { o with dict := some s.heap.objs.size } → h'.Ns1 s.heap.objs.size (fun y => if y = name then some v else none) → (∀ c oc, c ≠ x → s.heap.get? c = some oc → h'.get? c = some oc) → Q () { s with heap := h', toks := tk' }) :
    wpAny (model prog w) A (setAttr (.ref x) name v) Q E s := by
  have I : InstAt s.heap x o C none := ⟨hx, hc, by unfold notCls; rw [hv], by rw [hn]; trivial⟩
  obtain ⟨h, g, d, t, os⟩ := s
  refine set_plain X I a.sa ?_
  have SF := PySem.F.store_object
  have sub : Looks (model prog w) h (isInstance (.ref x) (.type "object")) true := I.type.andThen (looks_mroIn X ((ec_mro ec _).trans (by simp)))
  refine codeAny_call_builtin SF.slot.plain SF.entry (@check_slot (model prog w) _ _ ⟨h, g, d, t + 1, os⟩ "object.__setattr__" "object" "__setattr__" (.ref x) [.str name t, v] [] _ SF.kind SF.split sub (SF.args (.ref x) (.str name t) v) ?_)
  obtain ⟨dd, cd, sl, lk, hm⟩ := ec_lookup ec
  have hcd : clsIn K C = some cd := by unfold clsIn; rw [lk]
  have L1 : Looks (model prog w) h (mroOf (.ref C)) cd.mro := (looks_clsIn X hcd).andThen .now
  have L0 := I.type (M := model prog w)
  have L2 := looks_findIn (M := model prog w) X na
  dsimp only at L0 L2
  rw [osa_eq, refuse_eq]
  refine wpAny_bind (wpAny_bind (L0.at (wpAny_bind (L1.at ?_))))
  rw [hm, refuseLoop_ref, refuseLoop_ref, PySem.F.store_ValueError.passes]
  refine wpAny_pure (wpAny_bind (L0.at (wpAny_bind (L2.at (wpAny_bind ?_)))))
  refine wpAny_pure ?_
  exact xs_store X hx hc hn hv a.hd fun h' tk' z1 z2 z3 => q h' tk' z1 z2 z3
end
end L2

namespace L2
open PySem PySem.Spec PyProof.Rows PySem.W
section
variable {X : Cx} {pins : List (Addr × Obj)} {σ : St} {H : Hp} {s : Shared} {e C B t : Addr}
/-- an exception that is made gets its dict, with one name in it -/
theorem Inv.dictLaid {h' : Heap} {tk : Nat} {f : Str} {y : V} {u : Value} {dx : Addr} (I : Inv X pins σ H s) (he : H e = some (.ext (xoAt C t none e))) (hdx : s.heap.objs.size = dx) (ry : RelV y u) (z1 : xoAt C t (some dx) e h') (z2 : h'.Ns1 dx (fun n => if n = f then some u else none))
    (z3 : ∀ c oc, c ≠ e → s.heap.get? c = some oc → h'.get? c = some oc) : Inv X pins σ (upd (upd H dx (.xd [(f, y)])) e (.ext (xoAt C t (some dx) e))) { s with heap := h', toks := tk } := by
  subst hdx
  have nd : H s.heap.objs.size = none := I.hok.fresh (Nat.le_refl _)
  have ned : e ≠ s.heap.objs.size := fun z => by rw [← z, he] at nd; cases nd
  have ne : ∀ b u, H b = some u → (∀ φ, u ≠ .ext φ) → b ≠ e := fun b u z n q => by rw [q, he] at z; cases z; exact n _ rfl
  have nz : ∀ b u, H b = some u → b ≠ s.heap.objs.size := fun b u z q => by rw [q, nd] at z; cases z
  have kp : ∀ b u, H b = some u → (∀ φ, u ≠ .ext φ) → upd (upd H s.heap.objs.size (.xd [(f, y)])) e (.ext (xoAt C t (some s.heap.objs.size) e)) b = some u := fun b u z n => by rw [upd_ne (ne b u z n), upd_ne (nz b u z)]; exact z
  have fr : ∀ b o, s.heap.get? b = some o → H b = none → b ≠ e := fun b o _ n q => by rw [q, he] at n; cases n
  refine I.un (h' := h') (t' := tk) ⟨fun b o z n _ _ => z3 b o (fr b o z n) z, fun b o z n _ _ => ⟨o.slots, z3 b o (fr b o z n) z⟩, fun b o z n _ => ?_, fun b o z _ => ?_, fun b xs z => kp b _ z fun φ q => (by cases q), fun b o u z => kp b _ z fun φ q => (by cases q), fun b ps z => ⟨#[], by rw [kp b _ z fun φ q => (by cases q)]; simp⟩⟩ fun a o z => ?_
  · rw [upd_ne (fr b o z n), upd_ne (Nat.ne_of_lt (Heap.lt_size z))]; exact n
  · by_cases hb : b = e
    · rw [hb]; exact ⟨_, z1⟩
    · exact ⟨o, z3 b o hb z⟩
  · by_cases ha : a = e
    · subst ha
      rw [upd_same] at z
      cases z
      exact xo_ok z1
    · rw [upd_ne ha] at z
      by_cases hz : a = s.heap.objs.size
      · subst hz
        rw [upd_same] at z
        cases z
        refine ⟨_, z2, fun n => ?_⟩
        by_cases hn : n = f
        · subst hn
          simp only [List.lookup, beq_self_eq_true, if_pos rfl]
          exact ry
        · have : (n == f) = false := by simpa using hn
          simp only [List.lookup, this, if_neg hn]
          trivial
      · rw [upd_ne hz] at z
        refine (I.hok a o z).stay (fun b u hb q => z3 b u ?_ q) (fun b q => kp b _ q fun φ r => (by cases r)) fun b xs q => kp b _ q fun φ r => (by cases r)
        rcases hb with rfl | hb
        · exact ha
        · exact ne b _ hb fun φ r => (by cases r)
/-- self.f = value, self an exception that is made -/
theorem ps_xset {o value : Expr} {f : Str} {ta tv : TE} {pos pos' : Pos} (ha : PE X o ta) (hv : PE X value tv) (hs : swapsWith value (some (.Attribute o f pos')) pos.line X.env = pure false := by rfl) : PS X (.Assign [.Attribute o f pos'] value pos)
    (fun D σ H => tv σ H fun y H1 => ta σ H1 fun x H2 => ∃ e C B t, x = .ref e ∧ H2 e = some (.ext (xoAt C t none e)) ∧ ecIn X.K C (.ref B :: excMro) = true ∧ XSet X.K C ∧ NoAttr X.K C f ∧ ∀ dx, H2 dx = none → D.nx σ (upd (upd H2 dx (.xd [(f, y)])) e (.ext (xoAt C t (some dx) e)))) := by
  intro pins s σ H D I h
  refine plainObj_wpAny_Assign_Attribute (thn (hv pins s σ H _ I h) fun u s1 ⟨y, H1, I1, ry, q⟩ => thn (ha pins s1 σ H1 _ I1 q) fun ov s2 ⟨x, H2, I2, rx, e, C, B, t, ex, he, ec, xs, na, q2⟩ => ?_) hs
  subst ex
  obtain rfl : ov = Value.ref e := rx
  have hx := (show ObjOk X.prog X.w H2 s2.heap e (.ext (xoAt C t none e)) from I2.hok e _ he).1
  refine xs_set (bm := []) I2.kIn hx rfl rfl rfl ec xs na fun h' tk' z1 z2 z3 => ?_
  exact ⟨σ, _, I2.dictLaid he rfl ry z1 z2 z3, q2 _ (I2.hok.fresh (Nat.le_refl _))⟩
structure XBase (K : PySem.W.Frag) (B : Addr) : Prop where
  ga : specialIn K (.ref B) "__getattribute__" = some (some (.builtin "type.__getattribute__"))
  rd : readsIn K B (.type "type") = true
  fi : findCls K (.ref B) (.type "type") "__init__" = some (.val (.builtin "ValueError.__init__"))
theorem ps_xinit {pl : Sem Bool} {cn : Str} {p ap pos epos : Pos} {e1 e2 : Expr} {ta : TA} (xb : XBase X.K B) (hg : Gl X cn) (hm : X.mg cn = some (.ref B)) (ha : PA X [e1, e2] ta) (hdb : (cn == ("__debug__" : Str)) = false := by decide)
    (hs : swapsWith (.Call (.Attribute (.Name cn p) "__init__" ap) [e1, e2] [] pos) none epos.line X.env = pure false := by rfl)
    (hst : starEach (e1 :: [e2]) X.env = (false, eval e1 X.env) :: starEach [e2] X.env := by rfl) (hpl : (backTo pos (starEach [e2] X.env)).any (·.1) = false := by rfl)
    (ht : eval (.Call (.Attribute (.Name cn p) "__init__" ap) [e1, e2] [] pos) X.env = (do
      let ov ← eval (.Name cn p) X.env
      standAt ap.atName
      let (f, first) ← holding [ov] (getMethod ov "__init__" pl)
      callWith pos f first (backTo pos (starEach [e1, e2] X.env)) (backToKw pos (keywordEach [] X.env))) := by rfl) :
    PS X (.Expr (.Call (.Attribute (.Name cn p) "__init__" ap) [e1, e2] [] pos) epos) (fun D σ H => ta σ H fun vs H1 => ∃ e C t w, vs = [.ref e, w] ∧ H1 e = some (.ext (xoAt C t none e)) ∧ ecIn X.K C (.ref B :: excMro) = true ∧ ∀ t', D.nx σ (upd H1 e (.ext (xoAt C t' none e)))) := by
  intro pins s σ H D I h
  refine wpAny_Expr_any (methodCall_KW (pl := pl) (ld_glob I hg hm ?_ hdb) ht) I.quiet hs
  refine method_cls I.kIn xb.ga (cls_value I.kIn xb.rd xb.fi rfl ?_)
  have I0 := I.tok (s.toks + 1)
  refine PyProof.Rows.callWith_builtin1 (thn (ha pos pins _ σ H _ I0 h) fun us s1 ⟨vs, H1, I1, r, e, C, t, w, ev, he, ec, q⟩ => ?_) hst hpl
  subst ev
  obtain ⟨u1, u2, rfl, r1, r2⟩ := vals2 r
  obtain rfl : u1 = Value.ref e := r1
  have hx := (show ObjOk X.prog X.w H1 s1.heap e (.ext (xoAt C t none e)) from I1.hok e _ he).1
  obtain ⟨N, mN, xc, _⟩ := ExcCls.of I1.ok.mod.kin ec
  obtain ⟨nm, qn, bs, hd, sn, sub, ab, col, dd, k0, k1, k2, k3, k5, e0, n0, t0⟩ := xc.keeps I1.bk
  obtain ⟨hp, g, d, tt, os⟩ := s1
  refine wpAny_call (codeAny_call_builtin PySem.F.excBase_ValueError.init.plain PySem.F.excBase_ValueError.initEntry (wpAny_check_init_subT PySem.F.excBase_ValueError t0 e0 hx rfl ?_))
  wp_walk
  show SP X pins D .next _
  have hxe := Heap.get?_push_of_some ({ cls := .type "tuple", data := .seq #[u2] } : Obj) hx
  have hz := Heap.get?_update_self (Obj.mapFields (·.setIfInBounds 0 (Value.ref hp.objs.size))) hxe rfl
  refine ⟨σ, _, I1.write (x := e) (e := e) (o := .ext (xoAt C hp.objs.size none e)) (t' := tt) (by rw [he]; trivial) (.inl rfl) (fun b u n z => (Heap.get?_update_other _ _ (Ne.symm n)).trans (Heap.get?_push_of_some _ z)) ⟨_, hz⟩ (xo_ok hz), q _⟩
structure XInit (K : PySem.W.Frag) (C : Addr) (bm : List Value) (f : Addr) : Prop where
  ec : ecIn K C bm = true
  fi : findIn K (.ref C) "__init__" = some (some (.ref f))
  fn : isFn K (.ref f) = true
  kp : keepIn K (.ref C) = true
theorem xi_call {prog : Program} {w : World} {A : Around} {E : Value → Shared → Prop} {K : PySem.W.Frag} {C fI : Addr} {bm us : List Value} {h : Heap} {g : Array GenState} {d : Drawn} {t : Nat} {os : OsState} {Q : Value → Shared → Prop} (KX : K.In h) (c : XInit K C bm fI) (hl : us.length ≤ sizeLine)
    (q : wpAny (model prog w) (A.under (.builtin "type.__call__" ⟨.ref C :: us, []⟩)) (call (.ref fI) (.ref (h.objs.size + 1) :: us)) (fun r s' => r = .none ∧ Q (.ref (h.objs.size + 1)) s') E
      ⟨(h.push { cls := .type "tuple", data := .seq us.toArray }).push { cls := .ref C, data := .fields #[.ref h.objs.size, .none, .none, .none, .bool false, .none] }, g, d, t, os⟩) :
    wpAny (model prog w) A (call (.ref C) us) Q E ⟨h, g, d, t, os⟩ := by
  have BF := PySem.F.excBase_ValueError
  obtain ⟨N, mN, xc, _⟩ := ExcCls.of KX c.ec
  obtain ⟨nm, qn, bs, hdd, sn, sub, ab, col, dd, k0, k1, k2, k3, k5, cAt, n0, tl⟩ := xc
  have w1 := tc_lookup
  have w2 := tc_bind (.ref C)
  have w3 : (⟨h, g, d, t, os⟩ : Shared).TypeIs (.ref C) "type" := ⟨_, cAt, rfl⟩
  refine wpAny_call (codeAny_of_tree ?_)
  show wpAny _ _ (callAny (.ref C) _) _ _ _
  repeat (any_goals (first | assumption | with_reducible refine wpAny_loadPart_at cAt ?_ | wp_step))
  refine ⟨rfl, codeAny_call_builtin_at (Code.quiet_builtin _ (by decide +kernel)) entry_typeCall (wpAny_check_type_call_sub cAt ?_)⟩
  repeat (first | with_reducible refine wpAny_loadPart_at cAt ?_ | with_reducible refine wpAny_madeBy_exc cAt ?_ | wp_step)
  refine codeAny_call_builtin_code (Code.quiet_builtin _ BF.quiet) (wpAny_check_new_subT BF tl cAt (codeAny_exc_new_subT BF tl cAt ?_ hl))
  show wpAny _ _ _ _ _ _
  have kp : ∀ b o, h.get? b = some o → ((h.push { cls := .type "tuple", data := .seq us.toArray }).push { cls := .ref C, data := .fields #[.ref h.objs.size, .none, .none, .none, .bool false, .none] }).get? b = some o := fun b o z => Heap.get?_push_of_some _ (Heap.get?_push_of_some _ z)
  have new : ((h.push { cls := .type "tuple", data := .seq us.toArray }).push { cls := .ref C, data := .fields #[.ref h.objs.size, .none, .none, .none, .bool false, .none] }).get? (h.objs.size + 1) = some { cls := .ref C, data := .fields #[.ref h.objs.size, .none, .none, .none, .bool false, .none] } := by heap_get
  have cAt2 := kp _ _ cAt
  have KX2 := KX.keeps kp
  have hself : (Value.ref C :: bm).contains (.ref C) = true := by simp
  have L1 := looks_findIn (M := model prog w) KX2 c.fi
  have L2 := bind_fn (M := model prog w) KX2 (.ref (h.objs.size + 1)) (beq_iff_eq.mp c.fn)
  unfold isInstance
  repeat (first | with_reducible refine wpAny_loadPart_at new ?_ | (with_reducible refine wpAny_isSubtype_exc cAt2 ?_; rw [hself]) | wp_step)
  refine wpAny_isSubtype_exc cAt2 ?_
  rw [hself]
  repeat wp_step
  show wpAny _ _ (typeLookup (.ref C) _) _ _ _
  refine L1.at ?_
  refine wpAny_holding (wpAny_bind (L2.at ?_))
  refine wpAny_bind (wpAny_mono q (fun r s' z => ?_) fun _ _ z => z)
  obtain ⟨rfl, z⟩ := z
  wp_walk
  exact z
end
end L2

namespace L2
open PySem PySem.Spec PyProof.Rows PySem.W
theorem xr_stmt {M : Model} {A : Around} {E : Value → Shared → Prop} {env : Env} {s : Shared} {x : Sem Value} {Q : Flow → Shared → Prop} (hh : A.handled = none)
    (h : wpAny M A x (fun v s1 => ∃ e C t dx bm N mN, v = .ref e ∧ ExcCls s1.heap C bm N mN ∧ s1.heap.get? e = some { cls := .ref C, dict := dx, data := .fields #[.ref t, .none, .none, .none, .bool false, .none] } ∧ E (.ref e) s1) E s) : wpAny M A (raiseStmt env (some x) none) Q E s := by
  unfold raiseStmt
  refine wpAny_bind (wpAny_mono h (fun v s1 z => ?_) fun _ _ z => z)
  obtain ⟨e, C, tt, dx, bm, N, mN, rfl, xc, he, q⟩ := z
  obtain ⟨nm, qn, bs, hdd, sn, sub, ab, col, dd, k0, k1, k2, k3, k5, cAt, n0, tl⟩ := xc
  have hb : (Value.ref C :: bm).contains (.type "BaseException") = true := by rw [List.contains_cons, tl.hasType PySem.F.excBase_ValueError.hasBase, Bool.or_true]
  obtain ⟨hp, g, d, tk, os⟩ := s1
  repeat (first | with_reducible refine wpAny_loadPart_at he ?_ | with_reducible refine wpAny_loadPart_at cAt ?_ | (with_reducible refine wpAny_isSubtype_exc cAt ?_; rw [hb]) | wp_step)
  exact wpAny_raiseNew_none hh q
section
variable {X : Cx} {C f : Addr} {bm : List Value} {E : XK} {k : Nat} {fd : FuncData} {ps : List Str} {sp : Sp}
/-- C(..): a new exception, tracked, then its __init__ -/
theorem run_xmake {pins : List (Addr × Obj)} {σ : St} {H : Hp} {s : Shared} {Z : Value → Shared → Prop} {us : List Value} {vs : List V} (c : XInit X.K C bm f) (F : FnOk X.prog X.w X.K X.mg X.base CX0 k f fd ps sp) (hr : Room (k + 1) X.A) (hb : Binds X.K fd ps [])
    (I : Inv X pins σ H s) (r : Vals vs us) (hl : vs.length ≤ sizeLine) {W : Addr → Hp → Prop}
    (h : ∀ e t, H e = none → sp (.ref e :: vs) (upd H e (.ext (xoAt C t none e))) (fun v H2 => v = .non ∧ W e H2) E0)
    (q : ∀ e H2 s2, Inv X pins σ H2 s2 → s.heap.objs.size ≤ e → W e H2 → Z (.ref e) s2) : wpAny (model X.prog X.w) X.A (call (.ref C) us) Z X.xe s := by
  have lu : us.length ≤ sizeLine := by rw [← r.length]; exact hl
  obtain ⟨hp, g, d, tk, os⟩ := s
  refine xi_call I.kIn c lu ?_
  have hq := h (hp.objs.size + 1) hp.objs.size (I.hok.fresh (Nat.le_succ _))
  have new : xoAt C hp.objs.size none (hp.objs.size + 1) ((hp.push { cls := .type "tuple", data := .seq us.toArray }).push { cls := .ref C, data := .fields #[.ref hp.objs.size, .none, .none, .none, .bool false, .none] }) := by
    unfold xoAt
    heap_get
  have I2 := I.laid (a := hp.objs.size + 1) (o := .ext (xoAt C hp.objs.size none (hp.objs.size + 1))) (t' := tk) (fun b u z => Heap.get?_push_of_some _ (Heap.get?_push_of_some _ z)) (Nat.le_succ _) (xo_ok new)
  have r2 : Vals (V.ref (hp.objs.size + 1) :: vs) (Value.ref (hp.objs.size + 1) :: us) := .cons rfl r
  have hlen : (Value.ref (hp.objs.size + 1) :: us).length = ps.length := by rw [← r2.length]; exact F.len _ _ _ _ hq
  have bnd := hb _ (Value.ref (hp.objs.size + 1) :: us) I2.kIn (by rw [List.append_nil]; exact hlen)
  rw [List.append_nil] at bnd
  refine wpAny_call (codeAny_mono (F.run _ X.stack _ _ ⟨Value.ref (hp.objs.size + 1) :: us, []⟩ _ _ _ E0 (hr.make C us []) (I2.env0.make C us []) bnd r2 hq) fun r s' hq' => ?_)
  cases r with
  | error e => exact False.elim hq'
  | ok fl =>
    cases fl with
    | ret u =>
      obtain ⟨v, H', I3, rv, ev, q3⟩ := I2.after hq'
      subst ev
      exact ⟨rv, q _ H' s' I3 (Nat.le_succ _) q3⟩
    | next => exact False.elim hq'
    | brk => exact False.elim hq'
    | cont => exact False.elim hq'
def tRaiseI (C : Addr) (sp : Sp) (E : XK) (t : TA) : TS := fun _ σ H => t σ H fun vs H1 => vs.length ≤ sizeLine ∧ ∀ e t, H1 e = none → sp (.ref e :: vs) (upd H1 e (.ext (xoAt C t none e))) (fun v H2 => v = .non ∧ ∃ t' dx, H2 e = some (.ext (xoAt C t' dx e)) ∧ E (.ref C) dx (drop H2 e)) E0
theorem ps_raiseI {x : Str} {np cpos pos : Pos} {e : Expr} {es : List Expr} {t : TA} (R : RaiseOkI X C E) (c : XInit X.K C bm f) (F : FnOk X.prog X.w X.K X.mg X.base CX0 k f fd ps sp) (hr : Room (k + 1) X.A) (hg : Gl X x) (hm : X.mg x = some (.ref C)) (hb : Binds X.K fd ps []) (ha : PA X (e :: es) t)
    (hc : X.calm = true := by rfl) (hdb : (x == ("__debug__" : Str)) = false := by decide) (he : starEach (e :: es) X.env = (false, eval e X.env) :: starEach es X.env := by rfl) (hpl : (backTo cpos (starEach es X.env)).any (·.1) = false := by rfl) :
    PS X (.Raise (some (.Call (.Name x np) (e :: es) [] cpos)) none pos) (tRaiseI C sp E t) := by
  intro pins s σ H D I h
  have go : wpAny (model X.prog X.w) X.A (eval (.Call (.Name x np) (e :: es) [] cpos) X.env) (fun v s1 => ∃ e C t dx bm N mN, v = .ref e ∧ ExcCls s1.heap C bm N mN ∧ s1.heap.get? e = some { cls := .ref C, dict := dx, data := .fields #[.ref t, .none, .none, .none, .bool false, .none] } ∧ X.xe (.ref e) s1) X.xe s := by
    refine wpAny_Call_Name_kw (ld_glob I hg hm ?_ hdb)
    refine callWith_K (h₀ := X.base) I.ok.mod.kin c.kp (thn (ha cpos pins s σ H _ I h) fun us s1 ⟨vs, H1, I1, r, hl, q⟩ => ⟨I1.kIn, ?_⟩) he hpl
    refine run_xmake c F hr hb I1 r hl (W := fun e H2 => ∃ t' dx, H2 e = some (.ext (xoAt C t' dx e)) ∧ E (.ref C) dx (drop H2 e)) q fun e H2 s2 I2 hz ⟨t', dx, hx, qe⟩ => ?_
    have hx2 := (show ObjOk X.prog X.w H2 s2.heap e (.ext (xoAt C t' dx e)) from I2.hok e _ hx).1
    obtain ⟨N, mN, xc, _⟩ := ExcCls.of I2.ok.mod.kin c.ec
    exact ⟨e, C, t', dx, bm, N, mN, rfl, xc.keeps I2.bk, hx2, R pins σ H2 s2 e t' dx I2 hx (Heap.get?_none_of_le (Nat.le_trans I1.sz hz)) qe⟩
  rw [arm_exec_Raise]
  first
    | exact wpAny_bind (wpAny_standAt (xr_stmt (I.ok.hd hc) go))
    | exact wpAny_bind (wpAny_standAt (xr_stmt (I.ok.hd hc) (wpAny_bind (wpAny_mono go (fun v s2 z => wpAny_bind (wpAny_standAt (wpAny_pure z))) fun _ _ z => z))))
    | (simp only [evalOpt, Option.map]; exact wpAny_bind (wpAny_standAt (xr_stmt (I.ok.hd hc) (wpAny_bind (wpAny_mono go (fun v s2 z => wpAny_bind (wpAny_standAt (wpAny_pure z))) fun _ _ z => z)))))
end
def spXI (C : Addr) (f : Str) : Sp := fun vs H Q _ => ∃ (e t : Addr) (w : Str) (y : V), vs = [.ref e, .str w, y] ∧ H e = some (.ext (xoAt C t none e)) ∧ ∀ dx t', H dx = none → Q .non (upd (upd (upd H e (.ext (xoAt C t' none e))) dx (.xd [(f, y)])) e (.ext (xoAt C t' (some dx) e)))
/-- .. and behind it the exception flies -/
theorem xi_flies {C : Addr} {f w : Str} {y : V} {H : Hp} {E : XK} (hE : ∀ (dx : Addr) (H' : Hp), Same H H' → H dx = none → H' dx = some (.xd [(f, y)]) → E (.ref C) (some dx) H') : ∀ (e t : Addr), H e = none → spXI C f (.ref e :: [.str w, y]) (upd H e (.ext (xoAt C t none e)))
    (fun v H2 => v = .non ∧ ∃ t' dx, H2 e = some (.ext (xoAt C t' dx e)) ∧ E (.ref C) dx (drop H2 e)) E0 := fun e t ne => by
  refine ⟨e, t, w, y, rfl, upd_same, fun dx t' nd => ⟨rfl, t', some dx, upd_same, ?_⟩⟩
  have ned : dx ≠ e := fun z => by rw [z, upd_same] at nd; cases nd
  rw [upd_ne ned] at nd
  refine hE dx _ (fun b o z => ?_) nd ?_
  · have h1 : b ≠ e := fun q => by rw [q, ne] at z; cases z
    have h2 : b ≠ dx := fun q => by rw [q, nd] at z; cases z
    rw [drop_ne h1, upd_ne h1, upd_ne h2, upd_ne h1, upd_ne h1]
    exact z
  · rw [drop_ne ned, upd_ne ned, upd_same]
end L2

namespace L2
open PySem PySem.Spec PyProof.Rows
/-- the beads that a row of doors meets, up to the first that may not go -/
def metL (tk gv : List (List Int)) : List Int → List Nat → List (List Int)
  | b, [] => [b]
  | b, k :: ds => if bn (tk.getD k []) b then b :: metL tk gv (behind (tk.getD k []) (gv.getD k []) b) ds else [b]
theorem plus_gain : ∀ {t g b : List Int} {z : Nat}, t.length = z → g.length = z → b.length = z → List.zipWith (fun i j => i + j) b (List.zipWith (fun i j => i - j) g t) = behind t g b := fun {t g b z} ht hg hb => by
  unfold behind add sub
  refine List.ext_getElem (by simp [ht, hg, hb]) fun i h1 h2 => ?_
  simp only [List.getElem_zipWith]
  omega
end L2

namespace L2
open PySem PySem.Spec PyProof.Rows SeqAt
section
variable {X : Cx}
end
end L2

namespace L2
open PySem PySem.Spec PyProof.Rows
structure RV where
  bags : List (List Int)
  par : List Int
  com : List Int
abbrev rF1 (b : V) : List (Str × V) := [("bags", b)]
abbrev rF2 (b m : V) : List (Str × V) := [("bags", b), ("parents", m)]
abbrev rF3 (b m l : V) : List (Str × V) := [("bags", b), ("parents", m), ("comers", l)]
abbrev rFl (b m l : Addr) : List (Str × V) := rF3 (.ref b) (.ref m) (.ref l)
theorem put_r1 {b : V} : putF "bags" b [] = rF1 b := rfl
theorem put_r2 {b m : V} : putF "parents" m (rF1 b) = rF2 b m := by
  show (if (("bags" : Str) = "parents") then _ else (("bags" : Str), b) :: putF "parents" m []) = _
  rw [if_neg (by decide +kernel)]
  rfl
theorem put_r3 {b m l : V} : putF "comers" l (rF2 b m) = rF3 b m l := by
  show (if (("bags" : Str) = "comers") then _ else (("bags" : Str), b) :: (if (("parents" : Str) = "comers") then _ else (("parents" : Str), m) :: putF "comers" l [])) = _
  rw [if_neg (by decide +kernel), if_neg (by decide +kernel)]
  rfl
structure RIn (C : Addr) (H : Hp) (x dx b m l : Addr) (as : List Addr) (w : RV) : Prop where
  ob : H x = some (.ins C dx (rFl b m l))
  hb : H b = some (.lst (as.map V.ref))
  rb : Rows H as w.bags
  hm : H m = some (.lst (vints w.par))
  hl : H l = some (.lst (vints w.com))
  nb : b ∉ as
  nm : m ∉ as
  nl : l ∉ as
  bm : b ≠ m
  bl : b ≠ l
  ml : m ≠ l
theorem RIn.same {C : Addr} {H H' : Hp} {x dx b m l : Addr} {as : List Addr} {w : RV} (n : RIn C H x dx b m l as w) (S : Same H H') : RIn C H' x dx b m l as w :=
  ⟨S _ _ n.ob, S _ _ n.hb, n.rb.same S, S _ _ n.hm, S _ _ n.hl, n.nb, n.nm, n.nl, n.bm, n.bl, n.ml⟩
def putR (room : Nat) (w : RV) (num door : Nat) (bag : List Int) : Option RV :=
  if memR bag w.bags then some w else if room ≤ w.bags.length then none else some ⟨w.bags ++ [bag], w.par ++ [(num : Int)], w.com ++ [(door : Int)]⟩
def turnR (tk gv : List (List Int)) (room num : Nat) : RV → List Nat → Option RV
  | w, [] => some w
  | w, d :: ds => if bn (tk.getD d []) (w.bags.getD num []) then (match putR room w num d (behind (tk.getD d []) (gv.getD d []) (w.bags.getD num [])) with
    | none => none
    | some w' => turnR tk gv room num w' ds) else turnR tk gv room num w ds
def runR (tk gv : List (List Int)) (room : Nat) : Nat → Nat → RV → Option RV
  | 0, _, w => some w
  | f + 1, num, w => if num < w.bags.length then match turnR tk gv room num w (List.range tk.length) with
    | none => none
    | some w' => runR tk gv room f (num + 1) w' else some w
def roomsF (tk gv : List (List Int)) (first : List Int) (room : Nat) : Option RV := runR tk gv room room 0 ⟨[first], [-1], [-1]⟩
theorem rrun_stop {tk gv : List (List Int)} {room f num : Nat} {w : RV} (h : ¬ num < w.bags.length) : runR tk gv room f num w = some w := by
  cases f with
  | zero => rfl
  | succ f => unfold runR; rw [if_neg h]
theorem rrun_step {tk gv : List (List Int)} {room f num : Nat} {w : RV} (h : num < w.bags.length) : runR tk gv room (f + 1) num w = (match turnR tk gv room num w (List.range tk.length) with
    | none => none
    | some w' => runR tk gv room f (num + 1) w') := by
  conv => lhs; unfold runR
  rw [if_pos h]
theorem rput_in {room num door : Nat} {w : RV} {bag : List Int} (h : memR bag w.bags = true) : putR room w num door bag = some w := by unfold putR; rw [h]; rfl
theorem rput_no {room num door : Nat} {w : RV} {bag : List Int} (h : memR bag w.bags = false) (hr : room ≤ w.bags.length) : putR room w num door bag = none := by unfold putR; rw [h, if_neg (by decide), if_pos hr]
theorem rput_new {room num door : Nat} {w : RV} {bag : List Int} (h : memR bag w.bags = false) (hr : w.bags.length < room) : putR room w num door bag = some ⟨w.bags ++ [bag], w.par ++ [(num : Int)], w.com ++ [(door : Int)]⟩ := by unfold putR; rw [h, if_neg (by decide), if_neg (by omega)]
theorem rturn_go {tk gv : List (List Int)} {room num d : Nat} {ds : List Nat} {w : RV} (h : bn (tk.getD d []) (w.bags.getD num []) = true) : turnR tk gv room num w (d :: ds) = (match putR room w num d (behind (tk.getD d []) (gv.getD d []) (w.bags.getD num [])) with
    | none => none
    | some w' => turnR tk gv room num w' ds) := by
  conv => lhs; unfold turnR
  rw [h, if_pos rfl]
theorem rturn_no {tk gv : List (List Int)} {room num d : Nat} {ds : List Nat} {w : RV} (h : bn (tk.getD d []) (w.bags.getD num []) = false) : turnR tk gv room num w (d :: ds) = turnR tk gv room num w ds := by
  conv => lhs; unfold turnR
  rw [h, if_neg Bool.false_ne_true]
structure ROk (z room : Nat) (w : RV) : Prop where
  wd : Wd z w.bags
  lm : w.par.length = w.bags.length
  ll : w.com.length = w.bags.length
  le : w.bags.length ≤ room
  one : 1 ≤ w.bags.length
theorem ROk.put {z room : Nat} {w : RV} {bag : List Int} {door num : Nat} (o : ROk z room w) (hb : bag.length = z) (hr : w.bags.length < room) : ROk z room ⟨w.bags ++ [bag], w.par ++ [(num : Int)], w.com ++ [(door : Int)]⟩ := by
  refine ⟨fun r hr' => ?_, ?_, ?_, ?_, ?_⟩
  · rcases List.mem_append.mp hr' with q | q
    · exact o.wd r q
    · rw [List.mem_singleton.mp q]; exact hb
  · show (w.par ++ [(num : Int)]).length = (w.bags ++ [bag]).length
    rw [List.length_append, List.length_append, o.lm]; rfl
  · show (w.com ++ [(door : Int)]).length = (w.bags ++ [bag]).length
    rw [List.length_append, List.length_append, o.ll]; rfl
  · show (w.bags ++ [bag]).length ≤ room
    rw [List.length_append]; exact hr
  · show 1 ≤ (w.bags ++ [bag]).length
    rw [List.length_append]; have := o.one; omega
theorem drop_rng {n i : Nat} (h : i < n) : (List.range n).drop i = i :: (List.range n).drop (i + 1) := by
  rw [List.drop_eq_getElem_cons (by rw [List.length_range]; exact h), List.getElem_range]
theorem rput_len {room num door : Nat} {w w' : RV} {bag : List Int} (h : putR room w num door bag = some w') : w.bags.length ≤ w'.bags.length := by
  unfold putR at h
  split at h
  · cases h; exact Nat.le_refl _
  · split at h
    · cases h
    · cases h
      show w.bags.length ≤ (w.bags ++ [bag]).length
      rw [List.length_append]
      omega
theorem gD_L {α : Type} {l m : List α} {i : Nat} {d : α} (h : i < l.length) : (l ++ m).getD i d = l.getD i d := by
  rw [List.getD_eq_getElem?_getD, List.getD_eq_getElem?_getD, List.getElem?_append_left h]
theorem gD_E {α : Type} {l : List α} {x : α} {i : Nat} {d : α} (h : i = l.length) : (l ++ [x]).getD i d = x := by
  subst h
  rw [List.getD_eq_getElem?_getD, List.getElem?_append_right (Nat.le_refl _), Nat.sub_self]
  rfl
structure RGood (tk gv : List (List Int)) (first : List Int) (w : RV) : Prop where
  lm : w.par.length = w.bags.length
  ll : w.com.length = w.bags.length
  one : 1 ≤ w.bags.length
  b0 : w.bags.getD 0 [] = first
  p0 : w.par.getD 0 0 = -1
  st : ∀ i, 1 ≤ i → i < w.bags.length → ∃ door par : Nat, door < tk.length ∧ par < i ∧ w.com.getD i 0 = (door : Int) ∧ w.par.getD i 0 = (par : Int) ∧ bn (tk.getD door []) (w.bags.getD par []) = true ∧ w.bags.getD i [] = behind (tk.getD door []) (gv.getD door []) (w.bags.getD par [])
theorem rgood_put {tk gv : List (List Int)} {first : List Int} {room num door : Nat} {w w' : RV} (g : RGood tk gv first w) (hw : num < w.bags.length) (hd : door < tk.length) (hm : bn (tk.getD door []) (w.bags.getD num []) = true)
    (h : putR room w num door (behind (tk.getD door []) (gv.getD door []) (w.bags.getD num [])) = some w') : RGood tk gv first w' := by
  unfold putR at h
  split at h
  · cases h; exact g
  split at h
  · cases h
  cases h
  generalize hB : behind (tk.getD door []) (gv.getD door []) (w.bags.getD num []) = bag at *
  have L : (w.bags ++ [bag]).length = w.bags.length + 1 := by rw [List.length_append]; rfl
  have one := g.one
  have lm := g.lm
  have ll := g.ll
  refine ⟨?_, ?_, ?_, ?_, ?_, ?_⟩
  · show (w.par ++ [(num : Int)]).length = (w.bags ++ [bag]).length
    rw [L, List.length_append, g.lm]; rfl
  · show (w.com ++ [(door : Int)]).length = (w.bags ++ [bag]).length
    rw [L, List.length_append, g.ll]; rfl
  · show 1 ≤ (w.bags ++ [bag]).length
    omega
  · show (w.bags ++ [bag]).getD 0 [] = first
    rw [gD_L (by omega)]; exact g.b0
  · show (w.par ++ [(num : Int)]).getD 0 0 = -1
    rw [gD_L (by omega)]; exact g.p0
  · intro i i1 hi
    have hi : i < (w.bags ++ [bag]).length := hi
    show ∃ d l : Nat, d < tk.length ∧ l < i ∧ (w.com ++ [(door : Int)]).getD i 0 = (d : Int) ∧ (w.par ++ [(num : Int)]).getD i 0 = (l : Int) ∧ bn (tk.getD d []) ((w.bags ++ [bag]).getD l []) = true ∧ (w.bags ++ [bag]).getD i [] = behind (tk.getD d []) (gv.getD d []) ((w.bags ++ [bag]).getD l [])
    by_cases hlt : i < w.bags.length
    · obtain ⟨d, l, h1, h2, h3, h4, h5, h6⟩ := g.st i i1 hlt
      refine ⟨d, l, h1, h2, ?_, ?_, ?_, ?_⟩
      · rw [gD_L (by omega)]; exact h3
      · rw [gD_L (by omega)]; exact h4
      · rw [gD_L (by omega)]; exact h5
      · rw [gD_L hlt, gD_L (by omega)]; exact h6
    · have e : i = w.bags.length := by omega
      refine ⟨door, num, hd, by omega, ?_, ?_, ?_, ?_⟩
      · rw [gD_E (by omega)]
      · rw [gD_E (by omega)]
      · rw [gD_L hw]; exact hm
      · rw [gD_E e, gD_L hw, hB]
theorem rgood_turn {tk gv : List (List Int)} {first : List Int} {room num : Nat} : ∀ (ds : List Nat) {w w' : RV}, (∀ d ∈ ds, d < tk.length) → RGood tk gv first w → num < w.bags.length → turnR tk gv room num w ds = some w' → RGood tk gv first w' ∧ w.bags.length ≤ w'.bags.length
  | [], w, w', _, g, hw, h => by cases h; exact ⟨g, Nat.le_refl _⟩
  | d :: ds, w, w', hds, g, hw, h => by
    cases hb : bn (tk.getD d []) (w.bags.getD num []) with
    | false =>
      rw [rturn_no hb] at h
      exact rgood_turn ds (fun d' h' => hds d' (List.mem_cons_of_mem _ h')) g hw h
    | true =>
      rw [rturn_go hb] at h
      cases hp : putR room w num d (behind (tk.getD d []) (gv.getD d []) (w.bags.getD num [])) with
      | none => rw [hp] at h; cases h
      | some w1 =>
        rw [hp] at h
        have l1 := rput_len hp
        obtain ⟨g2, l2⟩ := rgood_turn ds (fun d' h' => hds d' (List.mem_cons_of_mem _ h')) (rgood_put g hw (hds d (List.mem_cons_self ..)) hb hp) (by omega) h
        exact ⟨g2, by omega⟩
theorem rgood_run {tk gv : List (List Int)} {first : List Int} {room : Nat} : ∀ (f num : Nat) {w w' : RV}, RGood tk gv first w → runR tk gv room f num w = some w' → RGood tk gv first w'
  | 0, num, w, w', g, h => by cases h; exact g
  | f + 1, num, w, w', g, h => by
    by_cases hlt : num < w.bags.length
    · rw [rrun_step hlt] at h
      cases hp : turnR tk gv room num w (List.range tk.length) with
      | none => rw [hp] at h; cases h
      | some w1 =>
        rw [hp] at h
        exact rgood_run f (num + 1) (rgood_turn _ (fun d hd => List.mem_range.mp hd) g hlt hp).1 h
    · rw [rrun_stop hlt] at h
      cases h
      exact g
theorem rgood_rooms {tk gv : List (List Int)} {first : List Int} {room : Nat} {w : RV} (h : roomsF tk gv first room = some w) : RGood tk gv first w := by
  refine rgood_run room 0 ?_ h
  refine ⟨rfl, rfl, Nat.le_refl _, rfl, rfl, fun i i1 hi => ?_⟩
  have hi : i < 1 := hi
  omega
theorem rput_le {r num door : Nat} {w w' : RV} {bag : List Int} (hl : w.bags.length ≤ r) (h : putR r w num door bag = some w') : w'.bags.length ≤ r := by
  unfold putR at h
  split at h
  · cases h; exact hl
  · split at h
    · cases h
    · cases h
      show (w.bags ++ [bag]).length ≤ r
      rw [List.length_append, List.length_singleton]
      omega
theorem rput_re {r R num door : Nat} {w w' : RV} {bag : List Int} (hl : w'.bags.length ≤ r) (h : putR R w num door bag = some w') : putR r w num door bag = some w' := by
  cases ea : memR bag w.bags with
  | true => rw [rput_in ea] at h ⊢; exact h
  | false =>
    by_cases hR : w.bags.length < R
    · have h' := h
      rw [rput_new ea hR] at h'
      injection h' with h'
      have : (w.bags ++ [bag]).length ≤ r := by rw [← h'] at hl; exact hl
      rw [List.length_append, List.length_singleton] at this
      rw [rput_new ea (by omega)]
      rw [h']
    · rw [rput_no ea (by omega)] at h; cases h
theorem rturn_le {tk gv : List (List Int)} {r num : Nat} : ∀ (ds : List Nat) {w w' : RV}, w.bags.length ≤ r → turnR tk gv r num w ds = some w' → w'.bags.length ≤ r
  | [], w, w', hl, h => by cases h; exact hl
  | d :: ds, w, w', hl, h => by
    cases hb : bn (tk.getD d []) (w.bags.getD num []) with
    | false => rw [rturn_no hb] at h; exact rturn_le ds hl h
    | true =>
      rw [rturn_go hb] at h
      cases hp : putR r w num d (behind (tk.getD d []) (gv.getD d []) (w.bags.getD num [])) with
      | none => rw [hp] at h; cases h
      | some w1 => rw [hp] at h; exact rturn_le ds (rput_le hl hp) h
theorem rturn_len {tk gv : List (List Int)} {r num : Nat} : ∀ (ds : List Nat) {w w' : RV}, turnR tk gv r num w ds = some w' → w.bags.length ≤ w'.bags.length
  | [], w, w', h => by cases h; exact Nat.le_refl _
  | d :: ds, w, w', h => by
    cases hb : bn (tk.getD d []) (w.bags.getD num []) with
    | false => rw [rturn_no hb] at h; exact rturn_len ds h
    | true =>
      rw [rturn_go hb] at h
      cases hp : putR r w num d (behind (tk.getD d []) (gv.getD d []) (w.bags.getD num [])) with
      | none => rw [hp] at h; cases h
      | some w1 => rw [hp] at h; exact Nat.le_trans (rput_len hp) (rturn_len ds h)
theorem rturn_re {tk gv : List (List Int)} {r R num : Nat} : ∀ (ds : List Nat) {w w' : RV}, w'.bags.length ≤ r → turnR tk gv R num w ds = some w' → turnR tk gv r num w ds = some w'
  | [], w, w', hl, h => h
  | d :: ds, w, w', hl, h => by
    cases hb : bn (tk.getD d []) (w.bags.getD num []) with
    | false => rw [rturn_no hb] at h ⊢; exact rturn_re ds hl h
    | true =>
      rw [rturn_go hb] at h ⊢
      cases hp : putR R w num d (behind (tk.getD d []) (gv.getD d []) (w.bags.getD num [])) with
      | none => rw [hp] at h; cases h
      | some w1 =>
        rw [hp] at h
        rw [rput_re (Nat.le_trans (rturn_len ds h) hl) hp]
        exact rturn_re ds hl h
theorem rrun_le {tk gv : List (List Int)} {r : Nat} : ∀ (f num : Nat) {w w' : RV}, w.bags.length ≤ r → runR tk gv r f num w = some w' → w'.bags.length ≤ r
  | 0, num, w, w', hl, h => by cases h; exact hl
  | f + 1, num, w, w', hl, h => by
    by_cases hlt : num < w.bags.length
    · rw [rrun_step hlt] at h
      cases hp : turnR tk gv r num w (List.range tk.length) with
      | none => rw [hp] at h; cases h
      | some w1 => rw [hp] at h; exact rrun_le f (num + 1) (rturn_le _ hl hp) h
    · rw [rrun_stop hlt] at h
      cases h
      exact hl
theorem rrun_len {tk gv : List (List Int)} {r : Nat} : ∀ (f num : Nat) {w w' : RV}, runR tk gv r f num w = some w' → w.bags.length ≤ w'.bags.length
  | 0, num, w, w', h => by cases h; exact Nat.le_refl _
  | f + 1, num, w, w', h => by
    by_cases hlt : num < w.bags.length
    · rw [rrun_step hlt] at h
      cases hp : turnR tk gv r num w (List.range tk.length) with
      | none => rw [hp] at h; cases h
      | some w1 => rw [hp] at h; exact Nat.le_trans (rturn_len _ hp) (rrun_len f (num + 1) h)
    · rw [rrun_stop hlt] at h
      cases h
      exact Nat.le_refl _
theorem rrun_re {tk gv : List (List Int)} {r R : Nat} : ∀ (f f2 num : Nat) {w w' : RV}, w.bags.length ≤ R → R ≤ num + f → r ≤ num + f2 → w'.bags.length ≤ r → runR tk gv R f num w = some w' → runR tk gv r f2 num w = some w'
  | 0, f2, num, w, w', hR, h1, h2, hl, h => by
    have h' := h
    cases h'
    rw [rrun_stop (by omega)]
  | f + 1, f2, num, w, w', hR, h1, h2, hl, h => by
    by_cases hlt : num < w.bags.length
    · have hlen := rrun_len (f + 1) num h
      obtain ⟨f3, rfl⟩ : ∃ f3, f2 = f3 + 1 := ⟨f2 - 1, by omega⟩
      rw [rrun_step hlt] at h ⊢
      cases hp : turnR tk gv R num w (List.range tk.length) with
      | none => rw [hp] at h; cases h
      | some w1 =>
        rw [hp] at h
        rw [rturn_re _ (Nat.le_trans (rrun_len f (num + 1) h) hl) hp]
        exact rrun_re f f3 (num + 1) (rturn_le _ hR hp) (by omega) (by omega) hl h
    · rw [rrun_stop hlt] at h ⊢
      exact h
theorem rooms_le {tk gv : List (List Int)} {first : List Int} {r : Nat} {w : RV} (h1 : 1 ≤ r) (h : roomsF tk gv first r = some w) : w.bags.length ≤ r := rrun_le r 0 (w := ⟨[first], [-1], [-1]⟩) h1 h
theorem rooms_re {tk gv : List (List Int)} {first : List Int} {r R : Nat} {w : RV} (h1 : 1 ≤ R) (hl : w.bags.length ≤ r) (h : roomsF tk gv first R = some w) : roomsF tk gv first r = some w :=
  rrun_re R r 0 (w := ⟨[first], [-1], [-1]⟩) h1 (by omega) (by omega) hl h
theorem rooms_less {tk gv : List (List Int)} {first : List Int} {r R : Nat} {w : RV} (h1 : 1 ≤ r) (h2 : 1 ≤ R) (hr : r < w.bags.length) (h : roomsF tk gv first R = some w) : roomsF tk gv first r = none := by
  cases e : roomsF tk gv first r with
  | none => rfl
  | some w2 =>
    have l2 := rooms_le h1 e
    have lR := rooms_le h2 h
    have := rooms_re (r := R) h1 (by omega) e
    rw [h] at this
    injection this with this
    rw [this] at hr
    omega
def chR (w : RV) : Nat → Nat → List Nat
  | 0, _ => []
  | f + 1, num => if 0 ≤ w.par.getD num 0 then (w.com.getD num 0).toNat :: chR w f (w.par.getD num 0).toNat else []
theorem chR_zero {tk gv : List (List Int)} {first : List Int} {w : RV} (g : RGood tk gv first w) : ∀ f, chR w f 0 = []
  | 0 => rfl
  | f + 1 => by unfold chR; rw [g.p0, if_neg (by decide)]
theorem chR_step {w : RV} {f num door par : Nat} (h3 : w.com.getD num 0 = (door : Int)) (h4 : w.par.getD num 0 = (par : Int)) : chR w (f + 1) num = door :: chR w f par := by
  conv => lhs; unfold chR
  rw [h3, h4, if_pos (by omega), Int.toNat_natCast, Int.toNat_natCast]
theorem chR_len {w : RV} : ∀ f num, (chR w f num).length ≤ f
  | 0, _ => Nat.le_refl _
  | f + 1, num => by
    unfold chR
    split
    · rw [List.length_cons]; exact Nat.succ_le_succ (chR_len f _)
    · exact Nat.zero_le _
theorem chR_lt {tk gv : List (List Int)} {first : List Int} {w : RV} (g : RGood tk gv first w) : ∀ f num, num < w.bags.length → ∀ d ∈ chR w f num, d < tk.length
  | 0, num, _, d, h => nomatch h
  | f + 1, num, hw, d, h => by
    rcases Nat.eq_zero_or_pos num with q | q
    · subst q
      rw [chR_zero g] at h
      cases h
    · obtain ⟨door, par, g1, g2, g3, g4, _⟩ := g.st num q hw
      rw [chR_step g3 g4] at h
      rcases List.mem_cons.mp h with z | z
      · rw [z]; exact g1
      · exact chR_lt g f par (by omega) d z
/-- walked door by door -/
def wkR (tk gv : List (List Int)) : List Int → List Nat → Option (List Int)
  | b, [] => some b
  | b, d :: ds => if bn (tk.getD d []) b then wkR tk gv (behind (tk.getD d []) (gv.getD d []) b) ds else none
theorem wk_snoc {tk gv : List (List Int)} : ∀ (ds : List Nat) (b : List Int) {b' : List Int} {d : Nat}, wkR tk gv b ds = some b' → bn (tk.getD d []) b' = true → wkR tk gv b (ds ++ [d]) = some (behind (tk.getD d []) (gv.getD d []) b')
  | [], b, b', d, h, hb => by
    injection h with h
    subst h
    show (if bn (tk.getD d []) b then _ else none) = _
    rw [hb, if_pos rfl]
    rfl
  | e :: ds, b, b', d, h, hb => by
    have h : (if bn (tk.getD e []) b then wkR tk gv (behind (tk.getD e []) (gv.getD e []) b) ds else none) = some b' := h
    show (if bn (tk.getD e []) b then wkR tk gv (behind (tk.getD e []) (gv.getD e []) b) (ds ++ [d]) else none) = _
    cases hc : bn (tk.getD e []) b with
    | false => rw [hc, if_neg Bool.false_ne_true] at h; cases h
    | true =>
      rw [hc, if_pos rfl] at h
      rw [if_pos rfl]
      exact wk_snoc ds _ h hb
theorem chR_wk {tk gv : List (List Int)} {first : List Int} {w : RV} (g : RGood tk gv first w) : ∀ f num, num ≤ f → num < w.bags.length → wkR tk gv first (chR w f num).reverse = some (w.bags.getD num [])
  | f, 0, _, _ => by
    rw [chR_zero g, g.b0]
    rfl
  | 0, num + 1, hf, _ => by omega
  | f + 1, num + 1, hf, hw => by
    obtain ⟨door, par, g1, g2, g3, g4, g5, g6⟩ := g.st (num + 1) (by omega) hw
    rw [chR_step g3 g4, List.reverse_cons, g6]
    exact wk_snoc _ _ (chR_wk g f par (by omega) (by omega)) g5
theorem rngA (n : Nat) : -(2 ^ 62) ≤ (n : Int) := Int.le_trans (by decide) (Int.natCast_nonneg n)
theorem rngB {n : Nat} (h : n ≤ 70) : (n : Int) < 2 ^ 62 := Int.lt_of_le_of_lt (Int.ofNat_le.mpr h) (by decide)
structure PlanR (H : Hp) (p pt pg pf : Addr) (ts gs : List Addr) (tk gv : List (List Int)) (fs : List Int) : Prop where
  top : H p = some (.tup [.ref pt, .ref pg, .ref pf])
  ht : H pt = some (.lst (ts.map V.ref))
  tr : Rows H ts tk
  hg : H pg = some (.lst (gs.map V.ref))
  gr : Rows H gs gv
  hf : H pf = some (.lst (vints fs))
theorem PlanR.same {H H' : Hp} {p pt pg pf : Addr} {ts gs : List Addr} {tk gv : List (List Int)} {fs : List Int} (P : PlanR H p pt pg pf ts gs tk gv fs) (S : Same H H') : PlanR H' p pt pg pf ts gs tk gv fs :=
  ⟨S _ _ P.top, S _ _ P.ht, P.tr.same S, S _ _ P.hg, P.gr.same S, S _ _ P.hf⟩
structure OkR (z : Nat) (tk gv : List (List Int)) (fs : List Int) : Prop where
  z1 : 1 ≤ z
  z6 : z ≤ 6
  t8 : tk.length ≤ 8
  gl : gv.length = tk.length
  tk : ∀ r ∈ tk, okBag z r
  gv : ∀ r ∈ gv, okBag z r
  fs : okBag z fs
def eit3 : List Str := [Str.ofString "p", Str.ofString "q", Str.ofString "r", Str.ofString "s", Str.ofString "t", Str.ofString "u", Str.ofString "v", Str.ofString "w"]
abbrev veit3 : List V := [V.str (Str.ofString "p"), V.str (Str.ofString "q"), V.str (Str.ofString "r"), V.str (Str.ofString "s"), V.str (Str.ofString "t"), V.str (Str.ofString "u"), V.str (Str.ofString "v"), V.str (Str.ofString "w")]
theorem eit3_ok : ∀ y ∈ eit3, okName y = true := by decide +kernel
theorem eit3_nd : eit3.Nodup := by decide +kernel
theorem cut_eit3 (k : Nat) : cutV veit3 none (some (k : Int)) = vstrs (eit3.take k) := by
  rw [cut_take, vstrs, List.map_take]
  rfl
def netR (tk gv : List (List Int)) (fs : List Int) : NetV := ⟨six.take fs.length, eit3.take tk.length, tk, gv, fs⟩
theorem netR_len {tk gv : List (List Int)} {fs : List Int} (h6 : fs.length ≤ 6) : (netR tk gv fs).bowls.length = fs.length := by
  show (six.take fs.length).length = _
  rw [List.length_take]
  have : six.length = 6 := rfl
  omega
theorem netR_ok {tk gv : List (List Int)} {fs : List Int} (o : OkR fs.length tk gv fs) : (netR tk gv fs).Ok := by
  have e := netR_len (tk := tk) (gv := gv) o.z6
  have e2 : (netR tk gv fs).doors.length = tk.length := by
    show (eit3.take tk.length).length = _
    rw [List.length_take]
    have : eit3.length = 8 := rfl
    have := o.t8
    omega
  have z1 := o.z1
  have z6 := o.z6
  have t8 := o.t8
  refine ⟨by omega, by omega, by omega, fun y hy => six_ok y (List.mem_of_mem_take hy), fun y hy => eit3_ok y (List.mem_of_mem_take hy), six_nd.sublist (List.take_sublist ..), eit3_nd.sublist (List.take_sublist ..), e2.symm, by rw [e2]; exact o.gl, ?_, ?_, ?_⟩
  · rw [e]; exact o.tk
  · rw [e]; exact o.gv
  · rw [e]; exact o.fs
theorem pickW {i : Int} (h0 : 0 ≤ i) (h : i < 12) : ∃ z : Nat, atI [V.int 1, V.int 2, V.int 2, V.int 3, V.int 3, V.int 3, V.int 4, V.int 2, V.int 3, V.int 5, V.int 6, V.int 3] i = some (V.int (z : Int)) ∧ 1 ≤ z ∧ z ≤ 6 := by
  obtain ⟨k, rfl⟩ := Int.eq_ofNat_of_zero_le h0
  have hk : k < 12 := by omega
  match k, hk with
  | 0, _ => exact ⟨1, by decide, by decide, by decide⟩
  | 1, _ => exact ⟨2, by decide, by decide, by decide⟩
  | 2, _ => exact ⟨2, by decide, by decide, by decide⟩
  | 3, _ => exact ⟨3, by decide, by decide, by decide⟩
  | 4, _ => exact ⟨3, by decide, by decide, by decide⟩
  | 5, _ => exact ⟨3, by decide, by decide, by decide⟩
  | 6, _ => exact ⟨4, by decide, by decide, by decide⟩
  | 7, _ => exact ⟨2, by decide, by decide, by decide⟩
  | 8, _ => exact ⟨3, by decide, by decide, by decide⟩
  | 9, _ => exact ⟨5, by decide, by decide, by decide⟩
  | 10, _ => exact ⟨6, by decide, by decide, by decide⟩
  | 11, _ => exact ⟨3, by decide, by decide, by decide⟩
theorem pickM {i : Int} (h0 : 0 ≤ i) (h : i < 16) : ∃ z : Nat, atI [V.int 0, V.int 1, V.int 2, V.int 2, V.int 3, V.int 3, V.int 4, V.int 2, V.int 3, V.int 5, V.int 6, V.int 7, V.int 8, V.int 3, V.int 2, V.int 4] i = some (V.int (z : Int)) ∧ z ≤ 8 := by
  obtain ⟨k, rfl⟩ := Int.eq_ofNat_of_zero_le h0
  have hk : k < 16 := by omega
  match k, hk with
  | 0, _ => exact ⟨0, by decide, by decide⟩
  | 1, _ => exact ⟨1, by decide, by decide⟩
  | 2, _ => exact ⟨2, by decide, by decide⟩
  | 3, _ => exact ⟨2, by decide, by decide⟩
  | 4, _ => exact ⟨3, by decide, by decide⟩
  | 5, _ => exact ⟨3, by decide, by decide⟩
  | 6, _ => exact ⟨4, by decide, by decide⟩
  | 7, _ => exact ⟨2, by decide, by decide⟩
  | 8, _ => exact ⟨3, by decide, by decide⟩
  | 9, _ => exact ⟨5, by decide, by decide⟩
  | 10, _ => exact ⟨6, by decide, by decide⟩
  | 11, _ => exact ⟨7, by decide, by decide⟩
  | 12, _ => exact ⟨8, by decide, by decide⟩
  | 13, _ => exact ⟨3, by decide, by decide⟩
  | 14, _ => exact ⟨2, by decide, by decide⟩
  | 15, _ => exact ⟨4, by decide, by decide⟩
theorem pickS {i : Int} (h0 : 0 ≤ i) (h : i < 6) : ∃ v : Int, atI [V.int 0, V.int 1, V.int 1, V.int 2, V.int 3, V.int 0] i = some (V.int v) ∧ 0 ≤ v ∧ v ≤ 3 := by
  obtain ⟨k, rfl⟩ := Int.eq_ofNat_of_zero_le h0
  have hk : k < 6 := by omega
  match k, hk with
  | 0, _ => exact ⟨0, by decide, by decide, by decide⟩
  | 1, _ => exact ⟨1, by decide, by decide, by decide⟩
  | 2, _ => exact ⟨1, by decide, by decide, by decide⟩
  | 3, _ => exact ⟨2, by decide, by decide, by decide⟩
  | 4, _ => exact ⟨3, by decide, by decide, by decide⟩
  | 5, _ => exact ⟨0, by decide, by decide, by decide⟩
theorem prodG {t u : Int} (hu : 1 ≤ u ∧ u ≤ 200000000) (ht : 0 ≤ t ∧ t ≤ 3) : 0 ≤ t * u ∧ t * u ≤ 600000000 := by
  rcases (show t = 0 ∨ t = 1 ∨ t = 2 ∨ t = 3 by omega) with e | e | e | e <;> rw [e] <;> omega
inductive IntsAt : List Expr → List Int → Prop
  | nil : IntsAt [] []
  | cons {i : Int} {j : Nat} {pos : Pos} {es : List Expr} {ns : List Int} : IntsAt es ns → IntsAt (.Constant (.int i) j pos :: es) (i :: ns)
section
variable {X : Cx}
theorem pa_ints {es : List Expr} {ns : List Int} (h : IntsAt es ns) : PA X es (fun _ H Q => Q (vints ns) H) := by
  induction h with
  | nil => exact pa_nil
  | cons _ ih => exact pa_cons pe_int ih
/-- PE, shut: the elaborator does not run the code of a structure's field -/
structure PEb (X : Cx) (e : Expr) (t : TE) : Prop where
  ok : PE X e t
theorem pe_lstB {es : List Expr} {pos : Pos} {ns : List Int} (h : IntsAt es ns) : PEb X (.List es pos) (tLst (fun _ H Q => Q (vints ns) H)) := ⟨pe_lst (pa_ints h)⟩
theorem pe_ixB {a b : Expr} {ta tb : TE} {pos : Pos} {r : R2} (hr : IxR X r) (ha : PEb X a ta) (hb : PE X b tb) (hs : PlainIx b) : PEb X (.Subscript a b pos) (tOp r ta tb) := ⟨pe_ix hr ha.ok hb hs⟩
structure PSb (X : Cx) (st : Stmt) (t : TS) : Prop where
  ok : PS X st t
structure PBb (X : Cx) (st : List Stmt) (t : TS) : Prop where
  ok : PSs X st t
theorem ps_setB {i : Nat} {x : Str} {e : Expr} {te : TE} {pos pos' : Pos} (hN : X.N.Nodup) (hi : X.N[i]? = some x) (hx : Loc X.env.scope x) (he : PEb X e te) (hs : swapsWith e (some (.Name x pos')) pos.line X.env = pure false := by rfl) (hf : X.fn x = true ∨ X.env.scope.names.lookup x = some .local := by first | exact .inl rfl | exact .inr rfl | assumption) : PSb X (.Assign [.Name x pos'] e pos) (tAsg te (gName i)) := ⟨ps_set hN hi hx he.ok hs hf⟩
theorem pss_consB {st : Stmt} {rest : List Stmt} {t u : TS} (h1 : PSb X st t) (h2 : PBb X rest u) : PBb X (st :: rest) (tSeq t u) := ⟨pss_cons h1.ok h2.ok⟩
end
section
variable {P : Program} {w : World} {K : PySem.W.Frag} {mg : Str → Option Value} {base : Heap}
theorem Fun.okB {x qual : Str} {st : Stmt} {f : Addr} {fd : FuncData} {N ps : List Str} {k : Nat} {sp : Sp} (F : Fun K x qual st f fd) (S : FnScope N ps (defScope st)) (len : ∀ vs H Q E, sp vs H Q E → vs.length = ps.length)
    (hbody : ∀ (cdv : Value) (A : Around) (outer : List Env) (s : Shared) (H : Hp) (vs : List V) (Q : VK) (E : XK), Room k (A.deeper (envOfC qual (defScope st) s.heap.objs.size f cdv)) → sp vs H Q E →
      ∃ t, PBb (cxOf CX0 P w K mg base N qual (defScope st) f cdv A outer s H E).nox (defBody st) t ∧ t { nx := fun _ H' => Q .non H', rt := Q } (start N vs) H) : FnOk P w K mg base CX0 (k + 1) f fd ps sp :=
  F.ok S len fun cdv A outer s H vs Q E hr h => (hbody cdv A outer s H vs Q E hr h).elim fun t z => ⟨t, z.1.ok, z.2⟩
end
end L2


namespace Law
open PySem L2
def top (i : Nat) : Stmt := PySem.Challenge.pw_beadhall_k90_rooms.main.body.getD i (.Pass ⟨0, 0, 0, 0⟩)
abbrev s_law_cell : Stmt := top 32
abbrev s_law_num : Stmt := top 33
abbrev s_law_net : Stmt := top 34
abbrev s_law_may : Stmt := top 37
abbrev s_law_behind : Stmt := top 38
abbrev s_law_rooms : Stmt := top 39
abbrev s_is_name : Stmt := top 19
abbrev s_refuse_bad_names : Stmt := top 18
abbrev s_refuse_bad_bags : Stmt := top 20
abbrev s_Net_init : Stmt := inClass (top 17) 0
abbrev s_law_made : Stmt := top 35
abbrev s_Rooms_init : Stmt := inClass (top 27) 0
abbrev s_refuse_unlike : Stmt := top 7
abbrev s_beneath : Stmt := top 10
abbrev s_may : Stmt := top 23
abbrev s_put_room : Stmt := top 29
abbrev s_NoGo_init : Stmt := inClass (top 4) 0
abbrev s_plus : Stmt := top 8
abbrev s_less : Stmt := top 9
abbrev s_gain : Stmt := top 21
abbrev s_walked : Stmt := top 25
abbrev s_after : Stmt := top 24
abbrev s_roomed : Stmt := top 28
abbrev s_law_roomed : Stmt := top 40
abbrev s_law_whole : Stmt := top 36
abbrev s_law_numbers : Stmt := top 41
abbrev s_law_same : Stmt := top 42
abbrev s_run_to : Stmt := top 30
abbrev s_law_leads : Stmt := top 43
abbrev s_law : Stmt := top 44
def sp_law_cell (K : PySem.W.Frag) : Sp := fun vs H Q _ => ∃ (a : Addr) (ns : List Int) (k : Nat), vs = [.ref a, .int k] ∧ SqL K H a (vints ns) ∧ ns.length ≤ 63 ∧ ∀ n : Int, Q (.int n) H
def sp_law_num (K : PySem.W.Frag) : Sp := fun vs H Q _ => ∃ (a : Addr) (ns : List Int) (k : Nat), vs = [.ref a, .int k] ∧ SqL K H a (vints ns) ∧ ns.length ≤ 63 ∧ k < 1000 ∧ ∀ n : Int, 0 ≤ n → n < 998244353 → Q (.int n) H
def sp_law_net (K : PySem.W.Frag) : Sp := fun vs H Q _ => ∃ (a : Addr) (ns : List Int), vs = [.ref a] ∧ SqL K H a (vints ns) ∧ ns.length ≤ 63 ∧
  ∀ (p pt pg pf : Addr) (ts gs : List Addr) (z : Nat) (tk gv : List (List Int)) (fs : List Int) (H' : Hp), Same H H' → PlanR H' p pt pg pf ts gs tk gv fs → OkR z tk gv fs → Q (.ref p) H'
def sp_law_may (K : PySem.W.Frag) : Sp := fun vs H Q _ => ∃ (p pt pg pf pb : Addr) (ts gs : List Addr) (z : Nat) (tk gv : List (List Int)) (fs beads : List Int) (k : Nat), vs = [.ref p, .ref pb, .int k] ∧ PlanR H p pt pg pf ts gs tk gv fs ∧ OkR z tk gv fs ∧ SqL K H pb (vints beads) ∧ beads.length = z ∧ k < tk.length ∧ Q (.bl (bn (tk.getD k []) beads)) H
def sp_law_behind (K : PySem.W.Frag) : Sp := fun vs H Q _ => ∃ (p pt pg pf pb : Addr) (ts gs : List Addr) (z : Nat) (tk gv : List (List Int)) (fs beads : List Int) (k : Nat), vs = [.ref p, .ref pb, .int k] ∧ PlanR H p pt pg pf ts gs tk gv fs ∧ OkR z tk gv fs ∧ SqL K H pb (vints beads) ∧ beads.length = z ∧ k < tk.length ∧
  ∀ (q : Addr) (H' : Hp), H q = none → Same H H' → H' q = some (.lst (vints (behind (tk.getD k []) (gv.getD k []) beads))) → Q (.ref q) H'
def sp_law_rooms (K : PySem.W.Frag) : Sp := fun vs H Q _ => ∃ (p pt pg pf : Addr) (ts gs : List Addr) (z : Nat) (tk gv : List (List Int)) (fs : List Int) (room : Nat), vs = [.ref p, .int room] ∧ PlanR H p pt pg pf ts gs tk gv fs ∧ OkR z tk gv fs ∧ 1 ≤ room ∧ room ≤ 60 ∧
  (roomsF tk gv fs room = none → ∀ H', Same H H' → Q .non H') ∧
  (∀ w, roomsF tk gv fs room = some w → ∀ (q pb pp pc : Addr) (as : List Addr) (H' : Hp), Same H H' → H' q = some (.tup [.ref pb, .ref pp, .ref pc]) → H' pb = some (.lst (as.map V.ref)) → Rows H' as w.bags → H' pp = some (.lst (vints w.par)) → H' pc = some (.lst (vints w.com)) → ROk z room w → Q (.ref q) H')
def sp_is_name (K : PySem.W.Frag) : Sp := fun vs H Q _ => ∃ (x : Str), vs = [.str x] ∧ x.cps.all (· < 128) = true ∧ x.length ≤ 1000 ∧ ∀ H', Same H H' → Q (.bl (okName x)) H'
def sp_refuse_bad_names (K : PySem.W.Frag) : Sp := fun vs H Q _ => ∃ (a : Addr) (ys : List Str) (lo hi : Int), vs = [.ref a, .int lo, .int hi] ∧ SqL K H a (vstrs ys) ∧ lo ≤ ys.length ∧ ys.length ≤ hi ∧ ys.length ≤ 60 ∧ (∀ y ∈ ys, okName y = true) ∧ ys.Nodup ∧ ∀ H', Same H H' → Q .non H'
def sp_refuse_bad_bags (K : PySem.W.Frag) : Sp := fun vs H Q _ => ∃ (a : Addr) (as : List Addr) (rs : List (List Int)) (n : Nat), vs = [.ref a, .int rs.length, .int n] ∧ SqL K H a (as.map V.ref) ∧ Rows H as rs ∧ (∀ r ∈ rs, okBag n r) ∧ Q .non H
def sp_Net_init (C : Addr) (K : PySem.W.Frag) : Sp := fun vs H Q _ => ∃ (x dx pb pd pt pg pf : Addr) (ts gs : List Addr) (N : NetV), vs = [.ref x, .ref pb, .ref pd, .ref pt, .ref pg, .ref pf] ∧ H x = some (.ins C dx []) ∧ N.Ok ∧
  SqL K H pb (vstrs N.bowls) ∧ SqL K H pd (vstrs N.doors) ∧ SqL K H pt (ts.map V.ref) ∧ Rows H ts N.takes ∧ SqL K H pg (gs.map V.ref) ∧ Rows H gs N.gives ∧ H pf = some (.lst (vints N.first)) ∧
  ∀ (b d t g f : Addr) (ts' gs' : List Addr) (H' : Hp), (∀ a ∈ [b, d, t, g, f] ++ ts' ++ gs', H a = none) → (∀ q o, H q = some o → q ≠ x → H' q = some o) → NetIn C H' x dx b d t g f ts' gs' N → Q .non H'
def sp_law_made (C : Addr) (K : PySem.W.Frag) : Sp := fun vs H Q _ => ∃ (p pt pg pf : Addr) (ts gs : List Addr) (tk gv : List (List Int)) (fs : List Int), vs = [.ref p] ∧ PlanR H p pt pg pf ts gs tk gv fs ∧ OkR fs.length tk gv fs ∧
  ∀ (x dx b d t g f : Addr) (ts' gs' : List Addr) (H' : Hp), H x = none → Same H H' → NetIn C H' x dx b d t g f ts' gs' (netR tk gv fs) → (netR tk gv fs).Ok → Q (.ref x) H'
def sp_Rooms_init (C : Addr) (K : PySem.W.Frag) : Sp := fun vs H Q _ => ∃ (x dx pg : Addr) (first : List Int), vs = [.ref x, .ref pg] ∧ H x = some (.ins C dx []) ∧ SqL K H pg (vints first) ∧
  ∀ (a b m l : Addr) (H' : Hp), H a = none → H b = none → H m = none → H l = none → (∀ q o, H q = some o → q ≠ x → H' q = some o) → RIn C H' x dx b m l [a] ⟨[first], [-1], [-1]⟩ → Q .non H'
def sp_refuse_unlike (K : PySem.W.Frag) : Sp := fun vs H Q _ => ∃ (a b : Addr) (xs ys : List V), vs = [.ref a, .ref b] ∧ SqL K H a xs ∧ SqL K H b ys ∧ xs.length = ys.length ∧ Q .non H
def sp_beneath (K : PySem.W.Frag) : Sp := fun vs H Q _ => ∃ (a b : Addr) (xs ys : List Int), vs = [.ref a, .ref b] ∧ SqL K H a (vints xs) ∧ SqL K H b (vints ys) ∧ xs.length = ys.length ∧ xs.length ≤ 70 ∧
  ∀ (H' : Hp), Same H H' → Q (.bl (bn xs ys)) H'
def sp_may (C : Addr) (K : PySem.W.Frag) : Sp := fun vs H Q _ => ∃ (x dx b d t g f c : Addr) (ts gs : List Addr) (N : NetV) (bs : List Int) (k : Nat), vs = [.ref x, .ref c, .int k] ∧ NetIn C H x dx b d t g f ts gs N ∧ N.Ok ∧ SqL K H c (vints bs) ∧ bs.length = N.bowls.length ∧ k < N.takes.length ∧ ∀ H', Same H H' → Q (.bl (bn (N.takes.getD k []) bs)) H'
def sp_put_room (C G : Addr) (K : PySem.W.Frag) : Sp := fun vs H Q E => ∃ (H0 : Hp) (x dx b m l pb : Addr) (as : List Addr) (w : RV) (bag : List Int) (z want door room : Nat), vs = [.ref x, .int want, .int door, .ref pb, .int room] ∧ Same H0 H ∧ H0 b = none ∧ H0 m = none ∧ H0 l = none ∧ RIn C H x dx b m l as w ∧ ROk z room w ∧ H pb = some (.lst (vints bag)) ∧ bag.length = z ∧ 1 ≤ z ∧ z ≤ 6 ∧ room ≤ 60 ∧ pb ≠ b ∧ pb ≠ m ∧ pb ≠ l ∧
  (∀ w', putR room w want door bag = some w' → ∀ (as' : List Addr) (H' : Hp), Same H0 H' → RIn C H' x dx b m l as' w' → ROk z room w' → (∀ a ∈ as', a ∈ as ∨ a = pb) → Q .non H') ∧
  (putR room w want door bag = none → ∀ H', Same H0 H' → E (.ref G) none H')
def sp_NoGo_init (C : Addr) (K : PySem.W.Frag) : Sp := spXI C "at"
abbrev sp_plus : PySem.W.Frag → Sp := sp_zipd (fun i j => i + j)
abbrev sp_less : PySem.W.Frag → Sp := sp_zipd (fun i j => i - j)
def sp_gain (C : Addr) (K : PySem.W.Frag) : Sp := fun vs H Q _ => ∃ (x dx b d t g f : Addr) (ts gs : List Addr) (N : NetV) (k : Nat) (ht : k < N.takes.length) (hg : k < N.gives.length), vs = [.ref x, .int k] ∧ NetIn C H x dx b d t g f ts gs N ∧ N.Ok ∧
  ∀ (p : Addr) (H' : Hp), H p = none → Same H H' → H' p = some (.lst (vints (List.zipWith (fun i j => i - j) N.gives[k] N.takes[k]))) → Q (.ref p) H'
def sp_walked (C G : Addr) (K : PySem.W.Frag) : Sp := fun vs H Q E => ∃ (x dx b d t g f c r : Addr) (ts gs : List Addr) (N : NetV) (bs : List Int) (ds : List Nat), vs = [.ref x, .ref c, .ref r] ∧ NetIn C H x dx b d t g f ts gs N ∧ N.Ok ∧ SqL K H c (vints bs) ∧ bs.length = N.bowls.length ∧ SqL K H r (vints (zs ds)) ∧ ds.length ≤ 200 ∧ (∀ k ∈ ds, k < N.takes.length) ∧
  (ds.length < (metL N.takes N.gives bs ds).length → ∀ (p : Addr) (as : List Addr) (H' : Hp), H p = none → (∀ a ∈ as, H a = none) → as.Nodup → p ∉ as → Same H H' → H' p = some (.lst (as.map V.ref)) → Rows H' as (metL N.takes N.gives bs ds) → Q (.ref p) H') ∧
  ((metL N.takes N.gives bs ds).length ≤ ds.length → ∀ (e : Addr) (H' : Hp), Same H H' → H e = none → H' e = some (.xd [("at", .int ((metL N.takes N.gives bs ds).length - 1 : Nat))]) → E (.ref G) (some e) H')
def sp_after (C G : Addr) (K : PySem.W.Frag) : Sp := fun vs H Q E => ∃ (x dx b d t g f c : Addr) (ts gs : List Addr) (N : NetV) (bs : List Int) (k : Nat), vs = [.ref x, .ref c, .int k] ∧ NetIn C H x dx b d t g f ts gs N ∧ N.Ok ∧ SqL K H c (vints bs) ∧ bs.length = N.bowls.length ∧ k < N.takes.length ∧
  (bn (N.takes.getD k []) bs = true → ∀ (p : Addr) (H' : Hp), H p = none → Same H H' → H' p = some (.lst (vints (behind (N.takes.getD k []) (N.gives.getD k []) bs))) → Q (.ref p) H') ∧
  (bn (N.takes.getD k []) bs = false → ∀ (e : Addr) (H' : Hp), Same H H' → H e = none → H' e = some (.xd [("at", .int 0)]) → E (.ref G) (some e) H')
def sp_roomed (C CR G NG : Addr) (K : PySem.W.Frag) : Sp := fun vs H Q E => ∃ (x dx b d t g f : Addr) (ts gs : List Addr) (N : NetV) (room : Nat), vs = [.ref x, .int room] ∧ NetIn C H x dx b d t g f ts gs N ∧ N.Ok ∧ 1 ≤ room ∧ room ≤ 60 ∧
  (∀ w, roomsF N.takes N.gives N.first room = some w → ∀ (y dy b m l : Addr) (as : List Addr) (H' : Hp), H y = none → Same H H' → RIn CR H' y dy b m l as w → ROk N.bowls.length room w → Q (.ref y) H') ∧
  (roomsF N.takes N.gives N.first room = none → ∀ H', Same H H' → E (.ref G) none H')
def sp_law_roomed (C CR : Addr) (K : PySem.W.Frag) : Sp := fun vs H Q _ => ∃ (x dx b d t g f : Addr) (ts gs : List Addr) (N : NetV) (room : Nat), vs = [.ref x, .int room] ∧ NetIn C H x dx b d t g f ts gs N ∧ N.Ok ∧ 1 ≤ room ∧ room ≤ 60 ∧
  ∀ (fv : V) (H' : Hp), Same H H' → ((fv = .non ∧ roomsF N.takes N.gives N.first room = none) ∨ ∃ (w : RV) (y dy wb wm wl : Addr) (as : List Addr), fv = .ref y ∧ roomsF N.takes N.gives N.first room = some w ∧ RIn CR H' y dy wb wm wl as w ∧ ROk N.bowls.length room w) → Q fv H'
def sp_law_whole (K : PySem.W.Frag) : Sp := fun vs H Q _ => ∃ (i : Int), vs = [.int i] ∧ Q (.bl true) H
def sp_law_numbers (K : PySem.W.Frag) : Sp := fun vs H Q _ => ∃ (a b : Addr) (xs ys : List Int), vs = [.ref a, .ref b] ∧ H a = some (.lst (vints xs)) ∧ SqL K H b (vints ys) ∧ ys.length ≤ 70 ∧ Q (.bl (decide (xs = ys))) H
def sp_law_same (C : Addr) (K : PySem.W.Frag) : Sp := fun vs H Q _ => ∃ (y dy wb wm wl q pb pp pc : Addr) (as bs : List Addr) (w : RV) (z room : Nat), vs = [.ref y, .ref q] ∧ RIn C H y dy wb wm wl as w ∧ ROk z room w ∧ room ≤ 60 ∧ z ≤ 6 ∧ H q = some (.tup [.ref pb, .ref pp, .ref pc]) ∧ H pb = some (.lst (bs.map V.ref)) ∧ Rows H bs w.bags ∧ H pp = some (.lst (vints w.par)) ∧ H pc = some (.lst (vints w.com)) ∧ Q (.bl true) H
def sp_run_to (C : Addr) (K : PySem.W.Frag) : Sp := fun vs H Q _ => ∃ (x dx b m l : Addr) (as : List Addr) (w : RV) (z room num : Nat) (tk gv : List (List Int)) (first : List Int), vs = [.ref x, .int num] ∧ RIn C H x dx b m l as w ∧ ROk z room w ∧ RGood tk gv first w ∧ room ≤ 60 ∧ num < w.bags.length ∧
  ∀ (p : Addr) (H' : Hp), H p = none → Same H H' → H' p = some (.lst (vints (zs (chR w w.bags.length num).reverse))) → Q (.ref p) H'
def sp_law_leads (C : Addr) (K : PySem.W.Frag) : Sp := fun vs H Q _ => ∃ (p pt pg pf y dy wb wm wl q pb pp pc : Addr) (ts gs as bs : List Addr) (tk gv : List (List Int)) (fs : List Int) (w : RV) (z room num : Nat), vs = [.ref p, .ref y, .int num, .ref q] ∧ PlanR H p pt pg pf ts gs tk gv fs ∧ OkR z tk gv fs ∧ RIn C H y dy wb wm wl as w ∧ ROk z room w ∧ RGood tk gv fs w ∧ room ≤ 60 ∧ H q = some (.tup [.ref pb, .ref pp, .ref pc]) ∧ H pb = some (.lst (bs.map V.ref)) ∧ Rows H bs w.bags ∧ num < w.bags.length ∧ ∀ H', Same H H' → Q (.bl true) H'
def sp_law (K : PySem.W.Frag) : Sp := fun vs H Q _ => ∃ (a : Addr) (ns : List Int), vs = [.ref a] ∧ SqL K H a (vints ns) ∧ ns.length ≤ 63 ∧ ∀ H', Q (.bl true) H'
set_option genInjectivity false in
set_option genSizeOf false in
structure Adr where
  f_law_cell : Addr
  f_law_num : Addr
  f_law_net : Addr
  f_law_may : Addr
  f_law_behind : Addr
  f_law_rooms : Addr
  f_is_name : Addr
  f_refuse_bad_names : Addr
  f_refuse_bad_bags : Addr
  f_Net_init : Addr
  f_law_made : Addr
  f_Rooms_init : Addr
  f_refuse_unlike : Addr
  f_beneath : Addr
  f_may : Addr
  f_put_room : Addr
  f_NoGo_init : Addr
  f_plus : Addr
  f_less : Addr
  f_gain : Addr
  f_walked : Addr
  f_after : Addr
  f_roomed : Addr
  f_law_roomed : Addr
  f_law_whole : Addr
  f_law_numbers : Addr
  f_law_same : Addr
  f_run_to : Addr
  f_law_leads : Addr
  f_law : Addr
  C_Net : Addr
  C_Rooms : Addr
  C_HallError : Addr
  C_TooWide : Addr
  C_NoGo : Addr
set_option genInjectivity false in
set_option genSizeOf false in
structure Fds where
  d_law_cell : FuncData
  d_law_num : FuncData
  d_law_net : FuncData
  d_law_may : FuncData
  d_law_behind : FuncData
  d_law_rooms : FuncData
  d_is_name : FuncData
  d_refuse_bad_names : FuncData
  d_refuse_bad_bags : FuncData
  d_Net_init : FuncData
  d_law_made : FuncData
  d_Rooms_init : FuncData
  d_refuse_unlike : FuncData
  d_beneath : FuncData
  d_may : FuncData
  d_put_room : FuncData
  d_NoGo_init : FuncData
  d_plus : FuncData
  d_less : FuncData
  d_gain : FuncData
  d_walked : FuncData
  d_after : FuncData
  d_roomed : FuncData
  d_law_roomed : FuncData
  d_law_whole : FuncData
  d_law_numbers : FuncData
  d_law_same : FuncData
  d_run_to : FuncData
  d_law_leads : FuncData
  d_law : FuncData
structure Txt (K : PySem.W.Frag) (mg : Str → Option Value) (AR : Adr) (FR : Fds) : Prop where
  F_law_cell : Fun K "_law_cell" "_law_cell" s_law_cell AR.f_law_cell FR.d_law_cell
  m_law_cell : mg "_law_cell" = some (.ref AR.f_law_cell)
  b_law_cell : Binds K FR.d_law_cell ["script", "k"] []
  F_law_num : Fun K "_law_num" "_law_num" s_law_num AR.f_law_num FR.d_law_num
  m_law_num : mg "_law_num" = some (.ref AR.f_law_num)
  b_law_num : Binds K FR.d_law_num ["script", "k"] []
  F_law_net : Fun K "_law_net" "_law_net" s_law_net AR.f_law_net FR.d_law_net
  m_law_net : mg "_law_net" = some (.ref AR.f_law_net)
  b_law_net : Binds K FR.d_law_net ["script"] []
  F_law_may : Fun K "_law_may" "_law_may" s_law_may AR.f_law_may FR.d_law_may
  m_law_may : mg "_law_may" = some (.ref AR.f_law_may)
  b_law_may : Binds K FR.d_law_may ["plan", "beads", "door"] []
  F_law_behind : Fun K "_law_behind" "_law_behind" s_law_behind AR.f_law_behind FR.d_law_behind
  m_law_behind : mg "_law_behind" = some (.ref AR.f_law_behind)
  b_law_behind : Binds K FR.d_law_behind ["plan", "beads", "door"] []
  F_law_rooms : Fun K "_law_rooms" "_law_rooms" s_law_rooms AR.f_law_rooms FR.d_law_rooms
  m_law_rooms : mg "_law_rooms" = some (.ref AR.f_law_rooms)
  b_law_rooms : Binds K FR.d_law_rooms ["plan", "room"] []
  F_is_name : Fun K "is_name" "is_name" s_is_name AR.f_is_name FR.d_is_name
  m_is_name : mg "is_name" = some (.ref AR.f_is_name)
  b_is_name : Binds K FR.d_is_name ["word"] []
  F_refuse_bad_names : Fun K "refuse_bad_names" "refuse_bad_names" s_refuse_bad_names AR.f_refuse_bad_names FR.d_refuse_bad_names
  m_refuse_bad_names : mg "refuse_bad_names" = some (.ref AR.f_refuse_bad_names)
  b_refuse_bad_names : Binds K FR.d_refuse_bad_names ["names", "least", "most"] []
  F_refuse_bad_bags : Fun K "refuse_bad_bags" "refuse_bad_bags" s_refuse_bad_bags AR.f_refuse_bad_bags FR.d_refuse_bad_bags
  m_refuse_bad_bags : mg "refuse_bad_bags" = some (.ref AR.f_refuse_bad_bags)
  b_refuse_bad_bags : Binds K FR.d_refuse_bad_bags ["bags", "many", "width"] []
  F_Net_init : Fun K "__init__" "Net.__init__" s_Net_init AR.f_Net_init FR.d_Net_init
  b_Net_init : Binds K FR.d_Net_init ["self", "bowls", "doors", "takes", "gives", "first"] []
  F_law_made : Fun K "_law_made" "_law_made" s_law_made AR.f_law_made FR.d_law_made
  m_law_made : mg "_law_made" = some (.ref AR.f_law_made)
  b_law_made : Binds K FR.d_law_made ["plan"] []
  F_Rooms_init : Fun K "__init__" "Rooms.__init__" s_Rooms_init AR.f_Rooms_init FR.d_Rooms_init
  b_Rooms_init : Binds K FR.d_Rooms_init ["self", "first"] []
  F_refuse_unlike : Fun K "refuse_unlike" "refuse_unlike" s_refuse_unlike AR.f_refuse_unlike FR.d_refuse_unlike
  m_refuse_unlike : mg "refuse_unlike" = some (.ref AR.f_refuse_unlike)
  b_refuse_unlike : Binds K FR.d_refuse_unlike ["ones", "others"] []
  F_beneath : Fun K "beneath" "beneath" s_beneath AR.f_beneath FR.d_beneath
  m_beneath : mg "beneath" = some (.ref AR.f_beneath)
  b_beneath : Binds K FR.d_beneath ["ones", "others"] []
  F_may : Fun K "may" "may" s_may AR.f_may FR.d_may
  m_may : mg "may" = some (.ref AR.f_may)
  b_may : Binds K FR.d_may ["net", "beads", "door"] []
  F_put_room : Fun K "put_room" "put_room" s_put_room AR.f_put_room FR.d_put_room
  m_put_room : mg "put_room" = some (.ref AR.f_put_room)
  b_put_room : Binds K FR.d_put_room ["found", "parent", "door", "beads", "room"] []
  F_NoGo_init : Fun K "__init__" "NoGo.__init__" s_NoGo_init AR.f_NoGo_init FR.d_NoGo_init
  b_NoGo_init : Binds K FR.d_NoGo_init ["self", "words", "at"] []
  F_plus : Fun K "plus" "plus" s_plus AR.f_plus FR.d_plus
  m_plus : mg "plus" = some (.ref AR.f_plus)
  b_plus : Binds K FR.d_plus ["ones", "others"] []
  F_less : Fun K "less" "less" s_less AR.f_less FR.d_less
  m_less : mg "less" = some (.ref AR.f_less)
  b_less : Binds K FR.d_less ["ones", "others"] []
  F_gain : Fun K "gain" "gain" s_gain AR.f_gain FR.d_gain
  m_gain : mg "gain" = some (.ref AR.f_gain)
  b_gain : Binds K FR.d_gain ["net", "door"] []
  F_walked : Fun K "walked" "walked" s_walked AR.f_walked FR.d_walked
  m_walked : mg "walked" = some (.ref AR.f_walked)
  b_walked : Binds K FR.d_walked ["net", "beads", "doors"] []
  F_after : Fun K "after" "after" s_after AR.f_after FR.d_after
  m_after : mg "after" = some (.ref AR.f_after)
  b_after : Binds K FR.d_after ["net", "beads", "door"] []
  F_roomed : Fun K "roomed" "roomed" s_roomed AR.f_roomed FR.d_roomed
  m_roomed : mg "roomed" = some (.ref AR.f_roomed)
  b_roomed : Binds K FR.d_roomed ["net", "room"] []
  F_law_roomed : Fun K "_law_roomed" "_law_roomed" s_law_roomed AR.f_law_roomed FR.d_law_roomed
  m_law_roomed : mg "_law_roomed" = some (.ref AR.f_law_roomed)
  b_law_roomed : Binds K FR.d_law_roomed ["net", "room"] []
  F_law_whole : Fun K "_law_whole" "_law_whole" s_law_whole AR.f_law_whole FR.d_law_whole
  m_law_whole : mg "_law_whole" = some (.ref AR.f_law_whole)
  b_law_whole : Binds K FR.d_law_whole ["found"] []
  F_law_numbers : Fun K "_law_numbers" "_law_numbers" s_law_numbers AR.f_law_numbers FR.d_law_numbers
  m_law_numbers : mg "_law_numbers" = some (.ref AR.f_law_numbers)
  b_law_numbers : Binds K FR.d_law_numbers ["found", "due"] []
  F_law_same : Fun K "_law_same" "_law_same" s_law_same AR.f_law_same FR.d_law_same
  m_law_same : mg "_law_same" = some (.ref AR.f_law_same)
  b_law_same : Binds K FR.d_law_same ["found", "due"] []
  F_run_to : Fun K "run_to" "run_to" s_run_to AR.f_run_to FR.d_run_to
  m_run_to : mg "run_to" = some (.ref AR.f_run_to)
  b_run_to : Binds K FR.d_run_to ["found", "number"] []
  F_law_leads : Fun K "_law_leads" "_law_leads" s_law_leads AR.f_law_leads FR.d_law_leads
  m_law_leads : mg "_law_leads" = some (.ref AR.f_law_leads)
  b_law_leads : Binds K FR.d_law_leads ["plan", "found", "at", "due"] []
  F_law : Fun K "law" "law" s_law AR.f_law FR.d_law
  m_law : mg "law" = some (.ref AR.f_law)
  b_law : Binds K FR.d_law ["script"] []
  z_len : mg "len" = none
  z_range : mg "range" = none
  z_list : mg "list" = none
  z_all : mg "all" = none
  z_set : mg "set" = none
  z_zip : mg "zip" = none
  z_enumerate : mg "enumerate" = none
  z_isinstance : mg "isinstance" = none
  z_int : mg "int" = none
  z_bool : mg "bool" = none
  z_reversed : mg "reversed" = none
  cl_Net : Cls K AR.C_Net
  mC_Net : mg "Net" = some (.ref AR.C_Net)
  mk_Net : Mk K AR.C_Net AR.f_Net_init
  n_Net_bowls : NoAttr K AR.C_Net "bowls"
  n_Net_doors : NoAttr K AR.C_Net "doors"
  n_Net_takes : NoAttr K AR.C_Net "takes"
  n_Net_gives : NoAttr K AR.C_Net "gives"
  n_Net_first : NoAttr K AR.C_Net "first"
  cl_Rooms : Cls K AR.C_Rooms
  mC_Rooms : mg "Rooms" = some (.ref AR.C_Rooms)
  mk_Rooms : Mk K AR.C_Rooms AR.f_Rooms_init
  n_Rooms_bags : NoAttr K AR.C_Rooms "bags"
  n_Rooms_parents : NoAttr K AR.C_Rooms "parents"
  n_Rooms_comers : NoAttr K AR.C_Rooms "comers"
  mC_HallError : mg "HallError" = some (.ref AR.C_HallError)
  ec_HallError : ecIn K AR.C_HallError excMro = true
  xp_HallError : XPlain K AR.C_HallError excMro
  mC_TooWide : mg "TooWide" = some (.ref AR.C_TooWide)
  ec_TooWide : ecIn K AR.C_TooWide (.ref AR.C_HallError :: excMro) = true
  xp_TooWide : XPlain K AR.C_TooWide (.ref AR.C_HallError :: excMro)
  mC_NoGo : mg "NoGo" = some (.ref AR.C_NoGo)
  ec_NoGo : ecIn K AR.C_NoGo (.ref AR.C_HallError :: excMro) = true
  xs_NoGo : XSet K AR.C_NoGo
  xn_NoGo : XInit K AR.C_NoGo (.ref AR.C_HallError :: excMro) AR.f_NoGo_init
  xa_NoGo_at : NoAttr K AR.C_NoGo "at"
  xb_HallError : XBase K AR.C_HallError
  c_MOST_SIGNS : ∃ t, mg "MOST_SIGNS" = some (.int 8 t)
  c_MOST_BEADS : ∃ t, mg "MOST_BEADS" = some (.int 1000000000 t)
  c_LEAST_BOWLS : ∃ t, mg "LEAST_BOWLS" = some (.int 1 t)
  c_MOST_BOWLS : ∃ t, mg "MOST_BOWLS" = some (.int 6 t)
  c_MOST_DOORS : ∃ t, mg "MOST_DOORS" = some (.int 8 t)
section
variable {P : Program} {w : World} {K : PySem.W.Frag} {mg : Str → Option Value} {base : Heap} {AR : Adr} {FR : Fds}
theorem sc_law_cell : FnScope ["script", "k"] ["script", "k"] (defScope s_law_cell) := ⟨rfl, rfl, rfl, by decide +kernel, rfl, by decide +kernel, by decide +kernel⟩
set_option maxHeartbeats 4000000 in
theorem ok_law_cell (T : Txt K mg AR FR) : FnOk P w K mg base CX0 1 AR.f_law_cell FR.d_law_cell ["script", "k"] (sp_law_cell K) := by
  refine T.F_law_cell.ok sc_law_cell (fun vs H Q E h => ?_) (fun cdv A outer s H vs Q E hr h => ?_)
  · obtain ⟨a, ns, k, rfl, hS, h63, hQ⟩ := h
    rfl
  · obtain ⟨a, ns, k, rfl, hS, h63, hQ⟩ := h
    refine ⟨_, (pss_cons (ps_if (pt_cmpR op_eq (pe_callB call_len_seq (by rfl) T.z_len bt_len (pa_cons (pv 0) pa_nil)) pe_int (nomark _)) (pss_one (ps_ret pe_int)) pss_nil)
      (pss_one (ps_ret (pe_ix ix_list (pv 0) (pe_op op_mod (pv 1) (pe_callB call_len_seq (by rfl) T.z_len bt_len (pa_cons (pv 0) pa_nil))) (fun _ _ => rfl))))), ?_⟩
    refine ⟨_, rfl, a, _, rfl, .inl hS, rfl, _, rfl, ?_⟩
    refine iteD (fun _ => hQ 0) (fun h0 => ?_)
    rw [ints_len] at h0
    have h0 : 0 < ns.length := by
      rcases Nat.eq_zero_or_pos ns.length with e | e
      · exact absurd (by rw [e]; rfl) h0
      · exact e
    have e : ((k : Nat) : Int) % (((vints ns).length : Nat) : Int) = ((k % ns.length : Nat) : Int) := by rw [ints_len, Int.natCast_emod]
    refine ⟨_, rfl, _, rfl, _, rfl, a, _, rfl, .inl hS, _, _, rfl, rfl, (by rw [ints_len]; omega), a, _, _, V.int (ns[k % ns.length]'(Nat.mod_lt _ h0)), rfl, rfl, hS, ?_, hQ _⟩
    rw [e]
    exact ints_at (Nat.mod_lt _ h0)
theorem sc_law_num : FnScope ["script", "k", "mixed"] ["script", "k"] (defScope s_law_num) := ⟨rfl, rfl, rfl, by decide +kernel, rfl, by decide +kernel, by decide +kernel⟩
set_option maxHeartbeats 4000000 in
theorem ok_law_num (T : Txt K mg AR FR) : FnOk P w K mg base CX0 2 AR.f_law_num FR.d_law_num ["script", "k"] (sp_law_num K) := by
  have G_law_cell : FnOk P w K mg base CX0 1 AR.f_law_cell FR.d_law_cell _ (sp_law_cell K) := ok_law_cell T
  refine T.F_law_num.ok sc_law_num (fun vs H Q E h => ?_) (fun cdv A outer s H vs Q E hr h => ?_)
  · obtain ⟨a, ns, k, rfl, hS, h63, k1, hQ⟩ := h
    rfl
  · obtain ⟨a, ns, k, rfl, hS, h63, k1, hQ⟩ := h
    refine ⟨_, (pss_cons (ps_set (i := 2) sc_law_num.nd rfl (Or.inl rfl) (pe_op op_mod (pe_op op_mul (pe_op op_add (pe_op op_add (pe_op op_mod (pe_call G_law_cell (hr.mono (by decide)) (by rfl) T.m_law_cell T.F_law_cell.kp T.b_law_cell .nil pass0 (pa_cons (pv 0) (pa_cons (pv 1) pa_nil))) pe_int) (pe_op op_mul pe_int (pv 1))) pe_int) (pe_op op_add (pe_op op_add pe_int (pe_op op_mul (pe_op op_mul pe_int (pv 1)) (pv 1))) (pv 1))) pe_int))
      (pss_one (ps_ret (pe_op op_mod (pe_op op_mul (pv 2) (pv 2)) pe_int)))), ?_⟩
    refine ⟨_, rfl, _, rfl, a, ns, k, rfl, hS, h63, fun c => ?_⟩
    have m1 : 0 ≤ c % 1000000007 := Int.emod_nonneg _ (by decide)
    have m2 : c % 1000000007 < 1000000007 := Int.emod_lt_of_pos _ (by decide)
    refine ⟨_, _, rfl, rfl, (by show (0 : Int) < 1000000007; decide), _, rfl, _, _, rfl, rfl, .inl ⟨by decide, by decide⟩, _, _, rfl, rfl, _, _, rfl, rfl, ?_⟩
    refine ⟨_, rfl, _, _, rfl, rfl, .inl ⟨by decide, by decide⟩, _, rfl, _, _, rfl, rfl, .inr ⟨by omega, by omega⟩, _, _, rfl, rfl, _, rfl, _, _, rfl, rfl, _, _, rfl, rfl, .inl ⟨by omega, by omega⟩, _, _, rfl, rfl, (by show (0 : Int) < 1000000007; decide), ?_⟩
    dsimp only
    generalize hx : (c % 1000000007 + 7919 * (k : Int) + 11) * (48271 + 6 * (k : Int) * (k : Int) + (k : Int)) % 1000000007 = mm
    have x1 : 0 ≤ mm := by rw [← hx]; exact Int.emod_nonneg _ (by decide)
    have x2 : mm < 1000000007 := by rw [← hx]; exact Int.emod_lt_of_pos _ (by decide)
    exact ⟨_, rfl, _, rfl, _, _, rfl, rfl, .inl ⟨by omega, by omega⟩, _, _, rfl, rfl, (by show (0 : Int) < 998244353; decide), hQ _ (Int.emod_nonneg _ (by decide)) (Int.emod_lt_of_pos _ (by decide))⟩
theorem sc_law_net : FnScope ["script", "width", "many", "grow", "some", "first", "k", "small", "takes", "gives", "d"] ["script"] (defScope s_law_net) := ⟨rfl, rfl, rfl, by decide +kernel, rfl, by decide +kernel, by decide +kernel⟩
set_option maxHeartbeats 40000000 in
theorem ok_law_net (T : Txt K mg AR FR) : FnOk P w K mg base CX0 3 AR.f_law_net FR.d_law_net ["script"] (sp_law_net K) := by
  have G_law_num : FnOk P w K mg base CX0 2 AR.f_law_num FR.d_law_num _ (sp_law_num K) := ok_law_num T
  refine T.F_law_net.okB sc_law_net (fun vs H Q E h => ?_) (fun cdv A outer s H vs Q E hr h => ?_)
  · obtain ⟨a, ns, rfl, hS, h63, hQ⟩ := h
    rfl
  · obtain ⟨a, ns, rfl, hS, h63, hQ⟩ := h
    refine ⟨_, (pss_consB (ps_setB (i := 1) sc_law_net.nd rfl (Or.inl rfl) (pe_ixB ix_list (pe_lstB (ns := [1, 2, 2, 3, 3, 3, 4, 2, 3, 5, 6, 3]) (IntsAt.cons (IntsAt.cons (IntsAt.cons (IntsAt.cons (IntsAt.cons (IntsAt.cons (IntsAt.cons (IntsAt.cons (IntsAt.cons (IntsAt.cons (IntsAt.cons (IntsAt.cons IntsAt.nil))))))))))))) (pe_op op_mod (pe_call G_law_num (hr.mono (by decide)) (by rfl) T.m_law_num T.F_law_num.kp T.b_law_num .nil pass0 (pa_cons (pv 0) (pa_cons pe_int pa_nil))) pe_int) (fun _ _ => rfl)))
      (pss_consB (ps_setB (i := 2) sc_law_net.nd rfl (Or.inl rfl) (pe_ixB ix_list (pe_lstB (ns := [0, 1, 2, 2, 3, 3, 4, 2, 3, 5, 6, 7, 8, 3, 2, 4]) (IntsAt.cons (IntsAt.cons (IntsAt.cons (IntsAt.cons (IntsAt.cons (IntsAt.cons (IntsAt.cons (IntsAt.cons (IntsAt.cons (IntsAt.cons (IntsAt.cons (IntsAt.cons (IntsAt.cons (IntsAt.cons (IntsAt.cons (IntsAt.cons IntsAt.nil))))))))))))))))) (pe_op op_mod (pe_call G_law_num (hr.mono (by decide)) (by rfl) T.m_law_num T.F_law_num.kp T.b_law_num .nil pass0 (pa_cons (pv 0) (pa_cons pe_int pa_nil))) pe_int) (fun _ _ => rfl)))
      (PBb.mk (pss_cons (ps_set (i := 3) sc_law_net.nd rfl (Or.inr rfl) pe_int)
      (pss_cons (ps_if (pt_cmpR op_eq (pe_op op_mod (pe_call G_law_num (hr.mono (by decide)) (by rfl) T.m_law_num T.F_law_num.kp T.b_law_num .nil pass0 (pa_cons (pv 0) (pa_cons pe_int pa_nil))) pe_int) pe_int (nomark _)) (pss_one (ps_set (i := 3) sc_law_net.nd rfl (Or.inr rfl) (pe_op op_add pe_int (pe_op op_mod (pe_call G_law_num (hr.mono (by decide)) (by rfl) T.m_law_num T.F_law_num.kp T.b_law_num .nil pass0 (pa_cons (pv 0) (pa_cons pe_int pa_nil))) pe_int)))) pss_nil)
      (pss_cons (ps_set (i := 4) sc_law_net.nd rfl (Or.inr rfl) (pe_lst (pa_cons pe_int (pa_cons pe_int (pa_cons pe_int (pa_cons pe_int (pa_cons pe_int (pa_cons pe_int pa_nil))))))))
      (pss_cons (ps_if (pt_cmpR op_gt (pv 1) pe_int (nomark _)) (pss_one (ps_set (i := 4) sc_law_net.nd rfl (Or.inr rfl) (pe_lst (pa_cons pe_int (pa_cons pe_int (pa_cons pe_int (pa_cons pe_int (pa_cons pe_int (pa_cons pe_int (pa_cons pe_int (pa_cons pe_int (pa_cons pe_int pa_nil)))))))))))) pss_nil)
      (pss_cons (ps_set (i := 5) sc_law_net.nd rfl (Or.inl rfl) (pe_lst pa_nil))
      (pss_cons (ps_for PassesOwn.never rfl (pi_range1 (by rfl) T.z_range (pa_cons (pv 1) pa_nil)) (pg_name (i := 6) sc_law_net.nd (by rfl) (Or.inl rfl))
      (pss_cons (ps_set (i := 7) sc_law_net.nd rfl (Or.inl rfl) (pe_ix ix_list (pe_lst (pa_cons pe_int (pa_cons pe_int (pa_cons pe_int (pa_cons pe_int (pa_cons pe_int (pa_cons pe_int pa_nil))))))) (pe_op op_mod (pe_call G_law_num (hr.mono (by decide)) (by rfl) T.m_law_num T.F_law_num.kp T.b_law_num .nil pass0 (pa_cons (pv 0) (pa_cons (pe_op op_add pe_int (pv 6)) pa_nil))) pe_int) (fun _ _ => rfl)))
      (pss_one (ps_expr (pe_bm PySem.F.plainAttrs_list PySem.F.slot_list_append PySem.F.type_list_append mt_append (pv 5) (pa_cons (pe_op op_add (pe_op op_mul (pv 7) (pv 3)) (pe_op op_mod (pe_call G_law_num (hr.mono (by decide)) (by rfl) T.m_law_num T.F_law_num.kp T.b_law_num .nil pass0 (pa_cons (pv 0) (pa_cons (pe_op op_add pe_int (pv 6)) pa_nil))) (pv 3))) pa_nil))))))
      (pss_cons (ps_set (i := 8) sc_law_net.nd rfl (Or.inl rfl) (pe_lst pa_nil))
      (pss_cons (ps_set (i := 9) sc_law_net.nd rfl (Or.inl rfl) (pe_lst pa_nil))
      (pss_cons (ps_for PassesOwn.never rfl (pi_range1 (by rfl) T.z_range (pa_cons (pv 2) pa_nil)) (pg_name (i := 10) sc_law_net.nd (by rfl) (Or.inr rfl))
      (pss_cons (ps_expr (pe_bm PySem.F.plainAttrs_list PySem.F.slot_list_append PySem.F.type_list_append mt_append (pv 8) (pa_cons (pe_comp (N' := ["k", "some", "script", "d", "grow"]) (nt := 1) (caps := [4, 0, 10, 3]) _ _ (CompScope.of (by kernel_rfl)) (pi_range1 (by rfl) T.z_range (pa_cons (pv 1) pa_nil)) (fun _ => (pg_nameC (i := 0) ["k", "some", "script", "d", "grow"] (by decide +kernel) (by rfl))) (fun _ => pts_nil) (fun _ => (pe_op op_mul (pe_ix ix_list (pv 1) (pe_op op_mod (pe_call G_law_num (hr.mono (by decide)) (by rfl) T.m_law_num T.F_law_num.kp T.b_law_num .nil pass0 (pa_cons (pv 2) (pa_cons (pe_op op_add (pe_op op_add pe_int (pe_op op_mul pe_int (pv 3))) (pv 0)) pa_nil))) (pe_callB call_len_seq (by rfl) T.z_len bt_len (pa_cons (pv 1) pa_nil))) (fun _ _ => rfl)) (pv 4)))) pa_nil)))
      (pss_one (ps_expr (pe_bm PySem.F.plainAttrs_list PySem.F.slot_list_append PySem.F.type_list_append mt_append (pv 9) (pa_cons (pe_comp (N' := ["k", "some", "script", "d", "grow"]) (nt := 1) (caps := [4, 0, 10, 3]) _ _ (CompScope.of (by kernel_rfl)) (pi_range1 (by rfl) T.z_range (pa_cons (pv 1) pa_nil)) (fun _ => (pg_nameC (i := 0) ["k", "some", "script", "d", "grow"] (by decide +kernel) (by rfl))) (fun _ => pts_nil) (fun _ => (pe_op op_mul (pe_ix ix_list (pv 1) (pe_op op_mod (pe_call G_law_num (hr.mono (by decide)) (by rfl) T.m_law_num T.F_law_num.kp T.b_law_num .nil pass0 (pa_cons (pv 2) (pa_cons (pe_op op_add (pe_op op_add pe_int (pe_op op_mul pe_int (pv 3))) (pv 0)) pa_nil))) (pe_callB call_len_seq (by rfl) T.z_len bt_len (pa_cons (pv 1) pa_nil))) (fun _ _ => rfl)) (pv 4)))) pa_nil))))))
      (pss_one (ps_ret (pe_tup (pa_cons (pv 8) (pa_cons (pv 9) (pa_cons (pv 5) pa_nil)))))))))))))))))), ?_⟩
    refine ⟨by show 12 ≤ sizeLine; decide, fun q1 nq1 => ?_⟩
    have U1 := (Same.refl H).upd nq1 (o := .lst (vints [1, 2, 2, 3, 3, 3, 4, 2, 3, 5, 6, 3]))
    refine ⟨_, rfl, a, ns, 0, rfl, U1.seq hS, h63, by decide, fun c0 c00 c01 => ?_⟩
    obtain ⟨z, eB, z1, z6⟩ := pickW (i := c0 % 12) (Int.emod_nonneg _ (by decide)) (Int.emod_lt_of_pos _ (by decide))
    refine ⟨_, _, rfl, rfl, (by show (0 : Int) < 12; decide), q1, _, _, _, rfl, rfl, SqL.of upd_same, eB, ?_⟩
    generalize upd H q1 (.lst (vints [1, 2, 2, 3, 3, 3, 4, 2, 3, 5, 6, 3])) = H1 at U1 ⊢
    refine ⟨by show 16 ≤ sizeLine; decide, fun q2 nq2 => ?_⟩
    have U2 := U1.upd nq2 (o := .lst (vints [0, 1, 2, 2, 3, 3, 4, 2, 3, 5, 6, 7, 8, 3, 2, 4]))
    refine ⟨_, rfl, a, ns, 1, rfl, U2.seq hS, h63, by decide, fun c1 c10 c11 => ?_⟩
    obtain ⟨dn, eD, d8⟩ := pickM (i := c1 % 16) (Int.emod_nonneg _ (by decide)) (Int.emod_lt_of_pos _ (by decide))
    refine ⟨_, _, rfl, rfl, (by show (0 : Int) < 16; decide), q2, _, _, _, rfl, rfl, SqL.of upd_same, eD, ?_⟩
    generalize upd H1 q2 (.lst (vints [0, 1, 2, 2, 3, 3, 4, 2, 3, 5, 6, 7, 8, 3, 2, 4])) = H2 at U2 ⊢
    -- grow
    try dsimp only [tNext]
    refine seq_join (fun σ' H' => σ' = [some (.ref a), some (.int z), some (.int dn), some (.int 1), none, none, none, none, none, none, none] ∧ H2 = H') ?_ (fun N hN => hN _ _ ⟨rfl, rfl⟩)
    rintro _ _ ⟨rfl, rfl⟩
    try dsimp only [tNext]
    refine seq_join (fun σ' H' => ∃ gw : Int, σ' = [some (.ref a), some (.int z), some (.int dn), some (.int gw), none, none, none, none, none, none, none] ∧ H2 = H' ∧ 1 ≤ gw ∧ gw ≤ 200000000) ?_ ?_
    rotate_left
    · intro N hN
      refine ⟨_, rfl, a, ns, 2, rfl, U2.seq hS, h63, by decide, fun c2 c20 c21 => ?_⟩
      refine ⟨_, _, rfl, rfl, (by show (0 : Int) < 2; decide), rfl, _, rfl, ?_⟩
      refine iteD (fun _ => ?_) (fun _ => hN _ _ ⟨1, rfl, rfl, by decide, by decide⟩)
      refine ⟨_, rfl, a, ns, 3, rfl, U2.seq hS, h63, by decide, fun c3 c30 c31 => ?_⟩
      have a1 : 0 ≤ c3 % 200000000 := Int.emod_nonneg _ (by decide)
      have a2 : c3 % 200000000 < 200000000 := Int.emod_lt_of_pos _ (by decide)
      exact ⟨_, _, rfl, rfl, (by show (0 : Int) < 200000000; decide), _, _, rfl, rfl, hN _ _ ⟨_, rfl, rfl, by omega, by omega⟩⟩
    rintro _ _ ⟨gw, rfl, rfl, gw1, gw2⟩
    -- some
    refine ⟨by show 6 ≤ sizeLine; decide, fun q3 nq3 => ?_⟩
    have U3 := U2.upd nq3 (o := .lst (vints [0, 0, 0, 1, 1, 2]))
    have hq3 := upd_same (H := H2) (a := q3) (o := .lst (vints [0, 0, 0, 1, 1, 2]))
    change _ at hq3
    show _
    generalize hH3 : upd H2 q3 (.lst (vints [0, 0, 0, 1, 1, 2])) = H3 at U3 hq3
    rw [show upd H2 q3 (.lst [V.int 0, V.int 0, V.int 0, V.int 1, V.int 1, V.int 2]) = H3 from hH3]
    try dsimp only [tNext]
    refine seq_join (fun σ' H' => ∃ (ps : Addr) (sm : List Int), σ' = [some (.ref a), some (.int z), some (.int dn), some (.int gw), some (.ref ps), none, none, none, none, none, none] ∧ Same H H' ∧ H' ps = some (.lst (vints sm)) ∧ 1 ≤ sm.length ∧ sm.length ≤ 9 ∧ ∀ x ∈ sm, 0 ≤ x ∧ x ≤ 3) ?_ ?_
    rotate_left
    · intro N hN
      refine ⟨_, rfl, _, _, rfl, rfl, _, rfl, ?_⟩
      refine iteD (fun _ => ?_) (fun _ => hN _ _ ⟨q3, _, rfl, U3, hq3, by decide, by decide, by decide⟩)
      refine ⟨by show 9 ≤ sizeLine; decide, fun q4 nq4 => ?_⟩
      exact hN _ _ ⟨q4, [0, 0, 0, 0, 0, 0, 1, 1, 2], rfl, U3.upd nq4, upd_same, by decide, by decide, by decide⟩
    rintro _ H4 ⟨ps, sm, rfl, U4, hps, sl1, sl9, sb⟩
    -- first
    refine ⟨by decide, fun pf npf => ?_⟩
    have U5 := U4.upd npf (o := .lst [])
    have V5 := (Same.refl H4).upd npf (o := .lst [])
    have hpf0 := upd_same (H := H4) (a := pf) (o := .lst [])
    have hps5 := V5 _ _ hps
    generalize upd H4 pf (.lst []) = H5 at U5 V5 hpf0 hps5 ⊢
    have z70 : z ≤ 70 := by omega
    have d70 : dn ≤ 70 := by omega
    refine ⟨_, rfl, _, rfl, rngA _, rngB z70, ?_⟩
    rw [Int.toNat_natCast]
    refine for_range (n := _) (fun i σ H6 => ∃ (l : List Int) (o6 o7 : Option V), σ = [some (.ref a), some (.int z), some (.int dn), some (.int gw), some (.ref ps), some (.ref pf), o6, o7, none, none, none] ∧ Same H4 H6 ∧ H6 pf = some (.lst (vints l)) ∧ l.length = i ∧ ∀ x ∈ l, 0 ≤ x ∧ x ≤ 1000000000) ⟨[], none, none, rfl, V5, hpf0, rfl, fun x hx => nomatch hx⟩ ?_ ?_
    · rintro i σ H6 hi ⟨l, o6, o7, rfl, S6, hpf, ll, lb⟩
      have hi : i < z := hi
      have e0 : (0 : Int) + (i : Int) = ((i : Nat) : Int) := Int.zero_add _
      refine ⟨by show 6 ≤ sizeLine; decide, fun q6 nq6 => ?_⟩
      have X6 := S6.upd nq6 (o := .lst [V.int 0, V.int 1, V.int 1, V.int 2, V.int 3, V.int 0])
      refine ⟨_, rfl, _, rfl, _, _, rfl, rfl, a, ns, 4 + i, by rw [e0]; rfl, (U4.trans X6).seq hS, h63, by omega, fun c4 c40 c41 => ?_⟩
      obtain ⟨v, ev, v0, v3⟩ := pickS (i := c4 % 6) (Int.emod_nonneg _ (by decide)) (Int.emod_lt_of_pos _ (by decide))
      refine ⟨_, _, rfl, rfl, (by show (0 : Int) < 6; decide), q6, _, _, _, rfl, rfl, SqL.of upd_same, ev, ?_⟩
      have hpf6 : upd H6 q6 (.lst [V.int 0, V.int 1, V.int 1, V.int 2, V.int 3, V.int 0]) pf = some (.lst (vints l)) := by rw [upd_ne (ne_of_none hpf nq6)]; exact hpf
      generalize upd H6 q6 (.lst [V.int 0, V.int 1, V.int 1, V.int 2, V.int 3, V.int 0]) = H7 at X6 hpf6 ⊢
      have pr := prodG ⟨gw1, gw2⟩ ⟨v0, v3⟩
      refine ⟨_, rfl, .inl ⟨rfl, vints l, SqL.of hpf6⟩, _, rfl, _, rfl, _, _, rfl, rfl, .inl ⟨by omega, by omega⟩, _, rfl, _, rfl, _, _, rfl, rfl, a, ns, 10 + i, by rw [e0]; rfl, (U4.trans X6).seq hS, h63, by omega, fun c5 c50 c51 => ?_⟩
      have r1 : 0 ≤ c5 % gw := Int.emod_nonneg _ (by omega)
      have r2 : c5 % gw < gw := Int.emod_lt_of_pos _ (by omega)
      refine ⟨_, rfl, _, _, rfl, rfl, (by show (0 : Int) < gw; omega), _, _, rfl, rfl, pf, vints l, _, rfl, rfl, hpf6, by rw [ints_len]; exact small70 (by omega), ?_⟩
      refine ⟨l ++ [v * gw + c5 % gw], _, _, rfl, X6.upd' npf, by rw [upd_same, vints_snoc], by rw [List.length_append, ll]; rfl, fun x hx => ?_⟩
      rcases List.mem_append.mp hx with q | q
      · exact lb x q
      · rw [List.mem_singleton.mp q]; exact ⟨by omega, by omega⟩
    rintro σ H6 ⟨fs, o6, o7, rfl, S6, hpf, fl, fb⟩
    have U6 := U4.trans S6
    have hps6 := S6 _ _ hps
    -- takes, gives
    refine ⟨by decide, fun pt npt => ?_⟩
    have U7 := U6.upd npt (o := .lst [])
    have V7 := (Same.refl H6).upd npt (o := .lst [])
    have hpt0 := upd_same (H := H6) (a := pt) (o := .lst [])
    have fpt := npt
    generalize upd H6 pt (.lst []) = H7 at U7 V7 hpt0 ⊢
    refine ⟨by decide, fun pg npg => ?_⟩
    have U8 := U7.upd npg (o := .lst [])
    have V8 := V7.upd npg (o := .lst [])
    have ptg : pt ≠ pg := ne_of_none hpt0 npg
    have hpg0 := upd_same (H := H7) (a := pg) (o := .lst [])
    have hpt8 : upd H7 pg (.lst []) pt = some (.lst []) := by rw [upd_ne ptg]; exact hpt0
    have fpg := V7.free npg
    generalize upd H7 pg (.lst []) = H8 at U8 V8 hpg0 hpt8 ⊢
    refine ⟨_, rfl, _, rfl, rngA _, rngB d70, ?_⟩
    rw [Int.toNat_natCast]
    refine for_range (n := _) (fun i σ H9 => ∃ (o6 o7 o10 : Option V) (ts gs : List Addr) (tk gv : List (List Int)), σ = [some (.ref a), some (.int z), some (.int dn), some (.int gw), some (.ref ps), some (.ref pf), o6, o7, some (.ref pt), some (.ref pg), o10] ∧ Same H6 H9 ∧ H9 pt = some (.lst (ts.map V.ref)) ∧ Rows H9 ts tk ∧ H9 pg = some (.lst (gs.map V.ref)) ∧ Rows H9 gs gv ∧ tk.length = i ∧ gv.length = i ∧ (∀ r ∈ tk, okBag z r) ∧ (∀ r ∈ gv, okBag z r)) ⟨_, _, none, [], [], [], [], rfl, V8, hpt8, .nil, hpg0, .nil, rfl, rfl, (fun r hr => nomatch hr), fun r hr => nomatch hr⟩ ?_ ?_
    · rintro i σ H9 hi ⟨o6', o7', o10, ts, gs, tk, gv, rfl, S9, hpt, tr, hpg, gr, tl, gl, okt, okg⟩
      have hi : i < dn := hi
      have S09 := U6.trans S9
      refine ⟨_, rfl, .inl ⟨rfl, _, SqL.of hpt⟩, _, rfl, _, rfl, rngA _, rngB z70, ?_⟩
      rw [Int.toNat_natCast]
      refine comp_ints (τ := [some (.ref ps), some (.ref a), some (.int (0 + (i : Int))), some (.int gw)]) (fun m => 0 ≤ m ∧ m ≤ 1000000000) (small70 (by omega)) (fun B j H10 hj S10 Q' hq => ?_) ?_
      · have vs1 : (vints sm).length = sm.length := ints_len sm
        refine ⟨_, rfl, _, rfl, _, rfl, _, _, rfl, rfl, .inl ⟨by decide, by decide⟩, _, _, rfl, rfl, _, rfl, _, _, rfl, rfl, a, ns, 20 + 12 * i + j, ?_, (S09.trans S10).seq hS, h63, by omega, fun c6 c60 c61 => ?_⟩
        · show [V.ref a, V.int ((20 : Int) + 12 * (0 + (i : Int)) + (0 + (j : Int)))] = _
          rw [show (20 : Int) + 12 * (0 + (i : Int)) + (0 + (j : Int)) = ((20 + 12 * i + j : Nat) : Int) by omega]
        refine ⟨_, rfl, ps, _, rfl, .inl (SqL.of ((S9.trans S10) _ _ hps6)), _, _, rfl, rfl, by show (0 : Int) < _; rw [vs1]; omega, ?_⟩
        rw [vs1]
        obtain ⟨ix, hix⟩ := Int.eq_ofNat_of_zero_le (Int.emod_nonneg c6 (show (sm.length : Int) ≠ 0 by omega))
        have hix2 := Int.emod_lt_of_pos c6 (show (0 : Int) < sm.length by omega)
        dsimp only
        rw [hix]
        have ixl : ix < sm.length := by omega
        have hsv := at_in (P := fun x => 0 ≤ x ∧ x ≤ 3) rfl ixl sb
        have pr := prodG ⟨gw1, gw2⟩ hsv
        exact ⟨ps, _, _, _, rfl, rfl, SqL.of ((S9.trans S10) _ _ hps6), at_zs ixl, _, rfl, _, _, rfl, rfl, .inl ⟨by omega, by omega⟩, hq _ _ ⟨pr.1, by omega⟩ (Same.refl _)⟩
      intro r1 H10 S10 lr1 br1 p1 np1
      have pt1 : pt ≠ p1 := ne_of_none (S10 _ _ hpt) np1
      refine ⟨pt, _, _, rfl, rfl, by rw [upd_ne pt1]; exact S10 _ _ hpt, by rw [List.length_map, tr.length]; exact small70 (by omega), ?_⟩
      have S11 : Same H6 (upd (upd H10 p1 (.lst (vints r1))) pt (.lst (ts.map V.ref ++ [V.ref p1]))) := ((S9.trans S10).upd np1).upd' fpt
      have S911 : ∀ q o, H9 q = some o → q ≠ pt → upd (upd H10 p1 (.lst (vints r1))) pt (.lst (ts.map V.ref ++ [V.ref p1])) q = some o := fun q o e n => by
        rw [upd_ne n]; exact ((Same.refl H10).upd np1) _ _ (S10 _ _ e)
      have hpt11 : upd (upd H10 p1 (.lst (vints r1))) pt (.lst (ts.map V.ref ++ [V.ref p1])) pt = some (.lst ((ts ++ [p1]).map V.ref)) := by rw [upd_same, vrefs_snoc]
      have tr11 : Rows (upd (upd H10 p1 (.lst (vints r1))) pt (.lst (ts.map V.ref ++ [V.ref p1]))) (ts ++ [p1]) (tk ++ [r1]) := by
        refine Rows.snoc (Rows.lay (tr.same (S10.upd np1)) (tr.apart hpt)) ?_
        rw [upd_ne (Ne.symm pt1), upd_same]
      have hpg11 := S911 _ _ hpg (Ne.symm ptg)
      have gr11 : Rows (upd (upd H10 p1 (.lst (vints r1))) pt (.lst (ts.map V.ref ++ [V.ref p1]))) gs gv := by
        refine Rows.lay (gr.same (S10.upd np1)) fun b hb z => ?_
        obtain ⟨r, hr, he⟩ := Rows.mem gr hb
        rw [z] at he
        rw [hpt] at he
        injection he with he
        injection he with he
        have lr := (okg r hr).1
        cases r with
        | nil => simp at lr; omega
        | cons a b => cases ts with
          | nil => cases he
          | cons c d => injection he with he _; cases he
      generalize upd (upd H10 p1 (.lst (vints r1))) pt (.lst (ts.map V.ref ++ [V.ref p1])) = H11 at S11 hpt11 tr11 hpg11 gr11 ⊢
      clear S911
      have S011 := U6.trans S11
      refine ⟨_, rfl, .inl ⟨rfl, _, SqL.of hpg11⟩, _, rfl, _, rfl, rngA _, rngB z70, ?_⟩
      rw [Int.toNat_natCast]
      refine comp_ints (τ := [some (.ref ps), some (.ref a), some (.int (0 + (i : Int))), some (.int gw)]) (fun m => 0 ≤ m ∧ m ≤ 1000000000) (small70 (by omega)) (fun B j H12 hj S12 Q' hq => ?_) ?_
      · have vs1 : (vints sm).length = sm.length := ints_len sm
        refine ⟨_, rfl, _, rfl, _, rfl, _, _, rfl, rfl, .inl ⟨by decide, by decide⟩, _, _, rfl, rfl, _, rfl, _, _, rfl, rfl, a, ns, 26 + 12 * i + j, ?_, (S011.trans S12).seq hS, h63, by omega, fun c6 c60 c61 => ?_⟩
        · show [V.ref a, V.int ((26 : Int) + 12 * (0 + (i : Int)) + (0 + (j : Int)))] = _
          rw [show (26 : Int) + 12 * (0 + (i : Int)) + (0 + (j : Int)) = ((26 + 12 * i + j : Nat) : Int) by omega]
        refine ⟨_, rfl, ps, _, rfl, .inl (SqL.of ((S11.trans S12) _ _ hps6)), _, _, rfl, rfl, by show (0 : Int) < _; rw [vs1]; omega, ?_⟩
        rw [vs1]
        obtain ⟨ix, hix⟩ := Int.eq_ofNat_of_zero_le (Int.emod_nonneg c6 (show (sm.length : Int) ≠ 0 by omega))
        have hix2 := Int.emod_lt_of_pos c6 (show (0 : Int) < sm.length by omega)
        dsimp only
        rw [hix]
        have ixl : ix < sm.length := by omega
        have hsv := at_in (P := fun x => 0 ≤ x ∧ x ≤ 3) rfl ixl sb
        have pr := prodG ⟨gw1, gw2⟩ hsv
        exact ⟨ps, _, _, _, rfl, rfl, SqL.of ((S11.trans S12) _ _ hps6), at_zs ixl, _, rfl, _, _, rfl, rfl, .inl ⟨by omega, by omega⟩, hq _ _ ⟨pr.1, by omega⟩ (Same.refl _)⟩
      intro r2 H12 S12 lr2 br2 p2 np2
      have pg2 : pg ≠ p2 := ne_of_none (S12 _ _ hpg11) np2
      refine ⟨pg, _, _, rfl, rfl, by rw [upd_ne pg2]; exact S12 _ _ hpg11, by rw [List.length_map, gr.length]; exact small70 (by omega), ?_⟩
      have okt' : ∀ r ∈ tk ++ [r1], okBag z r := fun r hr => by
        rcases List.mem_append.mp hr with w | w
        · exact okt r w
        · rw [List.mem_singleton.mp w]; exact ⟨lr1, br1⟩
      have okg' : ∀ r ∈ gv ++ [r2], okBag z r := fun r hr => by
        rcases List.mem_append.mp hr with w | w
        · exact okg r w
        · rw [List.mem_singleton.mp w]; exact ⟨lr2, br2⟩
      refine ⟨_, _, _, ts ++ [p1], gs ++ [p2], tk ++ [r1], gv ++ [r2], rfl, ((S11.trans S12).upd np2).upd' fpg, ?_, ?_, by rw [upd_same, vrefs_snoc], ?_, by rw [List.length_append, tl]; rfl, by rw [List.length_append, gl]; rfl, okt', okg'⟩
      · rw [upd_ne ptg]
        exact ((Same.refl H12).upd np2) _ _ (S12 _ _ hpt11)
      · refine Rows.lay (tr11.same (S12.upd np2)) fun b hb w => ?_
        obtain ⟨r, hr, he⟩ := Rows.mem tr11 hb
        rw [w, hpg11] at he
        injection he with he
        injection he with he
        have lr := (okt' r hr).1
        cases r with
        | nil => simp at lr; omega
        | cons a b => cases gs with
          | nil => cases he
          | cons c d => injection he with he _; cases he
      · refine Rows.snoc (Rows.lay (gr11.same (S12.upd np2)) (gr11.apart hpg11)) ?_
        rw [upd_ne (Ne.symm pg2), upd_same]
    · rintro σ H9 ⟨o6', o7', o10, ts, gs, tk, gv, rfl, S9, hpt, tr, hpg, gr, tl, gl, okt, okg⟩
      refine ⟨_, rfl, _, rfl, _, rfl, by show 3 ≤ sizeLine; decide, fun p np => ?_⟩
      have X := (Same.refl H9).upd np (o := .tup [V.ref pt, V.ref pg, V.ref pf])
      exact hQ p pt pg pf ts gs z tk gv fs _ ((U6.trans S9).trans X) ⟨upd_same, X _ _ hpt, tr.same X, X _ _ hpg, gr.same X, (S9.trans X) _ _ hpf⟩ ⟨z1, z6, by omega, by omega, okt, okg, fl, fb⟩
theorem sc_law_may : FnScope ["plan", "beads", "door", "k"] ["plan", "beads", "door"] (defScope s_law_may) := ⟨rfl, rfl, rfl, by decide +kernel, rfl, by decide +kernel, by decide +kernel⟩
set_option maxHeartbeats 4000000 in
theorem ok_law_may (T : Txt K mg AR FR) : FnOk P w K mg base CX0 1 AR.f_law_may FR.d_law_may ["plan", "beads", "door"] (sp_law_may K) := by
  refine T.F_law_may.ok sc_law_may (fun vs H Q E h => ?_) (fun cdv A outer s H vs Q E hr h => ?_)
  · obtain ⟨p, pt, pg, pf, pb, ts, gs, z, tk, gv, fs, beads, k, rfl, P, o, hb, bl, kt, hQ⟩ := h
    rfl
  · obtain ⟨p, pt, pg, pf, pb, ts, gs, z, tk, gv, fs, beads, k, rfl, P, o, hb, bl, kt, hQ⟩ := h
    refine ⟨_, (pss_cons (ps_for PassesOwn.never rfl (pi_range1 (by rfl) T.z_range (pa_cons (pe_callB call_len_seq (by rfl) T.z_len bt_len (pa_cons (pv 1) pa_nil)) pa_nil)) (pg_name (i := 3) sc_law_may.nd (by rfl) (Or.inl rfl))
      (pss_one (ps_if (pt_cmpR op_lt (pe_ix ix_list (pv 1) (pv 3) (fun _ _ => rfl)) (pe_ix ix_list (pe_ix ix_list (pe_ix ix_tup (pv 0) pe_int (fun _ _ => rfl)) (pv 2) (fun _ _ => rfl)) (pv 3) (fun _ _ => rfl)) (nomark _)) (pss_one (ps_ret pe_bl)) pss_nil)))
      (pss_one (ps_ret pe_bl))), ?_⟩
    have z6 := o.z6
    obtain ⟨qt, et, ft⟩ := rows_at P.tr kt
    have zt := (o.tk _ (List.getElem_mem kt)).1
    rw [getDr kt] at hQ
    refine ⟨_, rfl, pb, _, rfl, .inl hb, _, rfl, rngA _, by rw [ints_len]; omega, ?_⟩
    rw [Int.toNat_natCast, ints_len, bl]
    refine for_range (n := _) (fun i σ H2 => ∃ v, σ = [some (.ref p), some (.ref pb), some (.int k), v] ∧ H2 = H ∧ ∀ j, j < i → tk[k].getD j 0 ≤ beads.getD j 0) ⟨none, rfl, rfl, fun j h => absurd h (Nat.not_lt_zero _)⟩ ?_ ?_
    · rintro i σ H2 hi ⟨v, rfl, rfl, hd⟩
      have hi : i < z := hi
      refine ⟨_, rfl, _, rfl, pb, _, _, _, rfl, rfl, hb, at_place bl hi, _, rfl, p, _, _, _, rfl, rfl, SqT.of P.top, rfl, _, rfl, pt, _, _, _, rfl, rfl, SqL.of P.ht, et, _, rfl, qt, _, _, _, rfl, rfl, SqL.of ft, at_place zt hi, _, _, rfl, rfl, _, rfl, ?_⟩
      refine iteD (fun h => ?_) (fun h => ?_)
      · have e : bn tk[k] beads = false := by
          cases hx : bn tk[k] beads with
          | false => rfl
          | true =>
            have := (bn_iff zt bl).mp hx i hi
            omega
        rw [e] at hQ
        exact hQ
      · refine ⟨_, rfl, rfl, fun j hj => ?_⟩
        rcases Nat.lt_succ_iff_lt_or_eq.mp hj with q | q
        · exact hd j q
        · rw [q]; omega
    · rintro σ H2 ⟨v, rfl, rfl, hd⟩
      have e : bn tk[k] beads = true := (bn_iff zt bl).mpr hd
      rw [e] at hQ
      exact hQ
theorem sc_law_behind : FnScope ["plan", "beads", "door", "behind", "k", "left"] ["plan", "beads", "door"] (defScope s_law_behind) := ⟨rfl, rfl, rfl, by decide +kernel, rfl, by decide +kernel, by decide +kernel⟩
set_option maxHeartbeats 4000000 in
theorem ok_law_behind (T : Txt K mg AR FR) : FnOk P w K mg base CX0 1 AR.f_law_behind FR.d_law_behind ["plan", "beads", "door"] (sp_law_behind K) := by
  refine T.F_law_behind.ok sc_law_behind (fun vs H Q E h => ?_) (fun cdv A outer s H vs Q E hr h => ?_)
  · obtain ⟨p, pt, pg, pf, pb, ts, gs, z, tk, gv, fs, beads, k, rfl, P, o, hb, bl, kt, hQ⟩ := h
    rfl
  · obtain ⟨p, pt, pg, pf, pb, ts, gs, z, tk, gv, fs, beads, k, rfl, P, o, hb, bl, kt, hQ⟩ := h
    refine ⟨_, (pss_cons (ps_set (i := 3) sc_law_behind.nd rfl (Or.inl rfl) (pe_lst pa_nil))
      (pss_cons (ps_for PassesOwn.never rfl (pi_range1 (by rfl) T.z_range (pa_cons (pe_callB call_len_seq (by rfl) T.z_len bt_len (pa_cons (pv 1) pa_nil)) pa_nil)) (pg_name (i := 4) sc_law_behind.nd (by rfl) (Or.inl rfl))
      (pss_cons (ps_set (i := 5) sc_law_behind.nd rfl (Or.inl rfl) (pe_op op_sub (pe_ix ix_list (pv 1) (pv 4) (fun _ _ => rfl)) (pe_ix ix_list (pe_ix ix_list (pe_ix ix_tup (pv 0) pe_int (fun _ _ => rfl)) (pv 2) (fun _ _ => rfl)) (pv 4) (fun _ _ => rfl))))
      (pss_one (ps_expr (pe_bm PySem.F.plainAttrs_list PySem.F.slot_list_append PySem.F.type_list_append mt_append (pv 3) (pa_cons (pe_op op_add (pv 5) (pe_ix ix_list (pe_ix ix_list (pe_ix ix_tup (pv 0) pe_int (fun _ _ => rfl)) (pv 2) (fun _ _ => rfl)) (pv 4) (fun _ _ => rfl))) pa_nil))))))
      (pss_one (ps_ret (pv 3))))), ?_⟩
    have z6 := o.z6
    have kg : k < gv.length := by rw [o.gl]; exact kt
    obtain ⟨qt, et, ft⟩ := rows_at P.tr kt
    obtain ⟨qg, eg, fg⟩ := rows_at P.gr kg
    have zt := (o.tk _ (List.getElem_mem kt)).1
    have zg := (o.gv _ (List.getElem_mem kg)).1
    rw [getDr kt, getDr kg] at hQ
    have hz := behind_len zt zg bl
    refine ⟨by decide, fun q nq => ?_⟩
    have U := (Same.refl H).upd nq (o := .lst [])
    have hq0 := upd_same (H := H) (a := q) (o := .lst [])
    generalize upd H q (.lst []) = H1 at U hq0 ⊢
    refine ⟨_, rfl, pb, _, rfl, .inl (U.seq hb), _, rfl, rngA _, by rw [ints_len]; omega, ?_⟩
    rw [Int.toNat_natCast, ints_len, bl]
    refine for_range (n := _) (fun i σ H2 => ∃ (o4 o5 : Option V), σ = [some (.ref p), some (.ref pb), some (.int k), some (.ref q), o4, o5] ∧ Same H H2 ∧ H2 q = some (.lst (vints ((behind tk[k] gv[k] beads).take i)))) ⟨none, none, rfl, U, hq0⟩ ?_ ?_
    · rintro i σ H2 hi ⟨o4, o5, rfl, S, hq⟩
      have hi : i < z := hi
      have P2 := P.same S
      refine ⟨_, rfl, _, rfl, pb, _, _, _, rfl, rfl, S.seq hb, at_place bl hi, _, rfl, p, _, _, _, rfl, rfl, SqT.of P2.top, rfl, _, rfl, pt, _, _, _, rfl, rfl, SqL.of P2.ht, et, _, rfl, qt, _, _, _, rfl, rfl, SqL.of (S _ _ ft), at_place zt hi, _, _, rfl, rfl, ?_⟩
      refine ⟨_, rfl, .inl ⟨rfl, _, SqL.of hq⟩, _, rfl, _, rfl, p, _, _, _, rfl, rfl, SqT.of P2.top, rfl, _, rfl, pg, _, _, _, rfl, rfl, SqL.of P2.hg, eg, _, rfl, qg, _, _, _, rfl, rfl, SqL.of (S _ _ fg), at_place zg hi, _, _, rfl, rfl, q, _, _, rfl, rfl, hq, by rw [ints_len, List.length_take]; exact small70 (by omega), ?_⟩
      refine ⟨_, _, rfl, S.upd' nq, ?_⟩
      rw [upd_same, List.take_add_one, List.getElem?_eq_getElem (by omega : i < (behind tk[k] gv[k] beads).length), Option.toList_some, vints_snoc]
      have e := behind_at zt zg bl hi
      rw [L2.getD_at (by omega : i < (behind tk[k] gv[k] beads).length)] at e
      rw [e]
    · rintro σ H2 ⟨o4, o5, rfl, S, hq⟩
      rw [List.take_of_length_le (by omega)] at hq
      exact ⟨_, rfl, hQ q H2 nq S hq⟩
theorem sc_law_rooms : FnScope ["plan", "room", "bags", "parents", "comers", "at", "door", "beads"] ["plan", "room"] (defScope s_law_rooms) := ⟨rfl, rfl, rfl, by decide +kernel, rfl, by decide +kernel, by decide +kernel⟩
set_option maxHeartbeats 4000000 in
theorem ok_law_rooms (T : Txt K mg AR FR) : FnOk P w K mg base CX0 2 AR.f_law_rooms FR.d_law_rooms ["plan", "room"] (sp_law_rooms K) := by
  have G_law_may : FnOk P w K mg base CX0 1 AR.f_law_may FR.d_law_may _ (sp_law_may K) := ok_law_may T
  have G_law_behind : FnOk P w K mg base CX0 1 AR.f_law_behind FR.d_law_behind _ (sp_law_behind K) := ok_law_behind T
  refine T.F_law_rooms.ok sc_law_rooms (fun vs H Q E h => ?_) (fun cdv A outer s H vs Q E hr h => ?_)
  · obtain ⟨p, pt, pg, pf, ts, gs, z, tk, gv, fs, room, rfl, P, o, r1, r60, hN, hQ⟩ := h
    rfl
  · obtain ⟨p, pt, pg, pf, ts, gs, z, tk, gv, fs, room, rfl, P, o, r1, r60, hN, hQ⟩ := h
    refine ⟨_, (pss_cons (ps_set (i := 2) sc_law_rooms.nd rfl (Or.inl rfl) (pe_lst (pa_cons (pe_callTy call_list_of (by rfl) T.z_list bt_list (pa_cons (pe_ix ix_tup (pv 0) pe_int (fun _ _ => rfl)) pa_nil)) pa_nil)))
      (pss_cons (ps_set (i := 3) sc_law_rooms.nd rfl (Or.inl rfl) (pe_lst (pa_cons (pe_un un_neg pe_int) pa_nil)))
      (pss_cons (ps_set (i := 4) sc_law_rooms.nd rfl (Or.inl rfl) (pe_lst (pa_cons (pe_un un_neg pe_int) pa_nil)))
      (pss_cons (ps_set (i := 5) sc_law_rooms.nd rfl (Or.inl rfl) pe_int)
      (pss_cons (ps_while PassesOwn.never (pt_cmpR op_lt (pv 5) (pe_callB call_len_seq (by rfl) T.z_len bt_len (pa_cons (pv 2) pa_nil)) (nomark _))
      (pss_cons (ps_for PassesOwn.never rfl (pi_range1 (by rfl) T.z_range (pa_cons (pe_callB call_len_seq (by rfl) T.z_len bt_len (pa_cons (pe_ix ix_tup (pv 0) pe_int (fun _ _ => rfl)) pa_nil)) pa_nil)) (pg_name (i := 6) sc_law_rooms.nd (by rfl) (Or.inl rfl))
      (pss_one (ps_if (pt_val (pe_call G_law_may (hr.mono (by decide)) (by rfl) T.m_law_may T.F_law_may.kp T.b_law_may .nil pass0 (pa_cons (pv 0) (pa_cons (pe_ix ix_list (pv 2) (pv 5) (fun _ _ => rfl)) (pa_cons (pv 6) pa_nil))))) (pss_cons (ps_set (i := 7) sc_law_rooms.nd rfl (Or.inl rfl) (pe_call G_law_behind (hr.mono (by decide)) (by rfl) T.m_law_behind T.F_law_behind.kp T.b_law_behind .nil pass0 (pa_cons (pv 0) (pa_cons (pe_ix ix_list (pv 2) (pv 5) (fun _ _ => rfl)) (pa_cons (pv 6) pa_nil)))))
      (pss_one (ps_if (pt_cmpR (op_notInR (hu_of hr)) (pv 7) (pv 2) (by with_unfolding_all rfl)) (pss_cons (ps_if (pt_cmpR op_eq (pe_callB call_len_seq (by rfl) T.z_len bt_len (pa_cons (pv 2) pa_nil)) (pv 1) (nomark _)) (pss_one (ps_ret pe_non)) pss_nil)
      (pss_cons (ps_expr (pe_bm PySem.F.plainAttrs_list PySem.F.slot_list_append PySem.F.type_list_append mt_append (pv 2) (pa_cons (pv 7) pa_nil)))
      (pss_cons (ps_expr (pe_bm PySem.F.plainAttrs_list PySem.F.slot_list_append PySem.F.type_list_append mt_append (pv 3) (pa_cons (pv 5) pa_nil)))
      (pss_one (ps_expr (pe_bm PySem.F.plainAttrs_list PySem.F.slot_list_append PySem.F.type_list_append mt_append (pv 4) (pa_cons (pv 6) pa_nil))))))) pss_nil))) pss_nil)))
      (pss_one (ps_set (i := 5) sc_law_rooms.nd rfl (Or.inl rfl) (pe_op op_add (pv 5) pe_int)))))
      (pss_one (ps_ret (pe_tup (pa_cons (pv 2) (pa_cons (pv 3) (pa_cons (pv 4) pa_nil))))))))))), ?_⟩
    have z6 := o.z6
    have t8 := o.t8
    have gl := o.gl
    have vt : (ts.map V.ref).length = tk.length := by rw [List.length_map, P.tr.length]
    refine ⟨_, rfl, p, _, _, _, rfl, rfl, SqT.of P.top, rfl, pf, _, rfl, .inl (SqL.of P.hf), fun q0 nq0 => ?_⟩
    have U0 := (Same.refl H).upd nq0 (o := .lst (vints fs))
    have hq0 := upd_same (H := H) (a := q0) (o := .lst (vints fs))
    generalize upd H q0 (.lst (vints fs)) = H0 at U0 hq0 ⊢
    refine ⟨by show 1 ≤ sizeLine; decide, fun pb npb => ?_⟩
    have U1 := U0.upd npb (o := .lst [V.ref q0])
    have V1 := (Same.refl H0).upd npb (o := .lst [V.ref q0])
    have fpb := U0.free npb
    have hb1 := upd_same (H := H0) (a := pb) (o := .lst [V.ref q0])
    have hq1 := V1 _ _ hq0
    generalize upd H0 pb (.lst [V.ref q0]) = H1 at U1 V1 hb1 hq1 ⊢
    refine ⟨_, rfl, by show 1 ≤ sizeLine; decide, fun pp npp => ?_⟩
    have U2 := U1.upd npp (o := .lst [V.int (-1)])
    have V2 := (Same.refl H1).upd npp (o := .lst [V.int (-1)])
    have fpp := U1.free npp
    have hp2 : upd H1 pp (.lst [V.int (-1)]) pp = some (.lst (vints [-1])) := upd_same
    have bp : pb ≠ pp := ne_of_none hb1 npp
    have hb2 := V2 _ _ hb1
    have hq2 := V2 _ _ hq1
    generalize upd H1 pp (.lst [V.int (-1)]) = H2 at U2 V2 hp2 hb2 hq2 ⊢
    refine ⟨_, rfl, by show 1 ≤ sizeLine; decide, fun pc npc => ?_⟩
    have U3 := U2.upd npc (o := .lst [V.int (-1)])
    have V3 := (Same.refl H2).upd npc (o := .lst [V.int (-1)])
    have fpc := U2.free npc
    have hc3 : upd H2 pc (.lst [V.int (-1)]) pc = some (.lst (vints [-1])) := upd_same
    have bc : pb ≠ pc := ne_of_none hb2 npc
    have pc' : pp ≠ pc := ne_of_none hp2 npc
    have hb3 := V3 _ _ hb2
    have hq3 := V3 _ _ hq2
    have hp3 := V3 _ _ hp2
    have q0b : q0 ≠ pb := ne_of_none hq0 npb
    have q0p : q0 ≠ pp := ne_of_none hq1 npp
    have q0c : q0 ≠ pc := ne_of_none hq2 npc
    generalize upd H2 pc (.lst [V.int (-1)]) = H3 at U3 V3 hc3 hb3 hq3 hp3 ⊢
    refine ⟨fun k σ H4 => ∃ (num : Nat) (w : RV) (as : List Addr) (o6 o7 : Option V), σ = [some (.ref p), some (.int room), some (.ref pb), some (.ref pp), some (.ref pc), some (.int num), o6, o7] ∧ Same H H4 ∧ H4 pb = some (.lst (as.map V.ref)) ∧ Rows H4 as w.bags ∧ H4 pp = some (.lst (vints w.par)) ∧ H4 pc = some (.lst (vints w.com)) ∧ pp ∉ as ∧ pc ∉ as ∧ ROk z room w ∧ runR tk gv room (room - num) num w = roomsF tk gv fs room ∧ k = room - num,
      ⟨_, 0, ⟨[fs], [-1], [-1]⟩, [q0], none, none, rfl, U3, hb3, .cons hq3 .nil, hp3, hc3, fun h => q0p (List.mem_singleton.mp h).symm, fun h => q0c (List.mem_singleton.mp h).symm, ⟨fun r hr => by rw [List.mem_singleton.mp hr]; exact o.fs.1, rfl, rfl, r1, Nat.le_refl _⟩, rfl, rfl⟩, ?_⟩
    rintro k σ H4 ⟨num, w, as, o6, o7, rfl, S4, hb4, R4, hp4, hc4, npa, nca, o4, er, rfl⟩
    have vb : (as.map V.ref).length = w.bags.length := by rw [List.length_map, R4.length]
    refine ⟨_, rfl, _, rfl, pb, _, rfl, .inl (SqL.of hb4), _, _, rfl, rfl, _, rfl, ?_⟩
    rw [vb]
    refine iteD (fun h => ⟨_, fun σ' H' z => z, ?_⟩) (fun h => ?_)
    rotate_left
    · have e : roomsF tk gv fs room = some w := by rw [← er]; exact rrun_stop (by omega)
      refine ⟨_, rfl, _, rfl, _, rfl, by show 3 ≤ sizeLine; decide, fun q nq => ?_⟩
      have X := (Same.refl H4).upd nq (o := .tup [V.ref pb, V.ref pp, V.ref pc])
      exact hQ w e q pb pp pc as _ (S4.trans X) upd_same (X _ _ hb4) (R4.same X) (X _ _ hp4) (X _ _ hc4) o4
    have hw : num < w.bags.length := by omega
    have le := o4.le
    have er2 : runR tk gv room (room - num) num w = (match turnR tk gv room num w (List.range tk.length) with
        | none => none
        | some w' => runR tk gv room (room - num - 1) (num + 1) w') := by
      have e : room - num = (room - num - 1) + 1 := by omega
      rw [e, rrun_step hw]
      rfl
    have P4 := P.same S4
    refine ⟨_, rfl, p, _, _, _, rfl, rfl, SqT.of P4.top, rfl, pt, _, rfl, .inl (SqL.of P4.ht), _, rfl, rngA _, by rw [vt]; omega, ?_⟩
    rw [Int.toNat_natCast, vt]
    refine for_range (n := _) (fun i σ H5 => ∃ (w' : RV) (as' : List Addr) (o6 o7 : Option V), σ = [some (.ref p), some (.int room), some (.ref pb), some (.ref pp), some (.ref pc), some (.int num), o6, o7] ∧ Same H H5 ∧ H5 pb = some (.lst (as'.map V.ref)) ∧ Rows H5 as' w'.bags ∧ H5 pp = some (.lst (vints w'.par)) ∧ H5 pc = some (.lst (vints w'.com)) ∧ pp ∉ as' ∧ pc ∉ as' ∧ ROk z room w' ∧ w.bags.length ≤ w'.bags.length ∧ turnR tk gv room num w' ((List.range tk.length).drop i) = turnR tk gv room num w (List.range tk.length)) ⟨w, as, _, _, rfl, S4, hb4, R4, hp4, hc4, npa, nca, o4, Nat.le_refl _, rfl⟩ ?_ ?_
    · rintro i σ H5 hi ⟨w', as', o6', o7', rfl, S5, hb5, R5, hp5, hc5, npa5, nca5, o5, lw, et⟩
      have it : i < tk.length := hi
      have ig : i < gv.length := by omega
      have e0 : (0 : Int) + (i : Int) = ((i : Nat) : Int) := Int.zero_add _
      have hw' : num < w'.bags.length := by omega
      have vb5 : (as'.map V.ref).length = w'.bags.length := by rw [List.length_map, R5.length]
      have le5 := o5.le
      obtain ⟨qa, ea, fqa⟩ := rows_at R5 hw'
      have lq : (w'.bags[num]).length = z := o5.wd _ (List.getElem_mem hw')
      have lt : (tk.getD i []).length = z := by rw [getDr it]; exact (o.tk _ (List.getElem_mem it)).1
      have lg : (gv.getD i []).length = z := by rw [getDr ig]; exact (o.gv _ (List.getElem_mem ig)).1
      rw [drop_rng it] at et
      refine ⟨_, rfl, _, rfl, _, rfl, pb, _, _, _, rfl, rfl, SqL.of hb5, ea, _, rfl, p, pt, pg, pf, qa, ts, gs, z, tk, gv, fs, w'.bags[num], i, by rw [e0]; rfl, P.same S5, o, SqL.of fqa, lq, it, _, rfl, ?_⟩
      cases hb : bn (tk.getD i []) w'.bags[num] with
      | false =>
        refine iteF ⟨w', as', _, _, rfl, S5, hb5, R5, hp5, hc5, npa5, nca5, o5, lw, ?_⟩
        rw [rturn_no (by rw [getDr hw']; exact hb)] at et
        exact et
      | true =>
        refine iteT ?_
        rw [rturn_go (by rw [getDr hw']; exact hb), getDr hw'] at et
        refine ⟨_, rfl, _, rfl, _, rfl, pb, _, _, _, rfl, rfl, SqL.of hb5, ea, _, rfl, p, pt, pg, pf, qa, ts, gs, z, tk, gv, fs, w'.bags[num], i, by rw [e0]; rfl, P.same S5, o, SqL.of fqa, lq, it, fun q H6 nq S6 hq => ?_⟩
        have S56 := S5.trans S6
        have hb6 := S6 _ _ hb5
        have R6 := R5.same S6
        have hz := behind_len lt lg lq
        generalize hB : behind (tk.getD i []) (gv.getD i []) w'.bags[num] = bag at et hq hz
        refine ⟨_, rfl, _, rfl, q, pb, as', w'.bags, bag, rfl, rfl, SqL.of hq, SqL.of hb6, R6, _, rfl, ?_⟩
        cases hm : memR bag w'.bags with
        | true =>
          rw [rput_in hm] at et
          exact iteF ⟨w', as', _, _, rfl, S56, hb6, R6, S6 _ _ hp5, S6 _ _ hc5, npa5, nca5, o5, lw, et⟩
        | false =>
          refine iteT ?_
          refine ⟨_, rfl, pb, _, rfl, .inl (SqL.of hb6), _, rfl, rfl, _, rfl, ?_⟩
          rw [vb5]
          refine iteD (fun h3 => ?_) (fun h3 => ?_)
          · have h3 : w'.bags.length = room := by
              injection h3 with h3
              omega
            rw [rput_no hm (by omega)] at et
            refine hN ?_ H6 S56
            rw [← er, er2, ← et]
          have hlt : w'.bags.length < room := by
            rcases Nat.lt_or_ge w'.bags.length room with q | q
            · exact q
            · exact absurd (by rw [show w'.bags.length = room by omega]) h3
          rw [rput_new hm hlt] at et
          have pbq : pb ≠ q := ne_of_none hb5 nq
          have ppq : pp ≠ q := ne_of_none hp5 nq
          have pcq : pc ≠ q := ne_of_none hc5 nq
          refine ⟨_, rfl, .inl ⟨rfl, _, SqL.of hb6⟩, _, rfl, pb, _, _, rfl, rfl, hb6, by rw [vb5]; exact small70 (by omega), ?_⟩
          have S7 : Same H (upd H6 pb (.lst (as'.map V.ref ++ [V.ref q]))) := S56.upd' fpb
          have hb7 : upd H6 pb (.lst (as'.map V.ref ++ [V.ref q])) pb = some (.lst ((as' ++ [q]).map V.ref)) := by rw [upd_same, vrefs_snoc]
          have R7 : Rows (upd H6 pb (.lst (as'.map V.ref ++ [V.ref q]))) (as' ++ [q]) (w'.bags ++ [bag]) := Rows.snoc (Rows.lay R6 (R6.apart hb6)) (by rw [upd_ne (Ne.symm pbq)]; exact hq)
          have hp7 : upd H6 pb (.lst (as'.map V.ref ++ [V.ref q])) pp = some (.lst (vints w'.par)) := by rw [upd_ne (Ne.symm bp)]; exact S6 _ _ hp5
          have hc7 : upd H6 pb (.lst (as'.map V.ref ++ [V.ref q])) pc = some (.lst (vints w'.com)) := by rw [upd_ne (Ne.symm bc)]; exact S6 _ _ hc5
          generalize upd H6 pb (.lst (as'.map V.ref ++ [V.ref q])) = H7 at S7 hb7 R7 hp7 hc7 ⊢
          have npa7 : pp ∉ as' ++ [q] := fun h => by
            rcases List.mem_append.mp h with u | u
            · exact npa5 u
            · exact ppq (List.mem_singleton.mp u)
          have nca7 : pc ∉ as' ++ [q] := fun h => by
            rcases List.mem_append.mp h with u | u
            · exact nca5 u
            · exact pcq (List.mem_singleton.mp u)
          refine ⟨_, rfl, .inl ⟨rfl, _, SqL.of hp7⟩, _, rfl, pp, _, _, rfl, rfl, hp7, by rw [ints_len, o5.lm]; exact small70 (by omega), ?_⟩
          have S8 : Same H (upd H7 pp (.lst (vints w'.par ++ [V.int (num : Int)]))) := S7.upd' fpp
          have hb8 : upd H7 pp (.lst (vints w'.par ++ [V.int (num : Int)])) pb = some (.lst ((as' ++ [q]).map V.ref)) := by rw [upd_ne bp]; exact hb7
          have R8 : Rows (upd H7 pp (.lst (vints w'.par ++ [V.int (num : Int)]))) (as' ++ [q]) (w'.bags ++ [bag]) := Rows.lay R7 (fun a ha e => npa7 (e ▸ ha))
          have hp8 : upd H7 pp (.lst (vints w'.par ++ [V.int (num : Int)])) pp = some (.lst (vints (w'.par ++ [(num : Int)]))) := by rw [upd_same, vints_snoc]
          have hc8 : upd H7 pp (.lst (vints w'.par ++ [V.int (num : Int)])) pc = some (.lst (vints w'.com)) := by rw [upd_ne (Ne.symm pc')]; exact hc7
          generalize upd H7 pp (.lst (vints w'.par ++ [V.int (num : Int)])) = H8 at S8 hb8 R8 hp8 hc8 ⊢
          refine ⟨_, rfl, .inl ⟨rfl, _, SqL.of hc8⟩, _, rfl, pc, _, _, rfl, rfl, hc8, by rw [ints_len, o5.ll]; exact small70 (by omega), ?_⟩
          refine ⟨⟨w'.bags ++ [bag], w'.par ++ [(num : Int)], w'.com ++ [(i : Int)]⟩, as' ++ [q], _, _, rfl, S8.upd' fpc, by rw [upd_ne bc]; exact hb8, Rows.lay R8 (fun a ha e => nca7 (e ▸ ha)), by rw [upd_ne pc']; exact hp8, by rw [upd_same, e0, vints_snoc], npa7, nca7, o5.put hz hlt, ?_, et⟩
          show w.bags.length ≤ (w'.bags ++ [bag]).length
          rw [List.length_append]
          omega
    · rintro σ H5 ⟨w', as', o6', o7', rfl, S5, hb5, R5, hp5, hc5, npa5, nca5, o5, lw, et⟩
      rw [List.drop_eq_nil_of_le (by rw [List.length_range]; exact Nat.le_refl _)] at et
      refine ⟨_, rfl, _, _, rfl, rfl, ?_⟩
      refine ⟨room - (num + 1), by omega, num + 1, w', as', _, _, rfl, S5, hb5, R5, hp5, hc5, npa5, nca5, o5, ?_, rfl⟩
      rw [← er, er2, ← et]
      rfl
theorem sc_is_name : FnScope ["word"] ["word"] (defScope s_is_name) := ⟨rfl, rfl, rfl, by decide +kernel, rfl, by decide +kernel, by decide +kernel⟩
set_option maxHeartbeats 4000000 in
theorem ok_is_name (T : Txt K mg AR FR) : FnOk P w K mg base CX0 1 AR.f_is_name FR.d_is_name ["word"] (sp_is_name K) := by
  obtain ⟨_, cc_MOST_SIGNS⟩ := T.c_MOST_SIGNS
  refine T.F_is_name.ok sc_is_name (fun vs H Q E h => ?_) (fun cdv A outer s H vs Q E hr h => ?_)
  · obtain ⟨x, rfl, hx, hz, hQ⟩ := h
    rfl
  · obtain ⟨x, rfl, hx, hz, hQ⟩ := h
    refine ⟨_, (pss_one (ps_ret (pe_and (pe_chain op_le op_le pe_int (pe_callB call_len_str (by rfl) T.z_len bt_len (pa_cons (pv 0) pa_nil)) (pe_glob (v := .int 8) (by rfl) cc_MOST_SIGNS ⟨_, rfl⟩)) (pe_one (pe_callB (call_all_list rfl) (by rfl) T.z_all bt_all (pa_cons (pe_comp (N' := ["sign"]) (nt := 1) (caps := []) _ _ (CompScope.of (by kernel_rfl)) (pi_str (pv 0)) (fun _ => (pg_nameC (i := 0) ["sign"] (by decide +kernel) (by rfl))) (fun _ => pts_nil) (fun _ => (pe_chain op_le_str op_le_str pe_str (pv 0) pe_str))) pa_nil)))))), ?_⟩
    have hcs : x.cps.size = x.length := rfl
    refine ⟨_, rfl, x, rfl, Nat.le_trans hz (by decide), _, _, rfl, rfl, _, rfl, ?_⟩
    have key : ∀ (k : Bool) (H' : Hp), Same H H' → okName x = k → Q (.bl k) H' := fun k H' S e => e ▸ hQ H' S
    refine iteD (fun h1 => ?_) (fun h1 => ?_)
    · refine ⟨_, _, rfl, rfl, _, rfl, ?_⟩
      refine iteD (fun h8 => ?_) (fun h8 => ?_)
      · refine ⟨_, rfl, x, rfl, hx, ?_⟩
        refine comp_strP (fun i zs σ H2 => (∃ v, σ = [v]) ∧ Same H H2 ∧ zs = ((x.cps.toList.take i).map okSign).map V.bl) ⟨⟨none, rfl⟩, Same.refl _, rfl⟩ ?_ ?_ ?_
        · rintro i zs σ H2 hi ⟨_, S, rfl⟩
          rw [List.length_map, List.length_map, List.length_take]
          exact small70 (by omega)
        · rintro B i c zs σ H2 hc ⟨⟨v, rfl⟩, S, rfl⟩
          dsimp only [gName, tTrue]
          rw [if_pos rfl]
          have hc' : x.cps.toList[i]? = some c := by simpa using hc
          have fin : ∀ k : Bool, okSign c = k → (((x.cps.toList.take i).map okSign).map V.bl ++ [V.bl k]) = ((x.cps.toList.take (i + 1)).map okSign).map V.bl := fun k e => by
            rw [List.take_add_one, hc', Option.toList_some, List.map_append, List.map_append, ← e]
            rfl
          refine ⟨_, rfl, _, _, rfl, rfl, _, rfl, ?_⟩
          have ea : (!decide ((⟨#[c]⟩ : Str).cps.toList < (Str.ofString "a").cps.toList)) = decide (97 ≤ c) := le_one
          have ez : (!decide ((Str.ofString "z").cps.toList < (⟨#[c]⟩ : Str).cps.toList)) = decide (c ≤ 122) := le_one
          rw [ea]
          refine iteD (fun g1 => ?_) (fun g1 => ?_)
          · refine ⟨_, _, rfl, rfl, ⟨_, rfl⟩, S, ?_⟩
            rw [ez]
            exact fin _ (by unfold okSign; simp [g1])
          · exact ⟨⟨_, rfl⟩, S, fin _ (by unfold okSign; simp [g1])⟩
        · rintro zs σ H2 ⟨_, S, rfl⟩ p hp
          rw [← Array.length_toList, List.take_length]
          refine ⟨p, _, rfl, SqL.of upd_same, key _ _ (S.upd hp) ?_⟩
          rw [all_map_sign]
          unfold okName
          simp [show 1 ≤ x.length by omega, show x.length ≤ 8 by omega]
      · refine key _ _ (Same.refl _) ?_
        unfold okName
        simp [show ¬ x.length ≤ 8 by omega]
    · refine ⟨_, rfl, ?_⟩
      refine iteF (key _ _ (Same.refl _) ?_)
      unfold okName
      simp [show ¬ 1 ≤ x.length by omega]
theorem sc_refuse_bad_names : FnScope ["names", "least", "most", "name"] ["names", "least", "most"] (defScope s_refuse_bad_names) := ⟨rfl, rfl, rfl, by decide +kernel, rfl, by decide +kernel, by decide +kernel⟩
set_option maxHeartbeats 4000000 in
theorem ok_refuse_bad_names (T : Txt K mg AR FR) : FnOk P w K mg base CX0 2 AR.f_refuse_bad_names FR.d_refuse_bad_names ["names", "least", "most"] (sp_refuse_bad_names K) := by
  have G_is_name : FnOk P w K mg base CX0 1 AR.f_is_name FR.d_is_name _ (sp_is_name K) := ok_is_name T
  refine T.F_refuse_bad_names.ok sc_refuse_bad_names (fun vs H Q E h => ?_) (fun cdv A outer s H vs Q E hr h => ?_)
  · obtain ⟨a, ys, lo, hi, rfl, ha, h1, h2, h6, hn, hd, hQ⟩ := h
    rfl
  · obtain ⟨a, ys, lo, hi, rfl, ha, h1, h2, h6, hn, hd, hQ⟩ := h
    refine ⟨_, (pss_cons (ps_if (pt_not (pt_chain op_le op_le (pv 1) (pe_callB call_len_seq (by rfl) T.z_len bt_len (pa_cons (pv 0) pa_nil)) (pv 2))) (pss_one ps_never) pss_nil)
      (pss_cons (ps_for PassesOwn.never rfl (pi_list (pv 0)) (pg_name (i := 3) sc_refuse_bad_names.nd (by rfl) (Or.inl rfl))
      (pss_one (ps_if (pt_not (pt_val (pe_call G_is_name (hr.mono (by decide)) (by rfl) T.m_is_name T.F_is_name.kp T.b_is_name .nil pass0 (pa_cons (pv 3) pa_nil)))) (pss_one ps_never) pss_nil)))
      (pss_one (ps_if (pt_cmpR op_ne (pe_callB call_len_setS (by rfl) T.z_len bt_len (pa_cons (pe_callTy (call_set_strs rfl) (by rfl) T.z_set bt_set (pa_cons (pv 0) pa_nil)) pa_nil)) (pe_callB call_len_seq (by rfl) T.z_len bt_len (pa_cons (pv 0) pa_nil)) (nomark _)) (pss_one ps_never) pss_nil)))), ?_⟩
    have hL : (vstrs ys).length = ys.length := List.length_map ..
    refine ⟨_, rfl, _, rfl, a, _, rfl, .inl ha, _, _, rfl, rfl, _, rfl, ?_⟩
    refine iteD (fun _ => ?_) (fun g => absurd (by rw [hL]; omega) g)
    refine ⟨_, rfl, _, _, rfl, rfl, _, rfl, ?_⟩
    refine iteND (fun g => absurd (by rw [hL]; omega) g) (fun _ => ?_)
    -- for name in names
    refine ⟨_, rfl, a, rfl, ⟨_, ha⟩, for_list (K := K) (a := a) (xs := vstrs ys) (fun i σ H2 => ∃ o, σ = [some (.ref a), some (.int lo), some (.int hi), o] ∧ Same H H2) ⟨none, rfl, Same.refl _⟩ (fun i σ H2 _ ⟨_, _, S⟩ => S.seq ha) ?_ ?_⟩
    · rintro i x σ H2 hx ⟨o, rfl, S⟩
      obtain ⟨y, hy, rfl⟩ := strs_get hx
      have ok := hn y (List.mem_of_getElem? hy)
      have ol : y.length ≤ 8 := by
        unfold okName at ok
        rw [Bool.and_eq_true, Bool.and_eq_true, decide_eq_true_eq, decide_eq_true_eq] at ok
        exact ok.1.2
      refine ⟨_, rfl, y, rfl, okName_ascii ok, by omega, fun H3 S3 => ⟨_, rfl, ?_⟩⟩
      rw [ok]
      refine iteF ?_
      exact ⟨_, rfl, S.trans S3⟩
    · rintro σ H2 ⟨o, rfl, S⟩
      refine ⟨_, rfl, a, ys, rfl, S.seq ha, by omega, fun p hp => ?_⟩
      refine ⟨p, _, rfl, upd_same, _, rfl, a, _, rfl, .inl ((S.upd hp).seq ha), rfl, _, rfl, ?_⟩
      refine iteNS (by rw [metS_all hd, hL]) ?_
      exact hQ _ (S.upd hp)
theorem sc_refuse_bad_bags : FnScope ["bags", "many", "width", "bag", "number"] ["bags", "many", "width"] (defScope s_refuse_bad_bags) := ⟨rfl, rfl, rfl, by decide +kernel, rfl, by decide +kernel, by decide +kernel⟩
set_option maxHeartbeats 4000000 in
theorem ok_refuse_bad_bags (T : Txt K mg AR FR) : FnOk P w K mg base CX0 1 AR.f_refuse_bad_bags FR.d_refuse_bad_bags ["bags", "many", "width"] (sp_refuse_bad_bags K) := by
  obtain ⟨_, cc_MOST_BEADS⟩ := T.c_MOST_BEADS
  refine T.F_refuse_bad_bags.ok sc_refuse_bad_bags (fun vs H Q E h => ?_) (fun cdv A outer s H vs Q E hr h => ?_)
  · obtain ⟨a, as, rs, n, rfl, ha, R, ok, hQ⟩ := h
    rfl
  · obtain ⟨a, as, rs, n, rfl, ha, R, ok, hQ⟩ := h
    refine ⟨_, (pss_cons (ps_if (pt_cmpR op_ne (pe_callB call_len_seq (by rfl) T.z_len bt_len (pa_cons (pv 0) pa_nil)) (pv 1) (nomark _)) (pss_one ps_never) pss_nil)
      (pss_one (ps_for PassesOwn.never rfl (pi_list (pv 0)) (pg_name (i := 3) sc_refuse_bad_bags.nd (by rfl) (Or.inl rfl))
      (pss_cons (ps_if (pt_cmpR op_ne (pe_callB call_len_seq (by rfl) T.z_len bt_len (pa_cons (pv 3) pa_nil)) (pv 2) (nomark _)) (pss_one ps_never) pss_nil)
      (pss_one (ps_for PassesOwn.never rfl (pi_list (pv 3)) (pg_name (i := 4) sc_refuse_bad_bags.nd (by rfl) (Or.inl rfl))
      (pss_one (ps_if (pt_not (pt_chain op_le op_le pe_int (pv 4) (pe_glob (v := .int 1000000000) (by rfl) cc_MOST_BEADS ⟨_, rfl⟩))) (pss_one ps_never) pss_nil)))))))), ?_⟩
    have hal := R.length
    refine ⟨_, rfl, a, _, rfl, .inl ha, _, rfl, rfl, _, rfl, ?_⟩
    refine iteNS (by rw [List.length_map, hal]) ?_
    refine ⟨_, rfl, a, rfl, ⟨_, ha⟩, for_list (K := K) (a := a) (xs := as.map V.ref) (fun i σ H2 => ∃ o3 o4, σ = [some (.ref a), some (.int rs.length), some (.int n), o3, o4] ∧ H2 = H) ⟨none, none, rfl, rfl⟩ (fun i σ H2 _ ⟨_, _, _, e⟩ => e ▸ ha) ?_ ?_⟩
    · rintro i x σ H2 hx ⟨o3, o4, rfl, rfl⟩
      obtain ⟨b, hb1, rfl⟩ := refs_get hx
      obtain ⟨r, hr1, hb⟩ := Paired.getL R hb1
      obtain ⟨hrl, hrb⟩ := ok r (List.mem_of_getElem? hr1)
      refine ⟨_, rfl, b, _, rfl, .inl (SqL.of hb), _, rfl, rfl, _, rfl, ?_⟩
      refine iteNS (by rw [ints_len, hrl]) ?_
      refine ⟨_, rfl, b, rfl, ⟨_, SqL.of hb⟩, for_list (K := K) (a := b) (xs := vints r) (fun i' σ H3 => ∃ o4, σ = [some (.ref a), some (.int rs.length), some (.int n), some (.ref b), o4] ∧ H3 = H2) ⟨_, rfl, rfl⟩ (fun i σ H3 _ ⟨_, _, e⟩ => e ▸ SqL.of hb) ?_ ?_⟩
      · rintro i' y σ H3 hy ⟨o, rfl, rfl⟩
        obtain ⟨m, hm, rfl⟩ := ints_get hy
        obtain ⟨g1, g2⟩ := hrb m (List.mem_of_getElem? hm)
        refine ⟨_, rfl, _, _, rfl, rfl, _, rfl, ?_⟩
        refine iteD (fun _ => ?_) (fun g => absurd g1 g)
        refine ⟨_, _, rfl, rfl, _, rfl, ?_⟩
        refine iteND (fun g => absurd g2 g) (fun _ => ?_)
        exact ⟨_, rfl, rfl⟩
      · rintro σ H3 ⟨o, rfl, rfl⟩
        exact ⟨_, _, rfl, rfl⟩
    · rintro σ H2 ⟨o3, o4, rfl, rfl⟩
      exact hQ
theorem sc_Net_init : FnScope ["self", "bowls", "doors", "takes", "gives", "first"] ["self", "bowls", "doors", "takes", "gives", "first"] (defScope s_Net_init) := ⟨rfl, rfl, rfl, by decide +kernel, rfl, by decide +kernel, by decide +kernel⟩
set_option maxHeartbeats 4000000 in
theorem ok_Net_init (T : Txt K mg AR FR) : FnOk P w K mg base CX0 3 AR.f_Net_init FR.d_Net_init ["self", "bowls", "doors", "takes", "gives", "first"] (sp_Net_init AR.C_Net K) := by
  obtain ⟨_, cc_LEAST_BOWLS⟩ := T.c_LEAST_BOWLS
  obtain ⟨_, cc_MOST_BOWLS⟩ := T.c_MOST_BOWLS
  obtain ⟨_, cc_MOST_DOORS⟩ := T.c_MOST_DOORS
  have G_refuse_bad_names : FnOk P w K mg base CX0 2 AR.f_refuse_bad_names FR.d_refuse_bad_names _ (sp_refuse_bad_names K) := ok_refuse_bad_names T
  have G_refuse_bad_bags : FnOk P w K mg base CX0 1 AR.f_refuse_bad_bags FR.d_refuse_bad_bags _ (sp_refuse_bad_bags K) := ok_refuse_bad_bags T
  refine T.F_Net_init.ok sc_Net_init (fun vs H Q E h => ?_) (fun cdv A outer s H vs Q E hr h => ?_)
  · obtain ⟨x, dx, pb, pd, pt, pg, pf, ts, gs, N, rfl, hx, ok, hb, hd, ht, tr, hg, gr, hf, hQ⟩ := h
    rfl
  · obtain ⟨x, dx, pb, pd, pt, pg, pf, ts, gs, N, rfl, hx, ok, hb, hd, ht, tr, hg, gr, hf, hQ⟩ := h
    refine ⟨_, (pss_cons (ps_expr (pe_call G_refuse_bad_names (hr.mono (by decide)) (by rfl) T.m_refuse_bad_names T.F_refuse_bad_names.kp T.b_refuse_bad_names .nil pass0 (pa_cons (pv 1) (pa_cons (pe_glob (v := .int 1) (by rfl) cc_LEAST_BOWLS ⟨_, rfl⟩) (pa_cons (pe_glob (v := .int 6) (by rfl) cc_MOST_BOWLS ⟨_, rfl⟩) pa_nil)))))
      (pss_cons (ps_expr (pe_call G_refuse_bad_names (hr.mono (by decide)) (by rfl) T.m_refuse_bad_names T.F_refuse_bad_names.kp T.b_refuse_bad_names .nil pass0 (pa_cons (pv 2) (pa_cons pe_int (pa_cons (pe_glob (v := .int 8) (by rfl) cc_MOST_DOORS ⟨_, rfl⟩) pa_nil)))))
      (pss_cons (ps_expr (pe_call G_refuse_bad_bags (hr.mono (by decide)) (by rfl) T.m_refuse_bad_bags T.F_refuse_bad_bags.kp T.b_refuse_bad_bags .nil pass0 (pa_cons (pv 3) (pa_cons (pe_callB call_len_seq (by rfl) T.z_len bt_len (pa_cons (pv 2) pa_nil)) (pa_cons (pe_callB call_len_seq (by rfl) T.z_len bt_len (pa_cons (pv 1) pa_nil)) pa_nil)))))
      (pss_cons (ps_expr (pe_call G_refuse_bad_bags (hr.mono (by decide)) (by rfl) T.m_refuse_bad_bags T.F_refuse_bad_bags.kp T.b_refuse_bad_bags .nil pass0 (pa_cons (pv 4) (pa_cons (pe_callB call_len_seq (by rfl) T.z_len bt_len (pa_cons (pv 2) pa_nil)) (pa_cons (pe_callB call_len_seq (by rfl) T.z_len bt_len (pa_cons (pv 1) pa_nil)) pa_nil)))))
      (pss_cons (ps_expr (pe_call G_refuse_bad_bags (hr.mono (by decide)) (by rfl) T.m_refuse_bad_bags T.F_refuse_bad_bags.kp T.b_refuse_bad_bags .nil pass0 (pa_cons (pe_lst (pa_cons (pv 5) pa_nil)) (pa_cons pe_int (pa_cons (pe_callB call_len_seq (by rfl) T.z_len bt_len (pa_cons (pv 1) pa_nil)) pa_nil)))))
      (pss_cons (ps_fld (pv 0) (pe_callTy call_list_of (by rfl) T.z_list bt_list (pa_cons (pv 1) pa_nil)) rfl)
      (pss_cons (ps_fld (pv 0) (pe_callTy call_list_of (by rfl) T.z_list bt_list (pa_cons (pv 2) pa_nil)) rfl)
      (pss_cons (ps_fld (pv 0) (pe_comp (N' := ["bag"]) (nt := 1) (caps := []) _ _ (CompScope.of (by kernel_rfl)) (pi_list (pv 3)) (fun _ => (pg_nameC (i := 0) ["bag"] (by decide +kernel) (by rfl))) (fun _ => pts_nil) (fun _ => (pe_callTy call_list_of (by rfl) T.z_list bt_list (pa_cons (pv 0) pa_nil)))) rfl)
      (pss_cons (ps_fld (pv 0) (pe_comp (N' := ["bag"]) (nt := 1) (caps := []) _ _ (CompScope.of (by kernel_rfl)) (pi_list (pv 4)) (fun _ => (pg_nameC (i := 0) ["bag"] (by decide +kernel) (by rfl))) (fun _ => pts_nil) (fun _ => (pe_callTy call_list_of (by rfl) T.z_list bt_list (pa_cons (pv 0) pa_nil)))) rfl)
      (pss_one (ps_fld (pv 0) (pe_callTy call_list_of (by rfl) T.z_list bt_list (pa_cons (pv 5) pa_nil)) rfl))))))))))), ?_⟩
    have tl := tr.length
    have gl := gr.length
    have lb : (vstrs N.bowls).length = N.bowls.length := List.length_map ..
    have ld : (vstrs N.doors).length = N.doors.length := List.length_map ..
    -- the refusals do not come
    refine ⟨_, rfl, pb, N.bowls, 1, 6, rfl, hb, by have := ok.b1; omega, by have := ok.b6; omega, by have := ok.b6; omega, ok.bn, ok.bd, fun H1 S1 => ?_⟩
    refine ⟨_, rfl, pd, N.doors, 0, 8, rfl, S1.seq hd, by omega, by have := ok.d8; omega, by have := ok.d8; omega, ok.dn, ok.dd, fun H2 S2 => ?_⟩
    have S12 := S1.trans S2
    refine ⟨_, rfl, _, rfl, pd, _, rfl, .inl (S12.seq hd), _, rfl, pb, _, rfl, .inl (S12.seq hb), pt, ts, N.takes, N.bowls.length, by rw [ld, lb, ok.tl]; rfl, S12.seq ht, tr.same S12, ok.tk, ?_⟩
    refine ⟨_, rfl, _, rfl, pd, _, rfl, .inl (S12.seq hd), _, rfl, pb, _, rfl, .inl (S12.seq hb), pg, gs, N.gives, N.bowls.length, by rw [ld, lb, ok.gl]; rfl, S12.seq hg, gr.same S12, ok.gv, ?_⟩
    refine ⟨_, rfl, by show 1 ≤ sizeLine; decide, fun q0 m0 => ?_⟩
    have U0 := S12.upd m0 (o := .lst [V.ref pf])
    refine ⟨_, rfl, pb, _, rfl, .inl (U0.seq hb), q0, [pf], [N.first], N.bowls.length, by rw [lb]; rfl, SqL.of upd_same, .cons (U0 _ _ hf) .nil, (fun r hr => by rw [List.mem_singleton.mp hr]; exact ok.fs), ?_⟩
    -- from here on what was tracked stays, but for the instance
    generalize upd H2 q0 (.lst [V.ref pf]) = H3 at U0
    have x3 := U0 _ _ hx
    have k3 : But x H H3 := U0.but
    -- self.bowls = list(bowls)
    refine ⟨_, rfl, pb, _, rfl, .inl (U0.seq hb), fun b nb => ?_⟩
    have nxb : x ≠ b := ne_of_none x3 nb
    refine ⟨_, rfl, x, AR.C_Net, dx, [], rfl, by rw [upd_ne nxb]; exact x3, T.cl_Net, T.n_Net_bowls, by show 0 < 1000; decide, ?_⟩
    have k4 : But x H3 _ := But.step (x := x) (o := .lst (vstrs N.bowls)) (o' := .ins AR.C_Net dx (nf1 (.ref b))) nb
    have x4 := upd_same (H := upd H3 b (.lst (vstrs N.bowls))) (a := x) (o := .ins AR.C_Net dx (nf1 (.ref b)))
    have b4 : upd (upd H3 b (.lst (vstrs N.bowls))) x (.ins AR.C_Net dx (nf1 (.ref b))) b = some (.lst (vstrs N.bowls)) := by rw [upd_ne (Ne.symm nxb), upd_same]
    generalize hH4 : upd (upd H3 b (.lst (vstrs N.bowls))) x (.ins AR.C_Net dx (nf1 (.ref b))) = H4 at k4 x4 b4
    have a4 := k3.trans k4
    -- self.doors = list(doors)
    refine ⟨_, rfl, pd, _, rfl, .inl (by rw [show upd (upd H3 b (.lst (vstrs N.bowls))) x (.ins AR.C_Net dx (putF "bowls" (V.ref b) [])) = H4 from hH4]; exact a4.seq hx hd), ?_⟩
    rw [show upd (upd H3 b (.lst (vstrs N.bowls))) x (.ins AR.C_Net dx (putF "bowls" (V.ref b) [])) = H4 from hH4]
    intro d nd
    have nxd : x ≠ d := ne_of_none x4 nd
    refine ⟨_, rfl, x, AR.C_Net, dx, _, rfl, by rw [upd_ne nxd]; exact x4, T.cl_Net, T.n_Net_doors, by show 1 < 1000; decide, ?_⟩
    rw [put_n2]
    have k5 : But x H4 _ := But.step (x := x) (o := .lst (vstrs N.doors)) (o' := .ins AR.C_Net dx (nf2 (.ref b) (.ref d))) nd
    have x5 := upd_same (H := upd H4 d (.lst (vstrs N.doors))) (a := x) (o := .ins AR.C_Net dx (nf2 (.ref b) (.ref d)))
    have d5 : upd (upd H4 d (.lst (vstrs N.doors))) x (.ins AR.C_Net dx (nf2 (.ref b) (.ref d))) d = some (.lst (vstrs N.doors)) := by rw [upd_ne (Ne.symm nxd), upd_same]
    have b5 := k5 _ _ b4 (Ne.symm nxb)
    generalize upd (upd H4 d (.lst (vstrs N.doors))) x (.ins AR.C_Net dx (nf2 (.ref b) (.ref d))) = H5 at k5 x5 d5 b5 ⊢
    have a5 := a4.trans k5
    -- self.takes = [list(bag) for bag in takes]
    refine ⟨_, rfl, pt, rfl, ⟨_, a5.seq hx ht⟩, ?_⟩
    refine comp_copies (K := K) (τ := []) (fun _ => rfl) (a5.seq hx ht) (a5.rows hx tr) (by have := ok.tl; have := ok.d8; omega) fun H6 ts' S6 R6 f6 t nt => ?_
    have x6 := S6 _ _ x5
    have nxt : x ≠ t := ne_of_none x6 nt
    refine ⟨_, rfl, x, AR.C_Net, dx, _, rfl, by rw [upd_ne nxt]; exact x6, T.cl_Net, T.n_Net_takes, by show 2 < 1000; decide, ?_⟩
    rw [put_n3]
    have k7 : But x H6 _ := But.step (x := x) (o := .lst (ts'.map V.ref)) (o' := .ins AR.C_Net dx (nf3 (.ref b) (.ref d) (.ref t))) nt
    have x7 := upd_same (H := upd H6 t (.lst (ts'.map V.ref))) (a := x) (o := .ins AR.C_Net dx (nf3 (.ref b) (.ref d) (.ref t)))
    have t7 : upd (upd H6 t (.lst (ts'.map V.ref))) x (.ins AR.C_Net dx (nf3 (.ref b) (.ref d) (.ref t))) t = some (.lst (ts'.map V.ref)) := by rw [upd_ne (Ne.symm nxt), upd_same]
    have b7 := k7 _ _ (S6 _ _ b5) (Ne.symm nxb)
    have d7 := k7 _ _ (S6 _ _ d5) (Ne.symm nxd)
    have r7 := k7.rows x6 R6
    generalize upd (upd H6 t (.lst (ts'.map V.ref))) x (.ins AR.C_Net dx (nf3 (.ref b) (.ref d) (.ref t))) = H7 at k7 x7 t7 b7 d7 r7 ⊢
    have a7 := a5.trans (S6.but.trans k7)
    -- self.gives = [list(bag) for bag in gives]
    refine ⟨_, rfl, pg, rfl, ⟨_, a7.seq hx hg⟩, ?_⟩
    refine comp_copies (K := K) (τ := []) (fun _ => rfl) (a7.seq hx hg) (a7.rows hx gr) (by have := ok.gl; have := ok.d8; omega) fun H8 gs' S8 R8 f8 g ng => ?_
    have x8 := S8 _ _ x7
    have nxg : x ≠ g := ne_of_none x8 ng
    refine ⟨_, rfl, x, AR.C_Net, dx, _, rfl, by rw [upd_ne nxg]; exact x8, T.cl_Net, T.n_Net_gives, by show 3 < 1000; decide, ?_⟩
    rw [put_n4]
    have k9 : But x H8 _ := But.step (x := x) (o := .lst (gs'.map V.ref)) (o' := .ins AR.C_Net dx (nf4 (.ref b) (.ref d) (.ref t) (.ref g))) ng
    have x9 := upd_same (H := upd H8 g (.lst (gs'.map V.ref))) (a := x) (o := .ins AR.C_Net dx (nf4 (.ref b) (.ref d) (.ref t) (.ref g)))
    have g9 : upd (upd H8 g (.lst (gs'.map V.ref))) x (.ins AR.C_Net dx (nf4 (.ref b) (.ref d) (.ref t) (.ref g))) g = some (.lst (gs'.map V.ref)) := by rw [upd_ne (Ne.symm nxg), upd_same]
    have b9 := k9 _ _ (S8 _ _ b7) (Ne.symm nxb)
    have d9 := k9 _ _ (S8 _ _ d7) (Ne.symm nxd)
    have t9 := k9 _ _ (S8 _ _ t7) (Ne.symm nxt)
    have r9 := k9.rows x8 (r7.same S8)
    have q9 := k9.rows x8 R8
    generalize upd (upd H8 g (.lst (gs'.map V.ref))) x (.ins AR.C_Net dx (nf4 (.ref b) (.ref d) (.ref t) (.ref g))) = H9 at k9 x9 g9 b9 d9 t9 r9 q9 ⊢
    have a9 := a7.trans (S8.but.trans k9)
    -- self.first = list(first)
    refine ⟨_, rfl, pf, _, rfl, .inl (a9.seq hx (SqL.of hf)), fun f nf => ?_⟩
    have nxf : x ≠ f := ne_of_none x9 nf
    refine ⟨_, rfl, x, AR.C_Net, dx, _, rfl, by rw [upd_ne nxf]; exact x9, T.cl_Net, T.n_Net_first, by show 4 < 1000; decide, ?_⟩
    rw [put_n5]
    have k10 : But x H9 _ := But.step (x := x) (o := .lst (vints N.first)) (o' := .ins AR.C_Net dx (netF b d t g f)) nf
    have free : ∀ {Ha : Hp} {q : Addr} {o : HO}, But x H Ha → Ha x = some o → Ha q = none → H q = none := fun k e n => k.free (C := AR.C_Net) (dx := dx) (fs := []) e n
    refine hQ b d t g f ts' gs' _ (fun a ha => ?_) (fun q o e n => k10 _ _ (a9 _ _ e n) n) ⟨upd_same, k10 _ _ b9 (Ne.symm nxb), k10 _ _ d9 (Ne.symm nxd), k10 _ _ t9 (Ne.symm nxt), k10.rows x9 r9, k10 _ _ g9 (Ne.symm nxg), k10.rows x9 q9, by rw [upd_ne (Ne.symm nxf), upd_same]⟩
    rcases List.mem_append.mp ha with ha | ha
    · rcases List.mem_append.mp ha with ha | ha
      · simp only [List.mem_cons, List.not_mem_nil, or_false] at ha
        rcases ha with rfl | rfl | rfl | rfl | rfl
        · exact free k3 x3 nb
        · exact free a4 x4 nd
        · exact free (a5.trans S6.but) x6 nt
        · exact free (a7.trans S8.but) x8 ng
        · exact free a9 x9 nf
      · exact free a5 x5 (f6 a ha)
    · exact free a7 x7 (f8 a ha)
theorem sc_law_made : FnScope ["plan", "takes", "gives", "doors"] ["plan"] (defScope s_law_made) := ⟨rfl, rfl, rfl, by decide +kernel, rfl, by decide +kernel, by decide +kernel⟩
set_option maxHeartbeats 4000000 in
theorem ok_law_made (T : Txt K mg AR FR) : FnOk P w K mg base CX0 5 AR.f_law_made FR.d_law_made ["plan"] (sp_law_made AR.C_Net K) := by
  have G_Net_init : FnOk P w K mg base CX0 3 AR.f_Net_init FR.d_Net_init _ (sp_Net_init AR.C_Net K) := ok_Net_init T
  refine T.F_law_made.ok sc_law_made (fun vs H Q E h => ?_) (fun cdv A outer s H vs Q E hr h => ?_)
  · obtain ⟨p, pt, pg, pf, ts, gs, tk, gv, fs, rfl, P, o, hQ⟩ := h
    rfl
  · obtain ⟨p, pt, pg, pf, ts, gs, tk, gv, fs, rfl, P, o, hQ⟩ := h
    refine ⟨_, (pss_cons (ps_setComp (i := 1) (N' := ["bag"]) (nt := 1) (caps := []) _ _ (CompScope.of (by kernel_rfl)) sc_law_made.nd rfl rfl (pi_list (pe_ix ix_tup (pv 0) pe_int (fun _ _ => rfl))) (fun _ => (pg_nameC (i := 0) ["bag"] (by decide +kernel) (by rfl))) (fun _ => pts_nil) (fun _ => (pe_callTy call_list_of (by rfl) T.z_list bt_list (pa_cons (pv 0) pa_nil))))
      (pss_cons (ps_setComp (i := 2) (N' := ["bag"]) (nt := 1) (caps := []) _ _ (CompScope.of (by kernel_rfl)) sc_law_made.nd rfl rfl (pi_list (pe_ix ix_tup (pv 0) pe_int (fun _ _ => rfl))) (fun _ => (pg_nameC (i := 0) ["bag"] (by decide +kernel) (by rfl))) (fun _ => pts_nil) (fun _ => (pe_callTy call_list_of (by rfl) T.z_list bt_list (pa_cons (pv 0) pa_nil))))
      (pss_cons (ps_set (i := 3) sc_law_made.nd rfl (Or.inl rfl) (pe_slice sl_list (pe_lst (pa_cons pe_str (pa_cons pe_str (pa_cons pe_str (pa_cons pe_str (pa_cons pe_str (pa_cons pe_str (pa_cons pe_str (pa_cons pe_str pa_nil))))))))) po_none (po_some (pe_callB call_len_seq (by rfl) T.z_len bt_len (pa_cons (pv 1) pa_nil)))))
      (pss_one (ps_ret (pe_make T.mk_Net G_Net_init (hr.mono (by decide)) (by rfl) T.mC_Net T.b_Net_init .nil pass0 (pa_cons (pe_slice sl_list (pe_lst (pa_cons pe_str (pa_cons pe_str (pa_cons pe_str (pa_cons pe_str (pa_cons pe_str (pa_cons pe_str pa_nil))))))) po_none (po_some (pe_callB call_len_seq (by rfl) T.z_len bt_len (pa_cons (pe_ix ix_tup (pv 0) pe_int (fun _ _ => rfl)) pa_nil)))) (pa_cons (pv 3) (pa_cons (pv 1) (pa_cons (pv 2) (pa_cons (pe_callTy call_list_of (by rfl) T.z_list bt_list (pa_cons (pe_ix ix_tup (pv 0) pe_int (fun _ _ => rfl)) pa_nil)) pa_nil))))))))))), ?_⟩
    have ok := netR_ok o
    have z6 := o.z6
    have t8 := o.t8
    have gl := o.gl
    refine ⟨_, rfl, p, _, _, _, rfl, rfl, SqT.of P.top, rfl, pt, rfl, ⟨_, SqL.of P.ht⟩, ?_⟩
    refine comp_copies (K := K) (τ := []) (fun _ => rfl) (SqL.of P.ht) P.tr (by omega) fun H6 ts' S6 R6 f6 t nt => ?_
    have V6 := S6.upd nt (o := .lst (ts'.map V.ref))
    have ht6 := upd_same (H := H6) (a := t) (o := .lst (ts'.map V.ref))
    have R6' := R6.same ((Same.refl H6).upd nt (o := .lst (ts'.map V.ref)))
    generalize upd H6 t (.lst (ts'.map V.ref)) = H7 at V6 ht6 R6' ⊢
    have P7 := P.same V6
    refine ⟨_, rfl, p, _, _, _, rfl, rfl, SqT.of P7.top, rfl, pg, rfl, ⟨_, SqL.of P7.hg⟩, ?_⟩
    refine comp_copies (K := K) (τ := []) (fun _ => rfl) (SqL.of P7.hg) P7.gr (by omega) fun H8 gs' S8 R8 f8 g ng => ?_
    have V8 := S8.upd ng (o := .lst (gs'.map V.ref))
    have hg8 := upd_same (H := H8) (a := g) (o := .lst (gs'.map V.ref))
    have R8' := R8.same ((Same.refl H8).upd ng (o := .lst (gs'.map V.ref)))
    generalize upd H8 g (.lst (gs'.map V.ref)) = H9 at V8 hg8 R8' ⊢
    have U9 := V6.trans V8
    have P9 := P7.same V8
    -- doors
    refine ⟨by show 8 ≤ sizeLine; decide, fun l2 n2 => ?_⟩
    have U3 := (Same.refl H9).upd n2 (o := .lst veit3)
    refine ⟨_, rfl, t, _, rfl, .inl (SqL.of (U3 _ _ (V8 _ _ ht6))), _, rfl, l2, veit3, rfl, SqL.of upd_same, fun d1 nd1 => ?_⟩
    rw [List.length_map, R6.length, cut_eit3]
    have U4 := U3.upd nd1 (o := .lst (vstrs (eit3.take tk.length)))
    have hd1 := upd_same (H := upd H9 l2 (.lst veit3)) (a := d1) (o := .lst (vstrs (eit3.take tk.length)))
    generalize upd (upd H9 l2 (.lst veit3)) d1 (.lst (vstrs (eit3.take tk.length))) = H10 at U4 hd1 ⊢
    have P10 := P9.same U4
    -- bowls
    refine ⟨by show 6 ≤ sizeLine; decide, fun l1 n1 => ?_⟩
    have U5 := (Same.refl H10).upd n1 (o := .lst vsix)
    have P11 := P10.same U5
    refine ⟨_, rfl, p, _, _, _, rfl, rfl, SqT.of P11.top, rfl, pf, _, rfl, .inl (SqL.of P11.hf), _, rfl, l1, vsix, rfl, SqL.of upd_same, fun b1 nb1 => ?_⟩
    rw [ints_len, cut_six]
    have U6 := U5.upd nb1 (o := .lst (vstrs (six.take fs.length)))
    have hb1 := upd_same (H := upd H10 l1 (.lst vsix)) (a := b1) (o := .lst (vstrs (six.take fs.length)))
    generalize upd (upd H10 l1 (.lst vsix)) b1 (.lst (vstrs (six.take fs.length))) = H11 at U6 hb1 ⊢
    have P12 := P10.same U6
    refine ⟨_, rfl, _, rfl, _, rfl, _, rfl, p, _, _, _, rfl, rfl, SqT.of P12.top, rfl, pf, _, rfl, .inl (SqL.of P12.hf), fun f nf => ?_⟩
    have V10 := (Same.refl H11).upd nf (o := .lst (vints fs))
    have hf10 := upd_same (H := H11) (a := f) (o := .lst (vints fs))
    generalize upd H11 f (.lst (vints fs)) = H12 at V10 hf10 ⊢
    have X12 := (U4.trans U6).trans V10
    have Z12 := U9.trans X12
    intro x dx nx ndx ne
    have nx' : upd H12 dx (.own x) x = none := by rw [upd_ne (Ne.symm ne)]; exact nx
    have U := ((Same.refl H12).upd ndx (o := .own x)).upd nx' (o := .ins AR.C_Net dx [])
    have W12 := (V8.trans X12).trans U
    refine ⟨x, dx, b1, d1, t, g, f, ts', gs', netR tk gv fs, rfl, upd_same, ok, SqL.of ((V10.trans U) _ _ hb1), SqL.of (((U6.trans V10).trans U) _ _ hd1), SqL.of (W12 _ _ ht6), R6'.same W12, SqL.of ((X12.trans U) _ _ hg8), R8'.same (X12.trans U), U _ _ hf10, fun b2 d2 t2 g2 f2 ts2 gs2 H2 fr kp NI => ⟨rfl, ?_⟩⟩
    exact hQ x dx b2 d2 t2 g2 f2 ts2 gs2 H2 (Z12.free nx) (Z12.trans fun q o e => kp q o (U q o e) (ne_of_none e nx)) NI ok
theorem sc_Rooms_init : FnScope ["self", "first"] ["self", "first"] (defScope s_Rooms_init) := ⟨rfl, rfl, rfl, by decide +kernel, rfl, by decide +kernel, by decide +kernel⟩
set_option maxHeartbeats 4000000 in
theorem ok_Rooms_init (T : Txt K mg AR FR) : FnOk P w K mg base CX0 1 AR.f_Rooms_init FR.d_Rooms_init ["self", "first"] (sp_Rooms_init AR.C_Rooms K) := by
  refine T.F_Rooms_init.ok sc_Rooms_init (fun vs H Q E h => ?_) (fun cdv A outer s H vs Q E hr h => ?_)
  · obtain ⟨x, dx, pg, first, rfl, hx, hg, hQ⟩ := h
    rfl
  · obtain ⟨x, dx, pg, first, rfl, hx, hg, hQ⟩ := h
    refine ⟨_, (pss_cons (ps_fld (pv 0) (pe_lst (pa_cons (pe_callTy call_list_of (by rfl) T.z_list bt_list (pa_cons (pv 1) pa_nil)) pa_nil)) rfl)
      (pss_cons (ps_fld (pv 0) (pe_lst (pa_cons (pe_un un_neg pe_int) pa_nil)) rfl)
      (pss_one (ps_fld (pv 0) (pe_lst (pa_cons (pe_un un_neg pe_int) pa_nil)) rfl)))), ?_⟩
    have free : ∀ {Ha : Hp} {q : Addr} {o : HO}, But x H Ha → Ha x = some o → Ha q = none → H q = none := fun k e n => k.free (C := AR.C_Rooms) (dx := dx) (fs := []) e n
    -- self.bags = [list(first)]
    refine ⟨_, rfl, pg, _, rfl, .inl hg, fun a na => ?_⟩
    have Ua := (Same.refl H).upd na (o := .lst (vints first))
    have ha := upd_same (H := H) (a := a) (o := .lst (vints first))
    have xa : x ≠ a := ne_of_none hx na
    generalize upd H a (.lst (vints first)) = H1 at Ua ha ⊢
    refine ⟨by show 1 ≤ sizeLine; decide, fun b nb => ?_⟩
    have x1 := Ua _ _ hx
    have nxb : x ≠ b := ne_of_none x1 nb
    have ab : a ≠ b := ne_of_none ha nb
    refine ⟨_, rfl, x, AR.C_Rooms, dx, [], rfl, by rw [upd_ne nxb]; exact x1, T.cl_Rooms, T.n_Rooms_bags, by show 0 < 1000; decide, ?_⟩
    rw [put_r1]
    have k4 : But x H1 _ := But.step (x := x) (o := .lst [V.ref a]) (o' := .ins AR.C_Rooms dx (rF1 (.ref b))) nb
    have x4 := upd_same (H := upd H1 b (.lst [V.ref a])) (a := x) (o := .ins AR.C_Rooms dx (rF1 (.ref b)))
    have b4 : upd (upd H1 b (.lst [V.ref a])) x (.ins AR.C_Rooms dx (rF1 (.ref b))) b = some (.lst [V.ref a]) := by rw [upd_ne (Ne.symm nxb), upd_same]
    have a4 := k4 _ _ ha (Ne.symm xa)
    generalize upd (upd H1 b (.lst [V.ref a])) x (.ins AR.C_Rooms dx (rF1 (.ref b))) = H4 at k4 x4 b4 a4 ⊢
    have K4 : But x H H4 := Ua.but.trans k4
    -- self.parents = [-1]
    refine ⟨_, rfl, by show 1 ≤ sizeLine; decide, fun m nm => ?_⟩
    have nxm : x ≠ m := ne_of_none x4 nm
    have am : a ≠ m := ne_of_none a4 nm
    have bm : b ≠ m := ne_of_none b4 nm
    refine ⟨_, rfl, x, AR.C_Rooms, dx, _, rfl, by rw [upd_ne nxm]; exact x4, T.cl_Rooms, T.n_Rooms_parents, by show 1 < 1000; decide, ?_⟩
    rw [put_r2]
    have k5 : But x H4 _ := But.step (x := x) (o := .lst [V.int (-1)]) (o' := .ins AR.C_Rooms dx (rF2 (.ref b) (.ref m))) nm
    have x5 := upd_same (H := upd H4 m (.lst [V.int (-1)])) (a := x) (o := .ins AR.C_Rooms dx (rF2 (.ref b) (.ref m)))
    have m5 : upd (upd H4 m (.lst [V.int (-1)])) x (.ins AR.C_Rooms dx (rF2 (.ref b) (.ref m))) m = some (.lst [V.int (-1)]) := by rw [upd_ne (Ne.symm nxm), upd_same]
    have b5 := k5 _ _ b4 (Ne.symm nxb)
    have a5 := k5 _ _ a4 (Ne.symm xa)
    generalize upd (upd H4 m (.lst [V.int (-1)])) x (.ins AR.C_Rooms dx (rF2 (.ref b) (.ref m))) = H5 at k5 x5 m5 b5 a5 ⊢
    have K5 := K4.trans k5
    -- self.comers = [-1]
    refine ⟨_, rfl, by show 1 ≤ sizeLine; decide, fun l nl => ?_⟩
    have nxl : x ≠ l := ne_of_none x5 nl
    have al : a ≠ l := ne_of_none a5 nl
    have bl : b ≠ l := ne_of_none b5 nl
    have ml : m ≠ l := ne_of_none m5 nl
    refine ⟨_, rfl, x, AR.C_Rooms, dx, _, rfl, by rw [upd_ne nxl]; exact x5, T.cl_Rooms, T.n_Rooms_comers, by show 2 < 1000; decide, ?_⟩
    rw [put_r3]
    have k6 : But x H5 _ := But.step (x := x) (o := .lst [V.int (-1)]) (o' := .ins AR.C_Rooms dx (rFl b m l)) nl
    refine hQ a b m l _ na (Ua.free nb) (free K4 x4 nm) (free K5 x5 nl) (fun q o e n => k6 _ _ (K5 _ _ e n) n) ⟨upd_same, k6 _ _ b5 (Ne.symm nxb), .cons (k6 _ _ a5 (Ne.symm xa)) .nil, k6 _ _ m5 (Ne.symm nxm), by rw [upd_ne (Ne.symm nxl), upd_same]; rfl, ?_, ?_, ?_, bm, bl, ml⟩
    · intro h; exact ab (List.mem_singleton.mp h).symm
    · intro h; exact am (List.mem_singleton.mp h).symm
    · intro h; exact al (List.mem_singleton.mp h).symm
theorem sc_refuse_unlike : FnScope ["ones", "others"] ["ones", "others"] (defScope s_refuse_unlike) := ⟨rfl, rfl, rfl, by decide +kernel, rfl, by decide +kernel, by decide +kernel⟩
set_option maxHeartbeats 4000000 in
theorem ok_refuse_unlike (T : Txt K mg AR FR) : FnOk P w K mg base CX0 1 AR.f_refuse_unlike FR.d_refuse_unlike ["ones", "others"] (sp_refuse_unlike K) := by
  refine T.F_refuse_unlike.ok sc_refuse_unlike (fun vs H Q E h => ?_) (fun cdv A outer s H vs Q E hr h => ?_)
  · obtain ⟨a, b, xs, ys, rfl, ha, hb, hl, hQ⟩ := h
    rfl
  · obtain ⟨a, b, xs, ys, rfl, ha, hb, hl, hQ⟩ := h
    refine ⟨_, (pss_one (ps_if (pt_cmpR op_ne (pe_callB call_len_seq (by rfl) T.z_len bt_len (pa_cons (pv 0) pa_nil)) (pe_callB call_len_seq (by rfl) T.z_len bt_len (pa_cons (pv 1) pa_nil)) (nomark _)) (pss_one ps_never) pss_nil)), ?_⟩
    refine ⟨_, rfl, a, _, rfl, .inl ha, _, rfl, b, _, rfl, .inl hb, rfl, _, rfl, ?_⟩
    refine iteND (fun hne => ?_) (fun _ => hQ)
    exact absurd (by rw [hl]) hne
theorem sc_beneath : FnScope ["ones", "others"] ["ones", "others"] (defScope s_beneath) := ⟨rfl, rfl, rfl, by decide +kernel, rfl, by decide +kernel, by decide +kernel⟩
set_option maxHeartbeats 4000000 in
theorem ok_beneath (T : Txt K mg AR FR) : FnOk P w K mg base CX0 2 AR.f_beneath FR.d_beneath ["ones", "others"] (sp_beneath K) := by
  have G_refuse_unlike : FnOk P w K mg base CX0 1 AR.f_refuse_unlike FR.d_refuse_unlike _ (sp_refuse_unlike K) := ok_refuse_unlike T
  refine T.F_beneath.ok sc_beneath (fun vs H Q E h => ?_) (fun cdv A outer s H vs Q E hr h => ?_)
  · obtain ⟨a, b, xs, ys, rfl, ha, hb, hl, hz, hQ⟩ := h
    rfl
  · obtain ⟨a, b, xs, ys, rfl, ha, hb, hl, hz, hQ⟩ := h
    refine ⟨_, (pss_cons (ps_expr (pe_call G_refuse_unlike (hr.mono (by decide)) (by rfl) T.m_refuse_unlike T.F_refuse_unlike.kp T.b_refuse_unlike .nil pass0 (pa_cons (pv 0) (pa_cons (pv 1) pa_nil))))
      (pss_one (ps_ret (pe_callB (call_all_list rfl) (by rfl) T.z_all bt_all (pa_cons (pe_comp (N' := ["one", "other"]) (nt := 2) (caps := []) _ _ (CompScope.of (by kernel_rfl)) (pi_zip (by rfl) T.z_zip (pa_cons (pv 0) (pa_cons (pv 1) pa_nil))) (fun _ => (pg_tup (by rfl) (pgs_cons (pg_nameC (i := 0) ["one", "other"] (by decide +kernel) (by rfl)) (pgs_cons (pg_nameC (i := 1) ["one", "other"] (by decide +kernel) (by rfl)) pgs_nil)))) (fun _ => pts_nil) (fun _ => (pe_cmpR op_le (pv 0) (pv 1) (nomark _)))) pa_nil))))), ?_⟩
    refine ⟨_, rfl, _, rfl, a, b, _, _, rfl, ha, hb, by rw [ints_len, ints_len]; exact hl, ?_⟩
    refine ⟨_, rfl, _, rfl, a, b, _, _, rfl, ha, hb, ?_⟩
    refine comp_zip1 (τ := []) gLe (by rw [ints_len, ints_len]; exact hl) (by rw [ints_len]; exact small70 hz) ha hb ?_ ?_
    · intro B x w H2 hx' hw S Q' hq
      obtain ⟨i, hi, rfl⟩ := ints_mem hx'
      obtain ⟨j, hj, rfl⟩ := ints_mem hw
      exact ⟨_, rfl, _, rfl, _, _, rfl, rfl, hq H2 (Same.refl _)⟩
    · intro H2 S p hp
      rw [zip_bls]
      exact ⟨p, _, rfl, SqL.of upd_same, hQ _ (S.upd hp)⟩
theorem sc_may : FnScope ["net", "beads", "door"] ["net", "beads", "door"] (defScope s_may) := ⟨rfl, rfl, rfl, by decide +kernel, rfl, by decide +kernel, by decide +kernel⟩
set_option maxHeartbeats 4000000 in
theorem ok_may (T : Txt K mg AR FR) : FnOk P w K mg base CX0 5 AR.f_may FR.d_may ["net", "beads", "door"] (sp_may AR.C_Net K) := by
  have G_Net_init : FnOk P w K mg base CX0 3 AR.f_Net_init FR.d_Net_init _ (sp_Net_init AR.C_Net K) := ok_Net_init T
  have G_beneath : FnOk P w K mg base CX0 2 AR.f_beneath FR.d_beneath _ (sp_beneath K) := ok_beneath T
  refine T.F_may.ok sc_may (fun vs H Q E h => ?_) (fun cdv A outer s H vs Q E hr h => ?_)
  · obtain ⟨x, dx, b, d, t, g, f, c, ts, gs, N, bs, k, rfl, n, ok, hc, hl, hk, hQ⟩ := h
    rfl
  · obtain ⟨x, dx, b, d, t, g, f, c, ts, gs, N, bs, k, rfl, n, ok, hc, hl, hk, hQ⟩ := h
    refine ⟨_, (pss_one (ps_ret (pe_call G_beneath (hr.mono (by decide)) (by rfl) T.m_beneath T.F_beneath.kp T.b_beneath .nil pass0 (pa_cons (pe_ix ix_list (pe_fld (pv 0) rfl) (pv 2) (fun _ _ => rfl)) (pa_cons (pv 1) pa_nil))))), ?_⟩
    have b8 := ok.b6
    obtain ⟨qt, et, ft⟩ := rows_at n.tr hk
    refine ⟨_, rfl, x, _, dx, _, _, rfl, n.ob, T.cl_Net, T.n_Net_takes, rfl, _, rfl, t, _, _, _, rfl, rfl, SqL.of n.ht, et, _, rfl, qt, c, _, bs, rfl, SqL.of ft, hc, ?_, ?_, fun H' S => ?_⟩
    · rw [hl]; exact (ok.tk _ (List.getElem_mem hk)).1
    · rw [(ok.tk _ (List.getElem_mem hk)).1]; omega
    · have q := hQ H' S
      rw [getDr hk] at q
      exact q
theorem sc_put_room : FnScope ["found", "parent", "door", "beads", "room"] ["found", "parent", "door", "beads", "room"] (defScope s_put_room) := ⟨rfl, rfl, rfl, by decide +kernel, rfl, by decide +kernel, by decide +kernel⟩
set_option maxHeartbeats 4000000 in
theorem ok_put_room (T : Txt K mg AR FR) : FnOk P w K mg base (CXF P w) 3 AR.f_put_room FR.d_put_room ["found", "parent", "door", "beads", "room"] (sp_put_room AR.C_Rooms AR.C_TooWide K) := by
  have G_Rooms_init : FnOk P w K mg base CX0 1 AR.f_Rooms_init FR.d_Rooms_init _ (sp_Rooms_init AR.C_Rooms K) := ok_Rooms_init T
  refine T.F_put_room.okF sc_put_room (fun vs H Q E h => ?_) (fun cdv A outer s H vs Q E hr h => ?_)
  · obtain ⟨H0, x, dx, b, m, l, pb, as, w, bag, z, want, door, room, rfl, S0, fb, fm, fl, n, o, hpb, bl, z1, z6, r6, nb, nm, nl, hQ, hE⟩ := h
    rfl
  · obtain ⟨H0, x, dx, b, m, l, pb, as, w, bag, z, want, door, room, rfl, S0, fb, fm, fl, n, o, hpb, bl, z1, z6, r6, nb, nm, nl, hQ, hE⟩ := h
    refine ⟨_, (pss_cons (ps_if (pt_cmpR (op_inR (hu_of hr)) (pv 3) (pe_fld (pv 0) rfl) (by with_unfolding_all rfl)) (pss_one ps_retN) pss_nil)
      (pss_cons (ps_if (pt_cmpR op_ge (pe_callB call_len_seq (by rfl) T.z_len bt_len (pa_cons (pe_fld (pv 0) rfl) pa_nil)) (pv 4) (nomark _)) (pss_one (ps_raise raiseF T.xp_TooWide (by rfl) T.mC_TooWide (pa_cons pe_str pa_nil))) pss_nil)
      (pss_cons (ps_expr (pe_bm PySem.F.plainAttrs_list PySem.F.slot_list_append PySem.F.type_list_append mt_append (pe_fld (pv 0) rfl) (pa_cons (pv 3) pa_nil)))
      (pss_cons (ps_expr (pe_bm PySem.F.plainAttrs_list PySem.F.slot_list_append PySem.F.type_list_append mt_append (pe_fld (pv 0) rfl) (pa_cons (pv 1) pa_nil)))
      (pss_one (ps_expr (pe_bm PySem.F.plainAttrs_list PySem.F.slot_list_append PySem.F.type_list_append mt_append (pe_fld (pv 0) rfl) (pa_cons (pv 2) pa_nil)))))))), ?_⟩
    have le := o.le
    have vb : (as.map V.ref).length = w.bags.length := by rw [List.length_map, n.rb.length]
    have S1 := Same.refl H
    have n1 := n
    refine ⟨_, rfl, _, rfl, x, _, dx, _, _, rfl, n.ob, T.cl_Rooms, T.n_Rooms_bags, rfl, pb, b, as, w.bags, bag, rfl, rfl, SqL.of hpb, SqL.of n.hb, n.rb, _, rfl, ?_⟩
    cases hf : memR bag w.bags with
    | true => exact iteT (hQ w (rput_in hf) as H S0 n o (fun a ha => .inl ha))
    | false =>
    refine iteF ?_
    refine ⟨_, rfl, x, _, dx, _, _, rfl, n1.ob, T.cl_Rooms, T.n_Rooms_bags, rfl, b, _, rfl, .inl (SqL.of n1.hb), _, rfl, _, _, rfl, rfl, _, rfl, ?_⟩
    rw [vb]
    refine iteD (fun h2 => ⟨by show 1 ≤ sizeLine; decide, hE (rput_no hf (by omega)) _ (S0.trans S1)⟩) (fun h2 => ?_)
    have hlt : w.bags.length < room := by omega
    have hpb1 := S1 _ _ hpb
    have xb : x ≠ b := ne_of n1.ob n1.hb (by intro z; cases z)
    have xm : x ≠ m := ne_of n1.ob n1.hm (by intro z; cases z)
    have xl : x ≠ l := ne_of n1.ob n1.hl (by intro z; cases z)
    have S01 := S0.trans S1
    -- found.bags.append(bag)
    refine ⟨_, rfl, x, _, dx, _, _, rfl, n1.ob, T.cl_Rooms, T.n_Rooms_bags, rfl, .inl ⟨rfl, _, SqL.of n1.hb⟩, _, rfl, b, _, _, rfl, rfl, n1.hb, by rw [vb]; exact small70 (by omega), ?_⟩
    have S2 : Same H0 (upd H b (.lst (as.map V.ref ++ [V.ref pb]))) := S01.upd' fb
    have ob2 : upd H b (.lst (as.map V.ref ++ [V.ref pb])) x = some (.ins AR.C_Rooms dx (rFl b m l)) := by rw [upd_ne xb]; exact n1.ob
    have hb2 : upd H b (.lst (as.map V.ref ++ [V.ref pb])) b = some (.lst ((as ++ [pb]).map V.ref)) := by rw [upd_same, vrefs_snoc]
    have rb2 : Rows (upd H b (.lst (as.map V.ref ++ [V.ref pb]))) (as ++ [pb]) (w.bags ++ [bag]) := Rows.snoc (Rows.lay n1.rb (fun a ha e => n.nb (e ▸ ha))) (by rw [upd_ne nb]; exact hpb1)
    have hm2 : upd H b (.lst (as.map V.ref ++ [V.ref pb])) m = some (.lst (vints w.par)) := by rw [upd_ne (Ne.symm n.bm)]; exact n1.hm
    have hl2 : upd H b (.lst (as.map V.ref ++ [V.ref pb])) l = some (.lst (vints w.com)) := by rw [upd_ne (Ne.symm n.bl)]; exact n1.hl
    generalize upd H b (.lst (as.map V.ref ++ [V.ref pb])) = H2 at S2 ob2 hb2 rb2 hm2 hl2 ⊢
    have nm' : m ∉ as ++ [pb] := fun h => by
      rcases List.mem_append.mp h with q | q
      · exact n.nm q
      · exact nm (List.mem_singleton.mp q).symm
    have nl' : l ∉ as ++ [pb] := fun h => by
      rcases List.mem_append.mp h with q | q
      · exact n.nl q
      · exact nl (List.mem_singleton.mp q).symm
    have nb' : b ∉ as ++ [pb] := fun h => by
      rcases List.mem_append.mp h with q | q
      · exact n.nb q
      · exact nb (List.mem_singleton.mp q).symm
    -- found.movers.append(door)
    refine ⟨_, rfl, x, _, dx, _, _, rfl, ob2, T.cl_Rooms, T.n_Rooms_parents, rfl, .inl ⟨rfl, _, SqL.of hm2⟩, _, rfl, m, _, _, rfl, rfl, hm2, by rw [ints_len, o.lm]; exact small70 (by omega), ?_⟩
    have S3 : Same H0 (upd H2 m (.lst (vints w.par ++ [V.int (want : Int)]))) := S2.upd' fm
    have ob3 : upd H2 m (.lst (vints w.par ++ [V.int (want : Int)])) x = some (.ins AR.C_Rooms dx (rFl b m l)) := by rw [upd_ne xm]; exact ob2
    have hb3 : upd H2 m (.lst (vints w.par ++ [V.int (want : Int)])) b = some (.lst ((as ++ [pb]).map V.ref)) := by rw [upd_ne n.bm]; exact hb2
    have rb3 : Rows (upd H2 m (.lst (vints w.par ++ [V.int (want : Int)]))) (as ++ [pb]) (w.bags ++ [bag]) := Rows.lay rb2 (fun a ha e => nm' (e ▸ ha))
    have hm3 : upd H2 m (.lst (vints w.par ++ [V.int (want : Int)])) m = some (.lst (vints (w.par ++ [(want : Int)]))) := by rw [upd_same, vints_snoc]
    have hl3 : upd H2 m (.lst (vints w.par ++ [V.int (want : Int)])) l = some (.lst (vints w.com)) := by rw [upd_ne (Ne.symm n.ml)]; exact hl2
    generalize upd H2 m (.lst (vints w.par ++ [V.int (want : Int)])) = H3 at S3 ob3 hb3 rb3 hm3 hl3 ⊢
    -- found.leads.append(want)
    refine ⟨_, rfl, x, _, dx, _, _, rfl, ob3, T.cl_Rooms, T.n_Rooms_comers, rfl, .inl ⟨rfl, _, SqL.of hl3⟩, _, rfl, l, _, _, rfl, rfl, hl3, by rw [ints_len, o.ll]; exact small70 (by omega), ?_⟩
    refine hQ _ (rput_new hf hlt) (as ++ [pb]) _ (S3.upd' fl) ⟨by rw [upd_ne xl]; exact ob3, by rw [upd_ne n.bl]; exact hb3, Rows.lay rb3 (fun a ha e => nl' (e ▸ ha)), by rw [upd_ne n.ml]; exact hm3, by rw [upd_same, vints_snoc], nb', nm', nl', n.bm, n.bl, n.ml⟩ (o.put bl hlt) (fun a ha => ?_)
    rcases List.mem_append.mp ha with q | q
    · exact .inl q
    · exact .inr (List.mem_singleton.mp q)
theorem sc_NoGo_init : FnScope ["self", "words", "at"] ["self", "words", "at"] (defScope s_NoGo_init) := ⟨rfl, rfl, rfl, by decide +kernel, rfl, by decide +kernel, by decide +kernel⟩
set_option maxHeartbeats 4000000 in
theorem ok_NoGo_init (T : Txt K mg AR FR) : FnOk P w K mg base CX0 1 AR.f_NoGo_init FR.d_NoGo_init ["self", "words", "at"] (sp_NoGo_init AR.C_NoGo K) := by
  refine T.F_NoGo_init.ok sc_NoGo_init (fun vs H Q E h => ?_) (fun cdv A outer s H vs Q E hr h => ?_)
  · obtain ⟨e, t, w', y, rfl, he, hQ⟩ := h
    rfl
  · obtain ⟨e, t, w', y, rfl, he, hQ⟩ := h
    refine ⟨_, (pss_cons (ps_xinit T.xb_HallError (by rfl) T.mC_HallError (pa_cons (pv 0) (pa_cons (pv 1) pa_nil)))
      (pss_one (ps_xset (pv 0) (pv 2)))), ?_⟩
    refine ⟨_, rfl, _, rfl, e, AR.C_NoGo, t, _, rfl, he, T.ec_NoGo, fun t' => ?_⟩
    refine ⟨_, rfl, _, rfl, e, AR.C_NoGo, AR.C_HallError, t', rfl, upd_same, T.ec_NoGo, T.xs_NoGo, T.xa_NoGo_at, fun dx nd => hQ dx t' ?_⟩
    have ne : dx ≠ e := fun z => by rw [z, upd_same] at nd; cases nd
    rw [upd_ne ne] at nd
    exact nd
theorem sc_plus : FnScope ["ones", "others"] ["ones", "others"] (defScope s_plus) := ⟨rfl, rfl, rfl, by decide +kernel, rfl, by decide +kernel, by decide +kernel⟩
set_option maxHeartbeats 4000000 in
theorem ok_plus (T : Txt K mg AR FR) : FnOk P w K mg base CX0 2 AR.f_plus FR.d_plus ["ones", "others"] (sp_plus K) := by
  have G_refuse_unlike : FnOk P w K mg base CX0 1 AR.f_refuse_unlike FR.d_refuse_unlike _ (sp_refuse_unlike K) := ok_refuse_unlike T
  refine T.F_plus.ok sc_plus (fun vs H Q E h => ?_) (fun cdv A outer s H vs Q E hr h => ?_)
  · obtain ⟨a, b, xs, ys, rfl, ha, hb, hl, hz, hQ⟩ := h
    rfl
  · obtain ⟨a, b, xs, ys, rfl, ha, hb, hl, hz, hQ⟩ := h
    refine ⟨_, (pss_cons (ps_expr (pe_call G_refuse_unlike (hr.mono (by decide)) (by rfl) T.m_refuse_unlike T.F_refuse_unlike.kp T.b_refuse_unlike .nil pass0 (pa_cons (pv 0) (pa_cons (pv 1) pa_nil))))
      (pss_one (ps_ret (pe_comp (N' := ["one", "other"]) (nt := 2) (caps := []) _ _ (CompScope.of (by kernel_rfl)) (pi_zip (by rfl) T.z_zip (pa_cons (pv 0) (pa_cons (pv 1) pa_nil))) (fun _ => (pg_tup (by rfl) (pgs_cons (pg_nameC (i := 0) ["one", "other"] (by decide +kernel) (by rfl)) (pgs_cons (pg_nameC (i := 1) ["one", "other"] (by decide +kernel) (by rfl)) pgs_nil)))) (fun _ => pts_nil) (fun _ => (pe_op op_add (pv 0) (pv 1))))))), ?_⟩
    refine ⟨_, rfl, _, rfl, a, b, _, _, rfl, ha, hb, by rw [ints_len, ints_len]; exact hl, ?_⟩
    refine ⟨_, rfl, _, rfl, a, b, _, _, rfl, ha, hb, ?_⟩
    refine comp_zip1 (τ := []) (gInt fun i j => i + j) (by rw [ints_len, ints_len]; exact hl) (by rw [ints_len]; exact small70 hz) ha hb ?_ ?_
    · intro B x w H2 hx hw S Q' hq
      obtain ⟨i, _, rfl⟩ := ints_mem hx
      obtain ⟨j, _, rfl⟩ := ints_mem hw
      exact ⟨_, rfl, _, rfl, _, _, rfl, rfl, hq H2 (Same.refl _)⟩
    · intro H2 S p hp
      rw [zip_ints (f := fun i j => i + j) fun _ _ => rfl]
      exact hQ p _ (S.free hp) (S.upd hp) upd_same
theorem sc_less : FnScope ["ones", "others"] ["ones", "others"] (defScope s_less) := ⟨rfl, rfl, rfl, by decide +kernel, rfl, by decide +kernel, by decide +kernel⟩
set_option maxHeartbeats 4000000 in
theorem ok_less (T : Txt K mg AR FR) : FnOk P w K mg base CX0 2 AR.f_less FR.d_less ["ones", "others"] (sp_less K) := by
  have G_refuse_unlike : FnOk P w K mg base CX0 1 AR.f_refuse_unlike FR.d_refuse_unlike _ (sp_refuse_unlike K) := ok_refuse_unlike T
  refine T.F_less.ok sc_less (fun vs H Q E h => ?_) (fun cdv A outer s H vs Q E hr h => ?_)
  · obtain ⟨a, b, xs, ys, rfl, ha, hb, hl, hz, hQ⟩ := h
    rfl
  · obtain ⟨a, b, xs, ys, rfl, ha, hb, hl, hz, hQ⟩ := h
    refine ⟨_, (pss_cons (ps_expr (pe_call G_refuse_unlike (hr.mono (by decide)) (by rfl) T.m_refuse_unlike T.F_refuse_unlike.kp T.b_refuse_unlike .nil pass0 (pa_cons (pv 0) (pa_cons (pv 1) pa_nil))))
      (pss_one (ps_ret (pe_comp (N' := ["one", "other"]) (nt := 2) (caps := []) _ _ (CompScope.of (by kernel_rfl)) (pi_zip (by rfl) T.z_zip (pa_cons (pv 0) (pa_cons (pv 1) pa_nil))) (fun _ => (pg_tup (by rfl) (pgs_cons (pg_nameC (i := 0) ["one", "other"] (by decide +kernel) (by rfl)) (pgs_cons (pg_nameC (i := 1) ["one", "other"] (by decide +kernel) (by rfl)) pgs_nil)))) (fun _ => pts_nil) (fun _ => (pe_op op_sub (pv 0) (pv 1))))))), ?_⟩
    refine ⟨_, rfl, _, rfl, a, b, _, _, rfl, ha, hb, by rw [ints_len, ints_len]; exact hl, ?_⟩
    refine ⟨_, rfl, _, rfl, a, b, _, _, rfl, ha, hb, ?_⟩
    refine comp_zip1 (τ := []) (gInt fun i j => i - j) (by rw [ints_len, ints_len]; exact hl) (by rw [ints_len]; exact small70 hz) ha hb ?_ ?_
    · intro B x w H2 hx hw S Q' hq
      obtain ⟨i, _, rfl⟩ := ints_mem hx
      obtain ⟨j, _, rfl⟩ := ints_mem hw
      exact ⟨_, rfl, _, rfl, _, _, rfl, rfl, hq H2 (Same.refl _)⟩
    · intro H2 S p hp
      rw [zip_ints (f := fun i j => i - j) fun _ _ => rfl]
      exact hQ p _ (S.free hp) (S.upd hp) upd_same
theorem sc_gain : FnScope ["net", "door"] ["net", "door"] (defScope s_gain) := ⟨rfl, rfl, rfl, by decide +kernel, rfl, by decide +kernel, by decide +kernel⟩
set_option maxHeartbeats 4000000 in
theorem ok_gain (T : Txt K mg AR FR) : FnOk P w K mg base CX0 5 AR.f_gain FR.d_gain ["net", "door"] (sp_gain AR.C_Net K) := by
  have G_Net_init : FnOk P w K mg base CX0 3 AR.f_Net_init FR.d_Net_init _ (sp_Net_init AR.C_Net K) := ok_Net_init T
  have G_less : FnOk P w K mg base CX0 2 AR.f_less FR.d_less _ (sp_less K) := ok_less T
  refine T.F_gain.ok sc_gain (fun vs H Q E h => ?_) (fun cdv A outer s H vs Q E hr h => ?_)
  · obtain ⟨x, dx, b, d, t, g, f, ts, gs, N, k, kt, kg, rfl, n, ok, hQ⟩ := h
    rfl
  · obtain ⟨x, dx, b, d, t, g, f, ts, gs, N, k, kt, kg, rfl, n, ok, hQ⟩ := h
    refine ⟨_, (pss_one (ps_ret (pe_call G_less (hr.mono (by decide)) (by rfl) T.m_less T.F_less.kp T.b_less .nil pass0 (pa_cons (pe_ix ix_list (pe_fld (pv 0) rfl) (pv 1) (fun _ _ => rfl)) (pa_cons (pe_ix ix_list (pe_fld (pv 0) rfl) (pv 1) (fun _ _ => rfl)) pa_nil))))), ?_⟩
    obtain ⟨qg, eg, fg⟩ := rows_at n.gr kg
    obtain ⟨qt, et, ft⟩ := rows_at n.tr kt
    have lg := (ok.gv _ (List.getElem_mem kg)).1
    have lt := (ok.tk _ (List.getElem_mem kt)).1
    have b6 := ok.b6
    exact ⟨_, rfl, x, _, dx, _, _, rfl, n.ob, T.cl_Net, T.n_Net_gives, rfl, _, rfl, g, _, _, _, rfl, rfl, SqL.of n.hg, eg, _, rfl, x, _, dx, _, _, rfl, n.ob, T.cl_Net, T.n_Net_takes, rfl, _, rfl, t, _, _, _, rfl, rfl, SqL.of n.ht, et, qg, qt, _, _, rfl, SqL.of fg, SqL.of ft, by omega, by omega, hQ⟩
theorem sc_walked : FnScope ["net", "beads", "doors", "met", "place", "door"] ["net", "beads", "doors"] (defScope s_walked) := ⟨rfl, rfl, rfl, by decide +kernel, rfl, by decide +kernel, by decide +kernel⟩
set_option maxHeartbeats 4000000 in
theorem ok_walked (T : Txt K mg AR FR) : FnOk P w K mg base (CXF P w) 6 AR.f_walked FR.d_walked ["net", "beads", "doors"] (sp_walked AR.C_Net AR.C_NoGo K) := by
  have G_Net_init : FnOk P w K mg base CX0 3 AR.f_Net_init FR.d_Net_init _ (sp_Net_init AR.C_Net K) := ok_Net_init T
  have G_may : FnOk P w K mg base CX0 5 AR.f_may FR.d_may _ (sp_may AR.C_Net K) := ok_may T
  have G_NoGo_init : FnOk P w K mg base CX0 1 AR.f_NoGo_init FR.d_NoGo_init _ (sp_NoGo_init AR.C_NoGo K) := ok_NoGo_init T
  have G_plus : FnOk P w K mg base CX0 2 AR.f_plus FR.d_plus _ (sp_plus K) := ok_plus T
  have G_gain : FnOk P w K mg base CX0 5 AR.f_gain FR.d_gain _ (sp_gain AR.C_Net K) := ok_gain T
  refine T.F_walked.okF sc_walked (fun vs H Q E h => ?_) (fun cdv A outer s H vs Q E hr h => ?_)
  · obtain ⟨x, dx, b, d, t, g, f, c, r, ts, gs, N, bs, ds, rfl, n, ok, hc, hl, hr', d200, hk, hQ, hE⟩ := h
    rfl
  · obtain ⟨x, dx, b, d, t, g, f, c, r, ts, gs, N, bs, ds, rfl, n, ok, hc, hl, hr', d200, hk, hQ, hE⟩ := h
    refine ⟨_, (pss_cons (ps_set (i := 3) sc_walked.nd rfl (Or.inl rfl) (pe_lst (pa_cons (pe_callTy call_list_of (by rfl) T.z_list bt_list (pa_cons (pv 1) pa_nil)) pa_nil)))
      (pss_cons (ps_for PassesOwn.leaving rfl (pi_enum (by rfl) T.z_enumerate (pa_cons (pv 2) pa_nil)) (pg_tup (by rfl) (pgs_cons (pg_name (i := 4) sc_walked.nd (by rfl) (Or.inl rfl)) (pgs_cons (pg_name (i := 5) sc_walked.nd (by rfl) (Or.inl rfl)) pgs_nil)))
      (pss_cons (ps_if (pt_not (pt_val (pe_call G_may (hr.mono (by decide)) (by rfl) T.m_may T.F_may.kp T.b_may .nil pass0 (pa_cons (pv 0) (pa_cons (pe_ix ix_list (pv 3) (pe_un un_neg pe_int) (fun _ _ => rfl)) (pa_cons (pv 5) pa_nil)))))) (pss_one (ps_raiseI raiseFI T.xn_NoGo G_NoGo_init (hr.mono (by decide)) (by rfl) T.mC_NoGo T.b_NoGo_init (pa_cons pe_str (pa_cons (pv 4) pa_nil)))) pss_nil)
      (pss_one (ps_expr (pe_bm PySem.F.plainAttrs_list PySem.F.slot_list_append PySem.F.type_list_append mt_append (pv 3) (pa_cons (pe_call G_plus (hr.mono (by decide)) (by rfl) T.m_plus T.F_plus.kp T.b_plus .nil pass0 (pa_cons (pe_ix ix_list (pv 3) (pe_un un_neg pe_int) (fun _ _ => rfl)) (pa_cons (pe_call G_gain (hr.mono (by decide)) (by rfl) T.m_gain T.F_gain.kp T.b_gain .nil pass0 (pa_cons (pv 0) (pa_cons (pv 5) pa_nil))) pa_nil))) pa_nil))))))
      (pss_one (ps_ret (pv 3))))), ?_⟩
    have b8 := ok.b6
    refine ⟨_, rfl, c, _, rfl, .inl hc, fun b0 nb0 => ?_⟩
    have U1 := (Same.refl H).upd nb0 (o := .lst (vints bs))
    have e1 := upd_same (H := H) (a := b0) (o := .lst (vints bs))
    generalize upd H b0 (.lst (vints bs)) = H1 at U1 e1 ⊢
    refine ⟨by show 1 ≤ sizeLine; decide, fun p np => ?_⟩
    have U2 := U1.upd np (o := .lst [V.ref b0])
    have f0 := U1.free np
    have pb0 : b0 ≠ p := ne_of_none e1 np
    have hal : ∀ k, k < N.takes.length → (N.takes.getD k []).length = N.bowls.length := fun k kt => by rw [getDr kt]; exact (ok.tk _ (List.getElem_mem kt)).1
    refine ⟨_, rfl, r, _, rfl, U2.seq hr', ?_⟩
    refine for_enum (K := K) (a := r) (xs := vints (zs ds)) (fun i σ H2 => ∃ (o4 o5 : Option V) (as : List Addr) (a : Addr) (rs : List (List Int)) (cs : List Int), σ = [some (.ref x), some (.ref c), some (.ref r), some (.ref p), o4, o5] ∧ Same H H2 ∧ H2 p = some (.lst ((as ++ [a]).map V.ref)) ∧ Rows H2 (as ++ [a]) (rs ++ [cs]) ∧ rs.length = i ∧ cs.length = N.bowls.length ∧ (∀ q ∈ as ++ [a], H q = none) ∧ (as ++ [a]).Nodup ∧ p ∉ as ++ [a] ∧ metL N.takes N.gives bs ds = rs ++ metL N.takes N.gives cs (ds.drop i))
      ⟨none, none, [], b0, [], bs, rfl, U2, upd_same, .cons (by rw [upd_ne pb0]; exact e1) .nil, rfl, hl, (fun q hq => by rw [List.mem_singleton.mp hq]; exact nb0), by simp, (by simp; exact fun z => pb0 z.symm), rfl⟩ (fun i σ H2 _ ⟨_, _, _, _, _, _, _, S, _⟩ => S.seq hr') ?_ ?_
    · rintro i v q σ H2 hv ⟨o4, o5, as, a, rs, cs, rfl, S, hp, R, rl, cl, fr, nd, npa, hm⟩ nq
      have hi := (List.getElem?_eq_some_iff.mp hv).1
      rw [ints_len, zs_len] at hi
      obtain ⟨k, hk1, rfl⟩ := zs_get hv
      have kt := hk k (List.mem_of_getElem? hk1)
      have kg : k < N.gives.length := by rw [ok.gl, ← ok.tl]; exact kt
      have ed : ds.drop i = k :: ds.drop (i + 1) := by
        rw [List.drop_eq_getElem_cons hi]
        rw [List.getElem?_eq_getElem hi] at hk1
        rw [Option.some.inj hk1]
      have U := (Same.refl H2).upd nq (o := .tup [.int (i : Nat), .int (k : Int)])
      refine ⟨q, [_, _], rfl, SqT.of upd_same, rfl, _, [_], rfl, _, [], rfl, rfl, ?_⟩
      dsimp only [gName, gNil]
      generalize upd H2 q (.tup [.int (i : Nat), .int (k : Int)]) = H3 at U ⊢
      have S3 := S.trans U
      have hp3 := U _ _ hp
      have R3 := R.same U
      have hal' := R3.length
      have ha : H3 a = some (.lst (vints cs)) := by
        obtain ⟨y, hy1, hy2⟩ := Paired.getL R3 (i := as.length) (a := a) (by simp)
        have : y = cs := by
          have e : as.length = rs.length := by simpa using hal'
          rw [e] at hy1
          simpa using hy1.symm
        rw [← this]; exact hy2
      have lastA : atI ((as ++ [a]).map V.ref) (-1) = some (V.ref a) := by
        rw [List.map_append]; exact atI_last _ _
      refine ⟨_, rfl, _, rfl, _, rfl, p, _, _, _, rfl, rfl, SqL.of hp3, lastA, _, rfl, x, dx, b, d, t, g, f, a, ts, gs, N, cs, k, rfl, n.same S3, ok, SqL.of ha, cl, kt, fun H4 S4 => ?_⟩
      refine ⟨_, rfl, ?_⟩
      cases hbn : bn (N.takes.getD k []) cs with
      | false =>
        refine iteT ?_
        have em : metL N.takes N.gives bs ds = rs ++ [cs] := by rw [hm, ed]; unfold metL; rw [hbn]; rfl
        have le : (metL N.takes N.gives bs ds).length = i + 1 := by rw [em, List.length_append, rl]; rfl
        refine ⟨_, rfl, by show 2 ≤ sizeLine; decide, ?_⟩
        refine xi_flies (y := .int (i : Nat)) fun e H' SS ne he => ?_
        refine hE (by rw [le]; omega) e H' ((S3.trans S4).trans SS) ((S3.trans S4).free ne) ?_
        rw [le]
        exact he
      | true =>
        refine iteF ?_
        have hp4 := S4 _ _ hp3
        refine ⟨_, rfl, .inl ⟨rfl, _, SqL.of hp4⟩, _, rfl, _, rfl, p, _, _, _, rfl, rfl, SqL.of hp4, lastA, _, rfl, _, rfl, x, dx, b, d, t, g, f, ts, gs, N, k, kt, kg, rfl, n.same (S3.trans S4), ok, fun pg H5 npg S5 hpg => ?_⟩
        have lg : (N.gives[k]).length = N.bowls.length := (ok.gv _ (List.getElem_mem kg)).1
        have lt : (N.takes[k]).length = N.bowls.length := (ok.tk _ (List.getElem_mem kt)).1
        have lgt : (List.zipWith (fun i j => i - j) N.gives[k] N.takes[k]).length = N.bowls.length := by rw [List.length_zipWith, lg, lt, Nat.min_self]
        refine ⟨a, pg, cs, _, rfl, SqL.of (S5 _ _ (S4 _ _ ha)), SqL.of hpg, by rw [cl, lgt], by rw [cl]; omega, fun pn H6 npn S6 hpn => ?_⟩
        have SS := ((S3.trans S4).trans S5).trans S6
        have hp6 := S6 _ _ (S5 _ _ hp4)
        have ppn : p ≠ pn := ne_of_none (S5 _ _ hp4) npn
        have fn : H pn = none := ((S3.trans S4).trans S5).free npn
        have eb : List.zipWith (fun i j => i + j) cs (List.zipWith (fun i j => i - j) N.gives[k] N.takes[k]) = behind (N.takes.getD k []) (N.gives.getD k []) cs := by
          rw [getDr kt, getDr kg]; exact plus_gain lt lg cl
        rw [eb] at hpn
        have npas : ∀ q ∈ as ++ [a], q ≠ pn := fun q hq z => by
          obtain ⟨j, hj, e⟩ := List.mem_iff_getElem.mp hq
          obtain ⟨y, _, hy⟩ := Paired.getL (R3.same (S4.trans S5)) (i := j) (a := q) (by rw [List.getElem?_eq_getElem hj, e])
          rw [z, npn] at hy; cases hy
        refine ⟨p, _, _, rfl, rfl, hp6, by rw [List.length_map, hal', List.length_append, rl]; exact Nat.lt_of_le_of_lt (show i + 1 ≤ 200 by omega) (by decide), ?_⟩
        refine ⟨_, _, as ++ [a], pn, rs ++ [cs], behind (N.takes.getD k []) (N.gives.getD k []) cs, rfl, SS.upd' f0, by rw [upd_same]; simp, ?_, by rw [List.length_append, rl]; rfl, ?_, fun q hq => ?_, ?_, ?_, ?_⟩
        · refine Rows.snoc (Rows.lay (R3.same ((S4.trans S5).trans S6)) fun q hq z => npa (by rw [← z]; exact hq)) ?_
          rw [upd_ne (Ne.symm ppn)]; exact hpn
        · exact behind_len (hal k kt) (by rw [getDr kg]; exact lg) cl
        · rcases List.mem_append.mp hq with z | z
          · exact fr q z
          · rw [List.mem_singleton.mp z]; exact fn
        · refine List.nodup_append.mpr ⟨nd, by simp, fun y hy z hz e => ?_⟩
          rw [List.mem_singleton.mp hz] at e
          exact npas y hy e
        · intro z
          rcases List.mem_append.mp z with z | z
          · exact npa z
          · exact ppn (List.mem_singleton.mp z)
        · rw [hm, ed]
          show rs ++ metL N.takes N.gives cs (k :: ds.drop (i + 1)) = _
          conv => lhs; unfold metL
          rw [hbn]
          simp
    · rintro σ H2 ⟨o4, o5, as, a, rs, cs, rfl, S, hp, R, rl, cl, fr, nd, npa, hm⟩
      rw [ints_len, zs_len] at rl hm
      rw [List.drop_length] at hm
      have em : metL N.takes N.gives bs ds = rs ++ [cs] := hm
      refine ⟨_, rfl, hQ ?_ p (as ++ [a]) H2 f0 fr nd npa S hp ?_⟩
      · rw [em, List.length_append, rl]; show ds.length < ds.length + 1; omega
      · rw [em]; exact R
theorem sc_after : FnScope ["net", "beads", "door"] ["net", "beads", "door"] (defScope s_after) := ⟨rfl, rfl, rfl, by decide +kernel, rfl, by decide +kernel, by decide +kernel⟩
set_option maxHeartbeats 4000000 in
theorem ok_after (T : Txt K mg AR FR) : FnOk P w K mg base (CXF P w) 7 AR.f_after FR.d_after ["net", "beads", "door"] (sp_after AR.C_Net AR.C_NoGo K) := by
  have G_Net_init : FnOk P w K mg base CX0 3 AR.f_Net_init FR.d_Net_init _ (sp_Net_init AR.C_Net K) := ok_Net_init T
  have G_walked : FnOk P w K mg base (CXF P w) 6 AR.f_walked FR.d_walked _ (sp_walked AR.C_Net AR.C_NoGo K) := ok_walked T
  refine T.F_after.okF sc_after (fun vs H Q E h => ?_) (fun cdv A outer s H vs Q E hr h => ?_)
  · obtain ⟨x, dx, b, d, t, g, f, c, ts, gs, N, bs, k, rfl, n, ok, hc, hl, hk, hQ, hE⟩ := h
    rfl
  · obtain ⟨x, dx, b, d, t, g, f, c, ts, gs, N, bs, k, rfl, n, ok, hc, hl, hk, hQ, hE⟩ := h
    refine ⟨_, (pss_one (ps_ret (pe_ix ix_list (pe_call G_walked (hr.mono (by decide)) (by rfl) T.m_walked T.F_walked.kp T.b_walked .nil passF (pa_cons (pv 0) (pa_cons (pv 1) (pa_cons (pe_lst (pa_cons (pv 2) pa_nil)) pa_nil)))) (pe_un un_neg pe_int) (fun _ _ => rfl)))), ?_⟩
    refine ⟨_, rfl, _, rfl, _, rfl, by show 1 ≤ sizeLine; decide, fun pd npd => ?_⟩
    have U := (Same.refl H).upd npd (o := .lst [V.int (k : Int)])
    have hpd := upd_same (H := H) (a := pd) (o := .lst [V.int (k : Int)])
    generalize upd H pd (.lst [V.int (k : Int)]) = H1 at U hpd ⊢
    refine ⟨x, dx, b, d, t, g, f, c, pd, ts, gs, N, bs, [k], rfl, n.same U, ok, U.seq hc, hl, SqL.of hpd, (by show 1 ≤ 200; decide), (fun j hj => by rw [List.mem_singleton.mp hj]; exact hk), fun hlt p as H' np fr nd npa S hp R => ?_, fun hle e H' S ne he => ?_⟩
    · cases hbn : bn (N.takes.getD k []) bs with
      | false => unfold metL at hlt; rw [hbn] at hlt; exact absurd hlt (by simp)
      | true =>
        have em : metL N.takes N.gives bs [k] = [bs, behind (N.takes.getD k []) (N.gives.getD k []) bs] := by unfold metL; rw [hbn]; rfl
        rw [em] at R
        obtain ⟨a1, a2, rfl, h1, h2⟩ : ∃ a1 a2, as = [a1, a2] ∧ H' a1 = some (.lst (vints bs)) ∧ H' a2 = some (.lst (vints (behind (N.takes.getD k []) (N.gives.getD k []) bs))) := by
          cases R with
          | cons r1 t1 => cases t1 with
            | cons r2 t2 => cases t2; exact ⟨_, _, rfl, r1, r2⟩
        refine ⟨_, rfl, p, _, _, _, rfl, rfl, SqL.of hp, atI_last [V.ref a1] (V.ref a2), ?_⟩
        exact hQ hbn a2 H' (U.free (fr a2 (by simp))) (U.trans S) h2
    · cases hbn : bn (N.takes.getD k []) bs with
      | true => unfold metL at hle; rw [hbn] at hle; exact absurd hle (by simp [metL])
      | false =>
        refine hE hbn e H' (U.trans S) (U.free ne) ?_
        have em : metL N.takes N.gives bs [k] = [bs] := by unfold metL; rw [hbn]; rfl
        rw [em] at he
        exact he
theorem sc_roomed : FnScope ["net", "room", "found", "number", "door"] ["net", "room"] (defScope s_roomed) := ⟨rfl, rfl, rfl, by decide +kernel, rfl, by decide +kernel, by decide +kernel⟩
set_option maxHeartbeats 4000000 in
theorem ok_roomed (T : Txt K mg AR FR) : FnOk P w K mg base (CXF P w) 8 AR.f_roomed FR.d_roomed ["net", "room"] (sp_roomed AR.C_Net AR.C_Rooms AR.C_TooWide AR.C_NoGo K) := by
  have G_Net_init : FnOk P w K mg base CX0 3 AR.f_Net_init FR.d_Net_init _ (sp_Net_init AR.C_Net K) := ok_Net_init T
  have G_Rooms_init : FnOk P w K mg base CX0 1 AR.f_Rooms_init FR.d_Rooms_init _ (sp_Rooms_init AR.C_Rooms K) := ok_Rooms_init T
  have G_may : FnOk P w K mg base CX0 5 AR.f_may FR.d_may _ (sp_may AR.C_Net K) := ok_may T
  have G_put_room : FnOk P w K mg base (CXF P w) 3 AR.f_put_room FR.d_put_room _ (sp_put_room AR.C_Rooms AR.C_TooWide K) := ok_put_room T
  have G_after : FnOk P w K mg base (CXF P w) 7 AR.f_after FR.d_after _ (sp_after AR.C_Net AR.C_NoGo K) := ok_after T
  refine T.F_roomed.okF sc_roomed (fun vs H Q E h => ?_) (fun cdv A outer s H vs Q E hr h => ?_)
  · obtain ⟨x, dx, b, d, t, g, f, ts, gs, N, room, rfl, n, ok, r1, r60, hQ, hE⟩ := h
    rfl
  · obtain ⟨x, dx, b, d, t, g, f, ts, gs, N, room, rfl, n, ok, r1, r60, hQ, hE⟩ := h
    refine ⟨_, (pss_cons (ps_set (i := 2) sc_roomed.nd rfl (Or.inl rfl) (pe_make T.mk_Rooms G_Rooms_init (hr.mono (by decide)) (by rfl) T.mC_Rooms T.b_Rooms_init .nil pass0 (pa_cons (pe_fld (pv 0) rfl) pa_nil)))
      (pss_cons (ps_set (i := 3) sc_roomed.nd rfl (Or.inl rfl) pe_int)
      (pss_cons (ps_while PassesOwn.leaving (pt_cmpR op_lt (pv 3) (pe_callB call_len_seq (by rfl) T.z_len bt_len (pa_cons (pe_fld (pv 2) rfl) pa_nil)) (nomark _))
      (pss_cons (ps_for PassesOwn.leaving rfl (pi_range1 (by rfl) T.z_range (pa_cons (pe_callB call_len_seq (by rfl) T.z_len bt_len (pa_cons (pe_fld (pv 0) rfl) pa_nil)) pa_nil)) (pg_name (i := 4) sc_roomed.nd (by rfl) (Or.inl rfl))
      (pss_one (ps_if (pt_val (pe_call G_may (hr.mono (by decide)) (by rfl) T.m_may T.F_may.kp T.b_may .nil pass0 (pa_cons (pv 0) (pa_cons (pe_ix ix_list (pe_fld (pv 2) rfl) (pv 3) (fun _ _ => rfl)) (pa_cons (pv 4) pa_nil))))) (pss_one (ps_expr (pe_call G_put_room (hr.mono (by decide)) (by rfl) T.m_put_room T.F_put_room.kp T.b_put_room .nil passF (pa_cons (pv 2) (pa_cons (pv 3) (pa_cons (pv 4) (pa_cons (pe_call G_after (hr.mono (by decide)) (by rfl) T.m_after T.F_after.kp T.b_after .nil passF (pa_cons (pv 0) (pa_cons (pe_ix ix_list (pe_fld (pv 2) rfl) (pv 3) (fun _ _ => rfl)) (pa_cons (pv 4) pa_nil)))) (pa_cons (pv 1) pa_nil)))))))) pss_nil)))
      (pss_one (ps_set (i := 3) sc_roomed.nd rfl (Or.inl rfl) (pe_op op_add (pv 3) pe_int)))))
      (pss_one (ps_ret (pv 2)))))), ?_⟩
    have b1 := ok.b1
    have b6 := ok.b6
    have d8 := ok.d8
    have tl := ok.tl
    have gvl := ok.gl
    have vd : (vstrs N.doors).length = N.doors.length := List.length_map ..
    refine ⟨_, rfl, x, _, dx, _, _, rfl, n.ob, T.cl_Net, T.n_Net_first, rfl, fun y dy ny ndy ne => ?_⟩
    have ny' : upd H dy (.own y) y = none := by rw [upd_ne (Ne.symm ne)]; exact ny
    have U := ((Same.refl H).upd ndy (o := .own y)).upd ny' (o := .ins AR.C_Rooms dy [])
    refine ⟨y, dy, f, N.first, rfl, upd_same, SqL.of (U _ _ n.hf), fun a bb mm ll H1 na nbb nmm nll kp W1 => ⟨rfl, ?_⟩⟩
    have S1 : Same H H1 := fun q o e => kp q o (U q o e) (ne_of_none e ny)
    have fbb := U.free nbb
    have fmm := U.free nmm
    have fll := U.free nll
    refine ⟨fun k σ H2 => ∃ (num : Nat) (w : RV) (as : List Addr) (o4 : Option V), σ = [some (.ref x), some (.int room), some (.ref y), some (.int num), o4] ∧ Same H H2 ∧ RIn AR.C_Rooms H2 y dy bb mm ll as w ∧ ROk N.bowls.length room w ∧ runR N.takes N.gives room (room - num) num w = roomsF N.takes N.gives N.first room ∧ k = room - num,
      ⟨_, 0, ⟨[N.first], [-1], [-1]⟩, [a], none, rfl, S1, W1, ⟨fun r hr => by rw [List.mem_singleton.mp hr]; exact ok.fs.1, rfl, rfl, r1, Nat.le_refl _⟩, rfl, rfl⟩, ?_⟩
    rintro k σ H2 ⟨num, w, as, o4, rfl, S2, W2, o2, er, rfl⟩
    have vb : (as.map V.ref).length = w.bags.length := by rw [List.length_map, W2.rb.length]
    refine ⟨_, rfl, _, rfl, y, _, dy, _, _, rfl, W2.ob, T.cl_Rooms, T.n_Rooms_bags, rfl, bb, _, rfl, .inl (SqL.of W2.hb), _, _, rfl, rfl, _, rfl, ?_⟩
    rw [vb]
    refine iteD (fun h => ⟨_, fun σ' H' z => z, ?_⟩) (fun h => ?_)
    rotate_left
    · have e : roomsF N.takes N.gives N.first room = some w := by rw [← er]; exact rrun_stop (by omega)
      exact ⟨_, rfl, hQ w e y dy bb mm ll as H2 ny S2 W2 o2⟩
    have hw : num < w.bags.length := by omega
    have le := o2.le
    have er2 : runR N.takes N.gives room (room - num) num w = (match turnR N.takes N.gives room num w (List.range N.takes.length) with
        | none => none
        | some w' => runR N.takes N.gives room (room - num - 1) (num + 1) w') := by
      have e : room - num = (room - num - 1) + 1 := by omega
      rw [e, rrun_step hw]
      rfl
    have n2 := n.same S2
    refine ⟨_, rfl, x, _, dx, _, _, rfl, n2.ob, T.cl_Net, T.n_Net_doors, rfl, d, _, rfl, .inl (SqL.of n2.hd), _, rfl, rngA _, by rw [vd]; omega, ?_⟩
    rw [Int.toNat_natCast, vd, ← tl]
    refine for_range (n := _) (fun i σ H3 => ∃ (w' : RV) (as' : List Addr) (o4 : Option V), σ = [some (.ref x), some (.int room), some (.ref y), some (.int num), o4] ∧ Same H H3 ∧ RIn AR.C_Rooms H3 y dy bb mm ll as' w' ∧ ROk N.bowls.length room w' ∧ w.bags.length ≤ w'.bags.length ∧ turnR N.takes N.gives room num w' ((List.range N.takes.length).drop i) = turnR N.takes N.gives room num w (List.range N.takes.length)) ⟨w, as, _, rfl, S2, W2, o2, Nat.le_refl _, rfl⟩ ?_ ?_
    · rintro i σ H3 hi ⟨w', as', o4', rfl, S3, W3, o3, lw, et⟩
      have it : i < N.takes.length := hi
      have ig : i < N.gives.length := by omega
      have e0 : (0 : Int) + (i : Int) = ((i : Nat) : Int) := Int.zero_add _
      have n3 := n.same S3
      have hw' : num < w'.bags.length := by omega
      obtain ⟨qa, ea, fqa⟩ := rows_at W3.rb hw'
      have lq : (w'.bags[num]).length = N.bowls.length := o3.wd _ (List.getElem_mem hw')
      have lt : (N.takes.getD i []).length = N.bowls.length := by rw [getDr it]; exact (ok.tk _ (List.getElem_mem it)).1
      have lg : (N.gives.getD i []).length = N.bowls.length := by rw [getDr ig]; exact (ok.gv _ (List.getElem_mem ig)).1
      rw [drop_rng it] at et
      refine ⟨_, rfl, _, rfl, y, _, dy, _, _, rfl, W3.ob, T.cl_Rooms, T.n_Rooms_bags, rfl, _, rfl, bb, _, _, _, rfl, rfl, SqL.of W3.hb, ea, _, rfl, x, dx, b, d, t, g, f, qa, ts, gs, N, w'.bags[num], i, by rw [e0]; rfl, n3, ok, SqL.of fqa, lq, it, fun H4 S4 => ⟨_, rfl, ?_⟩⟩
      have W4 := W3.same S4
      have S34 := S3.trans S4
      cases hb : bn (N.takes.getD i []) w'.bags[num] with
      | false =>
        refine iteF ⟨w', as', _, rfl, S34, W4, o3, lw, ?_⟩
        rw [rturn_no (by rw [getDr hw']; exact hb)] at et
        exact et
      | true =>
        refine iteT ?_
        rw [rturn_go (by rw [getDr hw']; exact hb), getDr hw'] at et
        refine ⟨_, rfl, _, rfl, _, rfl, _, rfl, _, rfl, y, _, dy, _, _, rfl, W4.ob, T.cl_Rooms, T.n_Rooms_bags, rfl, _, rfl, bb, _, _, _, rfl, rfl, SqL.of W4.hb, ea, _, rfl, x, dx, b, d, t, g, f, qa, ts, gs, N, w'.bags[num], i, by rw [e0]; rfl, n.same S34, ok, SqL.of (S4 _ _ fqa), lq, it, fun _ pb H5 npb S5 hpb => ?_, fun h => absurd (hb.symm.trans h) (by decide)⟩
        have W5 := W4.same S5
        have S35 := S34.trans S5
        refine ⟨_, rfl, H, y, dy, bb, mm, ll, pb, as', w', _, N.bowls.length, num, i, room, by rw [e0]; rfl, S35, fbb, fmm, fll, W5, o3, hpb, behind_len lt lg lq, b1, b6, r60, Ne.symm (ne_of_none W4.hb npb), Ne.symm (ne_of_none W4.hm npb), Ne.symm (ne_of_none W4.hl npb), fun w2 e2 as2 H6 S6 W6 o6 sub => ?_, fun e2 H6 S6 => ?_⟩
        · refine ⟨w2, as2, _, rfl, S6, W6, o6, Nat.le_trans lw (rput_len e2), ?_⟩
          rw [← et, e2]
        · refine hE ?_ H6 S6
          rw [← er, er2, ← et, e2]
    · rintro σ H3 ⟨w', as', o4', rfl, S3, W3, o3, lw, et⟩
      rw [List.drop_eq_nil_of_le (by rw [List.length_range]; exact Nat.le_refl _)] at et
      refine ⟨_, rfl, _, _, rfl, rfl, ?_⟩
      refine ⟨room - (num + 1), by omega, num + 1, w', as', _, rfl, S3, W3, o3, ?_, rfl⟩
      rw [← er, er2, ← et]
      rfl
theorem sc_law_roomed : FnScope ["net", "room", "found"] ["net", "room"] (defScope s_law_roomed) := ⟨rfl, rfl, rfl, by decide +kernel, rfl, by decide +kernel, by decide +kernel⟩
set_option maxHeartbeats 4000000 in
theorem ok_law_roomed (T : Txt K mg AR FR) : FnOk P w K mg base CX0 9 AR.f_law_roomed FR.d_law_roomed ["net", "room"] (sp_law_roomed AR.C_Net AR.C_Rooms K) := by
  have G_Net_init : FnOk P w K mg base CX0 3 AR.f_Net_init FR.d_Net_init _ (sp_Net_init AR.C_Net K) := ok_Net_init T
  have G_Rooms_init : FnOk P w K mg base CX0 1 AR.f_Rooms_init FR.d_Rooms_init _ (sp_Rooms_init AR.C_Rooms K) := ok_Rooms_init T
  have G_roomed : FnOk P w K mg base (CXF P w) 8 AR.f_roomed FR.d_roomed _ (sp_roomed AR.C_Net AR.C_Rooms AR.C_TooWide AR.C_NoGo K) := ok_roomed T
  refine T.F_law_roomed.ok sc_law_roomed (fun vs H Q E h => ?_) (fun cdv A outer s H vs Q E hr h => ?_)
  · obtain ⟨x, dx, b, d, t, g, f, ts, gs, N, room, rfl, NI, ok, r1, r60, hQ⟩ := h
    rfl
  · obtain ⟨x, dx, b, d, t, g, f, ts, gs, N, room, rfl, NI, ok, r1, r60, hQ⟩ := h
    refine ⟨_, (pss_cons (ps_set (i := 2) sc_law_roomed.nd rfl (Or.inl rfl) pe_non)
      (pss_cons (ps_try0 (by rfl) T.mC_TooWide (pb_set (i := 2) sc_law_roomed.nd rfl (Or.inl rfl) (px_call G_roomed (hr.mono (by decide)) (by rfl) T.m_roomed T.F_roomed.kp T.b_roomed (pa_cons (pv 0) (pa_cons (pv 1) pa_nil)))) (fun _ _ => (pss_one (ps_set (i := 2) sc_law_roomed.nd rfl (Or.inl rfl) pe_non))))
      (pss_one (ps_ret (pv 2))))), ?_⟩
    refine seq_join (fun σ' H' => σ' = [some (.ref x), some (.int room), some .non] ∧ H = H') ?_ (fun N hN => hN _ _ ⟨rfl, rfl⟩)
    rintro _ _ ⟨rfl, rfl⟩
    refine seq_join (fun σ' H' => ∃ (fv : V), σ' = [some (.ref x), some (.int room), some fv] ∧ Same H H' ∧ ((fv = .non ∧ roomsF N.takes N.gives N.first room = none) ∨ ∃ (w : RV) (y dy wb wm wl : Addr) (as : List Addr), fv = .ref y ∧ roomsF N.takes N.gives N.first room = some w ∧ RIn AR.C_Rooms H' y dy wb wm wl as w ∧ ROk N.bowls.length room w)) ?_ ?_
    · rintro σ' H2 ⟨fv, rfl, S2, hfv⟩
      exact ⟨_, rfl, hQ fv H2 S2 hfv⟩
    · intro M hM
      refine ⟨_, rfl, _, rfl, x, dx, b, d, t, g, f, ts, gs, N, room, rfl, NI, ok, r1, r60, fun w ew y dy wb wm wl as H11 ny S11 WI wo => ?_, fun ew H11 S11 => ?_⟩
      · exact hM _ _ ⟨_, rfl, S11, .inr ⟨w, y, dy, wb, wm, wl, as, rfl, ew, WI, wo⟩⟩
      · refine ⟨_, rfl, caught_self T.ec_TooWide, fun e o ne xo => ?_⟩
        exact hM _ _ ⟨_, rfl, S11, .inl ⟨rfl, ew⟩⟩
theorem sc_law_whole : FnScope ["found"] ["found"] (defScope s_law_whole) := ⟨rfl, rfl, rfl, by decide +kernel, rfl, by decide +kernel, by decide +kernel⟩
set_option maxHeartbeats 4000000 in
theorem ok_law_whole (T : Txt K mg AR FR) : FnOk P w K mg base CX0 1 AR.f_law_whole FR.d_law_whole ["found"] (sp_law_whole K) := by
  refine T.F_law_whole.ok sc_law_whole (fun vs H Q E h => ?_) (fun cdv A outer s H vs Q E hr h => ?_)
  · obtain ⟨i, rfl, hQ⟩ := h
    rfl
  · obtain ⟨i, rfl, hQ⟩ := h
    refine ⟨_, (pss_one (ps_ret (pe_and (pe_callB call_isinst (by rfl) T.z_isinstance bt_isinstance (pa_cons (pv 0) (pa_cons (pe_bltn (v := .ty "int") (by rfl) T.z_int bt_int rfl) pa_nil))) (pe_one (pe_not (pe_callB call_isinst (by rfl) T.z_isinstance bt_isinstance (pa_cons (pv 0) (pa_cons (pe_bltn (v := .ty "bool") (by rfl) T.z_bool bt_bool rfl) pa_nil)))))))), ?_⟩
    refine ⟨_, rfl, _, _, _, _, rfl, .int i, by rfl, _, rfl, ?_⟩
    refine iteT ?_
    exact ⟨_, rfl, _, _, _, false, rfl, .int i, by rfl, false, rfl, hQ⟩
theorem sc_law_numbers : FnScope ["found", "due", "k"] ["found", "due"] (defScope s_law_numbers) := ⟨rfl, rfl, rfl, by decide +kernel, rfl, by decide +kernel, by decide +kernel⟩
set_option maxHeartbeats 4000000 in
theorem ok_law_numbers (T : Txt K mg AR FR) : FnOk P w K mg base CX0 2 AR.f_law_numbers FR.d_law_numbers ["found", "due"] (sp_law_numbers K) := by
  have G_law_whole : FnOk P w K mg base CX0 1 AR.f_law_whole FR.d_law_whole _ (sp_law_whole K) := ok_law_whole T
  refine T.F_law_numbers.ok sc_law_numbers (fun vs H Q E h => ?_) (fun cdv A outer s H vs Q E hr h => ?_)
  · obtain ⟨a, b, xs, ys, rfl, ha, hb, hz, hQ⟩ := h
    rfl
  · obtain ⟨a, b, xs, ys, rfl, ha, hb, hz, hQ⟩ := h
    refine ⟨_, (pss_cons (ps_if (PW.pt (pw_or (pt_not (pt_val (pe_callB call_isinst (by rfl) T.z_isinstance bt_isinstance (pa_cons (pv 0) (pa_cons (pe_bltn (v := .ty "list") (by rfl) T.z_list bt_list rfl) pa_nil))))) (pw_or1 (pt_cmpR op_ne (pe_callB call_len_seq (by rfl) T.z_len bt_len (pa_cons (pv 0) pa_nil)) (pe_callB call_len_seq (by rfl) T.z_len bt_len (pa_cons (pv 1) pa_nil)) (nomark _))))) (pss_one (ps_ret pe_bl)) pss_nil)
      (pss_cons (ps_for PassesOwn.never rfl (pi_range1 (by rfl) T.z_range (pa_cons (pe_callB call_len_seq (by rfl) T.z_len bt_len (pa_cons (pv 1) pa_nil)) pa_nil)) (pg_name (i := 2) sc_law_numbers.nd (by rfl) (Or.inl rfl))
      (pss_one (ps_if (PW.pt (pw_or (pt_not (pt_val (pe_call G_law_whole (hr.mono (by decide)) (by rfl) T.m_law_whole T.F_law_whole.kp T.b_law_whole .nil pass0 (pa_cons (pe_ix ix_list (pv 0) (pv 2) (fun _ _ => rfl)) pa_nil)))) (pw_or1 (pt_cmpR op_ne (pe_ix ix_list (pv 0) (pv 2) (fun _ _ => rfl)) (pe_ix ix_list (pv 1) (pv 2) (fun _ _ => rfl)) (nomark _))))) (pss_one (ps_ret pe_bl)) pss_nil)))
      (pss_one (ps_ret pe_bl)))), ?_⟩
    have hA : SqL K H a (vints xs) := SqL.of ha
    refine ⟨_, rfl, _, _, _, _, rfl, .lst ha, by rfl, _, rfl, ?_⟩
    refine iteF ?_
    refine ⟨_, rfl, a, _, rfl, .inl hA, _, rfl, b, _, rfl, .inl hb, rfl, _, rfl, ?_⟩
    refine iteND (fun hne => ?_) (fun hne => ?_)
    · have e : ¬ xs = ys := fun z => hne (by rw [z])
      rw [decide_eq_false e] at hQ
      exact hQ
    have hl : xs.length = ys.length := by
      have := vint_eq.mp hne
      simp only [ints_len] at this
      omega
    refine ⟨_, rfl, b, _, rfl, .inl hb, _, rfl, rngA _, by rw [ints_len]; omega, ?_⟩
    refine for_range (n := _) (fun i σ H2 => ∃ v, σ = [some (.ref a), some (.ref b), v] ∧ H2 = H ∧ xs.take i = ys.take i) ⟨none, rfl, rfl, rfl⟩ ?_ ?_
    · rintro i σ H2 hi ⟨v, rfl, rfl, ht⟩
      rw [Int.toNat_natCast, ints_len] at hi
      have hi' : i < xs.length := by omega
      refine ⟨_, rfl, _, rfl, a, _, _, _, rfl, rfl, hA, by rw [Int.zero_add]; exact ints_at hi', _, rfl, _, rfl, ?_⟩
      refine iteF ?_
      refine ⟨_, rfl, _, rfl, a, _, _, _, rfl, rfl, hA, by rw [Int.zero_add]; exact ints_at hi', _, rfl, _, rfl, b, _, _, _, rfl, rfl, hb, by rw [Int.zero_add]; exact ints_at hi, rfl, _, rfl, ?_⟩
      refine iteND (fun hne => ?_) (fun he => ?_)
      · have e : ¬ xs = ys := fun z => hne (by subst z; rfl)
        rw [decide_eq_false e] at hQ
        exact hQ
      · refine ⟨_, rfl, rfl, ?_⟩
        have he := vint_eq.mp he
        rw [List.take_add_one, List.take_add_one, ht, List.getElem?_eq_getElem hi', List.getElem?_eq_getElem hi, he]
    · rintro σ H2 ⟨v, rfl, rfl, ht⟩
      rw [Int.toNat_natCast, ints_len] at ht
      have e : xs = ys := by
        rw [List.take_of_length_le (by omega), List.take_of_length_le (by omega)] at ht
        exact ht
      rw [decide_eq_true e] at hQ
      exact hQ
theorem sc_law_same : FnScope ["found", "due", "k"] ["found", "due"] (defScope s_law_same) := ⟨rfl, rfl, rfl, by decide +kernel, rfl, by decide +kernel, by decide +kernel⟩
set_option maxHeartbeats 4000000 in
theorem ok_law_same (T : Txt K mg AR FR) : FnOk P w K mg base CX0 3 AR.f_law_same FR.d_law_same ["found", "due"] (sp_law_same AR.C_Rooms K) := by
  have G_Rooms_init : FnOk P w K mg base CX0 1 AR.f_Rooms_init FR.d_Rooms_init _ (sp_Rooms_init AR.C_Rooms K) := ok_Rooms_init T
  have G_law_numbers : FnOk P w K mg base CX0 2 AR.f_law_numbers FR.d_law_numbers _ (sp_law_numbers K) := ok_law_numbers T
  refine T.F_law_same.ok sc_law_same (fun vs H Q E h => ?_) (fun cdv A outer s H vs Q E hr h => ?_)
  · obtain ⟨y, dy, wb, wm, wl, q, pb, pp, pc, as, bs, w, z, room, rfl, W, o, r60, z6, hq, hb, R, hp, hc, hQ⟩ := h
    rfl
  · obtain ⟨y, dy, wb, wm, wl, q, pb, pp, pc, as, bs, w, z, room, rfl, W, o, r60, z6, hq, hb, R, hp, hc, hQ⟩ := h
    refine ⟨_, (pss_cons (ps_if (PW.pt (pw_or (pt_cmpR op_isN (pv 0) pe_non (nomark _)) (pw_or (pt_not (pt_val (pe_callB call_isinst (by rfl) T.z_isinstance bt_isinstance (pa_cons (pe_fld (pv 0) rfl) (pa_cons (pe_bltn (v := .ty "list") (by rfl) T.z_list bt_list rfl) pa_nil))))) (pw_or1 (pt_cmpR op_ne (pe_callB call_len_seq (by rfl) T.z_len bt_len (pa_cons (pe_fld (pv 0) rfl) pa_nil)) (pe_callB call_len_seq (by rfl) T.z_len bt_len (pa_cons (pe_ix ix_tup (pv 1) pe_int (fun _ _ => rfl)) pa_nil)) (nomark _)))))) (pss_one (ps_ret pe_bl)) pss_nil)
      (pss_cons (ps_for PassesOwn.never rfl (pi_range1 (by rfl) T.z_range (pa_cons (pe_callB call_len_seq (by rfl) T.z_len bt_len (pa_cons (pe_ix ix_tup (pv 1) pe_int (fun _ _ => rfl)) pa_nil)) pa_nil)) (pg_name (i := 2) sc_law_same.nd (by rfl) (Or.inl rfl))
      (pss_one (ps_if (pt_not (pt_val (pe_call G_law_numbers (hr.mono (by decide)) (by rfl) T.m_law_numbers T.F_law_numbers.kp T.b_law_numbers .nil pass0 (pa_cons (pe_ix ix_list (pe_fld (pv 0) rfl) (pv 2) (fun _ _ => rfl)) (pa_cons (pe_ix ix_list (pe_ix ix_tup (pv 1) pe_int (fun _ _ => rfl)) (pv 2) (fun _ _ => rfl)) pa_nil))))) (pss_one (ps_ret pe_bl)) pss_nil)))
      (pss_one (ps_ret (pe_and (pe_call G_law_numbers (hr.mono (by decide)) (by rfl) T.m_law_numbers T.F_law_numbers.kp T.b_law_numbers .nil pass0 (pa_cons (pe_fld (pv 0) rfl) (pa_cons (pe_ix ix_tup (pv 1) pe_int (fun _ _ => rfl)) pa_nil))) (pe_one (pe_call G_law_numbers (hr.mono (by decide)) (by rfl) T.m_law_numbers T.F_law_numbers.kp T.b_law_numbers .nil pass0 (pa_cons (pe_fld (pv 0) rfl) (pa_cons (pe_ix ix_tup (pv 1) pe_int (fun _ _ => rfl)) pa_nil))))))))), ?_⟩
    have le := o.le
    have vb : (as.map V.ref).length = w.bags.length := by rw [List.length_map, W.rb.length]
    have vd : (bs.map V.ref).length = w.bags.length := by rw [List.length_map, R.length]
    refine ⟨_, rfl, rfl, _, rfl, ?_⟩
    refine iteD (fun h => nomatch h) (fun _ => ?_)
    refine ⟨_, rfl, y, _, dy, _, _, rfl, W.ob, T.cl_Rooms, T.n_Rooms_bags, rfl, _, _, _, _, rfl, .lst W.hb, by rfl, _, rfl, ?_⟩
    refine iteF ?_
    refine ⟨_, rfl, y, _, dy, _, _, rfl, W.ob, T.cl_Rooms, T.n_Rooms_bags, rfl, wb, _, rfl, .inl (SqL.of W.hb), _, rfl, q, _, _, _, rfl, rfl, SqT.of hq, rfl, pb, _, rfl, .inl (SqL.of hb), rfl, _, rfl, ?_⟩
    rw [vb, vd]
    refine iteND (fun h => absurd rfl h) (fun _ => ?_)
    refine ⟨_, rfl, q, _, _, _, rfl, rfl, SqT.of hq, rfl, pb, _, rfl, .inl (SqL.of hb), _, rfl, rngA _, by rw [vd]; omega, ?_⟩
    rw [Int.toNat_natCast, vd]
    refine for_range (n := _) (fun i σ H2 => ∃ o2, σ = [some (.ref y), some (.ref q), o2] ∧ H2 = H) ⟨none, rfl, rfl⟩ ?_ ?_
    · rintro i σ H2 hi ⟨o2, rfl, rfl⟩
      have hi : i < w.bags.length := hi
      have e0 : (0 : Int) + (i : Int) = ((i : Nat) : Int) := Int.zero_add _
      obtain ⟨qa, ea, fqa⟩ := rows_at W.rb hi
      obtain ⟨qd, ed, fqd⟩ := rows_at R hi
      rw [← e0] at ea ed
      have lq := o.wd _ (List.getElem_mem hi)
      refine ⟨_, rfl, y, _, dy, _, _, rfl, W.ob, T.cl_Rooms, T.n_Rooms_bags, rfl, _, rfl, wb, _, _, _, rfl, rfl, SqL.of W.hb, ea, _, rfl, q, _, _, _, rfl, rfl, SqT.of hq, rfl, _, rfl, pb, _, _, _, rfl, rfl, SqL.of hb, ed, qa, qd, _, _, rfl, fqa, SqL.of fqd, by omega, _, rfl, ?_⟩
      exact iteND (fun h => absurd rfl h) (fun _ => ⟨_, rfl, rfl⟩)
    · rintro σ H2 ⟨o2, rfl, rfl⟩
      refine ⟨_, rfl, y, _, dy, _, _, rfl, W.ob, T.cl_Rooms, T.n_Rooms_parents, rfl, _, rfl, q, _, _, _, rfl, rfl, SqT.of hq, rfl, wm, pp, _, _, rfl, W.hm, SqL.of hp, by rw [o.lm]; omega, _, rfl, ?_⟩
      rw [decide_eq_true rfl]
      refine iteT ?_
      refine ⟨_, rfl, y, _, dy, _, _, rfl, W.ob, T.cl_Rooms, T.n_Rooms_comers, rfl, _, rfl, q, _, _, _, rfl, rfl, SqT.of hq, rfl, wl, pc, _, _, rfl, W.hl, SqL.of hc, by rw [o.ll]; omega, ?_⟩
      rw [decide_eq_true rfl]
      exact hQ
theorem sc_run_to : FnScope ["found", "number", "doors"] ["found", "number"] (defScope s_run_to) := ⟨rfl, rfl, rfl, by decide +kernel, rfl, by decide +kernel, by decide +kernel⟩
set_option maxHeartbeats 4000000 in
theorem ok_run_to (T : Txt K mg AR FR) : FnOk P w K mg base CX0 3 AR.f_run_to FR.d_run_to ["found", "number"] (sp_run_to AR.C_Rooms K) := by
  have G_Rooms_init : FnOk P w K mg base CX0 1 AR.f_Rooms_init FR.d_Rooms_init _ (sp_Rooms_init AR.C_Rooms K) := ok_Rooms_init T
  refine T.F_run_to.ok sc_run_to (fun vs H Q E h => ?_) (fun cdv A outer s H vs Q E hr h => ?_)
  · obtain ⟨x, dx, b, m, l, as, w, z, room, num, tk, gv, first, rfl, n, o, g, r60, wl, hQ⟩ := h
    rfl
  · obtain ⟨x, dx, b, m, l, as, w, z, room, num, tk, gv, first, rfl, n, o, g, r60, wl, hQ⟩ := h
    refine ⟨_, (pss_cons (ps_set (i := 2) sc_run_to.nd rfl (Or.inl rfl) (pe_lst pa_nil))
      (pss_cons (ps_while PassesOwn.never (pt_cmpR op_ge (pe_ix ix_list (pe_fld (pv 0) rfl) (pv 1) (fun _ _ => rfl)) pe_int (nomark _))
      (pss_cons (ps_expr (pe_bm PySem.F.plainAttrs_list PySem.F.slot_list_append PySem.F.type_list_append mt_append (pv 2) (pa_cons (pe_ix ix_list (pe_fld (pv 0) rfl) (pv 1) (fun _ _ => rfl)) pa_nil)))
      (pss_one (ps_set (i := 1) sc_run_to.nd rfl (Or.inl rfl) (pe_ix ix_list (pe_fld (pv 0) rfl) (pv 1) (fun _ _ => rfl))))))
      (pss_one (ps_ret (pe_listRev rfl (by rfl) T.z_list (by rfl) T.z_reversed (pa_cons (pv 2) pa_nil)))))), ?_⟩
    have le := o.le
    have lm := o.lm
    have ll := o.ll
    refine ⟨by decide, fun p np => ?_⟩
    have U := (Same.refl H).upd np (o := .lst [])
    have hp0 := upd_same (H := H) (a := p) (o := .lst [])
    generalize upd H p (.lst []) = H2 at U hp0 ⊢
    refine ⟨fun k σ H3 => ∃ (v : Nat) (ds : List Nat) (f : Nat), σ = [some (.ref x), some (.int v), some (.ref p)] ∧ Same H H3 ∧ H3 p = some (.lst (vints (zs ds))) ∧ v < w.bags.length ∧ v ≤ f ∧ f + ds.length = w.bags.length ∧ ds ++ chR w f v = chR w w.bags.length num ∧ k = v, ⟨_, num, [], w.bags.length, rfl, U, hp0, wl, by omega, rfl, rfl, rfl⟩, ?_⟩
    rintro k σ H3 ⟨v, ds, f, rfl, S3, hp3, hv, vf, fl, ec, rfl⟩
    have n3 := n.same S3
    have al : atI (vints w.par) ((k : Nat) : Int) = some (V.int (w.par.getD k 0)) := at_zs (by omega)
    have am : atI (vints w.com) ((k : Nat) : Int) = some (V.int (w.com.getD k 0)) := at_zs (by omega)
    refine ⟨_, rfl, x, _, dx, _, _, rfl, n3.ob, T.cl_Rooms, T.n_Rooms_parents, rfl, _, rfl, m, _, _, _, rfl, rfl, SqL.of n3.hm, al, _, _, rfl, rfl, _, rfl, ?_⟩
    rcases Nat.eq_zero_or_pos k with k0 | k1
    · subst k0
      rw [g.p0]
      refine iteD (fun h => absurd h (by decide)) (fun _ => ?_)
      rw [chR_zero g, List.append_nil] at ec
      subst ec
      refine ⟨_, rfl, p, _, rfl, SqL.of hp3, fun q nq => ?_⟩
      have erv : (vints (zs (chR w w.bags.length num))).reverse = vints (zs (chR w w.bags.length num).reverse) := by rw [vints, vints, zs, zs, List.map_reverse, List.map_reverse]
      rw [erv]
      exact hQ q _ (S3.free nq) (S3.upd nq) upd_same
    · obtain ⟨door, par, g1, g2, g3, g4, _⟩ := g.st k k1 hv
      rw [g4] at al ⊢
      rw [g3] at am
      refine iteD (fun _ => ⟨_, fun σ' H' z => z, ?_⟩) (fun h => absurd (show (0 : Int) ≤ (par : Int) by omega) h)
      refine ⟨_, rfl, .inl ⟨rfl, _, SqL.of hp3⟩, _, rfl, x, _, dx, _, _, rfl, n3.ob, T.cl_Rooms, T.n_Rooms_comers, rfl, _, rfl, l, _, _, _, rfl, rfl, SqL.of n3.hl, am, p, _, _, rfl, rfl, hp3, by rw [ints_len, zs_len]; exact small70 (by omega), ?_⟩
      have hp4 : upd H3 p (.lst (vints (zs ds) ++ [V.int (door : Int)])) p = some (.lst (vints (zs (ds ++ [door])))) := by rw [upd_same, zs, zs, List.map_append, ← vints_snoc]; rfl
      have S4 : Same H (upd H3 p (.lst (vints (zs ds) ++ [V.int (door : Int)]))) := S3.upd' np
      generalize upd H3 p (.lst (vints (zs ds) ++ [V.int (door : Int)])) = H4 at hp4 S4 ⊢
      have n4 := n.same S4
      refine ⟨_, rfl, x, _, dx, _, _, rfl, n4.ob, T.cl_Rooms, T.n_Rooms_parents, rfl, _, rfl, m, _, _, _, rfl, rfl, SqL.of n4.hm, al, ?_⟩
      obtain ⟨f', rfl⟩ : ∃ f', f = f' + 1 := ⟨f - 1, by omega⟩
      refine ⟨par, g2, par, ds ++ [door], f', rfl, S4, hp4, by omega, by omega, by rw [List.length_append, List.length_singleton]; omega, ?_, rfl⟩
      rw [← ec, chR_step g3 g4, List.append_assoc]
      rfl
theorem sc_law_leads : FnScope ["plan", "found", "at", "due", "doors", "beads", "door"] ["plan", "found", "at", "due"] (defScope s_law_leads) := ⟨rfl, rfl, rfl, by decide +kernel, rfl, by decide +kernel, by decide +kernel⟩
set_option maxHeartbeats 4000000 in
theorem ok_law_leads (T : Txt K mg AR FR) : FnOk P w K mg base CX0 4 AR.f_law_leads FR.d_law_leads ["plan", "found", "at", "due"] (sp_law_leads AR.C_Rooms K) := by
  have G_Rooms_init : FnOk P w K mg base CX0 1 AR.f_Rooms_init FR.d_Rooms_init _ (sp_Rooms_init AR.C_Rooms K) := ok_Rooms_init T
  have G_run_to : FnOk P w K mg base CX0 3 AR.f_run_to FR.d_run_to _ (sp_run_to AR.C_Rooms K) := ok_run_to T
  have G_law_whole : FnOk P w K mg base CX0 1 AR.f_law_whole FR.d_law_whole _ (sp_law_whole K) := ok_law_whole T
  have G_law_may : FnOk P w K mg base CX0 1 AR.f_law_may FR.d_law_may _ (sp_law_may K) := ok_law_may T
  have G_law_behind : FnOk P w K mg base CX0 1 AR.f_law_behind FR.d_law_behind _ (sp_law_behind K) := ok_law_behind T
  refine T.F_law_leads.ok sc_law_leads (fun vs H Q E h => ?_) (fun cdv A outer s H vs Q E hr h => ?_)
  · obtain ⟨p, pt, pg, pf, y, dy, wb, wm, wl, q, pb, pp, pc, ts, gs, as, bs, tk, gv, fs, w, z, room, num, rfl, P, o, W, wo, g, r60, hq, hb, R, hn, hQ⟩ := h
    rfl
  · obtain ⟨p, pt, pg, pf, y, dy, wb, wm, wl, q, pb, pp, pc, ts, gs, as, bs, tk, gv, fs, w, z, room, num, rfl, P, o, W, wo, g, r60, hq, hb, R, hn, hQ⟩ := h
    refine ⟨_, (pss_cons (ps_set (i := 4) sc_law_leads.nd rfl (Or.inl rfl) (pe_call G_run_to (hr.mono (by decide)) (by rfl) T.m_run_to T.F_run_to.kp T.b_run_to .nil pass0 (pa_cons (pv 1) (pa_cons (pv 2) pa_nil))))
      (pss_cons (ps_if (pt_not (pt_val (pe_callB call_isinst (by rfl) T.z_isinstance bt_isinstance (pa_cons (pv 4) (pa_cons (pe_bltn (v := .ty "list") (by rfl) T.z_list bt_list rfl) pa_nil))))) (pss_one (ps_ret pe_bl)) pss_nil)
      (pss_cons (ps_set (i := 5) sc_law_leads.nd rfl (Or.inl rfl) (pe_callTy call_list_of (by rfl) T.z_list bt_list (pa_cons (pe_ix ix_tup (pv 0) pe_int (fun _ _ => rfl)) pa_nil)))
      (pss_cons (ps_for PassesOwn.never rfl (pi_list (pv 4)) (pg_name (i := 6) sc_law_leads.nd (by rfl) (Or.inl rfl))
      (pss_cons (ps_if (PW.pt (pw_or (pt_not (pt_val (pe_call G_law_whole (hr.mono (by decide)) (by rfl) T.m_law_whole T.F_law_whole.kp T.b_law_whole .nil pass0 (pa_cons (pv 6) pa_nil)))) (pw_or (pt_cmpR op_lt (pv 6) pe_int (nomark _)) (pw_or (pt_cmpR op_ge (pv 6) (pe_callB call_len_seq (by rfl) T.z_len bt_len (pa_cons (pe_ix ix_tup (pv 0) pe_int (fun _ _ => rfl)) pa_nil)) (nomark _)) (pw_or1 (pt_not (pt_val (pe_call G_law_may (hr.mono (by decide)) (by rfl) T.m_law_may T.F_law_may.kp T.b_law_may .nil pass0 (pa_cons (pv 0) (pa_cons (pv 5) (pa_cons (pv 6) pa_nil))))))))))) (pss_one (ps_ret pe_bl)) pss_nil)
      (pss_one (ps_set (i := 5) sc_law_leads.nd rfl (Or.inl rfl) (pe_call G_law_behind (hr.mono (by decide)) (by rfl) T.m_law_behind T.F_law_behind.kp T.b_law_behind .nil pass0 (pa_cons (pv 0) (pa_cons (pv 5) (pa_cons (pv 6) pa_nil))))))))
      (pss_one (ps_ret (pe_cmpR (op_eqL (hu0_of hr)) (pv 5) (pe_ix ix_list (pe_ix ix_tup (pv 3) pe_int (fun _ _ => rfl)) (pv 2) (fun _ _ => rfl)) (nomark _)))))))), ?_⟩
    have z6 := o.z6
    have le := wo.le
    have vt : (ts.map V.ref).length = tk.length := by rw [List.length_map, P.tr.length]
    refine ⟨_, rfl, _, rfl, y, dy, wb, wm, wl, as, w, z, room, num, tk, gv, fs, rfl, W, wo, g, r60, hn, fun pd H1 npd S1 hpd => ?_⟩
    have hds := chR_lt g w.bags.length num hn
    have hwk := chR_wk g w.bags.length num (by omega) hn
    have hdl := chR_len (w := w) w.bags.length num
    have hds' : ∀ d ∈ (chR w w.bags.length num).reverse, d < tk.length := fun d hd => hds d (List.mem_reverse.mp hd)
    have hdl' : (chR w w.bags.length num).reverse.length ≤ 60 := by rw [List.length_reverse]; omega
    generalize (chR w w.bags.length num).reverse = ds at hpd hwk hds' hdl'
    have P1 := P.same S1
    refine ⟨_, rfl, _, _, _, _, rfl, .lst hpd, by rfl, _, rfl, ?_⟩
    refine iteF ?_
    refine ⟨_, rfl, p, _, _, _, rfl, rfl, SqT.of P1.top, rfl, pf, _, rfl, .inl (SqL.of P1.hf), fun q0 nq0 => ?_⟩
    have U := S1.upd nq0 (o := .lst (vints fs))
    have VV := (Same.refl H1).upd nq0 (o := .lst (vints fs))
    have hq0 := upd_same (H := H1) (a := q0) (o := .lst (vints fs))
    have hpd2 := VV _ _ hpd
    generalize upd H1 q0 (.lst (vints fs)) = H2 at U VV hq0 hpd2 ⊢
    refine ⟨_, rfl, pd, rfl, ⟨_, SqL.of hpd2⟩, for_list (K := K) (a := pd) (xs := vints (zs ds)) (fun i σ H3 => ∃ (ph : Addr) (held : List Int) (o6 : Option V), σ = [some (.ref p), some (.ref y), some (.int num), some (.ref q), some (.ref pd), some (.ref ph), o6] ∧ Same H H3 ∧ Same H1 H3 ∧ H3 ph = some (.lst (vints held)) ∧ held.length = z ∧ wkR tk gv held (ds.drop i) = some (w.bags.getD num [])) ⟨q0, fs, none, rfl, U, VV, hq0, o.fs.1, hwk⟩ (fun i σ H3 _ ⟨_, _, _, _, _, S, _⟩ => SqL.of (S _ _ hpd)) ?_ ?_⟩
    · rintro i v σ H3 hv ⟨ph, held, o6, rfl, S3, S13, hph, hl, hc⟩
      obtain ⟨dd, hd1, rfl⟩ := zs_get hv
      have dt := hds' dd (List.mem_of_getElem? hd1)
      have hi : i < ds.length := (List.getElem?_eq_some_iff.mp hd1).1
      have ei : ds[i] = dd := (List.getElem?_eq_some_iff.mp hd1).2
      rw [List.drop_eq_getElem_cons hi, ei] at hc
      have hc : (if bn (tk.getD dd []) held then wkR tk gv (behind (tk.getD dd []) (gv.getD dd []) held) (ds.drop (i + 1)) else none) = some (w.bags.getD num []) := hc
      have hbn : bn (tk.getD dd []) held = true := by
        cases hx : bn (tk.getD dd []) held with
        | true => rfl
        | false => rw [hx, if_neg Bool.false_ne_true] at hc; cases hc
      rw [hbn, if_pos rfl] at hc
      have P3 := P.same S3
      refine ⟨_, rfl, _, rfl, _, rfl, ?_⟩
      refine iteF ?_
      refine ⟨_, rfl, _, _, rfl, rfl, _, rfl, ?_⟩
      refine iteD (fun h => absurd h (by omega)) (fun _ => ?_)
      refine ⟨_, rfl, _, rfl, p, _, _, _, rfl, rfl, SqT.of P3.top, rfl, pt, _, rfl, .inl (SqL.of P3.ht), _, _, rfl, rfl, _, rfl, ?_⟩
      rw [vt]
      refine iteD (fun h => absurd h (by omega)) (fun _ => ?_)
      refine ⟨_, rfl, _, rfl, _, rfl, p, pt, pg, pf, ph, ts, gs, z, tk, gv, fs, held, dd, rfl, P3, o, SqL.of hph, hl, dt, _, rfl, ?_⟩
      rw [hbn]
      refine iteF ?_
      refine ⟨_, rfl, _, rfl, _, rfl, p, pt, pg, pf, ph, ts, gs, z, tk, gv, fs, held, dd, rfl, P3, o, SqL.of hph, hl, dt, fun q4 H4 nq4 S4 hq4 => ?_⟩
      have dg : dd < gv.length := by rw [o.gl]; exact dt
      have lt : (tk.getD dd []).length = z := by rw [getDr dt]; exact (o.tk _ (List.getElem_mem dt)).1
      have lg : (gv.getD dd []).length = z := by rw [getDr dg]; exact (o.gv _ (List.getElem_mem dg)).1
      exact ⟨q4, _, _, rfl, S3.trans S4, S13.trans S4, hq4, behind_len lt lg hl, hc⟩
    · rintro σ H3 ⟨ph, held, o6, rfl, S3, S13, hph, hl, hc⟩
      rw [ints_len, zs_len, List.drop_length] at hc
      injection hc with hc
      obtain ⟨qn, en, fqn⟩ := rows_at (R.same S3) hn
      refine ⟨_, rfl, _, rfl, q, _, _, _, rfl, rfl, SqT.of (S3 _ _ hq), rfl, _, rfl, pb, _, _, _, rfl, rfl, SqL.of (S3 _ _ hb), en, ph, qn, held, _, rfl, rfl, SqL.of hph, SqL.of fqn, ?_⟩
      rw [← getDr hn, ← hc, decide_eq_true rfl]
      exact hQ _ S3
theorem sc_law : FnScope ["script", "plan", "room", "due", "net", "found", "many", "at"] ["script"] (defScope s_law) := ⟨rfl, rfl, rfl, by decide +kernel, rfl, by decide +kernel, by decide +kernel⟩
set_option maxHeartbeats 40000000 in
theorem ok_law (T : Txt K mg AR FR) : FnOk P w K mg base CX0 10 AR.f_law FR.d_law ["script"] (sp_law K) := by
  have G_law_net : FnOk P w K mg base CX0 3 AR.f_law_net FR.d_law_net _ (sp_law_net K) := ok_law_net T
  have G_law_num : FnOk P w K mg base CX0 2 AR.f_law_num FR.d_law_num _ (sp_law_num K) := ok_law_num T
  have G_law_rooms : FnOk P w K mg base CX0 2 AR.f_law_rooms FR.d_law_rooms _ (sp_law_rooms K) := ok_law_rooms T
  have G_law_made : FnOk P w K mg base CX0 5 AR.f_law_made FR.d_law_made _ (sp_law_made AR.C_Net K) := ok_law_made T
  have G_law_roomed : FnOk P w K mg base CX0 9 AR.f_law_roomed FR.d_law_roomed _ (sp_law_roomed AR.C_Net AR.C_Rooms K) := ok_law_roomed T
  have G_law_same : FnOk P w K mg base CX0 3 AR.f_law_same FR.d_law_same _ (sp_law_same AR.C_Rooms K) := ok_law_same T
  have G_law_leads : FnOk P w K mg base CX0 4 AR.f_law_leads FR.d_law_leads _ (sp_law_leads AR.C_Rooms K) := ok_law_leads T
  refine T.F_law.ok sc_law (fun vs H Q E h => ?_) (fun cdv A outer s H vs Q E hr h => ?_)
  · obtain ⟨a, ns, rfl, hS, hlen, hQ⟩ := h
    rfl
  · obtain ⟨a, ns, rfl, hS, hlen, hQ⟩ := h
    refine ⟨_, (pss_cons (ps_set (i := 1) sc_law.nd rfl (Or.inl rfl) (pe_call G_law_net (hr.mono (by decide)) (by rfl) T.m_law_net T.F_law_net.kp T.b_law_net .nil pass0 (pa_cons (pv 0) pa_nil)))
      (pss_cons (ps_set (i := 2) sc_law.nd rfl (Or.inl rfl) (pe_op op_add pe_int (pe_op op_mod (pe_call G_law_num (hr.mono (by decide)) (by rfl) T.m_law_num T.F_law_num.kp T.b_law_num .nil pass0 (pa_cons (pv 0) (pa_cons pe_int pa_nil))) pe_int)))
      (pss_cons (ps_set (i := 3) sc_law.nd rfl (Or.inl rfl) (pe_call G_law_rooms (hr.mono (by decide)) (by rfl) T.m_law_rooms T.F_law_rooms.kp T.b_law_rooms .nil pass0 (pa_cons (pv 1) (pa_cons (pv 2) pa_nil))))
      (pss_cons (ps_set (i := 4) sc_law.nd rfl (Or.inl rfl) (pe_call G_law_made (hr.mono (by decide)) (by rfl) T.m_law_made T.F_law_made.kp T.b_law_made .nil pass0 (pa_cons (pv 1) pa_nil)))
      (pss_cons (ps_set (i := 5) sc_law.nd rfl (Or.inl rfl) (pe_call G_law_roomed (hr.mono (by decide)) (by rfl) T.m_law_roomed T.F_law_roomed.kp T.b_law_roomed .nil pass0 (pa_cons (pv 4) (pa_cons (pv 2) pa_nil))))
      (pss_cons (ps_if (pt_cmpR op_isN (pv 3) pe_non (nomark _)) (pss_one (ps_ret (pe_cmpR op_isN (pv 5) pe_non (nomark _)))) pss_nil)
      (pss_cons (ps_set (i := 6) sc_law.nd rfl (Or.inl rfl) (pe_callB call_len_seq (by rfl) T.z_len bt_len (pa_cons (pe_ix ix_tup (pv 3) pe_int (fun _ _ => rfl)) pa_nil)))
      (pss_cons (ps_if (PW.pt (pw_or (pt_not (pt_val (pe_call G_law_same (hr.mono (by decide)) (by rfl) T.m_law_same T.F_law_same.kp T.b_law_same .nil pass0 (pa_cons (pv 5) (pa_cons (pv 3) pa_nil))))) (pw_or1 (pt_not (pt_val (pe_call G_law_same (hr.mono (by decide)) (by rfl) T.m_law_same T.F_law_same.kp T.b_law_same .nil pass0 (pa_cons (pe_call G_law_roomed (hr.mono (by decide)) (by rfl) T.m_law_roomed T.F_law_roomed.kp T.b_law_roomed .nil pass0 (pa_cons (pv 4) (pa_cons (pv 6) pa_nil))) (pa_cons (pv 3) pa_nil)))))))) (pss_one (ps_ret pe_bl)) pss_nil)
      (pss_cons (ps_if (PW.pt (pw_and (pt_cmpR op_gt (pv 6) pe_int (nomark _)) (pw_and1 (pt_cmpR op_notN (pe_call G_law_roomed (hr.mono (by decide)) (by rfl) T.m_law_roomed T.F_law_roomed.kp T.b_law_roomed .nil pass0 (pa_cons (pv 4) (pa_cons (pe_op op_sub (pv 6) pe_int) pa_nil))) pe_non (nomark _))))) (pss_one (ps_ret pe_bl)) pss_nil)
      (pss_cons (ps_for PassesOwn.never rfl (pi_range1 (by rfl) T.z_range (pa_cons (pv 6) pa_nil)) (pg_name (i := 7) sc_law.nd (by rfl) (Or.inl rfl))
      (pss_one (ps_if (pt_not (pt_val (pe_call G_law_leads (hr.mono (by decide)) (by rfl) T.m_law_leads T.F_law_leads.kp T.b_law_leads .nil pass0 (pa_cons (pv 1) (pa_cons (pv 5) (pa_cons (pv 7) (pa_cons (pv 3) pa_nil))))))) (pss_one (ps_ret pe_bl)) pss_nil)))
      (pss_one (ps_ret pe_bl)))))))))))), ?_⟩
    refine ⟨_, rfl, a, ns, rfl, hS, hlen, fun p pt pg pf ts gs z tk gv fs H1 S1 P o => ?_⟩
    have z6 := o.z6
    have fl := o.fs.1
    subst fl
    refine ⟨_, rfl, a, ns, 120, rfl, S1.seq hS, hlen, by decide, fun c c0 c1 => ?_⟩
    have m0 : 0 ≤ c % 60 := Int.emod_nonneg _ (by decide)
    have m1 : c % 60 < 60 := Int.emod_lt_of_pos _ (by decide)
    obtain ⟨room, er⟩ := Int.eq_ofNat_of_zero_le (show 0 ≤ 1 + c % 60 by omega)
    refine ⟨_, _, rfl, rfl, (by show (0 : Int) < 60; decide), _, _, rfl, rfl, ?_⟩
    dsimp only
    rw [er]
    have r1 : 1 ≤ room := by omega
    have r60 : room ≤ 60 := by omega
    have eb : (netR tk gv fs).bowls.length = fs.length := netR_len z6
    refine ⟨_, rfl, _, rfl, p, pt, pg, pf, ts, gs, fs.length, tk, gv, fs, room, rfl, P, o, r1, r60, fun hno H2 S2 => ?_, fun w ew q pb pp pc as H2 S2 hq hb R hp hc wo => ?_⟩
    · refine ⟨_, rfl, p, pt, pg, pf, ts, gs, tk, gv, fs, rfl, P.same S2, o, fun x dx b d t g f ts' gs' H3 nx S3 NI ok => ?_⟩
      refine ⟨_, rfl, _, rfl, x, dx, b, d, t, g, f, ts', gs', _, room, rfl, NI, ok, r1, r60, fun fv H4 S4 hfv => ?_⟩
      rcases hfv with ⟨rfl, _⟩ | ⟨w, y, dy, wb, wm, wl, as, rfl, ew, _, _⟩
      · refine ⟨_, rfl, rfl, _, rfl, ?_⟩
        refine iteD (fun _ => ?_) (fun h => absurd rfl h)
        exact ⟨_, rfl, rfl, hQ _⟩
      · have ew : roomsF tk gv fs room = some w := ew
        rw [hno] at ew
        cases ew
    have g := rgood_rooms ew
    have le := wo.le
    have one := wo.one
    refine ⟨_, rfl, p, pt, pg, pf, ts, gs, tk, gv, fs, rfl, P.same S2, o, fun x dx b d t gg f ts' gs' H3 nx S3 NI ok => ?_⟩
    refine ⟨_, rfl, _, rfl, x, dx, b, d, t, gg, f, ts', gs', _, room, rfl, NI, ok, r1, r60, fun fv H4 S4 hfv => ?_⟩
    rcases hfv with ⟨_, e⟩ | ⟨w', y, dy, wb, wm, wl, as', rfl, ew', W, wo'⟩
    · have e : roomsF tk gv fs room = none := e
      rw [ew] at e
      cases e
    have ew' : roomsF tk gv fs room = some w' := ew'
    rw [ew] at ew'
    injection ew' with ew'
    subst ew'
    rw [eb] at wo'
    have S24 := S3.trans S4
    have hq4 := S24 _ _ hq
    have hb4 := S24 _ _ hb
    have R4 := R.same S24
    have hp4 := S24 _ _ hp
    have hc4 := S24 _ _ hc
    have vb : (as.map V.ref).length = w.bags.length := by rw [List.length_map, R.length]
    refine ⟨_, rfl, rfl, _, rfl, ?_⟩
    refine iteD (fun h => nomatch h) (fun _ => ?_)
    refine ⟨_, rfl, q, _, _, _, rfl, rfl, SqT.of hq4, rfl, pb, _, rfl, .inl (SqL.of hb4), ?_⟩
    rw [vb]
    refine ⟨_, rfl, _, rfl, y, dy, wb, wm, wl, q, pb, pp, pc, as', as, w, _, room, rfl, W, wo', r60, z6, hq4, hb4, R4, hp4, hc4, _, rfl, ?_⟩
    refine iteF ?_
    have ew2 : roomsF tk gv fs w.bags.length = some w := rooms_re r1 (Nat.le_refl _) ew
    refine ⟨_, rfl, _, rfl, x, dx, b, d, t, gg, f, ts', gs', _, w.bags.length, rfl, NI.same S4, ok, one, by omega, fun fv2 H5 S5 hfv2 => ?_⟩
    rcases hfv2 with ⟨_, e⟩ | ⟨w2, y2, dy2, wb2, wm2, wl2, as2, rfl, e2, W2, wo2⟩
    · have e : roomsF tk gv fs w.bags.length = none := e
      rw [ew2] at e
      cases e
    have e2 : roomsF tk gv fs w.bags.length = some w2 := e2
    rw [ew2] at e2
    injection e2 with e2
    subst e2
    rw [eb] at wo2
    refine ⟨_, rfl, y2, dy2, wb2, wm2, wl2, q, pb, pp, pc, as2, as, w, _, w.bags.length, rfl, W2, wo2, by omega, z6, S5 _ _ hq4, S5 _ _ hb4, R4.same S5, S5 _ _ hp4, S5 _ _ hc4, _, rfl, ?_⟩
    refine iteF ?_
    try dsimp only [tNext]
    refine seq_join (fun σ' H' => σ' = [some (.ref a), some (.ref p), some (.int room), some (.ref q), some (.ref x), some (.ref y), some (.int (w.bags.length : Nat)), none] ∧ Same H4 H') ?_ ?_
    · rintro _ H6 ⟨rfl, S6⟩
      refine ⟨_, rfl, _, rfl, by omega, by omega, ?_⟩
      rw [Int.toNat_natCast]
      refine for_range (n := _) (fun i σ H7 => ∃ o7, σ = [some (.ref a), some (.ref p), some (.int room), some (.ref q), some (.ref x), some (.ref y), some (.int (w.bags.length : Nat)), o7] ∧ Same H4 H7) ⟨_, rfl, S6⟩ ?_ ?_
      · rintro i σ H7 hi ⟨o7, rfl, S7⟩
        have hi : i < w.bags.length := hi
        have e0 : (0 : Int) + (i : Int) = ((i : Nat) : Int) := Int.zero_add _
        refine ⟨_, rfl, _, rfl, _, rfl, _, rfl, p, pt, pg, pf, y, dy, wb, wm, wl, q, pb, pp, pc, ts, gs, as', as, tk, gv, fs, w, fs.length, room, i, by rw [e0]; rfl, P.same (S2.trans (S24.trans S7)), o, W.same S7, wo', g, r60, S7 _ _ hq4, S7 _ _ hb4, R4.same S7, hi, fun H8 S8 => ⟨_, rfl, ?_⟩⟩
        exact iteF ⟨_, rfl, S7.trans S8⟩
      · rintro σ H7 ⟨o7, rfl, S7⟩
        exact hQ _
    · intro N hN
      refine ⟨_, rfl, _, _, rfl, rfl, _, rfl, ?_⟩
      refine iteD (fun h => ?_) (fun _ => iteF (hN _ _ ⟨rfl, S5⟩))
      refine ⟨_, rfl, _, rfl, _, _, rfl, rfl, ?_⟩
      dsimp only
      rw [show ((w.bags.length : Nat) : Int) - 1 = ((w.bags.length - 1 : Nat) : Int) by omega]
      refine ⟨x, dx, b, d, t, gg, f, ts', gs', _, w.bags.length - 1, rfl, NI.same (S4.trans S5), ok, by omega, by omega, fun fv3 H6 S6 hfv3 => ?_⟩
      rcases hfv3 with ⟨rfl, _⟩ | ⟨w3, y3, dy3, wb3, wm3, wl3, as3, rfl, e3, _, _⟩
      · refine ⟨rfl, _, rfl, ?_⟩
        exact iteND (fun h => absurd rfl h) (fun _ => hN _ _ ⟨rfl, S5.trans S6⟩)
      · have e3 : roomsF tk gv fs (w.bags.length - 1) = some w3 := e3
        rw [rooms_less (by omega) r1 (by omega) ew] at e3
        cases e3
end
theorem ex_1 {us : List Value} (hl : us.length = 1) : ∃ a0, us = [a0] := match us, hl with | [a0], _ => ⟨_, rfl⟩
theorem ex_2 {us : List Value} (hl : us.length = 2) : ∃ a0 a1, us = [a0, a1] := match us, hl with | [a0, a1], _ => ⟨_, _, rfl⟩
theorem ex_3 {us : List Value} (hl : us.length = 3) : ∃ a0 a1 a2, us = [a0, a1, a2] := match us, hl with | [a0, a1, a2], _ => ⟨_, _, _, rfl⟩
theorem ex_4 {us : List Value} (hl : us.length = 4) : ∃ a0 a1 a2 a3, us = [a0, a1, a2, a3] := match us, hl with | [a0, a1, a2, a3], _ => ⟨_, _, _, _, rfl⟩
theorem ex_5 {us : List Value} (hl : us.length = 5) : ∃ a0 a1 a2 a3 a4, us = [a0, a1, a2, a3, a4] := match us, hl with | [a0, a1, a2, a3, a4], _ => ⟨_, _, _, _, _, rfl⟩
theorem ex_6 {us : List Value} (hl : us.length = 6) : ∃ a0 a1 a2 a3 a4 a5, us = [a0, a1, a2, a3, a4, a5] := match us, hl with | [a0, a1, a2, a3, a4, a5], _ => ⟨_, _, _, _, _, _, rfl⟩
set_option maxHeartbeats 0 in
theorem all_mk {l : PySem.W.OpenLaw} {w : World} {K : PySem.W.Frag} {h : Heap} {mg : Str → Option Value} {fa f_law_cell f_law_num f_law_net f_law_may f_law_behind f_law_rooms f_is_name f_refuse_bad_names f_refuse_bad_bags f_Net_init f_law_made f_Rooms_init f_refuse_unlike f_beneath f_may f_put_room f_NoGo_init f_plus f_less f_gain f_walked f_after f_roomed f_law_roomed f_law_whole f_law_numbers f_law_same f_run_to f_law_leads f_law C_Net C_Rooms C_HallError C_TooWide C_NoGo : Addr} (X : K.In h) (G : h.Ns mainGlobals mg) (hfa : mg "law" = some (.ref fa))
    {od_law_cell an_law_cell : Option Addr} {sl_law_cell : Array (Option Value)} {oc_law_cell kV_law_cell dc_law_cell pm_law_cell cd_law_cell ct_law_cell : Value}
    {od_law_num an_law_num : Option Addr} {sl_law_num : Array (Option Value)} {oc_law_num kV_law_num dc_law_num pm_law_num cd_law_num ct_law_num : Value}
    {od_law_net an_law_net : Option Addr} {sl_law_net : Array (Option Value)} {oc_law_net kV_law_net dc_law_net pm_law_net cd_law_net ct_law_net : Value}
    {od_law_may an_law_may : Option Addr} {sl_law_may : Array (Option Value)} {oc_law_may kV_law_may dc_law_may pm_law_may cd_law_may ct_law_may : Value}
    {od_law_behind an_law_behind : Option Addr} {sl_law_behind : Array (Option Value)} {oc_law_behind kV_law_behind dc_law_behind pm_law_behind cd_law_behind ct_law_behind : Value}
    {od_law_rooms an_law_rooms : Option Addr} {sl_law_rooms : Array (Option Value)} {oc_law_rooms kV_law_rooms dc_law_rooms pm_law_rooms cd_law_rooms ct_law_rooms : Value}
    {od_is_name an_is_name : Option Addr} {sl_is_name : Array (Option Value)} {oc_is_name kV_is_name dc_is_name pm_is_name cd_is_name ct_is_name : Value}
    {od_refuse_bad_names an_refuse_bad_names : Option Addr} {sl_refuse_bad_names : Array (Option Value)} {oc_refuse_bad_names kV_refuse_bad_names dc_refuse_bad_names pm_refuse_bad_names cd_refuse_bad_names ct_refuse_bad_names : Value}
    {od_refuse_bad_bags an_refuse_bad_bags : Option Addr} {sl_refuse_bad_bags : Array (Option Value)} {oc_refuse_bad_bags kV_refuse_bad_bags dc_refuse_bad_bags pm_refuse_bad_bags cd_refuse_bad_bags ct_refuse_bad_bags : Value}
    {od_Net_init an_Net_init : Option Addr} {sl_Net_init : Array (Option Value)} {oc_Net_init kV_Net_init dc_Net_init pm_Net_init cd_Net_init ct_Net_init : Value}
    {od_law_made an_law_made : Option Addr} {sl_law_made : Array (Option Value)} {oc_law_made kV_law_made dc_law_made pm_law_made cd_law_made ct_law_made : Value}
    {od_Rooms_init an_Rooms_init : Option Addr} {sl_Rooms_init : Array (Option Value)} {oc_Rooms_init kV_Rooms_init dc_Rooms_init pm_Rooms_init cd_Rooms_init ct_Rooms_init : Value}
    {od_refuse_unlike an_refuse_unlike : Option Addr} {sl_refuse_unlike : Array (Option Value)} {oc_refuse_unlike kV_refuse_unlike dc_refuse_unlike pm_refuse_unlike cd_refuse_unlike ct_refuse_unlike : Value}
    {od_beneath an_beneath : Option Addr} {sl_beneath : Array (Option Value)} {oc_beneath kV_beneath dc_beneath pm_beneath cd_beneath ct_beneath : Value}
    {od_may an_may : Option Addr} {sl_may : Array (Option Value)} {oc_may kV_may dc_may pm_may cd_may ct_may : Value}
    {od_put_room an_put_room : Option Addr} {sl_put_room : Array (Option Value)} {oc_put_room kV_put_room dc_put_room pm_put_room cd_put_room ct_put_room : Value}
    {od_NoGo_init an_NoGo_init : Option Addr} {sl_NoGo_init : Array (Option Value)} {oc_NoGo_init kV_NoGo_init dc_NoGo_init pm_NoGo_init cd_NoGo_init ct_NoGo_init : Value}
    {od_plus an_plus : Option Addr} {sl_plus : Array (Option Value)} {oc_plus kV_plus dc_plus pm_plus cd_plus ct_plus : Value}
    {od_less an_less : Option Addr} {sl_less : Array (Option Value)} {oc_less kV_less dc_less pm_less cd_less ct_less : Value}
    {od_gain an_gain : Option Addr} {sl_gain : Array (Option Value)} {oc_gain kV_gain dc_gain pm_gain cd_gain ct_gain : Value}
    {od_walked an_walked : Option Addr} {sl_walked : Array (Option Value)} {oc_walked kV_walked dc_walked pm_walked cd_walked ct_walked : Value}
    {od_after an_after : Option Addr} {sl_after : Array (Option Value)} {oc_after kV_after dc_after pm_after cd_after ct_after : Value}
    {od_roomed an_roomed : Option Addr} {sl_roomed : Array (Option Value)} {oc_roomed kV_roomed dc_roomed pm_roomed cd_roomed ct_roomed : Value}
    {od_law_roomed an_law_roomed : Option Addr} {sl_law_roomed : Array (Option Value)} {oc_law_roomed kV_law_roomed dc_law_roomed pm_law_roomed cd_law_roomed ct_law_roomed : Value}
    {od_law_whole an_law_whole : Option Addr} {sl_law_whole : Array (Option Value)} {oc_law_whole kV_law_whole dc_law_whole pm_law_whole cd_law_whole ct_law_whole : Value}
    {od_law_numbers an_law_numbers : Option Addr} {sl_law_numbers : Array (Option Value)} {oc_law_numbers kV_law_numbers dc_law_numbers pm_law_numbers cd_law_numbers ct_law_numbers : Value}
    {od_law_same an_law_same : Option Addr} {sl_law_same : Array (Option Value)} {oc_law_same kV_law_same dc_law_same pm_law_same cd_law_same ct_law_same : Value}
    {od_run_to an_run_to : Option Addr} {sl_run_to : Array (Option Value)} {oc_run_to kV_run_to dc_run_to pm_run_to cd_run_to ct_run_to : Value}
    {od_law_leads an_law_leads : Option Addr} {sl_law_leads : Array (Option Value)} {oc_law_leads kV_law_leads dc_law_leads pm_law_leads cd_law_leads ct_law_leads : Value}
    {od_law an_law : Option Addr} {sl_law : Array (Option Value)} {oc_law kV_law dc_law pm_law cd_law ct_law : Value}
    {t_MOST_SIGNS : Tok}
    {t_MOST_BEADS : Tok}
    {t_LEAST_BOWLS : Tok}
    {t_MOST_BOWLS : Tok}
    {t_MOST_DOORS : Tok}
    (aC_Net : PySem.W.nsIn K mainGlobals "Net" = some (some (.ref C_Net)))
    (aC_Rooms : PySem.W.nsIn K mainGlobals "Rooms" = some (some (.ref C_Rooms)))
    (aC_HallError : PySem.W.nsIn K mainGlobals "HallError" = some (some (.ref C_HallError)))
    (aC_TooWide : PySem.W.nsIn K mainGlobals "TooWide" = some (some (.ref C_TooWide)))
    (aC_NoGo : PySem.W.nsIn K mainGlobals "NoGo" = some (some (.ref C_NoGo)))
    (a_law_cell : PySem.W.nsIn K mainGlobals "_law_cell" = some (some (.ref f_law_cell)))
    (l_law_cell : K.lookup f_law_cell = some ⟨oc_law_cell, od_law_cell, .func (PySem.W.fnOf "_law_cell" "_law_cell" (defArgs s_law_cell) (defBody s_law_cell) (defScope s_law_cell) .none kV_law_cell dc_law_cell pm_law_cell an_law_cell cd_law_cell ct_law_cell), sl_law_cell⟩)
    (c_law_cell : PySem.W.codeIn K cd_law_cell "_law_cell" = true)
    (k_law_cell : PySem.W.keepIn K (.ref f_law_cell) = true)
    (a_law_num : PySem.W.nsIn K mainGlobals "_law_num" = some (some (.ref f_law_num)))
    (l_law_num : K.lookup f_law_num = some ⟨oc_law_num, od_law_num, .func (PySem.W.fnOf "_law_num" "_law_num" (defArgs s_law_num) (defBody s_law_num) (defScope s_law_num) .none kV_law_num dc_law_num pm_law_num an_law_num cd_law_num ct_law_num), sl_law_num⟩)
    (c_law_num : PySem.W.codeIn K cd_law_num "_law_num" = true)
    (k_law_num : PySem.W.keepIn K (.ref f_law_num) = true)
    (a_law_net : PySem.W.nsIn K mainGlobals "_law_net" = some (some (.ref f_law_net)))
    (l_law_net : K.lookup f_law_net = some ⟨oc_law_net, od_law_net, .func (PySem.W.fnOf "_law_net" "_law_net" (defArgs s_law_net) (defBody s_law_net) (defScope s_law_net) .none kV_law_net dc_law_net pm_law_net an_law_net cd_law_net ct_law_net), sl_law_net⟩)
    (c_law_net : PySem.W.codeIn K cd_law_net "_law_net" = true)
    (k_law_net : PySem.W.keepIn K (.ref f_law_net) = true)
    (a_law_may : PySem.W.nsIn K mainGlobals "_law_may" = some (some (.ref f_law_may)))
    (l_law_may : K.lookup f_law_may = some ⟨oc_law_may, od_law_may, .func (PySem.W.fnOf "_law_may" "_law_may" (defArgs s_law_may) (defBody s_law_may) (defScope s_law_may) .none kV_law_may dc_law_may pm_law_may an_law_may cd_law_may ct_law_may), sl_law_may⟩)
    (c_law_may : PySem.W.codeIn K cd_law_may "_law_may" = true)
    (k_law_may : PySem.W.keepIn K (.ref f_law_may) = true)
    (a_law_behind : PySem.W.nsIn K mainGlobals "_law_behind" = some (some (.ref f_law_behind)))
    (l_law_behind : K.lookup f_law_behind = some ⟨oc_law_behind, od_law_behind, .func (PySem.W.fnOf "_law_behind" "_law_behind" (defArgs s_law_behind) (defBody s_law_behind) (defScope s_law_behind) .none kV_law_behind dc_law_behind pm_law_behind an_law_behind cd_law_behind ct_law_behind), sl_law_behind⟩)
    (c_law_behind : PySem.W.codeIn K cd_law_behind "_law_behind" = true)
    (k_law_behind : PySem.W.keepIn K (.ref f_law_behind) = true)
    (a_law_rooms : PySem.W.nsIn K mainGlobals "_law_rooms" = some (some (.ref f_law_rooms)))
    (l_law_rooms : K.lookup f_law_rooms = some ⟨oc_law_rooms, od_law_rooms, .func (PySem.W.fnOf "_law_rooms" "_law_rooms" (defArgs s_law_rooms) (defBody s_law_rooms) (defScope s_law_rooms) .none kV_law_rooms dc_law_rooms pm_law_rooms an_law_rooms cd_law_rooms ct_law_rooms), sl_law_rooms⟩)
    (c_law_rooms : PySem.W.codeIn K cd_law_rooms "_law_rooms" = true)
    (k_law_rooms : PySem.W.keepIn K (.ref f_law_rooms) = true)
    (a_is_name : PySem.W.nsIn K mainGlobals "is_name" = some (some (.ref f_is_name)))
    (l_is_name : K.lookup f_is_name = some ⟨oc_is_name, od_is_name, .func (PySem.W.fnOf "is_name" "is_name" (defArgs s_is_name) (defBody s_is_name) (defScope s_is_name) .none kV_is_name dc_is_name pm_is_name an_is_name cd_is_name ct_is_name), sl_is_name⟩)
    (c_is_name : PySem.W.codeIn K cd_is_name "is_name" = true)
    (k_is_name : PySem.W.keepIn K (.ref f_is_name) = true)
    (a_refuse_bad_names : PySem.W.nsIn K mainGlobals "refuse_bad_names" = some (some (.ref f_refuse_bad_names)))
    (l_refuse_bad_names : K.lookup f_refuse_bad_names = some ⟨oc_refuse_bad_names, od_refuse_bad_names, .func (PySem.W.fnOf "refuse_bad_names" "refuse_bad_names" (defArgs s_refuse_bad_names) (defBody s_refuse_bad_names) (defScope s_refuse_bad_names) .none kV_refuse_bad_names dc_refuse_bad_names pm_refuse_bad_names an_refuse_bad_names cd_refuse_bad_names ct_refuse_bad_names), sl_refuse_bad_names⟩)
    (c_refuse_bad_names : PySem.W.codeIn K cd_refuse_bad_names "refuse_bad_names" = true)
    (k_refuse_bad_names : PySem.W.keepIn K (.ref f_refuse_bad_names) = true)
    (a_refuse_bad_bags : PySem.W.nsIn K mainGlobals "refuse_bad_bags" = some (some (.ref f_refuse_bad_bags)))
    (l_refuse_bad_bags : K.lookup f_refuse_bad_bags = some ⟨oc_refuse_bad_bags, od_refuse_bad_bags, .func (PySem.W.fnOf "refuse_bad_bags" "refuse_bad_bags" (defArgs s_refuse_bad_bags) (defBody s_refuse_bad_bags) (defScope s_refuse_bad_bags) .none kV_refuse_bad_bags dc_refuse_bad_bags pm_refuse_bad_bags an_refuse_bad_bags cd_refuse_bad_bags ct_refuse_bad_bags), sl_refuse_bad_bags⟩)
    (c_refuse_bad_bags : PySem.W.codeIn K cd_refuse_bad_bags "refuse_bad_bags" = true)
    (k_refuse_bad_bags : PySem.W.keepIn K (.ref f_refuse_bad_bags) = true)
    (a_Net_init : PySem.W.findIn K (.ref C_Net) "__init__" = some (some (.ref f_Net_init)))
    (i_Net_init : PySem.W.isFn K (.ref f_Net_init) = true)
    (l_Net_init : K.lookup f_Net_init = some ⟨oc_Net_init, od_Net_init, .func (PySem.W.fnOf "__init__" "Net.__init__" (defArgs s_Net_init) (defBody s_Net_init) (defScope s_Net_init) .none kV_Net_init dc_Net_init pm_Net_init an_Net_init cd_Net_init ct_Net_init), sl_Net_init⟩)
    (c_Net_init : PySem.W.codeIn K cd_Net_init "Net.__init__" = true)
    (k_Net_init : PySem.W.keepIn K (.ref f_Net_init) = true)
    (a_law_made : PySem.W.nsIn K mainGlobals "_law_made" = some (some (.ref f_law_made)))
    (l_law_made : K.lookup f_law_made = some ⟨oc_law_made, od_law_made, .func (PySem.W.fnOf "_law_made" "_law_made" (defArgs s_law_made) (defBody s_law_made) (defScope s_law_made) .none kV_law_made dc_law_made pm_law_made an_law_made cd_law_made ct_law_made), sl_law_made⟩)
    (c_law_made : PySem.W.codeIn K cd_law_made "_law_made" = true)
    (k_law_made : PySem.W.keepIn K (.ref f_law_made) = true)
    (a_Rooms_init : PySem.W.findIn K (.ref C_Rooms) "__init__" = some (some (.ref f_Rooms_init)))
    (i_Rooms_init : PySem.W.isFn K (.ref f_Rooms_init) = true)
    (l_Rooms_init : K.lookup f_Rooms_init = some ⟨oc_Rooms_init, od_Rooms_init, .func (PySem.W.fnOf "__init__" "Rooms.__init__" (defArgs s_Rooms_init) (defBody s_Rooms_init) (defScope s_Rooms_init) .none kV_Rooms_init dc_Rooms_init pm_Rooms_init an_Rooms_init cd_Rooms_init ct_Rooms_init), sl_Rooms_init⟩)
    (c_Rooms_init : PySem.W.codeIn K cd_Rooms_init "Rooms.__init__" = true)
    (k_Rooms_init : PySem.W.keepIn K (.ref f_Rooms_init) = true)
    (a_refuse_unlike : PySem.W.nsIn K mainGlobals "refuse_unlike" = some (some (.ref f_refuse_unlike)))
    (l_refuse_unlike : K.lookup f_refuse_unlike = some ⟨oc_refuse_unlike, od_refuse_unlike, .func (PySem.W.fnOf "refuse_unlike" "refuse_unlike" (defArgs s_refuse_unlike) (defBody s_refuse_unlike) (defScope s_refuse_unlike) .none kV_refuse_unlike dc_refuse_unlike pm_refuse_unlike an_refuse_unlike cd_refuse_unlike ct_refuse_unlike), sl_refuse_unlike⟩)
    (c_refuse_unlike : PySem.W.codeIn K cd_refuse_unlike "refuse_unlike" = true)
    (k_refuse_unlike : PySem.W.keepIn K (.ref f_refuse_unlike) = true)
    (a_beneath : PySem.W.nsIn K mainGlobals "beneath" = some (some (.ref f_beneath)))
    (l_beneath : K.lookup f_beneath = some ⟨oc_beneath, od_beneath, .func (PySem.W.fnOf "beneath" "beneath" (defArgs s_beneath) (defBody s_beneath) (defScope s_beneath) .none kV_beneath dc_beneath pm_beneath an_beneath cd_beneath ct_beneath), sl_beneath⟩)
    (c_beneath : PySem.W.codeIn K cd_beneath "beneath" = true)
    (k_beneath : PySem.W.keepIn K (.ref f_beneath) = true)
    (a_may : PySem.W.nsIn K mainGlobals "may" = some (some (.ref f_may)))
    (l_may : K.lookup f_may = some ⟨oc_may, od_may, .func (PySem.W.fnOf "may" "may" (defArgs s_may) (defBody s_may) (defScope s_may) .none kV_may dc_may pm_may an_may cd_may ct_may), sl_may⟩)
    (c_may : PySem.W.codeIn K cd_may "may" = true)
    (k_may : PySem.W.keepIn K (.ref f_may) = true)
    (a_put_room : PySem.W.nsIn K mainGlobals "put_room" = some (some (.ref f_put_room)))
    (l_put_room : K.lookup f_put_room = some ⟨oc_put_room, od_put_room, .func (PySem.W.fnOf "put_room" "put_room" (defArgs s_put_room) (defBody s_put_room) (defScope s_put_room) .none kV_put_room dc_put_room pm_put_room an_put_room cd_put_room ct_put_room), sl_put_room⟩)
    (c_put_room : PySem.W.codeIn K cd_put_room "put_room" = true)
    (k_put_room : PySem.W.keepIn K (.ref f_put_room) = true)
    (a_NoGo_init : PySem.W.findIn K (.ref C_NoGo) "__init__" = some (some (.ref f_NoGo_init)))
    (i_NoGo_init : PySem.W.isFn K (.ref f_NoGo_init) = true)
    (l_NoGo_init : K.lookup f_NoGo_init = some ⟨oc_NoGo_init, od_NoGo_init, .func (PySem.W.fnOf "__init__" "NoGo.__init__" (defArgs s_NoGo_init) (defBody s_NoGo_init) (defScope s_NoGo_init) .none kV_NoGo_init dc_NoGo_init pm_NoGo_init an_NoGo_init cd_NoGo_init ct_NoGo_init), sl_NoGo_init⟩)
    (c_NoGo_init : PySem.W.codeIn K cd_NoGo_init "NoGo.__init__" = true)
    (k_NoGo_init : PySem.W.keepIn K (.ref f_NoGo_init) = true)
    (a_plus : PySem.W.nsIn K mainGlobals "plus" = some (some (.ref f_plus)))
    (l_plus : K.lookup f_plus = some ⟨oc_plus, od_plus, .func (PySem.W.fnOf "plus" "plus" (defArgs s_plus) (defBody s_plus) (defScope s_plus) .none kV_plus dc_plus pm_plus an_plus cd_plus ct_plus), sl_plus⟩)
    (c_plus : PySem.W.codeIn K cd_plus "plus" = true)
    (k_plus : PySem.W.keepIn K (.ref f_plus) = true)
    (a_less : PySem.W.nsIn K mainGlobals "less" = some (some (.ref f_less)))
    (l_less : K.lookup f_less = some ⟨oc_less, od_less, .func (PySem.W.fnOf "less" "less" (defArgs s_less) (defBody s_less) (defScope s_less) .none kV_less dc_less pm_less an_less cd_less ct_less), sl_less⟩)
    (c_less : PySem.W.codeIn K cd_less "less" = true)
    (k_less : PySem.W.keepIn K (.ref f_less) = true)
    (a_gain : PySem.W.nsIn K mainGlobals "gain" = some (some (.ref f_gain)))
    (l_gain : K.lookup f_gain = some ⟨oc_gain, od_gain, .func (PySem.W.fnOf "gain" "gain" (defArgs s_gain) (defBody s_gain) (defScope s_gain) .none kV_gain dc_gain pm_gain an_gain cd_gain ct_gain), sl_gain⟩)
    (c_gain : PySem.W.codeIn K cd_gain "gain" = true)
    (k_gain : PySem.W.keepIn K (.ref f_gain) = true)
    (a_walked : PySem.W.nsIn K mainGlobals "walked" = some (some (.ref f_walked)))
    (l_walked : K.lookup f_walked = some ⟨oc_walked, od_walked, .func (PySem.W.fnOf "walked" "walked" (defArgs s_walked) (defBody s_walked) (defScope s_walked) .none kV_walked dc_walked pm_walked an_walked cd_walked ct_walked), sl_walked⟩)
    (c_walked : PySem.W.codeIn K cd_walked "walked" = true)
    (k_walked : PySem.W.keepIn K (.ref f_walked) = true)
    (a_after : PySem.W.nsIn K mainGlobals "after" = some (some (.ref f_after)))
    (l_after : K.lookup f_after = some ⟨oc_after, od_after, .func (PySem.W.fnOf "after" "after" (defArgs s_after) (defBody s_after) (defScope s_after) .none kV_after dc_after pm_after an_after cd_after ct_after), sl_after⟩)
    (c_after : PySem.W.codeIn K cd_after "after" = true)
    (k_after : PySem.W.keepIn K (.ref f_after) = true)
    (a_roomed : PySem.W.nsIn K mainGlobals "roomed" = some (some (.ref f_roomed)))
    (l_roomed : K.lookup f_roomed = some ⟨oc_roomed, od_roomed, .func (PySem.W.fnOf "roomed" "roomed" (defArgs s_roomed) (defBody s_roomed) (defScope s_roomed) .none kV_roomed dc_roomed pm_roomed an_roomed cd_roomed ct_roomed), sl_roomed⟩)
    (c_roomed : PySem.W.codeIn K cd_roomed "roomed" = true)
    (k_roomed : PySem.W.keepIn K (.ref f_roomed) = true)
    (a_law_roomed : PySem.W.nsIn K mainGlobals "_law_roomed" = some (some (.ref f_law_roomed)))
    (l_law_roomed : K.lookup f_law_roomed = some ⟨oc_law_roomed, od_law_roomed, .func (PySem.W.fnOf "_law_roomed" "_law_roomed" (defArgs s_law_roomed) (defBody s_law_roomed) (defScope s_law_roomed) .none kV_law_roomed dc_law_roomed pm_law_roomed an_law_roomed cd_law_roomed ct_law_roomed), sl_law_roomed⟩)
    (c_law_roomed : PySem.W.codeIn K cd_law_roomed "_law_roomed" = true)
    (k_law_roomed : PySem.W.keepIn K (.ref f_law_roomed) = true)
    (a_law_whole : PySem.W.nsIn K mainGlobals "_law_whole" = some (some (.ref f_law_whole)))
    (l_law_whole : K.lookup f_law_whole = some ⟨oc_law_whole, od_law_whole, .func (PySem.W.fnOf "_law_whole" "_law_whole" (defArgs s_law_whole) (defBody s_law_whole) (defScope s_law_whole) .none kV_law_whole dc_law_whole pm_law_whole an_law_whole cd_law_whole ct_law_whole), sl_law_whole⟩)
    (c_law_whole : PySem.W.codeIn K cd_law_whole "_law_whole" = true)
    (k_law_whole : PySem.W.keepIn K (.ref f_law_whole) = true)
    (a_law_numbers : PySem.W.nsIn K mainGlobals "_law_numbers" = some (some (.ref f_law_numbers)))
    (l_law_numbers : K.lookup f_law_numbers = some ⟨oc_law_numbers, od_law_numbers, .func (PySem.W.fnOf "_law_numbers" "_law_numbers" (defArgs s_law_numbers) (defBody s_law_numbers) (defScope s_law_numbers) .none kV_law_numbers dc_law_numbers pm_law_numbers an_law_numbers cd_law_numbers ct_law_numbers), sl_law_numbers⟩)
    (c_law_numbers : PySem.W.codeIn K cd_law_numbers "_law_numbers" = true)
    (k_law_numbers : PySem.W.keepIn K (.ref f_law_numbers) = true)
    (a_law_same : PySem.W.nsIn K mainGlobals "_law_same" = some (some (.ref f_law_same)))
    (l_law_same : K.lookup f_law_same = some ⟨oc_law_same, od_law_same, .func (PySem.W.fnOf "_law_same" "_law_same" (defArgs s_law_same) (defBody s_law_same) (defScope s_law_same) .none kV_law_same dc_law_same pm_law_same an_law_same cd_law_same ct_law_same), sl_law_same⟩)
    (c_law_same : PySem.W.codeIn K cd_law_same "_law_same" = true)
    (k_law_same : PySem.W.keepIn K (.ref f_law_same) = true)
    (a_run_to : PySem.W.nsIn K mainGlobals "run_to" = some (some (.ref f_run_to)))
    (l_run_to : K.lookup f_run_to = some ⟨oc_run_to, od_run_to, .func (PySem.W.fnOf "run_to" "run_to" (defArgs s_run_to) (defBody s_run_to) (defScope s_run_to) .none kV_run_to dc_run_to pm_run_to an_run_to cd_run_to ct_run_to), sl_run_to⟩)
    (c_run_to : PySem.W.codeIn K cd_run_to "run_to" = true)
    (k_run_to : PySem.W.keepIn K (.ref f_run_to) = true)
    (a_law_leads : PySem.W.nsIn K mainGlobals "_law_leads" = some (some (.ref f_law_leads)))
    (l_law_leads : K.lookup f_law_leads = some ⟨oc_law_leads, od_law_leads, .func (PySem.W.fnOf "_law_leads" "_law_leads" (defArgs s_law_leads) (defBody s_law_leads) (defScope s_law_leads) .none kV_law_leads dc_law_leads pm_law_leads an_law_leads cd_law_leads ct_law_leads), sl_law_leads⟩)
    (c_law_leads : PySem.W.codeIn K cd_law_leads "_law_leads" = true)
    (k_law_leads : PySem.W.keepIn K (.ref f_law_leads) = true)
    (a_law : PySem.W.nsIn K mainGlobals "law" = some (some (.ref f_law)))
    (l_law : K.lookup f_law = some ⟨oc_law, od_law, .func (PySem.W.fnOf "law" "law" (defArgs s_law) (defBody s_law) (defScope s_law) .none kV_law dc_law pm_law an_law cd_law ct_law), sl_law⟩)
    (c_law : PySem.W.codeIn K cd_law "law" = true)
    (k_law : PySem.W.keepIn K (.ref f_law) = true)
    (pg_Net : PySem.W.plainGet K C_Net Str.empty = true)
    (hd_Net : PySem.W.hasDictIn K C_Net = true)
    (po_Net : PySem.W.plainOver K C_Net = true)
    (sa_Net : PySem.W.findIn K (.ref C_Net) "__setattr__" = some (some (.builtin "object.__setattr__")))
    (mk_Net : PySem.W.makesIn K C_Net = true)
    (kc_Net : PySem.W.keepIn K (.ref C_Net) = true)
    (n_Net_bowls : PySem.W.findIn K (.ref C_Net) "bowls" = some none)
    (n_Net_doors : PySem.W.findIn K (.ref C_Net) "doors" = some none)
    (n_Net_takes : PySem.W.findIn K (.ref C_Net) "takes" = some none)
    (n_Net_gives : PySem.W.findIn K (.ref C_Net) "gives" = some none)
    (n_Net_first : PySem.W.findIn K (.ref C_Net) "first" = some none)
    (pg_Rooms : PySem.W.plainGet K C_Rooms Str.empty = true)
    (hd_Rooms : PySem.W.hasDictIn K C_Rooms = true)
    (po_Rooms : PySem.W.plainOver K C_Rooms = true)
    (sa_Rooms : PySem.W.findIn K (.ref C_Rooms) "__setattr__" = some (some (.builtin "object.__setattr__")))
    (mk_Rooms : PySem.W.makesIn K C_Rooms = true)
    (kc_Rooms : PySem.W.keepIn K (.ref C_Rooms) = true)
    (n_Rooms_bags : PySem.W.findIn K (.ref C_Rooms) "bags" = some none)
    (n_Rooms_parents : PySem.W.findIn K (.ref C_Rooms) "parents" = some none)
    (n_Rooms_comers : PySem.W.findIn K (.ref C_Rooms) "comers" = some none)
    (ec_HallError : ecIn K C_HallError excMro = true)
    (xp_HallError : ((PySem.W.clsIn K C_HallError).map (·.ns)).bind (fun N => PySem.W.nsIn K N "__init__") = some none)
    (ec_TooWide : ecIn K C_TooWide (.ref C_HallError :: excMro) = true)
    (xp_TooWide : ((PySem.W.clsIn K C_TooWide).map (·.ns)).bind (fun N => PySem.W.nsIn K N "__init__") = some none)
    (ec_NoGo : ecIn K C_NoGo (.ref C_HallError :: excMro) = true)
    (xsa_NoGo : PySem.W.findIn K (.ref C_NoGo) "__setattr__" = some (some (.builtin "object.__setattr__")))
    (xhd_NoGo : PySem.W.hasDictIn K C_NoGo = true)
    (kc_NoGo : PySem.W.keepIn K (.ref C_NoGo) = true)
    (xt_at_NoGo : PySem.W.findIn K (.ref C_NoGo) "at" = some none)
    (xbg : PySem.W.specialIn K (.ref C_HallError) "__getattribute__" = some (some (.builtin "type.__getattribute__")))
    (xbr : PySem.W.readsIn K C_HallError (.type "type") = true)
    (xbf : PySem.W.findCls K (.ref C_HallError) (.type "type") "__init__" = some (.val (.builtin "ValueError.__init__")))
    (g_MOST_SIGNS : PySem.W.nsIn K mainGlobals "MOST_SIGNS" = some (some (.int 8 t_MOST_SIGNS)))
    (g_MOST_BEADS : PySem.W.nsIn K mainGlobals "MOST_BEADS" = some (some (.int 1000000000 t_MOST_BEADS)))
    (g_LEAST_BOWLS : PySem.W.nsIn K mainGlobals "LEAST_BOWLS" = some (some (.int 1 t_LEAST_BOWLS)))
    (g_MOST_BOWLS : PySem.W.nsIn K mainGlobals "MOST_BOWLS" = some (some (.int 6 t_MOST_BOWLS)))
    (g_MOST_DOORS : PySem.W.nsIn K mainGlobals "MOST_DOORS" = some (some (.int 8 t_MOST_DOORS)))
    (z_len : PySem.W.nsIn K mainGlobals "len" = some none)
    (z_range : PySem.W.nsIn K mainGlobals "range" = some none)
    (z_list : PySem.W.nsIn K mainGlobals "list" = some none)
    (z_all : PySem.W.nsIn K mainGlobals "all" = some none)
    (z_set : PySem.W.nsIn K mainGlobals "set" = some none)
    (z_zip : PySem.W.nsIn K mainGlobals "zip" = some none)
    (z_enumerate : PySem.W.nsIn K mainGlobals "enumerate" = some none)
    (z_isinstance : PySem.W.nsIn K mainGlobals "isinstance" = some none)
    (z_int : PySem.W.nsIn K mainGlobals "int" = some none)
    (z_bool : PySem.W.nsIn K mainGlobals "bool" = some none)
    (z_reversed : PySem.W.nsIn K mainGlobals "reversed" = some none)
    : ∃ fd : FuncData, (∀ (s : Shared) (v : Value), BindsTo s fd ⟨[v], []⟩ [("script", v)]) ∧ ∀ base : Heap, K.In base → base.Ns mainGlobals mg → FnOk l.prog w K mg base CX0 10 fa fd ["script"] (sp_law K) := by
  have e := hfa.symm.trans (PySem.W.mg_of X G a_law)
  cases e
  have F_law_cell := fun_mk (st := s_law_cell) l_law_cell c_law_cell k_law_cell
  have b_law_cell := F_law_cell.binds (ps := ["script", "k"]) fun _ _ _ _ _ _ us hl => by obtain ⟨_, _, rfl⟩ := ex_2 hl; rfl
  have F_law_num := fun_mk (st := s_law_num) l_law_num c_law_num k_law_num
  have b_law_num := F_law_num.binds (ps := ["script", "k"]) fun _ _ _ _ _ _ us hl => by obtain ⟨_, _, rfl⟩ := ex_2 hl; rfl
  have F_law_net := fun_mk (st := s_law_net) l_law_net c_law_net k_law_net
  have b_law_net := F_law_net.binds (ps := ["script"]) fun _ _ _ _ _ _ us hl => by obtain ⟨_, rfl⟩ := ex_1 hl; rfl
  have F_law_may := fun_mk (st := s_law_may) l_law_may c_law_may k_law_may
  have b_law_may := F_law_may.binds (ps := ["plan", "beads", "door"]) fun _ _ _ _ _ _ us hl => by obtain ⟨_, _, _, rfl⟩ := ex_3 hl; rfl
  have F_law_behind := fun_mk (st := s_law_behind) l_law_behind c_law_behind k_law_behind
  have b_law_behind := F_law_behind.binds (ps := ["plan", "beads", "door"]) fun _ _ _ _ _ _ us hl => by obtain ⟨_, _, _, rfl⟩ := ex_3 hl; rfl
  have F_law_rooms := fun_mk (st := s_law_rooms) l_law_rooms c_law_rooms k_law_rooms
  have b_law_rooms := F_law_rooms.binds (ps := ["plan", "room"]) fun _ _ _ _ _ _ us hl => by obtain ⟨_, _, rfl⟩ := ex_2 hl; rfl
  have F_is_name := fun_mk (st := s_is_name) l_is_name c_is_name k_is_name
  have b_is_name := F_is_name.binds (ps := ["word"]) fun _ _ _ _ _ _ us hl => by obtain ⟨_, rfl⟩ := ex_1 hl; rfl
  have F_refuse_bad_names := fun_mk (st := s_refuse_bad_names) l_refuse_bad_names c_refuse_bad_names k_refuse_bad_names
  have b_refuse_bad_names := F_refuse_bad_names.binds (ps := ["names", "least", "most"]) fun _ _ _ _ _ _ us hl => by obtain ⟨_, _, _, rfl⟩ := ex_3 hl; rfl
  have F_refuse_bad_bags := fun_mk (st := s_refuse_bad_bags) l_refuse_bad_bags c_refuse_bad_bags k_refuse_bad_bags
  have b_refuse_bad_bags := F_refuse_bad_bags.binds (ps := ["bags", "many", "width"]) fun _ _ _ _ _ _ us hl => by obtain ⟨_, _, _, rfl⟩ := ex_3 hl; rfl
  have F_Net_init := fun_mk (st := s_Net_init) l_Net_init c_Net_init k_Net_init
  have b_Net_init := F_Net_init.binds (ps := ["self", "bowls", "doors", "takes", "gives", "first"]) fun _ _ _ _ _ _ us hl => by obtain ⟨_, _, _, _, _, _, rfl⟩ := ex_6 hl; rfl
  have F_law_made := fun_mk (st := s_law_made) l_law_made c_law_made k_law_made
  have b_law_made := F_law_made.binds (ps := ["plan"]) fun _ _ _ _ _ _ us hl => by obtain ⟨_, rfl⟩ := ex_1 hl; rfl
  have F_Rooms_init := fun_mk (st := s_Rooms_init) l_Rooms_init c_Rooms_init k_Rooms_init
  have b_Rooms_init := F_Rooms_init.binds (ps := ["self", "first"]) fun _ _ _ _ _ _ us hl => by obtain ⟨_, _, rfl⟩ := ex_2 hl; rfl
  have F_refuse_unlike := fun_mk (st := s_refuse_unlike) l_refuse_unlike c_refuse_unlike k_refuse_unlike
  have b_refuse_unlike := F_refuse_unlike.binds (ps := ["ones", "others"]) fun _ _ _ _ _ _ us hl => by obtain ⟨_, _, rfl⟩ := ex_2 hl; rfl
  have F_beneath := fun_mk (st := s_beneath) l_beneath c_beneath k_beneath
  have b_beneath := F_beneath.binds (ps := ["ones", "others"]) fun _ _ _ _ _ _ us hl => by obtain ⟨_, _, rfl⟩ := ex_2 hl; rfl
  have F_may := fun_mk (st := s_may) l_may c_may k_may
  have b_may := F_may.binds (ps := ["net", "beads", "door"]) fun _ _ _ _ _ _ us hl => by obtain ⟨_, _, _, rfl⟩ := ex_3 hl; rfl
  have F_put_room := fun_mk (st := s_put_room) l_put_room c_put_room k_put_room
  have b_put_room := F_put_room.binds (ps := ["found", "parent", "door", "beads", "room"]) fun _ _ _ _ _ _ us hl => by obtain ⟨_, _, _, _, _, rfl⟩ := ex_5 hl; rfl
  have F_NoGo_init := fun_mk (st := s_NoGo_init) l_NoGo_init c_NoGo_init k_NoGo_init
  have b_NoGo_init := F_NoGo_init.binds (ps := ["self", "words", "at"]) fun _ _ _ _ _ _ us hl => by obtain ⟨_, _, _, rfl⟩ := ex_3 hl; rfl
  have F_plus := fun_mk (st := s_plus) l_plus c_plus k_plus
  have b_plus := F_plus.binds (ps := ["ones", "others"]) fun _ _ _ _ _ _ us hl => by obtain ⟨_, _, rfl⟩ := ex_2 hl; rfl
  have F_less := fun_mk (st := s_less) l_less c_less k_less
  have b_less := F_less.binds (ps := ["ones", "others"]) fun _ _ _ _ _ _ us hl => by obtain ⟨_, _, rfl⟩ := ex_2 hl; rfl
  have F_gain := fun_mk (st := s_gain) l_gain c_gain k_gain
  have b_gain := F_gain.binds (ps := ["net", "door"]) fun _ _ _ _ _ _ us hl => by obtain ⟨_, _, rfl⟩ := ex_2 hl; rfl
  have F_walked := fun_mk (st := s_walked) l_walked c_walked k_walked
  have b_walked := F_walked.binds (ps := ["net", "beads", "doors"]) fun _ _ _ _ _ _ us hl => by obtain ⟨_, _, _, rfl⟩ := ex_3 hl; rfl
  have F_after := fun_mk (st := s_after) l_after c_after k_after
  have b_after := F_after.binds (ps := ["net", "beads", "door"]) fun _ _ _ _ _ _ us hl => by obtain ⟨_, _, _, rfl⟩ := ex_3 hl; rfl
  have F_roomed := fun_mk (st := s_roomed) l_roomed c_roomed k_roomed
  have b_roomed := F_roomed.binds (ps := ["net", "room"]) fun _ _ _ _ _ _ us hl => by obtain ⟨_, _, rfl⟩ := ex_2 hl; rfl
  have F_law_roomed := fun_mk (st := s_law_roomed) l_law_roomed c_law_roomed k_law_roomed
  have b_law_roomed := F_law_roomed.binds (ps := ["net", "room"]) fun _ _ _ _ _ _ us hl => by obtain ⟨_, _, rfl⟩ := ex_2 hl; rfl
  have F_law_whole := fun_mk (st := s_law_whole) l_law_whole c_law_whole k_law_whole
  have b_law_whole := F_law_whole.binds (ps := ["found"]) fun _ _ _ _ _ _ us hl => by obtain ⟨_, rfl⟩ := ex_1 hl; rfl
  have F_law_numbers := fun_mk (st := s_law_numbers) l_law_numbers c_law_numbers k_law_numbers
  have b_law_numbers := F_law_numbers.binds (ps := ["found", "due"]) fun _ _ _ _ _ _ us hl => by obtain ⟨_, _, rfl⟩ := ex_2 hl; rfl
  have F_law_same := fun_mk (st := s_law_same) l_law_same c_law_same k_law_same
  have b_law_same := F_law_same.binds (ps := ["found", "due"]) fun _ _ _ _ _ _ us hl => by obtain ⟨_, _, rfl⟩ := ex_2 hl; rfl
  have F_run_to := fun_mk (st := s_run_to) l_run_to c_run_to k_run_to
  have b_run_to := F_run_to.binds (ps := ["found", "number"]) fun _ _ _ _ _ _ us hl => by obtain ⟨_, _, rfl⟩ := ex_2 hl; rfl
  have F_law_leads := fun_mk (st := s_law_leads) l_law_leads c_law_leads k_law_leads
  have b_law_leads := F_law_leads.binds (ps := ["plan", "found", "at", "due"]) fun _ _ _ _ _ _ us hl => by obtain ⟨_, _, _, _, rfl⟩ := ex_4 hl; rfl
  have F_law := fun_mk (st := s_law) l_law c_law k_law
  have b_law := F_law.binds (ps := ["script"]) fun _ _ _ _ _ _ us hl => by obtain ⟨_, rfl⟩ := ex_1 hl; rfl
  have T : Txt K mg (Adr.mk _ _ _ _ _ _ _ _ _ _ _ _ _ _ _ _ _ _ _ _ _ _ _ _ _ _ _ _ _ _ _ _ _ _ _) (Fds.mk _ _ _ _ _ _ _ _ _ _ _ _ _ _ _ _ _ _ _ _ _ _ _ _ _ _ _ _ _ _) := ⟨F_law_cell, PySem.W.mg_of X G a_law_cell, b_law_cell, F_law_num, PySem.W.mg_of X G a_law_num, b_law_num, F_law_net, PySem.W.mg_of X G a_law_net, b_law_net, F_law_may, PySem.W.mg_of X G a_law_may, b_law_may, F_law_behind, PySem.W.mg_of X G a_law_behind, b_law_behind, F_law_rooms, PySem.W.mg_of X G a_law_rooms, b_law_rooms, F_is_name, PySem.W.mg_of X G a_is_name, b_is_name, F_refuse_bad_names, PySem.W.mg_of X G a_refuse_bad_names, b_refuse_bad_names, F_refuse_bad_bags, PySem.W.mg_of X G a_refuse_bad_bags, b_refuse_bad_bags, F_Net_init, b_Net_init, F_law_made, PySem.W.mg_of X G a_law_made, b_law_made, F_Rooms_init, b_Rooms_init, F_refuse_unlike, PySem.W.mg_of X G a_refuse_unlike, b_refuse_unlike, F_beneath, PySem.W.mg_of X G a_beneath, b_beneath, F_may, PySem.W.mg_of X G a_may, b_may, F_put_room, PySem.W.mg_of X G a_put_room, b_put_room, F_NoGo_init, b_NoGo_init, F_plus, PySem.W.mg_of X G a_plus, b_plus, F_less, PySem.W.mg_of X G a_less, b_less, F_gain, PySem.W.mg_of X G a_gain, b_gain, F_walked, PySem.W.mg_of X G a_walked, b_walked, F_after, PySem.W.mg_of X G a_after, b_after, F_roomed, PySem.W.mg_of X G a_roomed, b_roomed, F_law_roomed, PySem.W.mg_of X G a_law_roomed, b_law_roomed, F_law_whole, PySem.W.mg_of X G a_law_whole, b_law_whole, F_law_numbers, PySem.W.mg_of X G a_law_numbers, b_law_numbers, F_law_same, PySem.W.mg_of X G a_law_same, b_law_same, F_run_to, PySem.W.mg_of X G a_run_to, b_run_to, F_law_leads, PySem.W.mg_of X G a_law_leads, b_law_leads, F_law, PySem.W.mg_of X G a_law, b_law, PySem.W.mg_none_of X G z_len, PySem.W.mg_none_of X G z_range, PySem.W.mg_none_of X G z_list, PySem.W.mg_none_of X G z_all, PySem.W.mg_none_of X G z_set, PySem.W.mg_none_of X G z_zip, PySem.W.mg_none_of X G z_enumerate, PySem.W.mg_none_of X G z_isinstance, PySem.W.mg_none_of X G z_int, PySem.W.mg_none_of X G z_bool, PySem.W.mg_none_of X G z_reversed, ⟨pg_Net, hd_Net, po_Net, sa_Net⟩, PySem.W.mg_of X G aC_Net, ⟨mk_Net, a_Net_init, i_Net_init, kc_Net⟩, n_Net_bowls, n_Net_doors, n_Net_takes, n_Net_gives, n_Net_first, ⟨pg_Rooms, hd_Rooms, po_Rooms, sa_Rooms⟩, PySem.W.mg_of X G aC_Rooms, ⟨mk_Rooms, a_Rooms_init, i_Rooms_init, kc_Rooms⟩, n_Rooms_bags, n_Rooms_parents, n_Rooms_comers, PySem.W.mg_of X G aC_HallError, ec_HallError, ⟨ec_HallError, xp_HallError⟩, PySem.W.mg_of X G aC_TooWide, ec_TooWide, ⟨ec_TooWide, xp_TooWide⟩, PySem.W.mg_of X G aC_NoGo, ec_NoGo, ⟨xsa_NoGo, xhd_NoGo⟩, ⟨ec_NoGo, a_NoGo_init, i_NoGo_init, kc_NoGo⟩, xt_at_NoGo, ⟨xbg, xbr, xbf⟩, ⟨_, PySem.W.mg_of X G g_MOST_SIGNS⟩, ⟨_, PySem.W.mg_of X G g_MOST_BEADS⟩, ⟨_, PySem.W.mg_of X G g_LEAST_BOWLS⟩, ⟨_, PySem.W.mg_of X G g_MOST_BOWLS⟩, ⟨_, PySem.W.mg_of X G g_MOST_DOORS⟩⟩
  exact ⟨PySem.W.fnOf "law" "law" (defArgs s_law) (defBody s_law) (defScope s_law) .none kV_law dc_law pm_law an_law cd_law ct_law, fun s v => .of_eq rfl, fun base _ _ => ok_law T⟩
theorem walk {l : PySem.W.OpenLaw} {q : Program} {loose : List Str} {XP : (Str → Option Value) → Heap → Prop} {YP : World → Heap → Prop} {d : DefRec} {K : Params → PySem.W.Frag} (hn : l.most = some 63) (hdf : d.params.defaults = [])
    (hY : ∀ (w : World) (h : Heap), YP w h → (K w.params).In h)
    (F : ∀ (w : World) (mg : Str → Option Value) (fa : Addr) (h : Heap), (K w.params).In h → h.Ns mainGlobals mg → mg d.name = some (.ref fa) →
      ∃ fd : FuncData, (∀ (s : Shared) (u : Value), BindsTo s fd ⟨[u], []⟩ [("script", u)]) ∧ ∀ base : Heap, (K w.params).In base → base.Ns mainGlobals mg → FnOk l.prog w (K w.params) mg base CX0 10 fa fd ["script"] (sp_law (K w.params))) :
    PySem.W.WalkO q loose XP YP l.row.toRowW d [] (fun f vs => PySem.call f vs) :=
  L2.walk_of (n := 63) (k := 10) (x := "script") (CX := fun _ => CX0) (sp := fun w => sp_law (K w.params)) hn (by decide) hdf ⟨rfl, by decide, by decide⟩ hY F (fun _ _ a ns hl _ hS => ⟨a, ns, rfl, hS, hl, fun _ => rfl⟩) fun _ _ _ _ _ z => z
end Law
open PySem PySem.W PyProof.Rows
set_option maxRecDepth 100000 in
set_option maxHeartbeats 0 in
theorem PySem.Challenge.cw_beadhall_k90_rooms_holds : PySem.Challenge.rw_beadhall_k90_rooms.Holds := by
  w_on; o_law; k_head; (case hw => w_witness2)
  k_fill
  refine Law.walk (l := PySem.Challenge.rw_beadhall_k90_rooms) rfl rfl (fun w h Y => PySem.W.kIn_of Y) ?F
  case F =>
    intro w mg fa h KX G hmg
    refine' Law.all_mk KX G hmg ?aC_Net ?aC_Rooms ?aC_HallError ?aC_TooWide ?aC_NoGo ?a_law_cell ?l_law_cell ?c_law_cell ?k_law_cell ?a_law_num ?l_law_num ?c_law_num ?k_law_num ?a_law_net ?l_law_net ?c_law_net ?k_law_net ?a_law_may ?l_law_may ?c_law_may ?k_law_may ?a_law_behind ?l_law_behind ?c_law_behind ?k_law_behind ?a_law_rooms ?l_law_rooms ?c_law_rooms ?k_law_rooms ?a_is_name ?l_is_name ?c_is_name ?k_is_name ?a_refuse_bad_names ?l_refuse_bad_names ?c_refuse_bad_names ?k_refuse_bad_names ?a_refuse_bad_bags ?l_refuse_bad_bags ?c_refuse_bad_bags ?k_refuse_bad_bags ?a_Net_init ?i_Net_init ?l_Net_init ?c_Net_init ?k_Net_init ?a_law_made ?l_law_made ?c_law_made ?k_law_made ?a_Rooms_init ?i_Rooms_init ?l_Rooms_init ?c_Rooms_init ?k_Rooms_init ?a_refuse_unlike ?l_refuse_unlike ?c_refuse_unlike ?k_refuse_unlike ?a_beneath ?l_beneath ?c_beneath ?k_beneath ?a_may ?l_may ?c_may ?k_may ?a_put_room ?l_put_room ?c_put_room ?k_put_room ?a_NoGo_init ?i_NoGo_init ?l_NoGo_init ?c_NoGo_init ?k_NoGo_init ?a_plus ?l_plus ?c_plus ?k_plus ?a_less ?l_less ?c_less ?k_less ?a_gain ?l_gain ?c_gain ?k_gain ?a_walked ?l_walked ?c_walked ?k_walked ?a_after ?l_after ?c_after ?k_after ?a_roomed ?l_roomed ?c_roomed ?k_roomed ?a_law_roomed ?l_law_roomed ?c_law_roomed ?k_law_roomed ?a_law_whole ?l_law_whole ?c_law_whole ?k_law_whole ?a_law_numbers ?l_law_numbers ?c_law_numbers ?k_law_numbers ?a_law_same ?l_law_same ?c_law_same ?k_law_same ?a_run_to ?l_run_to ?c_run_to ?k_run_to ?a_law_leads ?l_law_leads ?c_law_leads ?k_law_leads ?a_law ?l_law ?c_law ?k_law ?pg_Net ?hd_Net ?po_Net ?sa_Net ?mk_Net ?kc_Net ?n_Net_bowls ?n_Net_doors ?n_Net_takes ?n_Net_gives ?n_Net_first ?pg_Rooms ?hd_Rooms ?po_Rooms ?sa_Rooms ?mk_Rooms ?kc_Rooms ?n_Rooms_bags ?n_Rooms_parents ?n_Rooms_comers ?ec_HallError ?xp_HallError ?ec_TooWide ?xp_TooWide ?ec_NoGo ?xsa_NoGo ?xhd_NoGo ?kc_NoGo ?xt_at_NoGo ?xbg ?xbr ?xbf ?g_MOST_SIGNS ?g_MOST_BEADS ?g_LEAST_BOWLS ?g_MOST_BOWLS ?g_MOST_DOORS ?z_len ?z_range ?z_list ?z_all ?z_set ?z_zip ?z_enumerate ?z_isinstance ?z_int ?z_bool ?z_reversed
    (case aC_Net => k_is)
    (case aC_Rooms => k_is)
    (case aC_HallError => k_is)
    (case aC_TooWide => k_is)
    (case aC_NoGo => k_is)
    (case a_law_cell => k_is)
    (case l_law_cell => k_is)
    (case c_law_cell => k_is)
    (case k_law_cell => k_is)
    (case a_law_num => k_is)
    (case l_law_num => k_is)
    (case c_law_num => k_is)
    (case k_law_num => k_is)
    (case a_law_net => k_is)
    (case l_law_net => k_is)
    (case c_law_net => k_is)
    (case k_law_net => k_is)
    (case a_law_may => k_is)
    (case l_law_may => k_is)
    (case c_law_may => k_is)
    (case k_law_may => k_is)
    (case a_law_behind => k_is)
    (case l_law_behind => k_is)
    (case c_law_behind => k_is)
    (case k_law_behind => k_is)
    (case a_law_rooms => k_is)
    (case l_law_rooms => k_is)
    (case c_law_rooms => k_is)
    (case k_law_rooms => k_is)
    (case a_is_name => k_is)
    (case l_is_name => k_is)
    (case c_is_name => k_is)
    (case k_is_name => k_is)
    (case a_refuse_bad_names => k_is)
    (case l_refuse_bad_names => k_is)
    (case c_refuse_bad_names => k_is)
    (case k_refuse_bad_names => k_is)
    (case a_refuse_bad_bags => k_is)
    (case l_refuse_bad_bags => k_is)
    (case c_refuse_bad_bags => k_is)
    (case k_refuse_bad_bags => k_is)
    (case a_Net_init => k_is)
    (case i_Net_init => k_is)
    (case l_Net_init => k_is)
    (case c_Net_init => k_is)
    (case k_Net_init => k_is)
    (case a_law_made => k_is)
    (case l_law_made => k_is)
    (case c_law_made => k_is)
    (case k_law_made => k_is)
    (case a_Rooms_init => k_is)
    (case i_Rooms_init => k_is)
    (case l_Rooms_init => k_is)
    (case c_Rooms_init => k_is)
    (case k_Rooms_init => k_is)
    (case a_refuse_unlike => k_is)
    (case l_refuse_unlike => k_is)
    (case c_refuse_unlike => k_is)
    (case k_refuse_unlike => k_is)
    (case a_beneath => k_is)
    (case l_beneath => k_is)
    (case c_beneath => k_is)
    (case k_beneath => k_is)
    (case a_may => k_is)
    (case l_may => k_is)
    (case c_may => k_is)
    (case k_may => k_is)
    (case a_put_room => k_is)
    (case l_put_room => k_is)
    (case c_put_room => k_is)
    (case k_put_room => k_is)
    (case a_NoGo_init => k_is)
    (case i_NoGo_init => k_is)
    (case l_NoGo_init => k_is)
    (case c_NoGo_init => k_is)
    (case k_NoGo_init => k_is)
    (case a_plus => k_is)
    (case l_plus => k_is)
    (case c_plus => k_is)
    (case k_plus => k_is)
    (case a_less => k_is)
    (case l_less => k_is)
    (case c_less => k_is)
    (case k_less => k_is)
    (case a_gain => k_is)
    (case l_gain => k_is)
    (case c_gain => k_is)
    (case k_gain => k_is)
    (case a_walked => k_is)
    (case l_walked => k_is)
    (case c_walked => k_is)
    (case k_walked => k_is)
    (case a_after => k_is)
    (case l_after => k_is)
    (case c_after => k_is)
    (case k_after => k_is)
    (case a_roomed => k_is)
    (case l_roomed => k_is)
    (case c_roomed => k_is)
    (case k_roomed => k_is)
    (case a_law_roomed => k_is)
    (case l_law_roomed => k_is)
    (case c_law_roomed => k_is)
    (case k_law_roomed => k_is)
    (case a_law_whole => k_is)
    (case l_law_whole => k_is)
    (case c_law_whole => k_is)
    (case k_law_whole => k_is)
    (case a_law_numbers => k_is)
    (case l_law_numbers => k_is)
    (case c_law_numbers => k_is)
    (case k_law_numbers => k_is)
    (case a_law_same => k_is)
    (case l_law_same => k_is)
    (case c_law_same => k_is)
    (case k_law_same => k_is)
    (case a_run_to => k_is)
    (case l_run_to => k_is)
    (case c_run_to => k_is)
    (case k_run_to => k_is)
    (case a_law_leads => k_is)
    (case l_law_leads => k_is)
    (case c_law_leads => k_is)
    (case k_law_leads => k_is)
    (case a_law => k_is)
    (case l_law => k_is)
    (case c_law => k_is)
    (case k_law => k_is)
    (case pg_Net => k_is)
    (case hd_Net => k_is)
    (case po_Net => k_is)
    (case sa_Net => k_is)
    (case mk_Net => k_is)
    (case kc_Net => k_is)
    (case n_Net_bowls => k_is)
    (case n_Net_doors => k_is)
    (case n_Net_takes => k_is)
    (case n_Net_gives => k_is)
    (case n_Net_first => k_is)
    (case pg_Rooms => k_is)
    (case hd_Rooms => k_is)
    (case po_Rooms => k_is)
    (case sa_Rooms => k_is)
    (case mk_Rooms => k_is)
    (case kc_Rooms => k_is)
    (case n_Rooms_bags => k_is)
    (case n_Rooms_parents => k_is)
    (case n_Rooms_comers => k_is)
    (case ec_HallError => kernel_rfl)
    (case xp_HallError => kernel_rfl)
    (case ec_TooWide => kernel_rfl)
    (case xp_TooWide => kernel_rfl)
    (case ec_NoGo => kernel_rfl)
    (case xsa_NoGo => k_is)
    (case xhd_NoGo => k_is)
    (case kc_NoGo => k_is)
    (case xt_at_NoGo => k_is)
    (case xbg => k_is)
    (case xbr => k_is)
    (case xbf => k_is)
    (case g_MOST_SIGNS => k_is)
    (case g_MOST_BEADS => k_is)
    (case g_LEAST_BOWLS => k_is)
    (case g_MOST_BOWLS => k_is)
    (case g_MOST_DOORS => k_is)
    (case z_len => k_is)
    (case z_range => k_is)
    (case z_list => k_is)
    (case z_all => k_is)
    (case z_set => k_is)
    (case z_zip => k_is)
    (case z_enumerate => k_is)
    (case z_isinstance => k_is)
    (case z_int => k_is)
    (case z_bool => k_is)
    (case z_reversed => k_is)
