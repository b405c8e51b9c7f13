import PyProof.Rows.All
import Wide.All
import OpenK.AllK
import Wide.FinOn
import Lean
import PyProof.EqAt
import PyProof.EqKinds
import PyProof.TupleCall
import OpenK.ZGo
import PySem.Challenge.RW_beadhall_k59_whole_fence_passed
set_option Elab.async false
set_option linter.all false
set_option maxRecDepth 100000
namespace L2
open PySem PySem.Spec PyProof.Rows
abbrev Key:=Sum Int Str
def keyIs : Key→Value→Bool
 | .inl k,v=>Value.isInt k v
 | .inr x,v=>Value.isStrOf x v
def keyH (w : World) : Key→Int
 | .inl k=>hashInt k
 | .inr x=>hashStr w x
theorem keyIs_shape : ∀ {k : Key} {v : Value},keyIs k v = true→(∃ i t,k = Sum.inl i∧v = Value.int i t) ∨ (∃ x t,k = Sum.inr x∧v = Value.str x t)
 | .inl i,v,h=>by
  obtain ⟨t,e⟩:=Value.isInt_shape (k:=i) (v:=v) h
  exact .inl ⟨i,t,rfl,e⟩
 | .inr x,v,h=>by
  obtain ⟨t,e⟩:=Value.isStrOf_shape (x:=x) (v:=v) h
  exact .inr ⟨x,t,rfl,e⟩
theorem keyIs_str (x : Str) (t : Tok) : keyIs (.inr x) (.str x t) = true:=by simp [keyIs,Value.isStrOf]
theorem key_ll (a b : Int) : decide ((Sum.inl a : Key) = Sum.inl b) = (a == b):=by
 by_cases e : a = b
 ·subst e; simp
 ·have h : ¬ (Sum.inl a : Key) = Sum.inl b:=fun q=>e (Sum.inl.inj q)
  rw [decide_eq_false h]
  exact (beq_eq_false_iff_ne.mpr e).symm
theorem key_rr (a b : Str) : decide ((Sum.inr a : Key) = Sum.inr b) = decide (a = b):=by
 by_cases e : a = b
 ·subst e; simp
 ·have h : ¬ (Sum.inr a : Key) = Sum.inr b:=fun q=>e (Sum.inr.inj q)
  rw [decide_eq_false h,decide_eq_false e]
theorem key_lr (a : Int) (b : Str) : decide ((Sum.inl a : Key) = Sum.inr b) = false:=decide_eq_false (fun q=>nomatch q)
theorem key_rl (a : Str) (b : Int) : decide ((Sum.inr a : Key) = Sum.inl b) = false:=decide_eq_false (fun q=>nomatch q)
def mixKind (prog : Program) (w : World) : PySem.KeyKind prog w Key where
 is:=keyIs
 hash:=keyH w
 inj:=fun v a b ha hb=>by
  rcases keyIs_shape ha with ⟨i,t,rfl,rfl⟩ | ⟨x,t,rfl,rfl⟩
  ·rcases keyIs_shape hb with ⟨j,u,rfl,e⟩ | ⟨y,u,rfl,e⟩
   ·injection e with e1 _; rw [e1]
   ·exact nomatch e
  ·rcases keyIs_shape hb with ⟨j,u,rfl,e⟩ | ⟨y,u,rfl,e⟩
   ·exact nomatch e
   ·injection e with e1 _; rw [e1]
 byValue:=fun k v h=>by
  rcases keyIs_shape h with ⟨i,t,rfl,rfl⟩ | ⟨x,t,rfl,rfl⟩ <;> rfl
 pyHash:=fun hv h=>by
  rcases keyIs_shape hv with ⟨i,t,rfl,rfl⟩ | ⟨x,t,rfl,rfl⟩
  ·exact wpAny_pyHash_int h
  ·exact wpAny_pyHash_str h
 eqBool:=fun hu hv h=>by
  rcases keyIs_shape hu with ⟨i,t,rfl,rfl⟩ | ⟨x,t,rfl,rfl⟩
  ·rcases keyIs_shape hv with ⟨j,u,rfl,rfl⟩ | ⟨y,u,rfl,rfl⟩
   ·rw [key_ll] at h; exact wpAny_eqBool_int h
   ·rw [key_lr] at h; exact SeqAt.EqAt.int_str i t y u _ _ _ _ h
  ·rcases keyIs_shape hv with ⟨j,u,rfl,rfl⟩ | ⟨y,u,rfl,rfl⟩
   ·rw [key_rl] at h; exact SeqAt.EqAt.str_int x t j u _ _ _ _ h
   ·rw [key_rr] at h; exact wpAny_eqBool_str h
 «strs»:=fun k x t v h=>by
  rcases keyIs_shape h with ⟨i,u,rfl,e⟩ | ⟨y,u,rfl,e⟩
  ·exact nomatch e
  ·injection e with e1 _
   subst e1
   cases v <;> rfl
end L2
namespace L2
open PySem PySem.Spec PyProof.Rows
inductive V where
 | non | bl (b : Bool) | int (i : Int) | str (x : Str) | byt (b : Array UInt8) | flt (b : UInt64) | ref (a : Addr) | ty (n : String)
 deriving DecidableEq
def RelV : V→Value→Prop
 | .non,u=>u = Value.none
 | .bl b,u=>u = Value.bool b
 | .int i,u=>∃ t,u = Value.int i t
 | .str x,u=>∃ t,u = Value.str x t
 | .byt b,u=>∃ t,u = Value.bytes b t
 | .flt b,u=>∃ t,u = Value.float b t
 | .ref a,u=>u = Value.ref a
 | .ty n,u=>u = Value.type n
abbrev Vals : List V→List Value→Prop:=Paired RelV
theorem Vals.length {xs : List V} {us : List Value} (r : Vals xs us) : xs.length = us.length:=Paired.length r
theorem Vals.get : ∀ {xs : List V} {us : List Value} {i : Nat} {x : V},Vals xs us→xs[i]? = some x→∃ u,us[i]? = some u∧RelV x u
 | _,_,_,_,.nil,e=>by simp at e
 | _,_,0,_,.cons r _,e=>by simp at e; subst e; exact ⟨_,rfl,r⟩
 | _,_,i + 1,x,.cons _ t,e=>by
  obtain ⟨u,h1,h2⟩:=Vals.get (i:=i) (x:=x) t (by simpa using e)
  exact ⟨u,by simpa using h1,h2⟩
theorem Vals.set {x : V} {u : Value} (r : RelV x u) : ∀ {xs : List V} {us : List Value} (i : Nat),Vals xs us→Vals (xs.set i x) (us.set i u)
 | _,_,_,.nil=>.nil
 | _,_,0,.cons _ t=>.cons r t
 | _,_,i + 1,.cons q t=>.cons q (Vals.set r i t)
theorem Vals.append : ∀ {xs ys : List V} {us ws : List Value},Vals xs us→Vals ys ws→Vals (xs ++ ys) (us ++ ws)
 | _,_,_,_,.nil,s=>s
 | _,_,_,_,.cons r t,s=>.cons r (Vals.append t s)
theorem Vals.take : ∀ {xs : List V} {us : List Value} (n : Nat),Vals xs us→Vals (xs.take n) (us.take n)
 | _,_,0,_=>.nil
 | _,_,_ + 1,.nil=>.nil
 | _,_,n + 1,.cons r t=>.cons r (Vals.take n t)
theorem Vals.drop : ∀ {xs : List V} {us : List Value} (n : Nat),Vals xs us→Vals (xs.drop n) (us.drop n)
 | _,_,0,r=>r
 | _,_,_ + 1,.nil=>.nil
 | _,_,n + 1,.cons _ t=>Vals.drop n t
def RelO : Option V→Option Value→Prop
 | some v,some u=>RelV v u
 | none,none=>True
 | _,_=>False
def KV {κ : Type} : List (κ × V)→List (κ × Value)→Prop:=Paired fun (p : κ × V) (q : κ × Value)=>p.1 = q.1∧RelV p.2 q.2
def kV : Key→V
 | .inl i=>.int i
 | .inr x=>.str x
inductive HO where
 | lst (xs : List V)
 | tup (xs : List V)
 | dK (kvs : List (Key × V)) | dT (kvs : List (List Key × V))
 | set (S : Int→Bool) (n : Nat)
 | ins (C dx : Addr) (fs : List (Str × V))
 | own (x : Addr)
 | xd (fs : List (Str × V))
 | met (f x : Addr)
 | rng (lo hi : Int)
 | frz (o : Obj) (u : HO)
 | tbl (ps : Array Value)
 | ext (φ : Heap→Prop)
abbrev Hp:=Addr→Option HO
def upd (H : Hp) (a : Addr) (o : HO) : Hp:=fun b=>if b = a then some o else H b
theorem upd_same {H : Hp} {a : Addr} {o : HO} : upd H a o a = some o:=by unfold upd; rw [if_pos rfl]
theorem upd_ne {H : Hp} {a b : Addr} {o : HO} (h : b ≠ a) : upd H a o b = H b:=by unfold upd; rw [if_neg h]
theorem ne_of {H : Hp} {a b : Addr} {o u : HO} (h : H a = some o) (h' : H b = some u) (d : o ≠ u) : a ≠ b:=by
 intro e; subst e; rw [h] at h'; exact d (Option.some.inj h')
theorem ne_of_none {H : Hp} {a b : Addr} {o : HO} (h : H a = some o) (h' : H b = none) : a ≠ b:=by
 intro e; subst e; rw [h] at h'; cases h'
section
variable (P : Program) (w : World)
def ObjOk (H : Hp) (h : Heap) (a : Addr) : HO→Prop
 | .lst xs => xs.length ≤ sizeLine ∧ ∃ (its : List Value) (n : Nat), Vals xs its ∧ h.get? a = some { cls := .type "list", data := .seq its.toArray n }
 | .tup xs=>xs.length ≤ sizeLine∧∃ its : List Value,Vals xs its∧IsTup h a its.toArray
 | .dK kvs=>kvs.length ≤ sizeLine∧(a == sysModules) = false∧∃ vs,KV kvs vs∧h.DictOf (mixKind P w) a vs
 | .dT kvs=>kvs.length ≤ sizeLine∧(a == sysModules) = false∧∃ xs : List (List Key × Addr × Value),
   Paired (fun (p : List Key × V) (q : List Key × Addr × Value)=>p.1 = q.1∧H q.2.1 = some (.tup (p.1.map kV))∧RelV p.2 q.2.2) kvs xs ∧
   ∃ o es ep,h.get? a = some o∧o.ExactDict∧o.data = .dict es ep∧es.toList = xs.map (entryOfKey (tupleKind (mixKind P w)))∧(xs.map (·.1)).Nodup
 | .set S n=>h.SetOf (intKind P w) a S n
 | .ins C dx fs=>H dx = some (.own a)∧fs.length ≤ 1000∧dx ≠ a∧h.get? a = some (PySem.W.instObj C dx) ∧
   ∃ mA,h.Ns1 dx mA∧(∀ f,RelO (fs.lookup f) (mA f))∧PySem.Within mA (fs.map (·.1))
 | .own _=>∃ o,h.get? a = some o
 | .xd fs=>∃ mA,h.Ns1 a mA∧∀ f,RelO (fs.lookup f) (mA f)
 | .rng lo hi => ∃ t u v, h.get? a = some { cls := .type "range", data := .fields #[.int lo t, .int hi u, .int 1 v] }
 | .frz o u=>h.get? a = some o∧ObjOk H h a u
 | .tbl ps=>h.get? a = some { cls:=.none,data:=.fields ps }
 | .met f x=>h.get? a = some (PySem.W.methodObj (.ref f) (.ref x))
 | .ext φ=>φ h∧(∃ o,h.get? a = some o)∧∀ h1 h2 : Heap,φ h1→(∀ o,h1.get? a = some o→h2.get? a = some o)→φ h2
def HOk (H : Hp) (h : Heap) : Prop:=∀ a o,H a = some o→ObjOk P w H h a o
end
section
variable {P : Program} {w : World} {H H' : Hp} {h h' : Heap} {a : Addr} {o : HO}
theorem ObjOk.lt (x : ObjOk P w H h a o) : a < h.objs.size:=by
 cases o with
 | lst xs=>obtain ⟨_,_,_,_,e⟩:=x; exact Heap.lt_size e
 | tup xs=>obtain ⟨_,_,_,p⟩:=x; exact p.lt
 | dK kvs=>obtain ⟨_,_,_,_,o,_,_,e,_⟩:=x; exact Heap.lt_size e
 | dT kvs=>obtain ⟨_,_,_,_,o,_,_,e,_⟩:=x; exact Heap.lt_size e
 | set S n=>obtain ⟨o,_,_,_,e,_⟩:=x; exact Heap.lt_size e
 | ins C dx fs=>obtain ⟨_,_,_,e,_⟩:=x; exact Heap.lt_size e
 | own y=>obtain ⟨_,e⟩:=x; exact Heap.lt_size e
 | xd fs=>obtain ⟨_,⟨_,_,_,e,_⟩,_⟩:=x; exact Heap.lt_size e
 | rng lo hi=>obtain ⟨_,_,_,e⟩:=x; exact Heap.lt_size e
 | frz ob u=>obtain ⟨e,_⟩:=x; exact Heap.lt_size e
 | tbl ps=>exact Heap.lt_size (show h.get? a = some _ from x)
 | met f y=>exact Heap.lt_size (show h.get? a = some _ from x)
 | ext φ=>obtain ⟨_,⟨_,e⟩,_⟩:=x; exact Heap.lt_size e
theorem Paired.mapP {α β : Type} {F G : α→β→Prop} : ∀ {l₁ : List α} {l₂ : List β},Paired F l₁ l₂→(∀ a b,F a b→G a b)→Paired G l₁ l₂
 | _,_,.nil,_=>.nil
 | _,_,.cons r t,f=>.cons (f _ _ r) (Paired.mapP t f)
theorem ObjOk.stay (x : ObjOk P w H h a o) (k : ∀ b u,(b = a ∨ H b = some (.own a))→h.get? b = some u→h'.get? b = some u)
  (ho : ∀ b,H b = some (.own a)→H' b = some (.own a)) (ht : ∀ b xs,H b = some (.tup xs)→H' b = some (.tup xs)) : ObjOk P w H' h' a o:=by
 induction o with
 | lst xs=>obtain ⟨z,its,n,r,e⟩:=x; exact ⟨z,its,n,r,k _ _ (.inl rfl) e⟩
 | tup xs=>obtain ⟨z,its,r,ob,e,c⟩:=x; exact ⟨z,its,r,ob,k _ _ (.inl rfl) e,c⟩
 | dK kvs=>obtain ⟨z,y,vs,r,ob,es,ep,e,c⟩:=x; exact ⟨z,y,vs,r,ob,es,ep,k _ _ (.inl rfl) e,c⟩
 | dT kvs =>
  obtain ⟨z,y,xs,r,ob,es,ep,e,c⟩:=x
  exact ⟨z,y,xs,Paired.mapP r fun p q z=>⟨z.1,ht _ _ z.2.1,z.2.2⟩,ob,es,ep,k _ _ (.inl rfl) e,c⟩
 | set S n=>obtain ⟨ob,es,ep,t,e,c⟩:=x; exact ⟨ob,es,ep,t,k _ _ (.inl rfl) e,c⟩
 | ins C dx fs =>
  obtain ⟨d,z,ne,e,mA,⟨od,es,ep,e2,c⟩,r⟩:=x
  exact ⟨ho _ d,z,ne,k _ _ (.inl rfl) e,mA,⟨od,es,ep,k _ _ (.inr d) e2,c⟩,r⟩
 | own y=>obtain ⟨ob,e⟩:=x; exact ⟨ob,k _ _ (.inl rfl) e⟩
 | xd fs=>obtain ⟨mA,⟨od,es,ep,e,c⟩,r⟩:=x; exact ⟨mA,⟨od,es,ep,k _ _ (.inl rfl) e,c⟩,r⟩
 | rng lo hi=>obtain ⟨t,u,v,e⟩:=x; exact ⟨t,u,v,k _ _ (.inl rfl) e⟩
 | frz ob u ih=>obtain ⟨e,q⟩:=x; exact ⟨k _ _ (.inl rfl) e,ih q⟩
 | tbl ps =>
  have e : h.get? a = some { cls:=.none,data:=.fields ps }:=x
  show h'.get? a = some { cls:=.none,data:=.fields ps }
  exact k a _ (.inl rfl) e
 | met f y =>
  have e : h.get? a = some (PySem.W.methodObj (.ref f) (.ref y)):=x
  show h'.get? a = some (PySem.W.methodObj (.ref f) (.ref y))
  exact k a _ (.inl rfl) e
 | ext φ=>obtain ⟨p,⟨o,e⟩,st⟩:=x; exact ⟨st _ _ p fun o q=>k _ _ (.inl rfl) q,⟨o,k _ _ (.inl rfl) e⟩,st⟩
theorem HOk.lt (x : HOk P w H h) (e : H a = some o) : a < h.objs.size:=(x a o e).lt
theorem HOk.fresh (x : HOk P w H h) (e : h.objs.size ≤ a) : H a = none:=by
 cases q : H a with
 | none=>rfl
 | some u=>exact absurd (Nat.lt_of_lt_of_le (x.lt q) e) (Nat.lt_irrefl _)
theorem HOk.kept (x : HOk P w H h) (k : ∀ b u,h.get? b = some u→h'.get? b = some u) : HOk P w H h':=fun a o e =>
 (x a o e).stay (fun b u _ q=>k b u q) (fun _ q=>q) fun _ _ q=>q
theorem HOk.laid (x : HOk P w H h) (k : ∀ b u,h.get? b = some u→h'.get? b = some u) (hp : h.objs.size ≤ a) (new : ObjOk P w (upd H a o) h' a o) : HOk P w (upd H a o) h':=fun b u e=>by
 have hn:=x.fresh hp
 by_cases hb : b = a
 ·subst hb; rw [upd_same] at e; cases e; exact new
 ·rw [upd_ne hb] at e
  exact (x b u e).stay (fun c v _ q=>k c v q) (fun c q=>by rw [upd_ne (ne_of_none q hn)]; exact q) fun c xs q=>by rw [upd_ne (ne_of_none q hn)]; exact q
end
def Rd (H : Hp) (a : Addr) (u : HO) : Prop:=H a = some u ∨ ∃ o,H a = some (.frz o u)
theorem Rd.of {H : Hp} {a : Addr} {u : HO} (h : H a = some u) : Rd H a u:=.inl h
theorem Rd.ok {P : Program} {w : World} {H : Hp} {h : Heap} {a : Addr} {u : HO} (r : Rd H a u) (x : HOk P w H h) : ObjOk P w H h a u:=by
 rcases r with r | ⟨o,r⟩
 ·exact x a u r
 ·obtain ⟨_,q⟩:=x a _ r
  exact q
def Mut : Option HO→Prop
 | some (.lst _)=>True
 | some (.dK _)=>True
 | some (.dT _)=>True
 | some (.set _ _)=>True
 | some (.ins _ _ _)=>True
 | some (.ext _)=>True
 | _=>False
section
variable {P : Program} {w : World} {H : Hp} {h h' : Heap} {x e : Addr} {o' : HO}
theorem HOk.write (ok : HOk P w H h) (mu : Mut (H x)) (he : e = x ∨ H e = some (.own x)) (k : ∀ b u,b ≠ e→h.get? b = some u→h'.get? b = some u) (heo : ∃ u,h'.get? e = some u)
  (new : ObjOk P w (upd H x o') h' x o') : HOk P w (upd H x o') h':=fun b u q=>by
 have nown : ∀ c y,H c = some (.own y)→c ≠ x:=fun c y r z=>by subst z; rw [r] at mu; exact mu
 have ntup : ∀ c xs,H c = some (.tup xs)→c ≠ x:=fun c xs r z=>by subst z; rw [r] at mu; exact mu
 by_cases hb : b = x
 ·subst hb; rw [upd_same] at q; cases q; exact new
 ·rw [upd_ne hb] at q
  by_cases hbe : b = e
  ·have q' : H b = some (.own x):=by
    rcases he with z | z
    ·exact absurd (hbe.trans z) hb
    ·rw [hbe]; exact z
   rw [q] at q'; cases q'
   obtain ⟨v,hv⟩:=heo
   exact ⟨v,by rw [hbe]; exact hv⟩
  ·refine (ok b u q).stay (fun c v hc r=>k c v ?_ r) (fun c r=>by rw [upd_ne (nown c b r)]; exact r) fun c xs r=>by rw [upd_ne (ntup c xs r)]; exact r
   rcases hc with rfl | hc
   ·exact hbe
   ·rintro rfl
    rcases he with z | z
    ·exact nown c b hc z
    ·rw [hc] at z; cases z; exact hb rfl
end
structure Un (fs ex : List Addr) (H H' : Hp) (h h' : Heap) : Prop where
 keep : ∀ b o,h.get? b = some o→H b = none→b ∉ fs→b ∉ ex→h'.get? b = some o
 slot : ∀ b o,h.get? b = some o→H b = none→b ∈ fs→b ∉ ex→∃ sl,h'.get? b = some { o with slots:=sl }
 free : ∀ b o,h.get? b = some o→H b = none→b ∉ ex→H' b = none
 there : ∀ b o,h.get? b = some o→b ∉ ex→∃ o',h'.get? b = some o'
 tups : ∀ b xs,H b = some (.tup xs)→H' b = some (.tup xs)
 frzs : ∀ b o u,H b = some (.frz o u)→H' b = some (.frz o u)
 tbls : ∀ b ps,H b = some (.tbl ps)→∃ more,H' b = some (.tbl (ps ++ more))
section
variable {fs fs' ex ex' : List Addr} {H H1 H2 : Hp} {h h1 h2 h' : Heap} {a x e : Addr} {o : HO}
theorem Un.any (u : Un fs ex H H1 h h1) {b : Addr} {ob : Obj} (q : h.get? b = some ob) (n : H b = none) (hx : b ∉ ex) : ∃ sl,h1.get? b = some { ob with slots:=sl }:=by
 by_cases hb : b ∈ fs
 ·exact u.slot b ob q n hb hx
 ·exact ⟨ob.slots,u.keep b ob q n hb hx⟩
theorem Un.trans (a : Un fs ex H H1 h h1) (b : Un fs ex H1 H2 h1 h2) : Un fs ex H H2 h h2 where
 keep:=fun c ob q n hc hx=>b.keep c ob (a.keep c ob q n hc hx) (a.free c ob q n hx) hc hx
 slot:=fun c ob q n hc hx=>by
  obtain ⟨sl,e1⟩:=a.slot c ob q n hc hx
  obtain ⟨sl',e2⟩:=b.slot c _ e1 (a.free c ob q n hx) hc hx
  exact ⟨sl',e2⟩
 free:=fun c ob q n hx=>by
  obtain ⟨o',e1⟩:=a.there c ob q hx
  exact b.free c o' e1 (a.free c ob q n hx) hx
 there:=fun c ob q hx=>by
  obtain ⟨o',e1⟩:=a.there c ob q hx
  exact b.there c o' e1 hx
 tups:=fun c xs q=>b.tups c xs (a.tups c xs q)
 frzs:=fun c ob xs q=>b.frzs c ob xs (a.frzs c ob xs q)
 tbls:=fun c ps q=>by
  obtain ⟨m1,e1⟩:=a.tbls c ps q
  obtain ⟨m2,e2⟩:=b.tbls c _ e1
  exact ⟨m1 ++ m2,by rw [e2,Array.append_assoc]⟩
theorem Un.kept (k : ∀ b u,h.get? b = some u→h'.get? b = some u) : Un fs ex H H h h' :=
 ⟨fun b ob q _ _ _=>k b ob q,fun b ob q _ _ _=>⟨ob.slots,k b ob q⟩,fun _ _ _ n _=>n,fun b ob q _=>⟨ob,k b ob q⟩,fun _ _ q=>q,fun _ _ _ q=>q,fun _ ps q=>⟨#[],by rw [q]; simp⟩⟩
theorem Un.refl : Un fs ex H H h h:=Un.kept fun _ _ q=>q
theorem Un.laid (k : ∀ b u,h.get? b = some u→h'.get? b = some u) (hp : h.objs.size ≤ a) (hn : H a = none) : Un fs ex H (upd H a o) h h' where
 keep:=fun b u q _ _ _=>k b u q
 slot:=fun b u q _ _ _=>⟨u.slots,k b u q⟩
 free:=fun b u q n _=>by rw [upd_ne (Nat.ne_of_lt (Nat.lt_of_lt_of_le (Heap.lt_size q) hp))]; exact n
 there:=fun b u q _=>⟨u,k b u q⟩
 tups:=fun b xs q=>by rw [upd_ne (ne_of_none q hn)]; exact q
 frzs:=fun b u xs q=>by rw [upd_ne (ne_of_none q hn)]; exact q
 tbls:=fun b ps q=>⟨#[],by rw [upd_ne (ne_of_none q hn),q]; simp⟩
theorem Un.write (mu : Mut (H x)) (he : e = x ∨ H e = some (.own x)) (k : ∀ b u,b ≠ e→h.get? b = some u→h'.get? b = some u) (heo : ∃ u,h'.get? e = some u) : Un fs ex H (upd H x o) h h':=by
 have hx : ∀ b,H b = none→b ≠ x:=fun b n z=>by subst z; rw [n] at mu; exact mu
 have hb : ∀ b,H b = none→b ≠ e:=fun b n z=>by
  subst z
  rcases he with r | r
  ·exact hx b n r
  ·rw [n] at r; cases r
 have hm : ∀ b u,H b = some u→¬ Mut (some u)→b ≠ x:=fun b u q nm z=>by subst z; rw [q] at mu; exact nm mu
 refine ⟨fun b u q n _ _=>k b u (hb b n) q,fun b u q n _ _=>⟨u.slots,k b u (hb b n) q⟩,fun b u q n _=>by rw [upd_ne (hx b n)]; exact n,fun b u q _=>?_,
  fun b xs q=>by rw [upd_ne (hm b _ q fun z=>z)]; exact q,fun b u xs q=>by rw [upd_ne (hm b _ q fun z=>z)]; exact q,fun b ps q=>⟨#[],by rw [upd_ne (hm b _ q fun z=>z),q]; simp⟩⟩
 by_cases hbe : b = e
 ·subst hbe; exact heo
 ·exact ⟨u,k b u hbe q⟩
theorem Un.mono (u : Un fs ex H H1 h h1) (hs : ∀ b ∈ fs,b ∈ fs') (hx : ∀ b ∈ ex,b ∈ ex') : Un fs' ex' H H1 h h1 :=
 ⟨fun b ob q n hb he=>u.keep b ob q n (fun z=>hb (hs b z)) fun z=>he (hx b z),fun _ _ q n _ he=>u.any q n fun z=>he (hx _ z),fun b ob q n he=>u.free b ob q n fun z=>he (hx b z),fun b ob q he=>u.there b ob q fun z=>he (hx b z),u.tups,u.frzs,u.tbls⟩
end
def trk (h : Heap) (H : Hp) : List Addr:=(List.range h.objs.size).filter fun a=>(H a).isSome
def hidT (h : Heap) (H : Hp) : Heap:=PySem.W.hideAll h (trk h H)
theorem hidT_size (h : Heap) (H : Hp) : (hidT h H).objs.size = h.objs.size:=PySem.W.hideAll_size _ _
theorem hidT_get {h : Heap} {H : Hp} {b : Addr} {o : Obj} (e : h.get? b = some o) (n : H b = none) : (hidT h H).get? b = some o :=
 PySem.W.hideAll_get _ e fun hm=>by
  have q : (H b).isSome = true:=(List.mem_filter.mp hm).2
  rw [n] at q; simp at q
theorem of_hidT {h : Heap} {H : Hp} {b : Addr} {o : Obj} (e : (hidT h H).get? b = some o) : h.get? b = some o∧H b = none:=by
 have e' : h.get? b = some o:=PySem.W.of_hideAll (trk h H) e
 refine ⟨e',?_⟩
 cases q : H b with
 | none=>rfl
 | some x =>
  have hm : b ∈ trk h H:=List.mem_filter.mpr ⟨List.mem_range.mpr (Heap.lt_size e'),by simp [q]⟩
  have z : (hidT h H).get? b = none:=PySem.W.hideAll_none (trk h H) hm
  rw [z] at e; cases e
def allNews (g h : Heap) (L : Addr) : List (Addr × Obj):=(List.range h.objs.size).filterMap fun a=>if a = L ∨ (g.get? a).isSome = true then none else (h.get? a).map fun o=>(a,o)
def rest (g h : Heap) (L d : Addr) : List (Addr × Obj):=(allNews g h L).filter fun p=>decide (p.1 ≠ d)
end L2
namespace L2
open PySem PySem.Spec PyProof.Rows
structure Mod (K : PySem.W.Frag) (mg : Str→Option Value) (base : Heap) : Prop where
 kin : K.In base
 glob : base.Ns mainGlobals mg
 blt : ∃ mb, base.Ns builtinsNs mb ∧ ∀ x : Str, x ≠ "__name__" → mb x = bootBuiltins x
 nolimit : base.NoLimit
structure Cx where
 prog : Program
 w : World
 K : PySem.W.Frag
 mg : Str→Option Value
 base : Heap
 A : Around
 N : List Str
 s₀ : Shared
 H₀ : Hp
 env : Env
 outer : List Env
 stack : List Env
 ex : List Addr
 fn : Str→Bool
 calm : Bool
 pn : List (Addr × Obj)
 xe : Value→Shared→Prop
def frs (l : List Env) : List Addr:=l.filterMap (·.frame)
abbrev Cx.fs (X : Cx) : List Addr:=frs X.outer
def Vis (sc : Scope) (x : Str) : Prop:=sc.names.lookup x = some .local ∨ sc.names.lookup x = some .cell ∨ sc.names.lookup x = some .free
def Loc (sc : Scope) (x : Str) : Prop:=sc.names.lookup x = some .local ∨ sc.names.lookup x = some .cell
def Look (env : Env) (h : Heap) (m : Str→Option Value) (x : Str) (u : Value) : Prop :=
 (env.kindOf x = some .local∧m x = some u) ∨ ((env.kindOf x = some .cell ∨ env.kindOf x = some .free)∧∃ c,env.cells.lookup x = some c∧h.IsCell c (some u))
structure Cx.Ok (X : Cx) : Prop where
 mod : Mod X.K X.mg X.base
 kind : X.env.scope.kind = .function
 glob : X.env.globals = mainGlobals
 blt : X.env.builtins = builtinsNs
 above : X.s₀.heap.objs.size ≤ X.env.locals
 inj : ∀ x y c,X.env.cells.lookup x = some c→X.env.cells.lookup y = some c→x = y
 has : ∀ x,(X.env.kindOf x = some .cell ∨ X.env.kindOf x = some .free)→∃ c,X.env.cells.lookup x = some c
 cab : ∀ x c,X.fn x = true→X.env.cells.lookup x = some c→X.s₀.heap.objs.size ≤ c
 hd : X.calm = true→X.A.handled = none
 frames : X.A.frames = some X.stack
 stk : X.stack = X.outer ∨ (X.stack = X.env :: X.outer∧X.env.frame = some X.env.locals)
 exf : ∀ b ∈ X.ex,b ≠ X.env.locals∧∀ x c,X.env.cells.lookup x = some c→c ≠ b
 bs : ∀ b o,X.base.get? b = some o→X.s₀.heap.get? b = some o∧X.H₀ b = none
 bsz : X.base.objs.size ≤ X.s₀.heap.objs.size
 noex : ∀ b o,X.base.get? b = some o→b ∉ X.ex
 exfs : ∀ b ∈ X.ex,b ∉ X.fs
 funs : X.s₀.heap.FunFrames X.base X.outer
 frf : ∀ b ∈ X.fs,X.H₀ b = none
structure Inv (X : Cx) (pins : List (Addr × Obj)) (σ : List (Option V)) (H : Hp) (s : Shared) : Prop where
 ok : X.Ok
 os : s.os = X.s₀.os
 bare : AllBare s.gens
 base : Un X.fs X.ex X.H₀ H X.s₀.heap s.heap
 loc : ∃ m,s.heap.Ns X.env.locals m∧∀ (i : Nat) (x : Str) (v : V),X.N[i]? = some x→σ[i]? = some (some v)→Vis X.env.scope x→∃ u,RelV v u∧Look X.env s.heap m x u
 cell : ∀ x c,X.env.cells.lookup x = some c→∃ v,s.heap.IsCell c v
 free : H X.env.locals = none
 freeC : ∀ x c,X.env.cells.lookup x = some c→H c = none
 pin : ∀ p ∈ X.pn ++ pins,s.heap.get? p.1 = some p.2∧H p.1 = none∧p.1 ≠ X.env.locals∧p.1 ∉ X.fs∧∀ v,p.2.data ≠ .cell v
 hok : HOk X.prog X.w H s.heap
 len : σ.length = X.N.length
section
variable {X : Cx} {pins : List (Addr × Obj)} {σ : List (Option V)} {H H' : Hp} {s : Shared} {h' : Heap}
theorem Cx.Ok.nofr (ok : X.Ok) {b : Addr} {o : Obj} (e : X.base.get? b = some o) : b ∉ X.fs:=fun hb=>by
 have:=(ok.funs.mem hb).1
 rw [e] at this; cases this
theorem Inv.bs (I : Inv X pins σ H s) : ∀ b o,X.base.get? b = some o→s.heap.get? b = some o∧H b = none:=fun b o e =>
 ⟨I.base.keep b o (I.ok.bs b o e).1 (I.ok.bs b o e).2 (I.ok.nofr e) (I.ok.noex b o e),I.base.free b o (I.ok.bs b o e).1 (I.ok.bs b o e).2 (I.ok.noex b o e)⟩
theorem Inv.bk (I : Inv X pins σ H s) : ∀ b o,X.base.get? b = some o→s.heap.get? b = some o:=fun b o e=>(I.bs b o e).1
theorem Inv.mod (I : Inv X pins σ H s) : Mod X.K X.mg X.base:=I.ok.mod
theorem Inv.kIn (I : Inv X pins σ H s) : X.K.In s.heap:=I.ok.mod.kin.keeps I.bk
theorem Inv.nolimit (I : Inv X pins σ H s) : s.heap.NoLimit:=I.ok.mod.nolimit.keeps I.bk
theorem Inv.fr (I : Inv X pins σ H s) : ∃ m,Fr X.base X.env.locals s.heap m :=
 let ⟨m,hn,_⟩:=I.loc
 ⟨m,hn,I.bk,Nat.le_trans I.ok.bsz I.ok.above⟩
theorem Inv.lt (I : Inv X pins σ H s) : X.env.locals < s.heap.objs.size:=let ⟨_,hn,_⟩:=I.loc; hn.lt
theorem Inv.sz (I : Inv X pins σ H s) : X.s₀.heap.objs.size ≤ s.heap.objs.size:=Nat.le_trans I.ok.above (Nat.le_of_lt I.lt)
theorem Inv.nofs (I : Inv X pins σ H s) {a : Addr} (h : s.heap.objs.size ≤ a) : a ∉ X.fs:=fun hb=>by
 obtain ⟨_,o,ho,_⟩:=I.ok.funs.mem hb
 exact absurd (Nat.lt_of_lt_of_le (Heap.lt_size ho) (Nat.le_trans I.sz h)) (Nat.lt_irrefl _)
theorem Inv.cne (I : Inv X pins σ H s) : ∀ x c,X.env.cells.lookup x = some c→c ≠ X.env.locals:=fun x c e z=>by
 obtain ⟨v,o,ho,hd⟩:=I.cell x c e
 obtain ⟨m,⟨o',es,ep,ho',hd',_⟩,_⟩:=I.loc
 rw [z,ho'] at ho; cases ho; rw [hd'] at hd; cases hd
theorem Inv.funs (I : Inv X pins σ H s) : s.heap.FunFrames X.base X.outer:=by
 have all : ∀ (l : List Env),(∀ b ∈ frs l,b ∈ X.fs)→X.s₀.heap.FunFrames X.base l→s.heap.FunFrames X.base l:=by
  intro l
  induction l with
  | nil=>intro _ _; trivial
  | cons env r ih =>
   intro hs hl
   obtain ⟨hk,⟨L,o,hf,hn,ho,hd⟩,hr⟩:=hl
   have hL : L ∈ X.fs:=hs L (by unfold frs; rw [List.filterMap_cons,hf]; exact List.mem_cons_self)
   obtain ⟨sl,e⟩:=I.base.slot L o ho (I.ok.frf L hL) hL fun z=>I.ok.exfs L z hL
   exact ⟨hk,⟨L,_,hf,hn,e,hd⟩,ih (fun b hb=>hs b (by unfold frs; rw [List.filterMap_cons,hf]; exact List.mem_cons_of_mem _ hb)) hr⟩
 exact all X.outer (fun _ hb=>hb) I.ok.funs
theorem Inv.stack (I : Inv X pins σ H s) : s.heap.FunFrames X.base X.stack:=by
 rcases I.ok.stk with e | ⟨e,hf⟩
 ·rw [e]; exact I.funs
 ·rw [e]
  obtain ⟨m,hn,_⟩:=I.loc
  refine .cons (by rw [I.ok.kind]; decide) hf hn ?_ I.funs
  exact Heap.get?_none_of_le (Nat.le_trans I.ok.bsz I.ok.above)
theorem Inv.stkSub (I : Inv X pins σ H s) : ∀ b ∈ frs X.stack,b ∈ X.env.locals :: X.fs:=fun b hb=>by
 rcases I.ok.stk with e | ⟨e,hf⟩
 ·rw [e] at hb; exact List.mem_cons_of_mem _ hb
 ·rw [e] at hb
  unfold frs at hb
  rw [List.filterMap_cons,hf] at hb
  exact hb
theorem Inv.stkFree (I : Inv X pins σ H s) : ∀ b ∈ frs X.stack,H b = none:=fun b hb=>by
 rcases List.mem_cons.mp (I.stkSub b hb) with e | hb
 ·rw [e]; exact I.free
 ·obtain ⟨_,o,ho,_⟩:=I.ok.funs.mem hb
  exact I.base.free b o ho (I.ok.frf b hb) fun z=>I.ok.exfs b z hb
theorem Inv.step {g' : Array GenState} {t' : Nat} {d' : Drawn} {ch : List Addr} (I : Inv X pins σ H s)
  (hch : ∀ b ∈ ch,(b ∈ X.ex ∨ X.s₀.heap.objs.size ≤ b)∧b ≠ X.env.locals∧(∀ x c,X.env.cells.lookup x = some c→c ≠ b)∧∀ p ∈ X.pn ++ pins,p.1 ≠ b)
  (keep : ∀ b o,b ≠ X.env.locals→b ∉ X.fs→b ∉ ch→s.heap.get? b = some o→H b = none→h'.get? b = some o)
  (slot : ∀ b o,b ≠ X.env.locals→b ∈ X.fs→b ∉ ch→s.heap.get? b = some o→H b = none→∃ sl,h'.get? b = some { o with slots:=sl }) (free : ∀ b o,b ∉ ch→s.heap.get? b = some o→H b = none→H' b = none)
  (there : ∀ b o,b ∉ ch→s.heap.get? b = some o→∃ o',h'.get? b = some o')
  (tups : ∀ b xs,H b = some (.tup xs)→H' b = some (.tup xs)) (frzs : ∀ b o u,H b = some (.frz o u)→H' b = some (.frz o u)) (tbls : ∀ b ps,H b = some (.tbl ps)→∃ more,H' b = some (.tbl (ps ++ more)))
  (ns : ∀ m,s.heap.Ns X.env.locals m→h'.Ns X.env.locals m) (hok : HOk X.prog X.w H' h') (hg : AllBare g') :
  Inv X pins σ H' { s with heap:=h',gens:=g',drawn:=d',toks:=t' }:=by
 have neL : ∀ b o,X.s₀.heap.get? b = some o→b ≠ X.env.locals:=fun b o e=>Nat.ne_of_lt (Nat.lt_of_lt_of_le (Heap.lt_size e) I.ok.above)
 have neC : ∀ b o,X.s₀.heap.get? b = some o→b ∉ X.ex→b ∉ ch:=fun b o e hx hb=>by
  rcases (hch b hb).1 with z | z
  ·exact hx z
  ·exact absurd (Nat.lt_of_lt_of_le (Heap.lt_size e) z) (Nat.lt_irrefl _)
 have cellK : ∀ x c,X.env.cells.lookup x = some c→∀ v,s.heap.IsCell c v→h'.IsCell c v:=fun x c e v ⟨o,ho,hd⟩=>by
  have nch : c ∉ ch:=fun z=>(hch c z).2.2.1 x c e rfl
  by_cases hc : c ∈ X.fs
  ·obtain ⟨sl,q⟩:=slot c o (I.cne x c e) hc nch ho (I.freeC x c e)
   exact ⟨_,q,hd⟩
  ·exact ⟨o,keep c o (I.cne x c e) hc nch ho (I.freeC x c e),hd⟩
 refine ⟨I.ok,I.os,hg,⟨fun b o e n hb hx=>?_,fun b o e n hb hx=>?_,fun b o e n hx=>?_,fun b o e hx=>?_,fun b xs e=>tups b xs (I.base.tups b xs e),fun b o xs e=>frzs b o xs (I.base.frzs b o xs e),fun b ps e=>?_⟩,?_,fun x c e=>?_,?_,fun x c e=>?_,fun p hp=>?_,hok,I.len⟩
 ·exact keep b o (neL b o e) hb (neC b o e hx) (I.base.keep b o e n hb hx) (I.base.free b o e n hx)
 ·obtain ⟨sl,e1⟩:=I.base.slot b o e n hb hx
  obtain ⟨sl',e2⟩:=slot b _ (neL b o e) hb (neC b o e hx) e1 (I.base.free b o e n hx)
  exact ⟨sl',e2⟩
 ·obtain ⟨o',e1⟩:=I.base.there b o e hx
  exact free b o' (neC b o e hx) e1 (I.base.free b o e n hx)
 ·obtain ⟨o',e1⟩:=I.base.there b o e hx
  exact there b o' (neC b o e hx) e1
 ·obtain ⟨m1,e1⟩:=I.base.tbls b ps e
  obtain ⟨m2,e2⟩:=tbls b _ e1
  exact ⟨m1 ++ m2,by rw [e2,Array.append_assoc]⟩
 ·obtain ⟨m,hn,hl⟩:=I.loc
  refine ⟨m,ns m hn,fun i x v e1 e2 e3=>?_⟩
  obtain ⟨u,r,l⟩:=hl i x v e1 e2 e3
  refine ⟨u,r,?_⟩
  rcases l with l | ⟨k,c,e,z⟩
  ·exact .inl l
  ·exact .inr ⟨k,c,e,cellK x c e _ z⟩
 ·obtain ⟨v,z⟩:=I.cell x c e
  exact ⟨v,cellK x c e v z⟩
 ·obtain ⟨m,⟨o,_,_,ho,_⟩,_⟩:=I.loc
  exact free _ o (fun z=>(hch _ z).2.1 rfl) ho I.free
 ·obtain ⟨v,o,ho,hd⟩:=I.cell x c e
  exact free c o (fun z=>(hch c z).2.2.1 x c e rfl) ho (I.freeC x c e)
 ·obtain ⟨e,n,ne,nf,d⟩:=I.pin p hp
  have nch : p.1 ∉ ch:=fun z=>(hch p.1 z).2.2.2 p hp rfl
  exact ⟨keep p.1 p.2 ne nf nch e n,free p.1 p.2 nch e n,ne,nf,d⟩
theorem Inv.un {t' : Nat} (I : Inv X pins σ H s) (u : Un X.fs [] H H' s.heap h') (hok : HOk X.prog X.w H' h') : Inv X pins σ H' { s with heap:=h',toks:=t' }:=by
 obtain ⟨m,⟨o,es,ep,ho,r⟩,_⟩:=id I.loc
 obtain ⟨sl,hL⟩:=u.any ho I.free (by simp)
 exact I.step (g':=s.gens) (d':=s.drawn) (ch:=[]) (fun _ z=>nomatch z) (fun b o _ hb _ e n=>u.keep b o e n hb (by simp)) (fun b o _ hb _ e n=>u.slot b o e n hb (by simp)) (fun b o _ e n=>u.free b o e n (by simp)) (fun b o _ e=>u.there b o e (by simp)) u.tups u.frzs u.tbls (fun m' hm=>by
  obtain ⟨o',es',ep',ho',r'⟩:=hm
  rw [ho] at ho'; cases ho'
  exact ⟨_,es',ep',hL,r'⟩) hok I.bare
theorem Inv.call {g' : Array GenState} {t' : Nat} {d' : Drawn} {ch : List Addr} (I : Inv X pins σ H s) (u : Un (frs X.stack) ch H H' s.heap h') (hok : HOk X.prog X.w H' h') (hg : AllBare g')
  (hch : ∀ b ∈ ch,(b ∈ X.ex ∨ X.s₀.heap.objs.size ≤ b)∧b ≠ X.env.locals∧(∀ x c,X.env.cells.lookup x = some c→c ≠ b)∧∀ p ∈ X.pn ++ pins,p.1 ≠ b) :
  Inv X pins σ H' { s with heap:=h',gens:=g',drawn:=d',toks:=t' }:=by
 obtain ⟨m,⟨o,es,ep,ho,r⟩,_⟩:=id I.loc
 obtain ⟨sl,hL⟩:=u.any ho I.free fun z=>(hch _ z).2.1 rfl
 exact I.step (ch:=ch) hch (fun b o hL hb hc e n=>u.keep b o e n (fun z=>(List.mem_cons.mp (I.stkSub b z)).elim hL hb) hc) (fun b o _ _ hc e n=>u.any e n hc) (fun b o hc e n=>u.free b o e n hc) (fun b o hc e=>u.there b o e hc) u.tups u.frzs u.tbls (fun m' hm=>by
  obtain ⟨o',es',ep',ho',r'⟩:=hm
  rw [ho] at ho'; cases ho'
  exact ⟨_,es',ep',hL,r'⟩) hok hg
theorem Inv.turned {t' : Nat} {it : Addr} (I : Inv X pins σ H s) (k : ∀ b o,b ≠ it→s.heap.get? b = some o→h'.get? b = some o) (hn : H it = none) (hL : it ≠ X.env.locals)
  (h1 : it ∈ X.ex ∨ X.s₀.heap.objs.size ≤ it) (h2 : ∀ x c,X.env.cells.lookup x = some c→c ≠ it) (h3 : ∀ p ∈ X.pn ++ pins,p.1 ≠ it) : Inv X pins σ H { s with heap:=h',toks:=t' }:=by
 have nit : ∀ b u,H b = some u→b ≠ it:=fun b u e z=>by rw [z,hn] at e; cases e
 refine I.step (g':=s.gens) (d':=s.drawn) (ch:=[it]) (fun b hb=>?_) (fun b o _ _ hc e _=>k b o (fun z=>hc (by simp [z])) e) (fun b o _ _ hc e _=>⟨o.slots,k b o (fun z=>hc (by simp [z])) e⟩) (fun _ _ _ _ n=>n)
  (fun b o hc e=>⟨o,k b o (fun z=>hc (by simp [z])) e⟩) (fun _ _ e=>e) (fun _ _ _ e=>e) (fun b ps e=>⟨#[],by rw [e]; simp⟩) (fun m hm=>?_) (fun b u e=>?_) I.bare
 ·have e : b = it:=by simpa using hb
  subst e
  exact ⟨h1,hL,h2,h3⟩
 ·obtain ⟨o,es,ep,ho,r⟩:=hm
  exact ⟨o,es,ep,k _ o (Ne.symm hL) ho,r⟩
 ·refine (I.hok b u e).stay (fun c v hc q=>k c v ?_ q) (fun _ q=>q) fun _ _ q=>q
  rcases hc with z | z
  ·rw [z]; exact nit b u e
  ·exact nit c _ z
theorem Inv.tok (I : Inv X pins σ H s) (t : Nat) : Inv X pins σ H { s with toks:=t }:=I.un (h':=s.heap) (t':=t) Un.refl I.hok
theorem Inv.kept {t' : Nat} (I : Inv X pins σ H s) (k : ∀ b u,s.heap.get? b = some u→h'.get? b = some u) : Inv X pins σ H { s with heap:=h',toks:=t' }:=I.un (Un.kept k) (I.hok.kept k)
theorem Inv.laid {a : Addr} {o : HO} {t' : Nat} (I : Inv X pins σ H s) (k : ∀ b u,s.heap.get? b = some u→h'.get? b = some u) (hp : s.heap.objs.size ≤ a) (new : ObjOk X.prog X.w (upd H a o) h' a o) :
  Inv X pins σ (upd H a o) { s with heap:=h',toks:=t' }:=I.un (Un.laid k hp (I.hok.fresh hp)) (I.hok.laid k hp new)
theorem Inv.write {x e : Addr} {o : HO} {t' : Nat} (I : Inv X pins σ H s) (mu : Mut (H x)) (he : e = x ∨ H e = some (.own x)) (k : ∀ b u,b ≠ e→s.heap.get? b = some u→h'.get? b = some u) (heo : ∃ u,h'.get? e = some u)
  (new : ObjOk X.prog X.w (upd H x o) h' x o) : Inv X pins σ (upd H x o) { s with heap:=h',toks:=t' }:=I.un (Un.write mu he k heo) (I.hok.write mu he k heo new)
theorem Inv.pins_of {pins' : List (Addr × Obj)} (I : Inv X pins σ H s) (h : ∀ p ∈ pins',s.heap.get? p.1 = some p.2∧H p.1 = none∧p.1 ≠ X.env.locals∧p.1 ∉ X.fs∧∀ v,p.2.data ≠ .cell v) : Inv X pins' σ H s :=
 ⟨I.ok,I.os,I.bare,I.base,I.loc,I.cell,I.free,I.freeC,fun p hp=>(List.mem_append.mp hp).elim (fun z=>I.pin p (List.mem_append_left _ z)) (h p),I.hok,I.len⟩
theorem nodup_ix {N : List Str} (hN : N.Nodup) {i j : Nat} {x : Str} (a : N[i]? = some x) (b : N[j]? = some x) : i = j:=by
 obtain ⟨h1,e1⟩:=List.getElem?_eq_some_iff.mp a
 obtain ⟨h2,e2⟩:=List.getElem?_eq_some_iff.mp b
 exact (List.getElem_inj hN).mp (e1.trans e2.symm)
theorem store_ok2 {M : Model} {A : Around} {E : Value→Shared→Prop} {i : Nat} {x : Str} {v : V} {u : Value} {Q : Unit→Shared→Prop} (I : Inv X pins σ H s) (hN : X.N.Nodup) (hi : X.N[i]? = some x) (hx : Loc X.env.scope x) (r : RelV v u)
  (h : ∀ s',Inv X pins (σ.set i (some v)) H s'→(∃ a,Heap.SameBut a s.heap s'.heap∧(a = X.env.locals ∨ X.env.cells.lookup x = some a))→Q () s') (hf : X.fn x = true ∨ X.env.scope.names.lookup x = some .local:=by first | exact .inl rfl | exact .inr rfl | assumption) : wpAny M A (storeName X.env x u) Q E s:=by
 obtain ⟨m,hn,hl⟩:=id I.loc
 have hcls : (X.env.scope.kind == .class || (X.env.scope.kind == .module && X.env.locals != X.env.globals)) = false:=by rw [I.ok.kind]; rfl
 have hiσ : i < σ.length:=by rw [I.len]; exact (List.getElem?_eq_some_iff.mp hi).1
 have cne:=I.cne
 have tracked : ∀ {a : Addr} {h' : Heap},(∃ o,s.heap.get? a = some o∧H a = none)→Heap.SameBut a s.heap h'→HOk X.prog X.w H h':=fun {a h'} ha hs b ob e=>by
  obtain ⟨_,_,hfree⟩:=ha
  refine (I.hok b ob e).stay (fun c w' hc q=>(hs.2 c ?_).trans q) (fun _ q=>q) fun _ _ q=>q
  rintro rfl
  rcases hc with rfl | hc
  ·rw [hfree] at e; cases e
  ·rw [hfree] at hc; cases hc
 rcases hx with hk | hk
 ·refine wpAny_storeName_local hk hn (fun h' hn' hs=>?_) hcls
  obtain ⟨oL,_,_,hoL,_⟩:=id hn
  refine h _ ⟨I.ok,I.os,I.bare,⟨fun b o e n hb hx=>?_,fun b o e n hb hx=>?_,I.base.free,fun b o e hx=>?_,I.base.tups,I.base.frzs,I.base.tbls⟩,⟨_,hn',fun j y v' e1 e2 e3=>?_⟩,fun y c e=>?_,I.free,I.freeC,fun p hp=>?_,tracked ⟨oL,hoL,I.free⟩ hs,by simpa using I.len⟩ ⟨_,hs,.inl rfl⟩
  ·exact (hs.2 b (Nat.ne_of_lt (Nat.lt_of_lt_of_le (Heap.lt_size e) I.ok.above))).trans (I.base.keep b o e n hb hx)
  ·obtain ⟨sl,e1⟩:=I.base.slot b o e n hb hx
   exact ⟨sl,(hs.2 b (Nat.ne_of_lt (Nat.lt_of_lt_of_le (Heap.lt_size e) I.ok.above))).trans e1⟩
  ·obtain ⟨o',e1⟩:=I.base.there b o e hx
   exact ⟨o',(hs.2 b (Nat.ne_of_lt (Nat.lt_of_lt_of_le (Heap.lt_size e) I.ok.above))).trans e1⟩
  ·by_cases hj : j = i
   ·subst hj
    rw [hi] at e1; cases e1
    rw [List.getElem?_set_self hiσ] at e2
    cases e2
    exact ⟨u,r,.inl ⟨hk,by simp⟩⟩
   ·rw [List.getElem?_set_ne (Ne.symm hj)] at e2
    obtain ⟨u',r',q⟩:=hl j y v' e1 e2 e3
    refine ⟨u',r',?_⟩
    rcases q with ⟨k,e⟩ | ⟨k,c,e,z⟩
    ·refine .inl ⟨k,?_⟩
     have : y ≠ x:=fun e=>hj (nodup_ix hN e1 (e ▸ hi))
     simp [this,e]
    ·exact .inr ⟨k,c,e,z.sameBut hs (cne y c e)⟩
  ·obtain ⟨w',z⟩:=I.cell y c e
   exact ⟨w',z.sameBut hs (cne y c e)⟩
  ·obtain ⟨e,n,ne,nf,d⟩:=I.pin p hp
   exact ⟨(hs.2 p.1 ne).trans e,n,ne,nf,d⟩
 ·have hfn : X.fn x = true:=by
   rcases hf with z | z
   ·exact z
   ·rw [z] at hk; cases hk
  obtain ⟨c,hc⟩:=I.ok.has x (.inl hk)
  obtain ⟨w',z⟩:=I.cell x c hc
  refine wpAny_storeName_cell I.ok.kind hk hc z (fun h' hc' hs=>?_)
  obtain ⟨oc,hoc,hocd⟩:=id z
  refine h { s with heap:=h' } ⟨I.ok,I.os,I.bare,⟨fun b o e n hb hx=>?_,fun b o e n hb hx=>?_,I.base.free,fun b o e hx=>?_,I.base.tups,I.base.frzs,I.base.tbls⟩,⟨m,hn.sameBut hs (Ne.symm (cne x c hc)),fun j y v' e1 e2 e3=>?_⟩,fun y c' e=>?_,I.free,I.freeC,fun p hp=>?_,tracked ⟨oc,hoc,I.freeC x c hc⟩ hs,by simpa using I.len⟩ ⟨c,hs,.inr hc⟩
  ·exact (hs.2 b (Nat.ne_of_lt (Nat.lt_of_lt_of_le (Heap.lt_size e) (I.ok.cab x c hfn hc)))).trans (I.base.keep b o e n hb hx)
  ·obtain ⟨sl,e1⟩:=I.base.slot b o e n hb hx
   exact ⟨sl,(hs.2 b (Nat.ne_of_lt (Nat.lt_of_lt_of_le (Heap.lt_size e) (I.ok.cab x c hfn hc)))).trans e1⟩
  ·obtain ⟨o',e1⟩:=I.base.there b o e hx
   exact ⟨o',(hs.2 b (Nat.ne_of_lt (Nat.lt_of_lt_of_le (Heap.lt_size e) (I.ok.cab x c hfn hc)))).trans e1⟩
  ·by_cases hj : j = i
   ·subst hj
    rw [hi] at e1; cases e1
    rw [List.getElem?_set_self hiσ] at e2
    cases e2
    exact ⟨u,r,.inr ⟨.inl hk,c,hc,hc'⟩⟩
   ·rw [List.getElem?_set_ne (Ne.symm hj)] at e2
    obtain ⟨u',r',q⟩:=hl j y v' e1 e2 e3
    refine ⟨u',r',?_⟩
    rcases q with q | ⟨k,c',e,z'⟩
    ·exact .inl q
    ·refine .inr ⟨k,c',e,z'.sameBut hs ?_⟩
     rintro rfl
     exact hj (nodup_ix hN e1 (I.ok.inj _ _ _ e hc ▸ hi))
  ·by_cases hcc : c' = c
   ·subst hcc; exact ⟨_,hc'⟩
   ·obtain ⟨w2,z2⟩:=I.cell y c' e
    exact ⟨w2,z2.sameBut hs hcc⟩
  ·obtain ⟨e,n,ne,nf,d⟩:=I.pin p hp
   refine ⟨(hs.2 p.1 ?_).trans e,n,ne,nf,d⟩
   intro q
   rw [q,hoc] at e
   have q' : oc = p.2:=Option.some.inj e
   exact d w' (by rw [← q']; exact hocd)
theorem store_ok {M : Model} {A : Around} {E : Value→Shared→Prop} {i : Nat} {x : Str} {v : V} {u : Value} {Q : Unit→Shared→Prop} (I : Inv X pins σ H s) (hN : X.N.Nodup) (hi : X.N[i]? = some x) (hx : Loc X.env.scope x) (r : RelV v u)
  (h : ∀ s',Inv X pins (σ.set i (some v)) H s'→Q () s') (hf : X.fn x = true ∨ X.env.scope.names.lookup x = some .local:=by first | exact .inl rfl | exact .inr rfl | assumption) : wpAny M A (storeName X.env x u) Q E s :=
 store_ok2 I hN hi hx r (fun s' I' _=>h s' I') hf
theorem Inv.call' {s' : Shared} {ch : List Addr} (I : Inv X pins σ H s) (ho : s'.os = s.os) (u : Un (frs X.stack) ch H H' s.heap s'.heap) (hok : HOk X.prog X.w H' s'.heap) (hg : AllBare s'.gens)
  (hch : ∀ b ∈ ch,(b ∈ X.ex ∨ X.s₀.heap.objs.size ≤ b)∧b ≠ X.env.locals∧(∀ x c,X.env.cells.lookup x = some c→c ≠ b)∧∀ p ∈ X.pn ++ pins,p.1 ≠ b) : Inv X pins σ H' s':=by
 obtain ⟨h',g',d',t',o'⟩:=s'
 have e : o' = s.os:=ho
 subst e
 exact I.call (g':=g') (t':=t') (d':=d') u hok hg hch
end
abbrev XK:=Value→Option Addr→Hp→Prop
abbrev St:=List (Option V)
abbrev VK:=V→Hp→Prop
abbrev TE:=St→Hp→VK→Prop
abbrev TT:=St→Hp→(Bool→Hp→Prop)→Prop
abbrev TA:=St→Hp→(List V→Hp→Prop)→Prop
structure Ends where
 nx : St→Hp→Prop
 rt : VK
 bk : St→Hp→Prop:=fun _ _=>False
 ct : St→Hp→Prop:=fun _ _=>False
abbrev TS:=Ends→St→Hp→Prop
def EP (X : Cx) (pins : List (Addr × Obj)) (σ : St) (Q : VK) (u : Value) (s' : Shared) : Prop:=∃ v H',Inv X pins σ H' s'∧RelV v u∧Q v H'
def TP (X : Cx) (pins : List (Addr × Obj)) (σ : St) (Q : Bool→Hp→Prop) (b : Bool) (s' : Shared) : Prop:=∃ H',Inv X pins σ H' s'∧Q b H'
def AP (X : Cx) (pins : List (Addr × Obj)) (σ : St) (Q : List V→Hp→Prop) (us : List Value) (s' : Shared) : Prop:=∃ vs H',Inv X pins σ H' s'∧Vals vs us∧Q vs H'
def SP (X : Cx) (pins : List (Addr × Obj)) (D : Ends) (f : Flow) (s' : Shared) : Prop :=
 match f with
 | .next=>∃ σ' H',Inv X pins σ' H' s'∧D.nx σ' H'
 | .brk=>∃ σ' H',Inv X pins σ' H' s'∧D.bk σ' H'
 | .cont=>∃ σ' H',Inv X pins σ' H' s'∧D.ct σ' H'
 | .ret u=>∃ v σ' H',Inv X pins σ' H' s'∧RelV v u∧D.rt v H'
def PE (X : Cx) (e : Expr) (t : TE) : Prop :=
 ∀ (pins : List (Addr × Obj)) (s : Shared) (σ : St) (H : Hp) (Q : VK),Inv X pins σ H s→t σ H Q→wpAny (model X.prog X.w) X.A (eval e X.env) (EP X pins σ Q) X.xe s
def PT (X : Cx) (e : Expr) (t : TT) : Prop :=
 ∀ (pins : List (Addr × Obj)) (s : Shared) (σ : St) (H : Hp) (Q : Bool→Hp→Prop),Inv X pins σ H s→t σ H Q→wpAny (model X.prog X.w) X.A (isTrue e X.env (eval e X.env)) (TP X pins σ Q) X.xe s
def PW (X : Cx) (e : Expr) (t : TT) : Prop :=
 ∀ (whole : Sem Value) (pins : List (Addr × Obj)) (s : Shared) (σ : St) (H : Hp) (Q : Bool→Hp→Prop),Inv X pins σ H s→t σ H Q→wpAny (model X.prog X.w) X.A (isTrue e X.env whole) (TP X pins σ Q) X.xe s
theorem PW.pt {X : Cx} {e : Expr} {t : TT} (h : PW X e t) : PT X e t:=h _
def PA (X : Cx) (es : List Expr) (t : TA) : Prop :=
 ∀ (pos : Pos) (pins : List (Addr × Obj)) (s : Shared) (σ : St) (H : Hp) (Q : List V→Hp→Prop),Inv X pins σ H s→t σ H Q→wpAny (model X.prog X.w) X.A (spliced (backTo pos (starEach es X.env))) (AP X pins σ Q) X.xe s
def PS (X : Cx) (st : Stmt) (t : TS) : Prop :=
 ∀ (pins : List (Addr × Obj)) (s : Shared) (σ : St) (H : Hp) (D : Ends),Inv X pins σ H s→t D σ H→wpAny (model X.prog X.w) X.A (exec st X.env) (SP X pins D) X.xe s
def PSs (X : Cx) (st : List Stmt) (t : TS) : Prop :=
 ∀ (pins : List (Addr × Obj)) (s : Shared) (σ : St) (H : Hp) (D : Ends),Inv X pins σ H s→t D σ H→wpAny (model X.prog X.w) X.A (execs st X.env) (SP X pins D) X.xe s
theorem thn {α : Type} {t : Sem α} {Q Q' : α→Shared→Prop} {M : Model} {A : Around} {E : Value→Shared→Prop} {s : Shared} (h : wpAny M A t Q E s) (hQ : ∀ a s,Q a s→Q' a s) : wpAny M A t Q' E s:=wpAny_mono h hQ fun _ _ x=>x
end L2
namespace L2
open PySem PySem.Spec PyProof.Rows
section
variable {X : Cx}
inductive tVar (i : Nat) (σ : St) (H : Hp) (Q : VK) : Prop
 | mk : ∀ v,(σ[i]? = some (some v))→(Q v H)→tVar i σ H Q
def tC (v : V) : TE:=fun _ H Q=>Q v H
theorem pe_var {i : Nat} {x : Str} {pos : Pos} (hN : X.N[i]? = some x) (hv : Vis X.env.scope x) (hd : (x == ("__debug__" : Str)) = false := by decide) (hcd : (x == ("__classdict__" : Str)) = false := by decide) : PE X (.Name x pos) (tVar i) := by
 intro pins s σ H Q I h
 obtain ⟨v,e,h⟩:=h
 obtain ⟨m,hn,hl⟩:=I.loc
 obtain ⟨u,r,l⟩:=hl i x v hN e hv
 have fin : EP X pins σ Q u s:=⟨v,H,I,r,h⟩
 rcases l with ⟨hk,hm⟩ | ⟨hk,c,hc,hcell⟩
 ·exact wpAny_Name (wpAny_loadName_local I.ok.kind hk hn hm fin) hd
 ·rcases hk with hk | hk
  ·exact wpAny_Name (wpAny_loadName_cell I.ok.kind hk hc hcell fin) hd
  ·exact wpAny_Name (wpAny_loadName_free I.ok.kind hk hc hcell fin hcd) hd
theorem pe_int {i j pos} : PE X (.Constant (.int i) j pos) (tC (.int i)):=fun _ _ _ H _ I h=>wpAny_Constant_int ⟨.int i,H,I.tok _,⟨_,rfl⟩,h⟩
theorem pe_bl {b j pos} : PE X (.Constant (.bool b) j pos) (tC (.bl b)):=fun _ _ _ H _ I h=>Constant_bool ⟨.bl b,H,I,rfl,h⟩
theorem pe_non {j pos} : PE X (.Constant .none j pos) (tC .non):=fun _ _ _ H _ I h=>Constant_none ⟨.non,H,I,rfl,h⟩
theorem pe_str {x j pos} : PE X (.Constant (.str x) j pos) (tC (.str x)):=fun _ _ _ H _ I h=>Calls.Constant_str ⟨.str x,H,I.tok _,⟨_,rfl⟩,h⟩
def Gl (X : Cx) (x : Str) : Prop:=X.env.kindOf x = some .globalImplicit
theorem ld_glob {E : Value→Shared→Prop} {pins : List (Addr × Obj)} {s : Shared} {σ : St} {H : Hp} {x : Str} {u : Value} {pos : Pos} {Q : Value→Shared→Prop} (I : Inv X pins σ H s) (hg : Gl X x) (hm : X.mg x = some u) (h : Q u s)
  (hd : (x == ("__debug__" : Str)) = false := by decide) : wpAny (model X.prog X.w) X.A (eval (.Name x pos) X.env) Q E s :=
 Calls.Name_function_global I.ok.kind hg (Calls.loadGlobal_global (by rw [I.ok.glob]; exact I.mod.glob.keeps I.bk) hm h) hd
theorem ld_blt {E : Value→Shared→Prop} {pins : List (Addr × Obj)} {s : Shared} {σ : St} {H : Hp} {x : Str} {u : Value} {pos : Pos} {Q : Value→Shared→Prop} (I : Inv X pins σ H s) (hg : Gl X x) (hm : X.mg x = none) (hv : bootBuiltins x = some u) (h : Q u s)
  (hn : x ≠ "__name__" := by decide) (hd : (x == ("__debug__" : Str)) = false := by decide) : wpAny (model X.prog X.w) X.A (eval (.Name x pos) X.env) Q E s := by
 obtain ⟨mb,h1,h2⟩:=I.mod.blt
 exact Calls.Name_function_global I.ok.kind hg (Calls.loadGlobal_builtin (by rw [I.ok.glob]; exact I.mod.glob.keeps I.bk) hm (by rw [I.ok.blt]; exact h1.keeps I.bk) ((h2 x hn).trans hv) h) hd
theorem pe_glob {x : Str} {v : V} {u : Value} {pos : Pos} (hg : Gl X x) (hm : X.mg x = some u) (r : RelV v u) (hd : (x == ("__debug__" : Str)) = false := by decide) : PE X (.Name x pos) (tC v) :=
 fun _ _ _ H _ I h=>ld_glob I hg hm ⟨v,H,I,r,h⟩ hd
theorem pe_bltn {x : Str} {v : V} {u : Value} {pos : Pos} (hg : Gl X x) (hm : X.mg x = none) (hv : bootBuiltins x = some u) (r : RelV v u) (hn : x ≠ "__name__" := by decide) (hd : (x == ("__debug__" : Str)) = false := by decide) : PE X (.Name x pos) (tC v) :=
 fun _ _ _ H _ I h=>ld_blt I hg hm hv ⟨v,H,I,r,h⟩ hn hd
variable {a b : Expr} {ta tb : TE} {pos : Pos}
def PC (X : Cx) (op : CmpOp) (a b : Expr) (t : TE) : Prop :=
 ∀ (pins : List (Addr × Obj)) (s : Shared) (σ : St) (H : Hp) (Q : VK),Inv X pins σ H s→t σ H Q →
  wpAny (model X.prog X.w) X.A (eval a X.env) (fun v s₁=>wpAny (model X.prog X.w) X.A (eval b X.env) (fun u s₂=>wpAny (model X.prog X.w) X.A (compareOp op v u) (EP X pins σ Q) X.xe s₂) X.xe s₁) X.xe s
inductive IsB (Q : Bool→Hp→Prop) (x : V) (H : Hp) : Prop
 | mk : ∀ c,(x = .bl c)→(Q c H)→IsB Q x H
def tB (t : TE) : TT:=fun σ H Q=>t σ H (IsB Q)
theorem pt_val {e : Expr} {t : TE} (h : PE X e t) (he : ∀ whole,isTrue e X.env whole = (do let v ← whole; standAt e.pos; holding [v] (truthy v)):=by intro _; rfl) : PT X e (tB t):=by
 intro pins s σ H Q I hw
 refine isTrue_plain (thn (h pins s σ H _ I hw) fun v s1 ⟨x,H1,I1,r1,q1⟩=>?_) (he _)
 obtain ⟨d,rfl,q⟩:=q1
 cases r1
 exact wpAny_truthy_bool ⟨H1,I1,q⟩
variable {tA tB' : TT} {rest : List Expr}
def tAnd (t u : TT) : TT:=fun σ H Q=>t σ H fun c H1=>if c = true then u σ H1 Q else Q false H1
def tOr (t u : TT) : TT:=fun σ H Q=>t σ H fun c H1=>if c = true then Q true H1 else u σ H1 Q
def tNot (t : TT) : TT:=fun σ H Q=>t σ H fun c H1=>Q (!c) H1
theorem pw_and1 (ha : PT X a tA) : PW X (.BoolOp .And [a] pos) tA:=by
 intro wh pins s σ H Q I h
 refine isTrue_and (thn (ha pins s σ H Q I h) fun c s1 e=>?_)
 cases c with
 | true=>exact isTrue_and_nil e
 | false=>exact e
theorem pw_or1 (ha : PT X a tA) : PW X (.BoolOp .Or [a] pos) tA:=by
 intro wh pins s σ H Q I h
 refine isTrue_or (thn (ha pins s σ H Q I h) fun c s1 e=>?_)
 cases c with
 | false=>exact isTrue_or_nil e
 | true=>exact e
theorem pw_and (ha : PT X a tA) (hb : PW X (.BoolOp .And (b :: rest) pos) tB') : PW X (.BoolOp .And (a :: b :: rest) pos) (tAnd tA tB'):=by
 intro wh pins s σ H Q I h
 refine isTrue_and (thn (ha pins s σ H _ I h) fun c s1 ⟨H1,I1,q1⟩=>?_)
 cases c with
 | true=>exact hb wh pins s1 σ H1 Q I1 q1
 | false=>exact ⟨H1,I1,q1⟩
theorem pw_or (ha : PT X a tA) (hb : PW X (.BoolOp .Or (b :: rest) pos) tB') : PW X (.BoolOp .Or (a :: b :: rest) pos) (tOr tA tB'):=by
 intro wh pins s σ H Q I h
 refine isTrue_or (thn (ha pins s σ H _ I h) fun c s1 ⟨H1,I1,q1⟩=>?_)
 cases c with
 | true=>exact ⟨H1,I1,q1⟩
 | false=>exact hb wh pins s1 σ H1 Q I1 q1
theorem pt_not (ha : PT X a tA) : PT X (.UnaryOp .Not a pos) (tNot tA):=by
 intro pins s σ H Q I h
 exact isTrue_not (ha pins s σ H (fun c H1=>Q (!c) H1) I h)
def tAndV (ta tb : TE) : TE:=fun σ H Q=>ta σ H fun x H1=>∃ c,x = .bl c∧if c = true then tb σ H1 Q else Q (.bl false) H1
def tOrV (ta tb : TE) : TE:=fun σ H Q=>ta σ H fun x H1=>∃ c,x = .bl c∧if c = true then Q (.bl true) H1 else tb σ H1 Q
def tNotV (ta : TE) : TE:=fun σ H Q=>ta σ H fun x H1=>∃ c,x = .bl c∧Q (.bl (!c)) H1
theorem pe_one {op} {t : TE} (h : PE X a t) : PE X (.BoolOp op [a] pos) t:=fun pins s σ H Q I hw=>BoolOp_one (h pins s σ H Q I hw)
theorem pe_and (ha : PE X a ta) (hb : PE X (.BoolOp .And (b :: rest) pos) tb) : PE X (.BoolOp .And (a :: b :: rest) pos) (tAndV ta tb):=by
 intro pins s σ H Q I h
 refine BoolOp_and (thn (ha pins s σ H _ I h) fun v s1 ⟨x,H1,I1,r1,q1⟩=>?_)
 obtain ⟨c,rfl,q1⟩:=q1
 cases r1
 refine wpAny_truthy_bool ?_
 cases c with
 | true=>exact hb pins s1 σ H1 Q I1 q1
 | false=>exact ⟨.bl false,H1,I1,rfl,q1⟩
theorem pe_or (ha : PE X a ta) (hb : PE X (.BoolOp .Or (b :: rest) pos) tb) : PE X (.BoolOp .Or (a :: b :: rest) pos) (tOrV ta tb):=by
 intro pins s σ H Q I h
 refine BoolOp_or (thn (ha pins s σ H _ I h) fun v s1 ⟨x,H1,I1,r1,q1⟩=>?_)
 obtain ⟨c,rfl,q1⟩:=q1
 cases r1
 refine wpAny_truthy_bool ?_
 cases c with
 | false=>exact hb pins s1 σ H1 Q I1 q1
 | true=>exact ⟨.bl true,H1,I1,rfl,q1⟩
theorem pe_not (ha : PE X a ta) : PE X (.UnaryOp .Not a pos) (tNotV ta):=by
 intro pins s σ H Q I h
 refine UnaryOp_ (thn (ha pins s σ H _ I h) fun v s1 ⟨x,H1,I1,r1,q1⟩=>?_)
 obtain ⟨c,rfl,q1⟩:=q1
 cases r1
 exact not_of (wpAny_truthy_bool ⟨.bl (!c),H1,I1,rfl,q1⟩)
def tIf (t : TT) (ta tb : TE) : TE:=fun σ H Q=>t σ H fun c H1=>if c = true then ta σ H1 Q else tb σ H1 Q
theorem pe_ifExp {c : Expr} (hc : PT X c tA) (ha : PE X a ta) (hb : PE X b tb) : PE X (.IfExp c a b pos) (tIf tA ta tb):=by
 intro pins s σ H Q I h
 refine wpAny_IfExp (thn (hc pins s σ H _ I h) fun d s1 ⟨H1,I1,q1⟩=>?_)
 cases d with
 | true=>exact ha pins s1 σ H1 Q I1 q1
 | false=>exact hb pins s1 σ H1 Q I1 q1
end
end L2
namespace L2
open PySem PySem.Spec PyProof.Rows
def SqL (K : PySem.W.Frag) (H : Hp) (a : Addr) (xs : List V) : Prop :=
 Rd H a (.lst xs) ∨
  ∃ (o : Obj) (its : Array Value) (n : Nat), K.lookup a = some o ∧ o.cls = .type "list" ∧ o.dict = none ∧ o.data = .seq its n ∧ its.size ≤ sizeLine ∧ Vals xs its.toList
def SqT (K : PySem.W.Frag) (H : Hp) (a : Addr) (xs : List V) : Prop :=
 Rd H a (.tup xs) ∨
  ∃ (o : Obj) (its : Array Value) (n : Nat), K.lookup a = some o ∧ o.cls = .type "tuple" ∧ o.data = .seq its n ∧ its.size ≤ sizeLine ∧ Vals xs its.toList
def absV : Value→Option V
 | .none=>some .non
 | .bool b=>some (.bl b)
 | .int i _=>some (.int i)
 | .str x _=>some (.str x)
 | .bytes b _=>some (.byt b)
 | .float b _=>some (.flt b)
 | .ref a=>some (.ref a)
 | .type n=>some (.ty n)
 | _=>none
theorem RelV.abs {x : V} {u : Value} (r : RelV x u) : absV u = some x:=by
 cases x with
 | non=>cases r; rfl
 | bl _=>cases r; rfl
 | int _=>obtain ⟨t,rfl⟩:=r; rfl
 | str _=>obtain ⟨t,rfl⟩:=r; rfl
 | byt _=>obtain ⟨t,rfl⟩:=r; rfl
 | flt _=>obtain ⟨t,rfl⟩:=r; rfl
 | ref _=>cases r; rfl
 | ty _=>cases r; rfl
theorem RelV.inj {x y : V} {u : Value} (r : RelV x u) (q : RelV y u) : x = y:=Option.some.inj (r.abs.symm.trans q.abs)
theorem Vals.inj : ∀ {xs ys : List V} {us : List Value},Vals xs us→Vals ys us→xs = ys
 | _,_,_,.nil,.nil=>rfl
 | _,_,_,.cons r t,.cons r' t'=>by rw [r.inj r',Vals.inj t t']
section
variable {X : Cx} {pins : List (Addr × Obj)} {σ : St} {H : Hp} {s : Shared} {a : Addr} {xs ys : List V}
theorem SqL.of {K : PySem.W.Frag} (h : H a = some (.lst xs)) : SqL K H a xs:=.inl (.inl h)
theorem SqT.of {K : PySem.W.Frag} (h : H a = some (.tup xs)) : SqT K H a xs:=.inl (.inl h)
theorem Inv.list (I : Inv X pins σ H s) (h : SqL X.K H a xs) : ∃ its : List Value,Vals xs its∧PlainL s.heap a its.toArray∧xs.length ≤ sizeLine:=by
 rcases h with h | ⟨o,its,n,hk,hc,hd,hs,hz,r⟩
 ·obtain ⟨z,its,n,r,e⟩:=h.ok I.hok
  exact ⟨its,r,⟨_,n,e,rfl,rfl,rfl⟩,z⟩
 ·refine ⟨its.toList,r,⟨o,n,I.kIn a o hk,hc,hd,by simpa using hs⟩,?_⟩
  have e:=r.length
  simp only [Array.length_toList] at e
  omega
theorem Inv.tuple (I : Inv X pins σ H s) (h : SqT X.K H a xs) : ∃ its : List Value,Vals xs its∧IsTup s.heap a its.toArray∧xs.length ≤ sizeLine:=by
 rcases h with h | ⟨o,its,n,hk,hc,hs,hz,r⟩
 ·obtain ⟨z,its,r,p⟩:=h.ok I.hok
  exact ⟨its,r,p,z⟩
 ·refine ⟨its.toList,r,⟨o,I.kIn a o hk,hc,n,by simpa using hs⟩,?_⟩
  have e:=r.length
  simp only [Array.length_toList] at e
  omega
theorem Inv.list_inj (I : Inv X pins σ H s) (h : SqL X.K H a xs) (h' : SqL X.K H a ys) : xs = ys:=by
 obtain ⟨its,r,⟨o,n,e,_,_,d⟩,_⟩:=I.list h
 obtain ⟨its',r',⟨o',n',e',_,_,d'⟩,_⟩:=I.list h'
 rw [e] at e'; cases e'
 rw [d] at d'
 injection d' with d1 _
 have : its = its':=by simpa using congrArg Array.toList d1
 subst this
 exact r.inj r'
end
abbrev Cx.wish (X : Cx) (E : Value→Shared→Prop) : Cx:={ X with xe:=E }
abbrev Cx.nox (X : Cx) : Cx:=X.wish fun _ _=>False
theorem Cx.Ok.wish {X : Cx} (ok : X.Ok) (E : Value→Shared→Prop) : (X.wish E).Ok :=
 ⟨ok.mod,ok.kind,ok.glob,ok.blt,ok.above,ok.inj,ok.has,ok.cab,ok.hd,ok.frames,ok.stk,ok.exf,ok.bs,ok.bsz,ok.noex,ok.exfs,ok.funs,ok.frf⟩
theorem Cx.Ok.unwish {X : Cx} {E : Value→Shared→Prop} (ok : (X.wish E).Ok) : X.Ok :=
 ⟨ok.mod,ok.kind,ok.glob,ok.blt,ok.above,ok.inj,ok.has,ok.cab,ok.hd,ok.frames,ok.stk,ok.exf,ok.bs,ok.bsz,ok.noex,ok.exfs,ok.funs,ok.frf⟩
section
variable {X : Cx} {pins : List (Addr × Obj)} {σ : St} {H : Hp} {s : Shared} {E : Value→Shared→Prop}
theorem Inv.wish (I : Inv X pins σ H s) (E : Value→Shared→Prop) : Inv (X.wish E) pins σ H s:=⟨I.ok.wish E,I.os,I.bare,I.base,I.loc,I.cell,I.free,I.freeC,I.pin,I.hok,I.len⟩
theorem Inv.unwish (I : Inv (X.wish E) pins σ H s) : Inv X pins σ H s:=⟨I.ok.unwish,I.os,I.bare,I.base,I.loc,I.cell,I.free,I.freeC,I.pin,I.hok,I.len⟩
theorem SP.unwish {D : Ends} {f : Flow} {s' : Shared} (h : SP (X.wish E) pins D f s') : SP X pins D f s':=by
 cases f with
 | next=>obtain ⟨σ',H',I,q⟩:=h; exact ⟨σ',H',I.unwish,q⟩
 | brk=>obtain ⟨σ',H',I,q⟩:=h; exact ⟨σ',H',I.unwish,q⟩
 | cont=>obtain ⟨σ',H',I,q⟩:=h; exact ⟨σ',H',I.unwish,q⟩
 | ret u=>obtain ⟨v,σ',H',I,r,q⟩:=h; exact ⟨v,σ',H',I.unwish,r,q⟩
theorem PE.nox {e : Expr} {t : TE} (h : PE X.nox e t) : PE X e t:=fun pins s σ H Q I hw =>
 wpAny_mono (h pins s σ H Q (I.wish _) hw) (fun _ _ ⟨v,H',I',r,q⟩=>⟨v,H',I'.unwish,r,q⟩) fun _ _ z=>False.elim z
theorem PT.nox {e : Expr} {t : TT} (h : PT X.nox e t) : PT X e t:=fun pins s σ H Q I hw =>
 wpAny_mono (h pins s σ H Q (I.wish _) hw) (fun _ _ ⟨H',I',q⟩=>⟨H',I'.unwish,q⟩) fun _ _ z=>False.elim z
theorem PSs.nox {st : List Stmt} {t : TS} (h : PSs X.nox st t) : PSs X st t:=fun pins s σ H D I hw =>
 wpAny_mono (h pins s σ H D (I.wish _) hw) (fun _ _ q=>q.unwish) fun _ _ z=>False.elim z
end
section
variable {X : Cx} {st : Stmt} {rest : List Stmt} {t u : TS} {e : Expr} {te : TE} {pos : Pos}
def tNext : TS:=fun D σ H=>D.nx σ H
def tSeq (t u : TS) : TS:=fun D σ H=>t { D with nx:=u D } σ H
theorem pss_nil : PSs X [] tNext:=fun _ _ σ H _ I h=>wpAny_execs_nil ⟨σ,H,I,h⟩
theorem pss_cons (h1 : PS X st t) (h2 : PSs X rest u) : PSs X (st :: rest) (tSeq t u):=by
 intro pins s σ H D I h
 refine wpAny_execs_cons (thn (h1 pins s σ H { D with nx:=u D } I h) fun f s1 q=>?_)
 cases f with
 | next =>
  obtain ⟨σ',H',I',q⟩:=q
  exact h2 pins s1 σ' H' D I' q
 | ret v=>exact q
 | brk=>exact q
 | cont=>exact q
theorem pss_one (h1 : PS X st t) : PSs X [st] t:=by
 intro pins s σ H D I h
 refine wpAny_execs_cons (thn (h1 pins s σ H D I h) fun f s1 q=>?_)
 cases f with
 | next=>exact wpAny_execs_nil q
 | ret v=>exact q
 | brk=>exact q
 | cont=>exact q
theorem Inv.quiet {pins : List (Addr × Obj)} {σ : St} {H : Hp} {s : Shared} (I : Inv X pins σ H s) : interactive X.env = false:=by simp [interactive,I.ok.kind]
def tDrop (te : TE) : TS:=fun D σ H=>te σ H fun _ H1=>D.nx σ H1
theorem ps_expr (he : PE X e te) (hs : swapsWith e none pos.line X.env = pure false:=by rfl) : PS X (.Expr e pos) (tDrop te):=by
 intro pins s σ H D I h
 exact wpAny_Expr_any (thn (he pins s σ H _ I h) fun v s1 ⟨x,H1,I1,r1,q1⟩=>⟨σ,H1,I1,q1⟩) I.quiet hs
def tRet (te : TE) : TS:=fun D σ H=>te σ H D.rt
theorem ps_ret (he : PE X e te) : PS X (.Return (some e) pos) (tRet te):=by
 intro pins s σ H D I h
 exact wpAny_Return_some (thn (he pins s σ H _ I h) fun v s1 ⟨x,H1,I1,r1,q1⟩=>⟨x,σ,H1,I1,r1,q1⟩)
def tRetN : TS:=fun D _ H=>D.rt .non H
theorem ps_retN : PS X (.Return none pos) tRetN:=fun _ _ σ H _ I h=>wpAny_Return_none ⟨.non,σ,H,I,rfl,h⟩
def tIfS (c : TT) (t u : TS) : TS:=fun D σ H=>c σ H fun b H1=>if b = true then t D σ H1 else u D σ H1
theorem ps_if {c : Expr} {a b : List Stmt} {tc : TT} (hc : PT X c tc) (ha : PSs X a t) (hb : PSs X b u) : PS X (.If c a b pos) (tIfS tc t u):=by
 intro pins s σ H D I h
 refine wpAny_If (thn (hc pins s σ H _ I h) fun d s1 ⟨H1,I1,q1⟩=>?_)
 cases d with
 | true=>exact ha pins s1 σ H1 D I1 q1
 | false=>exact hb pins s1 σ H1 D I1 q1
def tNever : TS:=fun _ _ _=>False
theorem ps_never : PS X st tNever:=fun _ _ _ _ _ _ h=>h.elim
end
abbrev TG:=V→St→Hp→(St→Hp→Prop)→Prop
abbrev TGs:=List V→St→Hp→(St→Hp→Prop)→Prop
def PG (X : Cx) (target : Expr) (t : TG) : Prop :=
 ∀ (pins : List (Addr × Obj)) (s : Shared) (σ : St) (H : Hp) (v : V) (u : Value) (Q : St→Hp→Prop),Inv X pins σ H s→RelV v u→t v σ H Q →
  wpAny (model X.prog X.w) X.A (assign target X.env u) (fun _ s'=>∃ σ' H',Inv X pins σ' H' s'∧Q σ' H') X.xe s
def PGs (X : Cx) (ts : List Expr) (t : TGs) : Prop :=
 ∀ (pins : List (Addr × Obj)) (s : Shared) (σ : St) (H : Hp) (vs : List V) (us : List Value) (Q : St→Hp→Prop),Inv X pins σ H s→Vals vs us→t vs σ H Q →
  wpAny (model X.prog X.w) X.A (assignInOrder ((assignEach ts X.env).map (·.2)) us) (fun _ s'=>∃ σ' H',Inv X pins σ' H' s'∧Q σ' H') X.xe s
abbrev TSet:=V→V→V→Hp→(Hp→Prop)→Prop
def PSet (X : Cx) (t : TSet) : Prop :=
 ∀ (pins : List (Addr × Obj)) (s : Shared) (σ : St) (H : Hp) (o i v : V) (ov iv u : Value) (Q : Hp→Prop),Inv X pins σ H s→RelV o ov→RelV i iv→RelV v u→t o i v H Q →
  wpAny (model X.prog X.w) X.A (setItem ov iv u) (fun _ s'=>∃ H',Inv X pins σ H' s'∧Q H') X.xe s
section
variable {X : Cx} {pos : Pos}
def gName (i : Nat) : TG:=fun v σ H Q=>Q (σ.set i (some v)) H
theorem pg_name {i : Nat} {x : Str} (hN : X.N.Nodup) (hi : X.N[i]? = some x) (hx : Loc X.env.scope x) (hf : X.fn x = true ∨ X.env.scope.names.lookup x = some .local:=by first | exact .inl rfl | exact .inr rfl | assumption) : PG X (.Name x pos) (gName i):=by
 intro pins s σ H v u Q I r h
 exact wpAny_assign_Name (store_ok I hN hi hx r (fun s' I'=>⟨_,H,I',h⟩) hf)
def gNil : TGs:=fun vs σ H Q=>vs = []∧Q σ H
inductive gCons (t : TG) (u : TGs) (vs : List V) (σ : St) (H : Hp) (Q : St→Hp→Prop) : Prop
 | mk : ∀ v r,(vs = v :: r)→(t v σ H fun σ' H'=>u r σ' H' Q)→gCons t u vs σ H Q
theorem pgs_nil : PGs X [] gNil:=by
 intro pins s σ H vs us Q I r h
 obtain ⟨e,h⟩:=h
 subst e
 cases r
 exact assignInOrder_nil ⟨σ,H,I,h⟩
theorem pgs_cons {e : Expr} {es : List Expr} {t : TG} {u : TGs} (h1 : PG X e t) (h2 : PGs X es u)
  (hs : (assignEach (e :: es) X.env).map (·.2) = assign e X.env :: (assignEach es X.env).map (·.2):=by rfl) : PGs X (e :: es) (gCons t u):=by
 intro pins s σ H vs us Q I r h
 obtain ⟨v,vr,e1,h⟩:=h
 subst e1
 cases r with
 | cons r rr =>
  rw [hs]
  refine assignInOrder_cons (thn (h1 pins s σ H _ _ _ I r h) fun _ s1 ⟨σ1,H1,I1,q1⟩=>?_)
  exact h2 pins s1 σ1 H1 _ _ Q I1 rr q1
inductive gTup (K : PySem.W.Frag) (n : Nat) (t : TGs) (v : V) (σ : St) (H : Hp) (Q : St→Hp→Prop) : Prop
 | mk : ∀ a xs,(v = .ref a)→(SqT K H a xs)→(xs.length = n)→(t xs σ H Q)→gTup K n t v σ H Q
theorem pg_tup {es : List Expr} {k : Nat} {t : TGs} {n : Nat} (hc : X.calm = true) (h : PGs X es t)
  (hn : (assignEach es X.env).length = n:=by rfl) (hst : (assignEach es X.env).findIdx? (·.1) = none:=by rfl) : PG X (.Tuple es k pos) (gTup X.K n t):=by
 intro pins s σ H v u Q I r hw
 obtain ⟨a,xs,e1,hq,hl,hw⟩:=hw
 subst e1
 cases r
 obtain ⟨its,rv,ht,hz⟩:=I.tuple hq
 refine assign_Tuple_tuple (I.ok.hd hc) ht (by simp [hn,← hl,rv.length]) hst fun h' hx=>?_
 have I1 : Inv X pins σ H { s with heap:=h' }:=I.kept (t':=s.toks) fun b o e=>hx b o (Nat.ne_of_lt (Heap.lt_size e)) e
 exact h pins _ σ H xs _ Q I1 (by simpa using rv) hw
def gSub (to ti : TE) (t : TSet) : TG:=fun v σ H Q=>to σ H fun o H1=>ti σ H1 fun i H2=>t o i v H2 fun H3=>Q σ H3
theorem pg_sub {o i : Expr} {to ti : TE} {t : TSet} (ho : PE X o to) (hi : PE X i ti) (hs : PSet X t)
  (ha : ∀ v,assign (.Subscript o i pos) X.env v = (do
   let ov ← holding [v] (eval o X.env)
   let iv ← holding [v,ov] (eval i X.env)
   standAt pos
   holding [v,ov,iv] (setItem ov iv v)
   release [v,ov,iv] []):=by intro _; rfl) : PG X (.Subscript o i pos) (gSub to ti t):=by
 intro pins s σ H v u Q I r h
 rw [ha]
 refine wpAny_bind (wpAny_holding (thn (ho pins s σ H _ I h) fun ov s1 ⟨x,H1,I1,r1,q1⟩=>?_))
 refine wpAny_bind (wpAny_holding (thn (hi pins s1 σ H1 _ I1 q1) fun iv s2 ⟨y,H2,I2,r2,q2⟩=>?_))
 refine wpAny_bind (wpAny_standAt (wpAny_bind (wpAny_holding (thn (hs pins s2 σ H2 x y v ov iv u _ I2 r1 r2 r q2) fun _ s3 ⟨H3,I3,q3⟩=>?_))))
 exact wpAny_release ⟨σ,H3,I3,q3⟩
def tAsg (te : TE) (g : TG) : TS:=fun D σ H=>te σ H fun x H1=>g x σ H1 D.nx
theorem ps_asg {tg e : Expr} {te : TE} {g : TG} (he : PE X e te) (hg : PG X tg g) (hs : swapsWithSole [tg] e pos.line X.env = pure false:=by rfl) (hw : swappedStores [tg] e X.env = pure none:=by rfl)
  (h1 : (assignEach [tg] X.env).map (·.2) = [assign tg X.env]:=by rfl) : PS X (.Assign [tg] e pos) (tAsg te g):=by
 intro pins s σ H D I h
 refine wpAny_Assign_stores (thn (he pins s σ H _ I h) fun v s1 ⟨x,H1,I1,r1,q1⟩=>?_) hs hw
 rw [h1]
 exact thn (hg pins s1 σ H1 x v _ I1 r1 q1) fun _ s2 q=>q
theorem ps_set {i : Nat} {x : Str} {e : Expr} {te : TE} {pos' : Pos} (hN : X.N.Nodup) (hi : X.N[i]? = some x) (hx : Loc X.env.scope x) (he : PE X e te) (hs : swapsWith e (some (.Name x pos')) pos.line X.env = pure false:=by rfl) (hf : X.fn x = true ∨ X.env.scope.names.lookup x = some .local:=by first | exact .inl rfl | exact .inr rfl | assumption) :
  PS X (.Assign [.Name x pos'] e pos) (tAsg te (gName i)):=by
 intro pins s σ H D I h
 refine wpAny_Assign_Name (thn (he pins s σ H _ I h) fun v s1 ⟨y,H1,I1,r1,q1⟩=>?_) hs
 exact store_ok I1 hN hi hx r1 (fun s2 I2=>⟨_,H1,I2,q1⟩) hf
end
section
variable {X : Cx} {pos : Pos}
def tWhile (c : TT) (tb : TS) : TS:=fun D σ H=>∃ W : Nat→St→Hp→Prop,(∃ m,W m σ H)∧∀ m σ H,W m σ H →
 c σ H fun b H1=>if b = true then ∃ N : St→Hp→Prop,(∀ σ' H',N σ' H'→∃ m',m' < m∧W m' σ' H')∧tb { D with nx:=N,ct:=N,bk:=D.nx } σ H1 else D.nx σ H1
theorem ps_while {c : Expr} {body : List Stmt} {tc : TT} {tb : TS} (hp : PassesOwn (model X.prog X.w) X.A X.env X.xe) (hc : PT X c tc) (hb : PSs X body tb) : PS X (.While c body [] pos) (tWhile tc tb):=by
 intro pins s σ H D I h
 obtain ⟨W,⟨m0,w0⟩,turn⟩:=h
 refine wpAny_While (codeAny_whileLoop (fun n s'=>∃ σ' H',Inv X pins σ' H' s'∧W n σ' H') ?_ m0 ⟨σ,H,I,w0⟩)
 rintro n s1 ⟨σ1,H1,I1,w1⟩
 refine wpAny_passesOwn hp (thn (hc pins s1 σ1 H1 _ I1 (turn n σ1 H1 w1)) fun b s2 ⟨H2,I2,q2⟩=>?_)
 cases b with
 | true =>
  obtain ⟨N,hN,q2⟩:=q2
  rw [if_pos rfl]
  refine wpAny_passesOwn hp (thn (hb pins s2 σ1 H2 _ I2 q2) fun f s3 q3=>?_)
  cases f with
  | next =>
   obtain ⟨σ3,H3,I3,n3⟩:=q3
   obtain ⟨m',hm,w3⟩:=hN σ3 H3 n3
   exact ⟨m',hm,σ3,H3,I3,w3⟩
  | cont =>
   obtain ⟨σ3,H3,I3,n3⟩:=q3
   obtain ⟨m',hm,w3⟩:=hN σ3 H3 n3
   exact ⟨m',hm,σ3,H3,I3,w3⟩
  | brk=>exact q3
  | ret v=>exact q3
 | false =>
  rw [if_neg Bool.false_ne_true]
  exact wpAny_execs_nil ⟨σ1,H2,I2,q2⟩
end
structure It where
 go : Nat→Hp→Prop
 yld : Nat→Hp→V→Hp→Prop
 stop : Nat→Hp→Prop
def FpOk (X : Cx) (pins : List (Addr × Obj)) (H : Hp) (b : Addr) : Prop :=
 H b = none∧b ≠ X.env.locals∧b ∉ X.fs∧(b ∈ X.ex ∨ X.s₀.heap.objs.size ≤ b)∧(∀ x c,X.env.cells.lookup x = some c→c ≠ b)∧∀ p ∈ X.pn ++ pins,p.1 ≠ b
theorem Inv.fpOk {X : Cx} {pins : List (Addr × Obj)} {σ : St} {H H' : Hp} {s : Shared} {b : Addr} (I : Inv X pins σ H s) (hb : s.heap.objs.size ≤ b) (hn : H' b = none) : FpOk X pins H' b:=by
 refine ⟨hn,Nat.ne_of_gt (Nat.lt_of_lt_of_le I.lt hb),I.nofs hb,.inr (Nat.le_trans I.sz hb),fun x c e z=>?_,fun p hp z=>?_⟩
 ·obtain ⟨v,q⟩:=I.cell x c e
  exact absurd (Nat.lt_of_lt_of_le q.lt (by rw [z]; exact hb)) (Nat.lt_irrefl _)
 ·exact absurd (Nat.lt_of_lt_of_le (Heap.lt_size (I.pin p hp).1) (by rw [z]; exact hb)) (Nat.lt_irrefl _)
structure Turn (P : Program) (w : World) (K : PySem.W.Frag) (tg : Expr) (J : It) (fp : List Addr) (it : Addr) (tn : Nat→Heap→Prop) : Prop where
 mem : it ∈ fp
 obj : ∀ i h,tn i h→∀ b ∈ fp,∃ o,h.get? b = some o∧∀ v,o.data ≠ .cell v
 keep : ∀ i h h',tn i h→(∀ b ∈ fp,∀ o,h.get? b = some o→h'.get? b = some o)→tn i h'
 item : ∀ (X : Cx),X.prog = P→X.w = w→X.K = K→X.calm = true→∀ (i : Nat) (pins : List (Addr × Obj)) (s : Shared) (σ : St) (H : Hp) (E : Value→Shared→Prop),Inv X pins σ H s→(∀ b ∈ fp,FpOk X pins H b)→tn i s.heap→J.go i H →
  wpAny (model P w) X.A (pyNext (.ref it)) (fun r s1=>∃ u,r = some u ∧
   wpAny (model P w) X.A (letOwnedTupleGo tg (.ref it) u) (fun _ s2=>∃ x H',Inv X pins σ H' s2∧RelV x u∧J.yld i H x H'∧tn (i + 1) s2.heap∧∀ b ∈ fp,H' b = none) E s1) E s
 done : ∀ (X : Cx),X.prog = P→X.w = w→X.K = K→X.calm = true→∀ (i : Nat) (pins : List (Addr × Obj)) (s : Shared) (σ : St) (H : Hp) (E : Value→Shared→Prop),Inv X pins σ H s→(∀ b ∈ fp,FpOk X pins H b)→tn i s.heap→J.stop i H →
  wpAny (model P w) X.A (pyNext (.ref it)) (fun r s1=>r = none∧Inv X pins σ H s1) E s
 self : ∀ (A : Around) (i : Nat) (s : Shared) (Q : Value→Shared→Prop) (E : Value→Shared→Prop),tn i s.heap→Q (.ref it) s→wpAny (model P w) A (pyIter (.ref it)) Q E s
abbrev TI:=St→Hp→(It→Hp→Prop)→Prop
def PIE (X : Cx) (pins : List (Addr × Obj)) (σ : St) (tg : Expr) (R : It→Hp→Prop) (itv : Value) (s2 : Shared) : Prop :=
 ∃ (it : Addr) (fp : List Addr) (tn : Nat→Heap→Prop) (J : It) (H' : Hp),itv = .ref it∧Inv X pins σ H' s2∧Turn X.prog X.w X.K tg J fp it tn∧tn 0 s2.heap∧(∀ b ∈ fp,FpOk X pins H' b)∧R J H'
def PI (X : Cx) (tg iter : Expr) (wi : TI) : Prop :=
 ∀ (pins : List (Addr × Obj)) (s : Shared) (σ : St) (H : Hp) (R : It→Hp→Prop),Inv X pins σ H s→wi σ H R →
  wpAny (model X.prog X.w) X.A (eval iter X.env) (fun v s1=>wpAny (model X.prog X.w) X.A (pyIter v) (PIE X pins σ tg R) X.xe s1) X.xe s
theorem go_of {M : Model} {A : Around} {E : Value→Shared→Prop} {s : Shared} {tg : Expr} {it : Addr} {u : Value} {o : Obj} {n : String} {vs : Array Value} {Q : Unit→Shared→Prop} (ho : s.heap.get? it = some o) (hc : o.cls = .type n) (hd : o.data = .fields vs)
  (hn : ["enumerate", "zip", "dict_itemiterator", "dict_reverseitemiterator", "odict_iterator", "itertools.zip_longest", "itertools.pairwise"].contains n = false) (hQ : Q () s) : wpAny M A (letOwnedTupleGo tg (.ref it) u) Q E s := by
 unfold letOwnedTupleGo
 cases tg <;> first
  | exact wpAny_pure hQ
  | (cases u <;> first
    | exact wpAny_pure hQ
    | (refine wpAny_bind (wpAny_load ho ?_)
       rw [hc,hd]
       show wpAny M A (if (["enumerate", "zip", "dict_itemiterator", "dict_reverseitemiterator", "odict_iterator", "itertools.zip_longest", "itertools.pairwise"].contains n && vs[0]? == some (rawInt _)) = true then _ else _) Q E s
       rw [if_neg (by intro h; rw [hn,Bool.false_and] at h; cases h)]
       exact wpAny_pure hQ))
def Itl (K : PySem.W.Frag) (a : Addr) : It :=
 ⟨fun i H=>∃ xs x,SqL K H a xs∧xs[i]? = some x,fun i H x H'=>H' = H∧∀ xs,SqL K H a xs→xs[i]? = some x,fun i H=>∃ xs,SqL K H a xs∧xs.length ≤ i⟩
def Itr (lo : Int) (n : Nat) : It:=⟨fun i _=>i < n,fun i H x H'=>H' = H∧x = .int (lo + i),fun i _=>n ≤ i⟩
theorem turn_list {P : Program} {w : World} {K : PySem.W.Frag} {tg : Expr} (a it : Addr) : Turn P w K tg (Itl K a) [it] it (fun i h=>h.IsListIter it a i) where
 mem:=by simp
 obj:=fun i h st b hb=>by
  have e : b = it:=by simpa using hb
  subst e
  obtain ⟨o,e,c,d⟩:=st
  exact ⟨o,e,fun v z=>by rw [d] at z; cases z⟩
 keep:=fun i h h' st k=>st.at fun o e=>k it (by simp) o e
 item:=by
  intro X hP hw hK hc i pins s σ H E I hf st hg
  subst hP hw hK
  obtain ⟨xs,x,hq,hx⟩:=hg
  obtain ⟨its,rv,p,hz⟩:=I.list hq
  obtain ⟨u,hu,ru⟩:=rv.get hx
  obtain ⟨f0,f1,f2,f3,f4,f5⟩:=hf it (by simp)
  refine wpAny_pyNext_list_item st p.isList (x:=u) (by simpa using hu) fun h' st' sb=>?_
  have I1 : Inv X pins σ H { s with heap:=h' }:=I.turned (t':=s.toks) (fun b o hb e=>(sb.2 b hb).trans e) f0 f1 f3 f4 f5
  obtain ⟨o,e,c,d⟩:=id st'
  exact ⟨u,rfl,go_of (s:={ s with heap:=h' }) e c d (by decide) ⟨x,H,I1,ru,⟨rfl,fun ys hy=>by rw [I.list_inj hy hq]; exact hx⟩,st',fun b hb=>(hf b hb).1⟩⟩
 done:=by
  intro X hP hw hK hc i pins s σ H E I hf st hg
  subst hP hw hK
  obtain ⟨xs,hq,hx⟩:=hg
  obtain ⟨its,rv,p,hz⟩:=I.list hq
  obtain ⟨f0,f1,f2,f3,f4,f5⟩:=hf it (by simp)
  have hl:=rv.length
  exact wpAny_pyNext_list_end (I.ok.hd hc) st p.isList (by simp; omega) fun h' eb=>⟨rfl,I.turned (t':=s.toks) (fun b o hb e=>eb b o hb e) f0 f1 f3 f4 f5⟩
 self:=fun _ _ _ _ _ st h=>wpAny_pyIter_listiter st h
theorem turn_range {P : Program} {w : World} {K : PySem.W.Frag} {tg : Expr} (it : Addr) (lo : Int) (n : Nat) : Turn P w K tg (Itr lo n) [it] it (fun i h=>IsRangeIter h it (lo + (i : Nat) * 1) ((n : Int) - (i : Nat)) 1) where
 mem:=by simp
 obj:=fun i h st b hb=>by
  have e : b = it:=by simpa using hb
  subst e
  exact ⟨_,st,fun v z=>by
   have z' : Data.fields _ = Data.cell v:=z
   cases z'⟩
 keep:=fun i h h' st k=>k it (by simp) _ st
 item:=by
  intro X hP hw hK hc i pins s σ H E I hf st hg
  subst hP hw hK
  obtain ⟨f0,f1,f2,f3,f4,f5⟩:=hf it (by simp)
  have W:=Walks.range (prog:=X.prog) (w:=X.w) (I.ok.hd hc) it lo 1 n
  refine W.item i s _ _ hg st fun v h' tk hv st' kk=>?_
  obtain ⟨t,rfl⟩:=hv
  have I1 : Inv X pins σ H { s with heap:=h',toks:=tk }:=I.turned (fun b o hb e=>kk b o (by simpa using hb) e) f0 f1 f3 f4 f5
  refine ⟨_, rfl, go_of (s := { s with heap := h', toks := tk }) (n := "range_iterator") st' rfl rfl (by decide) ⟨.int (lo + i), H, I1, ⟨t, ?_⟩, ⟨rfl, rfl⟩, st', fun b hb => (hf b hb).1⟩⟩
  rw [Int.mul_one]
 done:=by
  intro X hP hw hK hc i pins s σ H E I hf st hg
  subst hP hw hK
  obtain ⟨f0,f1,f2,f3,f4,f5⟩:=hf it (by simp)
  exact wpAny_pyNext_range_end (I.ok.hd hc) st (by have : n ≤ i:=hg; omega) fun h' eb=>⟨rfl,I.turned (t':=s.toks) (fun b o hb e=>eb b o hb e) f0 f1 f3 f4 f5⟩
 self:=fun _ _ _ _ _ st h=>wpAny_pyIter_rangeiter st h
end L2
namespace L2
open PySem PySem.Spec PyProof.Rows
section
variable {X : Cx} {tg : Expr}
def iList (K : PySem.W.Frag) (tl : TE) : TI:=fun σ H R=>tl σ H fun x H1=>∃ a,x = .ref a∧(∃ xs,SqL K H1 a xs)∧R (Itl K a) H1
theorem pi_list {l : Expr} {tl : TE} (hl : PE X l tl) : PI X tg l (iList X.K tl):=by
 intro pins s σ H R I h
 refine thn (hl pins s σ H _ I h) fun v s1 ⟨x,H1,I1,r1,q1⟩=>?_
 obtain ⟨a,e,⟨xs,hq⟩,q⟩:=q1
 subst e
 cases r1
 obtain ⟨its,rv,p,hz⟩:=I1.list hq
 refine wpAny_pyIter_list p.isList ?_
 refine ⟨s1.heap.objs.size,[s1.heap.objs.size],_,_,H1,rfl,I1.kept (t':=s1.toks) fun b o e=>Heap.get?_push_of_some _ e,turn_list a _,⟨_,Heap.get?_push_size _ rfl,rfl,rfl⟩,fun b hb=>?_,q⟩
 have e : b = s1.heap.objs.size:=by simpa using hb
 subst e
 exact I1.fpOk (Nat.le_refl _) (I1.hok.fresh (Nat.le_refl _))
theorem range_it {pins : List (Addr × Obj)} {σ : St} {H : Hp} {s : Shared} {R : It→Hp→Prop} {E : Value→Shared→Prop} {lo hi : Int} {t u v : Tok} {tk : Nat} (I : Inv X pins σ H s) (h1 : -(2 ^ 62) ≤ lo) (h2 : lo < 2 ^ 62) (h3 : -(2 ^ 62) ≤ hi) (h4 : hi < 2 ^ 62)
  (q : R (Itr lo (hi - lo).toNat) H) : wpAny (model X.prog X.w) X.A (pyIter (.ref s.heap.objs.size)) (PIE X pins σ tg R) E { s with heap := s.heap.push { cls := .type "range", data := .fields #[.int lo t, .int hi u, .int 1 v] }, toks := tk } := by
 refine wpAny_pyIter_range (IsRange.new ..) (small_one h1 h2 h3 h4) ?_
 have I1 : Inv X pins σ H { s with heap := s.heap.push { cls := .type "range", data := .fields #[.int lo t, .int hi u, .int 1 v] }, toks := tk } := I.kept fun b o e => Heap.get?_push_of_some _ e
 refine ⟨(s.heap.push { cls := .type "range", data := .fields #[.int lo t, .int hi u, .int 1 v] }).objs.size, [(s.heap.push { cls := .type "range", data := .fields #[.int lo t, .int hi u, .int 1 v] }).objs.size], _, _, H, rfl,
  I1.kept (t':=tk) fun b o e=>Heap.get?_push_of_some _ e,turn_range _ lo (hi - lo).toNat,?_,fun b hb=>?_,q⟩
 ·have e1 : lo + ((0 : Nat) : Int) * 1 = lo:=by simp
  have e2 : (((hi - lo).toNat : Nat) : Int) - ((0 : Nat) : Int) = Builtin.Range.rangeSize lo hi 1:=by rw [rangeSize_one]; split <;> omega
  show IsRangeIter _ _ (lo + ((0 : Nat) : Int) * 1) ((((hi - lo).toNat : Nat) : Int) - ((0 : Nat) : Int)) 1
  rw [e1,e2]
  exact Heap.get?_push_size _ rfl
 ·have e : b = (s.heap.push { cls := .type "range", data := .fields #[.int lo t, .int hi u, .int 1 v] }).objs.size := by simpa using hb
  subst e
  exact I1.fpOk (Nat.le_refl _) (I1.hok.fresh (Nat.le_refl _))
def iRng1 (ta : TA) : TI:=fun σ H R=>ta σ H fun vs H1=>∃ j : Int,vs = [.int j]∧-(2 ^ 62) ≤ j∧j < 2 ^ 62∧R (Itr 0 j.toNat) H1
theorem pi_range1 {a : Expr} {ta : TA} {p pos : Pos} (hg : Gl X "range") (hm : X.mg "range" = none) (ha : PA X [a] ta) (hs : starEach [a] X.env = [(false, eval a X.env)] := by rfl) : PI X tg (.Call (.Name "range" p) [a] [] pos) (iRng1 ta) := by
 intro pins s σ H R I h
 refine Call_ (ld_blt I hg hm boot_range (PyProof.Rows.callWith_type1 (thn (ha pos pins s σ H _ I h) fun us s1 ⟨vs,H1,I1,r1,q1⟩=>?_) hs rfl))
 obtain ⟨j,e,q1,q2,q⟩:=q1
 subst e
 cases r1 with
 | cons r rr =>
  cases rr
  obtain ⟨t,rfl⟩:=r
  exact call_range_1 (range_it I1 (by omega) (by omega) q1 q2 (by simpa using q))
def tFor (wi : TI) (g : TG) (tb : TS) : TS:=fun D σ H=>wi σ H fun J H1=>∃ W : Nat→Nat→St→Hp→Prop,(∃ m,W 0 m σ H1)∧∀ i m σ H,W i m σ H →
 (J.stop i H∧D.nx σ H) ∨ (J.go i H∧∃ N : St→Hp→Prop,(∀ σ' H',N σ' H'→∃ m',m' < m∧W (i + 1) m' σ' H')∧∀ x H',J.yld i H x H'→g x σ H' fun σ2 H2=>tb { D with nx:=N,ct:=N,bk:=D.nx } σ2 H2)
def pinsAt (fp : List Addr) (h : Heap) : List (Addr × Obj):=fp.filterMap fun b=>(h.get? b).map fun o=>(b,o)
theorem mem_pinsAt {fp : List Addr} {h : Heap} {b : Addr} {o : Obj} (hb : b ∈ fp) (e : h.get? b = some o) : (b,o) ∈ pinsAt fp h:=List.mem_filterMap.mpr ⟨b,hb,by rw [e]; rfl⟩
theorem of_pinsAt {fp : List Addr} {h : Heap} {p : Addr × Obj} (hp : p ∈ pinsAt fp h) : p.1 ∈ fp∧h.get? p.1 = some p.2:=by
 obtain ⟨b,hb,e⟩:=List.mem_filterMap.mp hp
 cases q : h.get? b with
 | none=>rw [q] at e; cases e
 | some o =>
  rw [q] at e
  have e' : (b,o) = p:=Option.some.inj e
  subst e'
  exact ⟨hb,q⟩
theorem Inv.pinned {pins : List (Addr × Obj)} {σ : St} {H : Hp} {s : Shared} {fp : List Addr} (I : Inv X pins σ H s) (hf : ∀ b ∈ fp,FpOk X pins H b) (ho : ∀ b ∈ fp,∃ o,s.heap.get? b = some o∧∀ v,o.data ≠ .cell v) : Inv X (pins ++ pinsAt fp s.heap) σ H s :=
 I.pins_of fun p hp=>(List.mem_append.mp hp).elim (fun z=>I.pin p (List.mem_append_right _ z)) fun z=>by
  obtain ⟨hb,e⟩:=of_pinsAt z
  obtain ⟨f0,f1,f2,_⟩:=hf p.1 hb
  obtain ⟨o,e',d⟩:=ho p.1 hb
  rw [e] at e'; cases e'
  exact ⟨e,f0,f1,f2,d⟩
theorem Inv.unpinned {pins pl : List (Addr × Obj)} {σ : St} {H : Hp} {s : Shared} (I : Inv X (pins ++ pl) σ H s) : Inv X pins σ H s:=I.pins_of fun p hp=>I.pin p (List.mem_append_right _ (List.mem_append_left _ hp))
theorem ps_for {iter : Expr} {body : List Stmt} {wi : TI} {g : TG} {tb : TS} {pos : Pos} (hp : PassesOwn (model X.prog X.w) X.A X.env X.xe) (hc : X.calm = true) (hi : PI X tg iter wi) (hg : PG X tg g) (hb : PSs X body tb)
  (hs : ∀ x,foldedSetIterable iter X.env x = pure x:=by intro _; rfl) : PS X (.For tg iter body [] pos) (tFor wi g tb):=by
 intro pins s σ H D I h
 refine wpAny_For (thn (hi pins s σ H _ I h) fun v s1 h1=>thn h1 fun itv s2 h2=>?_) hs
 obtain ⟨it,fp,tn,J,H2,e,I2,T,st2,f2,W,⟨m0,w0⟩,turn⟩:=h2
 subst e
 have stat : ∀ {H' : Hp},(∀ b ∈ fp,H' b = none)→∀ b ∈ fp,FpOk X pins H' b:=fun hn b hb=>⟨hn b hb,(f2 b hb).2⟩
 refine codeAny_forLoop_any (fun n s'=>∃ i σ' H',Inv X pins σ' H' s'∧tn i s'.heap∧(∀ b ∈ fp,H' b = none)∧W i n σ' H') ?_ m0 ⟨0,σ,H2,I2,st2,fun b hb=>(f2 b hb).1,w0⟩
 rintro n s3 ⟨i,σ3,H3,I3,st3,fr3,w3⟩
 rcases turn i n σ3 H3 w3 with ⟨stop,qn⟩ | ⟨go,N,hN,step⟩
 ·refine wpAny_passesOwn hp (thn (T.done X rfl rfl rfl hc i pins s3 σ3 H3 X.xe I3 (stat fr3) st3 stop) fun r s4 ⟨hr,I4⟩=>?_)
  subst hr
  exact wpAny_execs_nil ⟨σ3,H3,I4,qn⟩
 ·refine wpAny_passesOwn hp (thn (T.item X rfl rfl rfl hc i pins s3 σ3 H3 X.xe I3 (stat fr3) st3 go) fun r s4 ⟨u,hr,h4⟩=>?_)
  subst hr
  refine wpAny_passesOwn hp (thn h4 fun _ s5 ⟨x,H5,I5,r5,y5,st5,fr5⟩=>?_)
  have I5':=I5.pinned (stat fr5) (T.obj _ _ st5)
  refine wpAny_passesOwn hp (thn (hg _ s5 σ3 H5 x u _ I5' r5 (step x H5 y5)) fun _ s6 ⟨σ6,H6,I6,q6⟩=>?_)
  refine wpAny_passesOwn hp (thn (hb _ s6 σ6 H6 _ I6 q6) fun f s7 q7=>?_)
  have again : ∀ {σ7 : St} {H7 : Hp},Inv X (pins ++ pinsAt fp s5.heap) σ7 H7 s7→N σ7 H7→∃ m,m < n∧∃ i σ' H',Inv X pins σ' H' s7∧tn i s7.heap∧(∀ b ∈ fp,H' b = none)∧W i m σ' H':=fun {σ7 H7} I7 n7=>by
   obtain ⟨m',hm,w7⟩:=hN σ7 H7 n7
   refine ⟨m',hm,i + 1,σ7,H7,I7.unpinned,T.keep _ _ _ st5 fun b hb o e=>(I7.pin (b,o) (List.mem_append_right _ (List.mem_append_right _ (mem_pinsAt hb e)))).1,fun b hb=>?_,w7⟩
   obtain ⟨o,e,d⟩:=T.obj _ _ st5 b hb
   exact (I7.pin (b,o) (List.mem_append_right _ (List.mem_append_right _ (mem_pinsAt hb e)))).2.1
  cases f with
  | next=>obtain ⟨σ7,H7,I7,n7⟩:=q7; exact again I7 n7
  | cont=>obtain ⟨σ7,H7,I7,n7⟩:=q7; exact again I7 n7
  | brk=>obtain ⟨σ7,H7,I7,q7⟩:=q7; exact ⟨σ7,H7,I7.unpinned,q7⟩
  | ret v=>obtain ⟨x7,σ7,H7,I7,r7,q7⟩:=q7; exact ⟨x7,σ7,H7,I7.unpinned,r7,q7⟩
end
theorem for_list {K : PySem.W.Frag} {a : Addr} {xs : List V} {g : TG} {tb : TS} {D : Ends} {σ : St} {H : Hp} (Pv : Nat→St→Hp→Prop) (h0 : Pv 0 σ H) (hl : ∀ i σ H,i ≤ xs.length→Pv i σ H→SqL K H a xs)
  (hs : ∀ i x σ H,xs[i]? = some x→Pv i σ H→g x σ H fun σ2 H2=>tb { D with nx:=Pv (i + 1),ct:=Pv (i + 1),bk:=D.nx } σ2 H2) (hd : ∀ σ H,Pv xs.length σ H→D.nx σ H) :
  ∃ W : Nat→Nat→St→Hp→Prop,(∃ m,W 0 m σ H)∧∀ i m σ H,W i m σ H →
   ((Itl K a).stop i H∧D.nx σ H) ∨ ((Itl K a).go i H∧∃ N : St→Hp→Prop,(∀ σ' H',N σ' H'→∃ m',m' < m∧W (i + 1) m' σ' H')∧∀ x H',(Itl K a).yld i H x H'→g x σ H' fun σ2 H2=>tb { D with nx:=N,ct:=N,bk:=D.nx } σ2 H2):=by
 refine ⟨fun i m σ H=>m = xs.length - i∧i ≤ xs.length∧Pv i σ H,⟨xs.length,by simp,Nat.zero_le _,h0⟩,?_⟩
 rintro i m σ H ⟨rfl,hi,p⟩
 have q:=hl i σ H hi p
 by_cases hlt : i < xs.length
 ·refine .inr ⟨⟨xs,xs[i],q,by simp [hlt]⟩,Pv (i + 1),fun σ' H' p'=>⟨xs.length - (i + 1),by omega,rfl,hlt,p'⟩,fun x H' y=>?_⟩
  obtain ⟨e,y⟩:=y
  subst e
  exact hs i x σ _ (y xs q) p
 ·have e : i = xs.length:=by omega
  subst e
  exact .inl ⟨⟨xs,q,Nat.le_refl _⟩,hd σ H p⟩
theorem for_range {lo : Int} {n : Nat} {g : TG} {tb : TS} {D : Ends} {σ : St} {H : Hp} (Pv : Nat→St→Hp→Prop) (h0 : Pv 0 σ H)
  (hs : ∀ i σ H,i < n→Pv i σ H→g (.int (lo + i)) σ H fun σ2 H2=>tb { D with nx:=Pv (i + 1),ct:=Pv (i + 1),bk:=D.nx } σ2 H2) (hd : ∀ σ H,Pv n σ H→D.nx σ H) :
  ∃ W : Nat→Nat→St→Hp→Prop,(∃ m,W 0 m σ H)∧∀ i m σ H,W i m σ H →
   ((Itr lo n).stop i H∧D.nx σ H) ∨ ((Itr lo n).go i H∧∃ N : St→Hp→Prop,(∀ σ' H',N σ' H'→∃ m',m' < m∧W (i + 1) m' σ' H')∧∀ x H',(Itr lo n).yld i H x H'→g x σ H' fun σ2 H2=>tb { D with nx:=N,ct:=N,bk:=D.nx } σ2 H2):=by
 refine ⟨fun i m σ H=>m = n - i∧i ≤ n∧Pv i σ H,⟨n,by simp,Nat.zero_le _,h0⟩,?_⟩
 rintro i m σ H ⟨rfl,hi,p⟩
 by_cases hlt : i < n
 ·refine .inr ⟨hlt,Pv (i + 1),fun σ' H' p'=>⟨n - (i + 1),by omega,rfl,hlt,p'⟩,fun x H' y=>?_⟩
  obtain ⟨e,y⟩:=y
  subst e y
  exact hs i σ _ hlt p
 ·have e : i = n:=by omega
  subst e
  exact .inl ⟨Nat.le_refl _,hd σ H p⟩
end L2
namespace L2
open PySem PySem.Spec PyProof.Rows
abbrev R2:=V→V→Hp→VK→Prop
def OpR (X : Cx) (f : Value→Value→Sem Value) (r : R2) : Prop :=
 ∀ (pins : List (Addr × Obj)) (s : Shared) (σ : St) (H : Hp) (x y : V) (v u : Value) (Q : VK),Inv X pins σ H s→RelV x v→RelV y u→r x y H Q →
  wpAny (model X.prog X.w) X.A (f v u) (EP X pins σ Q) X.xe s
def UnR (X : Cx) (f : Value→Sem Value) (r : V→Hp→VK→Prop) : Prop :=
 ∀ (pins : List (Addr × Obj)) (s : Shared) (σ : St) (H : Hp) (x : V) (v : Value) (Q : VK),Inv X pins σ H s→RelV x v→r x H Q →
  wpAny (model X.prog X.w) X.A (f v) (EP X pins σ Q) X.xe s
def CallR (X : Cx) (f : Value) (r : List V→Hp→VK→Prop) : Prop :=
 ∀ (pins : List (Addr × Obj)) (s : Shared) (σ : St) (H : Hp) (xs : List V) (us : List Value) (Q : VK),Inv X pins σ H s→Vals xs us→r xs H Q →
  wpAny (model X.prog X.w) X.A (call f us) (EP X pins σ Q) X.xe s
def tOp (r : R2) (ta tb : TE) : TE:=fun σ H Q=>ta σ H fun x H1=>tb σ H1 fun y H2=>r x y H2 Q
def tUn (r : V→Hp→VK→Prop) (ta : TE) : TE:=fun σ H Q=>ta σ H fun x H1=>r x H1 Q
inductive rI (C : Int→Int→Prop) (g : Int→Int→V) (x : V) (y : V) (H : Hp) (Q : VK) : Prop
 | mk : ∀ i j,(x = .int i)→(y = .int j)→(C i j)→(Q (g i j) H)→rI C g x y H Q
inductive rI0 (g : Int→Int→V) (x : V) (y : V) (H : Hp) (Q : VK) : Prop
 | mk : ∀ i j,(x = .int i)→(y = .int j)→(Q (g i j) H)→rI0 g x y H Q
inductive rU (g : Int→V) (x : V) (H : Hp) (Q : VK) : Prop
 | mk : ∀ i,(x = .int i)→(Q (g i) H)→rU g x H Q
section
variable {X : Cx} {a b c : Expr} {ta tb tc : TE} {pos : Pos}
theorem binT (ha : PE X a ta) (hb : PE X b tb) {pins : List (Addr × Obj)} {s : Shared} {σ : St} {H : Hp} {R : V→V→Hp→Prop} (I : Inv X pins σ H s)
  (h : ta σ H fun x H1=>tb σ H1 fun y H2=>R x y H2) {Q : Value→Shared→Prop} {f : Value→Value→Sem Value}
  (hf : ∀ v u s2 x y H2,Inv X pins σ H2 s2→RelV x v→RelV y u→R x y H2→wpAny (model X.prog X.w) X.A (f v u) Q X.xe s2) :
  wpAny (model X.prog X.w) X.A (eval a X.env) (fun v s₁=>wpAny (model X.prog X.w) X.A (eval b X.env) (fun u s₂=>wpAny (model X.prog X.w) X.A (f v u) Q X.xe s₂) X.xe s₁) X.xe s:=by
 refine thn (ha pins s σ H _ I h) fun v s1 ⟨x,H1,I1,r1,q1⟩=>?_
 refine thn (hb pins s1 σ H1 _ I1 q1) fun u s2 ⟨y,H2,I2,r2,q2⟩=>?_
 exact hf v u s2 x y H2 I2 r1 r2 q2
theorem pe_op {op : Operator} {r : R2} (ho : OpR X (binaryOp op) r) (ha : PE X a ta) (hb : PE X b tb) : PE X (.BinOp a op b pos) (tOp r ta tb):=by
 intro pins s σ H Q I h
 exact wpAny_BinOp (binT ha hb I h fun v u s2 x y H2 I2 rx ry q=>ho pins s2 σ H2 x y v u Q I2 rx ry q)
theorem pe_un {op : UnaryOp} {r : V→Hp→VK→Prop} (ho : UnR X (unaryOp op) r) (ha : PE X a ta) : PE X (.UnaryOp op a pos) (tUn r ta):=by
 intro pins s σ H Q I h
 exact UnaryOp_ (thn (ha pins s σ H _ I h) fun v s1 ⟨x,H1,I1,r1,q1⟩=>ho pins s1 σ H1 x v Q I1 r1 q1)
theorem opI {f : Value→Value→Sem Value} {C : Int→Int→Prop} {g : Int→Int→Int}
  (rule : ∀ (i j : Int) (t u : Tok) (s : Shared) (Q : Value→Shared→Prop) (E : Value→Shared→Prop),C i j→Q (.int (g i j) s.toks) { s with toks:=s.toks + 1 }→wpAny (model X.prog X.w) X.A (f (.int i t) (.int j u)) Q E s) :
  OpR X f (rI C fun i j=>.int (g i j)):=by
 intro pins s σ H x y v u Q I rx ry h
 obtain ⟨i,j,rfl,rfl,hc,q⟩:=h
 obtain ⟨t,rfl⟩:=rx
 obtain ⟨t',rfl⟩:=ry
 exact rule i j t t' s _ _ hc ⟨.int (g i j),H,I.tok _,⟨_,rfl⟩,q⟩
theorem opI0 {f : Value→Value→Sem Value} {g : Int→Int→Int}
  (rule : ∀ (i j : Int) (t u : Tok) (s : Shared) (Q : Value→Shared→Prop) (E : Value→Shared→Prop),Q (.int (g i j) s.toks) { s with toks:=s.toks + 1 }→wpAny (model X.prog X.w) X.A (f (.int i t) (.int j u)) Q E s) :
  OpR X f (rI0 fun i j=>.int (g i j)):=by
 intro pins s σ H x y v u Q I rx ry h
 obtain ⟨i,j,rfl,rfl,q⟩:=h
 obtain ⟨t,rfl⟩:=rx
 obtain ⟨t',rfl⟩:=ry
 exact rule i j t t' s _ _ ⟨.int (g i j),H,I.tok _,⟨_,rfl⟩,q⟩
theorem opB0 {f : Value→Value→Sem Value} {g : Int→Int→Bool}
  (rule : ∀ (i j : Int) (t u : Tok) (s : Shared) (Q : Value→Shared→Prop) (E : Value→Shared→Prop),Q (.bool (g i j)) s→wpAny (model X.prog X.w) X.A (f (.int i t) (.int j u)) Q E s) :
  OpR X f (rI0 fun i j=>.bl (g i j)):=by
 intro pins s σ H x y v u Q I rx ry h
 obtain ⟨i,j,rfl,rfl,q⟩:=h
 obtain ⟨t,rfl⟩:=rx
 obtain ⟨t',rfl⟩:=ry
 exact rule i j t t' s _ _ ⟨.bl (g i j),H,I,rfl,q⟩
def CPow (i j : Int) : Prop:=0 ≤ j∧j ≤ 1000000∧i.natAbs < 2 ^ 64
def CMul (i j : Int) : Prop:=(-(2 ^ 64) < i∧i < 2 ^ 64) ∨ (-(2 ^ 64) < j∧j < 2 ^ 64)
theorem CMul.ok {i j : Int} (h : CMul i j) : IntMulOk i j:=by
 rcases h with ⟨h1,h2⟩ | ⟨h1,h2⟩
 ·exact .of_left (intBits_le_64 h1 h2)
 ·exact .of_right (intBits_le_64 h1 h2)
theorem op_add : OpR X (binaryOp .Add) (rI0 fun i j=>.int (i + j)):=opI0 fun _ _ _ _ _ _ _ q=>add_int q
theorem op_sub : OpR X (binaryOp .Sub) (rI0 fun i j=>.int (i - j)):=opI0 fun _ _ _ _ _ _ _ q=>sub_int q
theorem op_mul : OpR X (binaryOp .Mult) (rI CMul fun i j=>.int (i * j)):=opI fun _ _ _ _ _ _ _ hc q=>mul_int q hc.ok
theorem op_mod : OpR X (binaryOp .Mod) (rI (fun _ j=>0 < j) fun i j=>.int (i % j)):=opI fun i j _ _ _ _ _ hc q=>by
 have h1 : (0 : Int) < j:=hc
 exact mod_int' (by omega) (by rw [Int.fmod_eq_emod_of_nonneg i (by omega)]; exact q)
theorem op_pow : OpR X (binaryOp .Pow) (rI CPow fun i j=>.int (i ^ j.toNat)):=opI fun _ _ _ _ _ _ _ hc q=>pow_int_small hc.1 hc.2.1 hc.2.2 q
theorem unI {f : Value→Sem Value} {g : Int→Int}
  (rule : ∀ (i : Int) (t : Tok) (s : Shared) (Q : Value→Shared→Prop) (E : Value→Shared→Prop),Q (.int (g i) s.toks) { s with toks:=s.toks + 1 }→wpAny (model X.prog X.w) X.A (f (.int i t)) Q E s) :
  UnR X f (rU fun i=>.int (g i)):=by
 intro pins s σ H x v Q I rx h
 obtain ⟨i,rfl,q⟩:=h
 obtain ⟨t,rfl⟩:=rx
 exact rule i t s _ _ ⟨.int (g i),H,I.tok _,⟨_,rfl⟩,q⟩
theorem un_neg : UnR X (unaryOp .USub) (rU fun i=>.int (-i)):=unI fun _ _ _ _ _ q=>neg_int q
end
def scal : V→V→Bool
 | .non,.non=>true | .non,.int _=>true | .int _,.non=>true | .non,.bl _=>true | .bl _,.non=>true | .non,.str _=>true | .str _,.non=>true
 | .int _,.int _=>true | .bl _,.bl _=>true | .str _,.str _=>true | .byt _,.byt _=>true
 | .int _,.str _=>true | .str _,.int _=>true | .bl _,.str _=>true | .str _,.bl _=>true
 | _,_=>false
def rEq : R2:=fun x y H Q=>scal x y = true∧Q (.bl (decide (x = y))) H
def rNe : R2:=fun x y H Q=>scal x y = true∧Q (.bl (!decide (x = y))) H
theorem dec_int {i j : Int} : decide (V.int i = V.int j) = (i == j):=by
 rw [Bool.eq_iff_iff]
 simp
theorem dec_bl {i j : Bool} : decide (V.bl i = V.bl j) = (i == j):=by
 rw [Bool.eq_iff_iff]
 simp
theorem dec_str {i j : Str} : decide (V.str i = V.str j) = (i == j):=by
 rw [Bool.eq_iff_iff]
 simp
theorem dec_byt {i j : Array UInt8} : decide (V.byt i = V.byt j) = (i.toList == j.toList):=by
 rw [Bool.eq_iff_iff]
 cases i
 cases j
 simp
section
variable {X : Cx} {a b c : Expr} {ta tb tc : TE} {pos : Pos}
theorem fin_bl {pins : List (Addr × Obj)} {σ : St} {H : Hp} {s : Shared} {Q : VK} {k k' : Bool} (I : Inv X pins σ H s) (q : Q (.bl k) H) (e : k = k') : EP X pins σ Q (.bool k') s:=by
 subst e
 exact ⟨.bl k,H,I,rfl,q⟩
theorem op_eq : OpR X (compareOp .Eq) rEq:=by
 intro pins s σ H x y v u Q I rx ry h
 obtain ⟨hs,q⟩:=h
 cases x with
 | non =>
  cases rx
  cases y with
  | non=>cases ry; exact PySem.EqNone.eq_none_none (fin_bl I q (by simp))
  | bl j=>cases ry; exact PySem.EqNone.eq_none_bool (fin_bl I q (by simp))
  | int j=>obtain ⟨t',rfl⟩:=ry; exact PySem.EqNone.eq_none_int (fin_bl I q (by simp))
  | str j=>obtain ⟨t',rfl⟩:=ry; exact PySem.EqNone.eq_none_str (fin_bl I q (by simp))
  | _=>exact absurd (show false = true from hs) Bool.false_ne_true
 | bl i =>
  cases rx
  cases y with
  | non=>cases ry; exact PySem.EqNone.eq_bool_none (fin_bl I q (by simp))
  | bl j=>cases ry; exact eq_bool (fin_bl I q dec_bl)
  | str j=>obtain ⟨t',rfl⟩:=ry; exact PySem.EqMixed.eq_bool_str (fin_bl I q (by simp))
  | _=>exact absurd (show false = true from hs) Bool.false_ne_true
 | int i =>
  obtain ⟨t,rfl⟩:=rx
  cases y with
  | non=>cases ry; exact PySem.EqNone.eq_int_none (fin_bl I q (by simp))
  | int j=>obtain ⟨t',rfl⟩:=ry; exact eq_int (fin_bl I q dec_int)
  | str j=>obtain ⟨t',rfl⟩:=ry; exact PySem.EqMixed.eq_int_str (fin_bl I q (by simp))
  | _=>exact absurd (show false = true from hs) Bool.false_ne_true
 | str i =>
  obtain ⟨t,rfl⟩:=rx
  cases y with
  | non=>cases ry; exact PySem.EqNone.eq_str_none (fin_bl I q (by simp))
  | bl j=>cases ry; exact PySem.EqMixed.eq_str_bool (fin_bl I q (by simp))
  | int j=>obtain ⟨t',rfl⟩:=ry; exact PySem.EqMixed.eq_str_int (fin_bl I q (by simp))
  | str j=>obtain ⟨t',rfl⟩:=ry; exact eq_str (fin_bl I q dec_str)
  | _=>exact absurd (show false = true from hs) Bool.false_ne_true
 | byt i =>
  obtain ⟨t,rfl⟩:=rx
  cases y with
  | byt j=>obtain ⟨t',rfl⟩:=ry; exact PySem.W.eq_bytes (fin_bl I q dec_byt)
  | _=>exact absurd (show false = true from hs) Bool.false_ne_true
 | _=>cases y <;> exact absurd (show false = true from hs) Bool.false_ne_true
theorem op_ne : OpR X (compareOp .NotEq) rNe:=by
 intro pins s σ H x y v u Q I rx ry h
 obtain ⟨hs,q⟩:=h
 cases x with
 | non =>
  cases rx
  cases y with
  | non=>cases ry; exact PySem.EqNone.ne_none_none (fin_bl I q (by simp))
  | bl j=>cases ry; exact PySem.EqNone.ne_none_bool (fin_bl I q (by simp))
  | int j=>obtain ⟨t',rfl⟩:=ry; exact PySem.EqNone.ne_none_int (fin_bl I q (by simp))
  | str j=>obtain ⟨t',rfl⟩:=ry; exact PySem.EqNone.ne_none_str (fin_bl I q (by simp))
  | _=>exact absurd (show false = true from hs) Bool.false_ne_true
 | bl i =>
  cases rx
  cases y with
  | non=>cases ry; exact PySem.EqNone.ne_bool_none (fin_bl I q (by simp))
  | bl j=>cases ry; exact ne_bool (fin_bl I q (congrArg not dec_bl))
  | str j=>obtain ⟨t',rfl⟩:=ry; exact PySem.EqMixed.ne_bool_str (fin_bl I q (by simp))
  | _=>exact absurd (show false = true from hs) Bool.false_ne_true
 | int i =>
  obtain ⟨t,rfl⟩:=rx
  cases y with
  | non=>cases ry; exact PySem.EqNone.ne_int_none (fin_bl I q (by simp))
  | int j=>obtain ⟨t',rfl⟩:=ry; exact ne_int (fin_bl I q (congrArg not dec_int))
  | str j=>obtain ⟨t',rfl⟩:=ry; exact PySem.EqMixed.ne_int_str (fin_bl I q (by simp))
  | _=>exact absurd (show false = true from hs) Bool.false_ne_true
 | str i =>
  obtain ⟨t,rfl⟩:=rx
  cases y with
  | non=>cases ry; exact PySem.EqNone.ne_str_none (fin_bl I q (by simp))
  | bl j=>cases ry; exact PySem.EqMixed.ne_str_bool (fin_bl I q (by simp))
  | int j=>obtain ⟨t',rfl⟩:=ry; exact PySem.EqMixed.ne_str_int (fin_bl I q (by simp))
  | str j=>obtain ⟨t',rfl⟩:=ry; exact ne_str (fin_bl I q (congrArg not dec_str))
  | _=>exact absurd (show false = true from hs) Bool.false_ne_true
 | byt i =>
  obtain ⟨t,rfl⟩:=rx
  cases y with
  | byt j=>obtain ⟨t',rfl⟩:=ry; exact PySem.W.ne_bytes (fin_bl I q (congrArg not dec_byt))
  | _=>exact absurd (show false = true from hs) Bool.false_ne_true
 | _=>cases y <;> exact absurd (show false = true from hs) Bool.false_ne_true
theorem op_lt : OpR X (compareOp .Lt) (rI0 fun i j=>.bl (decide (i < j))):=opB0 fun _ _ _ _ _ _ _ q=>lt_int q
theorem op_le : OpR X (compareOp .LtE) (rI0 fun i j=>.bl (decide (i ≤ j))):=opB0 fun _ _ _ _ _ _ _ q=>le_int q
theorem op_gt : OpR X (compareOp .Gt) (rI0 fun i j=>.bl (decide (j < i))):=opB0 fun _ _ _ _ _ _ _ q=>gt_int q
theorem op_ge : OpR X (compareOp .GtE) (rI0 fun i j=>.bl (decide (j ≤ i))):=opB0 fun _ _ _ _ _ _ _ q=>ge_int q
theorem op_isN : OpR X (compareOp .Is) (fun x y H Q=>y = .non∧Q (.bl (decide (x = .non))) H):=by
 intro pins s σ H x y v u Q I rx ry h
 obtain ⟨rfl,q⟩:=h
 cases ry
 refine is_none_gen (fin_bl I q ?_)
 cases x <;> first
  | (cases rx; rfl)
  | (obtain ⟨t,rfl⟩:=rx; rfl)
theorem op_notN : OpR X (compareOp .IsNot) (fun x y H Q=>y = .non∧Q (.bl (!decide (x = .non))) H):=by
 intro pins s σ H x y v u Q I rx ry h
 obtain ⟨rfl,q⟩:=h
 cases ry
 refine isnot_none_gen (fin_bl I q ?_)
 cases x <;> first
  | (cases rx; rfl)
  | (obtain ⟨t,rfl⟩:=rx; rfl)
theorem OpR.or {f : Value→Value→Sem Value} {r r' : R2} (h : OpR X f r) (h' : OpR X f r') : OpR X f (fun x y H Q=>r x y H Q ∨ r' x y H Q):=by
 intro pins s σ H x y v u Q I rx ry q
 rcases q with q | q
 ·exact h pins s σ H x y v u Q I rx ry q
 ·exact h' pins s σ H x y v u Q I rx ry q
theorem nomark (b : Expr) {op : CmpOp} (h : op ≠ .In:=by decide) (h2 : op ≠ .NotIn:=by decide) : behindInMarks op b = false:=by
 have e1 : (op == CmpOp.In) = false:=by cases op <;> first | rfl | exact absurd rfl h
 have e2 : (op == CmpOp.NotIn) = false:=by cases op <;> first | rfl | exact absurd rfl h2
 cases b <;> simp [behindInMarks,e1,e2]
theorem pe_cmpR {op : CmpOp} {r : R2} (ho : OpR X (compareOp op) r) (ha : PE X a ta) (hb : PE X b tb) (hm : behindInMarks op b = false) : PE X (.Compare a [op] [b] pos) (tOp r ta tb):=by
 intro pins s σ H Q I h
 exact wpAny_Compare1 (binT ha hb I h fun v u s2 x y H2 I2 rx ry q=>ho pins s2 σ H2 x y v u Q I2 rx ry q) hm
def tTest (t : TE) : TT:=fun σ H Q=>t σ H (IsB Q)
theorem pt_cmpR {op : CmpOp} {r : R2} (ho : OpR X (compareOp op) r) (ha : PE X a ta) (hb : PE X b tb) (hm : behindInMarks op b = false) : PT X (.Compare a [op] [b] pos) (tTest (tOp r ta tb)):=by
 intro pins s σ H Q I h
 refine wpAny_isTrue_Compare1 (thn (ha pins s σ H _ I h) fun v s1 ⟨x,H1,I1,r1,q1⟩=>thn (hb pins s1 σ H1 _ I1 q1) fun u s2 ⟨y,H2,I2,r2,q2⟩ =>
  thn (ho pins s2 σ H2 x y v u _ I2 r1 r2 q2) fun c s3 ⟨z,H3,I3,r3,k,e,q3⟩=>?_) hm
 subst e
 cases r3
 exact wpAny_truthy_bool ⟨H3,I3,q3⟩
def tChain (r r' : R2) (ta tb tc : TE) : TE:=fun σ H Q=>ta σ H fun x H1=>tb σ H1 fun y H2=>r x y H2 fun z H3=>∃ k,z = .bl k ∧
 (if k = true then tc σ H3 fun w' H4=>r' y w' H4 Q else Q (.bl false) H3)
theorem pe_chain {op op' : CmpOp} {r r' : R2} (ho : OpR X (compareOp op) r) (ho' : OpR X (compareOp op') r') (ha : PE X a ta) (hb : PE X b tb) (hc : PE X c tc)
  (hm : lastMarks [op,op'] [b,c] = false:=by with_unfolding_all rfl) : PE X (.Compare a [op,op'] [b,c] pos) (tChain r r' ta tb tc):=by
 intro pins s σ H Q I h
 refine Compare_chain (thn (ha pins s σ H _ I h) fun v s1 ⟨x,H1,I1,r1,q1⟩=>chain_link (thn (hb pins s1 σ H1 _ I1 q1) fun u s2 ⟨y,H2,I2,r2,q2⟩ =>
  thn (ho pins s2 σ H2 x y v u _ I2 r1 r2 q2) fun d s3 ⟨z,H3,I3,r3,k,e,q3⟩=>?_)) hm
 subst e
 cases r3
 refine wpAny_truthy_bool ?_
 cases k with
 | false=>exact ite_ff ⟨.bl false,H3,I3,rfl,q3⟩
 | true=>exact ite_tt (chain_last (thn (hc pins s3 σ H3 _ I3 q3) fun w' s4 ⟨z',H4,I4,r4,q4⟩=>ho' pins s4 σ H4 y z' u w' Q I4 r2 r4 q4))
theorem pt_chain {op op' : CmpOp} {r r' : R2} (ho : OpR X (compareOp op) r) (ho' : OpR X (compareOp op') r') (ha : PE X a ta) (hb : PE X b tb) (hc : PE X c tc)
  (hm : lastMarks [op,op'] [b,c] = false:=by with_unfolding_all rfl) : PT X (.Compare a [op,op'] [b,c] pos) (tTest (tChain r r' ta tb tc)):=by
 intro pins s σ H Q I h
 refine isTrue_chain (thn (ha pins s σ H _ I h) fun v s1 ⟨x,H1,I1,r1,q1⟩=>test_link (thn (hb pins s1 σ H1 _ I1 q1) fun u s2 ⟨y,H2,I2,r2,q2⟩ =>
  thn (ho pins s2 σ H2 x y v u _ I2 r1 r2 q2) fun d s3 ⟨z,H3,I3,r3,k,e,q3⟩=>?_)) hm
 subst e
 cases r3
 refine wpAny_truthy_bool ?_
 cases k with
 | false =>
  obtain ⟨k',e',q'⟩:=q3
  cases e'
  exact ite_ff ⟨H3,I3,q'⟩
 | true =>
  refine ite_tt (test_last (thn (hc pins s3 σ H3 _ I3 q3) fun w' s4 ⟨z',H4,I4,r4,q4⟩=>thn (ho' pins s4 σ H4 y z' u w' _ I4 r2 r4 q4) fun d' s5 ⟨z2,H5,I5,r5,k2,e2,q5⟩=>?_))
  subst e2
  cases r5
  exact wpAny_truthy_bool ⟨H5,I5,q5⟩
theorem line63 : (sizeLine : Nat) < 2 ^ 63:=by rw [sizeLine_eq]; decide
theorem vals1 {x : V} {us : List Value} (r : Vals [x] us) : ∃ u,us = [u]∧RelV x u:=by
 cases r with
 | cons r1 r2=>cases r2; exact ⟨_,rfl,r1⟩
theorem vals2 {x y : V} {us : List Value} (r : Vals [x,y] us) : ∃ u w',us = [u,w']∧RelV x u∧RelV y w':=by
 cases r with
 | cons r1 r2 =>
  cases r2 with
  | cons r3 r4=>cases r4; exact ⟨_,_,rfl,r1,r3⟩
theorem call_max2 (hc : X.calm = true) : CallR X (.builtin "max") (fun xs H Q => ∃ i j, xs = [.int i, .int j] ∧ Q (.int (if j > i then j else i)) H) := by
 intro pins s σ H xs us Q I r h
 obtain ⟨i,j,rfl,q⟩:=h
 obtain ⟨u,w',rfl,⟨t,rfl⟩,⟨t',rfl⟩⟩:=vals2 r
 refine max_two_ints (I.ok.hd hc) fun h' tk k=>⟨_,H,I.kept k,?_,q⟩
 by_cases hj : j > i
 ·rw [if_pos hj,if_pos hj]; exact ⟨_,rfl⟩
 ·rw [if_neg hj,if_neg hj]; exact ⟨_,rfl⟩
end
end L2
namespace L2
open PySem PySem.Spec PyProof.Rows
structure ObjM (h : Heap) (x dx C : Addr) (mA : Str→Option Value) : Prop where
 obj : h.get? x = some (PySem.W.instObj C dx)
 ns : h.Ns1 dx mA
 ne : dx ≠ x
theorem lookIn_ns {h : Heap} {dx : Addr} {mA : Str→Option Value} (n : h.Ns1 dx mA) : ∃ od,h.get? dx = some od∧∀ name,PySem.W.lookIn name od = some (mA name):=by
 obtain ⟨o,es,ep,ho,hd,hk,_,hm⟩:=n
 refine ⟨o,ho,fun name=>?_⟩
 have e:=hm name
 unfold nsFind findBy at e
 rw [← Array.find?_toList] at e
 unfold PySem.W.lookIn
 rw [hd]
 try dsimp only
 split
 ·rename_i y q
  rw [q] at e
  exact congrArg some e
 ·rename_i q
  rw [q] at e
  have a : es.toList.any (·.refKey) = false:=by
   rw [List.any_eq_false]
   intro y hy
   obtain ⟨z,t,hkey⟩:=hk y (Array.mem_toList_iff.mp hy)
   simp [DictEntry.refKey,hkey]
  have a' : ¬ es.toList.any (·.refKey) = true:=by rw [a]; exact Bool.false_ne_true
  rw [if_neg a']
  exact congrArg some e
theorem ObjM.look {h : Heap} {x dx C : Addr} {mA : Str→Option Value} (I : ObjM h x dx C mA) : ∃ od,PySem.W.InstAt h x (PySem.W.instObj C dx) C (some od)∧∀ name,PySem.W.lookIn name od = some (mA name) :=
 let ⟨od,ho,hl⟩:=lookIn_ns I.ns
 ⟨od,⟨I.obj,rfl,rfl,ho⟩,hl⟩
section
variable {prog : Program} {w : World} {A : Around} {E : Value→Shared→Prop} {s : Shared} {K : PySem.W.Frag} {x dx C f : Addr} {mA : Str→Option Value} {name : Str} {v : Value}
theorem get_map {expr : Bool} {Q : Value→Shared→Prop} (X : K.In s.heap) (I : ObjM s.heap x dx C mA) (hg : PySem.W.plainGet K C name = true) (hh : PySem.W.hasDictIn K C = true)
  (ha : PySem.W.findIn K (.ref C) name = some none) (hv : mA name = some v) (hv' : PySem.W.handedIn v = true) (h : Q v { s with toks:=s.toks + 1 }) :
  wpAny (model prog w) A (getAttr (.ref x) name expr) Q E s:=by
 obtain ⟨od,J,hl⟩:=I.look
 exact PySem.W.get_value X J (PySem.W.plainGet_of hg).1 (PySem.W.findObj_own hh ha rfl (by rw [hl,hv])) hv' h
theorem set_map {ns : List Str} {Q : Unit→Shared→Prop} (X : K.In s.heap) (I : ObjM s.heap x dx C mA)
  (hs : PySem.W.findIn K (.ref C) "__setattr__" = some (some (.builtin "object.__setattr__"))) (hp : PySem.W.plainOver K C = true) (ht : PySem.W.takerIn K C name = some none) (hh : PySem.W.hasDictIn K C = true)
  (hw : PySem.Within mA ns) (hsz : ns.length ≤ sizeLine)
  (h : ∀ h',ObjM h' x dx C (fun y=>if y = name then some v else mA y)→Heap.SameBut dx s.heap h'→Q () { s with heap:=h',toks:=s.toks + 2 }) :
  wpAny (model prog w) A (setAttr (.ref x) name v) Q E s:=by
 obtain ⟨od,J,hl⟩:=I.look
 refine PySem.W.set_plain X J hs (PySem.W.osa_open (s:={ s with toks:=s.toks + 1 }) (r:=none) X J hp ht fun b=>?_)
 obtain ⟨cd,hc,hd'⟩:=PySem.W.any_some hh
 have hx : s.heap.get? x = some ⟨.ref C,some dx,.plain,#[]⟩:=I.obj
 refine wpAny_bind (wpAny_pure (wpAny_bind (wpAny_bind (wpAny_loadPart hx (wpAny_bind (PySem.W.Looks.here (s:={ s with toks:=s.toks + 1 }) (PySem.W.looks_clsIn X hc) ?_))))))
 rw [hd']
 refine wpAny_pure (a:=some dx) (wpAny_bind (wpAny_pure (wpAny_bind ?_)))
 refine wpAny_nsSet1 (s:={ s with toks:=s.toks + 1 }) I.ns fun h' hn2 hs2=>?_
 obtain ⟨oD,esD,epD,hoD,hdD,hcD⟩:=hn2.count (PySem.Within.cons name v hw)
 refine wpAny_bind (wpAny_lookBehind hoD (by rw [hdD]; exact pastItsLine_dict (Nat.le_trans hcD (by rw [List.length_cons]; omega))) ?_)
 exact wpAny_pure (h _ ⟨(hs2.2 _ (Ne.symm I.ne)).trans I.obj,hn2,I.ne⟩ hs2)
theorem make_map {R : Result→Shared→Prop} {vs : List Value} {kw : List (Str × Value)} (X : K.In s.heap) (hm : PySem.W.makesIn K C = true)
  (hi : PySem.W.findIn K (.ref C) "__init__" = some (some (.ref f))) (hf : PySem.W.typeIn K (.ref f) = some (.type "function"))
  (h : codeAny (model prog w) (A.under (.builtin "type.__call__" ⟨.ref C :: vs, kw⟩)) (.call (.ref f) ⟨.ref (s.heap.objs.size + 1) :: vs, kw⟩) (PySem.W.InitBack (s.heap.objs.size + 1) R)
   { s with heap:=(s.heap.push PySem.W.emptyDict).push (PySem.W.instObj C s.heap.objs.size) }) :
  codeAny (model prog w) A (.call (.ref C) ⟨vs,kw⟩) R s:=by
 obtain ⟨hh,g,d,t,os⟩:=s
 exact PySem.W.make_core (PySem.W.makes_of X hm) (PySem.W.looks_findIn X hi) (fun self=>PySem.W.bind_fn X self hf) (.inl rfl) h
end
def putF (f : Str) (v : V) : List (Str × V)→List (Str × V)
 | []=>[(f,v)]
 | (g,x) :: r=>if g = f then (g,v) :: r else (g,x) :: putF f v r
theorem lookup_putF (f g : Str) (v : V) : ∀ fs : List (Str × V),(putF f v fs).lookup g = if g = f then some v else fs.lookup g
 | []=>by
  show List.lookup g [(f,v)] = _
  by_cases h : g = f
  ·have hb : (g == f) = true:=beq_iff_eq.mpr h
   simp only [List.lookup,hb,if_pos h]
  ·have hb : (g == f) = false:=beq_eq_false_iff_ne.mpr h
   simp only [List.lookup,hb,if_neg h]
 | (k,x) :: r=>by
  have ih:=lookup_putF f g v r
  rw [show putF f v ((k,x) :: r) = (if k = f then (k,v) :: r else (k,x) :: putF f v r) from rfl]
  by_cases hk : k = f
  ·rw [if_pos hk]
   by_cases h : g = k
   ·have hb : (g == k) = true:=beq_iff_eq.mpr h
    simp only [List.lookup,hb,if_pos (h.trans hk)]
   ·have hb : (g == k) = false:=beq_eq_false_iff_ne.mpr h
    simp only [List.lookup,hb,if_neg (fun e : g = f=>h (e.trans hk.symm))]
  ·rw [if_neg hk]
   by_cases h : g = k
   ·have hb : (g == k) = true:=beq_iff_eq.mpr h
    simp only [List.lookup,hb,if_neg (fun e : g = f=>hk (h.symm.trans e))]
   ·have hb : (g == k) = false:=beq_eq_false_iff_ne.mpr h
    simp only [List.lookup,hb]
    exact ih
theorem keys_putF (f : Str) (v : V) : ∀ fs : List (Str × V),f ∈ (putF f v fs).map (·.1)∧∀ g,g ∈ fs.map (·.1)→g ∈ (putF f v fs).map (·.1)
 | []=>⟨by simp [putF],fun g h=>by simp at h⟩
 | (k,x) :: r=>by
  obtain ⟨i1,i2⟩:=keys_putF f v r
  rw [show putF f v ((k,x) :: r) = (if k = f then (k,v) :: r else (k,x) :: putF f v r) from rfl]
  by_cases hk : k = f
  ·rw [if_pos hk]
   subst hk
   exact ⟨by simp,fun g h=>by simpa using h⟩
  ·rw [if_neg hk]
   refine ⟨?_,fun g h=>?_⟩
   ·rw [List.map_cons]
    exact List.mem_cons_of_mem _ i1
   ·rw [List.map_cons] at h ⊢
    rcases List.mem_cons.mp h with e | e
    ·exact List.mem_cons.mpr (.inl e)
    ·exact List.mem_cons_of_mem _ (i2 g e)
theorem length_putF (f : Str) (v : V) : ∀ fs : List (Str × V),(putF f v fs).length ≤ fs.length + 1
 | []=>by simp [putF]
 | (k,x) :: r=>by
  have ih:=length_putF f v r
  rw [show putF f v ((k,x) :: r) = (if k = f then (k,v) :: r else (k,x) :: putF f v r) from rfl]
  by_cases hk : k = f
  ·rw [if_pos hk,List.length_cons,List.length_cons]; omega
  ·rw [if_neg hk,List.length_cons,List.length_cons]; omega
theorem RelO.some_of {v : V} {o : Option Value} (r : RelO (some v) o) : ∃ u,o = some u∧RelV v u:=by
 cases o with
 | none=>exact (show False from r).elim
 | some u=>exact ⟨u,rfl,r⟩
theorem handed_of {v : V} {u : Value} (r : RelV v u) : PySem.W.handedIn u = true:=by
 cases v with
 | non=>cases (show u = Value.none from r); rfl
 | bl b=>cases (show u = Value.bool b from r); rfl
 | int i=>obtain ⟨t,e⟩:=(show ∃ t,u = Value.int i t from r); cases e; rfl
 | str x=>obtain ⟨t,e⟩:=(show ∃ t,u = Value.str x t from r); cases e; rfl
 | byt b=>obtain ⟨t,e⟩:=(show ∃ t,u = Value.bytes b t from r); cases e; rfl
 | flt b=>obtain ⟨t,e⟩:=(show ∃ t,u = Value.float b t from r); cases e; rfl
 | ref a=>cases (show u = Value.ref a from r); rfl
 | ty n=>cases (show u = Value.type n from r); rfl
section
variable {P : Program} {w : World} {H H' : Hp} {h h' : Heap} {a C dx : Addr} {fs fs' : List (Str × V)}
theorem ins_get (hok : HOk P w H h) (e : H a = some (.ins C dx fs)) : ∃ mA,ObjM h a dx C mA∧(∀ f,RelO (fs.lookup f) (mA f))∧PySem.Within mA (fs.map (·.1))∧fs.length ≤ 1000∧H dx = some (.own a):=by
 obtain ⟨d,z,ne,ob,mA,n,r,q⟩:=(show ObjOk P w H h a (.ins C dx fs) from hok a _ e)
 exact ⟨mA,⟨ob,n,ne⟩,r,q,z,d⟩
end
structure Cls (K : PySem.W.Frag) (C : Addr) : Prop where
 pg : PySem.W.plainGet K C Str.empty = true
 hd : PySem.W.hasDictIn K C = true
 po : PySem.W.plainOver K C = true
 sa : PySem.W.findIn K (.ref C) "__setattr__" = some (some (.builtin "object.__setattr__"))
theorem Cls.get {K : PySem.W.Frag} {C : Addr} (c : Cls K C) (f : Str) : PySem.W.plainGet K C f = true:=c.pg
def NoAttr (K : PySem.W.Frag) (C : Addr) (f : Str) : Prop:=PySem.W.findIn K (.ref C) f = some none
theorem NoAttr.taker {K : PySem.W.Frag} {C : Addr} {f : Str} (n : NoAttr K C f) : PySem.W.takerIn K C f = some none:=by
 unfold PySem.W.takerIn
 rw [show PySem.W.findIn K (.ref C) f = some none from n]
 rfl
section
variable {X : Cx} {pins : List (Addr × Obj)} {σ : St} {H : Hp} {s : Shared} {a C dx : Addr} {fs : List (Str × V)} {f : Str} {v : V} {A : Around} {E : Value→Shared→Prop}
theorem getattr_ok {b : Bool} {Q : Value→Shared→Prop} (I : Inv X pins σ H s) (e : H a = some (.ins C dx fs)) (c : Cls X.K C) (n : NoAttr X.K C f) (l : fs.lookup f = some v)
  (h : ∀ u s',Inv X pins σ H s'→RelV v u→Q u s') : wpAny (model X.prog X.w) A (getAttr (.ref a) f b) Q E s:=by
 obtain ⟨mA,O,r,_,_,_⟩:=ins_get I.hok e
 obtain ⟨u,hu,ru⟩:=RelO.some_of (v:=v) (o:=mA f) (by rw [← l]; exact r f)
 exact get_map I.kIn O (c.get f) c.hd n hu (handed_of ru) (h u _ (I.tok _) ru)
theorem setattr_ok {y : V} {u : Value} {Q : Unit→Shared→Prop} (I : Inv X pins σ H s) (e : H a = some (.ins C dx fs)) (c : Cls X.K C) (n : NoAttr X.K C f) (hl : fs.length < 1000) (ry : RelV y u)
  (h : ∀ s',Inv X pins σ (upd H a (.ins C dx (putF f y fs))) s'→Q () s') : wpAny (model X.prog X.w) A (setAttr (.ref a) f u) Q E s:=by
 obtain ⟨mA,O,r,wi,_,ho⟩:=ins_get I.hok e
 have hz : (fs.map (·.1)).length ≤ sizeLine:=by rw [List.length_map,sizeLine_eq]; omega
 refine set_map I.kIn O c.sa c.po n.taker c.hd wi hz fun h' O' sb=>h _ ?_
 have hd : ∃ o,h'.get? dx = some o:=let ⟨o,_,_,e',_⟩:=O'.ns; ⟨o,e'⟩
 refine I.write (x:=a) (e:=dx) (by rw [e]; exact True.intro) (.inr ho) (fun b q hb z=>(sb.2 b hb).trans z) hd ?_
 refine ⟨by rw [upd_ne O.ne]; exact ho,?_,O.ne,O'.obj,_,O'.ns,fun g=>?_,fun g hg=>?_⟩
 ·have:=length_putF f y fs; omega
 ·show RelO ((putF f y fs).lookup g) (if g = f then some u else mA g)
  rw [lookup_putF]
  by_cases q : g = f
  ·rw [if_pos q,if_pos q]; exact ry
  ·rw [if_neg q,if_neg q]; exact r g
 ·by_cases q : g = f
  ·rw [q]; exact (keys_putF f y fs).1
  ·refine (keys_putF f y fs).2 g (wi g fun z=>hg ?_)
   show (if g = f then some u else mA g) = none
   rw [if_neg q]; exact z
theorem Inv.made (I : Inv X pins σ H s) : Inv X pins σ (upd (upd H s.heap.objs.size (.own (s.heap.objs.size + 1))) (s.heap.objs.size + 1) (.ins C s.heap.objs.size []))
  { s with heap:=(s.heap.push PySem.W.emptyDict).push (PySem.W.instObj C s.heap.objs.size) }:=by
 have e1 : (s.heap.push PySem.W.emptyDict).get? s.heap.objs.size = some PySem.W.emptyDict:=Heap.get?_push_size s.heap rfl
 have e2 : ((s.heap.push PySem.W.emptyDict).push (PySem.W.instObj C s.heap.objs.size)).get? (s.heap.objs.size + 1) = some (PySem.W.instObj C s.heap.objs.size):=by
  have:=Heap.get?_push_size (s.heap.push PySem.W.emptyDict) (o:=PySem.W.instObj C s.heap.objs.size) rfl
  rwa [Heap.size_push] at this
 have e3 : (s.heap.push PySem.W.emptyDict).Ns s.heap.objs.size (fun _=>none):=⟨PySem.W.emptyDict,#[],_,e1,rfl,(fun e he=>absurd he (by simp)),fun _=>rfl⟩
 have I1:=I.laid (a:=s.heap.objs.size) (o:=.own (s.heap.objs.size + 1)) (h':=s.heap.push PySem.W.emptyDict) (t':=s.toks) (fun b u q=>Heap.get?_push_of_some _ q) (Nat.le_refl _) ⟨_,e1⟩
 refine I1.laid (a:=s.heap.objs.size + 1) (o:=.ins C s.heap.objs.size []) (t':=s.toks) (fun b u q=>Heap.get?_push_of_some _ q) (Nat.le_of_eq (Heap.size_push _ _)) ?_
 have ne : s.heap.objs.size ≠ s.heap.objs.size + 1:=Nat.ne_of_lt (Nat.lt_succ_self _)
 refine ⟨by rw [upd_ne ne,upd_same],Nat.zero_le _,ne,e2,fun _=>none,(Heap.Ns1.of_empty e3).at fun o q=>Heap.get?_push_of_some _ q,fun _=>True.intro,fun y hy=>absurd rfl hy⟩
theorem attr_of {prog : Program} {w : World} {env : Env} {e : Expr} {f : Str} {pos : Pos} {s : Shared} {Q : Value→Shared→Prop} (hb : attributeBase e f env (eval e env) = eval e env)
  (h : wpAny (model prog w) A (eval e env) (fun o s₁=>wpAny (model prog w) A (getAttr o f true) Q E s₁) E s) : wpAny (model prog w) A (eval (.Attribute e f pos) env) Q E s :=
 Attribute_any_ h (by rw [arm_eval_Attribute,hb])
end
inductive HasF (K : PySem.W.Frag) (f : Str) (Q : VK) (x : V) (H : Hp) : Prop
 | mk : ∀ a C dx fs v,(x = .ref a)→(H a = some (.ins C dx fs))→(Cls K C)→(NoAttr K C f)→(fs.lookup f = some v)→(Q v H)→HasF K f Q x H
def tFld (K : PySem.W.Frag) (ta : TE) (f : Str) : TE:=fun σ H Q=>ta σ H (HasF K f Q)
def sFld (K : PySem.W.Frag) (ta tv : TE) (f : Str) : TS:=fun D σ H=>tv σ H fun y H1=>ta σ H1 fun x H2=>∃ a C dx fs,x = .ref a∧H2 a = some (.ins C dx fs)∧Cls K C∧NoAttr K C f∧fs.length < 1000 ∧
 D.nx σ (upd H2 a (.ins C dx (putF f y fs)))
section
variable {X : Cx} {o e value : Expr} {f : Str} {pos pos' tpos : Pos} {ta tv : TE}
theorem pe_fld (he : PE X e ta) (hb : attributeBase e f X.env (eval e X.env) = eval e X.env) : PE X (.Attribute e f pos) (tFld X.K ta f):=by
 intro pins s σ H Q I h
 refine attr_of hb (thn (he pins s σ H _ I h) fun u s1 ⟨x,H1,I1,rx,a,C,dx,fs,v,ex,ea,c,n,l,q⟩=>?_)
 subst ex
 obtain rfl : u = Value.ref a:=rx
 exact getattr_ok I1 ea c n l fun u' s2 I2 ru=>⟨v,H1,I2,ru,q⟩
theorem ps_fld (ha : PE X o ta) (hv : PE X value tv) (hs : swapsWith value (some (.Attribute o f pos')) pos.line X.env = pure false) : PS X (.Assign [.Attribute o f pos'] value pos) (sFld X.K ta tv f):=by
 intro pins s σ H D I h
 refine plainObj_wpAny_Assign_Attribute (thn (hv pins s σ H _ I h) fun u s1 ⟨y,H1,I1,ry,q⟩=>thn (ha pins s1 σ H1 _ I1 q) fun ov s2 ⟨x,H2,I2,rx,a,C,dx,fs,ex,ea,c,n,l,q2⟩=>?_) hs
 subst ex
 obtain rfl : ov = Value.ref a:=rx
 exact setattr_ok I2 ea c n l ry fun s3 I3=>⟨σ,_,I3,q2⟩
end
section
variable {X : Cx} {pins : List (Addr × Obj)} {σ : St} {H : Hp} {s : Shared} {A : Around} {E : Value→Shared→Prop} {Q : Value→Shared→Prop} {c : Value} {b : Bool}
inductive TyOf (K : PySem.W.Frag) (H : Hp) : V→Value→Prop where
 | non : TyOf K H .non (.type "NoneType")
 | bl (x : Bool) : TyOf K H (.bl x) (.type "bool")
 | int (i : Int) : TyOf K H (.int i) (.type "int")
 | str (x : Str) : TyOf K H (.str x) (.type "str")
 | flt (x : UInt64) : TyOf K H (.flt x) (.type "float")
 | lst {a : Addr} {xs : List V} (e : H a = some (.lst xs)) : TyOf K H (.ref a) (.type "list")
 | frz {a : Addr} {o : Obj} {xs : List V} (e : H a = some (.frz o (.lst xs))) : TyOf K H (.ref a) (.type "list")
 | tup {a : Addr} {xs : List V} (e : H a = some (.tup xs)) : TyOf K H (.ref a) (.type "tuple")
 | dK {a : Addr} {kvs : List (Key × V)} (e : H a = some (.dK kvs)) : TyOf K H (.ref a) (.type "dict")
 | dT {a : Addr} {kvs : List (List Key × V)} (e : H a = some (.dT kvs)) : TyOf K H (.ref a) (.type "dict")
 | ins {a C dx : Addr} {fs : List (Str × V)} (e : H a = some (.ins C dx fs)) (cl : Cls K C) (ha : PySem.W.findIn K (.ref C) "__class__" = some (some (.builtin "object.__class__")))
   (hn : PySem.W.specialIn K (.builtin "object.__class__") "__get__" = some (some (.builtin "getset_descriptor.__get__"))) (htk : PySem.W.takesIn K (.builtin "object.__class__") = some true)
   (hm : PySem.W.mroIn K C (.type "object") = some true) : TyOf K H (.ref a) (.ref C)
theorem isinst_ok {x : V} {u t : Value} (I : Inv X pins σ H s) (rx : RelV x u) (ty : TyOf X.K H x t) (e : PySem.W.kitOne X.K t c = some b) (h : ∀ tk,Q (.bool b) { s with toks:=tk }) :
  wpAny (model X.prog X.w) A (call (.builtin "isinstance") [u, c]) Q E s := by
 cases ty with
 | non=>cases (show u = Value.none from rx); exact PySem.W.kia_one PySem.W.kitx_none I.kIn True.intro e (fun z=>nomatch z) h
 | bl y=>cases (show u = Value.bool y from rx); exact PySem.W.kia_one PySem.W.kitx_bool I.kIn True.intro e (fun z=>nomatch z) h
 | int i=>obtain ⟨t,q⟩:=(show ∃ t,u = Value.int i t from rx); cases q; exact PySem.W.kia_one PySem.W.kitx_int I.kIn True.intro e (fun z=>nomatch z) h
 | str y=>obtain ⟨t,q⟩:=(show ∃ t,u = Value.str y t from rx); cases q; exact PySem.W.kia_one PySem.W.kitx_str I.kIn True.intro e (fun z=>nomatch z) h
 | flt y=>obtain ⟨t,q⟩:=(show ∃ t,u = Value.float y t from rx); cases q; exact PySem.W.kia_one PySem.W.kitx_float I.kIn True.intro e (fun z=>nomatch z) h
 | @lst a xs ea =>
  cases (show u = Value.ref a from rx)
  obtain ⟨_,_,n,_,h1⟩:=(show ObjOk X.prog X.w H s.heap a (.lst xs) from I.hok a _ ea)
  exact PySem.W.kia_one PySem.W.kitx_list I.kIn ⟨_,h1,rfl⟩ e (fun z=>nomatch z) h
 | @frz a ob xs ea =>
  cases (show u = Value.ref a from rx)
  obtain ⟨_,_,_,n,_,h1⟩:=(show ObjOk X.prog X.w H s.heap a (.frz ob (.lst xs)) from I.hok a _ ea)
  exact PySem.W.kia_one PySem.W.kitx_list I.kIn ⟨_,h1,rfl⟩ e (fun z=>nomatch z) h
 | @tup a xs ea =>
  cases (show u = Value.ref a from rx)
  obtain ⟨_,_,_,p⟩:=(show ObjOk X.prog X.w H s.heap a (.tup xs) from I.hok a _ ea)
  obtain ⟨o,h1,h2,_⟩:=p
  exact PySem.W.kia_one PySem.W.kitx_tuple I.kIn ⟨o,h1,h2⟩ e (fun z=>nomatch z) h
 | @dK a kvs ea =>
  cases (show u = Value.ref a from rx)
  obtain ⟨_,_,vs,_,p⟩:=(show ObjOk X.prog X.w H s.heap a (.dK kvs) from I.hok a _ ea)
  obtain ⟨o,es,ep,h1,h2,_⟩:=p
  exact PySem.W.kia_one PySem.W.kitx_dict I.kIn ⟨o,h1,h2.1⟩ e (fun z=>nomatch z) h
 | @dT a kvs ea =>
  cases (show u = Value.ref a from rx)
  obtain ⟨_,_,xs,_,o,es,ep,h1,h2,_⟩:=(show ObjOk X.prog X.w H s.heap a (.dT kvs) from I.hok a _ ea)
  exact PySem.W.kia_one PySem.W.kitx_dict I.kIn ⟨o,h1,h2.1⟩ e (fun z=>nomatch z) h
 | @ins a C dx fs ea cl ha hn htk hm =>
  cases (show u = Value.ref a from rx)
  obtain ⟨mA,O,_⟩:=ins_get I.hok ea
  obtain ⟨od,J,_⟩:=O.look
  exact PySem.W.kia_one (PySem.W.kitx_own (cl.get _) cl.hd ha hn htk hm) I.kIn J e (fun z=>nomatch z) h
end
end L2
namespace L2
open PySem PySem.Spec PyProof.Rows
structure Room (k : Nat) (A : Around) : Prop where
 hd : A.handled = none
 dp : A.depth + 3 * k + 5 < recursionLimit
 un : A.units + 16 * k + 200 < cLine
theorem Room.mono {j k : Nat} {A : Around} (r : Room k A) (h : j ≤ k) : Room j A:=⟨r.hd,by have:=r.dp; omega,by have:=r.un; omega⟩
theorem Room.deeper {k : Nat} {A : Around} (r : Room (k + 1) A) (env : Env) : Room k (A.deeper env) :=
 ⟨r.hd,by have:=r.dp; show A.depth + 1 + 3 * k + 5 < _; omega,by have:=r.un; show A.units + 3 + 16 * k + 200 < _; omega⟩
theorem Room.in1 {k : Nat} {A : Around} (r : Room (k + 1) A) : Room k A.in1 :=
 ⟨r.hd,by have:=r.dp; show A.depth + 3 * k + 5 < _; omega,by have:=r.un; show A.units + 1 + 16 * k + 200 < _; omega⟩
theorem make_depth {A : Around} {C : Addr} {us : List Value} {kw : List (Str × Value)} : (A.under (.builtin "type.__call__" ⟨.ref C :: us, kw⟩)).depth = A.depth + 1 := by
 first | rfl | simp [Around.under,Code.weight,Code.isCreation,Code.isGuard,Code.isCaller,Code.frames,Code.isFrame,guardIds]
theorem make_units {A : Around} {C : Addr} {us : List Value} {kw : List (Str × Value)} : (A.under (.builtin "type.__call__" ⟨.ref C :: us, kw⟩)).units = A.units + 1 := by
 first | rfl | simp [Around.under,Code.cUnits,Code.frames,Code.isFrame]
theorem Room.make {k : Nat} {A : Around} (r : Room (k + 1) A) (C : Addr) (us : List Value) (kw : List (Str × Value)) : Room k (A.under (.builtin "type.__call__" ⟨.ref C :: us, kw⟩)) :=
 ⟨r.hd,by have:=r.dp; rw [make_depth]; omega,by have:=r.un; rw [make_units]; omega⟩
theorem Room.depth {k : Nat} {A : Around} (r : Room k A) : A.depth < recursionLimit:=by have:=r.dp; omega
theorem Room.units {k : Nat} {A : Around} (r : Room k A) : A.units + 64 < cLine:=by have:=r.un; omega
theorem Room.units0 {k : Nat} {A : Around} (r : Room k A) : A.units < cLine:=by have:=r.un; omega
def tNil : TA:=fun _ H Q=>Q [] H
def tCons (ta : TE) (tr : TA) : TA:=fun σ H Q=>ta σ H fun x H1=>tr σ H1 fun xs H2=>Q (x :: xs) H2
section
variable {X : Cx} {e : Expr} {es : List Expr} {te : TE} {t : TA} {pos : Pos}
theorem pa_nil : PA X [] tNil:=fun _ _ _ _ H Q I h=>Calls.spliced_nil ⟨[],H,I,.nil,h⟩
theorem pa_cons (ha : PE X e te) (hr : PA X es t) (hs : starEach (e :: es) X.env = (false,eval e X.env) :: starEach es X.env:=by rfl) : PA X (e :: es) (tCons te t):=by
 intro pos pins s σ H Q I h
 rw [hs]
 show wpAny _ _ (spliced ((false,eval e X.env) :: backTo pos (starEach es X.env))) _ _ s
 refine Calls.spliced_cons (thn (ha pins s σ H _ I h) fun u s1 ⟨x,H1,I1,r1,q1⟩=>?_)
 exact thn (hr pos pins s1 σ H1 _ I1 q1) fun us s2 ⟨xs,H2,I2,r2,q2⟩=>⟨x :: xs,H2,I2,.cons r1 r2,q2⟩
def tTup (t : TA) : TE:=fun σ H Q=>t σ H fun xs H1=>xs.length ≤ sizeLine∧∀ p,H1 p = none→Q (.ref p) (upd H1 p (.tup xs))
def tLst (t : TA) : TE:=fun σ H Q=>t σ H fun xs H1=>xs.length ≤ sizeLine∧∀ p,H1 p = none→Q (.ref p) (upd H1 p (.lst xs))
theorem pe_tup {x1} (h : PA X es t) : PE X (.Tuple es x1 pos) (tTup t):=by
 intro pins s σ H Q I hq
 refine wpAny_Tuple_spliced (thn (h pos pins s σ H _ I hq) fun us s1 ⟨xs,H1,I1,r,z,q⟩=>⟨by rw [← r.length]; exact z,?_⟩)
 have hf : H1 s1.heap.objs.size = none:=I1.hok.fresh (Nat.le_refl _)
 refine ⟨.ref s1.heap.objs.size,upd H1 s1.heap.objs.size (.tup xs),I1.laid (t':=s1.toks) (fun b u e=>Heap.get?_push_of_some _ e) (Nat.le_refl _) ?_,rfl,q _ hf⟩
 exact ⟨z,us,r,⟨_,Heap.get?_push_size _ rfl,rfl,_,rfl⟩⟩
theorem pe_lst (h : PA X es t) : PE X (.List es pos) (tLst t):=by
 intro pins s σ H Q I hq
 refine wpAny_List_spliced (thn (h pos pins s σ H _ I hq) fun us s1 ⟨xs,H1,I1,r,z,q⟩=>⟨by rw [← r.length]; exact z,?_⟩)
 have hf : H1 s1.heap.objs.size = none:=I1.hok.fresh (Nat.le_refl _)
 refine ⟨.ref s1.heap.objs.size,upd H1 s1.heap.objs.size (.lst xs),I1.laid (t':=s1.toks) (fun b u e=>Heap.get?_push_of_some _ e) (Nat.le_refl _) ?_,rfl,q _ hf⟩
 exact ⟨z,us,0,r,Heap.get?_push_size _ rfl⟩
end
abbrev Sp:=List V→Hp→VK→XK→Prop
abbrev CXT:=List Env→Hp→Shared→XK→Value→Shared→Prop
structure Env0 (P : Program) (w : World) (K : PySem.W.Frag) (mg : Str→Option Value) (base : Heap) (A : Around) (outer : List Env) (s : Shared) (H : Hp) : Prop where
 frames : A.frames = some outer
 mod : Mod K mg base
 bs : ∀ b o,base.get? b = some o→s.heap.get? b = some o∧H b = none
 bsz : base.objs.size ≤ s.heap.objs.size
 funs : s.heap.FunFrames base outer
 frf : ∀ b ∈ frs outer,H b = none
 hok : HOk P w H s.heap
 bare : AllBare s.gens
def CE (outer : List Env) (P : Program) (w : World) (H : Hp) (s : Shared) (Q : VK) (u : Value) (s' : Shared) : Prop :=
 ∃ v H',s'.os = s.os∧AllBare s'.gens∧Un (frs outer) [] H H' s.heap s'.heap∧HOk P w H' s'.heap∧RelV v u∧Q v H'
def CR (CX : CXT) (outer : List Env) (P : Program) (w : World) (H : Hp) (s : Shared) (Q : VK) (E : XK) (r : Result) (s' : Shared) : Prop :=
 match r with
 | .ok (.ret u)=>CE outer P w H s Q u s'
 | .ok _=>False
 | .error e=>CX outer H s E e s'
structure FnOk (P : Program) (w : World) (K : PySem.W.Frag) (mg : Str→Option Value) (base : Heap) (CX : CXT) (k : Nat) (f : Addr) (fd : FuncData) (ps : List Str) (sp : Sp) : Prop where
 len : ∀ vs H Q E,sp vs H Q E→vs.length = ps.length
 run : ∀ (A : Around) (outer : List Env) (s : Shared) (H : Hp) (args : Args) (us : List Value) (vs : List V) (Q : VK) (E : XK),Room k A→Env0 P w K mg base A outer s H→BindsTo s fd args (ps.zip us)→Vals vs us→sp vs H Q E →
  codeAny (model P w) A (.call (.ref f) args) (CR CX outer P w H s Q E) s
theorem FnOk.mono {P : Program} {w : World} {K : PySem.W.Frag} {mg : Str→Option Value} {base : Heap} {CX : CXT} {j k : Nat} {f : Addr} {fd : FuncData} {ps : List Str} {sp : Sp} (F : FnOk P w K mg base CX j f fd ps sp) (h : j ≤ k) :
  FnOk P w K mg base CX k f fd ps sp:=⟨F.len,fun A outer s H args us vs Q E hr=>F.run A outer s H args us vs Q E (hr.mono h)⟩
theorem Env0.make {P : Program} {w : World} {K : PySem.W.Frag} {mg : Str→Option Value} {base : Heap} {A : Around} {outer : List Env} {s : Shared} {H : Hp} (e : Env0 P w K mg base A outer s H) (C : Addr) (us : List Value) (kw : List (Str × Value)) :
  Env0 P w K mg base (A.under (.builtin "type.__call__" ⟨.ref C :: us, kw⟩)) outer s H := ⟨by first | exact e.frames | (simpa [Around.under, Code.envs, Code.isFrame, pushEnvs] using e.frames), e.mod, e.bs, e.bsz, e.funs, e.frf, e.hok, e.bare⟩
theorem Env0.in1 {P : Program} {w : World} {K : PySem.W.Frag} {mg : Str→Option Value} {base : Heap} {A : Around} {outer : List Env} {s : Shared} {H : Hp} (e : Env0 P w K mg base A outer s H) :
  Env0 P w K mg base A.in1 outer s H:=⟨e.frames,e.mod,e.bs,e.bsz,e.funs,e.frf,e.hok,e.bare⟩
section
variable {X : Cx} {pins : List (Addr × Obj)} {σ : St} {H : Hp} {s s' : Shared}
theorem Inv.env0 (I : Inv X pins σ H s) : Env0 X.prog X.w X.K X.mg X.base X.A X.stack s H :=
 ⟨I.ok.frames,I.ok.mod,I.bs,Nat.le_trans I.ok.bsz I.sz,I.stack,I.stkFree,I.hok,I.bare⟩
theorem Inv.after {Q : VK} {u : Value} (I : Inv X pins σ H s) (h : CE X.stack X.prog X.w H s Q u s') : EP X pins σ Q u s':=by
 obtain ⟨v,H',os,bare,un,hok,r,q⟩:=h
 obtain ⟨hh,g,d,t,os'⟩:=s'
 obtain rfl : os' = s.os:=os
 exact ⟨v,H',I.call (h':=hh) (g':=g) (d':=d) (t':=t) (ch:=[]) un hok bare (fun b z=>absurd z (by simp)),r,q⟩
end
def tCall (sp : Sp) (dvs : List V) (E : XK) (t : TA) : TE:=fun σ H Q=>t σ H fun vs H1=>sp (vs ++ dvs) H1 Q E
def tMake (C : Addr) (sp : Sp) (dvs : List V) (E : XK) (t : TA) : TE:=fun σ H Q=>t σ H fun vs H1=>∀ x dx,H1 x = none→H1 dx = none→dx ≠ x →
 sp (.ref x :: (vs ++ dvs)) (upd (upd H1 dx (.own x)) x (.ins C dx [])) (fun v H2=>v = .non∧Q (.ref x) H2) E
def Binds (K : PySem.W.Frag) (fd : FuncData) (ps : List Str) (ds : List Value) : Prop :=
 ∀ (s : Shared) (us : List Value),K.In s.heap→(us ++ ds).length = ps.length→BindsTo s fd ⟨us,[]⟩ (ps.zip (us ++ ds))
theorem Binds.all {K : PySem.W.Frag} {fd : FuncData} {ps : List Str} (h : ∀ us : List Value,us.length = ps.length→bindArgs fd ⟨us,[]⟩ = pure (ps.zip us)) : Binds K fd ps []:=fun s us _ hl=>by
 rw [List.append_nil] at hl ⊢
 exact .of_eq (h us hl)
def Passes (CX : CXT) (X : Cx) (E : XK) : Prop:=∀ (pins : List (Addr × Obj)) (σ : St) (H : Hp) (s : Shared) (e : Value) (s' : Shared),Inv X pins σ H s→CX X.stack H s E e s'→X.xe e s'
section
variable {X : Cx} {CX : CXT} {k : Nat} {f C : Addr} {fd : FuncData} {ps : List Str} {sp : Sp} {dvs : List V} {ds : List Value} {E : XK} {x m : Str} {p pos apos : Pos} {e o : Expr} {es : List Expr} {ta : TE} {t : TA}
theorem run_fn {pins : List (Addr × Obj)} {σ : St} {H : Hp} {s : Shared} {Q : VK} {us : List Value} {vs : List V} (F : FnOk X.prog X.w X.K X.mg X.base CX k f fd ps sp) (hr : Room k X.A) (hb : Binds X.K fd ps ds) (hd : Vals dvs ds) (hx : Passes CX X E)
  (I : Inv X pins σ H s) (r : Vals vs us) (h : sp (vs ++ dvs) H Q E) : wpAny (model X.prog X.w) X.A (call (.ref f) us) (EP X pins σ Q) X.xe s:=by
 have r2 : Vals (vs ++ dvs) (us ++ ds):=r.append hd
 have hl : (us ++ ds).length = ps.length:=by rw [← r2.length]; exact F.len _ _ _ _ h
 refine wpAny_call (codeAny_mono (F.run X.A X.stack s H ⟨us,[]⟩ (us ++ ds) (vs ++ dvs) Q E hr I.env0 (hb s us I.kIn hl) r2 h) fun r s' hq=>?_)
 cases r with
 | error e=>exact hx pins σ H s e s' I hq
 | ok fl =>
  cases fl with
  | ret u=>exact I.after hq
  | next=>exact False.elim hq
  | brk=>exact False.elim hq
  | cont=>exact False.elim hq
theorem pe_call (F : FnOk X.prog X.w X.K X.mg X.base CX k f fd ps sp) (hr : Room k X.A) (hg : Gl X x) (hm : X.mg x = some (.ref f)) (hk : PySem.W.keepIn X.K (.ref f) = true) (hb : Binds X.K fd ps ds) (hd : Vals dvs ds) (hx : Passes CX X E)
  (ha : PA X (e :: es) t) (hdb : (x == ("__debug__" : Str)) = false := by decide) (he : starEach (e :: es) X.env = (false, eval e X.env) :: starEach es X.env := by rfl) (hpl : (backTo pos (starEach es X.env)).any (·.1) = false := by rfl) :
  PE X (.Call (.Name x p) (e :: es) [] pos) (tCall sp dvs E t):=by
 intro pins s σ H Q I h
 refine wpAny_Call_Name_kw (ld_glob I hg hm ?_ hdb)
 refine PySem.W.callWith_K (h₀:=X.base) I.ok.mod.kin hk (thn (ha pos pins s σ H _ I h) fun us s1 ⟨vs,H1,I1,r,q⟩=>⟨I1.kIn,?_⟩) he hpl
 exact run_fn F hr hb hd hx I1 r q
structure Mk (K : PySem.W.Frag) (C f : Addr) : Prop where
 makes : PySem.W.makesIn K C = true
 init : PySem.W.findIn K (.ref C) "__init__" = some (some (.ref f))
 fn : PySem.W.isFn K (.ref f) = true
 kp : PySem.W.keepIn K (.ref C) = true
theorem run_make {pins : List (Addr × Obj)} {σ : St} {H : Hp} {s : Shared} {Q : VK} {us : List Value} {vs : List V} (M : Mk X.K C f) (F : FnOk X.prog X.w X.K X.mg X.base CX k f fd ps sp) (hr : Room (k + 1) X.A) (hb : Binds X.K fd ps ds) (hd : Vals dvs ds)
  (hx : Passes CX X E) (I : Inv X pins σ H s) (r : Vals vs us)
  (h : ∀ x dx,H x = none→H dx = none→dx ≠ x→sp (.ref x :: (vs ++ dvs)) (upd (upd H dx (.own x)) x (.ins C dx [])) (fun v H2=>v = .non∧Q (.ref x) H2) E) :
  wpAny (model X.prog X.w) X.A (call (.ref C) us) (EP X pins σ Q) X.xe s:=by
 have hq:=h (s.heap.objs.size + 1) s.heap.objs.size (I.hok.fresh (Nat.le_succ _)) (I.hok.fresh (Nat.le_refl _)) (Nat.ne_of_lt (Nat.lt_succ_self _))
 have I2:=Inv.made (C:=C) I
 have r2 : Vals (V.ref (s.heap.objs.size + 1) :: (vs ++ dvs)) (Value.ref (s.heap.objs.size + 1) :: (us ++ ds)):=.cons rfl (r.append hd)
 have hl : (Value.ref (s.heap.objs.size + 1) :: us ++ ds).length = ps.length:=by
  have e:=r2.length
  rw [F.len _ _ _ _ hq] at e
  exact e.symm
 refine wpAny_call (make_map (f:=f) I.kIn M.makes M.init (beq_iff_eq.mp M.fn) (codeAny_mono (F.run _ X.stack _ _ ⟨Value.ref (s.heap.objs.size + 1) :: us,[]⟩ (Value.ref (s.heap.objs.size + 1) :: (us ++ ds)) _ _ E (hr.make C us [])
  (I2.env0.make C us []) (hb _ (Value.ref (s.heap.objs.size + 1) :: us) I2.kIn hl) r2 hq) fun r s' hq'=>?_))
 cases r with
 | error e=>exact hx pins σ _ _ e s' I2 hq'
 | ok fl =>
  cases fl with
  | ret u =>
   obtain ⟨v,H',I3,rv,ev,q3⟩:=I2.after hq'
   subst ev
   exact ⟨rv,⟨V.ref (s.heap.objs.size + 1),H',I3,rfl,q3⟩⟩
  | next=>exact False.elim hq'
  | brk=>exact False.elim hq'
  | cont=>exact False.elim hq'
theorem pe_make (M : Mk X.K C f) (F : FnOk X.prog X.w X.K X.mg X.base CX k f fd ps sp) (hr : Room (k + 1) X.A) (hg : Gl X x) (hm : X.mg x = some (.ref C)) (hb : Binds X.K fd ps ds) (hd : Vals dvs ds) (hx : Passes CX X E)
  (ha : PA X (e :: es) t) (hdb : (x == ("__debug__" : Str)) = false := by decide) (he : starEach (e :: es) X.env = (false, eval e X.env) :: starEach es X.env := by rfl) (hpl : (backTo pos (starEach es X.env)).any (·.1) = false := by rfl) :
  PE X (.Call (.Name x p) (e :: es) [] pos) (tMake C sp dvs E t):=by
 intro pins s σ H Q I h
 refine wpAny_Call_Name_kw (ld_glob I hg hm ?_ hdb)
 refine PySem.W.callWith_K (h₀:=X.base) I.ok.mod.kin M.kp (thn (ha pos pins s σ H _ I h) fun us s1 ⟨vs,H1,I1,r,q⟩=>⟨I1.kIn,?_⟩) he hpl
 exact run_make M F hr hb hd hx I1 r q
end
section
variable {X : Cx} {CX : CXT} {k : Nat} {f C : Addr} {fd : FuncData} {ps ks : List Str} {sp : Sp} {E : XK} {x m : Str} {p pos apos kpos : Pos} {e o : Expr} {es : List Expr} {kws : List Keyword} {te ta : TE} {t tk : TA} {nm : Option Str}
variable {g : List Value→List Value→List Value} {gV : List V→List V→List V}
end
structure FnScope (N P : List Str) (sc : Scope) : Prop where
 kind : sc.kind = .function
 co : sc.isCoroutine = false
 gen : sc.isGenerator = false
 nd : N.Nodup
 pre : N.take P.length = P
 par : ∀ x ∈ P,sc.names.lookup x = some .local ∨ sc.names.lookup x = some .cell
 nofree : ∀ y ∈ sc.names,y.2 ≠ .free
theorem bindL_out {kindOf : Str→Option NameKind} {x : Str} : ∀ {binds : List (Str × Value)} {m : Str→Option Value},(∀ v,(x,v) ∉ binds)→bindL kindOf binds m x = m x
 | [],_,_=>rfl
 | (n,v) :: r,m,h=>by
  unfold bindL
  rw [bindL_out fun w hw=>h w (List.mem_cons_of_mem _ hw)]
  split
  ·have : x ≠ n:=by rintro rfl; exact h v List.mem_cons_self
   simp [this]
  ·rfl
theorem bindC_out {kindOf : Str→Option NameKind} {x : Str} : ∀ {binds : List (Str × Value)} {m : Str→Option Value},(∀ v,(x,v) ∉ binds)→bindC kindOf binds m x = m x
 | [],_,_=>rfl
 | (n,v) :: r,m,h=>by
  unfold bindC
  rw [bindC_out fun w hw=>h w (List.mem_cons_of_mem _ hw)]
  split
  ·rfl
  ·have : x ≠ n:=by rintro rfl; exact h v List.mem_cons_self
   simp [this]
theorem bindL_get {kindOf : Str→Option NameKind} {x : Str} {v : Value} : ∀ {P : List Str} {vs : List Value} {i : Nat} {m : Str→Option Value},P.Nodup→P[i]? = some x→vs[i]? = some v→kindOf x = some .local →
  bindL kindOf (P.zip vs) m x = some v
 | [],_,_,_,_,h,_,_=>by simp at h
 | _ :: _,[],_,_,_,_,h,_=>by simp at h
 | p :: P,w :: vs,0,m,nd,h1,h2,hk=>by
  simp at h1 h2; subst h1; subst h2
  show bindL kindOf ((p,w) :: P.zip vs) m p = _
  unfold bindL
  rw [bindL_out fun v hv=>(List.nodup_cons.mp nd).1 (List.of_mem_zip hv).1,if_pos hk]
  simp
 | p :: P,w :: vs,i + 1,m,nd,h1,h2,hk=>by
  show bindL kindOf ((p,w) :: P.zip vs) m x = _
  unfold bindL
  exact bindL_get (i:=i) (List.nodup_cons.mp nd).2 (by simpa using h1) (by simpa using h2) hk
theorem bindC_get {kindOf : Str→Option NameKind} {x : Str} {v : Value} : ∀ {P : List Str} {vs : List Value} {i : Nat} {m : Str→Option Value},P.Nodup→P[i]? = some x→vs[i]? = some v→kindOf x ≠ some .local →
  bindC kindOf (P.zip vs) m x = some v
 | [],_,_,_,_,h,_,_=>by simp at h
 | _ :: _,[],_,_,_,_,h,_=>by simp at h
 | p :: P,w :: vs,0,m,nd,h1,h2,hk=>by
  simp at h1 h2; subst h1; subst h2
  show bindC kindOf ((p,w) :: P.zip vs) m p = _
  unfold bindC
  rw [bindC_out fun v hv=>(List.nodup_cons.mp nd).1 (List.of_mem_zip hv).1,if_neg hk]
  simp
 | p :: P,w :: vs,i + 1,m,nd,h1,h2,hk=>by
  show bindC kindOf ((p,w) :: P.zip vs) m x = _
  unfold bindC
  exact bindC_get (i:=i) (List.nodup_cons.mp nd).2 (by simpa using h1) (by simpa using h2) hk
def start (N : List Str) (vs : List V) : St:=vs.map some ++ List.replicate (N.length - vs.length) none
def cxOf (CX : CXT) (P : Program) (w : World) (K : PySem.W.Frag) (mg : Str→Option Value) (base : Heap) (N : List Str) (qual : Str) (scope : Scope) (f : Addr) (cd : Value) (A : Around) (outer : List Env) (s : Shared) (H : Hp) (E : XK) : Cx where
 prog:=P
 w:=w
 K:=K
 mg:=mg
 base:=base
 A:=A.deeper (envOfC qual scope s.heap.objs.size f cd)
 N:=N
 s₀:=s
 H₀:=H
 env:=envOfC qual scope s.heap.objs.size f cd
 outer:=outer
 stack:=envOfC qual scope s.heap.objs.size f cd :: outer
 ex:=[]
 calm:=true
 fn:=fun _=>true
 pn:=[]
 xe:=fun e s'=>wpAny (model P w) (A.deeper (envOfC qual scope s.heap.objs.size f cd)) (leaving (envOfC qual scope s.heap.objs.size f cd) e) (fun _ s''=>CX outer H s E e s'') (fun e' s''=>CX outer H s E e' s'') s'
theorem cell_has {sc : Scope} {n : Nat} {x : Str} (h : sc.names.lookup x = some .cell) : ∃ c,(cellsFrom n sc.names []).lookup x = some c:=by
 have q:=PySem.W.cellsFrom_some sc.names n [] (.inl h)
 exact Option.isSome_iff_exists.mp q
theorem inv_start {CX : CXT} {P : Program} {w : World} {K : PySem.W.Frag} {mg : Str→Option Value} {base : Heap} {N ps : List Str} {qual : Str} {scope : Scope} {f : Addr} {cd : Value} {A : Around} {outer : List Env} {s s1 : Shared} {H : Hp} {E : XK} {us : List Value} {vs : List V}
  (S : FnScope N ps scope) (hd : A.handled = none) (e0 : Env0 P w K mg base A outer s H) (hl : vs.length = ps.length) (r : Vals vs us)
  (x : InCallC s s.heap.objs.size (bindL (envOfC qual scope s.heap.objs.size f cd).kindOf (ps.zip us) fun _=>none) (cellsFrom (s.heap.objs.size + 1) scope.names []) (bindC (envOfC qual scope s.heap.objs.size f cd).kindOf (ps.zip us) fun _=>none) s1) :
  Inv (cxOf CX P w K mg base N qual scope f cd A outer s H E) [] (start N vs) H s1:=by
 have hpl : ps.length ≤ N.length:=by have:=congrArg List.length S.pre; rw [List.length_take] at this; omega
 obtain ⟨h1,tk,rfl,hk⟩:=x.done
 have noA : ∀ b : Addr,b ∉ (cxOf CX P w K mg base N qual scope f cd A outer s H E).ex:=fun b z=>absurd (show b ∈ ([] : List Addr) from z) (by simp)
 refine ⟨⟨e0.mod,S.kind,rfl,rfl,Nat.le_refl _,fun y z c h1 h2=>?_,fun y hy=>?_,fun y c _ h=>?_,fun _=>hd,Around.frames_deeper e0.frames,.inr ⟨rfl,rfl⟩,fun b z=>absurd z (noA b),e0.bs,e0.bsz,fun b _ _=>noA b,fun b z=>absurd z (noA b),e0.funs,e0.frf⟩,
  rfl,e0.bare,Un.kept hk,⟨_,x.toInCall.ns,fun i y v h1 h2 h3=>?_⟩,fun y c h=>⟨_,x.cell y c h⟩,e0.hok.fresh (Nat.le_refl _),fun y c h=>?_,fun p hp=>absurd (show p ∈ ([] : List (Addr × Obj)) from hp) (by simp),e0.hok.kept hk,?_⟩
 ·exact name_of_addr x.apart (PySem.mem_of_lookup h1) (PySem.mem_of_lookup h2)
 ·have hy : scope.names.lookup y = some .cell ∨ scope.names.lookup y = some .free:=hy
  rcases hy with hy | hy
  ·exact cell_has hy
  ·exact absurd rfl (S.nofree _ (PySem.mem_of_lookup hy))
 ·exact Nat.le_of_lt (x.above y c (PySem.mem_of_lookup h))
 ·have hi : i < vs.length:=by
   unfold start at h2
   by_cases hi : i < vs.length
   ·exact hi
   ·rw [List.getElem?_append_right (by simpa using hi)] at h2
    rw [List.getElem?_replicate] at h2
    split at h2 <;> cases h2
  have ha : vs[i]? = some v:=by
   unfold start at h2
   rw [List.getElem?_append_left (by simpa using hi),List.getElem?_map] at h2
   cases e : vs[i]? with
   | none=>rw [e] at h2; cases h2
   | some a=>rw [e] at h2; cases h2; rfl
  obtain ⟨u,hu,rv⟩:=r.get ha
  have hp : ps[i]? = some y:=by
   rw [← S.pre,List.getElem?_take_of_lt (by omega)]; exact h1
  have ndP : ps.Nodup:=by rw [← S.pre]; exact S.nd.sublist (List.take_sublist _ _)
  refine ⟨u,rv,?_⟩
  rcases S.par y (List.mem_of_getElem? hp) with k | k
  ·exact .inl ⟨k,bindL_get ndP hp hu k⟩
  ·obtain ⟨c,e⟩:=cell_has (n:=s.heap.objs.size + 1) k
   refine .inr ⟨.inl k,c,e,?_⟩
   have q:=x.cell y c e
   rw [bindC_get ndP hp hu (by show scope.names.lookup y ≠ _; rw [k]; decide)] at q
   exact q
 ·exact e0.hok.fresh (Nat.le_of_lt (x.above y c (PySem.mem_of_lookup h)))
 ·unfold start
  show _ = N.length
  rw [List.length_append,List.length_map,List.length_replicate]
  omega
theorem fn_of {CX : CXT} {P : Program} {w : World} {K : PySem.W.Frag} {mg : Str→Option Value} {base : Heap} {k : Nat} {f : Addr} {name qual : Str} {params : Arguments} {body : List Stmt} {scope : Scope} {dV kV doc pm cdv ct oc : Value} {an od : Option Addr}
  {osl : Array (Option Value)} {N ps : List Str} {sp : Sp} (lk : K.lookup f = some ⟨oc,od,.func (PySem.W.fnOf name qual params body scope dV kV doc pm an cdv ct),osl⟩) (hcd : PySem.W.codeIn K cdv qual = true) (S : FnScope N ps scope)
  (len : ∀ vs H Q E,sp vs H Q E→vs.length = ps.length)
  (hbody : ∀ (A : Around) (outer : List Env) (s : Shared) (H : Hp) (vs : List V) (Q : VK) (E : XK),Room k (A.deeper (envOfC qual scope s.heap.objs.size f cdv))→sp vs H Q E →
   ∃ t,PSs (cxOf CX P w K mg base N qual scope f cdv A outer s H E) body t∧t { nx:=fun _ H'=>Q .non H',rt:=Q } (start N vs) H) :
  FnOk P w K mg base CX (k + 1) f (PySem.W.fnOf name qual params body scope dV kV doc pm an cdv ct) ps sp:=by
 refine ⟨len,fun A outer s H args us vs Q E hr e0 hb r hsp=>?_⟩
 have hl:=len _ _ _ _ hsp
 have KX : K.In s.heap:=e0.mod.kin.keeps fun b o e=>(e0.bs b o e).1
 have lim : s.heap.NoLimit:=e0.mod.nolimit.keeps fun b o e=>(e0.bs b o e).1
 have hkind : ∀ y ∈ ps.zip us,scope.names.lookup y.1 = some .local ∨ (scope.names.lookup y.1 = some .cell∧((cellsFrom (s.heap.objs.size + 1) scope.names []).lookup y.1).isSome = true):=fun ⟨n,v⟩ hy=>by
  rcases S.par n (List.of_mem_zip hy).1 with q | q
  ·exact .inl q
  ·exact .inr ⟨q,PySem.W.cellsFrom_some _ _ _ (.inl q)⟩
 refine codeAny_call_function hr.depth (KX _ _ lk) rfl S.co S.gen rfl (PySem.W.codeRec_of KX hcd) (hb _ _ _ _ ?_)
 refine wpAny_newFunctionEnv_cells S.kind hkind fun env he s1 x=>?_
 subst he
 refine ⟨lim.keeps x.toInCall.keep,codeAny_func ?_⟩
 obtain ⟨t,ht,hq⟩:=hbody A outer s H vs Q E (hr.deeper _) hsp
 have I : Inv (cxOf CX P w K mg base N qual scope f cdv A outer s H E) [] (start N vs) H s1:=inv_start S hr.hd e0 hl r x
 refine wpAny_mono (ht [] s1 (start N vs) H _ I hq) (fun fl s' hs=>?_) fun e s' hs=>hs
 have fin : ∀ {σ' : St} {H' : Hp} {v : V} {u : Value},Inv (cxOf CX P w K mg base N qual scope f cdv A outer s H E) [] σ' H' s'→RelV v u→Q v H'→CE outer P w H s Q u s' :=
  fun {σ' H' v u} J rv q=>⟨v,H',J.os,J.bare,J.base,J.hok,rv,q⟩
 cases fl with
 | ret u =>
  obtain ⟨v,σ',H',J,rv,q⟩:=hs
  exact fin J rv q
 | next =>
  obtain ⟨σ',H',J,q⟩:=hs
  exact fin (v:=V.non) (u:=Value.none) J rfl q
 | brk =>
  obtain ⟨_,_,_,q⟩:=hs
  exact False.elim q
 | cont =>
  obtain ⟨_,_,_,q⟩:=hs
  exact False.elim q
end L2
namespace L2
open PySem PySem.Spec PyProof.Rows
section
variable {X : Cx} {x : Str} {p pos : Pos} {e : Expr} {es : List Expr} {t : TA} {id T : String} {r : List V→Hp→VK→Prop}
def tCB (r : List V→Hp→VK→Prop) (t : TA) : TE:=fun σ H Q=>t σ H fun vs H1=>r vs H1 Q
theorem pe_callB (hc : CallR X (.builtin id) r) (hg : Gl X x) (hm : X.mg x = none) (hv : bootBuiltins x = some (.builtin id)) (ha : PA X (e :: es) t) (hn : x ≠ "__name__" := by decide) (hdb : (x == ("__debug__" : Str)) = false := by decide)
  (he : starEach (e :: es) X.env = (false,eval e X.env) :: starEach es X.env:=by rfl) (hpl : (backTo pos (starEach es X.env)).any (·.1) = false:=by rfl) : PE X (.Call (.Name x p) (e :: es) [] pos) (tCB r t):=by
 intro pins s σ H Q I h
 refine wpAny_Call_Name_kw (ld_blt I hg hm hv ?_ hn hdb)
 exact PyProof.Rows.callWith_builtin1 (thn (ha pos pins s σ H _ I h) fun us s1 ⟨vs,H1,I1,r1,q1⟩=>hc pins s1 σ H1 vs us Q I1 r1 q1) he hpl
theorem pe_callTy (hc : CallR X (.type T) r) (hg : Gl X x) (hm : X.mg x = none) (hv : bootBuiltins x = some (.type T)) (ha : PA X (e :: es) t) (hn : x ≠ "__name__" := by decide) (hdb : (x == ("__debug__" : Str)) = false := by decide)
  (he : starEach (e :: es) X.env = (false,eval e X.env) :: starEach es X.env:=by rfl) (hpl : (backTo pos (starEach es X.env)).any (·.1) = false:=by rfl) : PE X (.Call (.Name x p) (e :: es) [] pos) (tCB r t):=by
 intro pins s σ H Q I h
 refine wpAny_Call_Name_kw (ld_blt I hg hm hv ?_ hn hdb)
 exact PyProof.Rows.callWith_type1 (thn (ha pos pins s σ H _ I h) fun us s1 ⟨vs,H1,I1,r1,q1⟩=>hc pins s1 σ H1 vs us Q I1 r1 q1) he hpl
end
end L2
namespace HT
open PySem PyProof.Rows
section
open PySem.SeqAt
open PySem.AutoSeq1 (wpAny_loadPart')
open PySem.MeetsSeq PySem.MeetsSeq2 PySem.MeetsSeq3
end
section
variable {prog : Program} {w : World} {A : Around} {E : Value→Shared→Prop} {s : Shared}
def sIx (n d : Nat) : Option Int→Nat
 | none=>d
 | some v=>if v < 0 then (v + (n : Int)).toNat else min v.toNat n
theorem sIx_none (n d : Nat) : sIx n d none = d:=rfl
theorem sIx_nat (n d k : Nat) : sIx n d (some (k : Int)) = min k n:=by
 show (if (k : Int) < 0 then ((k : Int) + (n : Int)).toNat else min (k : Int).toNat n) = min k n
 rw [if_neg (by omega),Int.toNat_natCast]
end
end HT
namespace L2
open PySem PySem.Spec PyProof.Rows
abbrev TO:=St→Hp→(Option Int→Hp→Prop)→Prop
def PO (X : Cx) (e : Option Expr) (t : TO) : Prop :=
 ∀ (pins : List (Addr × Obj)) (s : Shared) (σ : St) (H : Hp) (Q : Option Int→Hp→Prop),Inv X pins σ H s→t σ H Q →
  wpAny (model X.prog X.w) X.A (evalPart e X.env) (fun u s'=>∃ o H',Inv X pins σ H' s'∧IsPart u o∧Q o H') X.xe s
def tNoPart : TO:=fun _ H Q=>Q none H
inductive IsI (Q : Option Int→Hp→Prop) (x : V) (H : Hp) : Prop
 | mk : ∀ i,(x = .int i)→(Q (some i) H)→IsI Q x H
def tPart (t : TE) : TO:=fun σ H Q=>t σ H (IsI Q)
section
variable {X : Cx} {e : Expr} {te : TE} {lo hi : Option Expr} {tl th : TO} {pos p2 : Pos}
theorem po_none : PO X none tNoPart:=by
 intro pins s σ H Q I h
 rw [evalPart_none]
 exact wpAny_pure ⟨none,H,I,.none,h⟩
theorem po_some (h : PE X e te) : PO X (some e) (tPart te):=by
 intro pins s σ H Q I hw
 rw [evalPart_some]
 refine thn (h pins s σ H _ I hw) fun u s1 ⟨x,H1,I1,r1,q1⟩=>?_
 obtain ⟨i,rfl,q⟩:=q1
 obtain ⟨t,rfl⟩:=r1
 exact ⟨some i,H1,I1,.int i t,q⟩
def SlR (X : Cx) (r : V→Option Int→Option Int→Hp→VK→Prop) : Prop :=
 ∀ (pins : List (Addr × Obj)) (s : Shared) (σ : St) (H : Hp) (x : V) (v vl vu : Value) (lo hi : Option Int) (sl : Addr) (Q : VK),Inv X pins σ H s→RelV x v→s.heap.IsSliceOf sl vl vu .none→IsPart vl lo→IsPart vu hi→r x lo hi H Q →
  ∃ T id, typeLookup (.type T) "__getitem__" = pure (some (.builtin id)) ∧ s.TypeIs v T ∧ wpAny (model X.prog X.w) X.A (getItem v (.ref sl)) (EP X pins σ Q) X.xe s
theorem SlR.or {r r' : V→Option Int→Option Int→Hp→VK→Prop} (h : SlR X r) (h' : SlR X r') : SlR X (fun x lo hi H Q=>r x lo hi H Q ∨ r' x lo hi H Q):=by
 intro pins s σ H x v vl vu lo hi sl Q I rx hs pl pu q
 rcases q with q | q
 ·exact h pins s σ H x v vl vu lo hi sl Q I rx hs pl pu q
 ·exact h' pins s σ H x v vl vu lo hi sl Q I rx hs pl pu q
def tSl (r : V→Option Int→Option Int→Hp→VK→Prop) (te : TE) (tl th : TO) : TE:=fun σ H Q=>te σ H fun x H1=>tl σ H1 fun l H2=>th σ H2 fun u H3=>r x l u H3 Q
theorem pe_slice {r : V→Option Int→Option Int→Hp→VK→Prop} (hr : SlR X r) (he : PE X e te) (hl : PO X lo tl) (hu : PO X hi th) : PE X (.Subscript e (.Slice lo hi none p2) pos) (tSl r te tl th):=by
 intro pins s σ H Q I h
 refine Subscript_ (thn (he pins s σ H _ I h) fun v s1 ⟨x,H1,I1,r1,q1⟩=>?_)
 refine wpAny_Slice (thn (hl pins s1 σ H1 _ I1 q1) fun vl s2 ⟨l,H2,I2,pl,q2⟩=>thn (hu pins s2 σ H2 _ I2 q2) fun vu s3 ⟨u,H3,I3,pu,q3⟩=>?_)
 rw [evalPart_none]
 refine wpAny_pure ?_
 have I4 : Inv X pins σ H3 { s3 with heap := s3.heap.push { cls := .type "slice", data := .fields #[vl, vu, .none] } } := I3.kept (t' := s3.toks) fun b ob q => Heap.get?_push_of_some _ q
 obtain ⟨T, id, hT, ht, hg⟩ := hr pins { s3 with heap := s3.heap.push { cls := .type "slice", data := .fields #[vl, vu, .none] } } σ H3 x v vl vu l u s3.heap.objs.size Q I4 r1 (Heap.IsSliceOf.new ..) pl pu q3
 show wpAny (model X.prog X.w) X.A (subscriptTail e (.Slice lo hi none p2) v (.ref s3.heap.objs.size)) (EP X pins σ Q) X.xe { s3 with heap := s3.heap.push { cls := .type "slice", data := .fields #[vl, vu, .none] } }
 exact tail_any (ops:=[.ref s3.heap.objs.size,v]) ht hT hg (by with_unfolding_all rfl)
def cutV (xs : List V) (lo hi : Option Int) : List V:=(xs.drop (HT.sIx xs.length 0 lo)).take (HT.sIx xs.length xs.length hi - HT.sIx xs.length 0 lo)
theorem cutV_length (xs : List V) (lo hi : Option Int) : (cutV xs lo hi).length ≤ xs.length:=by
 unfold cutV
 rw [List.length_take,List.length_drop]
 omega
end
end L2
namespace L2
open PySem PySem.Spec PyProof.Rows
def ixN (n : Nat) (i : Int) : Option Nat:=if 0 ≤ i then (if i < n then some i.toNat else none) else if -(n : Int) ≤ i then some (i + n).toNat else none
def atI {α : Type} (xs : List α) (i : Int) : Option α:=(ixN xs.length i).bind fun j=>xs[j]?
theorem ixN_seq {n : Nat} {i : Int} {j : Nat} (h : ixN n i = some j) : seqIndex? i n = some j∧j < n∧-(n : Int) ≤ i∧i < n:=by
 unfold ixN at h
 by_cases h0 : 0 ≤ i
 ·rw [if_pos h0] at h
  by_cases h1 : i < n
  ·rw [if_pos h1] at h
   have e : i.toNat = j:=Option.some.inj h
   exact ⟨by rw [seqIndex_of h0 h1,e],by omega,by omega,h1⟩
  ·rw [if_neg h1] at h; cases h
 ·rw [if_neg h0] at h
  by_cases h1 : -(n : Int) ≤ i
  ·rw [if_pos h1] at h
   have e : (i + n).toNat = j:=Option.some.inj h
   exact ⟨by rw [seqIndex_neg (by omega) h1,e],by omega,h1,by omega⟩
  ·rw [if_neg h1] at h; cases h
theorem atI_get {α : Type} {xs : List α} {i : Int} {v : α} (h : atI xs i = some v) : ∃ j,seqIndex? i xs.length = some j∧xs[j]? = some v∧j < xs.length∧-(xs.length : Int) ≤ i∧i < xs.length:=by
 unfold atI at h
 cases e : ixN xs.length i with
 | none=>rw [e] at h; cases h
 | some j =>
  rw [e] at h
  obtain ⟨h1,h2,h3,h4⟩:=ixN_seq e
  exact ⟨j,h1,h,h2,h3,h4⟩
theorem atI_nat {α : Type} {xs : List α} {j : Nat} {v : α} (h : xs[j]? = some v) : atI xs (j : Int) = some v:=by
 have hj : j < xs.length:=(List.getElem?_eq_some_iff.mp h).1
 have e : ixN xs.length (j : Int) = some j:=by
  unfold ixN
  rw [if_pos (by omega),if_pos (by omega)]; simp
 unfold atI; rw [e]; exact h
def PlainIx (b : Expr) : Prop:=∀ o i,subscripted b false o i = operate [o,i] (getItem o i)
def IxR (X : Cx) (r : R2) : Prop :=
 ∀ (value slice : Expr) (pins : List (Addr × Obj)) (s : Shared) (σ : St) (H : Hp) (x y : V) (v u : Value) (Q : VK),Inv X pins σ H s→RelV x v→RelV y u→r x y H Q →
  subscripted slice false v u = operate [v,u] (getItem v u)→wpAny (model X.prog X.w) X.A (subscriptTail value slice v u) (EP X pins σ Q) X.xe s
def MtR (X : Cx) (id : String) (r : V→List V→Hp→VK→Prop) : Prop :=
 ∀ (pins : List (Addr × Obj)) (s : Shared) (σ : St) (H : Hp) (x : V) (xs : List V) (v : Value) (us : List Value) (Q : VK),Inv X pins σ H s→RelV x v→Vals xs us→r x xs H Q →
  wpAny (model X.prog X.w) X.A (call (.builtin id) (v :: us)) (EP X pins σ Q) X.xe s
section
variable {X : Cx} {a b : Expr} {ta tb : TE} {pos : Pos}
theorem IxR.or {r r' : R2} (h : IxR X r) (h' : IxR X r') : IxR X (fun x y H Q=>r x y H Q ∨ r' x y H Q):=by
 intro value slice pins s σ H x y v u Q I rx ry q hs
 rcases q with q | q
 ·exact h value slice pins s σ H x y v u Q I rx ry q hs
 ·exact h' value slice pins s σ H x y v u Q I rx ry q hs
theorem MtR.or {id : String} {r r' : V→List V→Hp→VK→Prop} (h : MtR X id r) (h' : MtR X id r') : MtR X id (fun x xs H Q=>r x xs H Q ∨ r' x xs H Q):=by
 intro pins s σ H x xs v us Q I rx rs q
 rcases q with q | q
 ·exact h pins s σ H x xs v us Q I rx rs q
 ·exact h' pins s σ H x xs v us Q I rx rs q
theorem pe_ix {r : R2} (hr : IxR X r) (ha : PE X a ta) (hb : PE X b tb) (hs : PlainIx b) : PE X (.Subscript a b pos) (tOp r ta tb):=by
 intro pins s σ H Q I h
 exact Subscript_ (binT ha hb I h fun v u s2 x y H2 I2 rx ry q=>hr a b pins s2 σ H2 x y v u Q I2 rx ry q (hs _ _))
inductive rIxL (K : PySem.W.Frag) (x : V) (y : V) (H : Hp) (Q : VK) : Prop
 | mk : ∀ p xs i v,(x = .ref p)→(y = .int i)→(SqL K H p xs)→(atI xs i = some v)→(Q v H)→rIxL K x y H Q
inductive rIxT (K : PySem.W.Frag) (x : V) (y : V) (H : Hp) (Q : VK) : Prop
 | mk : ∀ p xs i v,(x = .ref p)→(y = .int i)→(SqT K H p xs)→(atI xs i = some v)→(Q v H)→rIxT K x y H Q
theorem ix_list : IxR X (rIxL X.K):=by
 intro value slice pins s σ H x y v u Q I rx ry h hs
 obtain ⟨p,xs,i,z,rfl,rfl,hq,he,q⟩:=h
 cases rx
 obtain ⟨t,rfl⟩:=ry
 obtain ⟨its,r,pl,hz⟩:=I.list hq
 obtain ⟨j,h1,h2,h3,h4,h5⟩:=atI_get he
 obtain ⟨w,ew,rw'⟩:=r.get h2
 have hl:=r.length
 have hn:=line63
 have fin : EP X pins σ Q w s:=⟨z,H,I,rw',q⟩
 by_cases h0 : 0 ≤ i
 ·have hj : i.toNat = j:=by
   rw [seqIndex_of h0 h5] at h1
   exact Option.some.inj h1
  exact item_listR pl.isList h0 (by omega) (by rw [hj]; simpa using ew) fin hs
 ·have hj : (i + (its.toArray.size : Int)).toNat = j:=by
   rw [seqIndex_neg (by omega) h4] at h1
   rw [List.size_toArray,← hl]
   exact Option.some.inj h1
  exact subscriptTail_builtinR (x:=w) pl.isList.typeIs slot_list_getitem.lookup
   (wpAny_getItem_list_neg (Q:=fun r s'=>r = w∧EP X pins σ Q r s') pl.isList (by omega) (by rw [List.size_toArray] <;> omega) (by omega) (by rw [hj]; simpa using ew) ⟨rfl,fin⟩) hs
theorem ix_tup : IxR X (rIxT X.K):=by
 intro value slice pins s σ H x y v u Q I rx ry h hs
 obtain ⟨p,xs,i,z,rfl,rfl,hq,he,q⟩:=h
 cases rx
 obtain ⟨t,rfl⟩:=ry
 obtain ⟨its,r,pl,hz⟩:=I.tuple hq
 obtain ⟨j,h1,h2,h3,h4,h5⟩:=atI_get he
 obtain ⟨w,ew,rw'⟩:=r.get h2
 have hl:=r.length
 have hn:=line63
 have fin : EP X pins σ Q w s:=⟨z,H,I,rw',q⟩
 exact subscriptTail_builtinR (x:=w) pl.typeIs slot_tuple_getitem.lookup
  (getItem_tuple (j:=j) (Q:=fun r s'=>r = w∧EP X pins σ Q r s') pl (by omega) (by omega) (by rw [List.size_toArray,← hl]; exact h1) (by simpa using ew) ⟨rfl,fin⟩) hs
theorem mapSeq_set (its : List Value) (n j : Nat) (u : Value) : Obj.mapSeq (·.setIfInBounds j u) { cls := .type "list", data := .seq its.toArray n } = { cls := .type "list", data := .seq (its.set j u).toArray n } := by
 simp [Obj.mapSeq]
theorem Inv.lst {pins : List (Addr × Obj)} {σ : St} {H : Hp} {s : Shared} {p : Addr} {xs : List V} (I : Inv X pins σ H s) (h : H p = some (.lst xs)) :
  ∃ (its : List Value) (n : Nat), Vals xs its ∧ s.heap.get? p = some { cls := .type "list", data := .seq its.toArray n } ∧ xs.length ≤ sizeLine := by
 obtain ⟨z,its,n,r,e⟩:=I.hok p _ h
 exact ⟨its,n,r,e,z⟩
theorem Inv.lstUpd {pins : List (Addr × Obj)} {σ : St} {H : Hp} {s : Shared} {p : Addr} {xs ys : List V} {its its' : List Value} {n n' : Nat} {f : Obj→Obj} (I : Inv X pins σ H s) (h : H p = some (.lst xs))
  (ho : s.heap.get? p = some { cls := .type "list", data := .seq its.toArray n }) (hf : f { cls := .type "list", data := .seq its.toArray n } = { cls := .type "list", data := .seq its'.toArray n' }) (r : Vals ys its') (hz : ys.length ≤ sizeLine) (t : Nat) :
  Inv X pins σ (upd H p (.lst ys)) { s with heap:=s.heap.update p f,toks:=t }:=by
 have e : (s.heap.update p f).get? p = some { cls := .type "list", data := .seq its'.toArray n' } := by
  rw [Heap.get?_update_self f ho (by rw [hf] <;> rfl),hf]
 refine I.write (x:=p) (e:=p) (by rw [h]; trivial) (.inl rfl) (fun b u hb q=>(Heap.get?_update_other _ _ (Ne.symm hb)).trans q) ⟨_,e⟩ ?_
 exact ⟨hz,its',n',r,e⟩
inductive rSetL (o : V) (i : V) (v : V) (H : Hp) (Q : (Hp→Prop)) : Prop
 | mk : ∀ p xs k j,(o = .ref p)→(i = .int k)→(H p = some (.lst xs))→(ixN xs.length k = some j)→(Q (upd H p (.lst (xs.set j v))))→rSetL o i v H Q
theorem set_list : PSet X rSetL:=by
 intro pins s σ H o i v ov iv u Q I ro ri rv h
 obtain ⟨p,xs,k,j,rfl,rfl,hp,hj,q⟩:=h
 cases ro
 obtain ⟨t,rfl⟩:=ri
 obtain ⟨its,n,r,ho,hz⟩:=I.lst hp
 obtain ⟨h1,h2,h3,h4⟩:=ixN_seq hj
 have hl:=r.length
 have hn:=line63
 have I' : Inv X pins σ (upd H p (.lst (xs.set j v))) { s with heap:=s.heap.update p (Obj.mapSeq (·.setIfInBounds j u)) } :=
  I.lstUpd hp ho (mapSeq_set its n j u) (r.set rv j) (by rw [List.length_set]; exact hz) s.toks
 by_cases h0 : 0 ≤ k
 ·have hk : k.toNat = j:=by
   rw [seqIndex_of h0 h4] at h1
   exact Option.some.inj h1
  exact PySem.W.ki_setAt ho h0 (by omega) (by rw [List.size_toArray,← hl]; exact h4) (by rw [hk]; exact ⟨_,I',q⟩)
 ·have hk : (k + (its.toArray.size : Int)).toNat = j:=by
   rw [seqIndex_neg (by omega) h3] at h1
   rw [List.size_toArray,← hl]
   exact Option.some.inj h1
  exact PySem.W.ki_setBack ho (by omega) (by rw [List.size_toArray,← hl]; exact h3) (by omega) (by rw [hk]; exact ⟨_,I',q⟩)
theorem slice_bounds (lo hi : Option Int) (n : Nat) : (sliceBounds lo hi none n).1 = ((HT.sIx n 0 lo : Nat) : Int)∧(sliceBounds lo hi none n).2.1 = ((HT.sIx n n hi : Nat) : Int)∧(sliceBounds lo hi none n).2.2 = 1:=by
 refine ⟨?_,?_,rfl⟩
 ·cases lo with
  | none=>simp [sliceBounds,HT.sIx]
  | some i =>
   simp only [sliceBounds,HT.sIx,Option.getD_none,show (1 : Int) > 0 by decide,if_true]
   by_cases h : i < 0
   ·simp only [h,if_true] <;> omega
   ·simp only [h,if_false] <;> omega
 ·cases hi with
  | none=>simp [sliceBounds,HT.sIx]
  | some i =>
   simp only [sliceBounds,HT.sIx,Option.getD_none,show (1 : Int) > 0 by decide,if_true]
   by_cases h : i < 0
   ·simp only [h,if_true] <;> omega
   ·simp only [h,if_false] <;> omega
theorem slicePick_cut (its : List Value) (lo hi : Option Int) : slicePick its.toArray lo hi none = ((its.drop (HT.sIx its.length 0 lo)).take (HT.sIx its.length its.length hi - HT.sIx its.length 0 lo)).toArray:=by
 obtain ⟨h1,h2,h3⟩:=slice_bounds lo hi its.toArray.size
 unfold slicePick
 rw [h1,h2,h3]
 simp only [sliceRange_one,pick_run,List.size_toArray] <;> rfl
inductive rSlL (K : PySem.W.Frag) (x : V) (lo : Option Int) (hi : Option Int) (H : Hp) (Q : VK) : Prop
 | mk : ∀ a xs,(x = .ref a)→(SqL K H a xs)→(∀ p,H p = none→Q (.ref p) (upd H p (.lst (cutV xs lo hi))))→rSlL K x lo hi H Q
theorem sl_list : SlR X (rSlL X.K):=by
 intro pins s σ H x v vl vu lo hi sl Q I rx hs pl pu h
 obtain ⟨a,xs,rfl,hx,q⟩:=h
 cases rx
 obtain ⟨its,r,ht,hz⟩:=I.list hx
 have hlen:=r.length
 refine ⟨"list", _, slot_list_getitem.lookup, ht.isList.typeIs, ?_⟩
 refine wpAny_getItem_list_slice ht.isList hs pl pu .none (by simp) ?_ (by rw [List.size_toArray] <;> omega)
 rw [slicePick_cut,← hlen]
 refine ⟨.ref s.heap.objs.size,_,I.laid (t':=s.toks) (o:=.lst (cutV xs lo hi)) (fun b ob q=>Heap.get?_push_of_some _ q) (Nat.le_refl _) ?_,rfl,q _ (I.hok.fresh (Nat.le_refl _))⟩
 exact ⟨Nat.le_trans (cutV_length xs lo hi) hz,_,0,(r.drop (HT.sIx xs.length 0 lo)).take (HT.sIx xs.length xs.length hi - HT.sIx xs.length 0 lo),Heap.get?_push_size _ rfl⟩
def flatV : V→Bool
 | .non=>true
 | .bl _=>true
 | .int _=>true
 | .str _=>true
 | _=>false
def eqV : V→V→Bool
 | .non,.non=>true
 | .bl a,.bl b=>a == b
 | .bl a,.int b=>(if a then 1 else 0) == b
 | .int a,.bl b=>a == (if b then 1 else 0)
 | .int a,.int b=>a == b
 | .str a,.str b=>a == b
 | _,_=>false
theorem eqAt_V {A : Around} {s : Shared} {y x : V} {u v : Value} (ry : RelV y u) (rx : RelV x v) (fy : flatV y = true) (fx : flatV x = true) : SeqAt.EqAt A s u v (eqV y x):=by
 cases y with
 | non =>
  cases ry
  cases x with
  | non=>cases rx; exact SeqAt.EqAt.same _
  | bl b=>cases rx; exact SeqAt.EqAt.none_bool b
  | int b=>obtain ⟨t,rfl⟩:=rx; exact SeqAt.EqAt.none_int b t
  | str b=>obtain ⟨t,rfl⟩:=rx; exact SeqAt.EqAt.none_str b t
  | _=>exact absurd (show false = true from fx) Bool.false_ne_true
 | bl a =>
  cases ry
  cases x with
  | non=>cases rx; exact SeqAt.EqAt.bool_none a
  | bl b=>cases rx; exact SeqAt.EqAt.bool_bool a b
  | int b=>obtain ⟨t,rfl⟩:=rx; exact SeqAt.EqAt.bool_int a b t
  | str b=>obtain ⟨t,rfl⟩:=rx; exact SeqAt.EqAt.bool_str a b t
  | _=>exact absurd (show false = true from fx) Bool.false_ne_true
 | int a =>
  obtain ⟨t',rfl⟩:=ry
  cases x with
  | non=>cases rx; exact SeqAt.EqAt.int_none a t'
  | bl b=>cases rx; exact SeqAt.EqAt.int_bool a t' b
  | int b=>obtain ⟨t,rfl⟩:=rx; exact SeqAt.EqAt.int_int a t' b t
  | str b=>obtain ⟨t,rfl⟩:=rx; exact SeqAt.EqAt.int_str a t' b t
  | _=>exact absurd (show false = true from fx) Bool.false_ne_true
 | str a =>
  obtain ⟨t',rfl⟩:=ry
  cases x with
  | non=>cases rx; exact SeqAt.EqAt.str_none a t'
  | bl b=>cases rx; exact SeqAt.EqAt.str_bool a t' b
  | int b=>obtain ⟨t,rfl⟩:=rx; exact SeqAt.EqAt.str_int a t' b t
  | str b=>obtain ⟨t,rfl⟩:=rx; exact SeqAt.EqAt.str_str a t' b t
  | _=>exact absurd (show false = true from fx) Bool.false_ne_true
 | _=>exact absurd (show false = true from fy) Bool.false_ne_true
def eqU (x : V) (u : Value) : Bool:=match u with
 | .none=>eqV .non x
 | .bool b=>eqV (.bl b) x
 | .int i _=>eqV (.int i) x
 | .str z _=>eqV (.str z) x
 | _=>false
theorem eqU_of {x y : V} {u : Value} (r : RelV y u) (f : flatV y = true) : eqU x u = eqV y x:=by
 cases y with
 | non=>cases r; rfl
 | bl b=>cases r; rfl
 | int i=>obtain ⟨t,rfl⟩:=r; rfl
 | str z=>obtain ⟨t,rfl⟩:=r; rfl
 | _=>exact absurd (show false = true from f) Bool.false_ne_true
theorem mem_eqAt {A : Around} {s : Shared} {x : V} {v : Value} (rx : RelV x v) (fx : flatV x = true) : ∀ {xs : List V} {us : List Value},Vals xs us→xs.all flatV = true→∀ u ∈ us,SeqAt.EqAt A s u v (eqU x u)
 | _,_,.nil,_=>fun u hu=>by cases hu
 | y :: xs,u :: us,.cons r t,f=>fun u' hu=>by
  rw [List.all_cons,Bool.and_eq_true] at f
  rcases List.mem_cons.mp hu with rfl | hu
  ·rw [eqU_of r f.1]; exact eqAt_V r rx f.1 fx
  ·exact mem_eqAt rx fx t f.2 u' hu
inductive rLen (K : PySem.W.Frag) (xs : List V) (H : Hp) (Q : VK) : Prop
 | mk : ∀ p ys,(xs = [.ref p])→(SqL K H p ys ∨ SqT K H p ys)→(Q (.int ys.length) H)→rLen K xs H Q
theorem call_len_seq : CallR X (.builtin "len") (rLen X.K) := by
 intro pins s σ H xs us Q I r h
 obtain ⟨p,ys,rfl,hq,q⟩:=h
 obtain ⟨u,rfl,rx⟩:=vals1 r
 cases rx
 have hn:=line63
 rcases hq with hq | hq
 ·obtain ⟨its,r',pl,hz⟩:=I.list hq
  have hlen:=r'.length
  exact Calls.call_len_list pl.isList (by simp only [List.size_toArray] <;> omega) ⟨.int ys.length,H,I.tok _,⟨s.toks + 1,by rw [List.size_toArray,hlen]⟩,q⟩
 ·obtain ⟨its,r',pl,hz⟩:=I.tuple hq
  have hlen:=r'.length
  exact len_tuple pl (by simp only [List.size_toArray] <;> omega) ⟨.int ys.length,H,I.tok _,⟨s.toks + 1,by rw [List.size_toArray,hlen]⟩,q⟩
theorem call_len_str : CallR X (.builtin "len") (fun xs H Q => ∃ z, xs = [.str z] ∧ z.length ≤ sizeLine ∧ Q (.int z.length) H) := by
 intro pins s σ H xs us Q I r h
 obtain ⟨z,rfl,hz,q⟩:=h
 obtain ⟨u,rfl,t,rfl⟩:=vals1 r
 have hn:=line63
 exact len_str (by omega) ⟨.int z.length,H,I.tok _,⟨_,rfl⟩,q⟩
theorem CallR.or {f : Value} {r r' : List V→Hp→VK→Prop} (h : CallR X f r) (h' : CallR X f r') : CallR X f (fun xs H Q=>r xs H Q ∨ r' xs H Q):=by
 intro pins s σ H xs us Q I rs q
 rcases q with q | q
 ·exact h pins s σ H xs us Q I rs q
 ·exact h' pins s σ H xs us Q I rs q
inductive rLstOf (K : PySem.W.Frag) (xs : List V) (H : Hp) (Q : VK) : Prop
 | mk : ∀ p ys,(xs = [.ref p])→(SqL K H p ys ∨ SqT K H p ys)→(∀ l,H l = none→Q (.ref l) (upd H l (.lst ys)))→rLstOf K xs H Q
theorem call_list_of : CallR X (.type "list") (rLstOf X.K) := by
 intro pins s σ H xs us Q I r h
 obtain ⟨p,ys,rfl,hq,q⟩:=h
 obtain ⟨u,rfl,rx⟩:=vals1 r
 cases rx
 have fin : ∀ (its : List Value),Vals ys its→ys.length ≤ sizeLine→∀ (h' : Heap) (c' : Nat),(∀ b o',s.heap.get? b = some o'→h'.get? b = some o') →
   h'.get? s.heap.objs.size = some { cls := .type "list", dict := none, data := .seq its.toArray c', slots := #[] } → EP X pins σ Q (.ref s.heap.objs.size) { s with heap := h' } := fun its r' hz h' c' kp e =>
  ⟨.ref s.heap.objs.size,_,I.laid (t':=s.toks) kp (Nat.le_refl _) (show ObjOk X.prog X.w _ h' _ (.lst ys) from ⟨hz,its,c',r',e⟩),rfl,q _ (I.hok.fresh (Nat.le_refl _))⟩
 rcases hq with hq | hq
 ·obtain ⟨its,r',pl,hz⟩:=I.list hq
  have hlen:=r'.length
  obtain ⟨o,ho,hc,n,hd⟩:=pl.isList
  exact call_list_seq p (.inl rfl) ho hc hd (fun h' c' kp e=>fin its r' hz h' c' kp e) (by simp only [List.size_toArray] <;> omega)
 ·obtain ⟨its,r',pl,hz⟩:=I.tuple hq
  have hlen:=r'.length
  obtain ⟨o,ho,hc,n,hd⟩:=pl
  exact call_list_seq p (.inr rfl) ho hc hd (fun h' c' kp e=>fin its r' hz h' c' kp e) (by simp only [List.size_toArray] <;> omega)
def tyV (K : PySem.W.Frag) (T : String) (x : V) (H : Hp) : Prop:=match x with
 | .str _ => T = "str"
 | .int _ => T = "int"
 | .ref p => (T = "list" ∧ ∃ xs, SqL K H p xs) ∨ (T = "tuple" ∧ ∃ o, K.lookup p = some o ∧ o.cls = .type "tuple" ∧ o.dict = none) ∨
   (T = "dict" ∧ ((∃ kvs, H p = some (.dK kvs)) ∨ ∃ kvs, H p = some (.dT kvs))) ∨ (T = "set" ∧ ∃ S n, H p = some (.set S n))
 | _=>False
theorem tyV_is {pins : List (Addr × Obj)} {σ : St} {H : Hp} {s : Shared} {T : String} {x : V} {v : Value} (I : Inv X pins σ H s) (r : RelV x v) (ty : tyV X.K T x H) :
  s.TypeIs v T∧∀ a,v = .ref a→∃ ob,s.heap.get? a = some ob∧ob.dict = none:=by
 cases x with
 | str z =>
  obtain ⟨t,rfl⟩:=r
  cases (show T = "str" from ty)
  exact ⟨typeIs_str s z t,fun _ e=>nomatch e⟩
 | int i =>
  obtain ⟨t,rfl⟩:=r
  cases (show T = "int" from ty)
  exact ⟨typeIs_int s i t,fun _ e=>nomatch e⟩
 | ref p =>
  cases r
  rcases ty with ⟨rfl,xs,hq⟩ | ⟨rfl,o,hk,hc,hd⟩ | ⟨rfl,hk⟩ | ⟨rfl,S,n,hk⟩
  ·obtain ⟨its,_,pl,_⟩:=I.list hq
   refine ⟨pl.isList.typeIs,fun a e=>?_⟩
   cases e
   obtain ⟨o,n,e,c,hd,_⟩:=pl
   exact ⟨o,e,hd⟩
  ·refine ⟨⟨o,I.kIn p o hk,hc⟩,fun a e=>?_⟩
   cases e
   exact ⟨o,I.kIn _ o hk,hd⟩
  ·have z : ∃ o,s.heap.get? p = some o∧o.ExactDict:=by
    rcases hk with ⟨kvs,hk⟩ | ⟨kvs,hk⟩
    ·obtain ⟨_,_,_,_,o,_,_,e,ex,_⟩:=I.hok p _ hk
     exact ⟨o,e,ex⟩
    ·obtain ⟨_,_,_,_,o,_,_,e,ex,_⟩:=I.hok p _ hk
     exact ⟨o,e,ex⟩
   obtain ⟨o,e,ex⟩:=z
   refine ⟨⟨o,e,ex.1⟩,fun a e2=>?_⟩
   cases e2
   exact ⟨o,e,ex.2.1⟩
  ·obtain ⟨o,_,_,_,e,ex,_⟩:=I.hok p _ hk
   refine ⟨⟨o,e,ex.1⟩,fun a e2=>?_⟩
   cases e2
   exact ⟨o,e,ex.2.1⟩
 | _=>exact False.elim ty
def tBM (K : PySem.W.Frag) (T : String) (r : V→List V→Hp→VK→Prop) (to : TE) (t : TA) : TE:=fun σ H Q=>to σ H fun x H1=>tyV K T x H1∧t σ H1 fun xs H2=>r x xs H2 Q
variable {o e : Expr} {es : List Expr} {to : TE} {t : TA} {name : Str} {apos cpos : Pos} {T id : String} {r : V→List V→Hp→VK→Prop}
theorem pe_bm (pa : PlainAttrs T) (slot : Slot T name id) (hty : typeOf (.builtin id) = pure (.type "method_descriptor")) (hm : MtR X id r) (ho : PE X o to) (ha : PA X (e :: es) t)
  (hbase : attributeBase o name X.env (eval o X.env) = eval o X.env:=by rfl)
  (hfew : ((backTo cpos (starEach (e :: es) X.env)).all (fun x=>!x.1) && (backToKw cpos (keywordEach [] X.env)).all (fun x=>x.1.isSome)
   && decide ((e :: es).length + ([] : List Keyword).length + (if ([] : List Keyword).isEmpty then 0 else 1) < 30)) = true:=by rfl)
  (hline : (apos.endLine == cpos.line) = true:=by rfl) (hs : starEach (e :: es) X.env = (false,eval e X.env) :: starEach es X.env:=by rfl) (hplain : (backTo cpos (starEach es X.env)).any (·.1) = false:=by rfl) :
  PE X (.Call (.Attribute o name apos) (e :: es) [] cpos) (tBM X.K T r to t):=by
 intro pins s σ H Q I h
 refine wpAny_Call_method_late hbase hfew hline rfl (thn (ho pins s σ H _ I h) fun v s1 ⟨x,H1,I1,r1,ty,q1⟩=>?_)
 obtain ⟨h1,h2⟩:=tyV_is I1 r1 ty
 refine ⟨T,id,pa,slot,hty,h1,h2,?_⟩
 have hA:=ha cpos pins s1 σ H1 _ I1 q1
 rw [hs] at hA ⊢
 refine Calls.callWith_builtin (by show (false || (backTo cpos (starEach es X.env)).any (·.1)) = false; rw [hplain] <;> rfl) (Calls.evalArgs_plain ?_)
 exact thn hA fun us s2 ⟨vs,H2,I2,r2,q2⟩=>hm pins s2 σ H2 x vs v us Q I2 r1 r2 q2
/- xs.append(e),list.index on a module's tuple .. are MtR facts of 06m -/
end
end L2
namespace L2
open PySem PySem.Spec PyProof.Rows
def MtM (X : Cx) (id : String) (r : V→List V→Hp→VK→Prop) : Prop :=
 ∀ (pins : List (Addr × Obj)) (s : Shared) (σ : St) (H : Hp) (x : V) (xs : List V) (v : Value) (us : List Value) (Q : VK),Inv X pins σ H s→RelV x v→Vals xs us→r x xs H Q →
  wpAny (model X.prog X.w) X.A (call (.builtin id) (v :: us)) (EP X pins σ Q) X.xe s
theorem Vals.one : ∀ {x : V} {us : List Value},Vals [x] us→∃ u,us = [u]∧RelV x u
 | _,_,.cons r .nil=>⟨_,rfl,r⟩
theorem Vals.two : ∀ {x y : V} {us : List Value},Vals [x,y] us→∃ u v,us = [u,v]∧RelV x u∧RelV y v
 | _,_,_,.cons r (.cons q .nil)=>⟨_,_,rfl,r,q⟩
theorem Vals.zero : ∀ {us : List Value},Vals [] us→us = []
 | _,.nil=>rfl
theorem Vals.eraseIdx : ∀ {xs : List V} {us : List Value} (i : Nat),Vals xs us→Vals (xs.eraseIdx i) (us.eraseIdx i)
 | _,_,_,.nil=>.nil
 | _,_,0,.cons _ t=>t
 | _,_,i + 1,.cons r t=>.cons r (Vals.eraseIdx i t)
theorem Vals.reverse {xs : List V} {us : List Value} (h : Vals xs us) : Vals xs.reverse us.reverse:=by
 induction h with
 | nil=>exact .nil
 | cons r t ih=>rw [List.reverse_cons,List.reverse_cons]; exact Vals.append ih (.cons r .nil)
theorem Vals.rep {xs : List V} {us : List Value} (h : Vals xs us) : ∀ k : Nat,Vals (List.replicate k xs).flatten (List.replicate k us).flatten
 | 0=>.nil
 | k + 1=>by
  rw [List.replicate_succ,List.replicate_succ,List.flatten_cons,List.flatten_cons]
  exact Vals.append h (Vals.rep h k)
theorem foldl_rep (its : List Value) : ∀ (k : Nat) (acc : List Value),
  List.foldl (fun x1 x2=>x1 ++ x2) acc.toArray (List.replicate k its.toArray) = (acc ++ (List.replicate k its).flatten).toArray
 | 0,acc=>by simp
 | k + 1,acc=>by
  have e : acc.toArray ++ its.toArray = (acc ++ its).toArray:=by simp
  have e2 : (acc ++ its) ++ (List.replicate k its).flatten = acc ++ (List.replicate (k + 1) its).flatten:=by
   rw [List.replicate_succ,List.flatten_cons,List.append_assoc]
  rw [← e2,← foldl_rep its k (acc ++ its),← e,List.replicate_succ,List.foldl_cons]
section
variable {X : Cx} {pins : List (Addr × Obj)} {σ : St} {H : Hp} {s : Shared} {l b : Addr} {xs ys zs : List V}
theorem Inv.lset {its its' : List Value} {n : Nat} {f : Array Value→Array Value} {t' : Nat} (I : Inv X pins σ H s) (hH : H l = some (.lst xs))
  (e : s.heap.get? l = some { cls := .type "list", data := .seq its.toArray n }) (hf : f its.toArray = its'.toArray) (hv : Vals ys its') (hz : ys.length ≤ sizeLine) :
  Inv X pins σ (upd H l (.lst ys)) { s with heap:=s.heap.update l (Obj.mapSeq f),toks:=t' }:=by
 have q:=PySem.IsL.update e f
 rw [hf] at q
 refine I.write (x:=l) (e:=l) (by rw [hH]; exact trivial) (.inl rfl) (fun b' u hb hu=>(Heap.get?_update_other s.heap (Obj.mapSeq f) (Ne.symm hb)).trans hu) ⟨_,q⟩ ?_
 exact ⟨hz,its',_,hv,q⟩
theorem Inv.lnew {its : List Value} {t' : Nat} (I : Inv X pins σ H s) (hv : Vals ys its) (hz : ys.length ≤ sizeLine) :
  Inv X pins σ (upd H s.heap.objs.size (.lst ys)) { s with heap := s.heap.push { cls := .type "list", data := .seq its.toArray }, toks := t' } :=
 I.laid (fun _ _ q=>Heap.get?_push_of_some _ q) (Nat.le_refl _) ⟨hz,its,0,hv,Heap.get?_push_size _ rfl⟩
theorem Inv.fresh (I : Inv X pins σ H s) : H s.heap.objs.size = none:=I.hok.fresh (Nat.le_refl _)
theorem Inv.lstM (I : Inv X pins σ H s) (hH : H l = some (.lst xs)) : xs.length ≤ sizeLine ∧ ∃ (its : List Value) (n : Nat), Vals xs its ∧ xs.length = its.length ∧ s.heap.get? l = some { cls := .type "list", data := .seq its.toArray n } := by
 obtain ⟨z,its,n,r,e⟩:=I.hok l _ hH
 exact ⟨z,its,n,r,r.length,e⟩
theorem notLongL {n : Nat} (h : n ≤ sizeLine) : Builtin.List.listTooLong n = false:=by
 unfold Builtin.List.listTooLong
 exact decide_eq_false (by omega)
end
section
variable {X : Cx}
inductive rAppend (x : V) (vs : List V) (H : Hp) (Q : VK) : Prop
 | mk : ∀ l xs y,(x = .ref l)→(vs = [y])→(H l = some (.lst xs))→(xs.length < sizeLine)→(Q .non (upd H l (.lst (xs ++ [y]))))→rAppend x vs H Q
theorem mt_append : MtM X "list.append" rAppend := by
 intro pins s σ H x vs v us Q I rx rv h
 obtain ⟨l,xs,y,rfl,rfl,hH,hz,q⟩:=h
 cases rx
 obtain ⟨u,rfl,ru⟩:=rv.one
 obtain ⟨z,its,n,r,hl,e⟩:=I.lstM hH
 refine call_meets F.slot_list_append ⟨_,e,rfl⟩ F.entry_list_append (F.args_list_append_2 _ _) (PySem.list_append l its.toArray n u (by rw [List.size_toArray]; omega)) ⟨e,?_⟩
 refine ⟨.non,_,I.lset (its':=its ++ [u]) hH e (by simp) (r.append (.cons ru .nil)) ?_,rfl,q⟩
 rw [List.length_append,List.length_singleton]
 omega
inductive rRep (x : V) (y : V) (H : Hp) (Q : VK) : Prop
 | mk : ∀ l k xs,(x = .ref l)→(y = .int k)→(H l = some (.lst xs))→(-(2 ^ 63) ≤ k)→(k < 2 ^ 63)→(xs.length * k.toNat ≤ sizeLine)→(∀ p,H p = none→Q (.ref p) (upd H p (.lst (List.replicate k.toNat xs).flatten)))→rRep x y H Q
theorem len_rep {α : Type} (xs : List α) (k : Nat) : (List.replicate k xs).flatten.length = k * xs.length:=by
 induction k with
 | zero=>simp
 | succ k ih=>rw [List.replicate_succ,List.flatten_cons,List.length_append,ih,Nat.succ_mul,Nat.add_comm]
theorem op_rep : OpR X (binaryOp .Mult) rRep:=by
 intro pins s σ H x y v u Q I rx ry h
 obtain ⟨l,k,xs,rfl,rfl,hH,h1,h2,hz,q⟩:=h
 cases rx
 obtain ⟨t,rfl⟩:=ry
 obtain ⟨z,its,n,r,hl,e⟩:=I.lstM hH
 have hlen : its.toArray.size * k.toNat ≤ sizeLine:=by rw [List.size_toArray,← hl]; exact hz
 have hcap : ¬ its.toArray.size * k.toNat > (2 ^ 63 - 1) / 8:=by
  have : (sizeLine : Nat) ≤ (2 ^ 63 - 1) / 8:=by decide
  omega
 have hfit : ¬ (!Builtin.List.listFitsIndex k) = true:=by
  rw [fitsIndex_both h1 h2]
  exact Bool.false_ne_true
 have hlong : ¬ Builtin.List.listTooLong (its.toArray.size * k.toNat) = true:=by
  rw [notLongL hlen]
  exact Bool.false_ne_true
 have hnew : List.foldl (fun x1 x2=>x1 ++ x2) #[] (List.replicate (if its.toArray.isEmpty = true then 0 else k.toNat) its.toArray) = (List.replicate k.toNat its).flatten.toArray:=by
  have f0 : ∀ m : Nat,List.foldl (fun x1 x2=>x1 ++ x2) #[] (List.replicate m its.toArray) = (List.replicate m its).flatten.toArray:=fun m=>by
   have:=foldl_rep its m []
   rw [List.nil_append] at this
   exact this
  rw [f0]
  cases its with
  | nil=>simp
  | cons a r'=>rw [if_neg (by simp)]
 refine wpAny_binaryOp_repeat_ref (T := "list") (U := "int") (by decide) ⟨_, e, rfl⟩ (fun s' => typeIs_int s' k t) noFill_list_mul F.fills_int_mul F.slot_int_rmul repeat_list F.slot_int_index.lookup
  (call_meets F.slot_int_rmul (typeIs_int s k t) F.entry_int_rmul (F.args_int_rmul_2 _ _) (int___rmul___int_list k t l its.toArray n)
   ⟨e,rfl,⟨_,e,rfl⟩,call_meets F.slot_list_mul ⟨_,e,rfl⟩ F.entry_list_mul (F.args_list_mul_2 _ _) (AutoListH.list___mul___list_int_3 l its.toArray n k t hfit hcap hlong) ⟨e,?_⟩⟩)
 rw [hnew]
 exact ⟨.ref _,_,I.lnew (t':=s.toks) (r.rep k.toNat) (by rw [len_rep,Nat.mul_comm]; exact hz),rfl,q _ I.fresh⟩
end
section
variable {prog : Program} {w : World} {A : Around} {E : Value→Shared→Prop} {s : Shared}
end
section
variable {X : Cx}
end
end L2
namespace Att
open PySem PySem.W PySem.Calls PyProof.Rows
theorem ints_of_wellAll {P : Params} {h : Heap} : ∀ (ns : List Int) (vs : List Value),WellAll P h vs (ns.map WData.int)→IntsAre vs ns:=by
 intro ns
 induction ns with
 | nil =>
  intro vs w
  rw [List.map_nil] at w
  cases w
  exact .nil
 | cons n ns ih =>
  intro vs w
  rw [List.map_cons] at w
  cases w with
  | cons a b =>
   cases a
   exact .cons _ _ (ih _ b)
theorem script_of {l : OpenLaw} {n : Nat} (hn : l.most = some n) {P : Params} {h : Heap} {args : List WData} {vals : List Value}
  (hpre : l.row.toRowW.claim.pre args = true) (hwl : WellAll P h vals args) :
  ∃ a vs ns, vals = [Value.ref a] ∧ args = [WData.list (ns.map WData.int)] ∧ h.get? a = some { cls := .type "list", data := .seq vs.toArray } ∧ IntsAre vs ns ∧ ns.length ≤ n := by
 have hsh : WShape.hasAll [] args [.list .int] = true:=(pre_splitW hpre).1
 have hc : l.pre.holds [] { args:=args } = true:=(pre_splitW hpre).2
 obtain ⟨d,r,rfl,h1,h2⟩:=hasAllW_cons hsh
 obtain rfl:=hasAllW_nil h2
 obtain ⟨xs,rfl,h3⟩:=hasW_list h1
 obtain ⟨ns,rfl⟩:=items_int h3
 have hlen : ns.length ≤ n:=by
  unfold OpenLaw.pre at hc
  have h4 : (WTm.not (.lt (.lit (.int (n : Int))) (.len (.arg 0)))).holds [] { args:=[.list (ns.map .int)] } = true:=by
   have h4:=(holds_andW hc).1
   rw [hn] at h4
   exact h4
  have h5:=condW_of h4 (w_not (w_lt w_lit (w_len_list (w_arg rfl))))
  rw [List.length_map] at h5
  refine Nat.le_of_not_lt fun q=>?_
  have q' : (n : Int) < ((ns.length : Nat) : Int):=by omega
  first
   | (rw [decide_eq_true q'] at h5; exact absurd h5 (by decide))
   | (simp at h5; omega)
 cases hwl with
 | cons w1 w2 =>
  cases w2
  cases w1 with
  | list ho hall=>exact ⟨_,_,ns,rfl,rfl,ho,ints_of_wellAll ns _ hall,hlen⟩
theorem post_true (l : OpenLaw) (args : List WData) : l.row.toRowW.claim.post args (.bool true) args = true :=
 postW_of (r:=l.row.toRowW) (X:=(true == true))
  (show WShape.has [] (.bool true) .bool = true by first | rfl | decide | simp [WShape.has,WShape.arms,WShape.armsAll])
  (show (WTm.eq .res (.lit (.bool true))).value [] { args:=args,res:=some (.bool true),after:=args } = some (.bool (true == true)) from w_eq_bool (w_res rfl) w_lit) rfl
theorem attach_call {l : OpenLaw} {n : Nat} {q : Program} {loose : List Str} {XP : (Str→Option Value)→Heap→Prop} {YP : World→Heap→Prop} {d : DefRec}
  (hn : l.most = some n) (hdf : d.params.defaults = [])
  (call : ∀ (w : World) (s₀ s₁ : Shared) (mg mb : Str→Option Value) (fa : Addr) (o : Obj) (pm cd doc : Value) (a : Addr) (vs : List Value) (ns : List Int),
   Ground q loose [] XP w s₀ mg mb s₁.heap→YP w s₁.heap →
   s₁.heap.get? fa = some o→o.data = .func (docDef d.name d.params d.body d.scope pm cd doc)→s₁.heap.CodeRec cd d.name→mg d.name = some (.ref fa) →
   s₁.heap.get? a = some { cls := .type "list", data := .seq vs.toArray } → IntsAre vs ns → ns.length ≤ n → s₁.gens = #[] →
   codeAny (model l.prog w) callerA (.call (.ref fa) ⟨[.ref a],[]⟩) (fun r s'=>r = .ok (.ret (.bool true))∧OldK s₁.heap s'.heap∧s'.os = s₁.os∧AllBare s'.gens) s₁) :
  WalkO q loose XP YP l.row.toRowW d [] (fun f vs=>PySem.call f vs):=by
 intro w s₀ s₁ mg mb G Y fa o pm cd doc dV kV ho hd hcd hD hmg hg args vals as hpre hlay hrd hwl hlo
 obtain rfl : dV = .none:=Dflts.none hD hdf
 obtain rfl : kV = .none:=Dflts.noKw hD
 obtain ⟨a,vs,ns,rfl,rfl,hobj,hints,hlen⟩:=script_of hn hpre hwl
 refine enter_call (codeAny_mono (call w s₀ s₁ mg mb fa o pm cd doc a vs ns G Y ho (fd_plain hd) hcd hmg hobj hints hlen hg) fun r s' hq=>?_)
 obtain ⟨rfl,h2,h3,h4⟩:=hq
 exact ⟨.inl ⟨.bool true,.bool true,[],rfl,fun _=>rfl,.bool true,post_true l _,fun _=>⟨List.Pairwise.nil,fun _ hm=>(nomatch hm)⟩⟩,h2,h3,h4⟩
section
variable {prog : Program} {w : World} {A : Around} {E : Value→Shared→Prop} {s : Shared} {K : Frag}
end
end Att
namespace L2
open PySem PySem.Spec PyProof.Rows
theorem vals_ints : ∀ {vs : List Value} {ns : List Int},IntsAre vs ns→Vals (ns.map V.int) vs
 | _,_,.nil=>.nil
 | _,_,.cons n t h=>.cons ⟨t,rfl⟩ (vals_ints h)
def Only (H : Hp) : Prop:=∀ b,H b = none ∨ ∃ o xs,H b = some (.frz o (.lst xs))
theorem law_call {P : Program} {w : World} {K : PySem.W.Frag} {mg mb : Str→Option Value} {CX : CXT} {k : Nat} {fa a : Addr} {fd : FuncData} {x : Str} {sp : Sp} {s₁ : Shared} {vs : List Value} {ns : List Int}
  (KX : K.In s₁.heap) (hns : s₁.heap.Ns mainGlobals mg) (hb : s₁.heap.Ns builtinsNs mb) (hbb : ∀ x : Str, x ≠ "__name__" → mb x = bootBuiltins x) (hlim : s₁.heap.NoLimit) (hg : s₁.gens = #[])
  (ha : s₁.heap.get? a = some { cls := .type "list", data := .seq vs.toArray }) (hi : IntsAre vs ns) (hl : ns.length ≤ sizeLine) (hr : Room k callerA)
  (F : ∀ base : Heap,K.In base→base.Ns mainGlobals mg→FnOk P w K mg base CX k fa fd [x] sp) (hbind : ∀ (s : Shared) (u : Value),BindsTo s fd ⟨[u],[]⟩ [(x,u)])
  (hsp : ∀ H : Hp,Only H→SqL K H a (ns.map V.int)→sp [.ref a] H (fun v _=>v = .bl true) fun _ _ _=>False)
  (hCX : ∀ H e s',CX [] H s₁ (fun _ _ _=>False) e s'→False) :
  codeAny (model P w) callerA (.call (.ref fa) ⟨[.ref a],[]⟩) (fun r s'=>r = .ok (.ret (.bool true))∧OldK s₁.heap s'.heap∧s'.os = s₁.os∧AllBare s'.gens) s₁:=by
 have rv:=vals_ints hi
 have lenV:=hi.length
 have core : ∀ H : Hp,Only H→SqL K H a (ns.map V.int)→HOk P w H s₁.heap→(∀ b,H b ≠ none→b = a)→(H a ≠ none→K.lookup a = none) →
   codeAny (model P w) callerA (.call (.ref fa) ⟨[.ref a],[]⟩) (fun r s'=>r = .ok (.ret (.bool true))∧OldK s₁.heap s'.heap∧s'.os = s₁.os∧AllBare s'.gens) s₁:=by
  intro H hO hS hok hA hK
  have base_of : ∀ {b : Addr} {o : Obj},s₁.heap.get? b = some o→H b = none→(hidT s₁.heap H).get? b = some o:=fun e n=>hidT_get e n
  have noA : ∀ {b : Addr} {o : Obj} {es : Array DictEntry} {ep : Nat},s₁.heap.get? b = some o→o.data = .dict es ep→H b = none:=fun {b o es ep} e d=>by
   cases q : H b with
   | none=>rfl
   | some u =>
    have e' : b = a:=hA b (by rw [q]; simp)
    subst e'
    rw [ha] at e; cases e
    have d' : Data.seq vs.toArray _ = Data.dict es ep:=d
    cases d'
  have nsK : ∀ {b : Addr} {m : Str→Option Value},s₁.heap.Ns b m→(hidT s₁.heap H).Ns b m:=fun {b m} ⟨o,es,ep,e,d,r⟩=>⟨o,es,ep,base_of e (noA e d),d,r⟩
  have hKb : K.In (hidT s₁.heap H):=fun b o e=>base_of (KX b o e) (by
   cases q : H b with
   | none=>rfl
   | some u =>
    have e' : b = a:=hA b (by rw [q]; simp)
    subst e'
    rw [hK (by rw [q]; simp)] at e; cases e)
  have hM : Mod K mg (hidT s₁.heap H):=⟨hKb,nsK hns,⟨mb,nsK hb,hbb⟩,let ⟨mc,h1,h2⟩:=hlim; ⟨mc,nsK h1,h2⟩⟩
  have e0 : Env0 P w K mg (hidT s₁.heap H) callerA [] s₁ H:=⟨rfl,hM,fun b o e=>of_hidT e,Nat.le_of_eq (hidT_size _ _),trivial,fun b hb=>absurd (show b ∈ ([] : List Addr) from hb) (by simp),hok,.of_eq hg⟩
  refine codeAny_mono ((F _ hKb (nsK hns)).run callerA [] s₁ H ⟨[.ref a],[]⟩ [.ref a] [.ref a] _ _ hr e0 (hbind s₁ (.ref a)) (.cons rfl .nil) (hsp H hO hS)) fun r s' h=>?_
  cases r with
  | error e=>exact (hCX H e s' h).elim
  | ok fl =>
   cases fl with
   | next=>exact False.elim h
   | brk=>exact False.elim h
   | cont=>exact False.elim h
   | ret u =>
    obtain ⟨v,H',os,bare,un,hok',r',q⟩:=h
    have q' : v = .bl true:=q
    subst q'
    obtain rfl : u = Value.bool true:=r'
    refine ⟨rfl,OldK.of_keep fun b o e=>?_,os,bare⟩
    cases q : H b with
    | none=>exact un.keep b o e q (by intro z; exact absurd (show b ∈ ([] : List Addr) from z) (by simp)) (by simp)
    | some u =>
     rcases hO b with z | ⟨ob,xs,z⟩
     ·rw [q] at z; cases z
     ·have z2:=un.frzs b ob _ z
      obtain ⟨e1,_⟩:=hok b _ z
      obtain ⟨e2,_⟩:=hok' b _ z2
      rw [e] at e1; cases e1
      exact e2
 cases hk : K.lookup a with
 | some o =>
  have e:=KX a o hk
  rw [ha] at e
  cases e
  refine core (fun _=>none) (fun _=>.inl rfl) (.inr ⟨_,vs.toArray,_,hk,rfl,rfl,rfl,by rw [List.size_toArray,lenV]; exact hl,by simpa using rv⟩) (fun b u z=>by have z' : (none : Option HO) = some u:=z; cases z') (fun b z=>absurd rfl z) fun z=>absurd rfl z
 | none =>
  refine core (fun b => if b = a then some (.frz { cls := .type "list", data := .seq vs.toArray } (.lst (ns.map V.int))) else none) (fun b => ?_) (.inl (.inr ⟨{ cls := .type "list", data := .seq vs.toArray }, if_pos rfl⟩)) (fun b u z => ?_) (fun b z => ?_) fun _ => hk
  ·by_cases hb : b = a
   ·exact .inr ⟨_,_,if_pos hb⟩
   ·exact .inl (if_neg hb)
  ·by_cases hb : b = a
   ·have z':=(if_pos hb).symm.trans z
    cases z'
    subst hb
    exact ⟨ha,by rw [List.length_map]; exact hl,vs,_,rv,ha⟩
   ·have z':=(if_neg hb).symm.trans z
    cases z'
  ·by_cases hb : b = a
   ·exact hb
   ·exact absurd (if_neg hb) z
end L2
namespace L2
open PySem PySem.Spec PyProof.Rows
theorem walk_of {l : PySem.W.OpenLaw} {n k : Nat} {q : Program} {loose : List Str} {XP : (Str→Option Value)→Heap→Prop} {YP : World→Heap→Prop} {d : DefRec} {K : Params→PySem.W.Frag} {CX : World→CXT} {sp : World→Sp} {x : Str}
  (hn : l.most = some n) (hn2 : n ≤ sizeLine) (hdf : d.params.defaults = []) (hr : Room k callerA)
  (hY : ∀ (w : World) (h : Heap),YP w h→(K w.params).In h)
  (F : ∀ (w : World) (mg : Str→Option Value) (fa : Addr) (h : Heap),(K w.params).In h→h.Ns mainGlobals mg→mg d.name = some (.ref fa) →
   ∃ fd : FuncData,(∀ (s : Shared) (u : Value),BindsTo s fd ⟨[u],[]⟩ [(x,u)]) ∧
    ∀ base : Heap,(K w.params).In base→base.Ns mainGlobals mg→FnOk l.prog w (K w.params) mg base (CX w) k fa fd [x] (sp w))
  (hsp : ∀ (w : World) (H : Hp) (a : Addr) (ns : List Int),ns.length ≤ n→Only H→SqL (K w.params) H a (ns.map V.int)→sp w [.ref a] H (fun v _=>v = .bl true) fun _ _ _=>False)
  (hCX : ∀ (w : World) (H : Hp) (s : Shared) (e : Value) (s' : Shared),CX w [] H s (fun _ _ _=>False) e s'→False) :
  PySem.W.WalkO q loose XP YP l.row.toRowW d [] (fun f vs=>PySem.call f vs):=by
 refine Att.attach_call hn hdf fun w s₀ s₁ mg mb fa o pm cd doc a vs ns G Y ho hd hcd hmg hobj hints hlen hg=>?_
 have KX:=hY w _ Y
 obtain ⟨fd,hb,hF⟩:=F w mg fa _ KX G.T.g hmg
 exact law_call KX G.T.g G.T.b G.T.builtins G.T.nolimit hg hobj hints (Nat.le_trans hlen hn2) hr hF hb (fun H hO hS=>hsp w H a ns hlen hO hS) fun H e s'=>hCX w H s₁ e s'
end L2
/- THE LAST THEOREM (shape; LID,My.* are yours):
   My.Adr: a structure of the addresses that your layer names (classes,functions); My.Txt K t: a structure (Prop) of the equations over K;
   My.txt_mk : {K} {implicit addresses ..} (e1 : nsIn K mainGlobals "law" = some (some (.ref f))) (e2 : K.lookup f = some ⟨oc, od, .func (fnOf "law" "law" params body scope dV kV doc pm an cdv ct), sl⟩) (e3 : codeIn K cdv "law" = true) .. : ∃ t, My.Txt K t
(the tactic k_is has no namespace: write k_is) -/
namespace L2
open PySem PySem.Spec PyProof.Rows
def inClass (s : Stmt) (j : Nat) : Stmt:=match s with
 | .ClassDef _ _ _ body _ _ _ _ _ _ _=>body.getD j (.Pass ⟨0,0,0,0⟩)
 | _=>.Pass ⟨0,0,0,0⟩
def defArgs (s : Stmt) : Arguments:=match s with
 | .FunctionDef _ a _ _ _ _ _ _ _ _=>a
 | _=>{ posonlyargs:=[],args:=[],vararg:=none,kwonlyargs:=[],kw_defaults:=[],kwarg:=none,defaults:=[] }
def defBody (s : Stmt) : List Stmt:=match s with
 | .FunctionDef _ _ b _ _ _ _ _ _ _=>b
 | _=>[]
def defScope (s : Stmt) : Scope:=match s with
 | .FunctionDef _ _ _ _ _ _ sc _ _ _=>sc
 | _=>{ kind:=.function,names:=[],isGenerator:=false,isCoroutine:=false }
abbrev CX0 : CXT:=fun _ _ _ _ _ _=>False
abbrev E0 : XK:=fun _ _ _=>False
theorem pass0 {X : Cx} : Passes CX0 X E0:=fun _ _ _ _ _ _ _ h=>h.elim
structure Fun (K : PySem.W.Frag) (x qual : Str) (st : Stmt) (f : Addr) (fd : FuncData) : Prop where
 ex : ∃ (oc : Value) (od : Option Addr) (kV doc pm : Value) (an : Option Addr) (cdv ct : Value) (osl : Array (Option Value)),
  fd = PySem.W.fnOf x qual (defArgs st) (defBody st) (defScope st) .none kV doc pm an cdv ct∧K.lookup f = some ⟨oc,od,.func fd,osl⟩∧PySem.W.codeIn K cdv qual = true
 kp : PySem.W.keepIn K (.ref f) = true
section
variable {P : Program} {w : World} {K : PySem.W.Frag} {mg : Str→Option Value} {base : Heap}
theorem Fun.ok {x qual : Str} {st : Stmt} {f : Addr} {fd : FuncData} {N ps : List Str} {k : Nat} {sp : Sp} (F : Fun K x qual st f fd) (S : FnScope N ps (defScope st)) (len : ∀ vs H Q E,sp vs H Q E→vs.length = ps.length)
  (hbody : ∀ (cdv : Value) (A : Around) (outer : List Env) (s : Shared) (H : Hp) (vs : List V) (Q : VK) (E : XK),Room k (A.deeper (envOfC qual (defScope st) s.heap.objs.size f cdv))→sp vs H Q E →
   ∃ t,PSs (cxOf CX0 P w K mg base N qual (defScope st) f cdv A outer s H E).nox (defBody st) t∧t { nx:=fun _ H'=>Q .non H',rt:=Q } (start N vs) H) : FnOk P w K mg base CX0 (k + 1) f fd ps sp:=by
 obtain ⟨oc,od,kV,doc,pm,an,cdv,ct,osl,rfl,lk,hcd⟩:=F.ex
 refine fn_of lk hcd S len fun A outer s H vs Q E hr hsp=>?_
 obtain ⟨t,h,q⟩:=hbody cdv A outer s H vs Q E hr hsp
 exact ⟨t,h.nox,q⟩
theorem Fun.binds {x qual : Str} {st : Stmt} {f : Addr} {fd : FuncData} {ps : List Str} (F : Fun K x qual st f fd)
  (h : ∀ (kV doc pm : Value) (an : Option Addr) (cdv ct : Value) (us : List Value),us.length = ps.length→bindArgs (PySem.W.fnOf x qual (defArgs st) (defBody st) (defScope st) .none kV doc pm an cdv ct) ⟨us,[]⟩ = pure (ps.zip us)) : Binds K fd ps []:=by
 obtain ⟨oc,od,kV,doc,pm,an,cdv,ct,osl,rfl,lk,hcd⟩:=F.ex
 exact .all (h kV doc pm an cdv ct)
theorem fun_mk {x qual : Str} {st : Stmt} {f : Addr} {oc : Value} {od an : Option Addr} {osl : Array (Option Value)} {kV doc pm cdv ct : Value} (l : K.lookup f = some ⟨oc,od,.func (PySem.W.fnOf x qual (defArgs st) (defBody st) (defScope st) .none kV doc pm an cdv ct),osl⟩)
  (c : PySem.W.codeIn K cdv qual = true) (k : PySem.W.keepIn K (.ref f) = true) : Fun K x qual st f (PySem.W.fnOf x qual (defArgs st) (defBody st) (defScope st) .none kV doc pm an cdv ct):=⟨⟨oc,od,kV,doc,pm,an,cdv,ct,osl,rfl,l,c⟩,k⟩
end
section
variable {X : Cx}
theorem pv (i : Nat) {x : Str} {pos : Pos} (hN : X.N[i]? = some x := by rfl) (hv : Vis X.env.scope x := by first | exact Or.inl rfl | exact Or.inr (Or.inl rfl) | exact Or.inr (Or.inr rfl)) (hd : (x == ("__debug__" : Str)) = false := by decide)
  (hcd : (x == ("__classdict__" : Str)) = false := by decide) : PE X (.Name x pos) (tVar i) := pe_var hN hv hd hcd
end
theorem iteF {A B : Prop} (h : B) : if false = true then A else B:=by
 rw [if_neg Bool.false_ne_true]
 exact h
theorem iteT {A B : Prop} (h : A) : if true = true then A else B:=by
 rw [if_pos rfl]
 exact h
theorem iteNS {c A B : Prop} [Decidable c] (hc : c) (h : B) : if (!decide c) = true then A else B:=by
 rw [decide_eq_true hc]
 exact iteF h
def Same (H H' : Hp) : Prop:=∀ b o,H b = some o→H' b = some o
theorem Same.refl (H : Hp) : Same H H:=fun _ _ h=>h
theorem Same.trans {H H1 H2 : Hp} (a : Same H H1) (b : Same H1 H2) : Same H H2:=fun c o h=>b c o (a c o h)
theorem Same.free {H H' : Hp} (e : Same H H') {l : Addr} (h : H' l = Option.none) : H l = Option.none:=by
 cases q : H l with
 | none=>rfl
 | some o =>
  rw [e l o q] at h
  cases h
theorem Same.seq {K : PySem.W.Frag} {H H' : Hp} {a : Addr} {xs : List V} (e : Same H H') (h : SqL K H a xs) : SqL K H' a xs:=by
 rcases h with (h | ⟨o,h⟩) | h
 ·exact .inl (.inl (e _ _ h))
 ·exact .inl (.inr ⟨o,e _ _ h⟩)
 ·exact .inr h
end L2
namespace L2
open PySem PySem.Spec PyProof.Rows
section
variable {X : Cx} {pins : List (Addr × Obj)} {σ : St} {H : Hp} {s : Shared} {h' : Heap}
theorem Inv.track {p : Addr} {o : HO} (I : Inv X pins σ H s) (f : FpOk X pins H p) (new : ObjOk X.prog X.w (upd H p o) s.heap p o) : Inv X pins σ (upd H p o) s:=by
 obtain ⟨f0,f1,f2,f3,f4,f5⟩:=f
 have nu : ∀ b u,H b = some u→b ≠ p:=fun b u e z=>by rw [z,f0] at e; cases e
 refine I.step (h':=s.heap) (g':=s.gens) (d':=s.drawn) (t':=s.toks) (ch:=[p]) (fun b hb=>?_) (fun b o _ _ _ e _=>e) (fun b o _ _ _ e _=>⟨o.slots,e⟩)
  (fun b o hc _ n=>by rw [upd_ne (fun z=>hc (by simp [z]))]; exact n) (fun b o _ e=>⟨o,e⟩) (fun b xs e=>by rw [upd_ne (nu _ _ e)]; exact e) (fun b o u e=>by rw [upd_ne (nu _ _ e)]; exact e)
  (fun b ps e=>⟨#[],by rw [upd_ne (nu _ _ e),e]; simp⟩) (fun m hm=>hm) (fun b u e=>?_) I.bare
 ·have e : b = p:=by simpa using hb
  subst e
  exact ⟨f3,f1,f4,f5⟩
 ·by_cases hb : b = p
  ·subst hb
   rw [upd_same] at e
   cases e
   exact new
  ·rw [upd_ne hb] at e
   exact (I.hok b u e).stay (fun c v _ q=>q) (fun c q=>by rw [upd_ne (nu _ _ q)]; exact q) fun c xs q=>by rw [upd_ne (nu _ _ q)]; exact q
theorem Inv.turnedL {t' : Nat} {ch : List Addr} (I : Inv X pins σ H s) (k : ∀ b o,b ∉ ch→s.heap.get? b = some o→h'.get? b = some o) (hf : ∀ b ∈ ch,FpOk X pins H b) : Inv X pins σ H { s with heap:=h',toks:=t' }:=by
 have nit : ∀ b u,H b = some u→b ∉ ch:=fun b u e z=>by rw [(hf b z).1] at e; cases e
 refine I.step (g':=s.gens) (d':=s.drawn) (ch:=ch) (fun b hb=>?_) (fun b o _ _ hc e _=>k b o hc e) (fun b o _ _ hc e _=>⟨o.slots,k b o hc e⟩) (fun _ _ _ _ n=>n)
  (fun b o hc e=>⟨o,k b o hc e⟩) (fun _ _ e=>e) (fun _ _ _ e=>e) (fun b ps e=>⟨#[],by rw [e]; simp⟩) (fun m hm=>?_) (fun b u e=>?_) I.bare
 ·obtain ⟨f0,f1,f2,f3,f4,f5⟩:=hf b hb
  exact ⟨f3,f1,f4,f5⟩
 ·obtain ⟨o,es,ep,ho,r⟩:=hm
  exact ⟨o,es,ep,k _ o (fun z=>(hf _ z).2.1 rfl) ho,r⟩
 ·refine (I.hok b u e).stay (fun c v hc q=>k c v ?_ q) (fun _ q=>q) fun _ _ q=>q
  rcases hc with z | z
  ·rw [z]; exact nit b u e
  ·exact nit c _ z
theorem FpOk.mono {H' : Hp} {b : Addr} (f : FpOk X pins H b) (hn : H' b = none) : FpOk X pins H' b:=⟨hn,f.2⟩
end
def closL (env : Env) : List (Str × NameKind)→List (Str × Addr)→List (Str × Addr)
 | [],cs=>cs
 | (n,k) :: r,cs=>if k == .free then (match env.cells.lookup n with | some c=>closL env r ((n,c) :: cs) | none=>closL env r cs) else closL env r cs
theorem closL_sub {env : Env} : ∀ {ns : List (Str × NameKind)} {cs : List (Str × Addr)},(∀ p ∈ cs,env.cells.lookup p.1 = some p.2)→∀ p ∈ closL env ns cs,env.cells.lookup p.1 = some p.2
 | [],_,h=>h
 | (n,k) :: r,cs,h=>by
  unfold closL
  split
  ·split
   ·rename_i c e
    exact closL_sub (ns:=r) fun p hp=>by
     rcases List.mem_cons.mp hp with rfl | hp
     ·exact e
     ·exact h p hp
   ·exact closL_sub (ns:=r) h
  ·exact closL_sub (ns:=r) h
theorem closL_sub0 {env : Env} {ns : List (Str × NameKind)} : ∀ p ∈ closL env ns [],env.cells.lookup p.1 = some p.2:=closL_sub fun p h=>by cases h
theorem closL_mono {env : Env} : ∀ {ns : List (Str × NameKind)} {cs : List (Str × Addr)} {p : Str × Addr},p ∈ cs→p ∈ closL env ns cs
 | [],_,_,h=>h
 | (n,k) :: r,cs,p,h=>by
  unfold closL
  split
  ·split
   ·exact closL_mono (ns:=r) (List.mem_cons_of_mem _ h)
   ·exact closL_mono (ns:=r) h
  ·exact closL_mono (ns:=r) h
theorem closL_mem {env : Env} {x : Str} {c : Addr} (hc : env.cells.lookup x = some c) : ∀ {ns : List (Str × NameKind)} {cs : List (Str × Addr)},(x,NameKind.free) ∈ ns→(x,c) ∈ closL env ns cs
 | [],_,h=>nomatch h
 | (n,k) :: r,cs,h=>by
  unfold closL
  rcases List.mem_cons.mp h with e | h
  ·cases e
   rw [if_pos (by rfl),hc]
   exact closL_mono List.mem_cons_self
  ·split
   ·split
    ·exact closL_mem hc (ns:=r) h
    ·exact closL_mem hc (ns:=r) h
   ·exact closL_mem hc (ns:=r) h
theorem lookup_of_all {cs : List (Str × Addr)} {env : Env} (h : ∀ p ∈ cs,env.cells.lookup p.1 = some p.2) {x : Str} {c : Addr} (e : cs.lookup x = some c) : env.cells.lookup x = some c:=h (x,c) (PySem.mem_of_lookup e)
theorem lookup_of_mem {x : Str} {c : Addr} : ∀ {cs : List (Str × Addr)},(x,c) ∈ cs→∃ c',cs.lookup x = some c'
 | [],h=>nomatch h
 | (n,d) :: r,h=>by
  by_cases e : x = n
  ·subst e
   exact ⟨d,by simp [List.lookup]⟩
  ·have hb : (x == n) = false:=beq_eq_false_iff_ne.mpr e
   rcases List.mem_cons.mp h with z | z
   ·cases z
    exact absurd rfl e
   ·obtain ⟨c',q⟩:=lookup_of_mem z
    exact ⟨c',by simp [List.lookup,hb,q]⟩
theorem closureFor_loop {env : Env} : ∀ (ns : List (Str × NameKind)) (cs : List (Str × Addr)),(∀ x ∈ ns,x.2 = .free→∃ c,env.cells.lookup x.1 = some c) →
  (forIn ns cs fun x r=>(if (x.2 == NameKind.free) = true then (do let c ← cellOf env x.1; pure (ForInStep.yield ((x.1,c) :: r))) else pure (ForInStep.yield r) : Sem (ForInStep (List (Str × Addr))))) = (pure (closL env ns cs) : Sem (List (Str × Addr)))
 | [],cs,_=>rfl
 | (n,k) :: r,cs,h=>by
  have ih:=fun cs=>closureFor_loop r cs fun x hx=>h x (List.mem_cons_of_mem _ hx)
  rw [List.forIn_cons]
  unfold closL
  cases hk : (k == NameKind.free) with
  | false =>
   simp only [Bool.false_eq_true,if_false]
   exact ih cs
  | true =>
   obtain ⟨c,hc⟩:=h (n,k) List.mem_cons_self (by simpa using hk)
   have hc' : env.cells.lookup n = some c:=hc
   simp only [if_true]
   unfold cellOf
   rw [hc']
   exact ih ((n,c) :: cs)
theorem closureFor_eq {scope : Scope} {env : Env} (h : ∀ x ∈ scope.names,x.2 = .free→∃ c,env.cells.lookup x.1 = some c) : closureFor scope env = pure (closL env scope.names []):=by
 have e:=closureFor_loop scope.names [] h
 have e2 : closureFor scope env = (forIn scope.names [] (fun x r=>(if (x.2 == NameKind.free) = true then (do let c ← cellOf env x.1; pure (ForInStep.yield ((x.1,c) :: r))) else pure (ForInStep.yield r) : Sem (ForInStep (List (Str × Addr))))) >>= fun z=>pure z : Sem (List (Str × Addr))):=rfl
 rw [e2,e]
 rfl
end L2
namespace L2
open PySem PySem.Spec PyProof.Rows
structure CompScope (osc : Scope) (N : List Str) (scope : Scope) (N' : List Str) (nt : Nat) (caps : List Nat) : Prop where
 kind : scope.kind = .function
 nocell : ∀ y ∈ scope.names,y.2 ≠ .cell
 names : ∀ y ∈ scope.names,y.2 = .local→scope.names.lookup y.1 = some .local
 frees : ∀ y ∈ scope.names,y.2 = .free→osc.names.lookup y.1 = some .cell ∨ osc.names.lookup y.1 = some .free
 capt : caps.map (fun j=>N[j]?) = (N'.drop nt).map some
 capf : ∀ x ∈ N'.drop nt,scope.names.lookup x = some .free
 len : nt ≤ N'.length
 nd : N'.Nodup
def sgm (nt : Nat) (caps : List Nat) (σ : St) : St:=List.replicate nt none ++ caps.map fun j=>(σ[j]?).getD none
structure Blk where
 C : Addr
 s : Shared
 H : Hp
 fp : List Addr
def cxComp (X : Cx) (N' : List Str) (scope : Scope) (B : Blk) : Cx :=
 { X with N:=N',s₀:=B.s,H₀:=B.H,env:=compEnvC scope (closL X.env scope.names []) B.C X.env,outer:=X.stack,ex:=B.fp,fn:=fun _=>false,xe:=fun _ _=>False }
theorem mem_relabel {scope : Scope} {env : Env} {x : Str} {k : NameKind} (h : (x,k) ∈ (relabel scope env).names) : ∃ k0,(x,k0) ∈ scope.names∧(k = k0 ∨ (k = .cell∧k0 = .free)):=by
 obtain ⟨⟨n,k0⟩,hm,e⟩:=List.mem_map.mp h
 try dsimp only at e
 split at e
 ·rename_i hc
  cases e
  refine ⟨k0,hm,.inr ⟨rfl,?_⟩⟩
  simp only [Bool.and_eq_true,beq_iff_eq] at hc
  exact hc.1.1
 ·cases e
  exact ⟨_,hm,.inl rfl⟩
theorem lookup_relabel_free {env : Env} : ∀ {names : List (Str × NameKind)} {x : Str},names.lookup x = some .free →
  (names.map fun (n,k)=>if (k == NameKind.free && env.scope.kind == .function && env.kindOf n == some .cell) then (n,NameKind.cell) else (n,k)).lookup x = some .cell ∨
  (names.map fun (n,k)=>if (k == NameKind.free && env.scope.kind == .function && env.kindOf n == some .cell) then (n,NameKind.cell) else (n,k)).lookup x = some .free
 | [],_,h=>by simp at h
 | (n,k) :: r,x,h=>by
  have ih:=@lookup_relabel_free env r x
  rw [List.map_cons]
  cases hx : x == n with
  | true =>
   simp only [List.lookup_cons,hx] at h
   cases h
   try dsimp only
   split
   ·left; simp only [List.lookup_cons,hx]
   ·right; simp only [List.lookup_cons,hx]
  | false =>
   simp only [List.lookup_cons,hx] at h
   try dsimp only
   split
   ·simp only [List.lookup_cons,hx]; exact ih h
   ·simp only [List.lookup_cons,hx]; exact ih h
section
variable {X : Cx} {pins : List (Addr × Obj)} {σ : St} {H : Hp} {s₂ : Shared} {scope : Scope} {N' : List Str} {nt : Nat} {caps : List Nat} {fp : List Addr} {C : Addr}
theorem comp_ok (I : Inv X pins σ H s₂) (S : CompScope X.env.scope X.N scope N' nt caps) (f2 : ∀ b ∈ fp,FpOk X pins H b) (hlt : ∀ b ∈ fp,b < s₂.heap.objs.size) (hC : s₂.heap.objs.size ≤ C) :
  (cxComp X N' scope ⟨C,s₂,H,fp⟩).Ok where
 mod:=I.ok.mod
 kind:=S.kind
 glob:=I.ok.glob
 blt:=I.ok.blt
 above:=hC
 inj:=fun x y c h1 h2=>I.ok.inj x y c (lookup_of_all closL_sub0 h1) (lookup_of_all closL_sub0 h2)
 has:=fun x hx=>by
  have hm : ∃ k,(k = NameKind.cell ∨ k = NameKind.free)∧(x,k) ∈ (relabel scope X.env).names:=by
   rcases hx with e | e
   ·exact ⟨_,.inl rfl,PySem.mem_of_lookup e⟩
   ·exact ⟨_,.inr rfl,PySem.mem_of_lookup e⟩
  obtain ⟨k,hk,hm⟩:=hm
  obtain ⟨k0,h0,e⟩:=mem_relabel hm
  have hf : k0 = .free:=by
   rcases e with e | ⟨_,e⟩
   ·rcases hk with z | z
    ·exact absurd (e.symm.trans z) (S.nocell _ h0)
    ·exact e.symm.trans z
   ·exact e
  subst hf
  obtain ⟨c,hc⟩:=I.ok.has x (S.frees _ h0 rfl)
  exact lookup_of_mem (closL_mem hc h0)
 cab:=fun x c h=>absurd (show false = true from h) Bool.false_ne_true
 hd:=I.ok.hd
 frames:=I.ok.frames
 stk:=.inl rfl
 exf:=fun b hb=>⟨Nat.ne_of_lt (Nat.lt_of_lt_of_le (hlt b hb) hC),fun x c e=>(f2 b hb).2.2.2.2.1 x c (lookup_of_all closL_sub0 e)⟩
 bs:=I.bs
 bsz:=Nat.le_trans I.ok.bsz I.sz
 noex:=fun b o e hb=>by
  rcases (f2 b hb).2.2.2.1 with z | z
  ·exact I.ok.noex b o e z
  ·exact absurd (Nat.lt_of_lt_of_le (Heap.lt_size e) (Nat.le_trans I.ok.bsz z)) (Nat.lt_irrefl _)
 exfs:=fun b hb hf=>by
  rcases List.mem_cons.mp (I.stkSub b hf) with e | e
  ·exact (f2 b hb).2.1 e
  ·exact (f2 b hb).2.2.1 e
 funs:=I.stack
 frf:=I.stkFree
theorem inv_comp {h₁ : Heap} {tk : Nat} {m0 : Str→Option Value} (I : Inv X pins σ H s₂) (S : CompScope X.env.scope X.N scope N' nt caps) (f2 : ∀ b ∈ fp,FpOk X pins H b) (hlt : ∀ b ∈ fp,b < s₂.heap.objs.size)
  (hC : s₂.heap.objs.size ≤ C) (hns : h₁.Ns C m0) (old : ∀ b o,s₂.heap.get? b = some o→h₁.get? b = some o) :
  Inv (cxComp X N' scope ⟨C,s₂,H,fp⟩) pins (sgm nt caps σ) H { s₂ with heap:=h₁,toks:=tk }:=by
 have hl:=congrArg List.length S.capt
 rw [List.length_map,List.length_map,List.length_drop] at hl
 have sub : ∀ {x c},(closL X.env scope.names []).lookup x = some c→X.env.cells.lookup x = some c:=fun e=>lookup_of_all closL_sub0 e
 refine ⟨comp_ok I S f2 hlt hC,rfl,I.bare,Un.kept old,⟨m0,hns,fun i x v e1 e2 e3=>?_⟩,fun x c e=>?_,I.hok.fresh hC,fun x c e=>I.freeC x c (sub e),fun p hp=>?_,I.hok.kept old,?_⟩
 ·have e1' : N'[i]? = some x:=e1
  have e2' : (List.replicate nt none ++ caps.map fun j=>(σ[j]?).getD none)[i]? = some (some v):=e2
  have hi : nt ≤ i:=by
   rcases Nat.lt_or_ge i nt with z | z
   ·rw [List.getElem?_append_left (by simpa using z),List.getElem?_replicate,if_pos z] at e2'
    cases e2'
   ·exact z
  rw [List.getElem?_append_right (by simpa using hi),List.length_replicate,List.getElem?_map] at e2'
  cases hj : caps[i - nt]? with
  | none=>rw [hj] at e2'; cases e2'
  | some j =>
   rw [hj] at e2'
   have e3' : (σ[j]?).getD none = some v:=Option.some.inj e2'
   have hσ : σ[j]? = some (some v):=by
    cases q : σ[j]? with
    | none=>rw [q] at e3'; cases e3'
    | some o=>rw [q] at e3'; have z : o = some v:=e3'; rw [z]
   have hd : (N'.drop nt)[i - nt]? = some x:=by rw [List.getElem?_drop,Nat.add_sub_cancel' hi]; exact e1'
   have hN : X.N[j]? = some x:=by
    have q:=congrArg (fun l=>l[i - nt]?) S.capt
    have q : (caps.map fun j=>X.N[j]?)[i - nt]? = ((N'.drop nt).map some)[i - nt]?:=q
    rw [List.getElem?_map,List.getElem?_map,hj,hd] at q
    exact Option.some.inj q
   have hfx:=S.capf x (List.mem_of_getElem? hd)
   have hko:=S.frees (x,.free) (PySem.mem_of_lookup hfx) rfl
   have vis : Vis X.env.scope x:=.inr hko
   obtain ⟨m,hn,hl'⟩:=I.loc
   obtain ⟨u,r,l⟩:=hl' j x v hN hσ vis
   refine ⟨u,r,.inr ⟨?_,?_⟩⟩
   ·exact lookup_relabel_free hfx
   ·rcases l with ⟨k,_⟩ | ⟨_,c,e,z⟩
    ·have k' : X.env.scope.names.lookup x = some .local:=k
     rcases hko with q | q <;> (rw [k'] at q; cases q)
    ·obtain ⟨c',q⟩:=lookup_of_mem (closL_mem e (PySem.mem_of_lookup hfx) (cs:=[]))
     have q2:=sub q
     rw [e] at q2
     cases q2
     obtain ⟨o,ho,hd'⟩:=z
     exact ⟨c,q,o,old _ _ ho,hd'⟩
 ·obtain ⟨v,o,ho,hd'⟩:=I.cell x c (sub e)
  exact ⟨v,o,old _ _ ho,hd'⟩
 ·obtain ⟨a,b,c,d,e⟩:=I.pin p hp
  refine ⟨old _ _ a,b,Nat.ne_of_lt (Nat.lt_of_lt_of_le (Heap.lt_size a) hC),fun hf=>?_,e⟩
  rcases List.mem_cons.mp (I.stkSub p.1 hf) with z | z
  ·exact c z
  ·exact d z
 ·show (List.replicate nt none ++ caps.map fun j=>(σ[j]?).getD none).length = N'.length
  rw [List.length_append,List.length_replicate,List.length_map]
  have:=S.len
  omega
end
def PTs (X : Cx) (ifs : List Expr) (t : TT) : Prop :=
 ∀ (pins : List (Addr × Obj)) (s : Shared) (σ : St) (H : Hp) (Q : Bool→Hp→Prop),Inv X pins σ H s→t σ H Q →
  wpAny (model X.prog X.w) X.A (forIn ifs true fun c r=>if r = true then do let ok ← isTrue c X.env (eval c X.env); pure (ForInStep.yield ok) else pure (ForInStep.yield r)) (TP X pins σ Q) X.xe s
def tTrue : TT:=fun _ H Q=>Q true H
theorem pts_nil {X : Cx} : PTs X [] tTrue:=fun _ _ _ H _ I h=>wpAny_tests_nil ⟨H,I,h⟩
theorem pts_one {X : Cx} {c : Expr} {t : TT} (h : PT X c t) : PTs X [c] t:=fun pins s σ H Q I q=>wpAny_tests_one (h pins s σ H Q I q)
section
variable {prog : Program} {w : World} {A : Around} {R : Result→Shared→Prop} {s : Shared}
theorem codeAny_compLoop_go {elt target iter : Expr} {ifs : List Expr} {scope : Scope} {pos : Pos} {it acc : Value} {env : Env} (I : Nat→Shared→Prop)
  (turn : ∀ n s,I n s→wpAny (model prog w) A (pyNext it) (fun r s₁=>match r with
   | none=>R (.ok .next) s₁
   | some v=>wpAny (model prog w) A (letOwnedTupleGo target it v) (fun _ s₁'=>wpAny (model prog w) A (assign target env v) (fun _ s₂ =>
     wpAny (model prog w) A (forIn ifs true fun c r=>if r = true then do let ok ← isTrue c env (eval c env); pure (ForInStep.yield ok) else pure (ForInStep.yield r)) (fun ok s₃ =>
      if ok = true then wpAny (model prog w) A (eval elt env) (fun x s₄ =>
       wpAny (model prog w) A (call (.builtin "list.append") [acc, x]) (fun _ s₅ => ∃ m, m < n ∧ I m s₅) (notedBy (model prog w) A env fun e s' => R (.error e) s') s₄) (notedBy (model prog w) A env fun e s' => R (.error e) s') s₃
      else ∃ m,m < n∧I m s₃) (notedBy (model prog w) A env fun e s'=>R (.error e) s') s₂) (notedBy (model prog w) A env fun e s'=>R (.error e) s') s₁') (notedBy (model prog w) A env fun e s'=>R (.error e) s') s₁)
   (notedBy (model prog w) A env fun e s'=>R (.error e) s') s)
  (n : Nat) (h : I n s) : codeAny (model prog w) A (.compLoop (.ListComp elt [⟨target,iter,ifs,0⟩] scope pos) 0 it acc env) R s:=by
 refine codeAny_loop rfl I (fun n s hI=>?_) n h
 show wpAny _ A ((compTurn (.ListComp elt [⟨target,iter,ifs,0⟩] scope pos) 0 it acc env).onRaise (fun x=>do noteFrame x env; theTreesLotGoes x)) _ _ s
 refine wpAny_noted ?_
 rw [compTurn_list]
 refine wpAny_bind (wpAny_standAt (wpAny_bind (wpAny_mono (turn n s hI) (fun r s₁ h₁=>?_) fun _ _ h'=>h')))
 cases r with
 | none=>exact wpAny_pure h₁
 | some v =>
  refine wpAny_bind (wpAny_mono h₁ (fun _ s₁' h₁'=>?_) fun _ _ h'=>h')
  refine wpAny_bind (wpAny_mono h₁' (fun _ s₂ h₂=>wpAny_bind (wpAny_mono h₂ (fun ok s₃ h₃=>?_) fun _ _ h'=>h')) fun _ _ h'=>h')
  cases ok with
  | false=>exact wpAny_pure ⟨rfl,h₃⟩
  | true =>
   exact wpAny_bind (wpAny_bind (wpAny_mono h₃ (fun x s₄ h₄=>wpAny_bind (wpAny_mono h₄ (fun _ s₅ h₅=>wpAny_pure (wpAny_pure ⟨rfl,h₅⟩)) fun _ _ h'=>h')) fun _ _ h'=>h'))
end
section
variable {X : Cx} {pins : List (Addr × Obj)} {σ : St} {H : Hp} {s₂ : Shared} {scope : Scope} {N' : List Str} {nt : Nat} {caps : List Nat} {tg elt iter : Expr} {ifs : List Expr} {pos : Pos} {g : Blk→TG} {tt : Blk→TT} {te : Blk→TE}
def CompW (J : It) (g : TG) (tt : TT) (te : TE) (W : Nat→Nat→List V→St→Hp→Prop) (Z : List V→Hp→Prop) : Prop :=
 ∀ i m ys σ' H',W i m ys σ' H'→(J.stop i H'∧Z ys H') ∨ (J.go i H'∧ys.length < sizeLine∧∃ N : List V→St→Hp→Prop,(∀ zs σ2 H2,N zs σ2 H2→∃ m',m' < m∧W (i + 1) m' zs σ2 H2) ∧
  ∀ x H2,J.yld i H' x H2→g x σ' H2 fun σ2 H3=>tt σ2 H3 fun b H4=>if b = true then te σ2 H4 fun y H5=>N (ys ++ [y]) σ2 H5 else N ys σ2 H4)
abbrev lobj (its : List Value) (n : Nat) : Obj := { cls := .type "list", data := .seq its.toArray n }
theorem comp_run {J : It} {it : Addr} {fp : List Addr} {tn : Nat→Heap→Prop} {W : Nat→Nat→List V→St→Hp→Prop} {Z : List V→Hp→Prop} {RR : Value→Addr→Result→Shared→Prop} {E : Value→Shared→Prop}
  (hc : X.calm = true) (S : CompScope X.env.scope X.N scope N' nt caps)
  (hg : ∀ B,PG (cxComp X N' scope B) tg (g B)) (ht : ∀ B,PTs (cxComp X N' scope B) ifs (tt B)) (he : ∀ B,PE (cxComp X N' scope B) elt (te B))
  (I : Inv X pins σ H s₂) (T : Turn X.prog X.w X.K tg J fp it tn) (st : tn 0 s₂.heap) (f2 : ∀ b ∈ fp,FpOk X pins H b) (w0 : ∃ m,W 0 m [] (sgm nt caps σ) H) (turn : ∀ B,CompW J (g B) (tt B) (te B) W Z)
  (hRR : ∀ D C s' ys H',Z ys H'→H' D = none→Inv X pins σ (upd H' D (.lst ys)) s'→FpOk X pins (upd H' D (.lst ys)) C→(∃ m,s'.heap.Ns C m)→RR (.ref D) C (.ok .next) s') :
  wpAny (model X.prog X.w) X.A (newList []) (fun acc s₃=>wpAny (model X.prog X.w) X.A (newFunctionEnv scope X.env.globals (closL X.env scope.names []) [] X.env.qual none .none (some X.env)) (fun cenv s₄ =>
   codeAny (model X.prog X.w) X.A (.compStart (.ListComp elt [⟨tg,iter,ifs,0⟩] scope pos) 0 (.ref it) acc { cenv with scope:=relabel scope X.env }) (RR acc cenv.locals) s₄) E s₃) E s₂:=by
 refine wpAny_newObj_type (wpAny_newFunctionEnv S.nocell (by intro y hy; simp at hy) (fun h₁ hns₁ hsb₁=>?_) S.kind)
 try dsimp only at hns₁ hsb₁ ⊢
 generalize hH2 : s₂.heap.push { cls := .type "list", dict := none, data := .seq ([] : List Value).toArray } = G2 at hns₁ hsb₁ ⊢
 have hCe : G2.objs.size = s₂.heap.objs.size + 1:=by rw [← hH2,Heap.size_push]
 have hDC : s₂.heap.objs.size ≠ G2.objs.size:=by rw [hCe]; exact Nat.ne_of_lt (Nat.lt_succ_self _)
 have hCle : s₂.heap.objs.size ≤ G2.objs.size:=by rw [hCe]; exact Nat.le_succ _
 have hlt : ∀ b ∈ fp,b < s₂.heap.objs.size:=fun b hb=>let ⟨o,e,_⟩:=T.obj 0 _ st b hb; Heap.lt_size e
 have old : ∀ b o,s₂.heap.get? b = some o→h₁.get? b = some o:=fun b o e =>
  hsb₁.extBut b o (Nat.ne_of_lt (Nat.lt_of_lt_of_le (Heap.lt_size e) hCle)) (Heap.get?_push_of_some _ (hH2 ▸ Heap.get?_push_of_some _ e))
 have hacc : h₁.get? s₂.heap.objs.size = some (lobj [] 0):=hsb₁.extBut _ _ hDC (Heap.get?_push_of_some _ (hH2 ▸ Heap.get?_push_size _ rfl))
 generalize hD : s₂.heap.objs.size = D at hacc hDC hCle hCe
 generalize G2.objs.size = C at hns₁ hsb₁ hDC hCle hCe ⊢
 have hlt' : ∀ b ∈ fp,b < D:=fun b hb=>hD ▸ hlt b hb
 have hpl : ∀ p ∈ X.pn ++ pins,p.1 < D:=fun p hp=>hD ▸ Heap.lt_size (I.pin p hp).1
 have hcl : ∀ x c,X.env.cells.lookup x = some c→c < D:=fun x c e=>let ⟨v,q⟩:=I.cell x c e; hD ▸ q.lt
 have hfsl : ∀ b ∈ frs X.stack,b < D:=fun b hb=>by
  rcases List.mem_cons.mp (I.stkSub b hb) with z | z
  ·rw [z,← hD]; exact I.lt
  ·rw [← hD]
   refine Nat.lt_of_not_le fun q=>I.nofs q z
 have fD : ∀ {H' : Hp} {pl : List (Addr × Obj)},H' D = none→(∀ p ∈ X.pn ++ pl,p.1 < D)→FpOk (cxComp X N' scope ⟨C,s₂,H,fp⟩) pl H' D:=fun {H' pl} hn hp =>
  ⟨hn,hDC,fun z=>Nat.lt_irrefl _ (hfsl D z),.inr (by show s₂.heap.objs.size ≤ D; rw [hD]; exact Nat.le_refl _),fun x c e z=>Nat.lt_irrefl D (by have:=hcl x c (lookup_of_all closL_sub0 e); rw [z] at this; exact this),
   fun p q z=>Nat.lt_irrefl D (by have:=hp p q; rw [z] at this; exact this)⟩
 have fI : ∀ {H' : Hp} {n : Nat} {its : List Value},(∀ b ∈ fp,H' b = none)→∀ b ∈ fp,FpOk (cxComp X N' scope ⟨C,s₂,H,fp⟩) (pins ++ [(D,lobj its n)]) H' b:=fun {H' n its} hn b hb=>by
  obtain ⟨g0,g1,g2,g3,g4,g5⟩:=f2 b hb
  refine ⟨hn b hb,Nat.ne_of_lt (Nat.lt_of_lt_of_le (hlt' b hb) hCle),fun z=>?_,.inl hb,fun x c e=>g4 x c (lookup_of_all closL_sub0 e),fun p hp z=>?_⟩
  ·rcases List.mem_cons.mp (I.stkSub b z) with q | q
   ·exact g1 q
   ·exact g2 q
  ·have hp' : p ∈ X.pn ++ (pins ++ [(D,lobj its n)]):=hp
   rw [← List.append_assoc] at hp'
   rcases List.mem_append.mp hp' with q | q
   ·exact g5 p q z
   ·have e : p = (D,lobj its n):=by simpa using q
    rw [e] at z
    have:=hlt' b hb
    rw [← z] at this
    exact Nat.lt_irrefl _ this
 have pinD : ∀ {σ' : St} {H' : Hp} {s' : Shared} {its : List Value} {n : Nat} {pl : List (Addr × Obj)},Inv (cxComp X N' scope ⟨C,s₂,H,fp⟩) (pins ++ pl) σ' H' s'→H' D = none→s'.heap.get? D = some (lobj its n)→Inv (cxComp X N' scope ⟨C,s₂,H,fp⟩) (pins ++ [(D,lobj its n)]) σ' H' s' :=
  fun {σ' H' s' its n pl} J hn ho=>J.pins_of fun p hp=>by
   rcases List.mem_append.mp hp with q | q
   ·exact J.pin p (List.mem_append_right _ (List.mem_append_left _ q))
   ·have e : p = (D,lobj its n):=by simpa using q
    subst e
    exact ⟨ho,hn,hDC,fun z=>Nat.lt_irrefl _ (hfsl D z),fun v z=>by cases z⟩
 have I1 : Inv (cxComp X N' scope ⟨C,s₂,H,fp⟩) (pins ++ [(D,lobj [] 0)]) (sgm nt caps σ) H { s₂ with heap:=h₁,toks:=s₂.toks + ([] : List (Str × Value)).length } :=
  pinD (pl:=[]) (by rw [List.append_nil]; exact inv_comp I S f2 hlt (by rw [hD]; exact hCle) hns₁ old) (I.hok.fresh (by rw [hD]; exact Nat.le_refl _)) hacc
 have st1 : tn 0 h₁:=T.keep 0 _ _ st fun b _ o e=>old b o e
 have loop : ∀ s₃ : Shared,s₃ = { s₂ with heap:=h₁,toks:=s₂.toks + ([] : List (Str × Value)).length } →
   codeAny (model X.prog X.w) X.A (.compLoop (.ListComp elt [⟨tg,iter,ifs,0⟩] scope pos) 0 (.ref it) (.ref D) (cxComp X N' scope ⟨C,s₂,H,fp⟩).env) (RR (.ref D) C) s₃:=by
  rintro s₃ rfl
  obtain ⟨m0,w0⟩:=w0
  refine codeAny_compLoop_go (fun k s'=>∃ i ys σ' H' its n,Inv (cxComp X N' scope ⟨C,s₂,H,fp⟩) (pins ++ [(D,lobj its n)]) σ' H' s'∧Vals ys its∧tn i s'.heap∧(∀ b ∈ fp,H' b = none)∧ys.length ≤ sizeLine∧W i k ys σ' H') ?_ m0
   ⟨0,[],_,H,[],0,I1,.nil,st1,fun b hb=>(f2 b hb).1,Nat.zero_le _,w0⟩
  rintro k s' ⟨i,ys,σ',H',its,n,I',rv,st',fr',hz,w'⟩
  rcases turn ⟨C,s₂,H,fp⟩ i k ys σ' H' w' with ⟨stop,z⟩ | ⟨go,hlen,NN,hNN,step⟩
  ·refine thn (T.done (cxComp X N' scope ⟨C,s₂,H,fp⟩) rfl rfl rfl hc i _ s' σ' H' _ I' (fI fr') st' stop) fun r s1 ⟨hr,J⟩=>?_
   subst hr
   have pd:=J.pin (D,lobj its n) (List.mem_append_right _ (List.mem_append_right _ List.mem_cons_self))
   have hDn : H' D = none:=pd.2.1
   have J0 : Inv X pins σ H' s1:=I.call' (ch:=fp) J.os J.base J.hok J.bare fun b hb=>⟨(f2 b hb).2.2.2.1,(f2 b hb).2.1,(f2 b hb).2.2.2.2.1,(f2 b hb).2.2.2.2.2⟩
   have J1 : Inv X pins σ (upd H' D (.lst ys)) s1:=J0.track (I.fpOk (by rw [hD]; exact Nat.le_refl _) hDn) ⟨hz,its,n,rv,pd.1⟩
   obtain ⟨mC,hnC,_⟩:=J.loc
   exact hRR D C s1 ys H' z hDn J1 (I.fpOk (by rw [hD]; exact hCle) (by rw [upd_ne (Ne.symm hDC)]; exact J.free)) ⟨mC,hnC⟩
  ·refine thn (T.item (cxComp X N' scope ⟨C,s₂,H,fp⟩) rfl rfl rfl hc i _ s' σ' H' _ I' (fI fr') st' go) fun r s1 ⟨u,hr,h1⟩=>?_
   subst hr
   refine thn h1 fun _ s5 ⟨x,H5,I5,r5,y5,st5,fr5⟩=>?_
   have I5':=I5.pinned (fI fr5) (T.obj _ _ st5)
   refine wpAny_mono (hg ⟨C,s₂,H,fp⟩ _ s5 σ' H5 x u _ I5' r5 (step x H5 y5)) (fun _ s6 ⟨σ6,H6,I6,q6⟩=>?_) fun _ _ z=>z.elim
   refine wpAny_mono (ht ⟨C,s₂,H,fp⟩ _ s6 σ6 H6 _ I6 q6) (fun b s7 ⟨H7,I7,q7⟩=>?_) fun _ _ z=>z.elim
   have keepT : ∀ {σ8 : St} {H8 : Hp} {s8 : Shared},Inv (cxComp X N' scope ⟨C,s₂,H,fp⟩) ((pins ++ [(D,lobj its n)]) ++ pinsAt fp s5.heap) σ8 H8 s8→tn (i + 1) s8.heap∧(∀ b ∈ fp,H8 b = none)∧s8.heap.get? D = some (lobj its n)∧H8 D = none:=fun {σ8 H8 s8} I8=>by
    refine ⟨T.keep _ _ _ st5 fun b hb o e=>(I8.pin (b,o) (List.mem_append_right _ (List.mem_append_right _ (mem_pinsAt hb e)))).1,fun b hb=>?_,?_⟩
    ·obtain ⟨o,e,_⟩:=T.obj _ _ st5 b hb
     exact (I8.pin (b,o) (List.mem_append_right _ (List.mem_append_right _ (mem_pinsAt hb e)))).2.1
    ·have pd:=I8.pin (D,lobj its n) (List.mem_append_right _ (List.mem_append_left _ (List.mem_append_right _ List.mem_cons_self)))
     exact ⟨pd.1,pd.2.1⟩
   cases b with
   | false =>
    rw [if_neg Bool.false_ne_true] at q7 ⊢
    obtain ⟨m',hm,w7⟩:=hNN _ _ _ q7
    obtain ⟨t7,f7,_,_⟩:=keepT I7
    exact ⟨m',hm,i + 1,ys,σ6,H7,its,n,I7.unpinned,rv,t7,f7,hz,w7⟩
   | true =>
    rw [if_pos rfl] at q7 ⊢
    refine wpAny_mono (he ⟨C,s₂,H,fp⟩ _ s7 σ6 H7 _ I7 q7) (fun v s8 ⟨y,H8,I8,r8,q8⟩=>?_) fun _ _ z=>z.elim
    obtain ⟨m',hm,w8⟩:=hNN _ _ _ q8
    obtain ⟨t8,f8,o8,n8⟩:=keepT I8
    have hlv:=rv.length
    refine append_at o8 (fun h9 sb9 o9=>?_) (by rw [List.size_toArray,← hlv]; exact hz)
    have I8' : Inv (cxComp X N' scope ⟨C,s₂,H,fp⟩) (pins ++ []) σ6 H8 s8:=by
     rw [List.append_nil]
     exact I8.unpinned.unpinned
    have ep : ((its.toArray.push v)) = (its ++ [v]).toArray:=by simp
    rw [ep] at o9
    have I9 : Inv (cxComp X N' scope ⟨C,s₂,H,fp⟩) (pins ++ []) σ6 H8 { s8 with heap:=h9 } :=
     I8'.turnedL (t':=s8.toks) (ch:=[D]) (fun b o hb e=>sb9.extBut b o (fun z=>hb (by simp [z])) e) (fun b hb=>by
      have e : b = D:=by simpa using hb
      subst e
      exact fD n8 (by rw [List.append_nil]; exact hpl))
    refine ⟨m',hm,i + 1,ys ++ [y],σ6,H8,its ++ [v],n + 1,pinD I9 n8 o9,rv.append (.cons r8 .nil),T.keep _ _ _ t8 fun b hb o e=>sb9.extBut b o (Nat.ne_of_lt (hlt' b hb)) e,f8,?_,w8⟩
    rw [List.length_append,List.length_singleton]
    exact hlen
 exact codeAny_compStart_list (loop _ rfl) (T.self X.A 0 _ _ _ st1 (loop _ rfl))
def tComp (nt : Nat) (caps : List Nat) (wi : TI) (g : Blk→TG) (tt : Blk→TT) (te : Blk→TE) : TE:=fun σ H Q=>wi σ H fun J H1 =>
 ∃ (W : Nat→Nat→List V→St→Hp→Prop),(∃ m,W 0 m [] (sgm nt caps σ) H1)∧∀ B,CompW J (g B) (tt B) (te B) W fun ys H'=>∀ p,H' p = none→Q (.ref p) (upd H' p (.lst ys))
theorem pe_comp {wi : TI} (osc : Scope) (N : List Str) (S : CompScope osc N scope N' nt caps) (hi : PI X tg iter wi)
  (hg : ∀ B,PG (cxComp X N' scope B) tg (g B)) (ht : ∀ B,PTs (cxComp X N' scope B) ifs (tt B)) (he : ∀ B,PE (cxComp X N' scope B) elt (te B))
  (hc : X.calm = true:=by rfl) (hosc : X.env.scope = osc:=by rfl) (hNN : X.N = N:=by rfl) (hs : ∀ x,foldedSetIterable iter X.env x = pure x:=by intro _; rfl) : PE X (.ListComp elt [⟨tg,iter,ifs,0⟩] scope pos) (tComp nt caps wi g tt te):=by
 subst hosc hNN
 intro pins s σ H Q I h
 have hfr : ∀ x ∈ scope.names,x.2 = .free→∃ c,X.env.cells.lookup x.1 = some c:=fun x hx hf=>I.ok.has x.1 (S.frees x hx hf)
 rw [eval_ListComp]
 refine wpAny_comprehension_free (use:=none) rfl hs (closureFor_eq hfr) S.kind S.names (thn (hi pins s σ H _ I h) fun v s1 h1=>thn h1 fun itv s2 h2=>?_)
 obtain ⟨it,fp,tn,J,H2,e,I2,T,st2,f2,W,w0,turn⟩:=h2
 subst e
 refine comp_run (RR:=fun acc C=>compPost (model X.prog X.w) X.A X.xe none (EP X pins σ Q) acc C) hc S hg ht he I2 T st2 f2 w0 turn ?_
 intro D C s' ys H' z hn J' fC ⟨m,hm⟩
 refine ⟨m,hm,fun h'' sb=>⟨.ref D,_,J'.turnedL (t':=s'.toks) (ch:=[C]) (fun b o hb e=>sb.extBut b o (fun z=>hb (by simp [z])) e) (fun b hb=>?_),rfl,z D hn⟩⟩
 have e : b = C:=by simpa using hb
 subst e
 exact fC
theorem ps_setComp {wi : TI} {i : Nat} {y : Str} {py spos : Pos} (osc : Scope) (N : List Str) (S : CompScope osc N scope N' nt caps) (hN : X.N.Nodup) (hiN : X.N[i]? = some y) (hy : X.env.scope.names.lookup y = some .local) (hi : PI X tg iter wi)
  (hg : ∀ B,PG (cxComp X N' scope B) tg (g B)) (ht : ∀ B,PTs (cxComp X N' scope B) ifs (tt B)) (he : ∀ B,PE (cxComp X N' scope B) elt (te B))
  (hsw : swapsWith (.ListComp elt [⟨tg,iter,ifs,0⟩] scope pos) (some (.Name y py)) spos.line X.env = pure true:=by rfl)
  (hc : X.calm = true:=by rfl) (hosc : X.env.scope = osc:=by rfl) (hNN : X.N = N:=by rfl) (hs : ∀ x,foldedSetIterable iter X.env x = pure x:=by intro _; rfl) : PS X (.Assign [.Name y py] (.ListComp elt [⟨tg,iter,ifs,0⟩] scope pos) spos) (tAsg (tComp nt caps wi g tt te) (gName i)):=by
 subst hosc hNN
 intro pins s σ H D0 I h
 have hfr : ∀ x ∈ scope.names,x.2 = .free→∃ c,X.env.cells.lookup x.1 = some c:=fun x hx hf=>I.ok.has x.1 (S.frees x hx hf)
 rw [exec_Assign_Name_used _ _ _ _ hsw]
 refine wpAny_bind (wpAny_standAt (wpAny_bind ?_))
 show wpAny _ _ (do let _ ← comprehension (.ListComp elt [⟨tg,iter,ifs,0⟩] scope pos) scope X.env _ (newList []) false (eval iter X.env) (some (assign (.Name y py) X.env))) _ _ s
 refine wpAny_bind (wpAny_mono (wpAny_comprehension_free (use:=some (assign (.Name y py) X.env)) (Q:=fun _ s'=>SP X pins D0 .next s') rfl hs (closureFor_eq hfr) S.kind S.names
  (thn (hi pins s σ H _ I h) fun v s1 h1=>thn h1 fun itv s2 h2=>?_)) (fun _ s' hq=>wpAny_pure (wpAny_pure hq)) fun _ _ e=>e)
 obtain ⟨it,fp,tn,J,H2,e,I2,T,st2,f2,W,w0,turn⟩:=h2
 subst e
 refine comp_run (RR:=fun acc C=>compPost (model X.prog X.w) X.A X.xe (some (assign (.Name y py) X.env)) (fun _ s'=>SP X pins D0 .next s') acc C) hc S hg ht he I2 T st2 f2 w0 turn ?_
 intro D C s' ys H' z hn J' fC ⟨m,hm⟩
 show wpAny _ _ (assign (.Name y py) X.env (.ref D)) _ _ s'
 refine wpAny_assign_Name (store_ok2 (v:=.ref D) J' hN hiN (.inl hy) rfl (fun s'' J'' ⟨a,sb,ha⟩=>?_) (.inr hy))
 have hCa : C ≠ a:=by
  rcases ha with q | q
  ·rw [q]; exact fC.2.1
  ·exact Ne.symm (fC.2.2.2.2.1 _ _ q)
 refine ⟨m,hm.sameBut sb hCa,fun h'' sb'=>⟨_,_,J''.turnedL (t':=s''.toks) (ch:=[C]) (fun b o hb e=>sb'.extBut b o (fun z=>hb (by simp [z])) e) (fun b hb=>?_),z D hn⟩⟩
 have e : b = C:=by simpa using hb
 subst e
 exact fC
end
def Itz (K : PySem.W.Frag) (a b : Addr) : It where
 go i H:=∃ xs ys x y,SqL K H a xs∧SqL K H b ys∧xs[i]? = some x∧ys[i]? = some y
 yld i H v H':=∃ p x y,H p = none∧v = .ref p∧H' = upd H p (.tup [x,y])∧(∀ xs,SqL K H a xs→xs[i]? = some x)∧∀ ys,SqL K H b ys→ys[i]? = some y
 stop i H:=∃ xs ys,SqL K H a xs∧SqL K H b ys∧(xs.length ≤ i ∨ ys.length ≤ i)
theorem ne_cls {h : Heap} {a b : Addr} {o u : Obj} {x y : Value} (ha : h.get? a = some o) (hb : h.get? b = some u) (h1 : o.cls = x) (h2 : u.cls = y) (hc : x ≠ y) : a ≠ b:=by
 rintro rfl
 rw [ha] at hb
 cases hb
 exact hc (h1.symm.trans h2)
theorem zip_apart {h : Heap} {z TI TO i1 i2 a b : Addr} {k1 k2 : Nat} {xs ys : Array Value} {u v : Value} (hTT : TI ≠ TO) (hii : i1 ≠ i2) (hz : IsZip h z TI TO .none) (hTI : IsPair h TI (.ref i1) (.ref i2)) (hTO : IsPair h TO u v)
  (h1 : h.IsListIter i1 a k1) (h2 : h.IsListIter i2 b k2) (ha : h.IsList a xs) (hb : h.IsList b ys) : ZipApart z TI TO i1 i2 a b:=by
 obtain ⟨o1,e1,c1,_⟩:=h1
 obtain ⟨o2,e2,c2,_⟩:=h2
 obtain ⟨oa,ea,ca,_⟩:=ha
 obtain ⟨ob,eb,cb,_⟩:=hb
 exact ⟨(ne_cls (x := .type "tuple") (y := .type "zip") hTI hz rfl rfl (by decide)), (ne_cls (x := .type "tuple") (y := .type "zip") hTO hz rfl rfl (by decide)), (ne_cls (x := .type "list_iterator") (y := .type "zip") e1 hz c1 rfl (by decide)), (ne_cls (x := .type "list_iterator") (y := .type "zip") e2 hz c2 rfl (by decide)), hTT, (ne_cls (x := .type "tuple") (y := .type "list_iterator") hTI e1 rfl c1 (by decide)), (ne_cls (x := .type "tuple") (y := .type "list_iterator") hTI e2 rfl c2 (by decide)), (ne_cls (x := .type "tuple") (y := .type "list_iterator") hTO e1 rfl c1 (by decide)), (ne_cls (x := .type "tuple") (y := .type "list_iterator") hTO e2 rfl c2 (by decide)), hii, (ne_cls (x := .type "list") (y := .type "zip") ea hz ca rfl (by decide)), (ne_cls (x := .type "list") (y := .type "tuple") ea hTO ca rfl (by decide)), (ne_cls (x := .type "list") (y := .type "list_iterator") ea e1 ca c1 (by decide)), (ne_cls (x := .type "list") (y := .type "list_iterator") ea e2 ca c2 (by decide)), (ne_cls (x := .type "list") (y := .type "zip") eb hz cb rfl (by decide)), (ne_cls (x := .type "list") (y := .type "tuple") eb hTO cb rfl (by decide)), (ne_cls (x := .type "list") (y := .type "list_iterator") eb e1 cb c1 (by decide)), (ne_cls (x := .type "list") (y := .type "list_iterator") eb e2 cb c2 (by decide))⟩
theorem turn_zip {P : Program} {w : World} {K : PySem.W.Frag} {elts : List Expr} {kx} {tpos : Pos} {z TI TO i1 i2 a b : Addr} (hTT : TI ≠ TO) (hii : i1 ≠ i2) : Turn P w K (.Tuple elts kx tpos) (Itz K a b) [z,TI,TO,i1,i2] z
  (fun i h=>IsZip h z TI TO .none∧IsPair h TI (.ref i1) (.ref i2)∧(∃ u v,IsPair h TO u v)∧h.IsListIter i1 a i∧h.IsListIter i2 b i) where
 mem:=by simp
 obj:=fun i h st c hc=>by
  obtain ⟨hz,hTI,⟨u,v,hTO⟩,⟨o1,e1,_,d1⟩,⟨o2,e2,_,d2⟩⟩:=st
  simp only [List.mem_cons,List.not_mem_nil,or_false] at hc
  rcases hc with rfl | rfl | rfl | rfl | rfl
  ·exact ⟨_,hz,fun v q=>by cases q⟩
  ·exact ⟨_,hTI,fun v q=>by cases q⟩
  ·exact ⟨_,hTO,fun v q=>by cases q⟩
  ·exact ⟨_,e1,fun v q=>by rw [d1] at q; cases q⟩
  ·exact ⟨_,e2,fun v q=>by rw [d2] at q; cases q⟩
 keep:=fun i h h' st k=>by
  obtain ⟨hz,hTI,⟨u,v,hTO⟩,h1,h2⟩:=st
  exact ⟨k z (by simp) _ hz,k TI (by simp) _ hTI,⟨u,v,k TO (by simp) _ hTO⟩,h1.at fun o e=>k i1 (by simp) o e,h2.at fun o e=>k i2 (by simp) o e⟩
 item:=by
  intro X hP hw hK hc i pins s σ H E I hf st hg
  subst hP hw hK
  obtain ⟨xs,ys,x,y,qa,qb,hx,hy⟩:=hg
  obtain ⟨its1,rv1,p1,z1⟩:=I.list qa
  obtain ⟨its2,rv2,p2,z2⟩:=I.list qb
  obtain ⟨u1,hu1,ru1⟩:=rv1.get hx
  obtain ⟨u2,hu2,ru2⟩:=rv2.get hy
  obtain ⟨hz,hTI,⟨u,v,hTO⟩,h1,h2⟩:=st
  have D:=zip_apart hTT hii hz hTI hTO h1 h2 p1.isList p2.isList
  refine wpAny_pyNext_zip_item D hz hTI hTO h1 h2 p1.isList p2.isList (x:=u1) (y:=u2) (by simpa using hu1) (by simpa using hu2) fun h' a1 a2 a3 a4 a5 a6 hk=>?_
  refine ⟨_,rfl,wpAny_letOwnedTupleGo_zip a1 fun h'' hz'' sb=>?_⟩
  have zlt:=Heap.lt_size hz
  have pz : s.heap.objs.size ≠ z:=Nat.ne_of_gt zlt
  have hfr:=I.hok.fresh (Nat.le_refl s.heap.objs.size)
  have I1 : Inv X pins σ H { s with heap:=h'' }:=I.turnedL (t':=s.toks) (ch:=[z,TO,i1,i2]) (fun c o hb e=>by
   simp only [List.mem_cons,List.not_mem_nil,or_false,not_or] at hb
   exact sb.extBut c o hb.1 (hk c o hb.1 hb.2.1 hb.2.2.1 hb.2.2.2 e)) (fun c hb=>hf c (by
   simp only [List.mem_cons,List.not_mem_nil,or_false] at hb ⊢
   rcases hb with q | q | q | q
   ·exact .inl q
   ·exact .inr (.inr (.inl q))
   ·exact .inr (.inr (.inr (.inl q)))
   ·exact .inr (.inr (.inr (.inr q)))))
  have hp : IsPair h'' s.heap.objs.size u1 u2:=sb.extBut _ _ pz a5
  have I2 : Inv X pins σ (upd H s.heap.objs.size (.tup [x,y])) { s with heap:=h'' }:=I1.track (I.fpOk (Nat.le_refl _) hfr) ⟨by show 2 ≤ sizeLine; decide,[u1,u2],.cons ru1 (.cons ru2 .nil),⟨_,hp,rfl,_,rfl⟩⟩
  refine ⟨.ref s.heap.objs.size,_,I2,rfl,⟨_,x,y,hfr,rfl,rfl,fun xs' q=>by rw [I.list_inj q qa]; exact hx,fun ys' q=>by rw [I.list_inj q qb]; exact hy⟩,
   ⟨hz'',sb.extBut _ _ D.TIz (hk _ _ D.TIz D.TITO D.TIi1 D.TIi2 hTI),⟨_,_,sb.extBut _ _ D.TOz a2⟩,a3.extBut sb.extBut D.i1z,a4.extBut sb.extBut D.i2z⟩,fun c hb=>?_⟩
  rw [upd_ne (fun q=>?_)]
  ·exact (hf c hb).1
  ·have hlt : c < s.heap.objs.size:=by
    obtain ⟨o1,e1,_⟩:=h1
    obtain ⟨o2,e2,_⟩:=h2
    simp only [List.mem_cons,List.not_mem_nil,or_false] at hb
    rcases hb with rfl | rfl | rfl | rfl | rfl
    ·exact Heap.lt_size hz
    ·exact Heap.lt_size hTI
    ·exact Heap.lt_size hTO
    ·exact Heap.lt_size e1
    ·exact Heap.lt_size e2
   rw [q] at hlt
   exact Nat.lt_irrefl _ hlt
 done:=by
  intro X hP hw hK hc i pins s σ H E I hf st hg
  subst hP hw hK
  obtain ⟨xs,ys,qa,qb,hend⟩:=hg
  obtain ⟨its1,rv1,p1,z1⟩:=I.list qa
  obtain ⟨its2,rv2,p2,z2⟩:=I.list qb
  obtain ⟨hz,hTI,⟨u,v,hTO⟩,h1,h2⟩:=st
  have D:=zip_apart hTT hii hz hTI hTO h1 h2 p1.isList p2.isList
  have l1:=rv1.length
  have l2:=rv2.length
  refine wpAny_pyNext_zip_end (I.ok.hd hc) D hz hTI hTO h1 h2 p1.isList p2.isList ?_ fun h' hk=>⟨rfl,?_⟩
  ·rcases hend with q | q
   ·exact .inl (by simp; omega)
   ·exact .inr (by simp; omega)
  ·exact I.turnedL (t':=s.toks) (ch:=[z,TO,i1,i2]) (fun c o hb e=>by
    simp only [List.mem_cons,List.not_mem_nil,or_false,not_or] at hb
    exact hk c o hb.1 hb.2.1 hb.2.2.1 hb.2.2.2 e) (fun c hb=>hf c (by
    simp only [List.mem_cons,List.not_mem_nil,or_false] at hb ⊢
    rcases hb with q | q | q | q
    ·exact .inl q
    ·exact .inr (.inr (.inl q))
    ·exact .inr (.inr (.inr (.inl q)))
    ·exact .inr (.inr (.inr (.inr q)))))
 self:=fun _ _ _ _ _ st h=>wpAny_pyIter_zip st.1 h
section
variable {X : Cx}
def iZip (K : PySem.W.Frag) (ta : TA) : TI:=fun σ H R=>ta σ H fun vs H1=>∃ a b xs ys,vs = [.ref a,.ref b]∧SqL K H1 a xs∧SqL K H1 b ys∧R (Itz K a b) H1
theorem pi_zip {ea eb : Expr} {ta : TA} {elts : List Expr} {kx} {tpos p pos : Pos} (hg : Gl X "zip") (hm : X.mg "zip" = none) (ha : PA X [ea, eb] ta) (hs : starEach [ea, eb] X.env = [(false, eval ea X.env), (false, eval eb X.env)] := by rfl) (hs2 : starEach [eb] X.env = [(false, eval eb X.env)] := by rfl) :
  PI X (.Tuple elts kx tpos) (.Call (.Name "zip" p) [ea, eb] [] pos) (iZip X.K ta) := by
 intro pins s σ H R I h
 refine Call_ (ld_blt I hg hm (by rfl : bootBuiltins "zip" = some (.type "zip")) (PyProof.Rows.callWith_type1 (thn (ha pos pins s σ H _ I h) fun us s1 ⟨vs, H1, I1, r1, q1⟩ => ?_) (by rw [hs, hs2]) (by rw [hs2]; rfl)))
 obtain ⟨a,b,xs,ys,e,qa,qb,q⟩:=q1
 subst e
 cases r1 with
 | cons r rr =>
  cases rr with
  | cons r' rr =>
   cases rr
   cases r
   cases r'
   obtain ⟨its1,rv1,p1,z1⟩:=I1.list qa
   obtain ⟨its2,rv2,p2,z2⟩:=I1.list qb
   refine call_zip_2 p1.isList p2.isList fun h' hz hTI hTO h1 h2 hsz hk=>wpAny_pyIter_zip hz ?_
   refine ⟨s1.heap.objs.size + 4,[s1.heap.objs.size + 4,s1.heap.objs.size + 2,s1.heap.objs.size + 3,s1.heap.objs.size,s1.heap.objs.size + 1],_,_,H1,rfl,I1.kept (t':=s1.toks) hk,turn_zip (Nat.ne_of_lt (Nat.lt_succ_self _)) (Nat.ne_of_lt (Nat.lt_succ_self _)),⟨hz,hTI,⟨_,_,hTO⟩,h1,h2⟩,fun c hb=>?_,q⟩
   have hle : s1.heap.objs.size ≤ c:=by
    simp only [List.mem_cons,List.not_mem_nil,or_false] at hb
    rcases hb with q | q | q | q | q
    ·rw [q]; exact Nat.le_add_right _ _
    ·rw [q]; exact Nat.le_add_right _ _
    ·rw [q]; exact Nat.le_add_right _ _
    ·rw [q]; exact Nat.le_refl _
    ·rw [q]; exact Nat.le_add_right _ _
   exact I1.fpOk hle (I1.hok.fresh hle)
end
section
variable {K : PySem.W.Frag} {g : Blk→TG} {tt : Blk→TT} {te : Blk→TE} {Z : List V→Hp→Prop} {σ0 : St} {H1 : Hp}
theorem comp_listP {a : Addr} {xs : List V} (Pv : Nat→List V→St→Hp→Prop) (h0 : Pv 0 [] σ0 H1) (hl : ∀ i ys σ H,i ≤ xs.length→Pv i ys σ H→SqL K H a xs∧ys.length < sizeLine)
  (hs : ∀ B i x ys σ H,xs[i]? = some x→Pv i ys σ H→g B x σ H fun σ2 H3=>tt B σ2 H3 fun b H4=>if b = true then te B σ2 H4 fun y H5=>Pv (i + 1) (ys ++ [y]) σ2 H5 else Pv (i + 1) ys σ2 H4)
  (hd : ∀ ys σ H,Pv xs.length ys σ H→Z ys H) : ∃ W : Nat→Nat→List V→St→Hp→Prop,(∃ m,W 0 m [] σ0 H1)∧∀ B,CompW (Itl K a) (g B) (tt B) (te B) W Z:=by
 refine ⟨fun i m ys σ H=>m = xs.length - i∧i ≤ xs.length∧Pv i ys σ H,⟨xs.length,by simp,Nat.zero_le _,h0⟩,?_⟩
 rintro B i m ys σ H ⟨rfl,hi,p⟩
 obtain ⟨q,hz⟩:=hl i ys σ H hi p
 by_cases hlt : i < xs.length
 ·refine .inr ⟨⟨xs,xs[i],q,by simp [hlt]⟩,hz,Pv (i + 1),fun zs σ' H' p'=>⟨xs.length - (i + 1),by omega,rfl,hlt,p'⟩,fun x H' y=>?_⟩
  obtain ⟨e,y⟩:=y
  subst e
  exact hs B i x ys σ _ (y xs q) p
 ·have e : i = xs.length:=by omega
  subst e
  exact .inl ⟨⟨xs,q,Nat.le_refl _⟩,hd ys σ H p⟩
theorem comp_rangeP {lo : Int} {n : Nat} (Pv : Nat→List V→St→Hp→Prop) (h0 : Pv 0 [] σ0 H1) (hl : ∀ i ys σ H,i ≤ n→Pv i ys σ H→ys.length < sizeLine)
  (hs : ∀ B i ys σ H,i < n→Pv i ys σ H→g B (.int (lo + i)) σ H fun σ2 H3=>tt B σ2 H3 fun b H4=>if b = true then te B σ2 H4 fun y H5=>Pv (i + 1) (ys ++ [y]) σ2 H5 else Pv (i + 1) ys σ2 H4)
  (hd : ∀ ys σ H,Pv n ys σ H→Z ys H) : ∃ W : Nat→Nat→List V→St→Hp→Prop,(∃ m,W 0 m [] σ0 H1)∧∀ B,CompW (Itr lo n) (g B) (tt B) (te B) W Z:=by
 refine ⟨fun i m ys σ H=>m = n - i∧i ≤ n∧Pv i ys σ H,⟨n,by simp,Nat.zero_le _,h0⟩,?_⟩
 rintro B i m ys σ H ⟨rfl,hi,p⟩
 by_cases hlt : i < n
 ·refine .inr ⟨hlt,hl i ys σ H hi p,Pv (i + 1),fun zs σ' H' p'=>⟨n - (i + 1),by omega,rfl,hlt,p'⟩,fun x H' y=>?_⟩
  obtain ⟨e,y⟩:=y
  subst e y
  exact hs B i ys σ _ hlt p
 ·have e : i = n:=by omega
  subst e
  exact .inl ⟨Nat.le_refl _,hd ys σ H p⟩
theorem comp_zipP {a b : Addr} {xs ws : List V} (Pv : Nat→List V→St→Hp→Prop) (h0 : Pv 0 [] σ0 H1) (he : xs.length = ws.length) (hl : ∀ i ys σ H,i ≤ xs.length→Pv i ys σ H→SqL K H a xs∧SqL K H b ws∧ys.length < sizeLine)
  (hs : ∀ B i x w p ys σ H,xs[i]? = some x→ws[i]? = some w→Pv i ys σ H→H p = none→g B (.ref p) σ (upd H p (.tup [x,w])) fun σ2 H3=>tt B σ2 H3 fun b H4=>if b = true then te B σ2 H4 fun y H5=>Pv (i + 1) (ys ++ [y]) σ2 H5 else Pv (i + 1) ys σ2 H4)
  (hd : ∀ ys σ H,Pv xs.length ys σ H→Z ys H) : ∃ W : Nat→Nat→List V→St→Hp→Prop,(∃ m,W 0 m [] σ0 H1)∧∀ B,CompW (Itz K a b) (g B) (tt B) (te B) W Z:=by
 refine ⟨fun i m ys σ H=>m = xs.length - i∧i ≤ xs.length∧Pv i ys σ H,⟨xs.length,by simp,Nat.zero_le _,h0⟩,?_⟩
 rintro B i m ys σ H ⟨rfl,hi,p⟩
 obtain ⟨qa,qb,hz⟩:=hl i ys σ H hi p
 by_cases hlt : i < xs.length
 ·refine .inr ⟨⟨xs,ws,xs[i],ws[i]'(he ▸ hlt),qa,qb,by simp [hlt],by simp [he ▸ hlt]⟩,hz,Pv (i + 1),fun zs σ' H' p'=>⟨xs.length - (i + 1),by omega,rfl,hlt,p'⟩,fun v H' y=>?_⟩
  obtain ⟨q,x,w,hq,e1,e2,hx,hw⟩:=y
  subst e1 e2
  exact hs B i x w q ys σ H (hx xs qa) (hw ws qb) p hq
 ·have e : i = xs.length:=by omega
  subst e
  exact .inl ⟨⟨xs,ws,qa,qb,.inl (Nat.le_refl _)⟩,hd ys σ H p⟩
end
protected theorem Same.upd {H H' : Hp} (e : Same H H') {p : Addr} {o : HO} (h : H' p = none) : Same H (L2.upd H' p o):=fun b u q=>by
 have q':=e b u q
 rw [upd_ne (ne_of_none q' h)]
 exact q'
protected theorem Same.upd' {H H' : Hp} (e : Same H H') {p : Addr} {o : HO} (h : H p = none) : Same H (L2.upd H' p o):=fun b u q=>by
 rw [upd_ne (ne_of_none q h)]
 exact e b u q
theorem comp_range1 {te : Blk→TE} {H1 : Hp} {Z : List V→Hp→Prop} {lo : Int} {n : Nat} {τ : St} (f : Nat→V) (hn : n < sizeLine)
  (hs : ∀ B i H,i < n→Same H1 H→∀ Q' : VK,(∀ H2,Same H H2→Q' (f i) H2)→te B (some (.int (lo + i)) :: τ) H Q')
  (hd : ∀ H2,Same H1 H2→Z ((List.range n).map f) H2) :
  ∃ W : Nat→Nat→List V→St→Hp→Prop,(∃ m,W 0 m [] (none :: τ) H1)∧∀ B : Blk,CompW (Itr lo n) (gName 0) tTrue (te B) W Z:=by
 refine comp_rangeP (g:=fun _=>gName 0) (tt:=fun _=>tTrue) (fun i ys σ H=>(∃ v,σ = v :: τ)∧Same H1 H∧ys = (List.range i).map f) ⟨⟨none,rfl⟩,Same.refl _,rfl⟩ (fun i ys σ H hi ⟨_,_,e⟩=>?_) (fun B i ys σ H hi ⟨⟨v,e⟩,S,ey⟩=>?_) (fun ys σ H ⟨_,S,e⟩=>?_)
 ·rw [e,List.length_map,List.length_range]; omega
 ·subst e
  try dsimp only [gName,tTrue]
  rw [if_pos rfl]
  refine hs B i H hi S _ fun H2 S2=>⟨⟨_,rfl⟩,S.trans S2,?_⟩
  rw [ey,List.range_succ,List.map_append]
  rfl
 ·rw [e]
  exact hd H S
theorem comp_zip1 {K : PySem.W.Frag} {K' : Blk→PySem.W.Frag} {te : Blk→TE} {H1 : Hp} {Z : List V→Hp→Prop} {a b : Addr} {xs ws : List V} {τ : St} (f : V→V→V) (he : xs.length = ws.length) (hn : xs.length < sizeLine) (qa : SqL K H1 a xs) (qb : SqL K H1 b ws)
  (hs : ∀ B x w H,x ∈ xs→w ∈ ws→Same H1 H→∀ Q' : VK,(∀ H2,Same H H2→Q' (f x w) H2)→te B (some x :: some w :: τ) H Q')
  (hd : ∀ H2,Same H1 H2→Z (List.zipWith f xs ws) H2) :
  ∃ W : Nat→Nat→List V→St→Hp→Prop,(∃ m,W 0 m [] (none :: none :: τ) H1)∧∀ B : Blk,CompW (Itz K a b) (gTup (K' B) 2 (gCons (gName 0) (gCons (gName 1) gNil))) tTrue (te B) W Z:=by
 refine comp_zipP (g:=fun B=>gTup (K' B) 2 (gCons (gName 0) (gCons (gName 1) gNil))) (tt:=fun _=>tTrue) (xs:=xs) (ws:=ws) (fun i ys σ H=>(∃ v u,σ = v :: u :: τ)∧Same H1 H∧ys = (List.zipWith f xs ws).take i) ⟨⟨none,none,rfl⟩,Same.refl _,rfl⟩ he (fun i ys σ H hi ⟨_,S,e⟩=>⟨S.seq qa,S.seq qb,?_⟩) (fun B i x w p ys σ H hx hw ⟨⟨v,u,e⟩,S,ey⟩ hp=>?_) (fun ys σ H ⟨_,S,e⟩=>?_)
 ·rw [e,List.length_take,List.length_zipWith]; omega
 ·subst e
  refine ⟨p,[x,w],rfl,SqT.of upd_same,rfl,x,[w],rfl,w,[],rfl,rfl,?_⟩
  try dsimp only [gName,tTrue,gNil]
  rw [if_pos rfl]
  refine hs B x w _ (List.mem_of_getElem? hx) (List.mem_of_getElem? hw) (S.upd hp) _ fun H2 S2=>⟨⟨_,_,rfl⟩,(S.upd hp).trans S2,?_⟩
  rw [ey,List.take_add_one,List.getElem?_zipWith,hx,hw]
  rfl
 ·rw [e,List.take_of_length_le (by rw [List.length_zipWith]; omega)]
  exact hd H S
end L2
namespace L2
open PySem PySem.Spec PyProof.Rows
section
variable {X : Cx}
inductive rIsOf (K : PySem.W.Frag) (xs : List V) (H : Hp) (Q : VK) : Prop
 | mk : ∀ x n t b,(xs = [x,.ty n])→(TyOf K H x t)→(PySem.W.kitOne K t (.type n) = some b)→(Q (.bl b) H)→rIsOf K xs H Q
theorem call_isinst : CallR X (.builtin "isinstance") (rIsOf X.K) := by
 intro pins s σ H xs us Q I r h
 obtain ⟨x,n,t,b,e,ty,k,q⟩:=h
 subst e
 obtain ⟨u,v,rfl,r1,r2⟩:=vals2 r
 obtain rfl : v = Value.type n:=r2
 exact isinst_ok I r1 ty k fun tk=>⟨.bl b,H,I.tok tk,rfl,q⟩
inductive rAllOf (K : PySem.W.Frag) (xs : List V) (H : Hp) (Q : VK) : Prop
 | mk : ∀ (a : Addr) (bs : List Bool),(xs = [.ref a])→(SqL K H a (bs.map V.bl))→(Q (.bl (bs.all id)) H)→rAllOf K xs H Q
theorem call_all_list (hc : X.calm = true) : CallR X (.builtin "all") (rAllOf X.K) := by
 intro pins s σ H xs us Q I r h
 obtain ⟨a,bs,e,hq,q⟩:=h
 subst e
 obtain ⟨u,rfl,r1⟩:=vals1 r
 obtain rfl : u = Value.ref a:=r1
 obtain ⟨its,rv,p,hz⟩:=I.list hq
 have hal : a < s.heap.objs.size:=by obtain ⟨o,e,_⟩:=p.isList; exact Heap.lt_size e
 have hl:=rv.length
 rw [List.length_map] at hl
 refine call_all_walk (wpAny_pyIter_list p.isList ⟨s.heap.objs.size,_,_,_,_,_,(fun i=>bs.getD i false),rfl,Walks.list (A:=X.A.in1) (show X.A.in1.handled = none from I.ok.hd hc) _ a (Nat.ne_of_lt hal) its.toArray,⟨⟨_,Heap.get?_push_size _ rfl,rfl,rfl⟩,p.isList.push _⟩,fun i v s' Q' E' hv hQ=>?_,fun h' tk hk=>?_⟩)
 ·have hv' : its[i]? = some v:=by simpa using hv
  have hi : i < bs.length:=by rw [hl]; exact (List.getElem?_eq_some_iff.mp hv').1
  have hx : (bs.map V.bl)[i]? = some (V.bl (bs.getD i false)):=by
   rw [List.getElem?_map,List.getElem?_eq_getElem hi]
   simp [List.getD_eq_getElem?_getD,List.getElem?_eq_getElem hi]
  obtain ⟨u,hu,ru⟩:=rv.get hx
  rw [hv'] at hu
  cases hu
  obtain rfl : v = Value.bool (bs.getD i false):=ru
  exact wpAny_truthy_bool hQ
 ·have es : (List.range its.toArray.size).all (fun i=>bs.getD i false) = bs.all id:=by
   rw [List.size_toArray,← hl]
   rw [Bool.eq_iff_iff,List.all_eq_true,List.all_eq_true]
   constructor
   ·intro z x hx
    obtain ⟨i,hi,rfl⟩:=List.mem_iff_getElem.mp hx
    have:=z i (List.mem_range.mpr hi)
    simpa [List.getD_eq_getElem?_getD,List.getElem?_eq_getElem hi] using this
   ·intro z i hi
    have hi:=List.mem_range.mp hi
    have:=z _ (List.getElem_mem hi)
    simpa [List.getD_eq_getElem?_getD,List.getElem?_eq_getElem hi] using this
  rw [es]
  exact ⟨.bl (bs.all id),H,I.kept fun b o e=>hk b o (fun z=>by have:=List.mem_singleton.mp z; rw [this] at e; exact absurd (Heap.lt_size e) (Nat.lt_irrefl _)) (Heap.get?_push_of_some _ e),rfl,q⟩
end
end L2
namespace L2
open PySem PySem.Spec PyProof.Rows
def compOkB (osc : Scope) (N : List Str) (scope : Scope) (N' : List Str) (nt : Nat) (caps : List Nat) : Bool :=
 decide (scope.kind = .function) && decide (∀ y ∈ scope.names,y.2 ≠ .cell) && decide (∀ y ∈ scope.names,y.2 = .local→scope.names.lookup y.1 = some .local) &&
 decide (∀ y ∈ scope.names,y.2 = .free→osc.names.lookup y.1 = some .cell ∨ osc.names.lookup y.1 = some .free) && decide (caps.map (fun j=>N[j]?) = (N'.drop nt).map some) &&
 decide (∀ x ∈ N'.drop nt,scope.names.lookup x = some .free) && decide (nt ≤ N'.length) && decide N'.Nodup
theorem CompScope.of {osc : Scope} {N : List Str} {scope : Scope} {N' : List Str} {nt : Nat} {caps : List Nat} (h : compOkB osc N scope N' nt caps = true) : CompScope osc N scope N' nt caps:=by
 unfold compOkB at h
 simp only [Bool.and_eq_true,decide_eq_true_eq] at h
 obtain ⟨⟨⟨⟨⟨⟨⟨a,b⟩,c⟩,d⟩,e⟩,f⟩,g⟩,i⟩:=h
 exact ⟨a,b,c,d,e,f,g,i⟩
section
variable {X : Cx} {tg : Expr}
end
theorem pg_nameC {X : Cx} {i : Nat} {x : Str} {pos : Pos} (N : List Str) (hN : N.Nodup) (hi : N[i]? = some x) (hx : X.env.scope.names.lookup x = some .local:=by rfl) (hXN : X.N = N:=by rfl) : PG X (.Name x pos) (gName i) :=
 pg_name (by rw [hXN]; exact hN) (by rw [hXN]; exact hi) (.inl hx) (.inr hx)
theorem bt_all : bootBuiltins "all" = some (.builtin "all") := by decide +kernel
theorem bt_len : bootBuiltins "len" = some (.builtin "len") := by decide +kernel
theorem bt_max : bootBuiltins "max" = some (.builtin "max") := by decide +kernel
theorem bt_isinstance : bootBuiltins "isinstance" = some (.builtin "isinstance") := by decide +kernel
theorem bt_list : bootBuiltins "list" = some (.type "list") := by decide +kernel
theorem bt_int : bootBuiltins "int" = some (.type "int") := by decide +kernel
theorem bt_bool : bootBuiltins "bool" = some (.type "bool") := by decide +kernel
theorem bt_tuple : bootBuiltins "tuple" = some (.type "tuple") := by decide +kernel
theorem bt_set : bootBuiltins "set" = some (.type "set") := by decide +kernel
end L2
namespace L2
open PySem PySem.Spec PyProof.Rows
abbrev vints (ns : List Int) : List V:=ns.map V.int
theorem iteD {p A B : Prop} [Decidable p] (h1 : p→A) (h2 : ¬ p→B) : if decide p = true then A else B:=by
 by_cases h : p
 ·rw [if_pos (decide_eq_true h)]
  exact h1 h
 ·rw [if_neg (by rw [decide_eq_false h]; exact Bool.false_ne_true)]
  exact h2 h
theorem iteND {p A B : Prop} [Decidable p] (h1 : ¬ p→A) (h2 : p→B) : if (!decide p) = true then A else B:=by
 by_cases h : p
 ·rw [decide_eq_true h]
  exact iteF (h2 h)
 ·rw [decide_eq_false h]
  exact iteT (h1 h)
theorem vint_eq {i j : Int} : (V.int i = V.int j) ↔ i = j:=⟨fun h=>by cases h; rfl,fun h=>by rw [h]⟩
theorem ints_get {ns : List Int} {i : Nat} {x : V} (h : (vints ns)[i]? = some x) : ∃ n,ns[i]? = some n∧x = V.int n:=by
 rw [List.getElem?_map] at h
 cases e : ns[i]? with
 | none=>rw [e] at h; cases h
 | some n=>rw [e] at h; exact ⟨n,rfl,(Option.some.inj h).symm⟩
theorem ints_mem {ns : List Int} {x : V} (h : x ∈ vints ns) : ∃ n,n ∈ ns∧x = V.int n:=by
 obtain ⟨n,hn,e⟩:=List.mem_map.mp h
 exact ⟨n,hn,e.symm⟩
theorem ints_len (ns : List Int) : (vints ns).length = ns.length:=List.length_map ..
theorem ints_at {ns : List Int} {k : Nat} (h : k < ns.length) : atI (vints ns) (k : Int) = some (V.int (ns[k])):=by
 refine atI_nat ?_
 rw [List.getElem?_map,List.getElem?_eq_getElem h]
 rfl
def Rows (H : Hp) (as : List Addr) (rs : List (List Int)) : Prop:=Paired (fun (a : Addr) (r : List Int)=>H a = some (.lst (vints r))) as rs
theorem Rows.same {H H' : Hp} {as : List Addr} {rs : List (List Int)} (h : Rows H as rs) (S : Same H H') : Rows H' as rs:=Paired.mapP h fun a r e=>S _ _ e
theorem Rows.snoc {H : Hp} {as : List Addr} {rs : List (List Int)} {a : Addr} {r : List Int} (h : Rows H as rs) (e : H a = some (.lst (vints r))) : Rows H (as ++ [a]) (rs ++ [r]):=Paired.snoc h e
theorem Rows.length {H : Hp} {as : List Addr} {rs : List (List Int)} (h : Rows H as rs) : as.length = rs.length:=Paired.length h
theorem Paired.getL {α β : Type} {F : α→β→Prop} : ∀ {l₁ : List α} {l₂ : List β} {i : Nat} {a : α},Paired F l₁ l₂→l₁[i]? = some a→∃ b,l₂[i]? = some b∧F a b
 | _,_,_,_,.nil,e=>by simp at e
 | _,_,0,_,.cons r _,e=>by simp at e; subst e; exact ⟨_,rfl,r⟩
 | _,_,i + 1,a,.cons _ t,e=>by
  obtain ⟨u,h1,h2⟩:=Paired.getL (i:=i) (a:=a) t (by simpa using e)
  exact ⟨u,by simpa using h1,h2⟩
theorem small70 {n : Nat} (h : n ≤ 70) : n < sizeLine:=Nat.lt_of_le_of_lt h (by decide)
end L2
namespace L2
open PySem PySem.Spec PyProof.Rows
theorem bits_of_lt {x : Int} {n : Nat} (h : x.natAbs < 2 ^ n) : Builtin.Int.intBits x ≤ n:=by
 unfold Builtin.Int.intBits
 split
 ·exact Nat.zero_le _
 ·rename_i h0
  have hx : x.natAbs ≠ 0:=fun e=>h0 (by
   have : x = 0:=Int.natAbs_eq_zero.mp e
   rw [this]; rfl)
  exact (Nat.log2_lt hx).mpr h
def CMulB (i j : Int) : Prop:=i.natAbs < 2 ^ 1000∧j.natAbs < 2 ^ 1000
theorem op_mulB {X : Cx} : OpR X (binaryOp .Mult) (rI CMulB fun i j=>.int (i * j)):=opI fun _ _ _ _ _ _ _ hc q =>
 mul_int q (.of_bits (Nat.le_trans (bits_of_lt hc.1) (by decide)) (Nat.le_trans (bits_of_lt hc.2) (by decide)))
def CDivB (i j : Int) : Prop:=0 < j∧j.natAbs < 2 ^ 1000
theorem op_fdivB {X : Cx} : OpR X (binaryOp .FloorDiv) (rI CDivB fun i j=>.int (i / j)):=opI fun i j _ _ _ _ _ hc q=>by
 have e : i.fdiv j = i / j:=Int.fdiv_eq_ediv_of_nonneg _ (Int.le_of_lt hc.1)
 refine floordiv_int (Int.ne_of_gt hc.1) (by rw [e]; exact q) (.inl (PyProof.noPylong_of_log2 ?_))
 have hx : j.natAbs ≠ 0:=by have:=hc.1; omega
 exact Nat.lt_of_lt_of_le ((Nat.log2_lt hx).mpr hc.2) (by decide)
theorem p70 {n : Nat} (h : n < 10 ^ 70) : n < 2 ^ 1000:=Nat.lt_of_lt_of_le h (by decide +kernel)
inductive sp_zipd (f : Int→Int→Int) (K : PySem.W.Frag) (vs : List V) (H : Hp) (Q : VK) (z_3 : XK) : Prop
 | mk : ∀ (a b : Addr) (xs ys : List Int),(vs = [.ref a,.ref b])→(SqL K H a (vints xs))→(SqL K H b (vints ys))→(xs.length = ys.length)→(xs.length ≤ 70)→(∀ (p : Addr) (H' : Hp),H p = none→Same H H'→H' p = some (.lst (vints (List.zipWith f xs ys)))→Q (.ref p) H')→sp_zipd f K vs H Q z_3
theorem zip_ints {f : Int→Int→Int} {g : V→V→V} (h : ∀ i j,g (.int i) (.int j) = .int (f i j)) : ∀ (xs ys : List Int),List.zipWith g (vints xs) (vints ys) = vints (List.zipWith f xs ys)
 | [],_=>rfl
 | _ :: _,[]=>rfl
 | x :: xs,y :: ys=>by
  show g (.int x) (.int y) :: List.zipWith g (vints xs) (vints ys) = .int (f x y) :: vints (List.zipWith f xs ys)
  rw [h,zip_ints h]
def gInt (f : Int→Int→Int) : V→V→V
 | .int i,.int j=>.int (f i j)
 | _,_=>.non
theorem at_place {xs : List Int} {z i : Nat} (hx : xs.length = z) (hi : i < z) : atI (vints xs) (0 + (i : Int)) = some (V.int (xs.getD i 0)):=by
 subst hx
 rw [Int.zero_add,ints_at hi]
 simp [List.getD_eq_getElem?_getD,List.getElem?_eq_getElem hi]
end L2
namespace L2
open PySem PySem.Spec PyProof.Rows
def bn (xs ys : List Int) : Bool:=(List.zipWith (fun i j=>decide (i ≤ j)) xs ys).all id
end L2
namespace L2
open PySem PySem.Spec PyProof.Rows
theorem vints_snoc (ns : List Int) (n : Int) : vints (ns ++ [n]) = vints ns ++ [V.int n]:=by rw [vints,List.map_append]; rfl
theorem vrefs_snoc (as : List Addr) (a : Addr) : (as ++ [a]).map V.ref = as.map V.ref ++ [V.ref a]:=by rw [List.map_append]; rfl
theorem Rows.lay {H : Hp} {as : List Addr} {rs : List (List Int)} {p : Addr} {o : HO} (R : Rows H as rs) (h : ∀ b ∈ as,b ≠ p) : Rows (upd H p o) as rs:=by
 induction R with
 | nil=>exact .nil
 | cons q _ ih=>exact .cons (by rw [upd_ne (h _ List.mem_cons_self)]; exact q) (ih fun b hb=>h b (List.mem_cons_of_mem _ hb))
theorem Rows.apart {H : Hp} {as : List Addr} {rs : List (List Int)} {p : Addr} (R : Rows H as rs) (h : H p = some (.lst (as.map V.ref))) : ∀ b ∈ as,b ≠ p:=fun b hb z=>by
 subst z
 obtain ⟨k,hk,e1⟩:=List.mem_iff_getElem.mp hb
 obtain ⟨r,_,e2⟩:=Paired.getL R (List.getElem?_eq_some_iff.mpr ⟨hk,e1⟩)
 rw [h] at e2
 have e3 : as.map V.ref = vints r:=by injection (Option.some.inj e2)
 have e4 : (as.map V.ref)[k]? = (vints r)[k]?:=by rw [e3]
 rw [List.getElem?_map,List.getElem?_map,List.getElem?_eq_getElem hk] at e4
 cases q : r[k]? with
 | none=>rw [q] at e4; cases e4
 | some n=>rw [q] at e4; cases e4
theorem Rows.mem {H : Hp} {as : List Addr} {rs : List (List Int)} {b : Addr} (R : Rows H as rs) (hb : b ∈ as) : ∃ r,r ∈ rs∧H b = some (.lst (vints r)):=by
 obtain ⟨k,hk,e1⟩:=List.mem_iff_getElem.mp hb
 obtain ⟨r,h1,e2⟩:=Paired.getL R (List.getElem?_eq_some_iff.mpr ⟨hk,e1⟩)
 exact ⟨r,List.mem_of_getElem? h1,e2⟩
def mx (i j : Int) : Int:=if j > i then j else i
theorem seq_join {t rest : TS} {D : Ends} {σ : St} {H : Hp} (I : St→Hp→Prop) (tl : ∀ σ' H',I σ' H'→rest D σ' H') (hd : ∀ N : St→Hp→Prop,(∀ σ' H',I σ' H'→N σ' H')→t { D with nx:=N } σ H) : tSeq t rest D σ H:=hd _ tl
theorem by_place1 (f : Int→Int) {xs : List Int} {z : Nat} (hx : xs.length = z) : (List.range z).map (fun i=>V.int (f (xs.getD i 0))) = vints (xs.map f):=by
 refine List.ext_getElem (by simp [hx]) fun i h1 h2=>?_
 have hi : i < z:=by simpa using h1
 simp [List.getD_eq_getElem?_getD,List.getElem?_eq_getElem (hx ▸ hi : i < xs.length)]
theorem refs_get {as : List Addr} {i : Nat} {x : V} (h : (as.map V.ref)[i]? = some x) : ∃ b,as[i]? = some b∧x = V.ref b:=by
 rw [List.getElem?_map] at h
 cases e : as[i]? with
 | none=>rw [e] at h; cases h
 | some b=>rw [e] at h; exact ⟨b,rfl,(Option.some.inj h).symm⟩
theorem strs_get {as : List Str} {i : Nat} {x : V} (h : (as.map V.str)[i]? = some x) : ∃ b,as[i]? = some b∧x = V.str b:=by
 rw [List.getElem?_map] at h
 cases e : as[i]? with
 | none=>rw [e] at h; cases h
 | some b=>rw [e] at h; exact ⟨b,rfl,(Option.some.inj h).symm⟩
end L2
namespace L2
open PySem PySem.Spec PyProof.Rows PySem.SeqAt
section
variable {X : Cx} {pins : List (Addr × Obj)} {σ : St} {H : Hp} {s : Shared} {A : Around} {a b : Addr} {xs ys : List Int}
def memR (xs : List Int) (rs : List (List Int)) : Bool:=rs.any fun r=>decide (r = xs)
theorem rows_val {as : List Addr} {its : List Value} (rv : Vals (as.map V.ref) its) : its = as.map Value.ref:=by
 induction as generalizing its with
 | nil=>cases rv; rfl
 | cons a as ih =>
  cases rv with
  | cons r t =>
   cases r
   rw [List.map_cons,← ih t]
end
end L2
namespace L2
open PySem PySem.Spec PyProof.Rows
def ix (x : List Int) : List (List Int)→Nat
 | []=>0
 | y :: l=>if y = x then 0 else ix x l + 1
def isOut (R : List Int→List Int→Bool) (all : List (List Int)) (r : List Int) : Bool:=all.all fun o=>decide (o = r) || !R r o
def step (R : List Int→List Int→Bool) (all acc : List (List Int)) (r : List Int) : List (List Int):=if !memR r acc && isOut R all r then acc ++ [r] else acc
section
variable {R : List Int→List Int→Bool} {all : List (List Int)}
end
end L2
namespace L2
open PySem PySem.Spec PyProof.Rows
section
variable {X : Cx} {CX : CXT} {k i : Nat} {f : Addr} {fd : FuncData} {ps : List Str} {sp : Sp} {dvs : List V} {ds : List Value} {E : XK} {x : Str} {p pos : Pos} {e : Expr} {es : List Expr} {t : TA}
def tCallV (i : Nat) (f : Addr) (sp : Sp) (dvs : List V) (E : XK) (t : TA) : TE:=fun σ H Q=>σ[i]? = some (some (.ref f))∧t σ H fun vs H1=>sp (vs ++ dvs) H1 Q E
theorem pe_callV (i : Nat) (F : FnOk X.prog X.w X.K X.mg X.base CX k f fd ps sp) (hr : Room k X.A) (hk : PySem.W.keepIn X.K (.ref f) = true) (hb : Binds X.K fd ps ds) (hd : Vals dvs ds) (hx : Passes CX X E) (ha : PA X (e :: es) t)
  (hN : X.N[i]? = some x := by rfl) (hv : Vis X.env.scope x := by first | exact Or.inl rfl | exact Or.inr (Or.inl rfl) | exact Or.inr (Or.inr rfl)) (hdb : (x == ("__debug__" : Str)) = false := by decide) (hcd : (x == ("__classdict__" : Str)) = false := by decide)
  (he : starEach (e :: es) X.env = (false,eval e X.env) :: starEach es X.env:=by rfl) (hpl : (backTo pos (starEach es X.env)).any (·.1) = false:=by rfl) :
  PE X (.Call (.Name x p) (e :: es) [] pos) (tCallV i f sp dvs E t):=by
 intro pins s σ H Q I h
 obtain ⟨hσ,h⟩:=h
 refine wpAny_Call_Name_kw (thn (pe_var (pos:=p) hN hv hdb hcd pins s σ H (fun v H1=>v = .ref f∧t σ H1 fun vs H2=>sp (vs ++ dvs) H2 Q E) I ⟨_,hσ,rfl,h⟩) fun u s1 ⟨v,H1,I1,r,ev,q⟩=>?_)
 subst ev
 cases r
 refine PySem.W.callWith_K (h₀:=X.base) I1.ok.mod.kin hk (thn (ha pos pins s1 σ H1 _ I1 q) fun us s2 ⟨vs,H2,I2,r2,q2⟩=>⟨I2.kIn,?_⟩) he hpl
 exact run_fn F hr hb hd hx I2 r2 q2
end
end L2
namespace L2
open PySem PySem.Spec PyProof.Rows
def put1 {κ : Type} [DecidableEq κ] (acc : List κ) (x : κ) : List κ:=if x ∈ acc then acc else acc ++ [x]
def metK {κ : Type} [DecidableEq κ] (val : Nat→κ) : Nat→List κ
 | 0=>[]
 | i + 1=>put1 (metK val i) (val i)
theorem metK_le {κ : Type} [DecidableEq κ] (val : Nat→κ) : ∀ i,(metK val i).length ≤ i
 | 0=>Nat.le_refl _
 | i + 1=>by
  have ih:=metK_le val i
  unfold metK put1
  split
  ·omega
  ·rw [List.length_append,List.length_singleton]; omega
theorem metK_mem {κ : Type} [DecidableEq κ] (val : Nat→κ) : ∀ (i : Nat) (x : κ),x ∈ metK val i ↔ ∃ j,j < i∧val j = x
 | 0,x=>⟨fun h=>(by cases h),fun ⟨j,h,_⟩=>absurd h (Nat.not_lt_zero _)⟩
 | i + 1,x=>by
  have ih:=metK_mem val i
  have e : x ∈ metK val (i + 1) ↔ x ∈ metK val i ∨ x = val i:=by
   show x ∈ put1 (metK val i) (val i) ↔ _
   unfold put1
   split
   ·rename_i h
    exact ⟨.inl,fun q=>q.elim id fun z=>z ▸ h⟩
   ·rw [List.mem_append,List.mem_singleton]
  rw [e,ih x]
  constructor
  ·rintro (⟨j,h,e⟩ | e)
   ·exact ⟨j,by omega,e⟩
   ·exact ⟨i,by omega,e.symm⟩
  ·rintro ⟨j,h,e'⟩
   rcases Nat.lt_succ_iff_lt_or_eq.mp h with q | q
   ·exact .inl ⟨j,q,e'⟩
   ·subst q; exact .inr e'.symm
theorem metK_all {κ : Type} [DecidableEq κ] (val : Nat→κ) : ∀ n,(∀ i j,i < n→j < n→val i = val j→i = j)→(metK val n).length = n
 | 0,_=>rfl
 | n + 1,h=>by
  have ih:=metK_all val n fun i j hi hj e=>h i j (by omega) (by omega) e
  have nm : val n ∉ metK val n:=fun q=>by
   obtain ⟨j,hj,e⟩:=(metK_mem val n _).mp q
   have:=h j n (by omega) (by omega) e
   omega
  show (put1 (metK val n) (val n)).length = n + 1
  unfold put1
  rw [if_neg nm,List.length_append,ih]
  rfl
abbrev setO (led : Bool) : Obj := { cls := .type "set", dict := none, data := .set #[] 0 (.fresh 0 0 led) }
section
variable {prog : Program} {w : World} {A : Around} {R : Result→Shared→Prop} {I : Addr} {fp wr : List Addr} {G : Array GenState→Array GenState→Prop} {n : Nat} {P : Nat→Value→Prop} {St : Nat→Shared→Prop}
variable {κ : Type} [DecidableEq κ] {knd : PySem.KeyKind prog w κ}
theorem setOf_as {h : Heap} {a : Addr} {S S' : κ→Bool} {n n' : Nat} (hS : h.SetOf knd a S n) (e : ∀ k,S k = S' k) (en : n = n') : h.SetOf knd a S' n':=by
 have q : S = S':=funext e
 rw [← q,← en]
 exact hS
theorem set_loop (W : WalksS prog w A.in1 I fp wr G n P St) (S : Addr) (hSf : S ∉ fp) (val : Nat→κ) (hval : ∀ i v,P i v→knd.is (val i) v = true∧v.scannable = true) (hb : n + 1 < scanBound) :
  ∀ (k i : Nat) (s : Shared),n - i = k→i ≤ n→St i s→s.heap.SetOf knd S (fun x=>decide (x ∈ metK val i)) (metK val i).length →
   (∀ s',Moved (S :: wr) G s s'→s'.heap.SetOf knd S (fun x=>decide (x ∈ metK val n)) (metK val n).length→R (.ok (.ret .none)) s') →
   codeAny (model prog w) A (.builtin "set.update.loop" ⟨[.ref S, .ref I], []⟩) R s := by
 have nw : S ∉ wr:=fun z=>hSf (W.sub _ z)
 have sub : ∀ b ∈ wr,b ∈ S :: wr:=fun b z=>List.mem_cons_of_mem _ z
 intro k
 induction k with
 | zero =>
  intro i s hk hi st hS fin
  obtain rfl : i = n:=by omega
  refine codeAny_builtin PyProof.Rows.F.entry_set_update_loop ?_
  rw [Around.under_plainId PyProof.Rows.F.plain_set_update_loop _]
  show wpAny _ A.in1 (pyNext (.ref I) >>= _) _ _ s
  refine wpAny_bind (W.done s _ _ st fun s' mv=>?_)
  show wpAny _ A.in1 (ret Value.none) _ _ s'
  obtain ⟨o,es,ep,t,ho,more⟩:=hS
  exact wpAny_pure (fin s' (mv.mono sub) ⟨o,es,ep,t,mv.heap S _ nw ho,more⟩)
 | succ k ih =>
  intro i s hk hi st hS fin
  have lt : i < n:=by omega
  refine codeAny_builtin PyProof.Rows.F.entry_set_update_loop ?_
  rw [Around.under_plainId PyProof.Rows.F.plain_set_update_loop _]
  show wpAny _ A.in1 (pyNext (.ref I) >>= _) _ _ s
  refine wpAny_bind (W.item i s _ _ lt st fun v s' pv st' mv=>?_)
  obtain ⟨kv,sv⟩:=hval i v pv
  have hS1 : s'.heap.SetOf knd S (fun x=>decide (x ∈ metK val i)) (metK val i).length:=by
   obtain ⟨o,es,ep,tb,ho,more⟩:=hS
   exact ⟨o,es,ep,tb,mv.heap S _ nw ho,more⟩
  show wpAny _ A.in1 (holding [v] (setAdd S v) >>= _) _ _ s'
  refine wpAny_bind (wpAny_holding ?_)
  unfold setAdd
  refine wpAny_holding (wpAny_bind (knd.pyHash (k:=val i) kv ?_))
  have room : (metK val i).length + 1 < scanBound:=by have:=metK_le val i; omega
  refine wpAny_setAddHashed_of (knd:=knd) (s:={ s' with toks:=s'.toks + 1 }) kv sv hS1 room fun h' sb hS2=>?_
  have hS3 : h'.SetOf knd S (fun x=>decide (x ∈ metK val (i + 1))) (metK val (i + 1)).length:=by
   refine setOf_as hS2 (fun x=>?_) ?_
   ·show (decide (x ∈ metK val i) || decide (x = val i)) = decide (x ∈ put1 (metK val i) (val i))
    unfold put1
    split
    ·rename_i hm
     by_cases e : x = val i
     ·subst e; simp [hm]
     ·simp [e]
    ·simp
   ·show (if decide (val i ∈ metK val i) = true then _ else _) = (put1 (metK val i) (val i)).length
    unfold put1
    by_cases hm : val i ∈ metK val i
    ·rw [if_pos hm,if_pos (decide_eq_true hm)]
    ·rw [if_neg hm,if_neg (by simp [hm]),List.length_append]; rfl
  refine wpAny_pure ⟨plainId_quiet PyProof.Rows.F.plain_set_update_loop _,ih (i + 1) _ (by omega) lt (W.frame _ s' _ _ st' (Nat.le_succ _) fun b hb o e=>?_) hS3 fun s2 mv2 hS4=>?_⟩
  ·rw [sb.2 b (fun z : b = S=>hSf (z ▸ hb))]; exact e
  ·refine fin s2 (Moved.trans W.gtrans ((mv.mono sub).then_heap (Nat.le_succ _) fun b o hb e=>?_) mv2) hS4
   rw [sb.2 b (fun z : b = S=>hb (z ▸ List.mem_cons_self))]; exact e
end
section
variable {prog : Program} {w : World} {A : Around} {E : Value→Shared→Prop} {s : Shared} {κ : Type} [DecidableEq κ] {knd : PySem.KeyKind prog w κ}
set_option maxHeartbeats 3200000 in
theorem set_from {l : Addr} {items : Array Value} {val : Nat→κ} {Q : Value→Shared→Prop} (hh : A.handled = none) (hl : s.heap.IsList l items) (hval : ∀ i v,items[i]? = some v→knd.is (val i) v = true∧v.scannable = true) (hb : items.size + 1 < scanBound)
  (h : ∀ (h' : Heap) (tk : Nat),h'.SetOf knd s.heap.objs.size (fun x=>decide (x ∈ metK val items.size)) (metK val items.size).length→(∀ b o,b < s.heap.objs.size→s.heap.get? b = some o→h'.get? b = some o) →
   Q (.ref s.heap.objs.size) { s with heap := h', toks := tk }) : wpAny (model prog w) A (call (.type "set") [.ref l]) Q E s := by
 obtain ⟨c,tl,hmro⟩:=PySem.F.called_set.mro
 have hmade:=PySem.F.called_set.made
 have hsub:=PySem.F.called_set.sub
 refine wpAny_call (codeAny_of_tree ?_)
 show wpAny _ _ (callAny (.type "set") _) _ _ _
 refine wpAny_pure ⟨Code.quiet_builtin _ (by decide +kernel),codeAny_builtin PySem.F.entry_type_call ?_⟩
 rw [Around.under_plain (weight_type_call_type "set" [.ref l] []) rfl]
 have g1:=PySem.F.called_set.notType
 have g2:=PySem.F.called_set.canCreate
 have g3:=PySem.F.typeCall_set_1 (.ref l)
 repeat (any_goals (first | assumption | wp_step))
 refine codeAny_mono (code_set_new_1 (.ref l) (E:=E) (Q₁:=fun obj s₁=>∃ led : Bool,obj = .ref s.heap.objs.size∧s₁ = { s with heap:=s.heap.push (setO led) }) fun led=>⟨led,rfl,rfl⟩) fun r s₁ hr=>?_
 cases r with
 | error e=>exact hr
 | ok fl =>
  cases fl with
  | ret obj =>
   obtain ⟨led,rfl,rfl⟩:=hr
   have at0 : (s.heap.push (setO led)).get? s.heap.objs.size = some (setO led):=Heap.get?_push_size _ rfl
   have hT : Shared.TypeIs { s with heap := s.heap.push (setO led) } (.ref s.heap.objs.size) "set" := ⟨_, at0, rfl⟩
   have g4:=PySem.F.called_set.init.lookup
   have g5:=PySem.F.called_set.init.bind (.ref s.heap.objs.size)
   repeat (any_goals (first | assumption | wp_step))
   refine codeAny_mono (codeAny_call_builtin (R:=wants (fun r s₂=>r = .none∧∃ h' tk,s₂ = { s with heap:=h',toks:=tk }∧h'.SetOf knd s.heap.objs.size (fun x=>decide (x ∈ metK val items.size)) (metK val items.size).length ∧
     (∀ b o,b < s.heap.objs.size→s.heap.get? b = some o→h'.get? b = some o)) E) PySem.F.called_set.init.plain PySem.F.entry_set_init (check_set_init_1 hT ?_)) fun r₂ s₂ hr₂=>?_
   ·obtain ⟨⟨ocls,odict,odata,oslots⟩,hol,hcl,nl,hdl⟩:=hl
    simp only at hcl hdl
    subst hcl; subst hdl
    have hol' : (s.heap.push (setO led)).get? l = some { cls := .type "list", dict := odict, data := .seq items nl, slots := oslots } := Heap.get?_push_of_some _ hol
    have k1:=PySem.F.sub_list_set
    have k2:=PySem.F.sub_list_frozenset
    have k3 : (Value.type "list" == Value.type "dict") = false := by decide
    have hl1 : (s.heap.push (setO led)).IsList l items:=⟨_,hol',rfl,nl,rfl⟩
    unfold Builtin.«set.__init__» noKeywords Builtin.Frozenset.updateFrom
    generalize hPI : pyIter = PI
    wp_walk
    subst hPI
    refine wpAny_pyIter_list hl1 (wpAny_bind (wpAny_runValue ?_))
    have ll : l < s.heap.objs.size:=Heap.lt_size hol
    have h3 : A.in1.in1.in1.handled = none:=by simp [hh]
    have nI : l ≠ (s.heap.push (setO led)).objs.size:=by
     rw [Heap.size_push]
     exact Nat.ne_of_lt (Nat.lt_succ_of_lt ll)
    have nS : s.heap.objs.size ∉ [(s.heap.push (setO led)).objs.size,l]:=by
     rw [Heap.size_push,List.mem_cons,List.mem_singleton,not_or]
     exact ⟨Nat.ne_of_lt (Nat.lt_succ_self _),Nat.ne_of_gt ll⟩
    refine set_loop (knd:=knd) ((Walks.list h3 _ l nI items).toS) s.heap.objs.size nS val hval hb (items.size - 0) 0 _ (by omega) (Nat.zero_le _) ⟨⟨_,Heap.get?_push_size _ rfl,rfl,rfl⟩,(hl1.push _)⟩ ?hS0 ?hR
    case hS0 =>
     have at1 : ((s.heap.push (setO led)).push { cls := .type "list_iterator", data := .fields #[.ref l, .int 0 0] }).get? s.heap.objs.size = some (setO led) := Heap.get?_push_of_some _ at0
     exact setOf_as ((PyProof.Rows.setObjOf_fresh (knd:=knd) led).setOf at1 (by unfold scanBound; omega)) (fun _=>by simp [metK]) rfl
    case hR =>
     intro s' mv hS'
     obtain ⟨h',g',d',tk',os'⟩:=s'
     obtain rfl : g' = s.gens:=mv.gens
     obtain rfl : d' = s.drawn:=mv.drawn
     obtain rfl : os' = s.os:=mv.os
     show wpAny _ _ _ _ _ _
     refine wpAny_pure ?_
     show wpAny _ _ (ret Value.none) _ _ _
     refine wpAny_pure ⟨rfl,h',tk',rfl,hS',fun b o hb e=>mv.heap b o ?_ (Heap.get?_push_of_some _ (Heap.get?_push_of_some _ e))⟩
     rw [List.mem_cons,List.mem_singleton,Heap.size_push,not_or]
     exact ⟨Nat.ne_of_lt hb,Nat.ne_of_lt (Nat.lt_succ_of_lt hb)⟩
   ·cases r₂ with
    | error e=>exact hr₂
    | ok fl₂ =>
     cases fl₂ with
     | ret r =>
      obtain ⟨rfl,h',tk,rfl,hS',hk'⟩:=hr₂
      repeat (any_goals (first | assumption | wp_step))
      exact h _ _ hS' hk'
     | _=>exact hr₂.elim
  | _=>exact hr.elim
end
end L2
namespace L2
open PySem PySem.Spec PyProof.Rows
def setHO (P : Program) (w : World) (p : Addr) (n : Nat) : HO:=.ext fun h=>∃ S,h.SetOf (strKind P w) p S n
def metS (ys : List Str) : Nat:=(metK (fun i=>ys.getD i Str.empty) ys.length).length
theorem metS_all {ys : List Str} (h : ys.Nodup) : metS ys = ys.length:=by
 refine metK_all _ _ fun i j hi hj e=>?_
 simp only [List.getD_eq_getElem?_getD,List.getElem?_eq_getElem hi,List.getElem?_eq_getElem hj,Option.getD_some] at e
 exact (List.getElem_inj h).mp e
section
variable {X : Cx}
theorem call_set_strs (hc : X.calm = true) : CallR X (.type "set") (fun xs H Q => ∃ (a : Addr) (ys : List Str), xs = [.ref a] ∧ SqL X.K H a (ys.map V.str) ∧ ys.length ≤ 70 ∧ ∀ p, H p = none → Q (.ref p) (upd H p (setHO X.prog X.w p (metS ys)))) := by
 intro pins s σ H xs us Q I r h
 obtain ⟨a,ys,e,hq,hl,q⟩:=h
 subst e
 obtain ⟨u,rfl,r1⟩:=vals1 r
 obtain rfl : u = Value.ref a:=r1
 obtain ⟨its,rv,p,hz⟩:=I.list hq
 have len:=rv.length
 rw [List.length_map] at len
 refine set_from (knd:=strKind X.prog X.w) (val:=fun i=>ys.getD i Str.empty) (I.ok.hd hc) p.isList (fun i v hv=>?_) (by rw [List.size_toArray,← len]; unfold scanBound; omega) fun h' tk hS hk=>?_
 ·have hv' : its[i]? = some v:=by simpa using hv
  have hi : i < ys.length:=by rw [len]; exact (List.getElem?_eq_some_iff.mp hv').1
  have hx : (ys.map V.str)[i]? = some (V.str (ys.getD i Str.empty)):=by
   rw [List.getElem?_map,List.getElem?_eq_getElem hi]
   simp [List.getD_eq_getElem?_getD,List.getElem?_eq_getElem hi]
  obtain ⟨u,hu,ru⟩:=rv.get hx
  rw [hv'] at hu
  cases hu
  obtain ⟨t,rfl⟩:=ru
  exact ⟨keyIs_str _ t,rfl⟩
 ·have es : its.toArray.size = ys.length:=by rw [List.size_toArray,len]
  rw [es] at hS
  have I1 : Inv X pins σ H { s with heap:=h',toks:=tk }:=I.kept fun b o e=>hk b o (Heap.lt_size e) e
  have I2:=I1.track (o:=setHO X.prog X.w s.heap.objs.size (metS ys)) (I.fpOk (Nat.le_refl _) (I.hok.fresh (Nat.le_refl _))) ⟨⟨_,hS⟩,(by obtain ⟨o,_,_,_,ho,_⟩:=hS; exact ⟨o,ho⟩),fun h1 h2 ⟨S,hS1⟩ k=>(by
   obtain ⟨o,es,ep,t,ho,more⟩:=hS1
   exact ⟨S,o,es,ep,t,k o ho,more⟩)⟩
  exact ⟨.ref s.heap.objs.size,_,I2,rfl,q _ (I.hok.fresh (Nat.le_refl _))⟩
theorem call_len_setS : CallR X (.builtin "len") (fun xs H Q => ∃ (p : Addr) (n : Nat), xs = [.ref p] ∧ H p = some (setHO X.prog X.w p n) ∧ Q (.int n) H) := by
 intro pins s σ H xs us Q I r h
 obtain ⟨p,n,e,hp,q⟩:=h
 subst e
 obtain ⟨u,rfl,r1⟩:=vals1 r
 obtain rfl : u = Value.ref p:=r1
 obtain ⟨⟨S,o,es,ep,t,ho,hex,hd,_,_,hb,hf,hn⟩,_⟩:=I.hok p _ hp
 have hb' : (es.size : Int) < 2 ^ 63:=by unfold scanBound at hb; omega
 refine call_len_set ho hex hd hf hb' ?_
 rw [hn]
 exact ⟨.int n,H,I.tok _,⟨_,rfl⟩,q⟩
def Itx (x : Str) : It:=⟨fun i _=>i < x.cps.size,fun i H v H'=>H' = H∧∃ c,x.cps[i]? = some c∧v = .str ⟨#[c]⟩,fun i _=>x.cps.size ≤ i⟩
theorem turn_str {P : Program} {w : World} {K : PySem.W.Frag} {tg : Expr} (it : Addr) (x : Str) (t : Tok) : Turn P w K tg (Itx x) [it] it (fun i h => i ≤ x.cps.size ∧ h.IsStrIter it "str_ascii_iterator" x t i) where
 mem:=by simp
 obj:=fun i h st b hb=>by
  have e : b = it:=by simpa using hb
  subst e
  obtain ⟨_,o,e,c,d⟩:=st
  exact ⟨o,e,fun v z=>by rw [d] at z; cases z⟩
 keep:=fun i h h' st k=>let ⟨l,o,e,r⟩:=st; ⟨l,o,k it (by simp) o e,r⟩
 item:=by
  intro X hP hw hK hc i pins s σ H E I hf st hg
  subst hP hw hK
  obtain ⟨f0,f1,f2,f3,f4,f5⟩:=hf it (by simp)
  have hi : i < x.cps.size:=hg
  refine (Walks.strAscii (prog:=X.prog) (w:=X.w) (I.ok.hd hc) it x t).item i s _ _ hi st.2 fun v h' tk hv st' kk=>?_
  obtain ⟨c,u,hcx,rfl⟩:=hv
  have I1 : Inv X pins σ H { s with heap:=h',toks:=tk }:=I.turned (fun b o hb e=>kk b o (by simpa using hb) e) f0 f1 f3 f4 f5
  obtain ⟨o,e,c',d⟩:=id st'
  exact ⟨_,rfl,go_of (s:={ s with heap:=h',toks:=tk }) e c' d (by decide) ⟨.str ⟨#[c]⟩,H,I1,⟨_,rfl⟩,⟨rfl,c,hcx,rfl⟩,⟨hi,st'⟩,fun b hb=>(hf b hb).1⟩⟩
 done:=by
  intro X hP hw hK hc i pins s σ H E I hf st hg
  subst hP hw hK
  obtain ⟨f0,f1,f2,f3,f4,f5⟩:=hf it (by simp)
  have hi : x.cps.size ≤ i:=hg
  obtain ⟨hle,st⟩:=st
  have e : i = x.cps.size:=by omega
  subst e
  exact (Walks.strAscii (prog:=X.prog) (w:=X.w) (I.ok.hd hc) it x t).done s _ _ st fun h' tk kk=>⟨rfl,I.turned (fun b o hb e=>kk b o (by simpa using hb) e) f0 f1 f3 f4 f5⟩
 self:=fun _ _ _ _ _ st h=>wpAny_pyIter_striter_ascii st.2 h
def iStr (tl : TE) : TI:=fun σ H R=>tl σ H fun v H1=>∃ x : Str,v = .str x∧x.cps.all (· < 128) = true∧R (Itx x) H1
theorem pi_str {tg l : Expr} {tl : TE} (hl : PE X l tl) : PI X tg l (iStr tl):=by
 intro pins s σ H R I h
 refine thn (hl pins s σ H _ I h) fun v s1 ⟨y,H1,I1,r1,q1⟩=>?_
 obtain ⟨x,e,ha,q⟩:=q1
 subst e
 obtain ⟨t,rfl⟩:=r1
 refine wpAny_pyIter_ascii ha ?_
 refine ⟨s1.heap.objs.size,[s1.heap.objs.size],_,_,H1,rfl,I1.kept (t':=s1.toks) fun b o e=>Heap.get?_push_of_some _ e,turn_str _ x t,⟨Nat.zero_le _,_,Heap.get?_push_size _ rfl,rfl,rfl⟩,fun b hb=>?_,q⟩
 have e : b = s1.heap.objs.size:=by simpa using hb
 subst e
 exact I1.fpOk (Nat.le_refl _) (I1.hok.fresh (Nat.le_refl _))
theorem comp_strP {g : Blk→TG} {tt : Blk→TT} {te : Blk→TE} {Z : List V→Hp→Prop} {σ0 : St} {H1 : Hp} {x : Str} (Pv : Nat→List V→St→Hp→Prop) (h0 : Pv 0 [] σ0 H1) (hl : ∀ i ys σ H,i ≤ x.cps.size→Pv i ys σ H→ys.length < sizeLine)
  (hs : ∀ B i c ys σ H,x.cps[i]? = some c→Pv i ys σ H→g B (.str ⟨#[c]⟩) σ H fun σ2 H3=>tt B σ2 H3 fun b H4=>if b = true then te B σ2 H4 fun y H5=>Pv (i + 1) (ys ++ [y]) σ2 H5 else Pv (i + 1) ys σ2 H4)
  (hd : ∀ ys σ H,Pv x.cps.size ys σ H→Z ys H) : ∃ W : Nat→Nat→List V→St→Hp→Prop,(∃ m,W 0 m [] σ0 H1)∧∀ B,CompW (Itx x) (g B) (tt B) (te B) W Z:=by
 refine ⟨fun i m ys σ H=>m = x.cps.size - i∧i ≤ x.cps.size∧Pv i ys σ H,⟨x.cps.size,by simp,Nat.zero_le _,h0⟩,?_⟩
 rintro B i m ys σ H ⟨rfl,hi,p⟩
 by_cases hlt : i < x.cps.size
 ·refine .inr ⟨hlt,hl i ys σ H hi p,Pv (i + 1),fun zs σ' H' p'=>⟨x.cps.size - (i + 1),by omega,rfl,hlt,p'⟩,fun v H' y=>?_⟩
  obtain ⟨e,c,hc,e2⟩:=y
  subst e e2
  exact hs B i c ys σ _ hc p
 ·have e : i = x.cps.size:=by omega
  subst e
  exact .inl ⟨Nat.le_refl _,hd ys σ H p⟩
theorem op_le_str : OpR X (compareOp .LtE) (fun x y H Q=>∃ i j,x = .str i∧y = .str j∧Q (.bl (!decide (j.cps.toList < i.cps.toList))) H):=by
 intro pins s σ H x y v u Q I rx ry h
 obtain ⟨i,j,rfl,rfl,q⟩:=h
 obtain ⟨t,rfl⟩:=rx
 obtain ⟨t',rfl⟩:=ry
 exact PySem.P.le_str ⟨.bl _,H,I,rfl,q⟩
end
def okSign (c : Nat) : Bool:=decide (97 ≤ c) && decide (c ≤ 122)
def okName (x : Str) : Bool:=decide (1 ≤ x.length) && decide (x.length ≤ 8) && x.cps.toList.all okSign
theorem le_one {c d : Nat} : (!decide (([d] : List Nat) < [c])) = decide (c ≤ d):=by
 have e : ([d] < [c]) ↔ d < c:=by
  constructor
  ·intro h
   cases h with
   | cons h=>cases h
   | rel h=>exact h
  ·exact fun h=>.rel h
 rw [Bool.eq_iff_iff,Bool.not_eq_true',decide_eq_false_iff_not,decide_eq_true_eq,e]
 omega
theorem okName_ascii {x : Str} (h : okName x = true) : x.cps.all (· < 128) = true:=by
 unfold okName at h
 rw [Bool.and_eq_true] at h
 rw [← Array.all_toList,List.all_eq_true]
 intro c hc
 have:=List.all_eq_true.mp h.2 c hc
 unfold okSign at this
 rw [Bool.and_eq_true,decide_eq_true_eq,decide_eq_true_eq] at this
 exact decide_eq_true (by omega)
end L2
namespace L2
open PySem PySem.Spec PyProof.Rows
structure NetV where
 bowls : List Str
 doors : List Str
 takes : List (List Int)
 gives : List (List Int)
 first : List Int
def okBag (n : Nat) (r : List Int) : Prop:=r.length = n∧∀ x ∈ r,0 ≤ x∧x ≤ 1000000000
structure NetV.Ok (N : NetV) : Prop where
 b1 : 1 ≤ N.bowls.length
 b6 : N.bowls.length ≤ 6
 d8 : N.doors.length ≤ 8
 bn : ∀ y ∈ N.bowls,okName y = true
 dn : ∀ y ∈ N.doors,okName y = true
 bd : N.bowls.Nodup
 dd : N.doors.Nodup
 tl : N.takes.length = N.doors.length
 gl : N.gives.length = N.doors.length
 tk : ∀ r ∈ N.takes,okBag N.bowls.length r
 gv : ∀ r ∈ N.gives,okBag N.bowls.length r
 fs : okBag N.bowls.length N.first
abbrev nf1 (b : V) : List (Str × V) := [("bowls", b)]
abbrev nf2 (b d : V) : List (Str × V) := [("bowls", b), ("doors", d)]
abbrev nf3 (b d t : V) : List (Str × V) := [("bowls", b), ("doors", d), ("takes", t)]
abbrev nf4 (b d t g : V) : List (Str × V) := [("bowls", b), ("doors", d), ("takes", t), ("gives", g)]
abbrev nf5 (b d t g f : V) : List (Str × V) := [("bowls", b), ("doors", d), ("takes", t), ("gives", g), ("first", f)]
abbrev netF (b d t g f : Addr) : List (Str × V):=nf5 (.ref b) (.ref d) (.ref t) (.ref g) (.ref f)
abbrev vstrs (ys : List Str) : List V:=ys.map V.str
structure NetIn (C : Addr) (H : Hp) (x dx b d t g f : Addr) (ts gs : List Addr) (N : NetV) : Prop where
 ob : H x = some (.ins C dx (netF b d t g f))
 hb : H b = some (.lst (vstrs N.bowls))
 hd : H d = some (.lst (vstrs N.doors))
 ht : H t = some (.lst (ts.map V.ref))
 tr : Rows H ts N.takes
 hg : H g = some (.lst (gs.map V.ref))
 gr : Rows H gs N.gives
 hf : H f = some (.lst (vints N.first))
theorem NetIn.same {C : Addr} {H H' : Hp} {x dx b d t g f : Addr} {ts gs : List Addr} {N : NetV} (n : NetIn C H x dx b d t g f ts gs N) (S : Same H H') : NetIn C H' x dx b d t g f ts gs N :=
 ⟨S _ _ n.ob,S _ _ n.hb,S _ _ n.hd,S _ _ n.ht,n.tr.same S,S _ _ n.hg,n.gr.same S,S _ _ n.hf⟩
theorem comp_copies {K : PySem.W.Frag} {K' : Blk→PySem.W.Frag} {Z : List V→Hp→Prop} {H1 : Hp} {a : Addr} {as : List Addr} {rs : List (List Int)} {τ : St} (hK : ∀ B,K' B = K) (ha : SqL K H1 a (as.map V.ref)) (R : Rows H1 as rs) (hn : rs.length ≤ 64)
  (hd : ∀ H2 bs,Same H1 H2→Rows H2 bs rs→(∀ b ∈ bs,H1 b = none)→Z (bs.map V.ref) H2) :
  ∃ W : Nat→Nat→List V→St→Hp→Prop,(∃ m,W 0 m [] (none :: τ) H1)∧∀ B : Blk,CompW (Itl K a) (gName 0) tTrue (tCB (rLstOf (K' B)) (tCons (tVar 0) tNil)) W Z:=by
 have hal:=R.length
 refine comp_listP (g:=fun _=>gName 0) (tt:=fun _=>tTrue) (K:=K) (a:=a) (xs:=as.map V.ref) (fun i zs σ H4=>∃ (o : Option V) (bs : List Addr),σ = o :: τ∧Same H1 H4∧zs = bs.map V.ref∧Rows H4 bs (rs.take i)∧bs.length = i∧∀ b ∈ bs,H1 b = none) ⟨none,[],rfl,Same.refl _,rfl,.nil,rfl,(fun b hb=>by cases hb)⟩ ?_ ?_ ?_
 ·rintro i zs σ H4 hi ⟨o,bs,rfl,S,rfl,RB,e,_⟩
  rw [List.length_map] at hi
  refine ⟨S.seq ha,?_⟩
  rw [List.length_map]
  exact small70 (by omega)
 ·rintro B i x zs σ H4 hx ⟨o,bs,rfl,S,rfl,RB,e,fr⟩
  obtain ⟨b,hb1,rfl⟩:=refs_get hx
  obtain ⟨r,hr1,hb⟩:=Paired.getL R hb1
  try dsimp only [gName,tTrue]
  rw [if_pos rfl]
  refine ⟨_,rfl,b,_,rfl,.inl (by rw [hK]; exact SqL.of (S _ _ hb)),fun q nq=>⟨_,bs ++ [q],rfl,S.upd nq,(vrefs_snoc _ _).symm,?_,(by rw [List.length_append,e]; rfl),fun c hc=>?_⟩⟩
  ·rw [List.take_add_one,hr1,Option.toList_some]
   exact (RB.same ((Same.refl H4).upd nq)).snoc upd_same
  ·rcases List.mem_append.mp hc with z | z
   ·exact fr c z
   ·rw [List.mem_singleton.mp z]; exact S.free nq
 ·rintro zs σ H4 ⟨o,bs,rfl,S,rfl,RB,e,fr⟩
  rw [List.length_map,hal,List.take_length] at RB
  exact hd H4 bs S RB fr
theorem all_map_sign (x : Str) : (x.cps.toList.map okSign).all id = x.cps.toList.all okSign:=by
 rw [List.all_map]
 rfl
end L2
namespace L2
open PySem PySem.Spec PyProof.Rows
section
variable {b d t g f : V}
theorem put_n2 : putF "doors" d (nf1 b) = nf2 b d := by
 show (if (("bowls" : Str) = "doors") then _ else (("bowls" : Str), b) :: putF "doors" d []) = _
 rw [if_neg (by decide +kernel)]
 rfl
theorem put_n3 : putF "takes" t (nf2 b d) = nf3 b d t := by
 show (if (("bowls" : Str) = "takes") then _ else (("bowls" : Str), b) :: (if (("doors" : Str) = "takes") then _ else (("doors" : Str), d) :: putF "takes" t [])) = _
 rw [if_neg (by decide +kernel),if_neg (by decide +kernel)]
 rfl
theorem put_n4 : putF "gives" g (nf3 b d t) = nf4 b d t g := by
 show (if (("bowls" : Str) = "gives") then _ else (("bowls" : Str), b) :: (if (("doors" : Str) = "gives") then _ else (("doors" : Str), d) :: (if (("takes" : Str) = "gives") then _ else (("takes" : Str), t) :: putF "gives" g []))) = _
 rw [if_neg (by decide +kernel),if_neg (by decide +kernel),if_neg (by decide +kernel)]
 rfl
theorem put_n5 : putF "first" f (nf4 b d t g) = nf5 b d t g f := by
 show (if (("bowls" : Str) = "first") then _ else (("bowls" : Str), b) :: (if (("doors" : Str) = "first") then _ else (("doors" : Str), d) :: (if (("takes" : Str) = "first") then _ else (("takes" : Str), t) :: (if (("gives" : Str) = "first") then _ else (("gives" : Str), g) :: putF "first" f [])))) = _
 rw [if_neg (by decide +kernel),if_neg (by decide +kernel),if_neg (by decide +kernel),if_neg (by decide +kernel)]
 rfl
end
def But (x : Addr) (H H' : Hp) : Prop:=∀ c u,H c = some u→c ≠ x→H' c = some u
theorem But.trans {x : Addr} {H H1 H2 : Hp} (a : But x H H1) (b : But x H1 H2) : But x H H2:=fun c u e n=>b c u (a c u e n) n
theorem Same.but {x : Addr} {H H' : Hp} (S : Same H H') : But x H H':=fun c u e _=>S c u e
theorem But.step {x q : Addr} {H : Hp} {o o' : HO} (hq : H q = none) : But x H (upd (upd H q o) x o'):=fun c u e n=>by
 rw [upd_ne n,upd_ne (ne_of_none e hq)]
 exact e
theorem But.seq {K : PySem.W.Frag} {x : Addr} {C dx : Addr} {fs : List (Str × V)} {H H' : Hp} {c : Addr} {zs : List V} (k : But x H H') (hx : H x = some (.ins C dx fs)) (h : SqL K H c zs) : SqL K H' c zs:=by
 rcases h with (h | ⟨o,h⟩) | h
 ·exact .inl (.inl (k _ _ h (ne_of h hx (by intro z; cases z))))
 ·exact .inl (.inr ⟨o,k _ _ h (ne_of h hx (by intro z; cases z))⟩)
 ·exact .inr h
theorem But.rows {x : Addr} {C dx : Addr} {fs : List (Str × V)} {H H' : Hp} {as : List Addr} {rs : List (List Int)} (k : But x H H') (hx : H x = some (.ins C dx fs)) (R : Rows H as rs) : Rows H' as rs :=
 Paired.mapP R fun a r e=>k _ _ e (ne_of e hx (by intro z; cases z))
theorem But.free {x : Addr} {C dx : Addr} {fs : List (Str × V)} {H H' : Hp} {q : Addr} {o : HO} (k : But x H H') (hx : H' x = some o) (hq : H' q = none) : H q = none:=by
 cases e : H q with
 | none=>rfl
 | some u =>
  have n : q ≠ x:=Ne.symm (ne_of_none hx hq)
  rw [k q u e n] at hq
  cases hq
end L2
namespace L2
open PySem PySem.Spec PyProof.Rows PySem.Builtin.Str
section
variable {X : Cx}
end
def st (l : List Nat) : Str:=⟨l.toArray⟩
end L2
namespace L2
open PySem PySem.Spec PyProof.Rows
end L2
namespace L2
open PySem PySem.Spec PyProof.Rows
structure InsOk (K : PySem.W.Frag) (C : Addr) : Prop where
 ha : PySem.W.findIn K (.ref C) "__class__" = some (some (.builtin "object.__class__"))
 hn : PySem.W.specialIn K (.builtin "object.__class__") "__get__" = some (some (.builtin "getset_descriptor.__get__"))
 htk : PySem.W.takesIn K (.builtin "object.__class__") = some true
 hm : PySem.W.mroIn K C (.type "object") = some true
theorem InsOk.ty {K : PySem.W.Frag} {C : Addr} (i : InsOk K C) (cl : Cls K C) {H : Hp} {a dx : Addr} {fs : List (Str × V)} (e : H a = some (.ins C dx fs)) : TyOf K H (.ref a) (.ref C):=.ins e cl i.ha i.hn i.htk i.hm
structure PartsIn (H : Hp) (p b d t g f : Addr) (ts gs : List Addr) (N : NetV) : Prop where
 top : H p = some (.lst [.ref b,.ref d,.ref t,.ref g,.ref f])
 hb : H b = some (.lst (vstrs N.bowls))
 hd : H d = some (.lst (vstrs N.doors))
 ht : H t = some (.lst (ts.map V.ref))
 tr : Rows H ts N.takes
 hg : H g = some (.lst (gs.map V.ref))
 gr : Rows H gs N.gives
 hf : H f = some (.lst (vints N.first))
theorem PartsIn.same {H H' : Hp} {p b d t g f : Addr} {ts gs : List Addr} {N : NetV} (n : PartsIn H p b d t g f ts gs N) (S : Same H H') : PartsIn H' p b d t g f ts gs N :=
 ⟨S _ _ n.top,S _ _ n.hb,S _ _ n.hd,S _ _ n.ht,n.tr.same S,S _ _ n.hg,n.gr.same S,S _ _ n.hf⟩
theorem Rows.get : ∀ {H : Hp} {as : List Addr} {rs : List (List Int)} {i : Nat},Rows H as rs→(h : i < rs.length)→∃ a,as[i]? = some a∧H a = some (.lst (vints (rs[i])))
 | _,_,_,0,.cons r _,_=>⟨_,rfl,r⟩
 | H,_,_,i + 1,.cons _ rs,h=>Rows.get (H:=H) (i:=i) rs (Nat.lt_of_succ_lt_succ h)
theorem rows_at {H : Hp} {as : List Addr} {rs : List (List Int)} {i : Nat} (R : Rows H as rs) (h : i < rs.length) : ∃ a,atI (as.map V.ref) (i : Int) = some (.ref a)∧H a = some (.lst (vints (rs[i]))):=by
 obtain ⟨a,e,ha⟩:=Rows.get R h
 refine ⟨a,atI_nat ?_,ha⟩
 rw [List.getElem?_map,e]
 rfl
theorem getD_at {xs : List Int} {k : Nat} (h : k < xs.length) : xs.getD k 0 = xs[k]:=by
 rw [List.getD_eq_getElem?_getD,List.getElem?_eq_getElem h]
 rfl
end L2
namespace L2
open PySem PySem.Spec PyProof.Rows
structure CompScopeC (osc : Scope) (N : List Str) (scope : Scope) (N' : List Str) (nt : Nat) (caps : List Nat) : Prop where
 kind : scope.kind = .function
 cells : ∀ y ∈ scope.names,y.2 = .cell→scope.names.lookup y.1 = some .cell
 names : ∀ y ∈ scope.names,y.2 = .local→scope.names.lookup y.1 = some .local
 frees : ∀ y ∈ scope.names,y.2 = .free→osc.names.lookup y.1 = some .cell ∨ osc.names.lookup y.1 = some .free
 capt : caps.map (fun j=>N[j]?) = (N'.drop nt).map some
 capf : ∀ x ∈ N'.drop nt,scope.names.lookup x = some .free
 len : nt ≤ N'.length
 nd : N'.Nodup
def compOkC (osc : Scope) (N : List Str) (scope : Scope) (N' : List Str) (nt : Nat) (caps : List Nat) : Bool :=
 decide (scope.kind = .function) && decide (∀ y ∈ scope.names,y.2 = .cell→scope.names.lookup y.1 = some .cell) && decide (∀ y ∈ scope.names,y.2 = .local→scope.names.lookup y.1 = some .local) &&
 decide (∀ y ∈ scope.names,y.2 = .free→osc.names.lookup y.1 = some .cell ∨ osc.names.lookup y.1 = some .free) && decide (caps.map (fun j=>N[j]?) = (N'.drop nt).map some) &&
 decide (∀ x ∈ N'.drop nt,scope.names.lookup x = some .free) && decide (nt ≤ N'.length) && decide N'.Nodup
theorem CompScopeC.of {osc : Scope} {N : List Str} {scope : Scope} {N' : List Str} {nt : Nat} {caps : List Nat} (h : compOkC osc N scope N' nt caps = true) : CompScopeC osc N scope N' nt caps:=by
 unfold compOkC at h
 simp only [Bool.and_eq_true,decide_eq_true_eq] at h
 obtain ⟨⟨⟨⟨⟨⟨⟨a,b⟩,c⟩,d⟩,e⟩,f⟩,g⟩,i⟩:=h
 exact ⟨a,b,c,d,e,f,g,i⟩
abbrev cellsC (X : Cx) (scope : Scope) (C : Addr) : List (Str × Addr):=cellsFrom (C + 1) scope.names (closL X.env scope.names [])
def cxCompC (X : Cx) (N' : List Str) (scope : Scope) (B : Blk) : Cx :=
 { X with N:=N',s₀:=B.s,H₀:=B.H,env:=compEnvC scope (cellsC X scope B.C) B.C X.env,outer:=X.stack,ex:=B.fp,fn:=fun x=>decide (scope.names.lookup x = some .cell),xe:=fun _ _=>False }
section
variable {X : Cx} {pins : List (Addr × Obj)} {σ : St} {H : Hp} {s₂ : Shared} {scope : Scope} {N' : List Str} {nt : Nat} {caps : List Nat} {fp : List Addr} {C : Addr}
end
section
variable {X : Cx} {pins : List (Addr × Obj)} {σ : St} {H : Hp} {s₂ : Shared} {scope : Scope} {N' : List Str} {nt : Nat} {caps : List Nat} {tg elt iter : Expr} {ifs : List Expr} {pos : Pos} {g : Blk→TG} {tt : Blk→TT} {te : Blk→TE}
end
end L2
namespace L2
open PySem PySem.Spec PyProof.Rows
section
variable {X : Cx}
end
end L2
namespace L2
open PySem PySem.Spec PyProof.Rows SeqAt
section
variable {X : Cx} {pins : List (Addr × Obj)} {σ : St} {H : Hp} {s : Shared} {A : Around} {a b : Addr}
theorem flat_int (ys : List Int) : ∀ x ∈ vints ys,flatV x = true∧eqV x x = true:=fun x hx=>by
 obtain ⟨y,_,rfl⟩:=List.mem_map.mp hx
 exact ⟨rfl,beq_self_eq_true y⟩
theorem in1_units {A : Around} : A.in1.units = A.units + 1:=by
 first | rfl | (simp [Around.in1,Around.units])
end
theorem hu2_of {A : Around} {k : Nat} (hr : Room k A) : A.units + 2 < cLine:=Nat.lt_of_le_of_lt (Nat.add_le_add_left (by decide : 2 ≤ 64) _) hr.units
def ButL (A : List Addr) (H H' : Hp) : Prop:=∀ c u,H c = some u→c ∉ A→H' c = some u
theorem ButL.refl {A : List Addr} {H : Hp} : ButL A H H:=fun _ _ e _=>e
theorem ButL.trans {A : List Addr} {H H1 H2 : Hp} (a : ButL A H H1) (b : ButL A H1 H2) : ButL A H H2:=fun c u e n=>b c u (a c u e n) n
theorem ButL.upd {A : List Addr} {H H' : Hp} (k : ButL A H H') {x : Addr} {o : HO} (hx : x ∈ A) : ButL A H (upd H' x o):=fun c u e n=>by
 have hc : c ≠ x:=fun z=>n (by rw [z]; exact hx)
 rw [upd_ne hc]
 exact k c u e n
theorem ButL.rows {A : List Addr} {H H' : Hp} (k : ButL A H H') : ∀ {as : List Addr} {rs : List (List Int)},Rows H as rs→(∀ a ∈ as,a ∉ A)→Rows H' as rs
 | _,_,.nil,_=>.nil
 | _,_,.cons e r,h=>.cons (k _ _ e (h _ (List.mem_cons_self ..))) (ButL.rows k r fun a ha=>h a (List.mem_cons_of_mem _ ha))
theorem ButL.parts {A : List Addr} {H H' : Hp} {p b d t g f : Addr} {ts gs : List Addr} {N : NetV} (k : ButL A H H') (P : PartsIn H p b d t g f ts gs N) (h : ∀ a ∈ [p,b,d,t,g,f] ++ ts ++ gs,a ∉ A) : PartsIn H' p b d t g f ts gs N:=by
 have m : ∀ a ∈ [p,b,d,t,g,f],a ∉ A:=fun a ha=>h a (List.mem_append_left _ (List.mem_append_left _ ha))
 exact ⟨k _ _ P.top (m _ (by simp)),k _ _ P.hb (m _ (by simp)),k _ _ P.hd (m _ (by simp)),k _ _ P.ht (m _ (by simp)),k.rows P.tr fun a ha=>h a (List.mem_append_left _ (List.mem_append_right _ ha)),k _ _ P.hg (m _ (by simp)),k.rows P.gr fun a ha=>h a (List.mem_append_right _ ha),k _ _ P.hf (m _ (by simp))⟩
theorem ButL.net {A : List Addr} {C : Addr} {H H' : Hp} {x dx b d t g f : Addr} {ts gs : List Addr} {N : NetV} (k : ButL A H H') (P : NetIn C H x dx b d t g f ts gs N) (h : ∀ a ∈ [x,b,d,t,g,f] ++ ts ++ gs,a ∉ A) : NetIn C H' x dx b d t g f ts gs N:=by
 have m : ∀ a ∈ [x,b,d,t,g,f],a ∉ A:=fun a ha=>h a (List.mem_append_left _ (List.mem_append_left _ ha))
 exact ⟨k _ _ P.ob (m _ (by simp)),k _ _ P.hb (m _ (by simp)),k _ _ P.hd (m _ (by simp)),k _ _ P.ht (m _ (by simp)),k.rows P.tr fun a ha=>h a (List.mem_append_left _ (List.mem_append_right _ ha)),k _ _ P.hg (m _ (by simp)),k.rows P.gr fun a ha=>h a (List.mem_append_right _ ha),k _ _ P.hf (m _ (by simp))⟩
theorem Rows.memE {H : Hp} : ∀ {as : List Addr} {rs : List (List Int)},Rows H as rs→∀ a ∈ as,∃ r ∈ rs,H a = some (.lst (vints r))
 | _,_,.nil,a,h=>nomatch h
 | _,_,.cons (b:=r) e R,a,h=>by
  rcases List.mem_cons.mp h with q | q
  ·subst q; exact ⟨r,List.mem_cons_self ..,e⟩
  ·obtain ⟨r',h1,h2⟩:=Rows.memE R a q
   exact ⟨r',List.mem_cons_of_mem _ h1,h2⟩
theorem PartsIn.has {H : Hp} {p b d t g f : Addr} {ts gs : List Addr} {N : NetV} (P : PartsIn H p b d t g f ts gs N) : ∀ a ∈ [p,b,d,t,g,f] ++ ts ++ gs,∃ o,H a = some o:=by
 intro a ha
 rcases List.mem_append.mp ha with ha | ha
 ·rcases List.mem_append.mp ha with ha | ha
  ·simp only [List.mem_cons,List.not_mem_nil,or_false] at ha
   rcases ha with rfl | rfl | rfl | rfl | rfl | rfl
   ·exact ⟨_,P.top⟩
   ·exact ⟨_,P.hb⟩
   ·exact ⟨_,P.hd⟩
   ·exact ⟨_,P.ht⟩
   ·exact ⟨_,P.hg⟩
   ·exact ⟨_,P.hf⟩
  ·obtain ⟨r,_,e⟩:=P.tr.memE a ha; exact ⟨_,e⟩
 ·obtain ⟨r,_,e⟩:=P.gr.memE a ha; exact ⟨_,e⟩
theorem Rows.rev {H : Hp} : ∀ {as : List Addr} {rs : List (List Int)},Rows H as rs→Rows H as.reverse rs.reverse
 | _,_,.nil=>.nil
 | _,_,.cons e R=>by
  rw [List.reverse_cons,List.reverse_cons]
  exact (Rows.rev R).snoc e
theorem ButL.seq {A : List Addr} {K : PySem.W.Frag} {H H' : Hp} {a : Addr} {xs : List V} (k : ButL A H H') (h : SqL K H a xs) (n : ∀ u,H a = some u→a ∉ A) : SqL K H' a xs:=by
 rcases h with (h | ⟨o,h⟩) | h
 ·exact .inl (.inl (k _ _ h (n _ h)))
 ·exact .inl (.inr ⟨o,k _ _ h (n _ h)⟩)
 ·exact .inr h
def Lsts (H : Hp) (n : Nat) (A : List Addr) : Prop:=∀ a ∈ A,∃ xs,H a = some (.lst xs)∧xs.length ≤ n
theorem Lsts.upd {H : Hp} {n m : Nat} {A : List Addr} (h : Lsts H n A) {x : Addr} {ys : List V} (hl : ys.length ≤ m) (hm : n ≤ m) : Lsts (upd H x (.lst ys)) m A:=fun a ha=>by
 by_cases e : a = x
 ·subst e; exact ⟨ys,upd_same,hl⟩
 ·obtain ⟨xs,h1,h2⟩:=h a ha
  exact ⟨xs,by rw [upd_ne e]; exact h1,Nat.le_trans h2 hm⟩
theorem Lsts.same {H H' : Hp} {n : Nat} {A : List Addr} (h : Lsts H n A) (S : Same H H') : Lsts H' n A:=fun a ha=>let ⟨xs,h1,h2⟩:=h a ha; ⟨xs,S _ _ h1,h2⟩
end L2
namespace L2
open PySem PySem.Spec PyProof.Rows
abbrev TJ:=Str→St→Hp→(Str→Hp→Prop)→Prop
section
variable {X : Cx} {e : Expr} {es : List Expr} {te : TE} {tr : TJ}
end
end L2
namespace L2
open PySem PySem.Spec PyProof.Rows
def Ite (K : PySem.W.Frag) (a : Addr) : It where
 go i H:=∃ xs x,SqL K H a xs∧xs[i]? = some x
 yld i H v H':=∃ p x,H p = none∧v = .ref p∧H' = upd H p (.tup [.int (i : Nat),x])∧∀ xs,SqL K H a xs→xs[i]? = some x
 stop i H:=∃ xs,SqL K H a xs∧xs.length ≤ i
theorem turn_enum {P : Program} {w : World} {K : PySem.W.Frag} {elts : List Expr} {kx} {tpos : Pos} {e it a : Addr} (hne : e ≠ it) : Turn P w K (.Tuple elts kx tpos) (Ite K a) [e,it] e
  (fun i h=>(∃ old,IsEnum h e it (i : Nat) old)∧h.IsListIter it a i) where
 mem:=by simp
 obj:=fun i h st c hc=>by
  obtain ⟨⟨old,he⟩,⟨o1,e1,_,d1⟩⟩:=st
  simp only [List.mem_cons,List.not_mem_nil,or_false] at hc
  rcases hc with rfl | rfl
  ·exact ⟨_,he,fun v q=>by cases q⟩
  ·exact ⟨_,e1,fun v q=>by rw [d1] at q; cases q⟩
 keep:=fun i h h' st k=>by
  obtain ⟨⟨old,he⟩,h1⟩:=st
  exact ⟨⟨old,k e (by simp) _ he⟩,h1.at fun o q=>k it (by simp) o q⟩
 item:=by
  intro X hP hw hK hc i pins s σ H E I hf st hg
  subst hP hw hK
  obtain ⟨xs,x,qa,hx⟩:=hg
  obtain ⟨its1,rv1,p1,z1⟩:=I.list qa
  obtain ⟨u1,hu1,ru1⟩:=rv1.get hx
  obtain ⟨⟨old,he⟩,h1⟩:=st
  refine wpAny_pyNext_enum_item he h1 p1.isList (x:=u1) (by simpa using hu1) hne fun h' a1 a2 a3 a4 hk=>?_
  refine ⟨_,rfl,wpAny_letOwnedTupleGo_enum a1 fun h'' he'' sb=>?_⟩
  have elt:=Heap.lt_size he
  have pz : s.heap.objs.size ≠ e:=Nat.ne_of_gt elt
  have hfr:=I.hok.fresh (Nat.le_refl s.heap.objs.size)
  have I1 : Inv X pins σ H { s with heap:=h'',toks:=s.toks + 1 }:=I.turnedL (t':=s.toks + 1) (ch:=[e,it]) (fun c o hb q=>by
   simp only [List.mem_cons,List.not_mem_nil,or_false,not_or] at hb
   exact sb.extBut c o hb.1 (hk c o hb.1 hb.2 q)) (fun c hb=>hf c hb)
  have hp : h''.get? s.heap.objs.size = some { cls := .type "tuple", data := .seq #[.int i s.toks, u1] } := sb.extBut _ _ pz a3
  have I2 : Inv X pins σ (upd H s.heap.objs.size (.tup [.int (i : Nat),x])) { s with heap:=h'',toks:=s.toks + 1 }:=I1.track (I.fpOk (Nat.le_refl _) hfr) ⟨by show 2 ≤ sizeLine; decide,[.int i s.toks,u1],.cons ⟨_,rfl⟩ (.cons ru1 .nil),⟨_,hp,rfl,_,rfl⟩⟩
  refine ⟨.ref s.heap.objs.size,_,I2,rfl,⟨_,x,hfr,rfl,rfl,fun xs' q=>by rw [I.list_inj q qa]; exact hx⟩,⟨⟨_,he''⟩,a2.extBut sb.extBut (Ne.symm hne)⟩,fun c hb=>?_⟩
  rw [upd_ne (fun q=>?_)]
  ·exact (hf c hb).1
  ·have hlt : c < s.heap.objs.size:=by
    obtain ⟨o1,e1,_⟩:=h1
    simp only [List.mem_cons,List.not_mem_nil,or_false] at hb
    rcases hb with rfl | rfl
    ·exact Heap.lt_size he
    ·exact Heap.lt_size e1
   rw [q] at hlt
   exact Nat.lt_irrefl _ hlt
 done:=by
  intro X hP hw hK hc i pins s σ H E I hf st hg
  subst hP hw hK
  obtain ⟨xs,qa,hend⟩:=hg
  obtain ⟨its1,rv1,p1,z1⟩:=I.list qa
  obtain ⟨⟨old,he⟩,h1⟩:=st
  have l1:=rv1.length
  refine wpAny_pyNext_enum_end (I.ok.hd hc) he h1 p1.isList (by simp; omega) fun h' hk=>⟨rfl,?_⟩
  exact I.turnedL (t':=s.toks) (ch:=[it]) (fun c o hb q=>hk c o (fun z=>hb (by simp [z])) q) (fun c hb=>hf c (by
   have z : c = it:=by simpa using hb
   rw [z]; simp))
 self:=fun _ _ _ _ _ st h=>let ⟨⟨_,he⟩,_⟩:=st; wpAny_pyIter_enum he h
section
variable {X : Cx}
def iEnum (K : PySem.W.Frag) (ta : TA) : TI:=fun σ H R=>ta σ H fun vs H1=>∃ a xs,vs = [.ref a]∧SqL K H1 a xs∧R (Ite K a) H1
theorem pi_enum {ea : Expr} {ta : TA} {elts : List Expr} {kx} {tpos p pos : Pos} (hg : Gl X "enumerate") (hm : X.mg "enumerate" = none) (ha : PA X [ea] ta) (hs : starEach [ea] X.env = [(false, eval ea X.env)] := by rfl) :
  PI X (.Tuple elts kx tpos) (.Call (.Name "enumerate" p) [ea] [] pos) (iEnum X.K ta) := by
 intro pins s σ H R I h
 refine Call_ (ld_blt I hg hm (by rfl : bootBuiltins "enumerate" = some (.type "enumerate")) (PyProof.Rows.callWith_type1 (thn (ha pos pins s σ H _ I h) fun us s1 ⟨vs, H1, I1, r1, q1⟩ => ?_) hs rfl))
 obtain ⟨a,xs,e,qa,q⟩:=q1
 subst e
 cases r1 with
 | cons r rr =>
  cases rr
  cases r
  obtain ⟨its1,rv1,p1,z1⟩:=I1.list qa
  refine call_enumerate_list p1.isList fun h' he h1 hsz hk=>wpAny_pyIter_enum he ?_
  refine ⟨s1.heap.objs.size + 1,[s1.heap.objs.size + 1,s1.heap.objs.size],_,_,H1,rfl,I1.kept (t':=s1.toks) hk,turn_enum (Nat.ne_of_gt (Nat.lt_succ_self _)),⟨⟨_,he⟩,h1⟩,fun c hb=>?_,q⟩
  have hle : s1.heap.objs.size ≤ c:=by
   simp only [List.mem_cons,List.not_mem_nil,or_false] at hb
   rcases hb with q | q
   ·rw [q]; exact Nat.le_add_right _ _
   ·rw [q]; exact Nat.le_refl _
  exact I1.fpOk hle (I1.hok.fresh hle)
end
theorem for_enum {K : PySem.W.Frag} {g : TG} {a : Addr} {xs : List V} {tb : TS} {D : Ends} {σ : St} {H : Hp} (Pv : Nat→St→Hp→Prop) (h0 : Pv 0 σ H) (hl : ∀ i σ H,i ≤ xs.length→Pv i σ H→SqL K H a xs)
  (hs : ∀ i x p σ H,xs[i]? = some x→Pv i σ H→H p = none→g (.ref p) σ (upd H p (.tup [.int (i : Nat),x])) fun σ2 H2=>tb { D with nx:=Pv (i + 1),ct:=Pv (i + 1),bk:=D.nx } σ2 H2) (hd : ∀ σ H,Pv xs.length σ H→D.nx σ H) :
  ∃ W : Nat→Nat→St→Hp→Prop,(∃ m,W 0 m σ H)∧∀ i m σ H,W i m σ H →
   ((Ite K a).stop i H∧D.nx σ H) ∨ ((Ite K a).go i H∧∃ N : St→Hp→Prop,(∀ σ' H',N σ' H'→∃ m',m' < m∧W (i + 1) m' σ' H')∧∀ x H',(Ite K a).yld i H x H'→g x σ H' fun σ2 H2=>tb { D with nx:=N,ct:=N,bk:=D.nx } σ2 H2):=by
 refine ⟨fun i m σ H=>m = xs.length - i∧i ≤ xs.length∧Pv i σ H,⟨xs.length,by simp,Nat.zero_le _,h0⟩,?_⟩
 rintro i m σ H ⟨rfl,hi,p⟩
 have qa:=hl i σ H hi p
 by_cases hlt : i < xs.length
 ·refine .inr ⟨⟨xs,xs[i],qa,by simp [hlt]⟩,Pv (i + 1),fun σ' H' p'=>⟨xs.length - (i + 1),by omega,rfl,hlt,p'⟩,fun v H' y=>?_⟩
  obtain ⟨q,x,hq,e1,e2,hx⟩:=y
  subst e1 e2
  exact hs i x q σ H (hx xs qa) p hq
 ·have e : i = xs.length:=by omega
  subst e
  exact .inl ⟨⟨xs,qa,Nat.le_refl _⟩,hd σ H p⟩
end L2
namespace L2
open PySem PySem.Spec PyProof.Rows SeqAt
section
variable {X : Cx}
theorem hu0_of {A : Around} {k : Nat} (hr : Room k A) : A.units < cLine:=hr.units0
end
end L2
namespace L2
open PySem PySem.Spec PyProof.Rows SeqAt
def Itv (K : PySem.W.Frag) (a : Addr) (xs : List V) : It :=
 ⟨fun i H=>SqL K H a xs∧i < xs.length,fun i H x H'=>H' = H∧xs.reverse[i]? = some x,fun i H=>SqL K H a xs∧xs.length ≤ i⟩
theorem turn_rev {P : Program} {w : World} {K : PySem.W.Frag} {tg : Expr} (a it : Addr) (xs : List V) : Turn P w K tg (Itv K a xs) [it] it (fun i h=>i ≤ xs.length∧h.IsRevIter it a ((xs.length : Int) - 1 - (i : Int))) where
 mem:=by simp
 obj:=fun i h st b hb=>by
  have e : b = it:=by simpa using hb
  subst e
  obtain ⟨_,o,e,c,d⟩:=st
  exact ⟨o,e,fun v z=>by rw [d] at z; cases z⟩
 keep:=fun i h h' st k=>⟨st.1,st.2.at fun o e=>k it (by simp) o e⟩
 item:=by
  intro X hP hw hK hc i pins s σ H E I hf st hg
  subst hP hw hK
  obtain ⟨hq,hi⟩:=hg
  obtain ⟨its,rv,p,hz⟩:=I.list hq
  have hl:=rv.length
  obtain ⟨f0,f1,f2,f3,f4,f5⟩:=hf it (by simp)
  obtain ⟨_,st⟩:=st
  have e : (xs.length : Int) - 1 - (i : Int) = ((xs.length - 1 - i : Nat) : Int):=by omega
  rw [e] at st
  have hx : xs[xs.length - 1 - i]? = some (xs[xs.length - 1 - i]'(by omega)):=List.getElem?_eq_getElem (by omega)
  obtain ⟨u,hu,ru⟩:=rv.get hx
  refine wpAny_pyNext_rev_item st p.isList (x:=u) (by simpa using hu) fun h' st' sb=>?_
  have I1 : Inv X pins σ H { s with heap:=h' }:=I.turned (t':=s.toks) (fun b o hb e=>(sb.2 b hb).trans e) f0 f1 f3 f4 f5
  have e2 : ((xs.length - 1 - i : Nat) : Int) - 1 = (xs.length : Int) - 1 - ((i + 1 : Nat) : Int):=by omega
  rw [e2] at st'
  obtain ⟨o,e,c,d⟩:=id st'
  exact ⟨u,rfl,go_of (s:={ s with heap:=h' }) e c d (by decide) ⟨_,H,I1,ru,⟨rfl,by rw [List.getElem?_reverse hi]; exact hx⟩,⟨hi,st'⟩,fun b hb=>(hf b hb).1⟩⟩
 done:=by
  intro X hP hw hK hc i pins s σ H E I hf st hg
  subst hP hw hK
  obtain ⟨hq,hx⟩:=hg
  obtain ⟨f0,f1,f2,f3,f4,f5⟩:=hf it (by simp)
  obtain ⟨hle,st⟩:=st
  have e : (xs.length : Int) - 1 - (i : Int) = -1:=by omega
  rw [e] at st
  exact wpAny_pyNext_rev_end (I.ok.hd hc) st fun h' eb=>⟨rfl,I.turned (t':=s.toks) (fun b o hb e=>eb b o hb e) f0 f1 f3 f4 f5⟩
 self:=fun _ _ _ _ _ st h=>wpAny_pyIter_revIter st.2 h
section
variable {X : Cx}
def iRev (K : PySem.W.Frag) (ta : TA) : TI:=fun σ H R=>ta σ H fun vs H1=>∃ a xs,vs = [.ref a]∧SqL K H1 a xs∧R (Itv K a xs) H1
theorem pi_rev {tg ea : Expr} {ta : TA} {p pos : Pos} (hg : Gl X "reversed") (hm : X.mg "reversed" = none) (ha : PA X [ea] ta) (hs : starEach [ea] X.env = [(false, eval ea X.env)] := by rfl) :
  PI X tg (.Call (.Name "reversed" p) [ea] [] pos) (iRev X.K ta) := by
 intro pins s σ H R I h
 refine Call_ (ld_blt I hg hm (by rfl : bootBuiltins "reversed" = some (.type "reversed")) (PyProof.Rows.callWith_type1 (thn (ha pos pins s σ H _ I h) fun us s1 ⟨vs, H1, I1, r1, q1⟩ => ?_) hs rfl))
 obtain ⟨a,xs,e,qa,q⟩:=q1
 subst e
 cases r1 with
 | cons r rr =>
  cases rr
  cases r
  obtain ⟨its1,rv1,p1,z1⟩:=I1.list qa
  have hl:=rv1.length
  refine call_reversed_list p1.isList ?_
  have hit : (s1.heap.push (revObj a ((its1.toArray.size : Int) - 1))).IsRevIter s1.heap.objs.size a ((xs.length : Int) - 1 - ((0 : Nat) : Int)):=by
   refine ⟨_,Heap.get?_push_size _ rfl,rfl,?_⟩
   have e : ((its1.toArray.size : Nat) : Int) - 1 = (xs.length : Int) - 1 - ((0 : Nat) : Int):=by rw [List.size_toArray]; omega
   unfold revObj
   rw [e]
  refine wpAny_pyIter_revIter (s:={ s1 with heap:=s1.heap.push (revObj a ((its1.toArray.size : Int) - 1)) }) hit ?_
  refine ⟨s1.heap.objs.size,[s1.heap.objs.size],_,_,H1,rfl,I1.kept (t':=s1.toks) fun b o e=>Heap.get?_push_of_some _ e,turn_rev a _ xs,⟨Nat.zero_le _,hit⟩,fun b hb=>?_,q⟩
  have e : b = s1.heap.objs.size:=by simpa using hb
  subst e
  exact I1.fpOk (Nat.le_refl _) (I1.hok.fresh (Nat.le_refl _))
end
theorem for_rev {K : PySem.W.Frag} {a : Addr} {xs : List V} {g : TG} {tb : TS} {D : Ends} {σ : St} {H : Hp} (Pv : Nat→St→Hp→Prop) (h0 : Pv 0 σ H) (hl : ∀ i σ H,i ≤ xs.length→Pv i σ H→SqL K H a xs)
  (hs : ∀ i x σ H,xs.reverse[i]? = some x→Pv i σ H→g x σ H fun σ2 H2=>tb { D with nx:=Pv (i + 1),ct:=Pv (i + 1),bk:=D.nx } σ2 H2) (hd : ∀ σ H,Pv xs.length σ H→D.nx σ H) :
  ∃ W : Nat→Nat→St→Hp→Prop,(∃ m,W 0 m σ H)∧∀ i m σ H,W i m σ H →
   ((Itv K a xs).stop i H∧D.nx σ H) ∨ ((Itv K a xs).go i H∧∃ N : St→Hp→Prop,(∀ σ' H',N σ' H'→∃ m',m' < m∧W (i + 1) m' σ' H')∧∀ x H',(Itv K a xs).yld i H x H'→g x σ H' fun σ2 H2=>tb { D with nx:=N,ct:=N,bk:=D.nx } σ2 H2):=by
 refine ⟨fun i m σ H=>m = xs.length - i∧i ≤ xs.length∧Pv i σ H,⟨xs.length,by simp,Nat.zero_le _,h0⟩,?_⟩
 rintro i m σ H ⟨rfl,hi,p⟩
 have qa:=hl i σ H hi p
 by_cases hlt : i < xs.length
 ·refine .inr ⟨⟨qa,hlt⟩,Pv (i + 1),fun σ' H' p'=>⟨xs.length - (i + 1),by omega,rfl,hlt,p'⟩,fun v H' y=>?_⟩
  obtain ⟨e,hx⟩:=y
  subst e
  exact hs i v σ _ hx p
 ·have e : i = xs.length:=by omega
  subst e
  exact .inl ⟨⟨qa,Nat.le_refl _⟩,hd σ H p⟩
theorem ints_are : ∀ {ns : List Int} {its : List Value},Vals (vints ns) its→IntsAre its ns
 | [],_,.nil=>IntsAre.nil
 | n :: ns,_,.cons r rr=>by
  obtain ⟨t,rfl⟩:=r
  exact IntsAre.cons _ _ (ints_are rr)
section
variable {X : Cx}
inductive rCount (K : PySem.W.Frag) (x : V) (vs : List V) (H : Hp) (Q : VK) : Prop
 | mk : ∀ (l : Addr) (ns : List Int) (k : Int),(x = .ref l)→(vs = [.int k])→(SqL K H l (vints ns))→(Q (.int (ns.count k : Nat)) H)→rCount K x vs H Q
theorem mt_count : MtM X "list.count" (rCount X.K) := by
 intro pins s σ H x vs v us Q I rx rv h
 obtain ⟨l,ns,k,rfl,rfl,hH,q⟩:=h
 cases rx
 obtain ⟨u,rfl,t,rfl⟩:=rv.one
 obtain ⟨its,r,p,_⟩:=I.list hH
 exact count_list_ints p.isList (ints_are r) ⟨.int (ns.count k : Nat),H,I.tok _,⟨_,rfl⟩,q⟩
end
def sub (xs ys : List Int) : List Int:=List.zipWith (fun i j=>i - j) xs ys
def add (xs ys : List Int) : List Int:=List.zipWith (fun i j=>i + j) xs ys
def hi2 (xs ys : List Int) : List Int:=List.zipWith mx xs ys
theorem sub_len {xs ys : List Int} {z : Nat} (h1 : xs.length = z) (h2 : ys.length = z) : (sub xs ys).length = z:=by unfold sub; rw [List.length_zipWith,h1,h2,Nat.min_self]
theorem add_len {xs ys : List Int} {z : Nat} (h1 : xs.length = z) (h2 : ys.length = z) : (add xs ys).length = z:=by unfold add; rw [List.length_zipWith,h1,h2,Nat.min_self]
theorem hi2_len {xs ys : List Int} {z : Nat} (h1 : xs.length = z) (h2 : ys.length = z) : (hi2 xs ys).length = z:=by unfold hi2; rw [List.length_zipWith,h1,h2,Nat.min_self]
theorem zip_at (f : Int→Int→Int) {xs ys : List Int} {i : Nat} (h1 : i < xs.length) (h2 : i < ys.length) : (List.zipWith f xs ys).getD i 0 = f (xs.getD i 0) (ys.getD i 0):=by
 simp [List.getD_eq_getElem?_getD,List.getElem?_zipWith,List.getElem?_eq_getElem h1,List.getElem?_eq_getElem h2]
theorem sub_at {xs ys : List Int} {z i : Nat} (h1 : xs.length = z) (h2 : ys.length = z) (h : i < z) : (sub xs ys).getD i 0 = xs.getD i 0 - ys.getD i 0:=zip_at _ (by omega) (by omega)
theorem add_at {xs ys : List Int} {z i : Nat} (h1 : xs.length = z) (h2 : ys.length = z) (h : i < z) : (add xs ys).getD i 0 = xs.getD i 0 + ys.getD i 0:=zip_at _ (by omega) (by omega)
theorem hi2_at {xs ys : List Int} {z i : Nat} (h1 : xs.length = z) (h2 : ys.length = z) (h : i < z) : (hi2 xs ys).getD i 0 = mx (xs.getD i 0) (ys.getD i 0):=zip_at _ (by omega) (by omega)
theorem rep_at (z i : Nat) : (List.replicate z (0 : Int)).getD i 0 = 0:=by
 simp only [List.getD_eq_getElem?_getD,List.getElem?_replicate]
 split <;> rfl
theorem le_mx1 {a b : Int} : a ≤ mx a b:=by unfold mx; split <;> omega
theorem le_mx2 {a b : Int} : b ≤ mx a b:=by unfold mx; split <;> omega
def Wd (z : Nat) (rs : List (List Int)) : Prop:=∀ r ∈ rs,r.length = z
theorem getDm {rs : List (List Int)} {d : Nat} (h : d < rs.length) : rs.getD d [] ∈ rs:=by
 rw [List.getD_eq_getElem?_getD,List.getElem?_eq_getElem h]
 exact List.getElem_mem h
theorem Wd.at {z : Nat} {rs : List (List Int)} (w : Wd z rs) {d : Nat} (h : d < rs.length) : (rs.getD d []).length = z:=w _ (getDm h)
def nonneg (b : List Int) : Prop:=∀ x ∈ b,0 ≤ x
theorem nonneg_at {b : List Int} (h : nonneg b) (i : Nat) : 0 ≤ b.getD i 0:=by
 rw [List.getD_eq_getElem?_getD]
 cases e : b[i]? with
 | none=>exact Int.le_refl _
 | some x=>exact h x (List.mem_of_getElem? e)
theorem nonneg_of {b : List Int} {z : Nat} (hz : b.length = z) (h : ∀ i,i < z→0 ≤ b.getD i 0) : nonneg b:=fun x hx=>by
 obtain ⟨i,hi,rfl⟩:=List.mem_iff_getElem.mp hx
 have:=h i (by omega)
 simpa [List.getD_eq_getElem?_getD,List.getElem?_eq_getElem hi] using this
def ahead (t g goal : List Int) : List Int:=hi2 t (sub goal (sub g t))
theorem ahead_len {t g goal : List Int} {z : Nat} (ht : t.length = z) (hg : g.length = z) (hl : goal.length = z) : (ahead t g goal).length = z:=hi2_len ht (sub_len hl (sub_len hg ht))
def behind (t g b : List Int) : List Int:=add (sub b t) g
def needL (z : Nat) (tk gv : List (List Int)) : List Nat→List Int
 | []=>List.replicate z 0
 | d :: ds=>ahead (tk.getD d []) (gv.getD d []) (needL z tk gv ds)
theorem need_len {z : Nat} {tk gv : List (List Int)} (wt : Wd z tk) (wg : Wd z gv) (hl : gv.length = tk.length) : ∀ {ds : List Nat},(∀ d ∈ ds,d < tk.length)→(needL z tk gv ds).length = z
 | [],_=>List.length_replicate
 | d :: ds,h=>by
  have hd:=h d (List.mem_cons_self ..)
  exact ahead_len (wt.at hd) (wg.at (by omega)) (need_len wt wg hl fun x hx=>h x (List.mem_cons_of_mem _ hx))
theorem need_nonneg {z : Nat} {tk gv : List (List Int)} (wt : Wd z tk) (wg : Wd z gv) (hl : gv.length = tk.length) (nt : ∀ r ∈ tk,nonneg r) : ∀ {ds : List Nat},(∀ d ∈ ds,d < tk.length)→nonneg (needL z tk gv ds)
 | [],_=>fun x hx=>by rw [(List.mem_replicate.mp hx).2]; exact Int.le_refl _
 | d :: ds,h=>by
  have hd:=h d (List.mem_cons_self ..)
  have hn:=need_len wt wg hl (ds:=ds) fun x hx=>h x (List.mem_cons_of_mem _ hx)
  refine nonneg_of (ahead_len (wt.at hd) (wg.at (by omega)) hn) fun i hi=>?_
  show 0 ≤ (ahead (tk.getD d []) (gv.getD d []) (needL z tk gv ds)).getD i 0
  unfold ahead
  rw [hi2_at (wt.at hd) (sub_len hn (sub_len (wg.at (by omega)) (wt.at hd))) hi]
  exact Int.le_trans (nonneg_at (nt _ (getDm hd)) i) le_mx1
def six : List Str := [Str.ofString "a", Str.ofString "b", Str.ofString "c", Str.ofString "d", Str.ofString "e", Str.ofString "f"]
theorem six_ok : ∀ y ∈ six,okName y = true:=by decide +kernel
theorem six_nd : six.Nodup:=by decide +kernel
theorem cut_take (xs : List V) (k : Nat) : cutV xs none (some (k : Int)) = xs.take k:=by
 unfold cutV
 rw [HT.sIx_none,HT.sIx_nat,List.drop_zero,Nat.sub_zero]
 by_cases h : k ≤ xs.length
 ·rw [Nat.min_eq_left h]
 ·rw [Nat.min_eq_right (by omega),List.take_of_length_le (Nat.le_refl _),List.take_of_length_le (by omega)]
abbrev vsix : List V := [V.str (Str.ofString "a"), V.str (Str.ofString "b"), V.str (Str.ofString "c"), V.str (Str.ofString "d"), V.str (Str.ofString "e"), V.str (Str.ofString "f")]
theorem cut_six (k : Nat) : cutV vsix none (some (k : Int)) = vstrs (six.take k):=by
 refine (cut_take _ _).trans ?_
 show (vstrs six).take k = _
 rw [vstrs,vstrs,List.map_take]
theorem rep_flat (k : Nat) : (List.replicate k [V.int 0]).flatten = vints (List.replicate k 0):=by
 induction k with
 | zero=>rfl
 | succ k ih=>rw [List.replicate_succ,List.flatten_cons,ih,List.replicate_succ]; rfl
theorem by_get {xs : List Int} {z : Nat} (h : xs.length = z) : (List.range z).map (fun i=>V.int (xs.getD i 0)) = vints xs:=by
 have e:=by_place1 (fun i=>i) h
 rw [e]
 simp
theorem okBag.nn {z : Nat} {r : List Int} (h : okBag z r) : nonneg r:=fun x hx=>(h.2 x hx).1
theorem wd_of {z : Nat} {rs : List (List Int)} (h : ∀ r ∈ rs,okBag z r) : Wd z rs:=fun r hr=>(h r hr).1
theorem getDr {rs : List (List Int)} {d : Nat} (h : d < rs.length) : rs.getD d [] = rs[d]:=by
 rw [List.getD_eq_getElem?_getD,List.getElem?_eq_getElem h]
 rfl
abbrev zs (ds : List Nat) : List Int:=ds.map fun n : Nat=>(n : Int)
theorem zs_get {ds : List Nat} {i : Nat} {x : V} (h : (vints (zs ds))[i]? = some x) : ∃ n : Nat,ds[i]? = some n∧x = V.int (n : Int):=by
 rw [List.getElem?_map,List.getElem?_map] at h
 cases e : ds[i]? with
 | none=>rw [e] at h; cases h
 | some n=>rw [e] at h; exact ⟨n,rfl,(Option.some.inj h).symm⟩
theorem zs_len (ds : List Nat) : (zs ds).length = ds.length:=List.length_map ..
end L2
namespace L2
open PySem PySem.Spec PyProof.Rows
theorem ixN_nat {n i : Nat} (h : i < n) : ixN n (i : Int) = some i:=by
 unfold ixN
 rw [if_pos (by omega),if_pos (by omega),Int.toNat_natCast]
theorem set_ints (ns : List Int) (i : Nat) (v : Int) : (vints ns).set i (V.int v) = vints (ns.set i v):=by rw [vints,vints,List.map_set]
end L2
namespace L2
open PySem PySem.Spec PyProof.Rows
end L2
namespace L2
open PySem PySem.Spec PyProof.Rows SeqAt
theorem comp_ints {te : Blk→TE} {H1 : Hp} {Z : List V→Hp→Prop} {lo : Int} {n : Nat} {τ : St} (P : Int→Prop) (hn : n < sizeLine)
  (hs : ∀ B i H,i < n→Same H1 H→∀ Q' : VK,(∀ m H2,P m→Same H H2→Q' (.int m) H2)→te B (some (.int (lo + i)) :: τ) H Q')
  (hd : ∀ ns H2,Same H1 H2→ns.length = n→(∀ m ∈ ns,P m)→Z (vints ns) H2) :
  ∃ W : Nat→Nat→List V→St→Hp→Prop,(∃ m,W 0 m [] (none :: τ) H1)∧∀ B : Blk,CompW (Itr lo n) (gName 0) tTrue (te B) W Z:=by
 refine comp_rangeP (g:=fun _=>gName 0) (tt:=fun _=>tTrue) (fun i ys σ H=>∃ (v : Option V) (ns : List Int),σ = v :: τ∧Same H1 H∧ys = vints ns∧ns.length = i∧∀ m ∈ ns,P m) ⟨none,[],rfl,Same.refl _,rfl,rfl,fun m hm=>nomatch hm⟩ ?_ ?_ ?_
 ·rintro i ys σ H hi ⟨v,ns,rfl,S,rfl,e,_⟩
  rw [ints_len,e]; omega
 ·rintro B i ys σ H hi ⟨v,ns,rfl,S,rfl,e,hp⟩
  try dsimp only [gName,tTrue]
  rw [if_pos rfl]
  refine hs B i H hi S _ fun m H2 pm S2=>⟨_,ns ++ [m],rfl,S.trans S2,(vints_snoc _ _).symm,by rw [List.length_append,e]; rfl,fun k hk=>?_⟩
  rcases List.mem_append.mp hk with q | q
  ·exact hp k q
  ·rw [List.mem_singleton.mp q]; exact pm
 ·rintro ys σ H ⟨v,ns,rfl,S,rfl,e,hp⟩
  exact hd ns H S e hp
section
variable {X : Cx}
end
structure PartsT (H : Hp) (p pt pg pu : Addr) (ts gs : List Addr) (z : Nat) (tk gv : List (List Int)) (us : List Int) : Prop where
 top : H p = some (.lst [.int (z : Int),.ref pt,.ref pg,.ref pu])
 ht : H pt = some (.lst (ts.map V.ref))
 tr : Rows H ts tk
 hg : H pg = some (.lst (gs.map V.ref))
 gr : Rows H gs gv
 hu : H pu = some (.lst (vints us))
theorem PartsT.same {H H' : Hp} {p pt pg pu : Addr} {ts gs : List Addr} {z : Nat} {tk gv : List (List Int)} {us : List Int} (P : PartsT H p pt pg pu ts gs z tk gv us) (S : Same H H') : PartsT H' p pt pg pu ts gs z tk gv us :=
 ⟨S _ _ P.top,S _ _ P.ht,P.tr.same S,S _ _ P.hg,P.gr.same S,S _ _ P.hu⟩
theorem at_in {P : Int→Prop} {xs : List Int} {z i : Nat} (hx : xs.length = z) (hi : i < z) (h : ∀ x ∈ xs,P x) : P (xs.getD i 0):=by
 subst hx
 rw [getD_at hi]
 exact h _ (List.getElem_mem hi)
end L2
namespace L2
open PySem PySem.Spec PyProof.Rows
theorem comp_list1 {K : PySem.W.Frag} {te : Blk→TE} {H1 : Hp} {Z : List V→Hp→Prop} {a : Addr} {xs : List V} {τ : St} (f : V→V) (ha : SqL K H1 a xs) (hn : xs.length < sizeLine)
  (hs : ∀ B x H,x ∈ xs→Same H1 H→∀ Q' : VK,(∀ H2,Same H H2→Q' (f x) H2)→te B (some x :: τ) H Q')
  (hd : ∀ H2,Same H1 H2→Z (xs.map f) H2) :
  ∃ W : Nat→Nat→List V→St→Hp→Prop,(∃ m,W 0 m [] (none :: τ) H1)∧∀ B : Blk,CompW (Itl K a) (gName 0) tTrue (te B) W Z:=by
 refine comp_listP (g:=fun _=>gName 0) (tt:=fun _=>tTrue) (K:=K) (a:=a) (xs:=xs) (fun i ys σ H=>(∃ v,σ = v :: τ)∧Same H1 H∧ys = (xs.take i).map f) ⟨⟨none,rfl⟩,Same.refl _,rfl⟩ ?_ ?_ ?_
 ·rintro i ys σ H hi ⟨_,S,rfl⟩
  refine ⟨S.seq ha,?_⟩
  rw [List.length_map,List.length_take]; omega
 ·rintro B i x ys σ H hx ⟨⟨v,rfl⟩,S,rfl⟩
  try dsimp only [gName,tTrue]
  rw [if_pos rfl]
  refine hs B x H (List.mem_of_getElem? hx) S _ fun H2 S2=>⟨⟨_,rfl⟩,S.trans S2,?_⟩
  rw [List.take_add_one,hx,Option.toList_some,List.map_append]
  rfl
 ·rintro ys σ H ⟨_,S,rfl⟩
  rw [List.take_length]
  exact hd H S
def liesB (beads : List Int) (bs : List Nat) : Bool:=bs.any fun b=>decide (0 < beads.getD b 0)
theorem at_zs {xs : List Int} {b : Nat} (h : b < xs.length) : atI (vints xs) ((b : Nat) : Int) = some (V.int (xs.getD b 0)):=by
 rw [ints_at h,getD_at h]
end L2
namespace L2
open PySem PySem.Spec PyProof.Rows
end L2
namespace L2
open PySem PySem.Spec PyProof.Rows
section
variable {prog : Program} {w : World} {A : Around} {E : Value→Shared→Prop} {s : Shared}
theorem lri_len : typeLookup (.type "list_reverseiterator") "__len__" = pure none := by rw [typeLookup_type, builtinLookup_eq_fast]; kernel_rfl
theorem lri_hint : typeLookup (.type "list_reverseiterator") "__length_hint__" = pure (some (.builtin "list_reverseiterator.__length_hint__")) := by rw [typeLookup_type, builtinLookup_eq_fast]; kernel_rfl
theorem rev_hint {r : Addr} {Q : Bool → Shared → Prop} (t : s.TypeIs (.ref r) "list_reverseiterator") (q : Q false s) : wpAny (model prog w) A (Builtin.List.listLengthHint (.ref r)) Q E s := by
 unfold Builtin.List.listLengthHint
 refine wpAny_bind (wpAny_specialOf t lri_len ?_)
 show wpAny _ _ (specialOf (Value.ref r) (Str.ofString "__length_hint__") >>= _) _ _ s
 refine wpAny_bind (wpAny_specialOf t lri_hint ?_)
 generalize hid : ("list_reverseiterator.__length_hint__" : String) = n0
 wp_delta
 rw [show splitId n0 = some ("list_reverseiterator", "__length_hint__") from by subst hid; decide +kernel]
 subst hid
 refine wpAny_bind (wpAny_isInstance (T := "list_reverseiterator") (b := true) t (by rw [isSubtype_type]; kernel_rfl) ?_)
 refine wpAny_ite_split (fun z=>absurd z (by decide)) (fun _=>?_)
 refine wpAny_ite_split (fun _=>?_) (fun z=>absurd (by decide +kernel) z)
 refine wpAny_ite_split (fun z=>absurd z (by decide)) (fun _=>?_)
 exact wpAny_pure q
theorem rev_extend {R : Result→Shared→Prop} {it l : Addr} {its : Array Value} (hh : A.handled = none) (hi : s.heap.IsRevIter it l ((its.size : Int) - 1)) (hl : s.heap.IsList l its) (hne : l ≠ it) (S : Addr) (hSi : S ≠ it) (hSl : S ≠ l) (c0 : Nat)
  (hS : s.heap.get? S = some { cls := .type "list", data := .seq #[] c0 }) (hn : its.size ≤ sizeLine)
  (hR : ∀ h' tk acc c', (∀ b o, b ≠ S → b ≠ it → s.heap.get? b = some o → h'.get? b = some o) → h'.get? S = some { cls := .type "list", dict := none, data := .seq acc c', slots := #[] } → ItemsOf (fun i v => its[its.size - 1 - i]? = some v) acc its.size → R (.ok (.ret .none)) { s with heap := h', toks := tk }) :
  wpAny (model prog w) A.in1 (Builtin.List.listExtendWith (.ref S) (.ref it) .none)
   (fun fin s'=>match fin with | .done f=>R (.ok f) s' | .again c'=>c'.quiet = true∧codeAny (model prog w) A c' R s') (fun e s'=>R (.error e) s') s:=by
 have W:=Walks.listRev (prog:=prog) (w:=w) (A:=A.in1) hh it l hne its
 have hSf : S ∉ [it,l]:=by simp only [List.mem_cons,List.not_mem_nil,or_false,not_or]; exact ⟨hSi,hSl⟩
 have st : 0 ≤ its.size∧s.heap.IsRevIter it l ((its.size : Int) - 1 - ((0 : Nat) : Int))∧s.heap.IsList l its:=⟨Nat.zero_le _,by simpa using hi,hl⟩
 unfold Builtin.List.listExtendWith
 refine wpAny_bind (wpAny_typeOf hi.typeIs ?_)
 have a1 : Builtin.List.listSameRef (.ref S) (.ref it) = false:=by simp [Builtin.List.listSameRef,hSi]
 have a2 : (Value.type "list_reverseiterator" == Value.type "list") = false := by decide
 have a3 : (Value.type "list_reverseiterator" == Value.type "tuple") = false := by decide
 simp only [a1,a2,a3,Bool.or_false,Bool.false_eq_true,if_false]
 refine wpAny_bind (wpAny_pyIter_revIter hi ?_)
 refine wpAny_bind (wpAny_holding (rev_hint hi.typeIs ?_))
 refine wpAny_ite_split (fun z=>absurd z (by decide +kernel)) (fun _=>wpAny_pure ⟨plainId_quiet F.plain_extend_loop _,?_⟩)
 refine codeAny_extend_loopS W.toS hn S hSf .none its.size 0 _ #[] c0 rfl (Nat.zero_le _) st hS (ItemsOf.nil _) fun s' acc c' hm hS' ha=>?_
 rw [Moved.eq_with hm]
 refine hR s'.heap s'.toks acc c' (fun b o h1 h2 e=>hm.heap b o (fun hb=>?_) e) hS' ha
 rcases List.mem_cons.mp hb with z | z
 ·exact h1 z
 ·exact h2 (List.mem_singleton.mp z)
theorem rev_list {Q : Value→Shared→Prop} {it l : Addr} {its : Array Value} (hh : A.handled = none) (hi : s.heap.IsRevIter it l ((its.size : Int) - 1)) (hl : s.heap.IsList l its) (hne : l ≠ it) (hn : its.size ≤ sizeLine)
  (hQ : ∀ h' tk acc c', (∀ b o, b ≠ it → s.heap.get? b = some o → h'.get? b = some o) → h'.get? s.heap.objs.size = some { cls := .type "list", dict := none, data := .seq acc c', slots := #[] } → ItemsOf (fun i v => its[its.size - 1 - i]? = some v) acc its.size → Q (.ref s.heap.objs.size) { s with heap := h', toks := tk }) :
  wpAny (model prog w) A (call (.type "list") [.ref it]) Q E s := by
 refine callType_codes (Q₁ := fun v s1 => v = .ref s.heap.objs.size ∧ s1 = { s with heap := s.heap.push { cls := .type "list", data := .seq #[] } }) F.called_list (F.typeCall_list_1 _) F.entry_list_init (code_list_new _ ⟨rfl, rfl⟩) fun v s1 hv => ?_
 obtain ⟨rfl,rfl⟩:=hv
 have g0 : (s.heap.push { cls := .type "list", data := .seq #[] }).get? s.heap.objs.size = some { cls := .type "list", data := .seq #[] } := Heap.get?_push_size _ rfl
 have lti : it < s.heap.objs.size:=by obtain ⟨o,e,_⟩:=hi; exact Heap.lt_size e
 have ltl : l < s.heap.objs.size:=by obtain ⟨o,e,_⟩:=hl; exact Heap.lt_size e
 refine ⟨⟨_,g0,rfl⟩,F.args_list_init_2 _ _,?_⟩
 show wpAny _ _ (do let old ← Builtin.List.listItems (.ref s.heap.objs.size); Builtin.List.listUpdate (.ref s.heap.objs.size) (fun _=>#[]); letGo old.toList.reverse; Builtin.List.listExtendWith (.ref s.heap.objs.size) (.ref it) .none) _ _ _
 refine wpAny_bind ?_
 unfold Builtin.List.listItems
 refine wpAny_bind (wpAny_seqItems g0 rfl (wpAny_pure ?_))
 show wpAny _ _ (updateSeq s.heap.objs.size (fun _=>#[]) >>= fun _=>letGo (#[] : Array Value).toList.reverse >>= fun _=>Builtin.List.listExtendWith (.ref s.heap.objs.size) (.ref it) .none) _ _ _
 refine wpAny_bind (wpAny_updateSeq g0 rfl ?_)
 have g1:=Heap.get?_update_self (Obj.mapSeq (fun _=>(#[] : Array Value))) g0 rfl
 have kp : ∀ b o, b ≠ s.heap.objs.size → s.heap.get? b = some o → ((s.heap.push { cls := .type "list", data := .seq #[] }).update s.heap.objs.size (Obj.mapSeq (fun _ => (#[] : Array Value)))).get? b = some o :=
  fun b o hb e=>(Heap.get?_update_other _ _ (Ne.symm hb)).trans (Heap.get?_push_of_some _ e)
 refine wpAny_bind (wpAny_letGo ?_)
 refine rev_extend (A:=A.in1) hh (hi.at fun o e=>kp _ o (Nat.ne_of_lt lti) e) (hl.at fun o e=>kp _ o (Nat.ne_of_lt ltl) e) hne _ (Nat.ne_of_gt lti) (Nat.ne_of_gt ltl) _ g1 hn fun h' tk acc c' hk hS' ha=>?_
 exact ⟨rfl,hQ h' tk acc c' (fun b o hb e=>hk b o (Nat.ne_of_lt (Heap.lt_size e)) hb (kp b o (Nat.ne_of_lt (Heap.lt_size e)) e)) hS' ha⟩
end
section
variable {X : Cx}
def tListRev (K : PySem.W.Frag) (ta : TA) : TE:=fun σ H Q=>ta σ H fun vs H1=>∃ a xs,vs = [.ref a]∧SqL K H1 a xs∧∀ p,H1 p = none→Q (.ref p) (upd H1 p (.lst xs.reverse))
theorem Vals.rev : ∀ {xs : List V} {us : List Value},Vals xs us→Vals xs.reverse us.reverse
 | _,_,.nil=>.nil
 | _,_,.cons r t=>by
  rw [List.reverse_cons,List.reverse_cons]
  exact (Vals.rev t).append (.cons r .nil)
theorem pe_listRev {ea : Expr} {ta : TA} {p p2 pos pos2 : Pos} (hc : X.calm = true) (hgl : Gl X "list") (hml : X.mg "list" = none) (hg : Gl X "reversed") (hm : X.mg "reversed" = none) (ha : PA X [ea] ta) (hs : starEach [ea] X.env = [(false, eval ea X.env)] := by rfl)
  (hs2 : starEach [.Call (.Name "reversed" p2) [ea] [] pos2] X.env = [(false, eval (.Call (.Name "reversed" p2) [ea] [] pos2) X.env)] := by rfl) :
  PE X (.Call (.Name "list" p) [.Call (.Name "reversed" p2) [ea] [] pos2] [] pos) (tListRev X.K ta) := by
 intro pins s σ H Q I h
 refine Call_ (ld_blt I hgl hml bt_list (PyProof.Rows.callWith_type1 ?_ hs2 rfl))
 rw [hs2]
 show wpAny _ _ (spliced ((false, eval (.Call (.Name "reversed" p2) [ea] [] pos2) X.env) :: backTo pos [])) _ _ s
 refine Calls.spliced_cons (Call_ (ld_blt I hg hm (by rfl : bootBuiltins "reversed" = some (.type "reversed")) (PyProof.Rows.callWith_type1 (thn (ha pos2 pins s σ H _ I h) fun us s1 ⟨vs, H1, I1, r1, q1⟩ => ?_) hs rfl)))
 obtain ⟨a,xs,e,qa,q⟩:=q1
 subst e
 cases r1 with
 | cons r rr =>
  cases rr
  cases r
  obtain ⟨its,rv,p1,z1⟩:=I1.list qa
  have hl:=rv.length
  refine call_reversed_list p1.isList (Calls.spliced_nil ?_)
  have g0 : (s1.heap.push (revObj a ((its.toArray.size : Int) - 1))).IsRevIter s1.heap.objs.size a ((its.toArray.size : Int) - 1):=⟨_,Heap.get?_push_size _ rfl,rfl,rfl⟩
  have lt : a < s1.heap.objs.size:=by obtain ⟨o,e,_⟩:=p1.isList; exact Heap.lt_size e
  refine rev_list (s:={ s1 with heap:=s1.heap.push (revObj a ((its.toArray.size : Int) - 1)) }) (I1.ok.hd hc) g0 (p1.isList.at fun o e=>Heap.get?_push_of_some _ e) (Nat.ne_of_lt lt) (by rw [List.size_toArray]; omega) fun h' tk acc c' hk hS ha=>?_
  have kp : ∀ b o,s1.heap.get? b = some o→h'.get? b = some o:=fun b o e=>hk b o (Nat.ne_of_lt (Heap.lt_size e)) (Heap.get?_push_of_some _ e)
  have hfr : H1 (s1.heap.push (revObj a ((its.toArray.size : Int) - 1))).objs.size = none:=I1.hok.fresh (by simp)
  have hacc : acc.toList = its.reverse:=by
   refine List.ext_getElem? fun i=>?_
   have hsz : acc.size = its.length:=by rw [ha.1,List.size_toArray]
   by_cases hi : i < its.length
   ·have e1:=ha.2 i (acc[i]'(by omega)) (by rw [Array.getElem?_eq_getElem])
    rw [Array.getElem?_toList,Array.getElem?_eq_getElem (by omega),List.getElem?_reverse hi]
    rw [← e1]
    simp
   ·rw [List.getElem?_eq_none (by rw [Array.length_toList]; omega),List.getElem?_eq_none (by rw [List.length_reverse]; omega)]
  refine ⟨.ref _,upd H1 _ (.lst xs.reverse),I1.laid (t':=tk) (h':=h') kp (by simp) (show ObjOk X.prog X.w _ h' _ (.lst xs.reverse) from ⟨by rw [List.length_reverse]; exact z1,its.reverse,c',rv.rev,?_⟩),rfl,q _ hfr⟩
  rw [← hacc,Array.toArray_toList]
  exact hS
end
end L2
namespace L2
open PySem PySem.Spec PyProof.Rows
def tgU (z : Nat) (tk gv : List (List Int)) (ms : List Int) : Nat→List Int
 | 0=>List.replicate z 0
 | i + 1=>add (tgU z tk gv ms i) ((sub (gv.getD i []) (tk.getD i [])).map fun y=>ms.getD i 0 * y)
theorem tgU_len {z : Nat} {tk gv : List (List Int)} (wt : Wd z tk) (wg : Wd z gv) (hl : gv.length = tk.length) (ms : List Int) : ∀ {i : Nat},i ≤ tk.length→(tgU z tk gv ms i).length = z
 | 0,_=>List.length_replicate
 | i + 1,h=>add_len (tgU_len wt wg hl ms (by omega)) (by rw [List.length_map]; exact sub_len (wg.at (by omega)) (wt.at (by omega)))
def cntL (n : Nat) (ds : List Nat) : List Int:=(List.range n).map fun d=>((ds.count d : Nat) : Int)
theorem cntL_len (n : Nat) (ds : List Nat) : (cntL n ds).length = n:=by unfold cntL; rw [List.length_map,List.length_range]
theorem cntL_at {n i : Nat} {ds : List Nat} (h : i < n) : (cntL n ds).getD i 0 = ((ds.count i : Nat) : Int):=by
 unfold cntL
 rw [List.getD_eq_getElem?_getD,List.getElem?_map,List.getElem?_range h]
 rfl
theorem count_zs (ds : List Nat) (k : Nat) : (zs ds).count (k : Int) = ds.count k:=by
 induction ds with
 | nil=>rfl
 | cons d ds ih =>
  show List.count (k : Int) ((d : Int) :: zs ds) = _
  rw [List.count_cons,List.count_cons,ih]
  by_cases e : d = k
  ·subst e; simp
  ·have e2 : ¬ ((d : Int) = (k : Int)):=by omega
   simp [e,e2]
theorem cnt_abs {n : Nat} {ds : List Nat} (h : ds.length ≤ 100000) : ∀ m ∈ cntL n ds,m.natAbs < 10 ^ 70:=fun m hm=>by
 obtain ⟨d,_,rfl⟩:=List.mem_map.mp hm
 have:=List.count_le_length (a:=d) (l:=ds)
 have e : ((ds.count d : Nat) : Int).natAbs = ds.count d:=Int.natAbs_natCast _
 rw [e]
 exact Nat.lt_of_le_of_lt (Nat.le_trans this h) (by decide +kernel)
theorem ext_at {xs ys : List Int} {z : Nat} (h1 : xs.length = z) (h2 : ys.length = z) (h : ∀ k,k < z→xs.getD k 0 = ys.getD k 0) : xs = ys:=by
 refine List.ext_getElem (by omega) fun i hi hj=>?_
 have:=h i (by omega)
 rwa [getD_at hi,getD_at hj] at this
theorem set_at {xs : List Int} {k : Nat} {v : Int} (h : k < xs.length) : (xs.set k v).getD k 0 = v:=by
 rw [List.getD_eq_getElem?_getD,List.getElem?_set_self h]
 rfl
theorem set_ne {xs : List Int} {k j : Nat} {v : Int} (h : k ≠ j) : (xs.set k v).getD j 0 = xs.getD j 0:=by
 rw [List.getD_eq_getElem?_getD,List.getElem?_set_ne h,← List.getD_eq_getElem?_getD]
theorem map_at {f : Int→Int} {xs : List Int} {k : Nat} (h : k < xs.length) : (xs.map f).getD k 0 = f (xs.getD k 0):=by
 rw [List.getD_eq_getElem?_getD,List.getElem?_map,List.getElem?_eq_getElem h,getD_at h]
 rfl
theorem sub_abs {xs ys : List Int} {z : Nat} (h1 : xs.length = z) (h2 : ys.length = z) (b1 : ∀ x ∈ xs,0 ≤ x∧x ≤ 1000000000) (b2 : ∀ x ∈ ys,0 ≤ x∧x ≤ 1000000000) : ∀ y ∈ sub xs ys,y.natAbs ≤ 1000000000:=fun y hy=>by
 obtain ⟨i,hi,rfl⟩:=List.mem_iff_getElem.mp hy
 unfold sub at hi ⊢
 rw [List.length_zipWith] at hi
 rw [List.getElem_zipWith]
 have a1:=b1 _ (List.getElem_mem (show i < xs.length by omega))
 have a2:=b2 _ (List.getElem_mem (show i < ys.length by omega))
 omega
end L2
namespace L2
open PySem PySem.Spec PyProof.Rows
def DK (h h' : Heap) : Prop:=∀ b o,h.get? b = some o→∃ o',h'.get? b = some o'∧o'.cls = o.cls∧o'.dict = o.dict
theorem DK.refl (h : Heap) : DK h h:=fun _ o e=>⟨o,e,rfl,rfl⟩
theorem DK.trans {h1 h2 h3 : Heap} (a : DK h1 h2) (b : DK h2 h3) : DK h1 h3:=fun c o e =>
 let ⟨_,e1,c1,d1⟩:=a c o e
 let ⟨o2,e2,c2,d2⟩:=b c _ e1
 ⟨o2,e2,c2.trans c1,d2.trans d1⟩
structure KD {α : Type} (t : Sem α) : Prop where
 out : ∀ (M : Model) (G : PySem.Ctx) (P : α→Pos→Shared→Prop) (F : Value→Pos→Shared→Prop) (p : Pos) (s : Shared),Sem.wp M G t P F p s→Sem.wp M G t (fun a p' s'=>P a p' s'∧DK s.heap s'.heap) F p s
namespace KD
variable {α β : Type}
theorem ret (a : α) : KD (Pure.pure a : Sem α):=⟨fun _ _ _ _ _ s h=>⟨h,DK.refl s.heap⟩⟩
theorem uns (w : String) : KD (PySem.unsupported w : Sem α):=⟨fun _ _ _ _ _ _ h=>h⟩
theorem andThen {m : Sem α} {f : α→Sem β} (hm : KD m) (hf : ∀ a,KD (f a)) : KD (m >>= f):=⟨fun M G P F p s h=>by
 rw [Sem.wp_bind'] at h ⊢
 refine Sem.wp_mono M G m (fun a p' s' z=>?_) (fun _ _ _ x=>x) p s (hm.out M G _ F p s h)
 exact Sem.wp_mono M G (f a) (fun b p2 s2 y=>⟨y.1,z.2.trans y.2⟩) (fun _ _ _ x=>x) p' s' ((hf a).out M G P F p' s' z.1)⟩
theorem cond {c : Prop} [Decidable c] {t u : Sem α} (ht : KD t) (hu : KD u) : KD (if c then t else u):=by split <;> assumption
theorem ld (a : Addr) : KD (PySem.load a):=⟨fun _ _ _ _ _ s h=>by obtain ⟨o,e,q⟩:=h; exact ⟨o,e,q,DK.refl s.heap⟩⟩
theorem stk : KD PySem.stack:=⟨fun M G P F p s h=>by
 unfold PySem.stack at h ⊢
 rw [Sem.wp_stack] at h ⊢
 exact ⟨h,DK.refl s.heap⟩⟩
theorem new (o : Obj) : KD (PySem.alloc o):=⟨fun M G P F p s h=>⟨h,fun b u e=>⟨u,Heap.get?_push_of_some _ e,rfl,rfl⟩⟩⟩
theorem upd (a : Addr) (f : Obj→Obj) (k : ∀ o,(f o).isFreed = o.isFreed∧(f o).cls = o.cls∧(f o).dict = o.dict) : KD (PySem.update a f):=⟨fun M G P F p s h=>by
 obtain ⟨e,q⟩:=h
 refine ⟨e,q,fun b o hb=>?_⟩
 show ∃ o',(s.heap.update a f).get? b = some o'∧_
 by_cases hba : b = a
 ·subst hba
  exact ⟨f o,Heap.get?_update_self f hb ((k o).1.trans (Heap.get?_some_iff.mp hb).2),(k o).2.1,(k o).2.2⟩
 ·exact ⟨o,(Heap.get?_update_other _ _ (Ne.symm hba)).trans hb,rfl,rfl⟩⟩
theorem fld (v : Value) (i : Nat) : KD (PySem.field v i):=⟨fun _ G P F p s h=>by
 obtain ⟨a,o,vs,x,e,ho,hd,hx,q⟩:=(wp_field_iff G v i P F p s).mp h
 exact (wp_field_iff G v i _ F p s).mpr ⟨a,o,vs,x,e,ho,hd,hx,q,DK.refl s.heap⟩⟩
theorem setFld (v : Value) (i : Nat) (x : Value) : KD (PySem.setField v i x):=⟨fun _ G P F p s h=>by
 obtain ⟨a,o,vs,e,ho,hd,hi,q⟩:=(wp_setField_iff G v i x P F p s).mp h
 refine (wp_setField_iff G v i x _ F p s).mpr ⟨a,o,vs,e,ho,hd,hi,q,fun b ob hb=>?_⟩
 show ∃ o',(s.heap.update a _).get? b = some o'∧_
 by_cases hba : b = a
 ·subst hba
  rw [ho] at hb
  cases hb
  have z:=Heap.get?_update_self (Obj.mapFields (·.setIfInBounds i x)) ho (Obj.isFreed_of_fields (Obj.data_mapFields hd _))
  refine ⟨_,z,Obj.cls_mapFields _ _,?_⟩
  obtain ⟨c,d,dt,sl⟩:=o
  cases dt <;> rfl
 ·exact ⟨ob,(Heap.get?_update_other _ _ (Ne.symm hba)).trans hb,rfl,rfl⟩⟩
theorem any {t : Sem α} (k : KD t) {M : Model} {A : Around} {Q : α→Shared→Prop} {E : Value→Shared→Prop} {s : Shared} (h : wpAny M A t Q E s) : wpAny M A t (fun a s'=>Q a s'∧DK s.heap s'.heap) E s :=
 fun G p hG=>k.out M G _ _ p s (h G p hG)
end KD
theorem kd_import (env : Env) (outer : List Env) : KD (behindIsImport env outer):=by
 unfold behindIsImport
 (repeat' with_reducible first | assumption | exact KD.ret _ | exact KD.uns _ | exact KD.fld _ _ | exact KD.setFld _ _ _ | exact KD.ld _ | exact KD.stk | exact KD.new _ | apply KD.cond | apply KD.andThen | intro _ | split)
theorem kd_caller : KD underTheClaimsCaller:=by
 unfold underTheClaimsCaller
 (repeat' with_reducible first | assumption | exact KD.ret _ | exact KD.uns _ | exact KD.fld _ _ | exact KD.setFld _ _ _ | exact KD.ld _ | exact KD.stk | exact KD.new _ | apply KD.cond | apply KD.andThen | intro _ | split)
theorem kd_back (env : Env) (i : Bool) (l : List Env) : KD (keptBack env i l):=by
 have:=kd_caller
 cases l <;> unfold keptBack <;> (repeat' with_reducible first | assumption | exact KD.ret _ | exact KD.uns _ | exact KD.fld _ _ | exact KD.setFld _ _ _ | exact KD.ld _ | exact KD.stk | exact KD.new _ | apply KD.cond | apply KD.andThen | intro _ | split)
theorem kd_ready : ∀ l : List Env,KD (readyFrames l)
 | []=>KD.ret _
 | env :: outer=>by
  have ih:=kd_ready outer
  have h1:=kd_import env outer
  have h2:=fun i=>kd_back env i outer
  unfold readyFrames
  (repeat' with_reducible first | assumption | exact KD.ret _ | exact KD.uns _ | exact KD.fld _ _ | exact KD.setFld _ _ _ | exact KD.ld _ | exact KD.stk | exact KD.new _ | apply KD.cond | apply KD.andThen | intro _ | split)
  all_goals first | exact h2 _ | exact KD.upd _ _ (fun o=>⟨by obtain ⟨c,d,dt,sl⟩:=o; cases dt <;> rfl,rfl,rfl⟩) | skip
theorem kd_frameObject (l : List Env) : KD (frameObject l):=by
 cases l with
 | nil=>exact KD.ret _
 | cons env outer =>
  have:=kd_ready (env :: outer)
  unfold frameObject
  (repeat' with_reducible first | assumption | exact KD.ret _ | exact KD.uns _ | exact KD.fld _ _ | exact KD.setFld _ _ _ | exact KD.ld _ | exact KD.stk | exact KD.new _ | apply KD.cond | apply KD.andThen | intro _ | split)
theorem kd_frameOf (env : Env) : KD (PySem.frameOf env):=by
 have h1 : KD frameEnvs:=by unfold frameEnvs; (repeat' with_reducible first | assumption | exact KD.ret _ | exact KD.uns _ | exact KD.fld _ _ | exact KD.setFld _ _ _ | exact KD.ld _ | exact KD.stk | exact KD.new _ | apply KD.cond | apply KD.andThen | intro _ | split)
 have h2:=kd_frameObject
 unfold PySem.frameOf
 (repeat' with_reducible first | assumption | exact KD.ret _ | exact KD.uns _ | exact KD.fld _ _ | exact KD.setFld _ _ _ | exact KD.ld _ | exact KD.stk | exact KD.new _ | apply KD.cond | apply KD.andThen | intro _ | split)
 all_goals first | exact h2 _ | skip
theorem kd_place (f : Addr) (b : Bool) : KD (entryPlaceOf f b):=by
 unfold entryPlaceOf
 (repeat' with_reducible first | assumption | exact KD.ret _ | exact KD.uns _ | exact KD.fld _ _ | exact KD.setFld _ _ _ | exact KD.ld _ | exact KD.stk | exact KD.new _ | apply KD.cond | apply KD.andThen | intro _ | split)
theorem kd_newObj (T : String) (vs : Array Value) : KD (newObj (.type T) (.fields vs)):=by
 unfold newObj newObjAsIs
 try dsimp only
 (repeat' with_reducible first | assumption | exact KD.ret _ | exact KD.uns _ | exact KD.fld _ _ | exact KD.setFld _ _ _ | exact KD.ld _ | exact KD.stk | exact KD.new _ | apply KD.cond | apply KD.andThen | intro _ | split)
theorem kd_note (e : Value) (env : Env) : KD (noteFrame e env):=by
 have h1:=kd_frameOf env
 have h2:=kd_place
 unfold noteFrame EntryCells.newEntry newFields
 (repeat' with_reducible first | assumption | exact KD.ret _ | exact KD.uns _ | exact KD.fld _ _ | exact KD.setFld _ _ _ | exact KD.ld _ | exact KD.stk | exact KD.new _ | apply KD.cond | apply KD.andThen | intro _ | split)
 all_goals first | exact h2 _ _ | exact kd_newObj _ _ | skip
theorem kd_flight (e : Value) (f : Option Addr) : KD (setFlight e f):=by
 unfold setFlight
 (repeat' with_reducible first | assumption | exact KD.ret _ | exact KD.uns _ | exact KD.fld _ _ | exact KD.setFld _ _ _ | exact KD.ld _ | exact KD.stk | exact KD.new _ | apply KD.cond | apply KD.andThen | intro _ | split)
theorem kd_leaving (env : Env) (e : Value) : KD (leaving env e):=by
 have h1:=kd_note e env
 have h2:=kd_flight e none
 unfold leaving
 (repeat' with_reducible first | assumption | exact KD.ret _ | exact KD.uns _ | exact KD.fld _ _ | exact KD.setFld _ _ _ | exact KD.ld _ | exact KD.stk | exact KD.new _ | apply KD.cond | apply KD.andThen | intro _ | split)
end L2
namespace L2
open PySem PySem.Spec PyProof.Rows
def Fly (l : List Env) (H : Hp) (h : Heap) (a : Addr) (cls : Value) (dx : Option Addr) (H' : Hp) (h' : Heap) : Prop :=
 ∃ (B : Heap) (a0 : Value),Heap.FlyingW B l a cls a0 h'∧(∀ b o,h.get? b = some o→H b = none→b ∉ frs l→B.get? b = some o)∧(∀ b u o,H' b = some u→h'.get? b = some o→B.get? b = some o)∧∃ oe,h'.get? a = some oe∧oe.dict = dx
def CXF (P : Program) (w : World) : CXT:=fun outer H s E e s' =>
 ∃ (a : Addr) (cls : Value) (dx : Option Addr) (H' : Hp),e = .ref a∧s'.os = s.os∧AllBare s'.gens∧Un (frs outer) [] H H' s.heap s'.heap∧HOk P w H' s'.heap∧H' a = none∧s.heap.get? a = none∧Fly outer H s.heap a cls dx H' s'.heap∧E cls dx H'
theorem ObjOk.has {P : Program} {w : World} {H : Hp} {h : Heap} {a : Addr} {o : HO} (x : ObjOk P w H h a o) : ∃ ob,h.get? a = some ob:=by
 cases o with
 | lst xs=>obtain ⟨_,_,_,_,e⟩:=x; exact ⟨_,e⟩
 | tup xs=>obtain ⟨_,_,_,ob,e,_⟩:=x; exact ⟨_,e⟩
 | dK kvs=>obtain ⟨_,_,_,_,o,_,_,e,_⟩:=x; exact ⟨_,e⟩
 | dT kvs=>obtain ⟨_,_,_,_,o,_,_,e,_⟩:=x; exact ⟨_,e⟩
 | set S n=>obtain ⟨o,_,_,_,e,_⟩:=x; exact ⟨_,e⟩
 | ins C dx fs=>obtain ⟨_,_,_,e,_⟩:=x; exact ⟨_,e⟩
 | own y=>obtain ⟨_,e⟩:=x; exact ⟨_,e⟩
 | xd fs=>obtain ⟨_,⟨_,_,_,e,_⟩,_⟩:=x; exact ⟨_,e⟩
 | rng lo hi=>obtain ⟨_,_,_,e⟩:=x; exact ⟨_,e⟩
 | frz ob u=>obtain ⟨e,_⟩:=x; exact ⟨_,e⟩
 | tbl ps=>exact ⟨_,x⟩
 | met f y=>exact ⟨_,x⟩
 | ext φ=>obtain ⟨_,⟨_,e⟩,_⟩:=x; exact ⟨_,e⟩
section
variable {P : Program} {w : World}
theorem HOk.based {H' : Hp} {h' h'' B : Heap} (ok : HOk P w H' h') (T : ∀ b u o,H' b = some u→h'.get? b = some o→B.get? b = some o) (st : B.StaysIn h'') : HOk P w H' h'':=fun a o e=>by
 refine (ok a o e).stay (fun b u hb q=>?_) (fun _ q=>q) fun _ _ q=>q
 rcases hb with rfl | hb
 ·exact st b u (T b _ u e q)
 ·exact st b u (T b _ u hb q)
theorem Un.flown {l l' : List Env} {H H' : Hp} {h h' h'' B : Heap} {a : Addr} {cls a0 : Value} (u : Un (frs l') [] H H' h h') (F : Heap.FlyingW B l a cls a0 h') (st : B.StaysIn h'') (up : h'.UpToSlots h'') (dk : DK h' h'')
  (old : ∀ b o,h.get? b = some o→H b = none→b ∉ frs l→B.get? b = some o) (sub : ∀ b ∈ frs l',b ∈ frs l) (nw : ∀ b ∈ frs l,b ∉ frs l'→h.get? b = none) : Un (frs l') [] H H' h h'' where
 keep:=fun b o e n hb _=>by
  by_cases hl : b ∈ frs l
  ·rw [nw b hl hb] at e; cases e
  ·exact st b o (old b o e n hl)
 slot:=fun b o e n hb hx=>by
  obtain ⟨sl,e1⟩:=u.slot b o e n hb hx
  obtain ⟨_,ob,ho,nf⟩:=F.2.2.1.mem (sub b hb)
  rw [e1] at ho
  cases ho
  obtain ⟨sl',e2⟩:=up b _ e1 nf
  exact ⟨sl',e2⟩
 free:=u.free
 there:=fun b o e hx=>by
  obtain ⟨o',e1⟩:=u.there b o e hx
  obtain ⟨o2,e2,_⟩:=dk b o' e1
  exact ⟨o2,e2⟩
 tups:=u.tups
 frzs:=u.frzs
 tbls:=u.tbls
variable {K : PySem.W.Frag} {mg : Str→Option Value} {base : Heap} {N : List Str} {qual : Str} {scope : Scope} {f : Addr} {cd : Value} {A : Around} {outer : List Env} {s : Shared} {H : Hp} {E : XK}
theorem frs_cons {env : Env} {l : List Env} {L : Addr} (h : env.frame = some L) : frs (env :: l) = L :: frs l:=by
 unfold frs
 rw [List.filterMap_cons,h]
theorem passF : Passes (CXF P w) (cxOf (CXF P w) P w K mg base N qual scope f cd A outer s H E) E:=by
 intro pins σ H1 s1 e s' I hc
 obtain ⟨a,cls,dx,H',rfl,os,bare,un,hok,na,ha,⟨B,a0,F,b1,b2,oe,he,hd⟩,q⟩:=hc
 have J:=I.call' (H':=H') os un hok bare (fun b z=>absurd z (by simp))
 have eL : (cxOf (CXF P w) P w K mg base N qual scope f cd A outer s H E).env.frame = some s.heap.objs.size:=rfl
 have hfs : frs ((cxOf (CXF P w) P w K mg base N qual scope f cd A outer s H E).stack) = s.heap.objs.size :: frs outer:=frs_cons eL
 show wpAny _ _ (leaving _ (.ref a)) _ _ _
 refine wpAny_mono ((kd_leaving _ _).any (wpAny_leaves_onW (Q:=fun _ s''=>Heap.FlyingW B outer a cls a0 s''.heap∧s'.heap.UpToSlots s''.heap∧s'' = { s' with heap:=s''.heap }) I.ok.frames eL F fun h' F' U=>⟨F',U,rfl⟩)) (fun _ s'' z=>?_) fun _ _ z=>z
 obtain ⟨⟨F',U,es⟩,dk⟩:=z
 obtain ⟨oe',he',_,hd'⟩:=dk a oe he
 have old : ∀ b o,s.heap.get? b = some o→H b = none→b ∉ frs ((cxOf (CXF P w) P w K mg base N qual scope f cd A outer s H E).stack)→B.get? b = some o:=fun b o e n hb=>by
  have hb' : b ∉ frs outer:=fun z=>hb (by rw [hfs]; exact List.mem_cons_of_mem _ z)
  exact b1 b o (I.base.keep b o e n hb' (fun z=>absurd z (by simp [cxOf]))) (I.base.free b o e n (fun z=>absurd z (by simp [cxOf]))) hb
 have nw : ∀ b ∈ frs ((cxOf (CXF P w) P w K mg base N qual scope f cd A outer s H E).stack),b ∉ frs outer→s.heap.get? b = none:=fun b hb nb=>by
  rw [hfs] at hb
  rcases List.mem_cons.mp hb with z | z
  ·rw [z]; exact Heap.get?_none_of_le (Nat.le_refl _)
  ·exact absurd z nb
 have sub : ∀ b ∈ frs outer,b ∈ frs ((cxOf (CXF P w) P w K mg base N qual scope f cd A outer s H E).stack):=fun b hb=>by
  rw [hfs]; exact List.mem_cons_of_mem _ hb
 have na' : s.heap.get? a = none:=by
  cases z : s.heap.get? a with
  | none=>rfl
  | some o=>obtain ⟨o',e'⟩:=I.base.there a o z (fun z=>absurd z (by simp [cxOf])); rw [ha] at e'; cases e'
 refine ⟨a,cls,dx,H',rfl,by rw [es]; exact J.os,by rw [es]; exact bare,J.base.flown F F'.1 U dk old sub nw,hok.based b2 F'.1,na,na',⟨B,a0,F',fun b o e n hb=>?_,fun b u o hu ho=>?_,oe',he',hd'.trans hd⟩,q⟩
 ·by_cases hs : b ∈ frs ((cxOf (CXF P w) P w K mg base N qual scope f cd A outer s H E).stack)
  ·rw [nw b hs hb] at e; cases e
  ·exact old b o e n hs
 ·obtain ⟨ob,hob⟩:=(hok b u hu).has
  have z:=b2 b u ob hu hob
  rw [F'.1 b ob z] at ho
  cases ho
  exact z
def RaiseOk (X : Cx) (C : Addr) (E : XK) : Prop:=∀ (pins : List (Addr × Obj)) (σ : St) (H : Hp) (s : Shared) (e : Addr) (h' : Heap) (vs : List Value),Inv X pins σ H s→Heap.MadeExcOf s.heap h' e (.ref C) vs→E (.ref C) none H→X.xe (.ref e) { s with heap:=h' }
theorem raiseF {C : Addr} : RaiseOk (cxOf (CXF P w) P w K mg base N qual scope f cd A outer s H E) C E:=by
 intro pins σ H1 s1 e h1 vs I hx q
 have eL : (cxOf (CXF P w) P w K mg base N qual scope f cd A outer s H E).env.frame = some s.heap.objs.size:=rfl
 generalize hl : frs ((cxOf (CXF P w) P w K mg base N qual scope f cd A outer s H E).stack) = fs
 have hfs : fs = s.heap.objs.size :: frs outer:=by rw [← hl]; exact frs_cons eL
 have FF:=PySem.W.funFrames_hide (as:=fs) I.stack (fun env he a ha=>by rw [← hl]; exact List.mem_filterMap.mpr ⟨env,he,ha⟩)
 have st : (PySem.W.hideAll s1.heap fs).StaysIn s1.heap:=fun b o z=>PySem.W.of_hideAll _ z
 obtain ⟨t,het,_,_⟩:=hx.there
 have ne : H1 e = none:=by
  cases z : H1 e with
  | none=>rfl
  | some u=>obtain ⟨ob,hob⟩:=(I.hok e u z).has; rw [hx.new] at hob; cases hob
 show wpAny _ _ (leaving _ (.ref e)) _ _ _
 refine wpAny_mono ((kd_leaving _ _).any (wpAny_leaves_madeW (Q:=fun _ s''=>(∃ t,Heap.FlyingW (PySem.W.hideAll s1.heap fs) outer e (.ref C) (.ref t) s''.heap)∧h1.UpToSlots s''.heap∧s'' = { s1 with heap:=s''.heap }) (s:={ s1 with heap:=h1 }) I.ok.frames eL st FF hx fun h' t F' _ _ U=>⟨⟨t,F'⟩,U,rfl⟩)) (fun _ s'' z=>?_) fun _ _ z=>z
 obtain ⟨⟨⟨t',F'⟩,U,es⟩,dk⟩:=z
 obtain ⟨oe',he',_,hd'⟩:=dk e _ het
 have kp : ∀ b o,s1.heap.get? b = some o→b ∉ fs→(PySem.W.hideAll s1.heap fs).get? b = some o:=fun b o z nb=>PySem.W.hideAll_get _ z nb
 have exN : ∀ b : Addr,b ∉ (cxOf (CXF P w) P w K mg base N qual scope f cd A outer s H E).ex:=fun b z=>absurd z (by simp [cxOf])
 have old : ∀ b o,s.heap.get? b = some o→H b = none→b ∉ frs outer→(PySem.W.hideAll s1.heap fs).get? b = some o:=fun b o e' n hb=>by
  refine kp b o (I.base.keep b o e' n hb (exN b)) fun z=>?_
  rw [hfs] at z
  rcases List.mem_cons.mp z with z | z
  ·rw [z] at e'; exact absurd (Heap.lt_size e') (Nat.lt_irrefl _)
  ·exact hb z
 have trk : ∀ b u o,H1 b = some u→s1.heap.get? b = some o→(PySem.W.hideAll s1.heap fs).get? b = some o:=fun b u o hu ho=>by
  refine kp b o ho fun z=>?_
  have:=I.stkFree b (by rw [hl]; exact z)
  rw [this] at hu; cases hu
 have trk' : ∀ b u o,H1 b = some u→s''.heap.get? b = some o→(PySem.W.hideAll s1.heap fs).get? b = some o:=fun b u o hu ho=>by
  obtain ⟨ob,hob⟩:=(I.hok b u hu).has
  have z:=trk b u ob hu hob
  rw [F'.1 b ob z] at ho
  cases ho
  exact z
 have na' : s.heap.get? e = none:=by
  cases z : s.heap.get? e with
  | none=>rfl
  | some o=>obtain ⟨o',e'⟩:=I.base.there e o z (exN e); rw [hx.new] at e'; cases e'
 refine ⟨e,.ref C,none,H1,rfl,by rw [es]; exact I.os,by rw [es]; exact I.bare,⟨fun b o e' n hb _=>F'.1 b o (old b o e' n hb),fun b o e' n hb hx'=>?_,fun b o e' n hx'=>I.base.free b o e' n (exN b),fun b o e' hx'=>?_,I.base.tups,I.base.frzs,I.base.tbls⟩,I.hok.based trk F'.1,ne,na',⟨_,_,F',old,trk',oe',he',hd'⟩,q⟩
 ·obtain ⟨sl,e1⟩:=I.base.slot b o e' n hb (exN b)
  obtain ⟨_,ob,ho,nf⟩:=I.stack.mem (b:=b) (by show b ∈ frs _; rw [hl,hfs]; exact List.mem_cons_of_mem _ hb)
  rw [e1] at ho
  cases ho
  obtain ⟨sl',e2⟩:=U b _ (hx.keeps _ _ e1) nf
  exact ⟨sl',e2⟩
 ·obtain ⟨o',e1⟩:=I.base.there b o e' (exN b)
  obtain ⟨o2,e2,_⟩:=dk b o' (hx.keeps _ _ e1)
  exact ⟨o2,e2⟩
end
end L2
namespace L2
open PySem PySem.Spec PyProof.Rows
abbrev excMro : List Value := [.type "ValueError", .type "Exception", .type "BaseException", .type "object"]
def ExcCls (h : Heap) (C : Addr) (bm : List Value) (N : Addr) (mN : Str→Option Value) : Prop :=
 ∃ nm qn bs hdct sn sub ab col dd k0 k1 k2 k3 k5, h.get? C = some (excClassObj nm qn C N bs bm hdct sn sub ab col dd k0 k1 k2 k3 k5 "ValueError.__new__") ∧ h.Ns N mN ∧ OwnTail h excMro bm
def ecIn (K : PySem.W.Frag) (C : Addr) (bm : List Value) : Bool:=match K.lookup C with
 | some ⟨.type "type", _, .cls cd, sl⟩ => (match cd.mro, sl.toList with
  | .ref C' :: tl, [_, _, _, _, some (.builtin n), _] => C' == C && tl == bm && n == "ValueError.__new__" && !cd.hasDel && PySem.W.tailIn K excMro bm && PySem.W.nsOkIn K cd.ns
  | _,_=>false)
 | _=>false
theorem ExcCls.of {K : PySem.W.Frag} {h : Heap} {C : Addr} {bm : List Value} (X : K.In h) (q : ecIn K C bm = true) : ∃ N mN,ExcCls h C bm N mN∧(PySem.W.clsIn K C).map (·.ns) = some N:=by
 unfold ecIn at q
 split at q
 case h_2=>cases q
 case h_1 d cd sl lk =>
  split at q
  case h_2=>cases q
  case h_1 C2 tl a b c d2 n e2 hm hs =>
   simp only [Bool.and_eq_true,beq_iff_eq,Bool.not_eq_true'] at q
   obtain ⟨⟨⟨⟨⟨c1,c2⟩,c3⟩,c4⟩,c5⟩,c6⟩:=q
   subst c1 c2 c3
   obtain ⟨l⟩:=sl
   try dsimp only at hs
   subst hs
   obtain ⟨nm,bs,mro,ns,qn,hd,sn,sub,ab,col,del⟩:=cd
   try dsimp only at hm c4 c6
   subst hm c4
   exact ⟨ns,_,⟨nm,qn,bs,hd,sn,sub,ab,col,d,a,b,c,d2,e2,X _ _ lk,.of_isNs (PySem.W.isNs_of_in X c6),PySem.W.tail_of_in X c5⟩,by unfold PySem.W.clsIn; rw [lk]; rfl⟩
theorem ExcCls.keeps {h h' : Heap} {C : Addr} {bm : List Value} {N : Addr} {mN : Str→Option Value} (x : ExcCls h C bm N mN) (k : ∀ b o,h.get? b = some o→h'.get? b = some o) : ExcCls h' C bm N mN:=by
 obtain ⟨nm,qn,bs,hd,sn,sub,ab,col,dd,k0,k1,k2,k3,k5,e,n,t⟩:=x
 exact ⟨nm,qn,bs,hd,sn,sub,ab,col,dd,k0,k1,k2,k3,k5,k _ _ e,n.keeps k,t.keeps k⟩
structure XPlain (K : PySem.W.Frag) (C : Addr) (bm : List Value) : Prop where
 ec : ecIn K C bm = true
 ni : ((PySem.W.clsIn K C).map (·.ns)).bind (fun N => PySem.W.nsIn K N "__init__") = some none
section
variable {X : Cx} {C : Addr} {bm : List Value} {E : XK}
def tRaise (C : Addr) (E : XK) (t : TA) : TS:=fun _ σ H=>t σ H fun vs H1=>vs.length ≤ sizeLine∧E (.ref C) none H1
theorem ps_raise {x : Str} {np cpos pos : Pos} {e : Expr} {es : List Expr} {t : TA} (R : RaiseOk X C E) (c : XPlain X.K C bm) (hg : Gl X x) (hm : X.mg x = some (.ref C)) (ha : PA X (e :: es) t) (hc : X.calm = true:=by rfl)
  (hdb : (x == ("__debug__" : Str)) = false := by decide) (he : starEach (e :: es) X.env = (false, eval e X.env) :: starEach es X.env := by rfl) (hpl : (backTo cpos (starEach (e :: es) X.env)).any (·.1) = false := by rfl) :
  PS X (.Raise (some (.Call (.Name x np) (e :: es) [] cpos)) none pos) (tRaise C E t):=by
 intro pins s σ H D I h
 obtain ⟨N,mN,xc,hN⟩:=ExcCls.of I.ok.mod.kin c.ec
 have nin : mN "__init__" = none := by
  have z:=c.ni
  rw [hN] at z
  obtain ⟨_,_,_,_,_,_,_,_,_,_,_,_,_,_,_,n,_⟩:=xc
  exact PySem.W.ns_none_of I.ok.mod.kin n z
 obtain ⟨nm,qn,bs,hd,sn,sub,ab,col,dd,k0,k1,k2,k3,k5,e0,n0,t0⟩:=xc
 refine wpAny_Raise_call_subT (C:=C) (N:=N) (mN:=mN) (nm:=nm) (q:=qn) (bs:=bs) (bm:=bm) (hdct:=hd) (sn:=sn) (sub:=sub) (ab:=ab) (col:=col) (dd:=dd) (k0:=k0) (k1:=k1) (k2:=k2) (k3:=k3) (k5:=k5) PySem.F.excBase_ValueError (t0.hasType PySem.F.excBase_ValueError.hasBase) (I.ok.hd hc) hpl nin (ld_glob I hg hm ⟨rfl,?_⟩ hdb)
 have z:=ha cpos pins s σ H _ I h
 rw [he] at z ⊢
 refine Calls.evalArgs_plain (thn z fun us s1 ⟨vs,H1,I1,r,hl,q⟩=>⟨rfl,by rw [← r.length]; exact hl,I1.bk _ _ e0,n0.keeps I1.bk,t0.keeps I1.bk,fun h' a hx=>R pins σ H1 s1 a h' _ I1 hx q⟩)
end
def PX (X : Cx) (ex : Expr) (tx : St→Hp→VK→XK→Prop) : Prop :=
 ∀ (pins : List (Addr × Obj)) (s : Shared) (σ : St) (H : Hp) (Q : VK) (E : XK),Inv X pins σ H s→tx σ H Q E→wpAny (model X.prog X.w) X.A (eval ex X.env) (EP X pins σ Q) (fun e s'=>∃ H1 s1,Inv X pins σ H1 s1∧CXF X.prog X.w X.stack H1 s1 E e s') s
def PB (X : Cx) (body : List Stmt) (tb : Ends→XK→St→Hp→Prop) : Prop :=
 ∀ (pins : List (Addr × Obj)) (s : Shared) (σ : St) (H : Hp) (D : Ends) (E : XK),Inv X pins σ H s→tb D E σ H→wpAny (model X.prog X.w) X.A (execs body X.env) (SP X pins D) (fun e s'=>∃ H1 s1,Inv X pins σ H1 s1∧CXF X.prog X.w X.stack H1 s1 E e s') s
section
variable {X : Cx} {k : Nat} {f : Addr} {fd : FuncData} {ps : List Str} {sp : Sp} {x : Str} {p pos : Pos} {e : Expr} {es : List Expr} {t : TA}
theorem px_call (F : FnOk X.prog X.w X.K X.mg X.base (CXF X.prog X.w) k f fd ps sp) (hr : Room k X.A) (hg : Gl X x) (hm : X.mg x = some (.ref f)) (hk : PySem.W.keepIn X.K (.ref f) = true) (hb : Binds X.K fd ps [])
  (ha : PA X.nox (e :: es) t) (hdb : (x == ("__debug__" : Str)) = false := by decide) (he : starEach (e :: es) X.env = (false, eval e X.env) :: starEach es X.env := by rfl) (hpl : (backTo pos (starEach es X.env)).any (·.1) = false := by rfl) :
  PX X (.Call (.Name x p) (e :: es) [] pos) (fun σ H Q E=>t σ H fun vs H1=>sp vs H1 Q E):=by
 intro pins s σ H Q E I h
 refine wpAny_Call_Name_kw (ld_glob I hg hm ?_ hdb)
 refine PySem.W.callWith_K (h₀:=X.base) I.ok.mod.kin hk (wpAny_mono (ha pos pins s σ H _ (I.wish _) h) (fun us s1 ⟨vs,H1,I1',r,q⟩=>?_) fun _ _ z=>False.elim z) he hpl
 have I1:=I1'.unwish
 refine ⟨I1.kIn,?_⟩
 have hl : us.length = ps.length:=by rw [← r.length]; exact F.len _ _ _ _ q
 have bnd:=hb s1 us I1.kIn (by rw [List.append_nil]; exact hl)
 rw [List.append_nil] at bnd
 refine wpAny_call (codeAny_mono (F.run X.A X.stack s1 H1 ⟨us,[]⟩ us vs Q E hr I1.env0 bnd r q) fun r s' hq=>?_)
 cases r with
 | error e=>exact ⟨H1,s1,I1,hq⟩
 | ok fl =>
  cases fl with
  | ret u=>exact I1.after hq
  | next=>exact False.elim hq
  | brk=>exact False.elim hq
  | cont=>exact False.elim hq
theorem pb_set {i : Nat} {y : Str} {ex : Expr} {pos' : Pos} {tx : St→Hp→VK→XK→Prop} (hN : X.N.Nodup) (hi : X.N[i]? = some y) (hy : Loc X.env.scope y) (hx : PX X ex tx) (hs : swapsWith ex (some (.Name y pos')) pos.line X.env = pure false:=by rfl)
  (hf : X.fn y = true ∨ X.env.scope.names.lookup y = some .local:=by first | exact .inl rfl | exact .inr rfl | assumption) : PB X [.Assign [.Name y pos'] ex pos] (fun D E σ H=>tx σ H (fun v H1=>D.nx (σ.set i (some v)) H1) E):=by
 intro pins s σ H D E I h
 refine wpAny_execs_cons (thn (wpAny_Assign_Name (Q:=fun fl s1=>fl = .next∧SP X pins D .next s1) (thn (hx pins s σ H _ E I h) fun v s1 ⟨y,H1,I1,r1,q1⟩=>store_ok I1 hN hi hy r1 (fun s2 I2=>⟨rfl,_,H1,I2,q1⟩) hf) hs) fun fl s1 q=>?_)
 obtain ⟨rfl,q⟩:=q
 exact wpAny_execs_nil q
end
end L2
namespace L2
open PySem PySem.Spec PyProof.Rows
abbrev Cx.hold (X : Cx) (e : Addr) (o : Obj) : Cx:={ X with A:=X.A.mark (some (.ref e)),calm:=false,pn:=X.pn ++ [(e,o)],xe:=fun _ _=>False }
section
variable {X : Cx} {pins : List (Addr × Obj)} {σ : St} {H : Hp} {s : Shared} {a : Addr} {o : Obj}
theorem Cx.Ok.hold (ok : X.Ok) (e : Addr) (o : Obj) : (X.hold e o).Ok :=
 ⟨ok.mod,ok.kind,ok.glob,ok.blt,ok.above,ok.inj,ok.has,ok.cab,(fun z=>Bool.noConfusion z),ok.frames,ok.stk,ok.exf,ok.bs,ok.bsz,ok.noex,ok.exfs,ok.funs,ok.frf⟩
theorem Inv.hold (I : Inv X pins σ H s) (h1 : s.heap.get? a = some o) (h2 : H a = none) (h3 : a ≠ X.env.locals) (h4 : a ∉ X.fs) (h5 : ∀ v,o.data ≠ .cell v) : Inv (X.hold a o) pins σ H s:=by
 refine ⟨I.ok.hold a o,I.os,I.bare,I.base,I.loc,I.cell,I.free,I.freeC,fun p hp=>?_,I.hok,I.len⟩
 have hp : p ∈ (X.pn ++ [(a,o)]) ++ pins:=hp
 rcases List.mem_append.mp hp with hp | hp
 ·rcases List.mem_append.mp hp with hp | hp
  ·exact I.pin p (List.mem_append_left _ hp)
  ·cases List.mem_singleton.mp hp
   exact ⟨h1,h2,h3,h4,h5⟩
 ·exact I.pin p (List.mem_append_right _ hp)
theorem Inv.unhold (ok : X.Ok) (I : Inv (X.hold a o) pins σ H s) : Inv X pins σ H s:=by
 refine ⟨ok,I.os,I.bare,I.base,I.loc,I.cell,I.free,I.freeC,fun p hp=>I.pin p ?_,I.hok,I.len⟩
 show p ∈ (X.pn ++ [(a,o)]) ++ pins
 rcases List.mem_append.mp hp with hp | hp
 ·exact List.mem_append_left _ (List.mem_append_left _ hp)
 ·exact List.mem_append_right _ hp
end
theorem exc_matches {M : Model} {A : Around} {E : Value→Shared→Prop} {s : Shared} {e C D : Addr} {oe : Obj} {bm bd : List Value} {N N' : Addr} {mN mN' : Str→Option Value} {Q : Bool→Shared→Prop} (hC : ExcCls s.heap C bm N mN) (hD : ExcCls s.heap D bd N' mN')
  (he : s.heap.get? e = some oe) (hcls : oe.cls = .ref C) (q : Q ((Value.ref C :: bm).contains (.ref D)) s) : wpAny M A (excMatches (.ref e) (.ref D)) Q E s:=by
 obtain ⟨nm,qn,bs,hd,sn,sub,ab,col,dd,k0,k1,k2,k3,k5,e0,n0,t0⟩:=hC
 obtain ⟨nm',qn',bs',hd',sn',sub',ab',col',dd',k0',k1',k2',k3',k5',e0',n0',t0'⟩:=hD
 have hb : (Value.ref D :: bd).contains (.type "BaseException") = true := by rw [List.contains_cons, t0'.hasType PySem.F.excBase_ValueError.hasBase, Bool.or_true]
 have f:=tc_notTuple
 obtain ⟨hp,g,d,t,os⟩:=s
 generalize hr : (Value.ref C :: bm).contains (.ref D) = r at q
 unfold excMatches
 repeat (first | (with_reducible refine wpAny_loadPart_at he ?_; rw [hcls]) | with_reducible refine wpAny_loadPart_at e0' ?_ | (with_reducible refine wpAny_isSubtype_exc e0' ?_; rw [hb]) | (with_reducible refine wpAny_isSubtype_exc e0 ?_; rw [hr]) | wp_step)
 cases r <;> (wp_walk; exact q)
end L2
namespace L2
open PySem PySem.Spec PyProof.Rows
structure XObj (o : Obj) (C : Addr) (dx : Option Addr) : Prop where
 cls : o.cls = .ref C
 dict : o.dict = dx
 no : PySem.W.notCls o = true
structure Caught (K : PySem.W.Frag) (C D : Addr) : Prop where
 w : ∃ bm bd,ecIn K C bm = true∧ecIn K D bd = true∧(Value.ref C :: bm).contains (.ref D) = true
def tTry0 (K : PySem.W.Frag) (Dc : Addr) (tb : Ends→XK→St→Hp→Prop) (th : Addr→Obj→TS) : TS:=fun D σ H =>
 tb D (fun cls dx H'=>∃ C,cls = .ref C∧Caught K C Dc∧∀ e o,H' e = none→XObj o C dx→th e o D σ H') σ H
section
variable {X : Cx} {body suite : List Stmt} {b₀ : Stmt} {np hp pos : Pos} {cn n : Str} {i : Nat} {Dc : Addr} {tb : Ends→XK→St→Hp→Prop} {th : Addr→Obj→TS}
theorem to_suite {pins : List (Addr × Obj)} {σ : St} {a : Addr} {s' : Shared} {name : Option Str} {Q : Flow→Shared→Prop} {W : Value→Option Addr→Hp→Prop} (hst : X.stack = X.env :: X.outer) (hfr : X.env.frame = some X.env.locals)
  (hg : Gl X cn) (hm : X.mg cn = some (.ref Dc)) (hdb : (cn == ("__debug__" : Str)) = false)
  (z : ∃ H1 s1,Inv X.nox pins σ H1 s1∧CXF X.prog X.w X.nox.stack H1 s1 (fun cls dx H'=>∃ C,cls = .ref C∧Caught X.K C Dc∧W cls dx H') (.ref a) s')
  (k : ∀ (h5 : Heap) (H' : Hp) (C : Addr) (oe : Obj),Inv (X.nox.hold a oe) pins σ H' { s' with heap:=h5 }→H' a = none→oe.cls = .ref C→W (.ref C) oe.dict H' →
   (∀ Q' : Unit→Shared→Prop,(∀ h6 oe6,Inv (X.nox.hold a oe6) pins σ H' { s' with heap:=h6 }→XObj oe6 C oe.dict→Q' () { s' with heap:=h6 })→∀ (A' : Around) (E' : Value→Shared→Prop),wpAny (model X.prog X.w) A' (setFlight (.ref a) none) Q' E' { s' with heap:=h5 }) →
   codeAny (model X.prog X.w) (X.A.mark (some (.ref a))) (.handlers (.ref a) [.ExceptHandler none name (b₀ :: suite) hp] X.env) (fun r s₂=>match r with
     | .ok f=>(match name with
      | none=>Q f s₂
      | some n=>wpAny (model X.prog X.w) X.A (do bindName X.env n .none; unbindBehindTheSuite X.env n hp) (fun _ s₃=>Q f s₃) (fun _ _=>False) s₂)
     | .error x=>cameBackBy (model X.prog X.w) X.A X.env (fun _ _=>False) x s₂) { s' with heap:=h5 }) :
  wpAny (model X.prog X.w) X.A (noteFrame (.ref a) X.env) (fun _ s₂=>wpAny (model X.prog X.w) X.A (setFlight (.ref a) none) (fun _ s₃ =>
   wpAny (model X.prog X.w) X.A (handleBy (.ref a) X.env [.ExceptHandler (some (.Name cn np)) name (b₀ :: suite) hp]) Q (fun _ _=>False) s₃) (fun _ _=>False) s₂) (fun _ _=>False) s':=by
 obtain ⟨H1,s1,I1,a',cls,dx,H',ea,os,bare,un,hok,na,ha,⟨B,a0,F,b1,b2,oe,he,hd⟩,C,rfl,⟨bm,bd,cc,cd,cm⟩,q⟩:=z
 cases ea
 have F : Heap.FlyingW B (X.env :: X.outer) a (.ref C) a0 s'.heap:=hst ▸ F
 have fr : X.A.frames = some (X.env :: X.outer):=hst ▸ I1.ok.frames
 have un : Un (frs (X.env :: X.outer)) [] H1 H' s1.heap s'.heap:=hst ▸ un
 have b1 : ∀ b o,s1.heap.get? b = some o→H1 b = none→b ∉ frs (X.env :: X.outer)→B.get? b = some o:=hst ▸ b1
 have aL : a ≠ X.env.locals:=fun z=>by
  obtain ⟨_,⟨o,_,_,ho,_⟩,_⟩:=I1.loc
  rw [z] at ha
  rw [show s1.heap.get? X.env.locals = some o from ho] at ha
  cases ha
 have aF : a ∉ X.fs:=fun z=>by
  obtain ⟨_,o,ho,_⟩:=I1.funs.mem z
  rw [ha] at ho; cases ho
 have land : ∀ h5,Heap.FlyingW B (X.env :: X.outer) a (.ref C) a0 h5→s'.heap.UpToSlots h5→DK s'.heap h5→∃ oe5,Inv (X.nox.hold a oe5) pins σ H' { s' with heap:=h5 }∧XObj oe5 C dx:=fun h5 F5 U5 K5=>by
  obtain ⟨oe5,he5,c5,d5⟩:=K5 a oe he
  obtain ⟨o',vs,ho',hc',hd',_⟩:=F5.first
  rw [he5] at ho'
  cases ho'
  have u5:=un.flown F F5.1 U5 K5 b1 (fun b hb=>hb) (fun b h1 h2=>absurd h1 h2)
  have J:=I1.call' (s':={ s' with heap:=h5 }) (ch:=[]) os (by show Un (frs X.stack) _ _ _ _ _; rw [hst]; exact u5) (hok.based b2 F5.1) bare (fun b z=>absurd z (by simp))
  exact ⟨oe5,J.hold he5 na aL aF (fun v z=>by rw [hd'] at z; cases z),hc',d5.trans hd,by unfold PySem.W.notCls; rw [hd']⟩
 refine wpAny_mono ((kd_note _ _).any (wpAny_looks_onW (Q:=fun _ s2=>∃ h4,s2 = { s' with heap:=h4 }∧Heap.HeldW B (X.env :: X.outer) a (.ref C) a0 X.env.locals h4∧s'.heap.UpToSlots h4) fr hfr F fun h4 x U=>⟨h4,rfl,x,U⟩)) (fun _ s2 z2=>?_) fun _ _ z=>z
 obtain ⟨⟨h4,rfl,held,U4⟩,dk4⟩:=z2
 refine wpAny_mono ((kd_flight _ _).any (wpAny_landsW (Q:=fun _ s3=>∃ h5,s3 = { s' with heap:=h5 }∧Heap.FlyingW B (X.env :: X.outer) a (.ref C) a0 h5∧h4.UpToSlots h5) held fun h5 x U=>⟨h5,rfl,x,U⟩)) (fun _ s3 z3=>?_) fun _ _ z=>z
 obtain ⟨⟨h5,rfl,F5,U5⟩,dk5⟩:=z3
 have dk : DK s'.heap h5:=dk4.trans dk5
 obtain ⟨oe5,J5,c5,d5,n5⟩:=land h5 F5 (U4.trans U5) dk
 obtain ⟨N,mN,xc,_⟩:=ExcCls.of I1.ok.mod.kin cc
 obtain ⟨N',mN',xd,_⟩:=ExcCls.of I1.ok.mod.kin cd
 have at5:=(J5.pin (a,oe5) (List.mem_append_left _ (List.mem_append_right _ (List.mem_singleton.mpr rfl)))).1
 refine wpAny_handleBy_cons (codeAny_handlers_test (ld_glob J5 hg hm ?_ hdb)) (by intro q; cases q)
 refine exc_matches (xc.keeps J5.bk) (xd.keeps J5.bk) at5 c5 ?_
 rw [cm]
 refine k h5 H' C oe5 J5 na c5 (by rw [d5]; exact q) fun Q' hQ A' E'=>?_
 refine wpAny_mono ((kd_flight _ _).any (lands_againW (Q:=fun _ s3=>∃ h6,s3 = { s' with heap:=h6 }∧Heap.FlyingW B (X.env :: X.outer) a (.ref C) a0 h6∧h5.UpToSlots h6) F5 fun h6 x U=>⟨h6,rfl,x,U⟩)) (fun _ s3 z3=>?_) fun _ _ z=>z
 obtain ⟨⟨h6,rfl,F6,U6⟩,dk6⟩:=z3
 obtain ⟨oe6,J6,c6,d6,n6⟩:=land h6 F6 ((U4.trans U5).trans U6) (dk.trans dk6)
 exact hQ h6 oe6 J6 ⟨c6,d6.trans d5.symm,n6⟩
theorem ps_try0 (hg : Gl X cn) (hm : X.mg cn = some (.ref Dc)) (hb : PB X.nox body tb) (hh : ∀ e o,PSs (X.nox.hold e o) (b₀ :: suite) (th e o))
  (hst : X.stack = X.env :: X.outer := by rfl) (hfr : X.env.frame = some X.env.locals := by rfl) (hdb : (cn == ("__debug__" : Str)) = false := by decide) :
  PS X.nox (.Try body [.ExceptHandler (some (.Name cn np)) none (b₀ :: suite) hp] [] [] pos) (tTry0 X.K Dc tb th):=by
 intro pins s σ H D I h
 refine wpAny_Try_except (wpAny_mono (hb pins s σ H D _ I h) (fun fl s1 q=>?_) fun e s' z=>?_)
 ·cases fl with
  | next=>exact wpAny_execs_nil q
  | brk=>exact q
  | cont=>exact q
  | ret u=>exact q
 ·obtain ⟨a,rfl⟩ : ∃ a,e = .ref a:=by obtain ⟨_,_,_,a,_,_,_,ea,_⟩:=z; exact ⟨a,ea⟩
  refine to_suite (X:=X) (pins:=pins) (σ:=σ) (name:=none) (W:=fun cls dx H'=>∃ C,cls = .ref C∧∀ e o,H' e = none→XObj o C dx→th e o D σ H') hst hfr hg hm hdb ?_ fun h5 H' C oe J5 na c5 q land=>?_
  ·obtain ⟨H1,s1,I1,a',cls,dx,H',r1,r2,r3,r4,r5,r6,r7,r8,C,rfl,ct,q⟩:=z
   exact ⟨H1,s1,I1,a',_,dx,H',r1,r2,r3,r4,r5,r6,r7,r8,C,rfl,ct,C,rfl,q⟩
  ·obtain ⟨C',e',q⟩:=q
   cases e'
   refine codeAny_handlers_suite (land _ (fun h6 oe6 J6 x6=>?_) _ _)
   refine wpAny_mono (hh a oe6 pins _ _ H' D J6 (q a oe6 na x6)) (fun fl s8 z=>?_) (fun _ _ z=>False.elim z)
   cases fl with
   | next=>obtain ⟨σ',H2,J8,q8⟩:=z; exact ⟨σ',H2,Inv.unhold I.ok J8,q8⟩
   | brk=>obtain ⟨σ',H2,J8,q8⟩:=z; exact ⟨σ',H2,Inv.unhold I.ok J8,q8⟩
   | cont=>obtain ⟨σ',H2,J8,q8⟩:=z; exact ⟨σ',H2,Inv.unhold I.ok J8,q8⟩
   | ret u=>obtain ⟨v,σ',H2,J8,r8,q8⟩:=z; exact ⟨v,σ',H2,Inv.unhold I.ok J8,r8,q8⟩
end
end L2
namespace L2
open PySem PySem.Spec PyProof.Rows PySem.W
section
variable {prog : Program} {w : World} {A : Around} {E : Value→Shared→Prop} {s : Shared} {K : PySem.W.Frag} {x C : Addr} {ox : Obj} {od : Option Obj} {name : Str} {tk : Tok}
end
section
variable {X : Cx} {pins : List (Addr × Obj)} {σ : St} {H : Hp} {s : Shared} {e C : Addr} {o : Obj} {dx : Option Addr}
def XDict (H : Hp) (dx : Option Addr) : Prop:=∀ d,dx = some d→∃ fs,H d = some (.xd fs)
theorem Inv.held (I : Inv X pins σ H s) (hm : (e,o) ∈ X.pn) (x : XObj o C dx) (hd : XDict H dx) : ∃ od,InstAt s.heap e o C od:=by
 have at1:=(I.pin _ (List.mem_append_left _ hm)).1
 cases dx with
 | none=>exact ⟨none,at1,x.cls,x.no,by rw [x.dict]; trivial⟩
 | some d =>
  obtain ⟨fs,hf⟩:=hd d rfl
  obtain ⟨od,ho⟩:=(I.hok d _ hf).has
  exact ⟨some od,at1,x.cls,x.no,by rw [x.dict]; exact ho⟩
end
theorem ec_lookup {K : PySem.W.Frag} {C : Addr} {bm : List Value} (q : ecIn K C bm = true) : ∃ d cd sl, K.lookup C = some ⟨.type "type", d, .cls cd, sl⟩ ∧ cd.mro = .ref C :: bm := by
 unfold ecIn at q
 split at q
 case h_2=>cases q
 case h_1 d cd sl lk =>
  split at q
  case h_2=>cases q
  case h_1 C2 tl a b c d2 n e2 hm hs =>
   simp only [Bool.and_eq_true,beq_iff_eq,Bool.not_eq_true'] at q
   obtain ⟨⟨⟨⟨⟨c1,c2⟩,_⟩,_⟩,_⟩,_⟩:=q
   subst c1 c2
   exact ⟨d,cd,sl,lk,hm⟩
theorem ec_mro {K : PySem.W.Frag} {C : Addr} {bm : List Value} (q : ecIn K C bm = true) (v : Value) : mroIn K C v = some ((Value.ref C :: bm).contains v):=by
 obtain ⟨d,cd,sl,lk,hm⟩:=ec_lookup q
 unfold mroIn clsIn
 rw [lk]
 show (if cd.mro.isEmpty then none else some (cd.mro.contains v)) = _
 rw [hm]
 rfl
end L2
namespace L2
open PySem PySem.Spec PyProof.Rows
section
variable {P : Program} {w : World} {K : PySem.W.Frag} {mg : Str→Option Value} {base : Heap}
theorem Fun.okF {x qual : Str} {st : Stmt} {f : Addr} {fd : FuncData} {N ps : List Str} {k : Nat} {sp : Sp} (F : Fun K x qual st f fd) (S : FnScope N ps (defScope st)) (len : ∀ vs H Q E,sp vs H Q E→vs.length = ps.length)
  (hb : ∀ (cdv : Value) (A : Around) (outer : List Env) (s : Shared) (H : Hp) (vs : List V) (Q : VK) (E : XK),Room k (A.deeper (envOfC qual (defScope st) s.heap.objs.size f cdv))→sp vs H Q E →
   ∃ t,PSs (cxOf (CXF P w) P w K mg base N qual (defScope st) f cdv A outer s H E) (defBody st) t∧t { nx:=fun _ H'=>Q .non H',rt:=Q } (start N vs) H) : FnOk P w K mg base (CXF P w) (k + 1) f fd ps sp:=by
 obtain ⟨oc,od,kV,doc,pm,an,cdv,ct,osl,rfl,lk,hcd⟩:=F.ex
 exact fn_of lk hcd S len fun A outer s H vs Q E hr hsp=>hb cdv A outer s H vs Q E hr hsp
theorem FnOk.never {k : Nat} {f : Addr} {fd : FuncData} {ps : List Str} {sp : Sp} (F : FnOk P w K mg base (CXF P w) k f fd ps sp) : FnOk P w K mg base CX0 k f fd ps (fun vs H Q _=>sp vs H Q E0):=by
 refine ⟨fun vs H Q E h=>F.len vs H Q E0 h,fun A outer s H args us vs Q E hr he hb r h=>codeAny_mono (F.run A outer s H args us vs Q E0 hr he hb r h) fun r s' q=>?_⟩
 cases r with
 | error e =>
  obtain ⟨_,_,_,_,_,_,_,_,_,_,_,_,z⟩:=q
  exact z
 | ok fl=>cases fl <;> exact q
end
abbrev small (xs : List Int) : Prop:=∀ x ∈ xs,x.natAbs < 10 ^ 60
section
open PySem.W
variable {K : PySem.W.Frag} {C D A : Addr} {bd : List Value}
theorem caught_self (q : ecIn K C (.ref A :: excMro) = true) : Caught K C C:=⟨_,_,q,q,by simp⟩
end
end L2
namespace L2
open PySem PySem.Spec PyProof.Rows
def xoAt (C t : Addr) (dx : Option Addr) (e : Addr) : Heap→Prop:=fun h=>h.get? e = some { cls:=.ref C,dict:=dx,data:=.fields #[.ref t,.none,.none,.none,.bool false,.none] }
theorem xo_ok {P : Program} {w : World} {H : Hp} {h : Heap} {C t e : Addr} {dx : Option Addr} (x : xoAt C t dx e h) : ObjOk P w H h e (.ext (xoAt C t dx e)):=⟨x,⟨_,x⟩,fun h1 h2 y k=>k _ y⟩
def drop (H : Hp) (e : Addr) : Hp:=fun b=>if b = e then none else H b
theorem drop_self {H : Hp} {e : Addr} : drop H e e = none:=by unfold drop; rw [if_pos rfl]
theorem drop_ne {H : Hp} {e b : Addr} (h : b ≠ e) : drop H e b = H b:=by unfold drop; rw [if_neg h]
theorem HOk.dropped {P : Program} {w : World} {H : Hp} {h : Heap} {e : Addr} {φ : Heap→Prop} (ok : HOk P w H h) (he : H e = some (.ext φ)) : HOk P w (drop H e) h:=fun a o z=>by
 have ne : a ≠ e:=fun q=>by rw [q,drop_self] at z; cases z
 rw [drop_ne ne] at z
 refine (ok a o z).stay (fun _ _ _ q=>q) (fun b q=>?_) fun b xs q=>?_
 ·rw [drop_ne (fun y=>by rw [y,he] at q; cases q)]; exact q
 ·rw [drop_ne (fun y=>by rw [y,he] at q; cases q)]; exact q
section
variable {P : Program} {w : World} {K : PySem.W.Frag} {mg : Str→Option Value} {base : Heap} {N : List Str} {qual : Str} {scope : Scope} {f : Addr} {cd : Value} {A : Around} {outer : List Env} {s : Shared} {H : Hp} {E : XK}
def RaiseOkI (X : Cx) (C : Addr) (E : XK) : Prop:=∀ (pins : List (Addr × Obj)) (σ : St) (H : Hp) (s : Shared) (e t : Addr) (dx : Option Addr),Inv X pins σ H s→H e = some (.ext (xoAt C t dx e))→X.s₀.heap.get? e = none→E (.ref C) dx (drop H e)→X.xe (.ref e) s
theorem raiseFI {C : Addr} : RaiseOkI (cxOf (CXF P w) P w K mg base N qual scope f cd A outer s H E) C E:=by
 intro pins σ H1 s1 e t dx I hx na' q
 have eL : (cxOf (CXF P w) P w K mg base N qual scope f cd A outer s H E).env.frame = some s.heap.objs.size:=rfl
 generalize hl : frs ((cxOf (CXF P w) P w K mg base N qual scope f cd A outer s H E).stack) = fs
 have hfs : fs = s.heap.objs.size :: frs outer:=by rw [← hl]; exact frs_cons eL
 have he : s1.heap.get? e = some { cls:=.ref C,dict:=dx,data:=.fields #[.ref t,.none,.none,.none,.bool false,.none] }:=(show ObjOk P w H1 s1.heap e (.ext (xoAt C t dx e)) from I.hok e _ hx).1
 have FF:=PySem.W.funFrames_hide (as:=e :: fs) I.stack (fun env he a ha=>List.mem_cons_of_mem _ (by rw [← hl]; exact List.mem_filterMap.mpr ⟨env,he,ha⟩))
 have st : (PySem.W.hideAll s1.heap (e :: fs)).StaysIn s1.heap:=fun b o z=>PySem.W.of_hideAll _ z
 have hen : (PySem.W.hideAll s1.heap (e :: fs)).get? e = none:=PySem.W.hideAll_none _ List.mem_cons_self
 show wpAny _ _ (leaving _ (.ref e)) _ _ _
 refine wpAny_mono ((kd_leaving _ _).any (wpAny_leaving_firstW (Q:=fun _ s''=>Heap.LeftW (PySem.W.hideAll s1.heap (e :: fs)) ((cxOf (CXF P w) P w K mg base N qual scope f cd A outer s H E).env :: outer) e (.ref C) (.ref t) s1.heap s''.heap∧s'' = { s1 with heap:=s''.heap }) I.ok.frames FF eL he st hen rfl rfl rfl fun h' L'=>⟨L',rfl⟩)) (fun _ s'' z=>?_) fun _ _ z=>z
 obtain ⟨⟨⟨k1,⟨_,_,k2⟩,k3,U⟩,es⟩,dk⟩:=z
 have F' : Heap.FlyingW (PySem.W.hideAll s1.heap (e :: fs)) outer e (.ref C) (.ref t) s''.heap:=⟨k1,hen,k2,k3⟩
 obtain ⟨oe',he',_,hd'⟩:=dk e _ he
 have exN : ∀ b : Addr,b ∉ (cxOf (CXF P w) P w K mg base N qual scope f cd A outer s H E).ex:=fun b z=>absurd z (by simp [cxOf])
 have kp : ∀ b o,s1.heap.get? b = some o→b ≠ e→b ∉ fs→(PySem.W.hideAll s1.heap (e :: fs)).get? b = some o:=fun b o z n1 n2=>PySem.W.hideAll_get _ z (fun y=>(List.mem_cons.mp y).elim n1 n2)
 have old : ∀ b o,s.heap.get? b = some o→H b = none→b ∉ frs outer→(PySem.W.hideAll s1.heap (e :: fs)).get? b = some o:=fun b o e' n hb=>by
  refine kp b o (I.base.keep b o e' n hb (exN b)) (fun z=>?_) fun z=>?_
  ·rw [z] at e'
   rw [show s.heap.get? e = none from na'] at e'
   cases e'
  ·rw [hfs] at z
   rcases List.mem_cons.mp z with z | z
   ·rw [z] at e'; exact absurd (Heap.lt_size e') (Nat.lt_irrefl _)
   ·exact hb z
 have trk : ∀ b u o,(drop H1 e) b = some u→s1.heap.get? b = some o→(PySem.W.hideAll s1.heap (e :: fs)).get? b = some o:=fun b u o hu ho=>by
  have ne : b ≠ e:=fun z=>by rw [z,drop_self] at hu; cases hu
  refine kp b o ho ne fun z=>?_
  rw [drop_ne ne] at hu
  have:=I.stkFree b (by rw [hl]; exact z)
  rw [this] at hu; cases hu
 have okd:=I.hok.dropped hx
 have trk' : ∀ b u o,(drop H1 e) b = some u→s''.heap.get? b = some o→(PySem.W.hideAll s1.heap (e :: fs)).get? b = some o:=fun b u o hu ho=>by
  obtain ⟨ob,hob⟩:=(okd b u hu).has
  have z:=trk b u ob hu hob
  rw [F'.1 b ob z] at ho
  cases ho
  exact z
 have nx : ∀ b u,H1 b = some u→(∀ φ,u ≠ .ext φ)→b ≠ e:=fun b u z n y=>by rw [y,hx] at z; cases z; exact n _ rfl
 refine ⟨e,.ref C,dx,drop H1 e,rfl,by rw [es]; exact I.os,by rw [es]; exact I.bare,⟨fun b o e' n hb _=>F'.1 b o (old b o e' n hb),fun b o e' n hb hx'=>?_,fun b o e' n hx'=>?_,fun b o e' hx'=>?_,fun b xs z=>?_,fun b o u z=>?_,fun b ps z=>?_⟩,okd.based trk F'.1,drop_self,na',⟨_,_,F',old,trk',oe',he',hd'⟩,q⟩
 ·obtain ⟨sl,e1⟩:=I.base.slot b o e' n hb (exN b)
  obtain ⟨_,ob,ho,nf⟩:=I.stack.mem (b:=b) (by show b ∈ frs _; rw [hl,hfs]; exact List.mem_cons_of_mem _ hb)
  rw [e1] at ho
  cases ho
  obtain ⟨sl',e2⟩:=U b _ e1 nf
  exact ⟨sl',e2⟩
 ·have z:=I.base.free b o e' n (exN b)
  by_cases hb : b = e
  ·rw [hb]; exact drop_self
  ·rw [drop_ne hb]; exact z
 ·obtain ⟨o',e1⟩:=I.base.there b o e' (exN b)
  obtain ⟨o2,e2,_⟩:=dk b o' e1
  exact ⟨o2,e2⟩
 ·have y:=I.base.tups b xs z
  rw [drop_ne (nx b _ y fun φ q=>by cases q)]; exact y
 ·have y:=I.base.frzs b o u z
  rw [drop_ne (nx b _ y fun φ q=>by cases q)]; exact y
 ·obtain ⟨m,y⟩:=I.base.tbls b ps z
  exact ⟨m,by rw [drop_ne (nx b _ y fun φ q=>by cases q)]; exact y⟩
end
end L2
namespace L2
open PySem PySem.Spec PyProof.Rows PySem.W PySem.Builtin PySem.Builtin.ObjectAttr
structure XSet (K : PySem.W.Frag) (C : Addr) : Prop where
 sa : findIn K (.ref C) "__setattr__" = some (some (.builtin "object.__setattr__"))
 hd : hasDictIn K C = true
section
variable {prog : Program} {w : World} {A : Around} {E : Value→Shared→Prop} {K : PySem.W.Frag} {x C B : Addr} {name : Str} {v : Value}
theorem xs_store {h : Heap} {g : Array GenState} {d : Drawn} {t : Nat} {os : OsState} {o : Obj} {vs : Array Value} {tk : Tok} {b : Bool} {Q : Fin→Shared→Prop} (X : K.In h) (hx : h.get? x = some o) (hc : o.cls = .ref C) (hn : o.dict = none) (hv : o.data = .fields vs) (hd : hasDictIn K C = true)
  (q : ∀ h' tk',h'.get? x = some { o with dict:=some h.objs.size }→h'.Ns1 h.objs.size (fun y=>if y = name then some v else none)→(∀ c oc,c ≠ x→h.get? c = some oc→h'.get? c = some oc)→Q (.done (.ret .none)) ⟨h',g,d,tk',os⟩) :
  wpAny (model prog w) A (storeInOwnDict (.ref x) (.ref C) (.str name tk) name v b) Q E ⟨h,g,d,t,os⟩:=by
 obtain ⟨cd,hcd,hdd⟩:=any_some hd
 have hxs : x ≠ h.objs.size:=Nat.ne_of_lt (Heap.lt_size hx)
 obtain ⟨oc,od,dt,sl⟩:=o
 try dsimp only at hc hn hv
 subst hc hn hv
 refine wpAny_bind (wpAny_pure (wpAny_bind (wpAny_bind (wpAny_loadPart hx (wpAny_bind ((looks_clsIn X hcd).here ?_))))))
 rw [hdd]
 have hx1 := Heap.get?_push_of_some ({ cls := .type "dict", data := .dict #[] } : Obj) hx
 refine wpAny_bind (wpAny_alloc' (wpAny_bind (wpAny_update' hx1 ?_)))
 refine wpAny_pure ?_
 generalize eh : ((h.push { cls := .type "dict", data := .dict #[] }).update x fun o => { cls := o.cls, dict := some h.objs.size, data := o.data, slots := o.slots }) = h2
 have g2 : h2.get? h.objs.size = some { cls := .type "dict", data := .dict #[] } := by rw [← eh]; exact (Heap.get?_update_ne _ _ _ _ hxs.symm).trans (Heap.get?_push_at rfl rfl)
 have gx : h2.get? x = some { cls:=.ref C,dict:=some h.objs.size,data:=.fields vs,slots:=sl }:=by rw [← eh]; exact Heap.get?_update_self _ hx1 rfl
 have go : ∀ c oc,c ≠ x→h.get? c = some oc→h2.get? c = some oc:=fun c oc n z=>by rw [← eh]; exact (Heap.get?_update_ne _ _ _ _ n).trans (Heap.get?_push_of_some _ z)
 have nd : h2.Ns h.objs.size (fun _=>none):=⟨_,#[],_,g2,rfl,fun e he=>absurd he (by simp),fun _=>rfl⟩
 show wpAny _ _ (storeInDict h.objs.size (.str name tk) name v) _ _ _
 unfold storeInDict newKeyGuard
 refine wpAny_bind (wpAny_pure (wpAny_bind (wpAny_nsSet1 (Heap.Ns1.of_empty nd) fun h' n' sm=>?_)))
 obtain ⟨oD,esD,epD,o1,o2,o3⟩:=n'.count (Within.cons name v Within.nil)
 refine wpAny_bind (wpAny_lookBehind o1 (by rw [o2]; exact pastItsLine_dict (Nat.le_trans o3 (by rw [List.length_cons,List.length_nil,sizeLine_eq]; omega))) ?_)
 exact wpAny_pure (q h' _ ((sm.2 x hxs).trans gx) n' fun c oc n z=>(sm.2 c (Nat.ne_of_lt (Heap.lt_size z))).trans (go c oc n z))
theorem xs_set {s : Shared} {o : Obj} {vs : Array Value} {bm : List Value} {Q : Unit→Shared→Prop} (X : K.In s.heap) (hx : s.heap.get? x = some o) (hc : o.cls = .ref C) (hn : o.dict = none) (hv : o.data = .fields vs) (ec : ecIn K C (.ref B :: excMro) = true) (a : XSet K C) (na : findIn K (.ref C) name = some none)
  (q : ∀ h' tk',h'.get? x = some { o with dict:=some s.heap.objs.size }→h'.Ns1 s.heap.objs.size (fun y=>if y = name then some v else none)→(∀ c oc,c ≠ x→s.heap.get? c = some oc→h'.get? c = some oc)→Q () { s with heap:=h',toks:=tk' }) :
  wpAny (model prog w) A (setAttr (.ref x) name v) Q E s:=by
 have I : InstAt s.heap x o C none:=⟨hx,hc,by unfold notCls; rw [hv],by rw [hn]; trivial⟩
 obtain ⟨h,g,d,t,os⟩:=s
 refine set_plain X I a.sa ?_
 have SF:=PySem.F.store_object
 have sub : Looks (model prog w) h (isInstance (.ref x) (.type "object")) true := I.type.andThen (looks_mroIn X ((ec_mro ec _).trans (by simp)))
 refine codeAny_call_builtin SF.slot.plain SF.entry (@check_slot (model prog w) _ _ ⟨h, g, d, t + 1, os⟩ "object.__setattr__" "object" "__setattr__" (.ref x) [.str name t, v] [] _ SF.kind SF.split sub (SF.args (.ref x) (.str name t) v) ?_)
 obtain ⟨dd,cd,sl,lk,hm⟩:=ec_lookup ec
 have hcd : clsIn K C = some cd:=by unfold clsIn; rw [lk]
 have L1 : Looks (model prog w) h (mroOf (.ref C)) cd.mro:=(looks_clsIn X hcd).andThen .now
 have L0:=I.type (M:=model prog w)
 have L2:=looks_findIn (M:=model prog w) X na
 try dsimp only at L0 L2
 rw [osa_eq,refuse_eq]
 refine wpAny_bind (wpAny_bind (L0.at (wpAny_bind (L1.at ?_))))
 rw [hm,refuseLoop_ref,refuseLoop_ref,PySem.F.store_ValueError.passes]
 refine wpAny_pure (wpAny_bind (L0.at (wpAny_bind (L2.at (wpAny_bind ?_)))))
 refine wpAny_pure ?_
 exact xs_store X hx hc hn hv a.hd fun h' tk' z1 z2 z3=>q h' tk' z1 z2 z3
end
end L2
namespace L2
open PySem PySem.Spec PyProof.Rows PySem.W
section
variable {X : Cx} {pins : List (Addr × Obj)} {σ : St} {H : Hp} {s : Shared} {e C B t : Addr}
theorem Inv.dictLaid {h' : Heap} {tk : Nat} {f : Str} {y : V} {u : Value} {dx : Addr} (I : Inv X pins σ H s) (he : H e = some (.ext (xoAt C t none e))) (hdx : s.heap.objs.size = dx) (ry : RelV y u) (z1 : xoAt C t (some dx) e h') (z2 : h'.Ns1 dx (fun n=>if n = f then some u else none))
  (z3 : ∀ c oc,c ≠ e→s.heap.get? c = some oc→h'.get? c = some oc) : Inv X pins σ (upd (upd H dx (.xd [(f,y)])) e (.ext (xoAt C t (some dx) e))) { s with heap:=h',toks:=tk }:=by
 subst hdx
 have nd : H s.heap.objs.size = none:=I.hok.fresh (Nat.le_refl _)
 have ned : e ≠ s.heap.objs.size:=fun z=>by rw [← z,he] at nd; cases nd
 have ne : ∀ b u,H b = some u→(∀ φ,u ≠ .ext φ)→b ≠ e:=fun b u z n q=>by rw [q,he] at z; cases z; exact n _ rfl
 have nz : ∀ b u,H b = some u→b ≠ s.heap.objs.size:=fun b u z q=>by rw [q,nd] at z; cases z
 have kp : ∀ b u,H b = some u→(∀ φ,u ≠ .ext φ)→upd (upd H s.heap.objs.size (.xd [(f,y)])) e (.ext (xoAt C t (some s.heap.objs.size) e)) b = some u:=fun b u z n=>by rw [upd_ne (ne b u z n),upd_ne (nz b u z)]; exact z
 have fr : ∀ b o,s.heap.get? b = some o→H b = none→b ≠ e:=fun b o _ n q=>by rw [q,he] at n; cases n
 refine I.un (h':=h') (t':=tk) ⟨fun b o z n _ _=>z3 b o (fr b o z n) z,fun b o z n _ _=>⟨o.slots,z3 b o (fr b o z n) z⟩,fun b o z n _=>?_,fun b o z _=>?_,fun b xs z=>kp b _ z fun φ q=>(by cases q),fun b o u z=>kp b _ z fun φ q=>(by cases q),fun b ps z=>⟨#[],by rw [kp b _ z fun φ q=>(by cases q)]; simp⟩⟩ fun a o z=>?_
 ·rw [upd_ne (fr b o z n),upd_ne (Nat.ne_of_lt (Heap.lt_size z))]; exact n
 ·by_cases hb : b = e
  ·rw [hb]; exact ⟨_,z1⟩
  ·exact ⟨o,z3 b o hb z⟩
 ·by_cases ha : a = e
  ·subst ha
   rw [upd_same] at z
   cases z
   exact xo_ok z1
  ·rw [upd_ne ha] at z
   by_cases hz : a = s.heap.objs.size
   ·subst hz
    rw [upd_same] at z
    cases z
    refine ⟨_,z2,fun n=>?_⟩
    by_cases hn : n = f
    ·subst hn
     simp only [List.lookup,beq_self_eq_true,if_pos rfl]
     exact ry
    ·have : (n == f) = false:=by simpa using hn
     simp only [List.lookup,this,if_neg hn]
     trivial
   ·rw [upd_ne hz] at z
    refine (I.hok a o z).stay (fun b u hb q=>z3 b u ?_ q) (fun b q=>kp b _ q fun φ r=>(by cases r)) fun b xs q=>kp b _ q fun φ r=>(by cases r)
    rcases hb with rfl | hb
    ·exact ha
    ·exact ne b _ hb fun φ r=>(by cases r)
theorem ps_xset {o value : Expr} {f : Str} {ta tv : TE} {pos pos' : Pos} (ha : PE X o ta) (hv : PE X value tv) (hs : swapsWith value (some (.Attribute o f pos')) pos.line X.env = pure false:=by rfl) : PS X (.Assign [.Attribute o f pos'] value pos)
  (fun D σ H=>tv σ H fun y H1=>ta σ H1 fun x H2=>∃ e C B t,x = .ref e∧H2 e = some (.ext (xoAt C t none e))∧ecIn X.K C (.ref B :: excMro) = true∧XSet X.K C∧NoAttr X.K C f∧∀ dx,H2 dx = none→D.nx σ (upd (upd H2 dx (.xd [(f,y)])) e (.ext (xoAt C t (some dx) e)))):=by
 intro pins s σ H D I h
 refine plainObj_wpAny_Assign_Attribute (thn (hv pins s σ H _ I h) fun u s1 hz=>?_) hs
 obtain ⟨y,H1,I1,ry,q⟩:=hz
 refine thn (ha pins s1 σ H1 _ I1 q) fun ov s2 hz=>?_
 obtain ⟨x,H2,I2,rx,e,C,B,t,ex,he,ec,xs,na,q2⟩:=hz
 subst ex
 obtain rfl : ov = Value.ref e:=rx
 have hx:=(show ObjOk X.prog X.w H2 s2.heap e (.ext (xoAt C t none e)) from I2.hok e _ he).1
 refine xs_set (bm:=[]) I2.kIn hx rfl rfl rfl ec xs na fun h' tk' z1 z2 z3=>?_
 exact ⟨σ,_,I2.dictLaid he rfl ry z1 z2 z3,q2 _ (I2.hok.fresh (Nat.le_refl _))⟩
structure XBase (K : PySem.W.Frag) (B : Addr) : Prop where
 ga : specialIn K (.ref B) "__getattribute__" = some (some (.builtin "type.__getattribute__"))
 rd : readsIn K B (.type "type") = true
 fi : findCls K (.ref B) (.type "type") "__init__" = some (.val (.builtin "ValueError.__init__"))
theorem ps_xinit {pl : Sem Bool} {cn : Str} {p ap pos epos : Pos} {e1 e2 : Expr} {ta : TA} (xb : XBase X.K B) (hg : Gl X cn) (hm : X.mg cn = some (.ref B)) (ha : PA X [e1, e2] ta) (hdb : (cn == ("__debug__" : Str)) = false := by decide)
  (hs : swapsWith (.Call (.Attribute (.Name cn p) "__init__" ap) [e1, e2] [] pos) none epos.line X.env = pure false := by rfl)
  (hst : starEach (e1 :: [e2]) X.env = (false,eval e1 X.env) :: starEach [e2] X.env:=by rfl) (hpl : (backTo pos (starEach [e2] X.env)).any (·.1) = false:=by rfl)
  (ht : eval (.Call (.Attribute (.Name cn p) "__init__" ap) [e1, e2] [] pos) X.env = (do
   let ov ← eval (.Name cn p) X.env
   standAt ap.atName
   let (f, first) ← holding [ov] (getMethod ov "__init__" pl)
   callWith pos f first (backTo pos (starEach [e1,e2] X.env)) (backToKw pos (keywordEach [] X.env))):=by rfl) :
  PS X (.Expr (.Call (.Attribute (.Name cn p) "__init__" ap) [e1, e2] [] pos) epos) (fun D σ H => ta σ H fun vs H1 => ∃ e C t w, vs = [.ref e, w] ∧ H1 e = some (.ext (xoAt C t none e)) ∧ ecIn X.K C (.ref B :: excMro) = true ∧ ∀ t', D.nx σ (upd H1 e (.ext (xoAt C t' none e)))) := by
 intro pins s σ H D I h
 refine wpAny_Expr_any (methodCall_KW (pl:=pl) (ld_glob I hg hm ?_ hdb) ht) I.quiet hs
 refine method_cls I.kIn xb.ga (cls_value I.kIn xb.rd xb.fi rfl ?_)
 have I0:=I.tok (s.toks + 1)
 refine PyProof.Rows.callWith_builtin1 (thn (ha pos pins _ σ H _ I0 h) fun us s1 hz=>?_) hst hpl
 obtain ⟨vs,H1,I1,r,e,C,t,w,ev,he,ec,q⟩:=hz
 subst ev
 obtain ⟨u1,u2,rfl,r1,r2⟩:=vals2 r
 obtain rfl : u1 = Value.ref e:=r1
 have hx:=(show ObjOk X.prog X.w H1 s1.heap e (.ext (xoAt C t none e)) from I1.hok e _ he).1
 obtain ⟨N,mN,xc,_⟩:=ExcCls.of I1.ok.mod.kin ec
 obtain ⟨nm,qn,bs,hd,sn,sub,ab,col,dd,k0,k1,k2,k3,k5,e0,n0,t0⟩:=xc.keeps I1.bk
 obtain ⟨hp,g,d,tt,os⟩:=s1
 refine wpAny_call (codeAny_call_builtin PySem.F.excBase_ValueError.init.plain PySem.F.excBase_ValueError.initEntry (wpAny_check_init_subT PySem.F.excBase_ValueError t0 e0 hx rfl ?_))
 wp_walk
 show SP X pins D .next _
 have hxe := Heap.get?_push_of_some ({ cls := .type "tuple", data := .seq #[u2] } : Obj) hx
 have hz:=Heap.get?_update_self (Obj.mapFields (·.setIfInBounds 0 (Value.ref hp.objs.size))) hxe rfl
 refine ⟨σ,_,I1.write (x:=e) (e:=e) (o:=.ext (xoAt C hp.objs.size none e)) (t':=tt) (by rw [he]; trivial) (.inl rfl) (fun b u n z=>(Heap.get?_update_other _ _ (Ne.symm n)).trans (Heap.get?_push_of_some _ z)) ⟨_,hz⟩ (xo_ok hz),q _⟩
structure XInit (K : PySem.W.Frag) (C : Addr) (bm : List Value) (f : Addr) : Prop where
 ec : ecIn K C bm = true
 fi : findIn K (.ref C) "__init__" = some (some (.ref f))
 fn : isFn K (.ref f) = true
 kp : keepIn K (.ref C) = true
theorem xi_call {prog : Program} {w : World} {A : Around} {E : Value→Shared→Prop} {K : PySem.W.Frag} {C fI : Addr} {bm us : List Value} {h : Heap} {g : Array GenState} {d : Drawn} {t : Nat} {os : OsState} {Q : Value→Shared→Prop} (KX : K.In h) (c : XInit K C bm fI) (hl : us.length ≤ sizeLine)
  (q : wpAny (model prog w) (A.under (.builtin "type.__call__" ⟨.ref C :: us, []⟩)) (call (.ref fI) (.ref (h.objs.size + 1) :: us)) (fun r s' => r = .none ∧ Q (.ref (h.objs.size + 1)) s') E
   ⟨(h.push { cls := .type "tuple", data := .seq us.toArray }).push { cls := .ref C, data := .fields #[.ref h.objs.size, .none, .none, .none, .bool false, .none] }, g, d, t, os⟩) :
  wpAny (model prog w) A (call (.ref C) us) Q E ⟨h,g,d,t,os⟩:=by
 have BF:=PySem.F.excBase_ValueError
 obtain ⟨N,mN,xc,_⟩:=ExcCls.of KX c.ec
 obtain ⟨nm,qn,bs,hdd,sn,sub,ab,col,dd,k0,k1,k2,k3,k5,cAt,n0,tl⟩:=xc
 have w1:=tc_lookup
 have w2:=tc_bind (.ref C)
 have w3 : (⟨h, g, d, t, os⟩ : Shared).TypeIs (.ref C) "type" := ⟨_, cAt, rfl⟩
 refine wpAny_call (codeAny_of_tree ?_)
 show wpAny _ _ (callAny (.ref C) _) _ _ _
 repeat (any_goals (first | assumption | with_reducible refine wpAny_loadPart_at cAt ?_ | wp_step))
 refine ⟨rfl,codeAny_call_builtin_at (Code.quiet_builtin _ (by decide +kernel)) entry_typeCall (wpAny_check_type_call_sub cAt ?_)⟩
 repeat (first | with_reducible refine wpAny_loadPart_at cAt ?_ | with_reducible refine wpAny_madeBy_exc cAt ?_ | wp_step)
 refine codeAny_call_builtin_code (Code.quiet_builtin _ BF.quiet) (wpAny_check_new_subT BF tl cAt (codeAny_exc_new_subT BF tl cAt ?_ hl))
 show wpAny _ _ _ _ _ _
 have kp : ∀ b o, h.get? b = some o → ((h.push { cls := .type "tuple", data := .seq us.toArray }).push { cls := .ref C, data := .fields #[.ref h.objs.size, .none, .none, .none, .bool false, .none] }).get? b = some o := fun b o z => Heap.get?_push_of_some _ (Heap.get?_push_of_some _ z)
 have new : ((h.push { cls := .type "tuple", data := .seq us.toArray }).push { cls := .ref C, data := .fields #[.ref h.objs.size, .none, .none, .none, .bool false, .none] }).get? (h.objs.size + 1) = some { cls := .ref C, data := .fields #[.ref h.objs.size, .none, .none, .none, .bool false, .none] } := by heap_get
 have cAt2:=kp _ _ cAt
 have KX2:=KX.keeps kp
 have hself : (Value.ref C :: bm).contains (.ref C) = true:=by simp
 have L1:=looks_findIn (M:=model prog w) KX2 c.fi
 have L2:=bind_fn (M:=model prog w) KX2 (.ref (h.objs.size + 1)) (beq_iff_eq.mp c.fn)
 unfold isInstance
 repeat (first | with_reducible refine wpAny_loadPart_at new ?_ | (with_reducible refine wpAny_isSubtype_exc cAt2 ?_; rw [hself]) | wp_step)
 refine wpAny_isSubtype_exc cAt2 ?_
 rw [hself]
 repeat wp_step
 show wpAny _ _ (typeLookup (.ref C) _) _ _ _
 refine L1.at ?_
 refine wpAny_holding (wpAny_bind (L2.at ?_))
 refine wpAny_bind (wpAny_mono q (fun r s' z=>?_) fun _ _ z=>z)
 obtain ⟨rfl,z⟩:=z
 wp_walk
 exact z
end
end L2
namespace L2
open PySem PySem.Spec PyProof.Rows PySem.W
theorem xr_stmt {M : Model} {A : Around} {E : Value→Shared→Prop} {env : Env} {s : Shared} {x : Sem Value} {Q : Flow→Shared→Prop} (hh : A.handled = none)
  (h : wpAny M A x (fun v s1=>∃ e C t dx bm N mN,v = .ref e∧ExcCls s1.heap C bm N mN∧s1.heap.get? e = some { cls:=.ref C,dict:=dx,data:=.fields #[.ref t,.none,.none,.none,.bool false,.none] }∧E (.ref e) s1) E s) : wpAny M A (raiseStmt env (some x) none) Q E s:=by
 unfold raiseStmt
 refine wpAny_bind (wpAny_mono h (fun v s1 z=>?_) fun _ _ z=>z)
 obtain ⟨e,C,tt,dx,bm,N,mN,rfl,xc,he,q⟩:=z
 obtain ⟨nm,qn,bs,hdd,sn,sub,ab,col,dd,k0,k1,k2,k3,k5,cAt,n0,tl⟩:=xc
 have hb : (Value.ref C :: bm).contains (.type "BaseException") = true := by rw [List.contains_cons, tl.hasType PySem.F.excBase_ValueError.hasBase, Bool.or_true]
 obtain ⟨hp,g,d,tk,os⟩:=s1
 repeat (first | with_reducible refine wpAny_loadPart_at he ?_ | with_reducible refine wpAny_loadPart_at cAt ?_ | (with_reducible refine wpAny_isSubtype_exc cAt ?_; rw [hb]) | wp_step)
 exact wpAny_raiseNew_none hh q
section
variable {X : Cx} {C f : Addr} {bm : List Value} {E : XK} {k : Nat} {fd : FuncData} {ps : List Str} {sp : Sp}
theorem run_xmake {pins : List (Addr × Obj)} {σ : St} {H : Hp} {s : Shared} {Z : Value→Shared→Prop} {us : List Value} {vs : List V} (c : XInit X.K C bm f) (F : FnOk X.prog X.w X.K X.mg X.base CX0 k f fd ps sp) (hr : Room (k + 1) X.A) (hb : Binds X.K fd ps [])
  (I : Inv X pins σ H s) (r : Vals vs us) (hl : vs.length ≤ sizeLine) {W : Addr→Hp→Prop}
  (h : ∀ e t,H e = none→sp (.ref e :: vs) (upd H e (.ext (xoAt C t none e))) (fun v H2=>v = .non∧W e H2) E0)
  (q : ∀ e H2 s2,Inv X pins σ H2 s2→s.heap.objs.size ≤ e→W e H2→Z (.ref e) s2) : wpAny (model X.prog X.w) X.A (call (.ref C) us) Z X.xe s:=by
 have lu : us.length ≤ sizeLine:=by rw [← r.length]; exact hl
 obtain ⟨hp,g,d,tk,os⟩:=s
 refine xi_call I.kIn c lu ?_
 have hq:=h (hp.objs.size + 1) hp.objs.size (I.hok.fresh (Nat.le_succ _))
 have new : xoAt C hp.objs.size none (hp.objs.size + 1) ((hp.push { cls := .type "tuple", data := .seq us.toArray }).push { cls := .ref C, data := .fields #[.ref hp.objs.size, .none, .none, .none, .bool false, .none] }) := by
  unfold xoAt
  heap_get
 have I2:=I.laid (a:=hp.objs.size + 1) (o:=.ext (xoAt C hp.objs.size none (hp.objs.size + 1))) (t':=tk) (fun b u z=>Heap.get?_push_of_some _ (Heap.get?_push_of_some _ z)) (Nat.le_succ _) (xo_ok new)
 have r2 : Vals (V.ref (hp.objs.size + 1) :: vs) (Value.ref (hp.objs.size + 1) :: us):=.cons rfl r
 have hlen : (Value.ref (hp.objs.size + 1) :: us).length = ps.length:=by rw [← r2.length]; exact F.len _ _ _ _ hq
 have bnd:=hb _ (Value.ref (hp.objs.size + 1) :: us) I2.kIn (by rw [List.append_nil]; exact hlen)
 rw [List.append_nil] at bnd
 refine wpAny_call (codeAny_mono (F.run _ X.stack _ _ ⟨Value.ref (hp.objs.size + 1) :: us,[]⟩ _ _ _ E0 (hr.make C us []) (I2.env0.make C us []) bnd r2 hq) fun r s' hq'=>?_)
 cases r with
 | error e=>exact False.elim hq'
 | ok fl =>
  cases fl with
  | ret u =>
   obtain ⟨v,H',I3,rv,ev,q3⟩:=I2.after hq'
   subst ev
   exact ⟨rv,q _ H' s' I3 (Nat.le_succ _) q3⟩
  | next=>exact False.elim hq'
  | brk=>exact False.elim hq'
  | cont=>exact False.elim hq'
def tRaiseI (C : Addr) (sp : Sp) (E : XK) (t : TA) : TS:=fun _ σ H=>t σ H fun vs H1=>vs.length ≤ sizeLine∧∀ e t,H1 e = none→sp (.ref e :: vs) (upd H1 e (.ext (xoAt C t none e))) (fun v H2=>v = .non∧∃ t' dx,H2 e = some (.ext (xoAt C t' dx e))∧E (.ref C) dx (drop H2 e)) E0
theorem ps_raiseI {x : Str} {np cpos pos : Pos} {e : Expr} {es : List Expr} {t : TA} (R : RaiseOkI X C E) (c : XInit X.K C bm f) (F : FnOk X.prog X.w X.K X.mg X.base CX0 k f fd ps sp) (hr : Room (k + 1) X.A) (hg : Gl X x) (hm : X.mg x = some (.ref C)) (hb : Binds X.K fd ps []) (ha : PA X (e :: es) t)
  (hc : X.calm = true := by rfl) (hdb : (x == ("__debug__" : Str)) = false := by decide) (he : starEach (e :: es) X.env = (false, eval e X.env) :: starEach es X.env := by rfl) (hpl : (backTo cpos (starEach es X.env)).any (·.1) = false := by rfl) :
  PS X (.Raise (some (.Call (.Name x np) (e :: es) [] cpos)) none pos) (tRaiseI C sp E t):=by
 intro pins s σ H D I h
 have go : wpAny (model X.prog X.w) X.A (eval (.Call (.Name x np) (e :: es) [] cpos) X.env) (fun v s1=>∃ e C t dx bm N mN,v = .ref e∧ExcCls s1.heap C bm N mN∧s1.heap.get? e = some { cls:=.ref C,dict:=dx,data:=.fields #[.ref t,.none,.none,.none,.bool false,.none] }∧X.xe (.ref e) s1) X.xe s:=by
  refine wpAny_Call_Name_kw (ld_glob I hg hm ?_ hdb)
  refine callWith_K (h₀:=X.base) I.ok.mod.kin c.kp (thn (ha cpos pins s σ H _ I h) fun us s1 ⟨vs,H1,I1,r,hl,q⟩=>⟨I1.kIn,?_⟩) he hpl
  refine run_xmake c F hr hb I1 r hl (W:=fun e H2=>∃ t' dx,H2 e = some (.ext (xoAt C t' dx e))∧E (.ref C) dx (drop H2 e)) q fun e H2 s2 I2 hz ⟨t',dx,hx,qe⟩=>?_
  have hx2:=(show ObjOk X.prog X.w H2 s2.heap e (.ext (xoAt C t' dx e)) from I2.hok e _ hx).1
  obtain ⟨N,mN,xc,_⟩:=ExcCls.of I2.ok.mod.kin c.ec
  exact ⟨e,C,t',dx,bm,N,mN,rfl,xc.keeps I2.bk,hx2,R pins σ H2 s2 e t' dx I2 hx (Heap.get?_none_of_le (Nat.le_trans I1.sz hz)) qe⟩
 rw [arm_exec_Raise]
 first
  | exact wpAny_bind (wpAny_standAt (xr_stmt (I.ok.hd hc) go))
  | exact wpAny_bind (wpAny_standAt (xr_stmt (I.ok.hd hc) (wpAny_bind (wpAny_mono go (fun v s2 z=>wpAny_bind (wpAny_standAt (wpAny_pure z))) fun _ _ z=>z))))
  | (simp only [evalOpt,Option.map]; exact wpAny_bind (wpAny_standAt (xr_stmt (I.ok.hd hc) (wpAny_bind (wpAny_mono go (fun v s2 z=>wpAny_bind (wpAny_standAt (wpAny_pure z))) fun _ _ z=>z)))))
end
inductive spXI (C : Addr) (f : Str) (vs : List V) (H : Hp) (Q : VK) (z_3 : XK) : Prop
 | mk : ∀ (e t : Addr) (w : Str) (y : V),(vs = [.ref e,.str w,y])→(H e = some (.ext (xoAt C t none e)))→(∀ dx t',H dx = none→Q .non (upd (upd (upd H e (.ext (xoAt C t' none e))) dx (.xd [(f,y)])) e (.ext (xoAt C t' (some dx) e))))→spXI C f vs H Q z_3
theorem xi_flies {C : Addr} {f w : Str} {y : V} {H : Hp} {E : XK} (hE : ∀ (dx : Addr) (H' : Hp),Same H H'→H dx = none→H' dx = some (.xd [(f,y)])→E (.ref C) (some dx) H') : ∀ (e t : Addr),H e = none→spXI C f (.ref e :: [.str w,y]) (upd H e (.ext (xoAt C t none e)))
  (fun v H2=>v = .non∧∃ t' dx,H2 e = some (.ext (xoAt C t' dx e))∧E (.ref C) dx (drop H2 e)) E0:=fun e t ne=>by
 refine ⟨e,t,w,y,rfl,upd_same,fun dx t' nd=>⟨rfl,t',some dx,upd_same,?_⟩⟩
 have ned : dx ≠ e:=fun z=>by rw [z,upd_same] at nd; cases nd
 rw [upd_ne ned] at nd
 refine hE dx _ (fun b o z=>?_) nd ?_
 ·have h1 : b ≠ e:=fun q=>by rw [q,ne] at z; cases z
  have h2 : b ≠ dx:=fun q=>by rw [q,nd] at z; cases z
  rw [drop_ne h1,upd_ne h1,upd_ne h2,upd_ne h1,upd_ne h1]
  exact z
 ·rw [drop_ne ned,upd_ne ned,upd_same]
end L2
namespace L2
open PySem PySem.Spec PyProof.Rows
end L2
namespace L2
open PySem PySem.Spec PyProof.Rows PySem.SeqAt
def vm : Option Int→V
 | none=>.non
 | some i=>.int i
abbrev vmk (ms : List (Option Int)) : List V:=ms.map vm
def nomo : Option Int→Option Int→Bool
 | _,none=>true
 | none,some _=>false
 | some i,some j=>decide (i ≤ j)
def undB (l h : List (Option Int)) : Bool:=(List.zipWith nomo l h).all id
def gNo : V→V→V
 | _,.non=>.bl true
 | .non,.int _=>.bl false
 | .int i,.int j=>.bl (decide (i ≤ j))
 | _,_=>.non
theorem gNo_vm (a b : Option Int) : gNo (vm a) (vm b) = .bl (nomo a b):=by
 cases a <;> cases b <;> rfl
theorem zip_no : ∀ (l h : List (Option Int)),List.zipWith gNo (vmk l) (vmk h) = (List.zipWith nomo l h).map V.bl
 | [],_=>rfl
 | _ :: _,[]=>rfl
 | a :: l,b :: h=>by
  show gNo (vm a) (vm b) :: List.zipWith gNo (vmk l) (vmk h) = _
  rw [zip_no l h,gNo_vm]
  rfl
theorem vmk_len (ms : List (Option Int)) : (vmk ms).length = ms.length:=List.length_map ..
theorem vmk_mem {ms : List (Option Int)} {x : V} (h : x ∈ vmk ms) : ∃ o,o ∈ ms∧x = vm o:=by
 obtain ⟨n,hn,e⟩:=List.mem_map.mp h
 exact ⟨n,hn,e.symm⟩
theorem vmk_at {ms : List (Option Int)} {k : Nat} (h : k < ms.length) : atI (vmk ms) (k : Int) = some (vm ms[k]):=by
 refine atI_nat ?_
 rw [List.getElem?_map,List.getElem?_eq_getElem h]
 rfl
theorem vmk_at0 {ms : List (Option Int)} {k : Nat} (h : k < ms.length) : atI (vmk ms) (0 + (k : Int)) = some (vm ms[k]):=by rw [Int.zero_add]; exact vmk_at h
theorem und_not : ∀ {l h : List (Option Int)} {i : Nat} (h1 : i < l.length) (h2 : i < h.length),nomo l[i] h[i] = false→undB l h = false
 | x :: xs,y :: ys,0,_,_,h=>by
  have h : nomo x y = false:=h
  unfold undB
  rw [List.zipWith_cons_cons,List.all_cons]
  simp [h]
 | x :: xs,y :: ys,i + 1,h1,h2,h=>by
  have ih:=und_not (l:=xs) (h:=ys) (i:=i) (by simpa using h1) (by simpa using h2) (by simpa using h)
  unfold undB at ih ⊢
  rw [List.zipWith_cons_cons,List.all_cons,ih]
  simp
section
variable {X : Cx}
end
def PairIn (H : Hp) (a : Addr) (p : List (Option Int) × List (Option Int)) : Prop :=
 ∃ lp hp,H a = some (.tup [.ref lp,.ref hp])∧H lp = some (.lst (vmk p.1))∧H hp = some (.lst (vmk p.2))∧p.1.length = p.2.length∧p.1.length ≤ 70
theorem PairIn.same {H H' : Hp} {a : Addr} {p : List (Option Int) × List (Option Int)} (h : PairIn H a p) (S : Same H H') : PairIn H' a p :=
 let ⟨lp,hp,h1,h2,h3,h4⟩:=h; ⟨lp,hp,S _ _ h1,S _ _ h2,S _ _ h3,h4⟩
end L2
namespace L2
open PySem PySem.Spec PyProof.Rows
end L2
namespace L2
open PySem PySem.Spec PyProof.Rows PySem.SeqAt
theorem vm_inj {a b : Option Int} : vm a = vm b ↔ a = b:=by
 constructor
 ·intro h
  cases a <;> cases b <;> first | rfl | cases h
  rfl
 ·intro h; rw [h]
theorem eqV_vm (a b : Option Int) : eqV (vm a) (vm b) = decide (a = b):=by
 cases a <;> cases b <;> simp [vm,eqV,Bool.beq_eq_decide_eq]
theorem scal_vm (a b : Option Int) : scal (vm a) (vm b) = true:=by
 cases a <;> cases b <;> rfl
theorem flat_vm (a : Option Int) : flatV (vm a) = true:=by cases a <;> rfl
theorem all_eq_mk {l h : List (Option Int)} (hl : l.length = h.length) : (List.range l.length).all (fun j=>eqV ((vmk l).getD j .non) ((vmk h).getD j .non)) = decide (l = h):=by
 rw [Bool.eq_iff_iff,List.all_eq_true,decide_eq_true_eq]
 constructor
 ·intro z
  refine List.ext_getElem hl fun i h1 h2=>?_
  have q:=z i (List.mem_range.mpr h1)
  simp only [vmk,List.getD_eq_getElem?_getD,List.getElem?_map,List.getElem?_eq_getElem h1,List.getElem?_eq_getElem h2,Option.map_some,Option.getD_some,eqV_vm,decide_eq_true_eq] at q
  exact q
 ·rintro rfl i hi
  have h1:=List.mem_range.mp hi
  simp only [vmk,List.getD_eq_getElem?_getD,List.getElem?_map,List.getElem?_eq_getElem h1,Option.map_some,Option.getD_some,eqV_vm,decide_true]
section
variable {X : Cx} {pins : List (Addr × Obj)} {σ : St} {H : Hp} {s : Shared} {A : Around} {a b : Addr} {l h : List (Option Int)}
theorem mk_eqAt {its its2 : List Value} (rv : Vals (vmk l) its) (rw' : Vals (vmk h) its2) : ∀ j (h1 : j < its.toArray.size) (h2 : j < its2.toArray.size),EqAt A s its.toArray[j] its2.toArray[j] (eqV ((vmk l).getD j .non) ((vmk h).getD j .non)):=by
 intro j h1 h2
 have l1:=rv.length
 have l2:=rw'.length
 have k1 : j < (vmk l).length:=by rw [l1]; simpa using h1
 have k2 : j < (vmk h).length:=by rw [l2]; simpa using h2
 obtain ⟨u,hu,ru⟩:=rv.get (List.getElem?_eq_getElem k1)
 obtain ⟨v,hv,rv2⟩:=rw'.get (List.getElem?_eq_getElem k2)
 have g1 : its.toArray[j] = u:=by simpa using (List.getElem?_eq_some_iff.mp hu).2
 have g2 : its2.toArray[j] = v:=by simpa using (List.getElem?_eq_some_iff.mp hv).2
 rw [g1,g2]
 have f : ∀ {q : List (Option Int)} (k : j < (vmk q).length),flatV (vmk q)[j] = true∧(vmk q).getD j .non = (vmk q)[j]:=fun {q} k=>by
  refine ⟨?_,?_⟩
  ·simp only [vmk,List.getElem_map]; exact flat_vm _
  ·rw [List.getD_eq_getElem?_getD,List.getElem?_eq_getElem k]; rfl
 rw [(f k1).2,(f k2).2]
 exact eqAt_V ru rv2 (f k1).1 (f k2).1
theorem rc_mk (I : Inv X pins σ H s) (hu : A.units < cLine) (qa : SqL X.K H a (vmk l)) (qb : SqL X.K H b (vmk h)) : RcAt A s (.ref a) (.ref b) (decide (l = h)):=by
 obtain ⟨its,rv,p,_⟩:=I.list qa
 obtain ⟨its2,rw',p2,_⟩:=I.list qb
 have l1:=rv.length
 have l2:=rw'.length
 rw [vmk_len] at l1 l2
 by_cases e : l.length = h.length
 ·have q:=RcAt.lists (A:=A) p.isList p2.isList (by simp; omega) hu (mk_eqAt rv rw')
  have e2 : its.toArray.size = l.length:=by simp; omega
  rw [e2,all_eq_mk e] at q
  exact q
 ·rw [decide_eq_false fun z=>e (by rw [z])]
  exact RcAt.lists_lengths p.isList p2.isList (by simp; omega) hu
inductive rEqM (K : PySem.W.Frag) (x : V) (y : V) (H : Hp) (Q : VK) : Prop
 | mk : ∀ a b l h,(x = .ref a)→(y = .ref b)→(SqL K H a (vmk l))→(SqL K H b (vmk h))→(Q (.bl (decide (l = h))) H)→rEqM K x y H Q
theorem op_eqM (hu : X.A.units < cLine) : OpR X (compareOp .Eq) (rEqM X.K):=by
 intro pins s σ H x y v u Q I rx ry h
 obtain ⟨a,b,l,h,rfl,rfl,qa,qb,q⟩:=h
 cases rx
 cases ry
 exact rc_mk I hu qa qb _ _ _ _ ⟨.bl _,H,I,rfl,q⟩
end
def raAt (b n : Option Int) : Option Int:=if n = b then n else none
def raB (l m : List (Option Int)) : List (Option Int):=List.zipWith raAt l m
def raisedO (l m : List (Option Int)) : Option (List (Option Int)):=if undB l m = false ∨ raB l m = m then none else some (raB l m)
def gRa (x w : V) : V:=if w = x then w else .non
theorem gRa_vm (b n : Option Int) : gRa (vm b) (vm n) = vm (raAt b n):=by
 unfold gRa raAt
 by_cases h : n = b
 ·rw [if_pos h,if_pos (vm_inj.mpr h)]
 ·rw [if_neg h,if_neg (fun z=>h (vm_inj.mp z))]
  rfl
theorem zip_ra : ∀ (l m : List (Option Int)),List.zipWith gRa (vmk l) (vmk m) = vmk (raB l m)
 | [],_=>rfl
 | _ :: _,[]=>rfl
 | a :: l,b :: h=>by
  show gRa (vm a) (vm b) :: List.zipWith gRa (vmk l) (vmk h) = vm (raAt a b) :: vmk (raB l h)
  rw [zip_ra l h,gRa_vm]
theorem und_cons {a b : Option Int} {l m : List (Option Int)} : undB (a :: l) (b :: m) = (nomo a b && undB l m):=by
 unfold undB
 rw [List.zipWith_cons_cons,List.all_cons]
 rfl
theorem raB_len {l m : List (Option Int)} (h : l.length = m.length) : (raB l m).length = m.length:=by unfold raB; rw [List.length_zipWith,h,Nat.min_self]
end L2
namespace L2
open PySem PySem.Spec PyProof.Rows PySem.SeqAt
section
variable {X : Cx} {tg : Expr}
end
abbrev Mark:=List (Option Int)
def MRows (H : Hp) (as : List Addr) (ms : List Mark) : Prop:=Paired (fun (a : Addr) (r : Mark)=>H a = some (.lst (vmk r))) as ms
theorem MRows.same {H H' : Hp} {as : List Addr} {ms : List Mark} (h : MRows H as ms) (S : Same H H') : MRows H' as ms:=Paired.mapP h fun _ _ e=>S _ _ e
theorem MRows.snoc {H : Hp} {as : List Addr} {ms : List Mark} {a : Addr} {r : Mark} (h : MRows H as ms) (e : H a = some (.lst (vmk r))) : MRows H (as ++ [a]) (ms ++ [r]):=Paired.snoc h e
theorem MRows.length {H : Hp} {as : List Addr} {ms : List Mark} (h : MRows H as ms) : as.length = ms.length:=Paired.length h
theorem MRows.mem {H : Hp} : ∀ {as : List Addr} {ms : List Mark},MRows H as ms→∀ a ∈ as,∃ r ∈ ms,H a = some (.lst (vmk r))
 | _,_,.nil,a,h=>nomatch h
 | _,_,.cons (b:=r) e R,a,h=>by
  rcases List.mem_cons.mp h with q | q
  ·subst q; exact ⟨r,List.mem_cons_self ..,e⟩
  ·obtain ⟨r',h1,h2⟩:=MRows.mem R a q
   exact ⟨r',List.mem_cons_of_mem _ h1,h2⟩
theorem MRows.lay {H : Hp} {as : List Addr} {ms : List Mark} {p : Addr} {o : HO} (R : MRows H as ms) (h : ∀ b ∈ as,b ≠ p) : MRows (upd H p o) as ms:=by
 induction R with
 | nil=>exact .nil
 | cons e t ih =>
  refine .cons ?_ (ih fun b hb=>h b (List.mem_cons_of_mem _ hb))
  rw [upd_ne (h _ (List.mem_cons_self ..))]; exact e
theorem MRows.apart {H : Hp} {as : List Addr} {ms : List Mark} {p : Addr} {rs : List Addr} (R : MRows H as ms) (h : H p = some (.lst (rs.map V.ref))) (hz : ∀ m ∈ ms,1 ≤ m.length) : ∀ b ∈ as,b ≠ p:=fun b hb z=>by
 obtain ⟨r,hr,e⟩:=R.mem b hb
 rw [z,h] at e
 injection e with e
 injection e with e
 have lr:=hz r hr
 cases r with
 | nil=>simp at lr
 | cons o r =>
  cases rs with
  | nil=>cases e
  | cons c d =>
   injection e with e _
   cases o <;> cases e
section
variable {X : Cx} {pins : List (Addr × Obj)} {σ : St} {H : Hp} {s : Shared} {A : Around} {a b : Addr}
theorem eq_mk {l h : Mark} (I : Inv X pins σ H s) (hu : A.units < cLine) (qa : SqL X.K H a (vmk l)) (qb : SqL X.K H b (vmk h)) : EqAt A s (.ref a) (.ref b) (decide (l = h)):=by
 by_cases e : a = b
 ·subst e
  have : vmk l = vmk h:=I.list_inj qa qb
  have e2 : l = h:=by
   refine List.ext_getElem? fun i=>?_
   have:=congrArg (fun x=>x[i]?) this
   simp only [vmk,List.getElem?_map] at this
   cases h1 : l[i]? with
   | none=>rw [h1] at this; cases h2 : h[i]? with
    | none=>rfl
    | some y=>rw [h2] at this; cases this
   | some x=>rw [h1] at this; cases h2 : h[i]? with
    | none=>rw [h2] at this; cases this
    | some y =>
     rw [h2] at this
     rw [vm_inj.mp (Option.some.inj this)]
  rw [decide_eq_true e2]
  exact EqAt.same _
 ·exact EqAt.of_refs e (rc_mk I hu qa qb)
theorem rcne_mk {l h : Mark} (I : Inv X pins σ H s) (hu : A.units < cLine) (qa : SqL X.K H a (vmk l)) (qb : SqL X.K H b (vmk h)) : RcNeAt A s (.ref a) (.ref b) (!decide (l = h)):=by
 obtain ⟨its,rv,p,_⟩:=I.list qa
 obtain ⟨its2,rw',p2,_⟩:=I.list qb
 have l1:=rv.length
 have l2:=rw'.length
 rw [vmk_len] at l1 l2
 by_cases e : l.length = h.length
 ·have q:=RcNeAt.lists (A:=A) p.isList p2.isList (by simp; omega) hu (mk_eqAt rv rw')
  have e2 : its.toArray.size = l.length:=by simp; omega
  rw [e2,all_eq_mk e] at q
  exact q
 ·rw [decide_eq_false fun z=>e (by rw [z])]
  exact RcNeAt.lists_lengths p.isList p2.isList (by simp; omega) hu
inductive rNeM (K : PySem.W.Frag) (x : V) (y : V) (H : Hp) (Q : VK) : Prop
 | mk : ∀ a b l h,(x = .ref a)→(y = .ref b)→(SqL K H a (vmk l))→(SqL K H b (vmk h))→(Q (.bl (!decide (l = h))) H)→rNeM K x y H Q
theorem op_neM (hu : X.A.units < cLine) : OpR X (compareOp .NotEq) (rNeM X.K):=by
 intro pins s σ H x y v u Q I rx ry h
 obtain ⟨a,b,l,h,rfl,rfl,qa,qb,q⟩:=h
 cases rx
 cases ry
 exact rcne_mk I hu qa qb _ _ _ _ ⟨.bl _,H,I,rfl,q⟩
def markAt (H : Hp) (l : Mark) (v : Value) : Bool:=match v with
 | .ref c=>(match H c with | some (.lst xs)=>decide (xs = vmk l) | _=>false)
 | _=>false
theorem markAt_of {H : Hp} {r : Mark} {c : Addr} (h : H c = some (.lst (vmk r))) (l : Mark) : markAt H l (.ref c) = decide (r = l):=by
 unfold markAt
 simp only [h]
 have e : (vmk r = vmk l) ↔ r = l:=by
  constructor
  ·intro z
   refine List.ext_getElem? fun i=>?_
   have z:=congrArg (fun x=>x[i]?) z
   simp only [vmk,List.getElem?_map] at z
   cases h1 : r[i]? with
   | none=>rw [h1] at z; cases h2 : l[i]? with
    | none=>rfl
    | some y=>rw [h2] at z; cases z
   | some x=>rw [h1] at z; cases h2 : l[i]? with
    | none=>rw [h2] at z; cases z
    | some y =>
     rw [h2] at z
     rw [vm_inj.mp (Option.some.inj z)]
  ·intro z; rw [z]
 exact decide_eq_decide.mpr e
theorem marks_any {as : List Addr} {ms : List Mark} (R : MRows H as ms) (l : Mark) : (as.map Value.ref).toArray.any (markAt H l) = decide (l ∈ ms):=by
 rw [Bool.eq_iff_iff,decide_eq_true_eq,← Array.any_toList,List.any_eq_true]
 constructor
 ·rintro ⟨v,hv,h⟩
  have hv : v ∈ as.map Value.ref:=by simpa using hv
  obtain ⟨c,hc,rfl⟩:=List.mem_map.mp hv
  obtain ⟨r,hr,e⟩:=R.mem c hc
  rw [markAt_of e,decide_eq_true_eq] at h
  exact h ▸ hr
 ·intro h
  obtain ⟨i,hi,e⟩:=List.mem_iff_getElem.mp h
  have hia : i < as.length:=by rw [R.length]; exact hi
  obtain ⟨r,g1,g2⟩:=Paired.getL R (List.getElem?_eq_getElem hia)
  rw [List.getElem?_eq_getElem hi] at g1
  have : r = l:=by rw [← e]; exact (Option.some.inj g1).symm
  exact ⟨.ref as[i],by simpa using List.mem_map.mpr ⟨as[i],List.getElem_mem hia,rfl⟩,by rw [markAt_of g2,this]; simp⟩
theorem marks_eqAt (I : Inv X pins σ H s) (hu : A.units < cLine) {as : List Addr} {ms : List Mark} {l : Mark} (R : MRows H as ms) (qa : SqL X.K H a (vmk l)) : ∀ y,y ∈ (as.map Value.ref).toArray→EqAt A s y (.ref a) (markAt H l y):=by
 intro y hy
 have hy : y ∈ as.map Value.ref:=by simpa using hy
 obtain ⟨c,hc,rfl⟩:=List.mem_map.mp hy
 obtain ⟨r,_,e2⟩:=R.mem c hc
 rw [markAt_of e2]
 exact eq_mk I hu (SqL.of e2) qa
inductive rInM (K : PySem.W.Frag) (neg : Bool) (x : V) (y : V) (H : Hp) (Q : VK) : Prop
 | mk : ∀ (a b : Addr) (as : List Addr) (ms : List Mark) (l : Mark),(x = .ref a)→(y = .ref b)→(SqL K H a (vmk l))→(SqL K H b (as.map V.ref))→(MRows H as ms)→(Q (.bl (if neg then !decide (l ∈ ms) else decide (l ∈ ms))) H)→rInM K neg x y H Q
theorem op_notInM (hu : X.A.units + 2 < cLine) : OpR X (compareOp .NotIn) (rInM X.K true):=by
 intro pins s σ H x y v u Q I rx ry h
 obtain ⟨a,b,as,ms,l,rfl,rfl,qa,qb,R,q⟩:=h
 cases rx
 cases ry
 obtain ⟨its,rv,p,_⟩:=I.list qb
 have e:=rows_val rv
 subst e
 refine notIn_listAt (markAt H l) p.isList (marks_eqAt (A:=X.A.in1) I (by rw [in1_units]; omega) R qa) ?_
 rw [marks_any R]
 exact ⟨.bl _,H,I,rfl,q⟩
end
def isOutM (all : List Mark) (r : Mark) : Bool:=all.all fun o=>decide (o = r) || !undB r o
def stepM (all acc : List Mark) (r : Mark) : List Mark:=if r ∉ acc∧isOutM all r = true then acc ++ [r] else acc
def tellM (all xs : List Mark) : List Mark:=xs.foldl (stepM all) []
theorem tellM_snoc (all xs : List Mark) (r : Mark) : tellM all (xs ++ [r]) = stepM all (tellM all xs) r:=by unfold tellM; rw [List.foldl_append]; rfl
theorem tellM_len (all : List Mark) : ∀ (xs acc : List Mark),(xs.foldl (stepM all) acc).length ≤ acc.length + xs.length
 | [],acc=>Nat.le_refl _
 | x :: xs,acc=>by
  have ih:=tellM_len all xs (stepM all acc x)
  have h : (stepM all acc x).length ≤ acc.length + 1:=by
   unfold stepM
   split
   ·rw [List.length_append]; exact Nat.le_refl _
   ·omega
  rw [List.foldl_cons,List.length_cons]
  omega
theorem tellM_sub (all : List Mark) : ∀ (xs acc : List Mark),∀ m ∈ xs.foldl (stepM all) acc,m ∈ acc ∨ m ∈ xs
 | [],acc,m,h=>.inl h
 | x :: xs,acc,m,h=>by
  rw [List.foldl_cons] at h
  rcases tellM_sub all xs _ m h with q | q
  ·unfold stepM at q
   split at q
   ·rcases List.mem_append.mp q with w | w
    ·exact .inl w
    ·exact .inr (by rw [List.mem_singleton.mp w]; exact List.mem_cons_self ..)
   ·exact .inl q
  ·exact .inr (List.mem_cons_of_mem _ q)
theorem isOutM_iff {all : List Mark} {r : Mark} : isOutM all r = true ↔ ∀ o ∈ all,o = r ∨ undB r o = false:=by
 unfold isOutM
 rw [List.all_eq_true]
 constructor
 ·intro h o ho
  have:=h o ho
  rw [Bool.or_eq_true,decide_eq_true_eq,Bool.not_eq_true'] at this
  exact this
 ·intro h o ho
  rw [Bool.or_eq_true,decide_eq_true_eq,Bool.not_eq_true']
  exact h o ho
end L2
namespace L2
open PySem PySem.Spec PyProof.Rows
theorem MRows.take {H : Hp} : ∀ {as : List Addr} {ms : List Mark} (n : Nat),MRows H as ms→MRows H (as.take n) (ms.take n)
 | _,_,0,_=>by rw [List.take_zero,List.take_zero]; exact .nil
 | _,_,n + 1,.nil=>.nil
 | _,_,n + 1,.cons e t=>.cons e (MRows.take n t)
end L2
namespace L2
open PySem PySem.Spec PyProof.Rows
theorem mrows_at {H : Hp} {as : List Addr} {ms : List Mark} {i : Nat} (R : MRows H as ms) (h : i < ms.length) : ∃ a,atI (as.map V.ref) (i : Int) = some (.ref a)∧H a = some (.lst (vmk (ms[i]))):=by
 have hia : i < as.length:=by rw [R.length]; exact h
 obtain ⟨r,g1,g2⟩:=Paired.getL R (List.getElem?_eq_getElem hia)
 rw [List.getElem?_eq_getElem h] at g1
 refine ⟨as[i],atI_nat ?_,by rw [Option.some.inj g1]; exact g2⟩
 rw [List.getElem?_map,List.getElem?_eq_getElem hia]
 rfl
end L2
namespace L2
open PySem PySem.Spec PyProof.Rows
abbrev Cx.keep (X : Cx) (e : Addr) (o : Obj) : Cx:={ X with pn:=X.pn ++ [(e,o)] }
section
variable {X : Cx} {body suite rest : List Stmt} {b₀ : Stmt} {np hp pos : Pos} {cn n : Str} {i : Nat} {Dc : Addr} {tb : Ends→XK→St→Hp→Prop} {th tr : Addr→Obj→TS}
theorem Cx.Ok.keep (ok : X.Ok) (e : Addr) (o : Obj) : (X.keep e o).Ok :=
 ⟨ok.mod,ok.kind,ok.glob,ok.blt,ok.above,ok.inj,ok.has,ok.cab,ok.hd,ok.frames,ok.stk,ok.exf,ok.bs,ok.bsz,ok.noex,ok.exfs,ok.funs,ok.frf⟩
theorem Inv.keep {pins : List (Addr × Obj)} {σ : St} {H : Hp} {s : Shared} {a : Addr} {o : Obj} (ok : X.Ok) (I : Inv (X.hold a o) pins σ H s) : Inv (X.keep a o) pins σ H s :=
 ⟨ok.keep a o,I.os,I.bare,I.base,I.loc,I.cell,I.free,I.freeC,I.pin,I.hok,I.len⟩
end
end L2
namespace L2
open PySem PySem.Spec PyProof.Rows SeqAt
def afM (o : Option Int) (g : Int) : Option Int:=o.map (· + g)
def gAf : V→V→V
 | .int i,.int j=>.int (i + j)
 | _,_=>.non
theorem gAf_vm (a : Option Int) (g : Int) : gAf (vm a) (.int g) = vm (afM a g):=by cases a <;> rfl
theorem zip_af : ∀ (m : List (Option Int)) (g : List Int),List.zipWith gAf (vmk m) (vints g) = vmk (List.zipWith afM m g)
 | [],_=>rfl
 | _ :: _,[]=>rfl
 | a :: m,b :: g=>by
  show gAf (vm a) (V.int b) :: List.zipWith gAf (vmk m) (vints g) = _
  rw [zip_af m g,gAf_vm]
  rfl
theorem vints_mk (r : List Int) : vints r = vmk (r.map some):=by
 unfold vints vmk
 rw [List.map_map]
 rfl
end L2
namespace L2
open PySem PySem.Spec PyProof.Rows SeqAt
theorem cut_tail (ns : List Int) (k : Nat) : cutV (vints ns) (some (k : Int)) none = vints (ns.drop k):=by
 unfold cutV
 rw [HT.sIx_none,HT.sIx_nat,ints_len]
 unfold vints
 rw [List.map_drop]
 by_cases h : k ≤ ns.length
 ·rw [Nat.min_eq_left h,List.take_of_length_le (by rw [List.length_drop,List.length_map]; omega)]
 ·rw [Nat.min_eq_right (by omega),List.drop_eq_nil_of_le (by rw [List.length_map]; omega),List.drop_eq_nil_of_le (by rw [List.length_map]; omega),List.take_nil]
theorem af_at {m : List (Option Int)} {g t : List Int} {z i : Nat} (h1 : m.length = z) (h2 : g.length = z) (h3 : t.length = z) (hi : i < z) : (List.zipWith afM m (sub g t))[i]? = some (afM (m[i]'(by omega)) (g.getD i 0 - t.getD i 0)):=by
 have hl : (sub g t).length = z:=sub_len h2 h3
 rw [List.getElem?_eq_getElem (by rw [List.length_zipWith,h1,hl]; omega),List.getElem_zipWith,← L2.getD_at (by omega : i < (sub g t).length),sub_at h2 h3 hi]
end L2
namespace L2
open PySem PySem.Spec PyProof.Rows SeqAt
theorem comp_revP {K : PySem.W.Frag} {g : Blk→TG} {tt : Blk→TT} {te : Blk→TE} {H1 : Hp} {Z : List V→Hp→Prop} {σ0 : St} {a : Addr} {xs : List V} (Pv : Nat→List V→St→Hp→Prop) (h0 : Pv 0 [] σ0 H1) (hl : ∀ i ys σ H,i ≤ xs.length→Pv i ys σ H→SqL K H a xs∧ys.length < sizeLine)
  (hs : ∀ B i x ys σ H,xs.reverse[i]? = some x→Pv i ys σ H→g B x σ H fun σ2 H3=>tt B σ2 H3 fun b H4=>if b = true then te B σ2 H4 fun y H5=>Pv (i + 1) (ys ++ [y]) σ2 H5 else Pv (i + 1) ys σ2 H4)
  (hd : ∀ ys σ H,Pv xs.length ys σ H→Z ys H) : ∃ W : Nat→Nat→List V→St→Hp→Prop,(∃ m,W 0 m [] σ0 H1)∧∀ B,CompW (Itv K a xs) (g B) (tt B) (te B) W Z:=by
 refine ⟨fun i m ys σ H=>m = xs.length - i∧i ≤ xs.length∧Pv i ys σ H,⟨xs.length,by simp,Nat.zero_le _,h0⟩,?_⟩
 rintro B i m ys σ H ⟨rfl,hi,p⟩
 obtain ⟨q,hz⟩:=hl i ys σ H hi p
 by_cases hlt : i < xs.length
 ·refine .inr ⟨⟨q,hlt⟩,hz,Pv (i + 1),fun zs σ' H' p'=>⟨xs.length - (i + 1),by omega,rfl,hlt,p'⟩,fun x H' y=>?_⟩
  obtain ⟨e,y⟩:=y
  subst e
  exact hs B i x ys σ _ y p
 ·have e : i = xs.length:=by omega
  subst e
  exact .inl ⟨⟨q,Nat.le_refl _⟩,hd ys σ H p⟩
section
variable {X : Cx}
end
theorem Rows.put {H : Hp} {q : Addr} {r' : List Int} {z : Nat} (hr : r'.length = z) : ∀ {as : List Addr} {rs : List (List Int)},Rows H as rs→Wd z rs→∃ rs',Rows (upd H q (.lst (vints r'))) as rs'∧rs'.length = rs.length∧Wd z rs'
 | _,_,.nil,_=>⟨[],.nil,rfl,fun r h=>nomatch h⟩
 | _,_,.cons (a:=a) (b:=r) e R,wd=>by
  obtain ⟨rs',R',l',w'⟩:=Rows.put hr R (fun x hx=>wd x (List.mem_cons_of_mem _ hx))
  by_cases h : q = a
  ·subst h
   refine ⟨r' :: rs',.cons upd_same R',by rw [List.length_cons,List.length_cons,l'],fun x hx=>?_⟩
   rcases List.mem_cons.mp hx with c | c
   ·rw [c]; exact hr
   ·exact w' x c
  ·refine ⟨r :: rs',.cons (by rw [upd_ne (Ne.symm h)]; exact e) R',by rw [List.length_cons,List.length_cons,l'],fun x hx=>?_⟩
   rcases List.mem_cons.mp hx with c | c
   ·rw [c]; exact wd r (List.mem_cons_self ..)
   ·exact w' x c
theorem Rows.erase {H : Hp} : ∀ {as : List Addr} {rs : List (List Int)} (k : Nat),Rows H as rs→Rows H (as.eraseIdx k) (rs.eraseIdx k)
 | _,_,_,.nil=>.nil
 | _,_,0,.cons e R=>R
 | _,_,k + 1,.cons e R=>.cons e (Rows.erase k R)
end L2
namespace L2
open PySem PySem.Spec PyProof.Rows
structure RV where
 bags : List (List Int)
 par : List Int
 com : List Int
abbrev rF3 (b m l : V) : List (Str × V) := [("bags", b), ("parents", m), ("comers", l)]
abbrev rFl (b m l : Addr) : List (Str × V):=rF3 (.ref b) (.ref m) (.ref l)
structure RIn (C : Addr) (H : Hp) (x dx b m l : Addr) (as : List Addr) (w : RV) : Prop where
 ob : H x = some (.ins C dx (rFl b m l))
 hb : H b = some (.lst (as.map V.ref))
 rb : Rows H as w.bags
 hm : H m = some (.lst (vints w.par))
 hl : H l = some (.lst (vints w.com))
 nb : b ∉ as
 nm : m ∉ as
 nl : l ∉ as
 bm : b ≠ m
 bl : b ≠ l
 ml : m ≠ l
theorem RIn.same {C : Addr} {H H' : Hp} {x dx b m l : Addr} {as : List Addr} {w : RV} (n : RIn C H x dx b m l as w) (S : Same H H') : RIn C H' x dx b m l as w :=
 ⟨S _ _ n.ob,S _ _ n.hb,n.rb.same S,S _ _ n.hm,S _ _ n.hl,n.nb,n.nm,n.nl,n.bm,n.bl,n.ml⟩
structure ROk (z room : Nat) (w : RV) : Prop where
 wd : Wd z w.bags
 lm : w.par.length = w.bags.length
 ll : w.com.length = w.bags.length
 le : w.bags.length ≤ room
 one : 1 ≤ w.bags.length
theorem ROk.put {z room : Nat} {w : RV} {bag : List Int} {door num : Nat} (o : ROk z room w) (hb : bag.length = z) (hr : w.bags.length < room) : ROk z room ⟨w.bags ++ [bag],w.par ++ [(num : Int)],w.com ++ [(door : Int)]⟩:=by
 refine ⟨fun r hr'=>?_,?_,?_,?_,?_⟩
 ·rcases List.mem_append.mp hr' with q | q
  ·exact o.wd r q
  ·rw [List.mem_singleton.mp q]; exact hb
 ·show (w.par ++ [(num : Int)]).length = (w.bags ++ [bag]).length
  rw [List.length_append,List.length_append,o.lm]; rfl
 ·show (w.com ++ [(door : Int)]).length = (w.bags ++ [bag]).length
  rw [List.length_append,List.length_append,o.ll]; rfl
 ·show (w.bags ++ [bag]).length ≤ room
  rw [List.length_append]; exact hr
 ·show 1 ≤ (w.bags ++ [bag]).length
  rw [List.length_append]; have:=o.one; omega
theorem gD_L {α : Type} {l m : List α} {i : Nat} {d : α} (h : i < l.length) : (l ++ m).getD i d = l.getD i d:=by
 rw [List.getD_eq_getElem?_getD,List.getD_eq_getElem?_getD,List.getElem?_append_left h]
theorem gD_E {α : Type} {l : List α} {x : α} {i : Nat} {d : α} (h : i = l.length) : (l ++ [x]).getD i d = x:=by
 subst h
 rw [List.getD_eq_getElem?_getD,List.getElem?_append_right (Nat.le_refl _),Nat.sub_self]
 rfl
theorem rngA (n : Nat) : -(2 ^ 62) ≤ (n : Int):=Int.le_trans (by decide) (Int.natCast_nonneg n)
theorem rngB {n : Nat} (h : n ≤ 70) : (n : Int) < 2 ^ 62:=Int.lt_of_le_of_lt (Int.ofNat_le.mpr h) (by decide)
structure PlanR (H : Hp) (p pt pg pf : Addr) (ts gs : List Addr) (tk gv : List (List Int)) (fs : List Int) : Prop where
 top : H p = some (.tup [.ref pt,.ref pg,.ref pf])
 ht : H pt = some (.lst (ts.map V.ref))
 tr : Rows H ts tk
 hg : H pg = some (.lst (gs.map V.ref))
 gr : Rows H gs gv
 hf : H pf = some (.lst (vints fs))
theorem PlanR.same {H H' : Hp} {p pt pg pf : Addr} {ts gs : List Addr} {tk gv : List (List Int)} {fs : List Int} (P : PlanR H p pt pg pf ts gs tk gv fs) (S : Same H H') : PlanR H' p pt pg pf ts gs tk gv fs :=
 ⟨S _ _ P.top,S _ _ P.ht,P.tr.same S,S _ _ P.hg,P.gr.same S,S _ _ P.hf⟩
structure OkR (z : Nat) (tk gv : List (List Int)) (fs : List Int) : Prop where
 z1 : 1 ≤ z
 z6 : z ≤ 6
 t8 : tk.length ≤ 8
 gl : gv.length = tk.length
 tk : ∀ r ∈ tk,okBag z r
 gv : ∀ r ∈ gv,okBag z r
 fs : okBag z fs
def eit3 : List Str := [Str.ofString "p", Str.ofString "q", Str.ofString "r", Str.ofString "s", Str.ofString "t", Str.ofString "u", Str.ofString "v", Str.ofString "w"]
abbrev veit3 : List V := [V.str (Str.ofString "p"), V.str (Str.ofString "q"), V.str (Str.ofString "r"), V.str (Str.ofString "s"), V.str (Str.ofString "t"), V.str (Str.ofString "u"), V.str (Str.ofString "v"), V.str (Str.ofString "w")]
theorem eit3_ok : ∀ y ∈ eit3,okName y = true:=by decide +kernel
theorem eit3_nd : eit3.Nodup:=by decide +kernel
theorem cut_eit3 (k : Nat) : cutV veit3 none (some (k : Int)) = vstrs (eit3.take k):=by
 rw [cut_take,vstrs,List.map_take]
 rfl
def netR (tk gv : List (List Int)) (fs : List Int) : NetV:=⟨six.take fs.length,eit3.take tk.length,tk,gv,fs⟩
theorem netR_len {tk gv : List (List Int)} {fs : List Int} (h6 : fs.length ≤ 6) : (netR tk gv fs).bowls.length = fs.length:=by
 show (six.take fs.length).length = _
 rw [List.length_take]
 have : six.length = 6:=rfl
 omega
theorem netR_ok {tk gv : List (List Int)} {fs : List Int} (o : OkR fs.length tk gv fs) : (netR tk gv fs).Ok:=by
 have e:=netR_len (tk:=tk) (gv:=gv) o.z6
 have e2 : (netR tk gv fs).doors.length = tk.length:=by
  show (eit3.take tk.length).length = _
  rw [List.length_take]
  have : eit3.length = 8:=rfl
  have:=o.t8
  omega
 have z1:=o.z1
 have z6:=o.z6
 have t8:=o.t8
 refine ⟨by omega,by omega,by omega,fun y hy=>six_ok y (List.mem_of_mem_take hy),fun y hy=>eit3_ok y (List.mem_of_mem_take hy),six_nd.sublist (List.take_sublist ..),eit3_nd.sublist (List.take_sublist ..),e2.symm,by rw [e2]; exact o.gl,?_,?_,?_⟩
 ·rw [e]; exact o.tk
 ·rw [e]; exact o.gv
 ·rw [e]; exact o.fs
theorem pickW {i : Int} (h0 : 0 ≤ i) (h : i < 12) : ∃ z : Nat,atI [V.int 1,V.int 2,V.int 2,V.int 3,V.int 3,V.int 3,V.int 4,V.int 2,V.int 3,V.int 5,V.int 6,V.int 3] i = some (V.int (z : Int))∧1 ≤ z∧z ≤ 6:=by
 obtain ⟨k,rfl⟩:=Int.eq_ofNat_of_zero_le h0
 have hk : k < 12:=by omega
 match k,hk with
 | 0,_=>exact ⟨1,by decide,by decide,by decide⟩
 | 1,_=>exact ⟨2,by decide,by decide,by decide⟩
 | 2,_=>exact ⟨2,by decide,by decide,by decide⟩
 | 3,_=>exact ⟨3,by decide,by decide,by decide⟩
 | 4,_=>exact ⟨3,by decide,by decide,by decide⟩
 | 5,_=>exact ⟨3,by decide,by decide,by decide⟩
 | 6,_=>exact ⟨4,by decide,by decide,by decide⟩
 | 7,_=>exact ⟨2,by decide,by decide,by decide⟩
 | 8,_=>exact ⟨3,by decide,by decide,by decide⟩
 | 9,_=>exact ⟨5,by decide,by decide,by decide⟩
 | 10,_=>exact ⟨6,by decide,by decide,by decide⟩
 | 11,_=>exact ⟨3,by decide,by decide,by decide⟩
theorem pickM {i : Int} (h0 : 0 ≤ i) (h : i < 16) : ∃ z : Nat,atI [V.int 0,V.int 1,V.int 2,V.int 2,V.int 3,V.int 3,V.int 4,V.int 2,V.int 3,V.int 5,V.int 6,V.int 7,V.int 8,V.int 3,V.int 2,V.int 4] i = some (V.int (z : Int))∧z ≤ 8:=by
 obtain ⟨k,rfl⟩:=Int.eq_ofNat_of_zero_le h0
 have hk : k < 16:=by omega
 match k,hk with
 | 0,_=>exact ⟨0,by decide,by decide⟩
 | 1,_=>exact ⟨1,by decide,by decide⟩
 | 2,_=>exact ⟨2,by decide,by decide⟩
 | 3,_=>exact ⟨2,by decide,by decide⟩
 | 4,_=>exact ⟨3,by decide,by decide⟩
 | 5,_=>exact ⟨3,by decide,by decide⟩
 | 6,_=>exact ⟨4,by decide,by decide⟩
 | 7,_=>exact ⟨2,by decide,by decide⟩
 | 8,_=>exact ⟨3,by decide,by decide⟩
 | 9,_=>exact ⟨5,by decide,by decide⟩
 | 10,_=>exact ⟨6,by decide,by decide⟩
 | 11,_=>exact ⟨7,by decide,by decide⟩
 | 12,_=>exact ⟨8,by decide,by decide⟩
 | 13,_=>exact ⟨3,by decide,by decide⟩
 | 14,_=>exact ⟨2,by decide,by decide⟩
 | 15,_=>exact ⟨4,by decide,by decide⟩
theorem pickS {i : Int} (h0 : 0 ≤ i) (h : i < 6) : ∃ v : Int,atI [V.int 0,V.int 1,V.int 1,V.int 2,V.int 3,V.int 0] i = some (V.int v)∧0 ≤ v∧v ≤ 3:=by
 obtain ⟨k,rfl⟩:=Int.eq_ofNat_of_zero_le h0
 have hk : k < 6:=by omega
 match k,hk with
 | 0,_=>exact ⟨0,by decide,by decide,by decide⟩
 | 1,_=>exact ⟨1,by decide,by decide,by decide⟩
 | 2,_=>exact ⟨1,by decide,by decide,by decide⟩
 | 3,_=>exact ⟨2,by decide,by decide,by decide⟩
 | 4,_=>exact ⟨3,by decide,by decide,by decide⟩
 | 5,_=>exact ⟨0,by decide,by decide,by decide⟩
theorem prodG {t u : Int} (hu : 1 ≤ u∧u ≤ 200000000) (ht : 0 ≤ t∧t ≤ 3) : 0 ≤ t * u∧t * u ≤ 600000000:=by
 rcases (show t = 0 ∨ t = 1 ∨ t = 2 ∨ t = 3 by omega) with e | e | e | e <;> rw [e] <;> omega
inductive IntsAt : List Expr→List Int→Prop
 | nil : IntsAt [] []
 | cons {i : Int} {j : Nat} {pos : Pos} {es : List Expr} {ns : List Int} : IntsAt es ns→IntsAt (.Constant (.int i) j pos :: es) (i :: ns)
section
variable {X : Cx}
theorem pa_ints {es : List Expr} {ns : List Int} (h : IntsAt es ns) : PA X es (fun _ H Q=>Q (vints ns) H):=by
 induction h with
 | nil=>exact pa_nil
 | cons _ ih=>exact pa_cons pe_int ih
structure PEb (X : Cx) (e : Expr) (t : TE) : Prop where
 ok : PE X e t
theorem pe_lstB {es : List Expr} {pos : Pos} {ns : List Int} (h : IntsAt es ns) : PEb X (.List es pos) (tLst (fun _ H Q=>Q (vints ns) H)):=⟨pe_lst (pa_ints h)⟩
theorem pe_ixB {a b : Expr} {ta tb : TE} {pos : Pos} {r : R2} (hr : IxR X r) (ha : PEb X a ta) (hb : PE X b tb) (hs : PlainIx b) : PEb X (.Subscript a b pos) (tOp r ta tb):=⟨pe_ix hr ha.ok hb hs⟩
structure PSb (X : Cx) (st : Stmt) (t : TS) : Prop where
 ok : PS X st t
structure PBb (X : Cx) (st : List Stmt) (t : TS) : Prop where
 ok : PSs X st t
theorem ps_setB {i : Nat} {x : Str} {e : Expr} {te : TE} {pos pos' : Pos} (hN : X.N.Nodup) (hi : X.N[i]? = some x) (hx : Loc X.env.scope x) (he : PEb X e te) (hs : swapsWith e (some (.Name x pos')) pos.line X.env = pure false:=by rfl) (hf : X.fn x = true ∨ X.env.scope.names.lookup x = some .local:=by first | exact .inl rfl | exact .inr rfl | assumption) : PSb X (.Assign [.Name x pos'] e pos) (tAsg te (gName i)):=⟨ps_set hN hi hx he.ok hs hf⟩
theorem pss_consB {st : Stmt} {rest : List Stmt} {t u : TS} (h1 : PSb X st t) (h2 : PBb X rest u) : PBb X (st :: rest) (tSeq t u):=⟨pss_cons h1.ok h2.ok⟩
end
section
variable {P : Program} {w : World} {K : PySem.W.Frag} {mg : Str→Option Value} {base : Heap}
theorem Fun.okB {x qual : Str} {st : Stmt} {f : Addr} {fd : FuncData} {N ps : List Str} {k : Nat} {sp : Sp} (F : Fun K x qual st f fd) (S : FnScope N ps (defScope st)) (len : ∀ vs H Q E,sp vs H Q E→vs.length = ps.length)
  (hbody : ∀ (cdv : Value) (A : Around) (outer : List Env) (s : Shared) (H : Hp) (vs : List V) (Q : VK) (E : XK),Room k (A.deeper (envOfC qual (defScope st) s.heap.objs.size f cdv))→sp vs H Q E →
   ∃ t,PBb (cxOf CX0 P w K mg base N qual (defScope st) f cdv A outer s H E).nox (defBody st) t∧t { nx:=fun _ H'=>Q .non H',rt:=Q } (start N vs) H) : FnOk P w K mg base CX0 (k + 1) f fd ps sp :=
 F.ok S len fun cdv A outer s H vs Q E hr h=>(hbody cdv A outer s H vs Q E hr h).elim fun t z=>⟨t,z.1.ok,z.2⟩
end
end L2
namespace L2
open PySem PySem.Spec PyProof.Rows PySem.SeqAt
structure TV where
 marks : List Mark
 par : List Int
 com : List Int
 loops : List (List Int)
 above : List Int
abbrev tF1 (m : V) : List (Str × V) := [("marks", m)]
abbrev tF2 (m p : V) : List (Str × V) := [("marks", m), ("parents", p)]
abbrev tF3 (m p c : V) : List (Str × V) := [("marks", m), ("parents", p), ("comers", c)]
abbrev tF4 (m p c l : V) : List (Str × V) := [("marks", m), ("parents", p), ("comers", c), ("loops", l)]
abbrev tF5 (m p c l a : V) : List (Str × V) := [("marks", m), ("parents", p), ("comers", c), ("loops", l), ("above", a)]
abbrev tFl (m p c l a : Addr) : List (Str × V):=tF5 (.ref m) (.ref p) (.ref c) (.ref l) (.ref a)
theorem put_t1 {m : V} : putF "marks" m [] = tF1 m := rfl
theorem put_t2 {m p : V} : putF "parents" p (tF1 m) = tF2 m p := by
 show (if (("marks" : Str) = "parents") then _ else (("marks" : Str), m) :: putF "parents" p []) = _
 rw [if_neg (by decide +kernel)]
 rfl
theorem put_t3 {m p c : V} : putF "comers" c (tF2 m p) = tF3 m p c := by
 show (if (("marks" : Str) = "comers") then _ else (("marks" : Str), m) :: (if (("parents" : Str) = "comers") then _ else (("parents" : Str), p) :: putF "comers" c [])) = _
 rw [if_neg (by decide +kernel),if_neg (by decide +kernel)]
 rfl
theorem put_t4 {m p c l : V} : putF "loops" l (tF3 m p c) = tF4 m p c l := by
 show (if (("marks" : Str) = "loops") then _ else (("marks" : Str), m) :: (if (("parents" : Str) = "loops") then _ else (("parents" : Str), p) :: (if (("comers" : Str) = "loops") then _ else (("comers" : Str), c) :: putF "loops" l []))) = _
 rw [if_neg (by decide +kernel),if_neg (by decide +kernel),if_neg (by decide +kernel)]
 rfl
theorem put_t5 {m p c l a : V} : putF "above" a (tF4 m p c l) = tF5 m p c l a := by
 show (if (("marks" : Str) = "above") then _ else (("marks" : Str), m) :: (if (("parents" : Str) = "above") then _ else (("parents" : Str), p) :: (if (("comers" : Str) = "above") then _ else (("comers" : Str), c) :: (if (("loops" : Str) = "above") then _ else (("loops" : Str), l) :: putF "above" a [])))) = _
 rw [if_neg (by decide +kernel),if_neg (by decide +kernel),if_neg (by decide +kernel),if_neg (by decide +kernel)]
 rfl
structure Five (m p c l a : Addr) : Prop where
 mp : m ≠ p
 mc : m ≠ c
 ml : m ≠ l
 ma : m ≠ a
 pc : p ≠ c
 pl : p ≠ l
 pa : p ≠ a
 cl : c ≠ l
 ca : c ≠ a
 la : l ≠ a
structure Out5 (m p c l a q : Addr) : Prop where
 m : q ≠ m
 p : q ≠ p
 c : q ≠ c
 l : q ≠ l
 a : q ≠ a
structure TIn (C : Addr) (H : Hp) (y dy m p c l a : Addr) (ms ls : List Addr) (w : TV) : Prop where
 ob : H y = some (.ins C dy (tFl m p c l a))
 hm : H m = some (.lst (ms.map V.ref))
 rm : MRows H ms w.marks
 hp : H p = some (.lst (vints w.par))
 hc : H c = some (.lst (vints w.com))
 hl : H l = some (.lst (ls.map V.ref))
 rl : Rows H ls w.loops
 ha : H a = some (.lst (vints w.above))
 fv : Five m p c l a
 om : ∀ q ∈ ms,Out5 m p c l a q
 ol : ∀ q ∈ ls,Out5 m p c l a q
section
variable {C : Addr} {H H' : Hp} {y dy m p c l a : Addr} {ms ls : List Addr} {w : TV}
theorem TIn.same (n : TIn C H y dy m p c l a ms ls w) (S : Same H H') : TIn C H' y dy m p c l a ms ls w :=
 ⟨S _ _ n.ob,S _ _ n.hm,n.rm.same S,S _ _ n.hp,S _ _ n.hc,S _ _ n.hl,n.rl.same S,S _ _ n.ha,n.fv,n.om,n.ol⟩
theorem TIn.yq (n : TIn C H y dy m p c l a ms ls w) {q : Addr} {xs : List V} (h : H q = some (.lst xs)) : y ≠ q:=ne_of n.ob h (by intro z; cases z)
theorem TIn.putM (n : TIn C H y dy m p c l a ms ls w) {q : Addr} {mk : Mark} (h : H q = some (.lst (vmk mk))) (o : Out5 m p c l a q) : TIn C (upd H m (.lst (ms.map V.ref ++ [V.ref q]))) y dy m p c l a (ms ++ [q]) ls ⟨w.marks ++ [mk],w.par,w.com,w.loops,w.above⟩ :=
 ⟨by rw [upd_ne (n.yq n.hm)]; exact n.ob,by rw [upd_same,vrefs_snoc],MRows.snoc (MRows.lay n.rm fun b hb=>(n.om b hb).m) (by rw [upd_ne o.m]; exact h),by rw [upd_ne (Ne.symm n.fv.mp)]; exact n.hp,by rw [upd_ne (Ne.symm n.fv.mc)]; exact n.hc,by rw [upd_ne (Ne.symm n.fv.ml)]; exact n.hl,Rows.lay n.rl fun b hb=>(n.ol b hb).m,by rw [upd_ne (Ne.symm n.fv.ma)]; exact n.ha,n.fv,fun b hb=>by
  rcases List.mem_append.mp hb with z | z
  ·exact n.om b z
  ·rw [List.mem_singleton.mp z]; exact o,n.ol⟩
theorem TIn.putP (n : TIn C H y dy m p c l a ms ls w) {x : Int} : TIn C (upd H p (.lst (vints w.par ++ [V.int x]))) y dy m p c l a ms ls ⟨w.marks,w.par ++ [x],w.com,w.loops,w.above⟩ :=
 ⟨by rw [upd_ne (n.yq n.hp)]; exact n.ob,by rw [upd_ne n.fv.mp]; exact n.hm,MRows.lay n.rm fun b hb=>(n.om b hb).p,by rw [upd_same,vints_snoc],by rw [upd_ne (Ne.symm n.fv.pc)]; exact n.hc,by rw [upd_ne (Ne.symm n.fv.pl)]; exact n.hl,Rows.lay n.rl fun b hb=>(n.ol b hb).p,by rw [upd_ne (Ne.symm n.fv.pa)]; exact n.ha,n.fv,n.om,n.ol⟩
theorem TIn.putC (n : TIn C H y dy m p c l a ms ls w) {x : Int} : TIn C (upd H c (.lst (vints w.com ++ [V.int x]))) y dy m p c l a ms ls ⟨w.marks,w.par,w.com ++ [x],w.loops,w.above⟩ :=
 ⟨by rw [upd_ne (n.yq n.hc)]; exact n.ob,by rw [upd_ne n.fv.mc]; exact n.hm,MRows.lay n.rm fun b hb=>(n.om b hb).c,by rw [upd_ne n.fv.pc]; exact n.hp,by rw [upd_same,vints_snoc],by rw [upd_ne (Ne.symm n.fv.cl)]; exact n.hl,Rows.lay n.rl fun b hb=>(n.ol b hb).c,by rw [upd_ne (Ne.symm n.fv.ca)]; exact n.ha,n.fv,n.om,n.ol⟩
theorem TIn.putL (n : TIn C H y dy m p c l a ms ls w) {q : Addr} {lp : List Int} (h : H q = some (.lst (vints lp))) (o : Out5 m p c l a q) : TIn C (upd H l (.lst (ls.map V.ref ++ [V.ref q]))) y dy m p c l a ms (ls ++ [q]) ⟨w.marks,w.par,w.com,w.loops ++ [lp],w.above⟩ :=
 ⟨by rw [upd_ne (n.yq n.hl)]; exact n.ob,by rw [upd_ne n.fv.ml]; exact n.hm,MRows.lay n.rm fun b hb=>(n.om b hb).l,by rw [upd_ne n.fv.pl]; exact n.hp,by rw [upd_ne n.fv.cl]; exact n.hc,by rw [upd_same,vrefs_snoc],Rows.snoc (Rows.lay n.rl fun b hb=>(n.ol b hb).l) (by rw [upd_ne o.l]; exact h),by rw [upd_ne (Ne.symm n.fv.la)]; exact n.ha,n.fv,n.om,fun b hb=>by
  rcases List.mem_append.mp hb with z | z
  ·exact n.ol b z
  ·rw [List.mem_singleton.mp z]; exact o⟩
theorem TIn.putA (n : TIn C H y dy m p c l a ms ls w) {x : Int} : TIn C (upd H a (.lst (vints w.above ++ [V.int x]))) y dy m p c l a ms ls ⟨w.marks,w.par,w.com,w.loops,w.above ++ [x]⟩ :=
 ⟨by rw [upd_ne (n.yq n.ha)]; exact n.ob,by rw [upd_ne n.fv.ma]; exact n.hm,MRows.lay n.rm fun b hb=>(n.om b hb).a,by rw [upd_ne n.fv.pa]; exact n.hp,by rw [upd_ne n.fv.ca]; exact n.hc,by rw [upd_ne n.fv.la]; exact n.hl,Rows.lay n.rl fun b hb=>(n.ol b hb).a,by rw [upd_same,vints_snoc],n.fv,n.om,n.ol⟩
theorem TIn.out (n : TIn C H y dy m p c l a ms ls w) {q : Addr} (h : H q = none) : Out5 m p c l a q :=
 ⟨Ne.symm (ne_of_none n.hm h),Ne.symm (ne_of_none n.hp h),Ne.symm (ne_of_none n.hc h),Ne.symm (ne_of_none n.hl h),Ne.symm (ne_of_none n.ha h)⟩
end
theorem nomo_refl (x : Option Int) : nomo x x = true:=by cases x <;> simp [nomo]
theorem nomo_trans {x y z : Option Int} (h1 : nomo x y = true) (h2 : nomo y z = true) : nomo x z = true:=by
 cases z with
 | none=>cases x <;> rfl
 | some k=>cases y with
  | none=>cases h2
  | some j=>cases x with
   | none=>cases h1
   | some i=>simp only [nomo,decide_eq_true_eq] at *; omega
theorem nomo_anti {x y : Option Int} (h1 : nomo x y = true) (h2 : nomo y x = true) : x = y:=by
 cases x with
 | none=>cases y with
  | none=>rfl
  | some j=>cases h1
 | some i=>cases y with
  | none=>cases h2
  | some j=>simp only [nomo,decide_eq_true_eq] at *; congr 1; omega
theorem und_refl : ∀ l : Mark,undB l l = true
 | []=>rfl
 | x :: l=>by rw [und_cons,nomo_refl,und_refl l]; rfl
theorem und_trans : ∀ {l m n : Mark},l.length = m.length→m.length = n.length→undB l m = true→undB m n = true→undB l n = true
 | [],[],[],_,_,_,_=>rfl
 | x :: l,y :: m,z :: n,e1,e2,h1,h2=>by
  rw [und_cons,Bool.and_eq_true] at h1 h2 ⊢
  exact ⟨nomo_trans h1.1 h2.1,und_trans (by simpa using e1) (by simpa using e2) h1.2 h2.2⟩
theorem und_anti : ∀ {l m : Mark},l.length = m.length→undB l m = true→undB m l = true→l = m
 | [],[],_,_,_=>rfl
 | x :: l,y :: m,e,h1,h2=>by
  rw [und_cons,Bool.and_eq_true] at h1 h2
  rw [nomo_anti h1.1 h2.1,und_anti (by simpa using e) h1.2 h2.2]
theorem und_ra : ∀ {l m : Mark},l.length = m.length→undB m (raB l m) = true∧(raB l m).length = m.length
 | [],[],_=>⟨rfl,rfl⟩
 | x :: l,y :: m,e=>by
  obtain ⟨h1,h2⟩:=und_ra (l:=l) (m:=m) (by simpa using e)
  show undB (y :: m) (raAt x y :: raB l m) = true∧(raAt x y :: raB l m).length = (y :: m).length
  refine ⟨?_,by rw [List.length_cons,h2,List.length_cons]⟩
  rw [und_cons,h1,Bool.and_true]
  unfold raAt
  split
  ·exact nomo_refl y
  ·cases y <;> rfl
def nonN (m : Mark) : Prop:=∀ v,some v ∈ m→(0 : Int) ≤ v
theorem nonN_ra : ∀ {l m : Mark},nonN m→nonN (raB l m)
 | [],_,_,v,hv=>by cases hv
 | _ :: _,[],_,v,hv=>by cases hv
 | x :: l,y :: m,h,v,hv=>by
  have hv : some v ∈ raAt x y :: raB l m:=hv
  rcases List.mem_cons.mp hv with e | e
  ·unfold raAt at e
   split at e
   ·exact h v (by rw [e]; exact List.mem_cons_self ..)
   ·cases e
  ·exact nonN_ra (l:=l) (m:=m) (fun u hu=>h u (List.mem_cons_of_mem _ hu)) v e
def afterM (m : Mark) (tk gv : List Int) : Mark:=List.zipWith afM m (sub gv tk)
theorem after_len {m : Mark} {tk gv : List Int} {z : Nat} (h1 : m.length = z) (h2 : tk.length = z) (h3 : gv.length = z) : (afterM m tk gv).length = z:=by
 unfold afterM
 rw [List.length_zipWith,sub_len h3 h2,h1,Nat.min_self]
theorem nonN_after : ∀ {m : Mark} {tk gv : List Int},nonN m→tk.length = m.length→gv.length = m.length→(∀ x ∈ gv,0 ≤ x∧x ≤ 1000000000)→undB (tk.map some) m = true→nonN (afterM m tk gv)
 | [],_,_,_,_,_,_,_=>fun v hv=>by cases hv
 | o :: m,[],_,_,e1,_,_,_=>by simp at e1
 | o :: m,_ :: _,[],_,_,e2,_,_=>by simp at e2
 | o :: m,t :: tk,g :: gv,hn,e1,e2,hg,u=>by
  rw [List.map_cons,und_cons,Bool.and_eq_true] at u
  intro v hv
  have hv : some v ∈ afM o (g - t) :: afterM m tk gv:=hv
  rcases List.mem_cons.mp hv with e | e
  ·cases o with
   | none=>cases e
   | some y =>
    have e : v = y + (g - t):=by cases e; rfl
    have h1:=u.1
    simp only [nomo,decide_eq_true_eq] at h1
    have h2:=(hg g (List.mem_cons_self ..)).1
    omega
  ·exact nonN_after (fun v hv=>hn v (List.mem_cons_of_mem _ hv)) (by simpa using e1) (by simpa using e2) (fun x hx=>hg x (List.mem_cons_of_mem _ hx)) u.2 v e
def upC (par : List Int) : Nat→Nat→List Nat
 | 0,_=>[]
 | f + 1,n=>n :: (if par.getD n (-1) < 0 then [] else upC par f (par.getD n (-1)).toNat)
def PV (par : List Int) : Prop:=∀ i,i < par.length→par.getD i (-1) < (i : Int)
theorem upC_fuel {par : List Int} (pv : PV par) : ∀ (f g n : Nat),n < f→n < g→n < par.length→upC par f n = upC par g n:=by
 intro f
 induction f with
 | zero=>intro g n h; omega
 | succ f ih =>
  intro g n h1 h2 hn
  cases g with
  | zero=>omega
  | succ g =>
   show (n :: _) = (n :: _)
   congr 1
   by_cases q : par.getD n (-1) < 0
   ·rw [if_pos q,if_pos q]
   ·rw [if_neg q,if_neg q]
    have lt:=pv n hn
    exact ih g _ (by omega) (by omega) (by omega)
theorem upC_step {par : List Int} (pv : PV par) {n : Nat} (hn : n < par.length) : upC par (n + 1) n = n :: (if par.getD n (-1) < 0 then [] else upC par ((par.getD n (-1)).toNat + 1) (par.getD n (-1)).toNat):=by
 show (n :: _) = (n :: _)
 congr 1
 by_cases q : par.getD n (-1) < 0
 ·rw [if_pos q,if_pos q]
 ·rw [if_neg q,if_neg q]
  have lt:=pv n hn
  exact upC_fuel pv _ _ _ (by omega) (by omega) (by omega)
theorem upC_le {par : List Int} (pv : PV par) : ∀ (f n : Nat),n < par.length→∀ k ∈ upC par f n,k ≤ n:=by
 intro f
 induction f with
 | zero=>intro n _ k hk; cases hk
 | succ f ih =>
  intro n hn k hk
  rcases List.mem_cons.mp hk with e | e
  ·omega
  ·by_cases q : par.getD n (-1) < 0
   ·rw [if_pos q] at e; cases e
   ·rw [if_neg q] at e
    have lt:=pv n hn
    have:=ih _ (by omega) k e
    omega
theorem upC_len {par : List Int} : ∀ (f n : Nat),(upC par f n).length ≤ f
 | 0,_=>Nat.le_refl _
 | f + 1,n=>by
  show (n :: _).length ≤ f + 1
  rw [List.length_cons]
  by_cases q : par.getD n (-1) < 0
  ·rw [if_pos q]; exact Nat.succ_le_succ (Nat.zero_le _)
  ·rw [if_neg q]; exact Nat.succ_le_succ (upC_len f _)
theorem upC_app {par : List Int} (pv : PV par) (x : Int) : ∀ (f n : Nat),n < par.length→upC (par ++ [x]) f n = upC par f n:=by
 intro f
 induction f with
 | zero=>intro n _; rfl
 | succ f ih =>
  intro n hn
  show (n :: _) = (n :: _)
  rw [gD_L hn]
  congr 1
  by_cases q : par.getD n (-1) < 0
  ·rw [if_pos q,if_pos q]
  ·rw [if_neg q,if_neg q]
   have lt:=pv n hn
   exact ih _ (by omega)
def raF (marks : List Mark) : Mark→List Nat→Mark × List Int
 | mk,[]=>(mk,[])
 | mk,n :: ns=>match raisedO (marks.getD n []) mk with
  | none=>raF marks mk ns
  | some r=>((raF marks r ns).1,(n : Int) :: (raF marks r ns).2)
theorem raF_no {marks : List Mark} {mk : Mark} {n : Nat} {ns : List Nat} (h : raisedO (marks.getD n []) mk = none) : raF marks mk (n :: ns) = raF marks mk ns:=by
 conv=>lhs; unfold raF
 rw [h]
theorem raF_go {marks : List Mark} {mk r : Mark} {n : Nat} {ns : List Nat} (h : raisedO (marks.getD n []) mk = some r) : raF marks mk (n :: ns) = ((raF marks r ns).1,(n : Int) :: (raF marks r ns).2):=by
 conv=>lhs; unfold raF
 rw [h]
theorem raF_app {marks : List Mark} (x : Mark) : ∀ (ns : List Nat) (mk : Mark),(∀ k ∈ ns,k < marks.length)→raF (marks ++ [x]) mk ns = raF marks mk ns
 | [],_,_=>rfl
 | n :: ns,mk,h=>by
  have e : (marks ++ [x]).getD n [] = marks.getD n []:=gD_L (h n (List.mem_cons_self ..))
  have ih:=fun mk'=>raF_app x ns mk' fun k hk=>h k (List.mem_cons_of_mem _ hk)
  cases q : raisedO (marks.getD n []) mk with
  | none=>rw [raF_no q,raF_no (by rw [e]; exact q),ih]
  | some r=>rw [raF_go q,raF_go (by rw [e]; exact q),ih]
theorem raised_und {l m r : Mark} (hl : l.length = m.length) (h : raisedO l m = some r) : undB m r = true∧r.length = m.length∧(nonN m→nonN r):=by
 unfold raisedO at h
 split at h
 ·cases h
 ·cases h
  exact ⟨(und_ra hl).1,(und_ra hl).2,nonN_ra⟩
theorem raF_und {marks : List Mark} {z : Nat} (wd : ∀ m ∈ marks,m.length = z) : ∀ (ns : List Nat) (mk : Mark),(∀ k ∈ ns,k < marks.length)→mk.length = z→undB mk (raF marks mk ns).1 = true∧(raF marks mk ns).1.length = z∧(nonN mk→nonN (raF marks mk ns).1)
 | [],mk,_,h=>⟨und_refl mk,h,id⟩
 | n :: ns,mk,hk,h=>by
  have hn : n < marks.length:=hk n (List.mem_cons_self ..)
  have ln : (marks.getD n []).length = z:=by
   rw [List.getD_eq_getElem?_getD,List.getElem?_eq_getElem hn]
   exact wd _ (List.getElem_mem hn)
  cases q : raisedO (marks.getD n []) mk with
  | none=>rw [raF_no q]; exact raF_und wd ns mk (fun k hk'=>hk k (List.mem_cons_of_mem _ hk')) h
  | some r =>
   rw [raF_go q]
   obtain ⟨a1,a2,a3⟩:=raised_und (by rw [ln,h]) q
   obtain ⟨b1,b2,b3⟩:=raF_und wd ns r (fun k hk'=>hk k (List.mem_cons_of_mem _ hk')) (by rw [a2,h])
   exact ⟨und_trans a2.symm (by rw [a2,h,b2]) a1 b1,b2,fun x=>b3 (a3 x)⟩
structure TGood (tk gv : List (List Int)) (first : List Int) (z room : Nat) (w : TV) (n k : Nat) : Prop where
 wd : ∀ m ∈ w.marks,m.length = z
 nn : ∀ m ∈ w.marks,nonN m
 lp : w.par.length = w.marks.length
 lc : w.com.length = w.marks.length
 ll : w.loops.length = w.marks.length
 le : w.marks.length ≤ room
 one : 1 ≤ w.marks.length
 m0 : w.marks.getD 0 [] = first.map some
 p0 : w.par.getD 0 (-1) = -1
 st : ∀ i,1 ≤ i→i < w.marks.length→∃ p d : Nat,p < i∧d < tk.length∧w.par.getD i (-1) = (p : Int)∧w.com.getD i 0 = (d : Int)∧undB ((tk.getD d []).map some) (w.marks.getD p []) = true∧(w.marks.getD i [],w.loops.getD i []) = raF w.marks (afterM (w.marks.getD p []) (tk.getD d []) (gv.getD d [])) (upC w.par (p + 1) p)
 la : w.above.length = k
 ab : ∀ i,i < k→w.above.getD i 0 < 0 ∨ ∃ j,j < i∧undB (w.marks.getD i []) (w.marks.getD j []) = true
 cl : ∀ i,i < n→w.above.getD i 0 < 0→∀ d,d < tk.length→undB ((tk.getD d []).map some) (w.marks.getD i []) = true→∃ q,q < w.marks.length∧undB (afterM (w.marks.getD i []) (tk.getD d []) (gv.getD d [])) (w.marks.getD q []) = true
theorem TGood.pv {tk gv : List (List Int)} {first : List Int} {z room : Nat} {w : TV} {n k : Nat} (g : TGood tk gv first z room w n k) : PV w.par:=by
 intro i hi
 by_cases h : i = 0
 ·subst h; rw [g.p0]; decide
 ·obtain ⟨p,d,h1,_,h2,_⟩:=g.st i (by omega) (by rw [← g.lp]; exact hi)
  rw [h2]; omega
end L2
namespace L2
open PySem PySem.Spec PyProof.Rows PySem.SeqAt
section
variable {tk gv : List (List Int)} {first : List Int} {z room : Nat} {w : TV} {n k : Nat}
theorem TGood.mem (g : TGood tk gv first z room w n k) {i : Nat} (h : i < w.marks.length) : w.marks.getD i [] ∈ w.marks:=by
 rw [List.getD_eq_getElem?_getD,List.getElem?_eq_getElem h]
 exact List.getElem_mem h
theorem TGood.wdD (g : TGood tk gv first z room w n k) {i : Nat} (h : i < w.marks.length) : (w.marks.getD i []).length = z:=g.wd _ (g.mem h)
theorem TGood.put (g : TGood tk gv first z room w n k) {p d : Nat} {mk : Mark} {lp : List Int} (hp : p < w.marks.length) (hd : d < tk.length) (hk : k ≤ w.marks.length) (hn : n ≤ k) (hr : w.marks.length < room)
  (he : undB ((tk.getD d []).map some) (w.marks.getD p []) = true) (hm : (mk,lp) = raF w.marks (afterM (w.marks.getD p []) (tk.getD d []) (gv.getD d [])) (upC w.par (p + 1) p)) (ml : mk.length = z) (mn : nonN mk) :
  TGood tk gv first z room ⟨w.marks ++ [mk],w.par ++ [(p : Int)],w.com ++ [(d : Int)],w.loops ++ [lp],w.above⟩ n k:=by
 have L : (w.marks ++ [mk]).length = w.marks.length + 1:=by rw [List.length_append]; rfl
 have one:=g.one
 have lpp:=g.lp
 have lcc:=g.lc
 have lll:=g.ll
 have pv:=g.pv
 refine ⟨fun m h=>?_,fun m h=>?_,?_,?_,?_,?_,?_,?_,?_,fun i i1 hi=>?_,g.la,fun i hi=>?_,fun i hi h0 d' hd' he'=>?_⟩
 ·rcases List.mem_append.mp h with q | q
  ·exact g.wd m q
  ·rw [List.mem_singleton.mp q]; exact ml
 ·rcases List.mem_append.mp h with q | q
  ·exact g.nn m q
  ·rw [List.mem_singleton.mp q]; exact mn
 ·show (w.par ++ [(p : Int)]).length = (w.marks ++ [mk]).length
  rw [L,List.length_append,g.lp]; rfl
 ·show (w.com ++ [(d : Int)]).length = (w.marks ++ [mk]).length
  rw [L,List.length_append,g.lc]; rfl
 ·show (w.loops ++ [lp]).length = (w.marks ++ [mk]).length
  rw [L,List.length_append,g.ll]; rfl
 ·show (w.marks ++ [mk]).length ≤ room
  omega
 ·show 1 ≤ (w.marks ++ [mk]).length
  omega
 ·show (w.marks ++ [mk]).getD 0 [] = _
  rw [gD_L (by omega)]; exact g.m0
 ·show (w.par ++ [(p : Int)]).getD 0 (-1) = _
  rw [gD_L (by omega)]; exact g.p0
 ·have hi : i < (w.marks ++ [mk]).length:=hi
  show ∃ p' d' : Nat,p' < i∧d' < tk.length∧(w.par ++ [(p : Int)]).getD i (-1) = (p' : Int)∧(w.com ++ [(d : Int)]).getD i 0 = (d' : Int)∧undB ((tk.getD d' []).map some) ((w.marks ++ [mk]).getD p' []) = true∧((w.marks ++ [mk]).getD i [],(w.loops ++ [lp]).getD i []) = raF (w.marks ++ [mk]) (afterM ((w.marks ++ [mk]).getD p' []) (tk.getD d' []) (gv.getD d' [])) (upC (w.par ++ [(p : Int)]) (p' + 1) p')
  by_cases hlt : i < w.marks.length
  ·obtain ⟨p',d',h1,h2,h3,h4,h5,h6⟩:=g.st i i1 hlt
   refine ⟨p',d',h1,h2,?_,?_,?_,?_⟩
   ·rw [gD_L (by omega)]; exact h3
   ·rw [gD_L (by omega)]; exact h4
   ·rw [gD_L (by omega)]; exact h5
   ·rw [gD_L hlt,gD_L (by omega),gD_L (by omega),upC_app pv _ _ _ (by omega),raF_app _ _ _ (fun q hq=>by have:=upC_le pv _ _ (by omega) q hq; omega)]
    exact h6
  ·have ei : i = w.marks.length:=by omega
   refine ⟨p,d,by omega,hd,?_,?_,?_,?_⟩
   ·exact gD_E (by omega)
   ·exact gD_E (by omega)
   ·rw [gD_L hp]; exact he
   ·rw [gD_E ei,gD_E (by omega),gD_L hp,upC_app pv _ _ _ (by omega),raF_app _ _ _ (fun q hq=>by have:=upC_le pv _ _ (by omega) q hq; omega)]
    exact hm
 ·show w.above.getD i 0 < 0 ∨ ∃ j,j < i∧undB ((w.marks ++ [mk]).getD i []) ((w.marks ++ [mk]).getD j []) = true
  rcases g.ab i hi with q | ⟨j,hj,q⟩
  ·exact .inl q
  ·refine .inr ⟨j,hj,?_⟩
   rw [gD_L (by omega),gD_L (by omega)]; exact q
 ·have e : (w.marks ++ [mk]).getD i [] = w.marks.getD i []:=gD_L (by omega)
  show ∃ q,q < (w.marks ++ [mk]).length∧undB (afterM ((w.marks ++ [mk]).getD i []) (tk.getD d' []) (gv.getD d' [])) ((w.marks ++ [mk]).getD q []) = true
  have he' : undB ((tk.getD d' []).map some) ((w.marks ++ [mk]).getD i []) = true:=he'
  rw [e] at he' ⊢
  obtain ⟨q,hq,u⟩:=g.cl i hi h0 d' hd' he'
  exact ⟨q,by omega,by rw [gD_L hq]; exact u⟩
theorem TGood.look (g : TGood tk gv first z room w n n) {x : Int} (hn : n < w.marks.length) (hx : x < 0 ∨ ∃ j,j < n∧undB (w.marks.getD n []) (w.marks.getD j []) = true) :
  TGood tk gv first z room ⟨w.marks,w.par,w.com,w.loops,w.above ++ [x]⟩ n (n + 1):=by
 have la:=g.la
 refine ⟨g.wd,g.nn,g.lp,g.lc,g.ll,g.le,g.one,g.m0,g.p0,g.st,?_,fun i hi=>?_,fun i hi h0=>?_⟩
 ·show (w.above ++ [x]).length = n + 1
  rw [List.length_append,g.la]; rfl
 ·show (w.above ++ [x]).getD i 0 < 0 ∨ _
  by_cases h : i < n
  ·rw [gD_L (by omega)]; exact g.ab i h
  ·have e : i = n:=by omega
   subst e
   rw [gD_E la.symm]; exact hx
 ·have h0 : (w.above ++ [x]).getD i 0 < 0:=h0
  rw [gD_L (by omega)] at h0
  exact g.cl i hi h0
theorem TGood.next (g : TGood tk gv first z room w n (n + 1)) (h : w.above.getD n 0 < 0→∀ d,d < tk.length→undB ((tk.getD d []).map some) (w.marks.getD n []) = true→∃ q,q < w.marks.length∧undB (afterM (w.marks.getD n []) (tk.getD d []) (gv.getD d [])) (w.marks.getD q []) = true) :
  TGood tk gv first z room w (n + 1) (n + 1):=by
 refine ⟨g.wd,g.nn,g.lp,g.lc,g.ll,g.le,g.one,g.m0,g.p0,g.st,g.la,g.ab,fun i hi h0=>?_⟩
 by_cases q : i < n
 ·exact g.cl i q h0
 ·have e : i = n:=by omega
  subst e
  exact h h0
end
theorem TGood.start {tk gv : List (List Int)} {first : List Int} {z room : Nat} (h1 : first.length = z) (h2 : ∀ x ∈ first,0 ≤ x∧x ≤ 1000000000) (hr : 1 ≤ room) : TGood tk gv first z room ⟨[first.map some],[-1],[-1],[[]],[]⟩ 0 0:=by
 refine ⟨fun m h=>?_,fun m h v hv=>?_,rfl,rfl,rfl,hr,Nat.le_refl _,rfl,rfl,fun i i1 hi=>?_,rfl,fun i hi=>absurd hi (Nat.not_lt_zero _),fun i hi=>absurd hi (Nat.not_lt_zero _)⟩
 ·rw [List.mem_singleton.mp h,List.length_map]; exact h1
 ·rw [List.mem_singleton.mp h] at hv
  obtain ⟨x,hx,e⟩:=List.mem_map.mp hv
  cases e
  exact (h2 _ hx).1
 ·have hi : i < 1:=hi
  omega
theorem tellM_all {all : List Mark} : ∀ (xs acc : List Mark) (r : Mark),isOutM all r = true→(r ∈ acc ∨ r ∈ xs)→r ∈ xs.foldl (stepM all) acc
 | [],acc,r,_,h=>by
  rcases h with h | h
  ·exact h
  ·cases h
 | x :: xs,acc,r,ho,h=>by
  refine tellM_all xs (stepM all acc x) r ho ?_
  unfold stepM
  rcases h with h | h
  ·left; split
   ·exact List.mem_append_left _ h
   ·exact h
  ·rcases List.mem_cons.mp h with e | e
   ·left
    subst e
    split
    ·exact List.mem_append_right _ (List.mem_singleton.mpr rfl)
    ·rename_i q
     by_cases m : r ∈ acc
     ·exact m
     ·exact absurd ⟨m,ho⟩ q
   ·exact .inr e
theorem fence_over {ms : List Mark} {z : Nat} (wd : ∀ m ∈ ms,m.length = z) : ∀ (f : Nat) (m : Mark),m ∈ ms→(ms.filter (undB m)).length ≤ f→∃ r ∈ tellM ms ms,undB m r = true:=by
 intro f
 induction f with
 | zero =>
  intro m hm h
  have : m ∈ ms.filter (undB m):=List.mem_filter.mpr ⟨hm,und_refl m⟩
  have:=List.length_pos_of_mem this
  omega
 | succ f ih =>
  intro m hm h
  cases ho : isOutM ms m with
  | true=>exact ⟨m,tellM_all ms [] m ho (.inr hm),und_refl m⟩
  | false =>
   have : ∃ o ∈ ms,o ≠ m∧undB m o = true:=by
    refine Classical.byContradiction fun no=>?_
    have : isOutM ms m = true:=isOutM_iff.mpr fun o hmo=>by
     by_cases e : o = m
     ·exact .inl e
     ·right
      cases u : undB m o with
      | false=>rfl
      | true=>exact absurd ⟨o,hmo,e,u⟩ no
    rw [this] at ho; cases ho
   obtain ⟨o,hmo,ne,u⟩:=this
   have lm:=wd m hm
   have lo:=wd o hmo
   have sub : ∀ x ∈ ms,undB o x = true→undB m x = true:=fun x hx ux=>und_trans (by rw [lm,lo]) (by rw [lo,wd x hx]) u ux
   have lt : (ms.filter (undB o)).length < (ms.filter (undB m)).length:=by
    have e : ms.filter (undB o) = (ms.filter (undB m)).filter (undB o):=by
     rw [List.filter_filter]
     refine List.filter_congr fun x hx=>?_
     cases q : undB o x with
     | false=>rfl
     | true=>rw [sub x hx q]; rfl
    rw [e]
    refine List.length_filter_lt_length_iff_exists.mpr ⟨m,List.mem_filter.mpr ⟨hm,und_refl m⟩,?_⟩
    intro q
    exact ne (und_anti (by rw [lm,lo]) q u)
   obtain ⟨r,hr,ur⟩:=ih o hmo (by omega)
   have lr:=wd r ((tellM_sub ms ms [] r hr).resolve_left (fun h=>by cases h))
   exact ⟨r,hr,und_trans (by rw [lm,lo]) (by rw [lo,lr]) u ur⟩
end L2
namespace L2
open PySem PySem.Spec PyProof.Rows PySem.SeqAt
theorem rowsTake {H : Hp} : ∀ {as : List Addr} {rs : List (List Int)} (k : Nat),Rows H as rs→Rows H (as.take k) (rs.take k)
 | _,_,0,_=>.nil
 | _,_,_ + 1,.nil=>.nil
 | _,_,k + 1,.cons e t=>.cons e (rowsTake k t)
theorem OkR.take {z : Nat} {tk gv : List (List Int)} {fs : List Int} (o : OkR z tk gv fs) (k : Nat) : OkR z (tk.take k) (gv.take k) fs :=
 ⟨o.z1,o.z6,by have:=o.t8; rw [List.length_take]; omega,by have:=o.gl; rw [List.length_take,List.length_take,this],fun r h=>o.tk r (List.mem_of_mem_take h),fun r h=>o.gv r (List.mem_of_mem_take h),o.fs⟩
def Cov (w : TV) (b : List Int) : Prop:=∃ i,i < w.marks.length∧undB (b.map some) (w.marks.getD i []) = true
section
variable {tk gv : List (List Int)} {first : List Int} {z room : Nat} {w : TV}
theorem TGood.cov_fence (g : TGood tk gv first z room w w.marks.length w.marks.length) {b : List Int} (bl : b.length = z) (c : Cov w b) : ∃ r ∈ tellM w.marks w.marks,undB (b.map some) r = true:=by
 obtain ⟨i,hi,u⟩:=c
 obtain ⟨r,hr,u2⟩:=fence_over g.wd _ _ (g.mem hi) (Nat.le_refl _)
 have lr:=g.wd r ((tellM_sub w.marks w.marks [] r hr).resolve_left (fun h=>by cases h))
 exact ⟨r,hr,und_trans (by rw [List.length_map,g.wdD hi,bl]) (by rw [g.wdD hi,lr]) u u2⟩
theorem TGood.cov_first (g : TGood tk gv first z room w w.marks.length w.marks.length) : Cov w first:=⟨0,g.one,by rw [g.m0]; exact und_refl _⟩
end
end L2
namespace L2
open PySem PySem.Spec PyProof.Rows
section
variable {X : Cx}
end
def canB (A B : List (List Int)) (left : List Nat) (b k : Nat) : Bool:=decide (0 < (A.getD k []).getD b 0) && !liesB (B.getD k []) left
def fpIn (A B : List (List Int)) (left : List Nat) (b : Nat) : Option Nat:=(List.range A.length).find? fun k=>canB A B left b k
def fpB (A B : List (List Int)) (left : List Nat) : Option (Nat × Nat):=left.findSome? fun b=>(fpIn A B left b).map fun k=>(b,k)
def Steps (A B : List (List Int)) : List Nat→List (Nat × Nat)→List Nat→Prop
 | l,[],r=>l = r
 | l,p :: ps,r=>fpB A B l = some p∧Steps A B (l.erase p.1) ps r
theorem Steps.snoc {A B : List (List Int)} : ∀ {l : List Nat} {ps : List (Nat × Nat)} {r : List Nat} {p : Nat × Nat},Steps A B l ps r→fpB A B r = some p→Steps A B l (ps ++ [p]) (r.erase p.1)
 | l,[],r,p,h,hp=>by
  have h : l = r:=h
  subst h
  exact ⟨hp,rfl⟩
 | l,q :: ps,r,p,h,hp=>⟨h.1,Steps.snoc h.2 hp⟩
theorem Steps.sub {A B : List (List Int)} : ∀ {l : List Nat} {ps : List (Nat × Nat)} {r : List Nat},Steps A B l ps r→r.Sublist l
 | l,[],r,h=>by
  have h : l = r:=h
  subst h
  exact List.Sublist.refl _
 | l,q :: ps,r,h=>(Steps.sub h.2).trans List.erase_sublist
def Tups (H : Hp) (qs : List Addr) (pp : List (Nat × Nat)) : Prop:=Paired (fun (a : Addr) (p : Nat × Nat)=>H a = some (.tup [.int (p.1 : Int),.int (p.2 : Int)])) qs pp
theorem Tups.same {H H' : Hp} {qs : List Addr} {pp : List (Nat × Nat)} (h : Tups H qs pp) (S : Same H H') : Tups H' qs pp:=Paired.mapP h fun a r e=>S _ _ e
theorem Tups.lay {H : Hp} {qs : List Addr} {pp : List (Nat × Nat)} {l : Addr} {xs ys : List V} (h : Tups H qs pp) (hl : H l = some (.lst xs)) : Tups (upd H l (.lst ys)) qs pp:=Paired.mapP h fun a r e=>by
 rw [upd_ne (ne_of e hl (by intro z; cases z))]
 exact e
theorem Tups.snoc {H : Hp} {qs : List Addr} {pp : List (Nat × Nat)} {a : Addr} {p : Nat × Nat} (h : Tups H qs pp) (e : H a = some (.tup [.int (p.1 : Int),.int (p.2 : Int)])) : Tups H (qs ++ [a]) (pp ++ [p]):=Paired.snoc h e
theorem Tups.length {H : Hp} {qs : List Addr} {pp : List (Nat × Nat)} (h : Tups H qs pp) : qs.length = pp.length:=Paired.length h
end L2
namespace L2
open PySem PySem.Spec PyProof.Rows PySem.SeqAt
section
variable {X : Cx} {pins : List (Addr × Obj)} {σ : St} {H : Hp} {s : Shared} {A : Around} {a b : Addr}
end
end L2
namespace L2
open PySem PySem.Spec PyProof.Rows PySem.SeqAt
def gL (z : Nat) (tk gv : List (List Int)) : List Nat→List Int
 | []=>List.replicate z 0
 | d :: ds=>add (sub (gv.getD d []) (tk.getD d [])) (gL z tk gv ds)
section
variable {z : Nat} {tk gv : List (List Int)} (wt : Wd z tk) (wg : Wd z gv) (hl : gv.length = tk.length)
include wt wg hl
theorem gL_len : ∀ {ds : List Nat},(∀ d ∈ ds,d < tk.length)→(gL z tk gv ds).length = z
 | [],_=>List.length_replicate
 | d :: ds,h=>by
  have hd:=h d (List.mem_cons_self ..)
  exact add_len (sub_len (wg.at (by omega)) (wt.at hd)) (gL_len fun x hx=>h x (List.mem_cons_of_mem _ hx))
theorem gL_cons {d : Nat} {ds : List Nat} {i : Nat} (hd : d < tk.length) (h : ∀ d ∈ ds,d < tk.length) (hi : i < z) : (gL z tk gv (d :: ds)).getD i 0 = (gv.getD d []).getD i 0 - (tk.getD d []).getD i 0 + (gL z tk gv ds).getD i 0:=by
 show (add (sub (gv.getD d []) (tk.getD d [])) (gL z tk gv ds)).getD i 0 = _
 rw [add_at (sub_len (wg.at (by omega)) (wt.at hd)) (gL_len wt wg hl h) hi,sub_at (wg.at (by omega)) (wt.at hd) hi]
theorem gL_app {i : Nat} (hi : i < z) : ∀ {xs ys : List Nat},(∀ d ∈ xs,d < tk.length)→(∀ d ∈ ys,d < tk.length)→(gL z tk gv (xs ++ ys)).getD i 0 = (gL z tk gv xs).getD i 0 + (gL z tk gv ys).getD i 0
 | [],ys,_,_=>by
  show (gL z tk gv ys).getD i 0 = (List.replicate z (0 : Int)).getD i 0 + _
  rw [rep_at]; omega
 | d :: xs,ys,hx,hy=>by
  have hd:=hx d (List.mem_cons_self ..)
  have hx' : ∀ d ∈ xs,d < tk.length:=fun x h=>hx x (List.mem_cons_of_mem _ h)
  have hxy : ∀ d ∈ xs ++ ys,d < tk.length:=fun x h=>by rcases List.mem_append.mp h with q | q; exact hx' x q; exact hy x q
  rw [List.cons_append,gL_cons wt wg hl hd hxy hi,gL_app hi hx' hy,gL_cons wt wg hl hd hx' hi]
  omega
theorem need_cons {d : Nat} {ds : List Nat} {i : Nat} (hd : d < tk.length) (h : ∀ d ∈ ds,d < tk.length) (hi : i < z) : (needL z tk gv (d :: ds)).getD i 0 = mx ((tk.getD d []).getD i 0) ((needL z tk gv ds).getD i 0 - ((gv.getD d []).getD i 0 - (tk.getD d []).getD i 0)):=by
 show (ahead (tk.getD d []) (gv.getD d []) (needL z tk gv ds)).getD i 0 = _
 unfold ahead
 have lg:=wg.at (d:=d) (by omega)
 rw [hi2_at (wt.at hd) (sub_len (need_len wt wg hl h) (sub_len lg (wt.at hd))) hi,sub_at (need_len wt wg hl h) (sub_len lg (wt.at hd)) hi,sub_at lg (wt.at hd) hi]
theorem need_app (nt : ∀ r ∈ tk,nonneg r) {i : Nat} (hi : i < z) : ∀ {xs ys : List Nat},(∀ d ∈ xs,d < tk.length)→(∀ d ∈ ys,d < tk.length)→(needL z tk gv (xs ++ ys)).getD i 0 = mx ((needL z tk gv xs).getD i 0) ((needL z tk gv ys).getD i 0 - (gL z tk gv xs).getD i 0)
 | [],ys,_,hy=>by
  have h0:=nonneg_at (need_nonneg wt wg hl nt hy) i
  show (needL z tk gv ys).getD i 0 = mx ((List.replicate z (0 : Int)).getD i 0) ((needL z tk gv ys).getD i 0 - (List.replicate z (0 : Int)).getD i 0)
  rw [rep_at]
  unfold mx
  split <;> omega
 | d :: xs,ys,hx,hy=>by
  have hd:=hx d (List.mem_cons_self ..)
  have hx' : ∀ d ∈ xs,d < tk.length:=fun x h=>hx x (List.mem_cons_of_mem _ h)
  have hxy : ∀ d ∈ xs ++ ys,d < tk.length:=fun x h=>by rcases List.mem_append.mp h with q | q; exact hx' x q; exact hy x q
  rw [List.cons_append,need_cons wt wg hl hd hxy hi,need_app nt hi hx' hy,need_cons wt wg hl hd hx' hi,gL_cons wt wg hl hd hx' hi]
  generalize (tk.getD d []).getD i 0 = t
  generalize (gv.getD d []).getD i 0 = g
  generalize (needL z tk gv xs).getD i 0 = a
  generalize (needL z tk gv ys).getD i 0 = b
  generalize (gL z tk gv xs).getD i 0 = c
  unfold mx
  repeat' split
  all_goals omega
end
def rep (m : Nat) (ds : List Nat) : List Nat:=(List.replicate m ds).flatten
theorem rep_succ (m : Nat) (ds : List Nat) : rep (m + 1) ds = ds ++ rep m ds:=by unfold rep; rw [List.replicate_succ,List.flatten_cons]
theorem rep_mem {m : Nat} {ds : List Nat} {d : Nat} (h : d ∈ rep m ds) : d ∈ ds:=by
 unfold rep at h
 obtain ⟨l,hl,hd⟩:=List.mem_flatten.mp h
 rw [(List.mem_replicate.mp hl).2] at hd
 exact hd
section
variable {z : Nat} {tk gv : List (List Int)} (wt : Wd z tk) (wg : Wd z gv) (hl : gv.length = tk.length)
include wt wg hl
theorem gL_rep {i : Nat} (hi : i < z) {ds : List Nat} (h : ∀ d ∈ ds,d < tk.length) : ∀ m : Nat,(gL z tk gv (rep m ds)).getD i 0 = (m : Int) * (gL z tk gv ds).getD i 0
 | 0=>by
  show (List.replicate z (0 : Int)).getD i 0 = _
  rw [rep_at]; simp
 | m + 1=>by
  rw [rep_succ,gL_app wt wg hl hi h (fun d hd=>h d (rep_mem hd)),gL_rep hi h m,Int.natCast_add,Int.add_mul]
  simp
  omega
theorem need_rep (nt : ∀ r ∈ tk,nonneg r) {i : Nat} (hi : i < z) {ds : List Nat} (h : ∀ d ∈ ds,d < tk.length) : ∀ m : Nat,(needL z tk gv (rep (m + 1) ds)).getD i 0 = mx ((needL z tk gv ds).getD i 0) ((needL z tk gv ds).getD i 0 - (m : Int) * (gL z tk gv ds).getD i 0)
 | 0=>by
  have e : rep 1 ds = ds:=by unfold rep; simp
  rw [e]
  unfold mx
  simp
 | m + 1=>by
  rw [rep_succ,need_app wt wg hl nt hi h (fun d hd=>h d (rep_mem hd)),need_rep nt hi h m]
  generalize (needL z tk gv ds).getD i 0 = n
  generalize (gL z tk gv ds).getD i 0 = g
  have e : ((m + 1 : Nat) : Int) * g = (m : Int) * g + g:=by rw [Int.natCast_add,Int.add_mul]; simp
  rw [e]
  by_cases hg : 0 ≤ g
  ·have h1 : 0 ≤ (m : Int) * g:=Int.mul_nonneg (by omega) hg
   generalize (m : Int) * g = q at h1
   unfold mx
   repeat' split
   all_goals omega
  ·have h1 : (m : Int) * g ≤ 0:=Int.mul_nonpos_of_nonneg_of_nonpos (by omega) (by omega)
   generalize (m : Int) * g = q at h1
   unfold mx
   repeat' split
   all_goals omega
theorem tg_at {i : Nat} (hi : i < z) (ms : List Int) : ∀ {n : Nat},n < tk.length→(tgU z tk gv ms (n + 1)).getD i 0 = (tgU z tk gv ms n).getD i 0 + ms.getD n 0 * ((gv.getD n []).getD i 0 - (tk.getD n []).getD i 0):=fun {n} hn=>by
 have ls : (sub (gv.getD n []) (tk.getD n [])).length = z:=sub_len (wg.at (by omega)) (wt.at hn)
 show (add (tgU z tk gv ms n) ((sub (gv.getD n []) (tk.getD n [])).map fun y=>ms.getD n 0 * y)).getD i 0 = _
 rw [add_at (tgU_len wt wg hl ms (by omega)) (by rw [List.length_map]; exact ls) hi,map_at (by omega),sub_at (wg.at (by omega)) (wt.at hn) hi]
theorem tg_cons {i : Nat} (hi : i < z) {d : Nat} {ds : List Nat} {D : Nat} (hD : tk.length ≤ D) (hd : d < tk.length) : ∀ {n : Nat},n ≤ tk.length→(tgU z tk gv (cntL D (d :: ds)) n).getD i 0 = (tgU z tk gv (cntL D ds) n).getD i 0 + (if d < n then (gv.getD d []).getD i 0 - (tk.getD d []).getD i 0 else 0)
 | 0,_=>by
  show (List.replicate z (0 : Int)).getD i 0 = (List.replicate z (0 : Int)).getD i 0 + _
  rw [if_neg (Nat.not_lt_zero _)]; omega
 | n + 1,hn=>by
  rw [tg_at wt wg hl hi _ (by omega),tg_at wt wg hl hi _ (by omega),tg_cons hi hD hd (n:=n) (by omega),cntL_at (by omega),cntL_at (by omega),List.count_cons]
  by_cases e : d = n
  ·subst e
   rw [if_neg (Nat.lt_irrefl _),if_pos (Nat.lt_succ_self _)]
   simp only [beq_self_eq_true,if_true]
   rw [Int.natCast_add,Int.add_mul]
   simp
   omega
  ·have e2 : (d == n) = false:=by simpa using e
   rw [e2]
   simp only [Bool.false_eq_true,if_false,Nat.add_zero]
   by_cases q : d < n
   ·rw [if_pos q,if_pos (by omega)]; omega
   ·rw [if_neg q,if_neg (by omega)]; omega
theorem tg_row {D : Nat} (hD : tk.length ≤ D) : ∀ {ds : List Nat},(∀ d ∈ ds,d < tk.length)→tgU z tk gv (cntL D ds) tk.length = gL z tk gv ds:=fun {ds} h=>by
 refine ext_at (z:=z) (tgU_len wt wg hl _ (Nat.le_refl _)) (gL_len wt wg hl h) fun i hi=>?_
 induction ds with
 | nil =>
  show _ = (List.replicate z (0 : Int)).getD i 0
  rw [rep_at]
  have : ∀ n,n ≤ tk.length→(tgU z tk gv (cntL D []) n).getD i 0 = 0:=fun n=>by
   induction n with
   | zero=>intro _; show (List.replicate z (0 : Int)).getD i 0 = 0; exact rep_at _ _
   | succ n ih=>intro hn; rw [tg_at wt wg hl hi _ (by omega),ih (by omega),cntL_at (by omega)]; simp
  exact this _ (Nat.le_refl _)
 | cons d ds ih =>
  have hd:=h d (List.mem_cons_self ..)
  rw [tg_cons wt wg hl hi hD hd (Nat.le_refl _),ih fun x hx=>h x (List.mem_cons_of_mem _ hx),if_pos hd,gL_cons wt wg hl hd (fun x hx=>h x (List.mem_cons_of_mem _ hx)) hi]
  omega
theorem gL_abs (bt : ∀ r ∈ tk,∀ x ∈ r,0 ≤ x∧x ≤ 1000000000) (bg : ∀ r ∈ gv,∀ x ∈ r,0 ≤ x∧x ≤ 1000000000) {i : Nat} (hi : i < z) : ∀ {ds : List Nat},(∀ d ∈ ds,d < tk.length)→((gL z tk gv ds).getD i 0).natAbs ≤ ds.length * 1000000000
 | [],_=>by
  show ((List.replicate z (0 : Int)).getD i 0).natAbs ≤ _
  rw [rep_at]; simp
 | d :: ds,h=>by
  have hd:=h d (List.mem_cons_self ..)
  have ih:=gL_abs bt bg hi (ds:=ds) fun x hx=>h x (List.mem_cons_of_mem _ hx)
  rw [gL_cons wt wg hl hd (fun x hx=>h x (List.mem_cons_of_mem _ hx)) hi,List.length_cons]
  have l1:=wt.at hd
  have l2:=wg.at (d:=d) (by omega)
  have b1:=bt _ (getDm hd) _ (List.getElem_mem (show i < (tk.getD d []).length by omega))
  have b2:=bg _ (getDm (d:=d) (by omega)) _ (List.getElem_mem (show i < (gv.getD d []).length by omega))
  rw [getD_at (show i < (tk.getD d []).length by omega),getD_at (show i < (gv.getD d []).length by omega)]
  omega
end
abbrev Blk2:=Nat × List Nat
def BlkAt (H : Hp) (p : Addr × Addr) (b : Blk2) : Prop:=H p.1 = some (.tup [.int (b.1 : Int),.ref p.2])∧H p.2 = some (.lst (vints (zs b.2)))
def Blks (H : Hp) (ps : List (Addr × Addr)) (bls : List Blk2) : Prop:=Paired (BlkAt H) ps bls
abbrev fsts (ps : List (Addr × Addr)) : List V:=ps.map fun p=>V.ref p.1
theorem BlkAt.same {H H' : Hp} {p : Addr × Addr} {b : Blk2} (h : BlkAt H p b) (S : Same H H') : BlkAt H' p b:=⟨S _ _ h.1,S _ _ h.2⟩
theorem Blks.same {H H' : Hp} {ps : List (Addr × Addr)} {bls : List Blk2} (h : Blks H ps bls) (S : Same H H') : Blks H' ps bls:=Paired.mapP h fun _ _ e=>e.same S
theorem Blks.snoc {H : Hp} {ps : List (Addr × Addr)} {bls : List Blk2} {p : Addr × Addr} {b : Blk2} (h : Blks H ps bls) (e : BlkAt H p b) : Blks H (ps ++ [p]) (bls ++ [b]):=Paired.snoc h e
theorem Blks.length {H : Hp} {ps : List (Addr × Addr)} {bls : List Blk2} (h : Blks H ps bls) : ps.length = bls.length:=Paired.length h
theorem fst_get {ps : List (Addr × Addr)} {i : Nat} {x : V} (h : (fsts ps)[i]? = some x) : ∃ p,ps[i]? = some p∧x = V.ref p.1:=by
 rw [List.getElem?_map] at h
 cases e : ps[i]? with
 | none=>rw [e] at h; cases h
 | some n=>rw [e] at h; exact ⟨n,rfl,(Option.some.inj h).symm⟩
theorem Blks.lay {H : Hp} {ps : List (Addr × Addr)} {bls : List Blk2} {r : Addr} {xs ys : List V} (h : Blks H ps bls) (hr : H r = some (.lst xs)) (hn : ∀ p ∈ ps,p.2 ≠ r) : Blks (upd H r (.lst ys)) ps bls:=by
 induction h with
 | nil=>exact .nil
 | cons e t ih =>
  refine .cons ⟨?_,?_⟩ (ih fun p hp=>hn p (List.mem_cons_of_mem _ hp))
  ·rw [upd_ne (ne_of e.1 hr (by intro z; cases z))]; exact e.1
  ·rw [upd_ne (hn _ (List.mem_cons_self ..))]; exact e.2
def laid (bls : List Blk2) : List Nat:=(bls.map fun b=>rep b.1 b.2).flatten
theorem laid_app (xs ys : List Blk2) : laid (xs ++ ys) = laid xs ++ laid ys:=by unfold laid; rw [List.map_append,List.flatten_append]
theorem laid_cons (b : Blk2) (ys : List Blk2) : laid (b :: ys) = rep b.1 b.2 ++ laid ys:=by unfold laid; rw [List.map_cons,List.flatten_cons]
theorem laid_nil : laid [] = []:=rfl
theorem laid_one (b : Blk2) : laid [b] = rep b.1 b.2:=by rw [laid_cons,laid_nil,List.append_nil]
theorem laid_mem {bls : List Blk2} {d : Nat} (h : d ∈ laid bls) : ∃ b ∈ bls,d ∈ b.2:=by
 unfold laid at h
 obtain ⟨l,hl,hd⟩:=List.mem_flatten.mp h
 obtain ⟨b,hb,rfl⟩:=List.mem_map.mp hl
 exact ⟨b,hb,rep_mem hd⟩
section
variable {X : Cx}
end
end L2
namespace L2
open PySem PySem.Spec PyProof.Rows
theorem Paired.last {α β : Type} {F : α→β→Prop} : ∀ {l : List α} {a : α} {bs : List β},Paired F (l ++ [a]) bs→∃ bs0 b,bs = bs0 ++ [b]∧Paired F l bs0∧F a b
 | [],a,_,.cons e .nil=>⟨[],_,rfl,.nil,e⟩
 | x :: l,a,_,.cons e t=>by
  obtain ⟨bs0,b,h1,h2,h3⟩:=Paired.last (l:=l) t
  exact ⟨_ :: bs0,b,by rw [h1]; rfl,.cons e h2,h3⟩
end L2
namespace L2
open PySem PySem.Spec PyProof.Rows PySem.SeqAt
def ixI (ys : List Int) (y : Int) : Int:=((ys.findIdx (fun z=>decide (z = y)) : Nat) : Int)
theorem ixI_at {ys : List Int} {y : Int} (h : y ∈ ys) : ys[ys.findIdx (fun z=>decide (z = y))]? = some y∧∀ m,m < ys.findIdx (fun z=>decide (z = y))→∀ w,ys[m]? = some w→w ≠ y:=by
 have hl : ys.findIdx (fun z=>decide (z = y)) < ys.length:=List.findIdx_lt_length_of_exists ⟨y,h,by simp⟩
 have e:=List.findIdx_getElem (xs:=ys) (p:=fun z=>decide (z = y)) (w:=hl)
 refine ⟨by rw [List.getElem?_eq_getElem hl,of_decide_eq_true e],fun m hm w hw hwy=>?_⟩
 have:=List.not_of_lt_findIdx hm
 have hml : m < ys.length:=Nat.lt_trans hm hl
 rw [List.getElem?_eq_getElem hml] at hw
 rw [Option.some.inj hw,hwy] at this
 simp at this
theorem eqV_i (a b : Int) : eqV (.int a) (.int b) = decide (a = b):=by
 show (a == b) = decide (a = b)
 rw [Bool.eq_iff_iff,beq_iff_eq,decide_eq_true_eq]
section
variable {X : Cx}
inductive rIndexI (x : V) (vs : List V) (H : Hp) (Q : VK) : Prop
 | mk : ∀ (l : Addr) (ys : List Int) (y : Int),(x = .ref l)→(vs = [.int y])→(H l = some (.lst (vints ys)))→(y ∈ ys)→(Q (.int (ixI ys y)) H)→rIndexI x vs H Q
theorem mt_indexI : MtM X "list.index" rIndexI := by
 intro pins s σ H x vs v us Q I rx rv h
 obtain ⟨l,ys,y,rfl,rfl,hH,hy,q⟩:=h
 cases rx
 obtain ⟨u,rfl,ru⟩:=rv.one
 obtain ⟨z,its,n,r,hl,e⟩:=I.lstM hH
 obtain ⟨e1,e2⟩:=ixI_at hy
 unfold ixI at q
 generalize ys.findIdx (fun z=>decide (z = y)) = j at e1 e2 q
 have hjl : j < ys.length:=(List.getElem?_eq_some_iff.mp e1).1
 have vl : (vints ys).length = ys.length:=List.length_map ..
 have hs:=sizeLine_eq
 have hj : j < its.toArray.size:=by rw [List.size_toArray]; omega
 have ev : ∀ m (w : Int),ys[m]? = some w→∃ u',its[m]? = some u'∧eqU (.int y) u' = decide (w = y):=fun m w hm=>by
  obtain ⟨u',h1,h2⟩:=r.get (i:=m) (x:=.int w) (by rw [List.getElem?_map,hm]; rfl)
  exact ⟨u',h1,by rw [eqU_of h2 rfl,eqV_i]⟩
 have hit : eqU (.int y) its.toArray[j] = true:=by
  obtain ⟨u',h1,h2⟩:=ev j y e1
  rw [List.getElem_toArray,(List.getElem?_eq_some_iff.mp h1).2,h2]
  simp
 refine call_meets F.slot_list_index ⟨_,e,rfl⟩ F.entry_list_index (F.args_list_index_2 _ _) (SeqAt.list_indexAt l its.toArray n none #[] u (eqU (.int y)) j hj (by omega) hit fun m hm hmj=>?_) ⟨e,fun w hw=>?_,?_⟩
 ·rw [List.size_toArray] at hm
  have hmy : m < ys.length:=by omega
  obtain ⟨u',h1,h2⟩:=ev m _ (List.getElem?_eq_getElem hmy)
  rw [List.getElem_toArray,(List.getElem?_eq_some_iff.mp h1).2,h2]
  exact decide_eq_false (e2 m hmj _ (List.getElem?_eq_getElem hmy))
 ·exact mem_eqAt ru rfl r (List.all_eq_true.mpr fun x hx=>(flat_int ys x hx).1) w (by simpa using hw)
 ·exact ⟨.int j,H,I.tok _,⟨_,rfl⟩,q⟩
def WAt (H : Hp) (a : Addr) (b : Int × List Int) : Prop:=∃ q,H a = some (.tup [.int b.1,.ref q])∧H q = some (.lst (vints b.2))
def WRows (H : Hp) (as : List Addr) (bs : List (Int × List Int)) : Prop:=Paired (WAt H) as bs
theorem WRows.same {H H' : Hp} {as : List Addr} {bs : List (Int × List Int)} (h : WRows H as bs) (S : Same H H') : WRows H' as bs:=Paired.mapP h fun _ _ ⟨q,e1,e2⟩=>⟨q,S _ _ e1,S _ _ e2⟩
end
def pth (par : List Int) (n : Nat) : List Nat:=(upC par (n + 1) n).reverse
theorem upC_drop {par : List Int} (pv : PV par) : ∀ (i n q : Nat),n < par.length→(upC par (n + 1) n)[i]? = some q→(upC par (n + 1) n).drop i = upC par (q + 1) q∧q < par.length:=by
 intro i
 induction i with
 | zero =>
  intro n q hn h
  rw [upC_step pv hn] at h
  have e : n = q:=by simpa using h
  subst e
  exact ⟨rfl,hn⟩
 | succ i ih =>
  intro n q hn h
  rw [upC_step pv hn] at h ⊢
  by_cases g : par.getD n (-1) < 0
  ·rw [if_pos g] at h; simp at h
  ·rw [if_neg g] at h ⊢
   have lt:=pv n hn
   rw [List.getElem?_cons_succ] at h
   rw [List.drop_succ_cons]
   exact ih _ q (by omega) h
theorem pth_pre {par : List Int} (pv : PV par) {n j : Nat} (hn : n < par.length) (hj : j < (pth par n).length) : (pth par n).take (j + 1) = pth par ((pth par n)[j])∧(pth par n)[j] < par.length:=by
 unfold pth at hj ⊢
 rw [List.length_reverse] at hj
 have hi : (upC par (n + 1) n).length - 1 - j < (upC par (n + 1) n).length:=by omega
 obtain ⟨a,b⟩:=upC_drop pv _ n _ hn (List.getElem?_eq_getElem hi)
 rw [List.getElem_reverse]
 refine ⟨?_,b⟩
 rw [List.take_reverse,show (upC par (n + 1) n).length - (j + 1) = (upC par (n + 1) n).length - 1 - j by omega,a]
theorem pth_end {par : List Int} (pv : PV par) {n : Nat} (hn : n < par.length) : ∃ l,pth par n = l ++ [n]∧l = (if par.getD n (-1) < 0 then [] else pth par (par.getD n (-1)).toNat):=by
 refine ⟨_,?_,rfl⟩
 unfold pth
 rw [upC_step pv hn,List.reverse_cons]
 congr 1
 by_cases g : par.getD n (-1) < 0
 ·rw [if_pos g,if_pos g]; rfl
 ·rw [if_neg g,if_neg g]
theorem pth_pos {par : List Int} (pv : PV par) {n : Nat} (hn : n < par.length) : 0 < (pth par n).length:=by
 obtain ⟨l,e,_⟩:=pth_end pv hn
 rw [e,List.length_append]; exact Nat.succ_pos _
theorem pth_step {par : List Int} (pv : PV par) {n j : Nat} (hn : n < par.length) (hj : j + 1 < (pth par n).length) : par.getD ((pth par n)[j + 1]) (-1) = (((pth par n)[j]'(by omega) : Nat) : Int):=by
 obtain ⟨a,b⟩:=pth_pre pv hn hj
 obtain ⟨c,d⟩:=pth_pre pv hn (show j < (pth par n).length by omega)
 obtain ⟨l,e,el⟩:=pth_end pv b
 have t : (pth par n).take (j + 1 + 1) = (pth par n).take (j + 1) ++ [(pth par n)[j + 1]]:=by
  rw [List.take_add_one,List.getElem?_eq_getElem hj]
  rfl
 rw [t,e] at a
 have a:=List.append_cancel_right a
 rw [c] at a
 by_cases g : par.getD ((pth par n)[j + 1]) (-1) < 0
 ·rw [if_pos g] at el
  rw [el] at a
  have:=pth_pos pv d
  rw [a] at this
  exact absurd this (Nat.lt_irrefl 0)
 ·rw [if_neg g] at el
  rw [el] at a
  have lt:=pv _ b
  obtain ⟨l1,e1,_⟩:=pth_end pv d
  obtain ⟨l2,e2,_⟩:=pth_end pv (n:=(par.getD ((pth par n)[j + 1]) (-1)).toNat) (by omega)
  rw [e1,e2] at a
  have:=(List.append_inj' a rfl).2
  have : (pth par n)[j] = (par.getD ((pth par n)[j + 1]) (-1)).toNat:=by simpa using this
  omega
def raL (MS : List Mark) : Mark→List Int→Option Mark
 | mk,[]=>some mk
 | mk,x :: xs=>match raisedO (MS.getD x.toNat []) mk with
  | none=>none
  | some r=>raL MS r xs
theorem raL_go {MS : List Mark} {mk : Mark} {x : Int} {xs : List Int} {m : Mark} (h : raL MS mk (x :: xs) = some m) : ∃ r,raisedO (MS.getD x.toNat []) mk = some r∧raL MS r xs = some m:=by
 unfold raL at h
 cases q : raisedO (MS.getD x.toNat []) mk with
 | none=>rw [q] at h; cases h
 | some r=>rw [q] at h; exact ⟨r,rfl,h⟩
theorem raL_raF {MS marks : List Mark} {f : Int→Int} : ∀ (ch : List Nat) (mk : Mark),(∀ k ∈ ch,MS.getD (f (k : Int)).toNat [] = marks.getD k [])→raL MS mk ((raF marks mk ch).2.map f) = some (raF marks mk ch).1
 | [],mk,_=>rfl
 | k :: ch,mk,h=>by
  have ih:=fun mk'=>raL_raF ch mk' fun j hj=>h j (List.mem_cons_of_mem _ hj)
  cases q : raisedO (marks.getD k []) mk with
  | none=>rw [raF_no q]; exact ih mk
  | some r =>
   rw [raF_go q]
   show raL MS mk (f (k : Int) :: (raF marks r ch).2.map f) = some (raF marks r ch).1
   unfold raL
   rw [h k (List.mem_cons_self ..),q]
   exact ih r
theorem raF_sub {marks : List Mark} : ∀ (ch : List Nat) (mk : Mark),∀ x ∈ (raF marks mk ch).2,∃ k ∈ ch,x = (k : Int)
 | [],mk,x,h=>by cases h
 | k :: ch,mk,x,h=>by
  cases q : raisedO (marks.getD k []) mk with
  | none =>
   rw [raF_no q] at h
   obtain ⟨j,hj,e⟩:=raF_sub ch mk x h
   exact ⟨j,List.mem_cons_of_mem _ hj,e⟩
  | some r =>
   rw [raF_go q] at h
   rcases List.mem_cons.mp h with e | e
   ·exact ⟨k,List.mem_cons_self ..,e⟩
   ·obtain ⟨j,hj,e⟩:=raF_sub ch r x e
    exact ⟨j,List.mem_cons_of_mem _ hj,e⟩
abbrev zI (l : List Nat) : List Int:=l.map fun (k : Nat)=>(k : Int)
def pthM (w : TV) (n : Nat) : List Mark:=(pth w.par n).map fun q=>w.marks.getD q []
def wayAt (w : TV) (P : List Int) (q : Nat) : Int × List Int:=(w.com.getD q 0,(w.loops.getD q []).map (ixI P))
def wayB (w : TV) (n : Nat) : List (Int × List Int):=((pth w.par n).drop 1).map (wayAt w (zI (pth w.par n)))
structure WayOk (tk gv : List (List Int)) (fs : List Int) (MS : List Mark) (br : List (Int × List Int)) : Prop where
 len : MS.length = br.length + 1
 m0 : MS.getD 0 [] = fs.map some
 wd : ∀ m ∈ MS,m.length = fs.length
 st : ∀ i,i < br.length→∃ d : Nat,d < tk.length∧(br.getD i (0,[])).1 = (d : Int)∧undB ((tk.getD d []).map some) (MS.getD i []) = true∧(∀ x ∈ (br.getD i (0,[])).2,0 ≤ x∧x ≤ (i : Int))∧raL MS (afterM (MS.getD i []) (tk.getD d []) (gv.getD d [])) (br.getD i (0,[])).2 = some (MS.getD (i + 1) [])
theorem ixI_pre {P : List Nat} {k j : Nat} (h : k ∈ P.take (j + 1)) : 0 ≤ ixI (zI P) (k : Int)∧ixI (zI P) (k : Int) ≤ (j : Int)∧P[(ixI (zI P) (k : Int)).toNat]? = some k:=by
 obtain ⟨i,hi⟩:=List.mem_iff_getElem?.mp h
 have il : i < (P.take (j + 1)).length:=(List.getElem?_eq_some_iff.mp hi).1
 rw [List.length_take] at il
 rw [List.getElem?_take_of_lt (by omega)] at hi
 have hm : (k : Int) ∈ zI P:=List.mem_map.mpr ⟨k,List.mem_of_getElem? hi,rfl⟩
 obtain ⟨a,b⟩:=ixI_at hm
 have ei : (zI P)[i]? = some (k : Int):=by rw [List.getElem?_map,hi]; rfl
 unfold ixI
 generalize (zI P).findIdx (fun z=>decide (z = (k : Int))) = f at a b
 have fi : ¬ i < f:=fun z=>b i z _ ei rfl
 refine ⟨by omega,by omega,?_⟩
 rw [Int.toNat_natCast]
 rw [List.getElem?_map] at a
 obtain ⟨q,hq,e⟩:=Option.map_eq_some_iff.mp a
 have : q = k:=by omega
 rw [hq,this]
theorem pth_len {par : List Int} (n : Nat) : (pth par n).length ≤ n + 1:=by unfold pth; rw [List.length_reverse]; exact upC_len _ _
theorem gDm {α β : Type} {l : List α} {f : α→β} {i : Nat} {d : β} (h : i < l.length) : (l.map f).getD i d = f l[i]:=by
 rw [List.getD_eq_getElem?_getD,List.getElem?_map,List.getElem?_eq_getElem h]
 rfl
section
variable {tk gv : List (List Int)} {first : List Int} {room : Nat} {w : TV} {k m n : Nat}
theorem way_ok (g : TGood tk gv first first.length room w k m) (hn : n < w.marks.length) : WayOk tk gv first (pthM w n) (wayB w n):=by
 have pv:=g.pv
 have hp : n < w.par.length:=by rw [g.lp]; exact hn
 have pos:=pth_pos pv hp
 have lM : (pthM w n).length = (pth w.par n).length:=List.length_map ..
 have lB : (wayB w n).length = (pth w.par n).length - 1:=by unfold wayB; rw [List.length_map,List.length_drop]
 have inP : ∀ {j : Nat} (hj : j < (pth w.par n).length),(pth w.par n)[j] < w.marks.length:=fun hj=>by rw [← g.lp]; exact (pth_pre pv hp hj).2
 have atM : ∀ {j : Nat} (hj : j < (pth w.par n).length),(pthM w n).getD j [] = w.marks.getD ((pth w.par n)[j]) []:=fun hj=>gDm hj
 refine ⟨by omega,?_,fun x hx=>?_,fun i hi=>?_⟩
 ·rw [atM pos,← g.m0]
  congr 1
  obtain ⟨a,b⟩:=pth_pre pv hp pos
  obtain ⟨l,e,el⟩:=pth_end pv b
  have e1 : (pth w.par n).take 1 = [(pth w.par n)[0]]:=by rw [List.take_one,List.head?_eq_getElem?,List.getElem?_eq_getElem pos]; rfl
  have a : [(pth w.par n)[0]] = pth w.par ((pth w.par n)[0]):=by rw [← e1]; exact a
  rw [e] at a
  have l0 : l = []:=by
   cases l with
   | nil=>rfl
   | cons x l=>simp at a
  by_cases z : (pth w.par n)[0] = 0
  ·exact z
  ·obtain ⟨p,d,h1,_,h3,_⟩:=g.st _ (by omega) (inP pos)
   rw [l0,h3,if_neg (by omega),Int.toNat_natCast] at el
   have:=pth_pos pv (n:=p) (by omega)
   rw [← el] at this
   exact absurd this (Nat.lt_irrefl 0)
 ·obtain ⟨q,hq,rfl⟩:=List.mem_map.mp hx
  obtain ⟨j,hj,rfl⟩:=List.mem_iff_getElem.mp hq
  exact g.wdD (inP hj)
 ·rw [lB] at hi
  have hj : i + 1 < (pth w.par n).length:=by omega
  have hi' : i < (pth w.par n).length:=by omega
  have eB : (wayB w n).getD i (0,[]) = wayAt w (zI (pth w.par n)) ((pth w.par n)[i + 1]):=by
   unfold wayB
   rw [gDm (by rw [List.length_drop]; omega)]
   congr 1
   rw [List.getElem_drop]
   congr 1
   omega
  have lt0:=pv _ (pth_pre pv hp hj).2
  have st:=pth_step pv hp hj
  obtain ⟨p,d,h1,h2,h3,h4,h5,h6⟩:=g.st ((pth w.par n)[i + 1]) (by omega) (inP hj)
  rw [h3] at st
  have ep : p = (pth w.par n)[i]:=by omega
  subst ep
  have pre:=(pth_pre pv hp hi').1
  have inT : ∀ q ∈ upC w.par ((pth w.par n)[i] + 1) ((pth w.par n)[i]),q ∈ (pth w.par n).take (i + 1):=fun q hq=>by rw [pre]; unfold pth; exact List.mem_reverse.mpr hq
  rw [eB,atM hi',atM hj]
  refine ⟨d,h2,h4,h5,fun x hx=>?_,?_⟩
  ·have hx : x ∈ (w.loops.getD ((pth w.par n)[i + 1]) []).map (ixI (zI (pth w.par n))):=hx
   obtain ⟨y,hy,rfl⟩:=List.mem_map.mp hx
   have hy : y ∈ (w.marks.getD ((pth w.par n)[i + 1]) [],w.loops.getD ((pth w.par n)[i + 1]) []).2:=hy
   rw [h6] at hy
   obtain ⟨q,hq,rfl⟩:=raF_sub _ _ y hy
   obtain ⟨a1,a2,_⟩:=ixI_pre (inT q hq)
   exact ⟨a1,a2⟩
  ·show raL _ _ ((w.marks.getD ((pth w.par n)[i + 1]) [],w.loops.getD ((pth w.par n)[i + 1]) []).2.map (ixI (zI (pth w.par n)))) = some (w.marks.getD ((pth w.par n)[i + 1]) [],w.loops.getD ((pth w.par n)[i + 1]) []).1
   rw [h6]
   refine raL_raF _ _ fun q hq=>?_
   obtain ⟨a1,a2,a3⟩:=ixI_pre (inT q hq)
   have al:=(List.getElem?_eq_some_iff.mp a3).1
   rw [atM al,(List.getElem?_eq_some_iff.mp a3).2]
end
theorem und_at {l h : Mark} {i : Nat} (u : undB l h = true) (h1 : i < l.length) (h2 : i < h.length) : nomo l[i] h[i] = true:=by
 cases q : nomo l[i] h[i] with
 | true=>rfl
 | false=>rw [und_not h1 h2 q] at u; cases u
theorem rev_up {par : List Int} {n : Nat} : (vints ((upC par (n + 1) n).map fun (k : Nat)=>(k : Int))).reverse = vints (zI (pth par n)):=by
 unfold pth
 show (List.map V.int (List.map _ _)).reverse = List.map V.int (List.map _ (List.reverse _))
 rw [List.map_reverse,List.map_reverse]
def gIx (P : List Int) : V→V
 | .int x=>.int (ixI P x)
 | v=>v
theorem gIx_map (P lp : List Int) : (vints lp).map (gIx P) = vints (lp.map (ixI P)):=by
 show List.map _ (List.map _ _) = List.map _ (List.map _ _)
 rw [List.map_map,List.map_map]
 rfl
theorem raF_len {marks : List Mark} : ∀ (ch : List Nat) (mk : Mark),(raF marks mk ch).2.length ≤ ch.length
 | [],_=>Nat.le_refl _
 | k :: ch,mk=>by
  cases q : raisedO (marks.getD k []) mk with
  | none=>rw [raF_no q,List.length_cons]; have:=raF_len (marks:=marks) ch mk; omega
  | some r=>rw [raF_go q,List.length_cons,List.length_cons]; have:=raF_len (marks:=marks) ch r; omega
theorem way_in {tk gv : List (List Int)} {first : List Int} {z room : Nat} {w : TV} {k m n : Nat} (g : TGood tk gv first z room w k m) (hn : n < w.marks.length) : ∀ q ∈ (pth w.par n).drop 1,q < w.marks.length∧(w.loops.getD q []).length ≤ w.marks.length∧∀ x ∈ w.loops.getD q [],x ∈ zI (pth w.par n):=by
 intro q hq
 have pv:=g.pv
 have hp : n < w.par.length:=by rw [g.lp]; exact hn
 obtain ⟨i,hi,e⟩:=List.mem_iff_getElem.mp hq
 rw [List.length_drop] at hi
 rw [List.getElem_drop] at e
 have hj : i + 1 < (pth w.par n).length:=by omega
 have e : (pth w.par n)[i + 1] = q:=by rw [← e]; congr 1; omega
 have hi' : i < (pth w.par n).length:=by omega
 have lt0:=pv _ (pth_pre pv hp hj).2
 have st:=pth_step pv hp hj
 have hq' : q < w.marks.length:=by rw [← e,← g.lp]; exact (pth_pre pv hp hj).2
 rw [e] at st
 obtain ⟨p,d,h1,h2,h3,h4,h5,h6⟩:=g.st q (by rw [e] at lt0; rw [st] at lt0; omega) hq'
 rw [h3] at st
 have ep : p = (pth w.par n)[i]:=by omega
 subst ep
 have pre:=(pth_pre pv hp hi').1
 have el : w.loops.getD q [] = (raF w.marks (afterM (w.marks.getD ((pth w.par n)[i]) []) (tk.getD d []) (gv.getD d [])) (upC w.par ((pth w.par n)[i] + 1) ((pth w.par n)[i]))).2:=congrArg Prod.snd h6
 refine ⟨hq',?_,fun x hx=>?_⟩
 ·rw [el]
  have a:=raF_len (marks:=w.marks) (upC w.par ((pth w.par n)[i] + 1) ((pth w.par n)[i])) (afterM (w.marks.getD ((pth w.par n)[i]) []) (tk.getD d []) (gv.getD d []))
  have b:=upC_len (par:=w.par) ((pth w.par n)[i] + 1) ((pth w.par n)[i])
  omega
 ·rw [el] at hx
  obtain ⟨y,hy,rfl⟩:=raF_sub _ _ x hx
  refine List.mem_map.mpr ⟨y,?_,rfl⟩
  have : y ∈ (pth w.par n).take (i + 1):=by rw [pre]; unfold pth; exact List.mem_reverse.mpr hy
  exact List.mem_of_mem_take this
theorem WRows.take_snoc {H : Hp} {as : List Addr} {bs : List (Int × List Int)} {i : Nat} {a : Addr} {b : Int × List Int} (h : WRows H as (bs.take i)) (hb : bs[i]? = some b) (e : WAt H a b) : WRows H (as ++ [a]) (bs.take (i + 1)):=by
 rw [List.take_add_one,hb]
 exact Paired.snoc h e
theorem paired_getR {α β : Type} {F : α→β→Prop} : ∀ {l : List α} {m : List β} {i : Nat} {b : β},Paired F l m→m[i]? = some b→∃ a,l[i]? = some a∧F a b
 | _,_,0,_,.cons e _,h=>by cases h; exact ⟨_,rfl,e⟩
 | _,_,i + 1,_,.cons _ t,h=>paired_getR (i:=i) t (by simpa using h)
end L2
namespace L2
open PySem PySem.Spec PyProof.Rows PySem.SeqAt
section
variable {X : Cx} {c : Expr} {a b : List Stmt} {pos : Pos} {tc : TT} {ta tb : Ends→XK→St→Hp→Prop}
end
section
variable {X : Cx} {A : Around} {pins : List (Addr × Obj)} {σ : St} {H : Hp} {s : Shared} {a b : Addr}
end
section
variable {X : Cx}
end
def lpF (MS : List Mark) : Mark→List Int→Option Mark
 | m,[]=>some m
 | m,x :: xs=>if 0 ≤ x∧x < (MS.length : Int) then (match raisedO (MS.getD x.toNat []) m with | none=>none | some r=>lpF MS r xs) else none
def stF (tk gv : List (List Int)) (MS : List Mark) (b : Int × List Int) : Option Mark :=
 if undB ((tk.getD b.1.toNat []).map some) (MS.getD (MS.length - 1) []) = true then lpF MS (afterM (MS.getD (MS.length - 1) []) (tk.getD b.1.toNat []) (gv.getD b.1.toNat [])) b.2 else none
def bmF (tk gv : List (List Int)) : List Mark→List (Int × List Int)→Sum Nat (List Mark)
 | MS,[]=>.inr MS
 | MS,b :: bs=>match stF tk gv MS b with | none=>.inl (MS.length - 1) | some m=>bmF tk gv (MS ++ [m]) bs
section
variable {tk gv : List (List Int)} {MS : List Mark} {m r : Mark} {x : Int} {xs : List Int} {b : Int × List Int} {bs : List (Int × List Int)}
theorem lpF_out (h : ¬ (0 ≤ x∧x < (MS.length : Int))) : lpF MS m (x :: xs) = none:=by unfold lpF; rw [if_neg h]
theorem lpF_no (h : 0 ≤ x∧x < (MS.length : Int)) (e : raisedO (MS.getD x.toNat []) m = none) : lpF MS m (x :: xs) = none:=by unfold lpF; rw [if_pos h,e]
theorem lpF_go (h : 0 ≤ x∧x < (MS.length : Int)) (e : raisedO (MS.getD x.toNat []) m = some r) : lpF MS m (x :: xs) = lpF MS r xs:=by
 show (if 0 ≤ x∧x < (MS.length : Int) then _ else _) = _
 rw [if_pos h,e]
theorem stF_no (h : undB ((tk.getD b.1.toNat []).map some) (MS.getD (MS.length - 1) []) = false) : stF tk gv MS b = none:=by
 unfold stF
 rw [if_neg (by rw [h]; decide)]
theorem stF_go (h : undB ((tk.getD b.1.toNat []).map some) (MS.getD (MS.length - 1) []) = true) : stF tk gv MS b = lpF MS (afterM (MS.getD (MS.length - 1) []) (tk.getD b.1.toNat []) (gv.getD b.1.toNat [])) b.2:=by
 unfold stF
 rw [if_pos h]
theorem bmF_no (h : stF tk gv MS b = none) : bmF tk gv MS (b :: bs) = .inl (MS.length - 1):=by
 show (match stF tk gv MS b with | none=>_ | some m=>_) = _
 rw [h]
theorem bmF_go (h : stF tk gv MS b = some m) : bmF tk gv MS (b :: bs) = bmF tk gv (MS ++ [m]) bs:=by
 show (match stF tk gv MS b with | none=>_ | some m=>_) = _
 rw [h]
theorem lpF_len {z : Nat} (wd : ∀ q ∈ MS,q.length = z) : ∀ (xs : List Int) (m : Mark),m.length = z→lpF MS m xs = some r→r.length = z
 | [],m,hm,e=>by cases e; exact hm
 | x :: xs,m,hm,e=>by
  by_cases h : 0 ≤ x∧x < (MS.length : Int)
  ·cases q : raisedO (MS.getD x.toNat []) m with
   | none=>rw [lpF_no h q] at e; cases e
   | some r' =>
    rw [lpF_go h q] at e
    have hl : x.toNat < MS.length:=by omega
    have hg : (MS.getD x.toNat []).length = z:=by
     rw [List.getD_eq_getElem?_getD,List.getElem?_eq_getElem hl]
     exact wd _ (List.getElem_mem hl)
    exact lpF_len wd xs r' (by rw [(raised_und (by rw [hg,hm]) q).2.1,hm]) e
  ·rw [lpF_out h] at e; cases e
end
structure BrOk (D n : Nat) (br : List (Int × List Int)) : Prop where
 le : br.length ≤ 64
 dr : ∀ b ∈ br,0 ≤ b.1∧b.1 < (D : Int)∧b.2.length ≤ n
theorem drop_at {α : Type} {l : List α} {i : Nat} {x : α} (h : l[i]? = some x) : l.drop i = x :: l.drop (i + 1):=by
 obtain ⟨hl,e⟩:=List.getElem?_eq_some_iff.mp h
 rw [List.drop_eq_getElem_cons hl,e]
theorem nodup_snoc {α : Type} {l : List α} {a : α} (h : l.Nodup) (n : a ∉ l) : (l ++ [a]).Nodup:=by
 rw [List.nodup_append]
 refine ⟨h,List.nodup_cons.mpr ⟨fun z=>(nomatch z),List.nodup_nil⟩,fun x hx y hy=>?_⟩
 rw [List.mem_singleton.mp hy]
 exact fun z=>n (z ▸ hx)
theorem gDM {MS : List Mark} {i : Nat} (h : i < MS.length) : MS.getD i [] = MS[i]:=by
 rw [List.getD_eq_getElem?_getD,List.getElem?_eq_getElem h]
 rfl
theorem stF_len {tk gv : List (List Int)} {MS : List Mark} {b : Int × List Int} {m : Mark} {z : Nat} (wd : ∀ q ∈ MS,q.length = z) (h1 : 0 < MS.length) (lt : (tk.getD b.1.toNat []).length = z) (lg : (gv.getD b.1.toNat []).length = z) (e : stF tk gv MS b = some m) : m.length = z:=by
 have hl : MS.length - 1 < MS.length:=by omega
 cases h : undB ((tk.getD b.1.toNat []).map some) (MS.getD (MS.length - 1) []) with
 | false=>rw [stF_no h] at e; cases e
 | true =>
  rw [stF_go h] at e
  exact lpF_len wd _ _ (after_len (by rw [gDM hl]; exact wd _ (List.getElem_mem hl)) lt lg) e
def WRowsN (H : Hp) (p q : Addr) (as : List Addr) (bs : List (Int × List Int)) : Prop:=Paired (fun a b=>a ≠ p∧a ≠ q∧∃ l,l ≠ p∧l ≠ q∧H a = some (.tup [.int b.1,.ref l])∧H l = some (.lst (vints b.2))) as bs
theorem WRowsN.same {H H' : Hp} {p q : Addr} {as : List Addr} {bs : List (Int × List Int)} (h : WRowsN H p q as bs) (S : Same H H') : WRowsN H' p q as bs:=Paired.mapP h fun _ _ ⟨n1,n2,l,n3,n4,e1,e2⟩=>⟨n1,n2,l,n3,n4,S _ _ e1,S _ _ e2⟩
theorem WRowsN.updP {H : Hp} {p q : Addr} {o : HO} {as : List Addr} {bs : List (Int × List Int)} (h : WRowsN H p q as bs) : WRowsN (upd H p o) p q as bs:=Paired.mapP h fun _ _ ⟨n1,n2,l,n3,n4,e1,e2⟩=>⟨n1,n2,l,n3,n4,by rw [upd_ne n1]; exact e1,by rw [upd_ne n3]; exact e2⟩
theorem WRowsN.updQ {H : Hp} {p q : Addr} {o : HO} {as : List Addr} {bs : List (Int × List Int)} (h : WRowsN H p q as bs) : WRowsN (upd H q o) p q as bs:=Paired.mapP h fun _ _ ⟨n1,n2,l,n3,n4,e1,e2⟩=>⟨n1,n2,l,n3,n4,by rw [upd_ne n2]; exact e1,by rw [upd_ne n4]; exact e2⟩
theorem WRowsN.rows {H : Hp} {p q : Addr} {as : List Addr} {bs : List (Int × List Int)} (h : WRowsN H p q as bs) : WRows H as bs:=Paired.mapP h fun _ _ ⟨n1,n2,l,n3,n4,e1,e2⟩=>⟨l,e1,e2⟩
theorem paired_app {α β : Type} {F : α→β→Prop} : ∀ {l l' : List α} {m m' : List β},Paired F l m→Paired F l' m'→Paired F (l ++ l') (m ++ m')
 | _,_,_,_,.nil,h=>h
 | _,_,_,_,.cons e t,h=>.cons e (paired_app t h)
structure BI (H H3 : Hp) (z D : Nat) (pM pB : Addr) (i : Nat) (am ab : List Addr) (MS : List Mark) (br : List (Int × List Int)) : Prop where
 sm : Same H H3
 hM : H3 pM = some (.lst (am.map V.ref))
 RM : MRows H3 am MS
 wd : ∀ m ∈ MS,m.length = z
 ml : MS.length = i + 1
 hB : H3 pB = some (.lst (ab.map V.ref))
 WB : WRowsN H3 pB pM ab br
 bl : br.length = i
 bd : ∀ b ∈ br,0 ≤ b.1∧b.1 < (D : Int)∧b.2.length ≤ 64
section
variable {H H3 H4 : Hp} {z D i d : Nat} {pM pB cm ql tq : Addr} {am ab : List Addr} {MS : List Mark} {br : List (Int × List Int)} {cur : Mark} {lp : List Int}
theorem BI.same (B : BI H H3 z D pM pB i am ab MS br) (S : Same H3 H4) : BI H H4 z D pM pB i am ab MS br :=
 ⟨B.sm.trans S,S _ _ B.hM,B.RM.same S,B.wd,B.ml,S _ _ B.hB,B.WB.same S,B.bl,B.bd⟩
theorem BI.put (B : BI H H3 z D pM pB i am ab MS br) (nM : H pM = none) (nB : H pB = none) (z1 : 1 ≤ z) (bM : pB ≠ pM) (hc : H3 cm = some (.lst (vmk cur))) (cl : cur.length = z) (hl : H3 ql = some (.lst (vints lp))) (ll : lp.length ≤ 64) (q1 : ql ≠ pB) (q2 : ql ≠ pM) (nq : H3 tq = none) (hd : d < D) :
  BI H (upd (upd (upd H3 tq (.tup [.int (d : Int),.ref ql])) pB (.lst (ab.map V.ref ++ [V.ref tq]))) pM (.lst (am.map V.ref ++ [V.ref cm]))) z D pM pB (i + 1) (am ++ [cm]) (ab ++ [tq]) (MS ++ [cur]) (br ++ [((d : Int),lp)]):=by
 have U:=(Same.refl H3).upd nq (o:=.tup [.int (d : Int),.ref ql])
 have B2:=B.same U
 have ht:=upd_same (H:=H3) (a:=tq) (o:=.tup [.int (d : Int),.ref ql])
 have hc2:=U _ _ hc
 have hl2:=U _ _ hl
 have t1 : tq ≠ pB:=Ne.symm (ne_of_none B.hB nq)
 have t2 : tq ≠ pM:=Ne.symm (ne_of_none B.hM nq)
 generalize upd H3 tq (.tup [.int (d : Int),.ref ql]) = H4 at B2 ht hc2 hl2
 have z0 : ∀ m ∈ MS,1 ≤ m.length:=fun m hm=>by rw [B.wd m hm]; exact z1
 have one : MRows H4 [cm] [cur]:=.cons hc2 .nil
 have z3 : ∀ m ∈ [cur],1 ≤ m.length:=fun m hm=>by rw [List.mem_singleton.mp hm,cl]; exact z1
 have c1 : cm ≠ pB:=one.apart B2.hB z3 cm (List.mem_singleton.mpr rfl)
 have c2 : cm ≠ pM:=one.apart B2.hM z3 cm (List.mem_singleton.mpr rfl)
 refine ⟨(B2.sm.upd' nB).upd' nM,by rw [upd_same,vrefs_snoc],MRows.snoc (MRows.lay (MRows.lay B2.RM (B2.RM.apart B2.hB z0)) (B2.RM.apart B2.hM z0)) (by rw [upd_ne c2,upd_ne c1]; exact hc2),fun q hq=>?_,by rw [List.length_append,B.ml]; rfl,by rw [upd_ne bM,upd_same,vrefs_snoc],Paired.snoc B2.WB.updP.updQ ⟨t1,t2,ql,q1,q2,by rw [upd_ne t2,upd_ne t1]; exact ht,by rw [upd_ne q2,upd_ne q1]; exact hl2⟩,by rw [List.length_append,B.bl]; rfl,fun b hb=>?_⟩
 ·rcases List.mem_append.mp hq with h | h
  ·exact B.wd q h
  ·rw [List.mem_singleton.mp h]; exact cl
 ·rcases List.mem_append.mp hb with h | h
  ·exact B.bd b h
  ·rw [List.mem_singleton.mp h]
   exact ⟨Int.natCast_nonneg _,Int.ofNat_lt.mpr hd,ll⟩
end
end L2
namespace L2
open PySem PySem.Spec PyProof.Rows PySem.SeqAt
theorem mG_at {m : Mark} {i : Nat} (h : i < m.length) : m.getD i none = m[i]:=by
 rw [List.getD_eq_getElem?_getD,List.getElem?_eq_getElem h]
 rfl
theorem und_get {l h : Mark} {z i : Nat} (hl : l.length = z) (hh : h.length = z) (hi : i < z) (u : undB l h = true) : nomo (l.getD i none) (h.getD i none) = true:=by
 rw [mG_at (by omega),mG_at (by omega)]
 exact und_at u (by omega) (by omega)
theorem ra_get {l m r : Mark} {z i : Nat} (hl : l.length = z) (hm : m.length = z) (hi : i < z) (h : raisedO l m = some r) : r.getD i none = raAt (l.getD i none) (m.getD i none):=by
 unfold raisedO at h
 split at h
 ·cases h
 ·cases h
  have e : (raB l m).length = z:=by rw [raB_len (by omega)]; exact hm
  rw [mG_at (by omega),mG_at (by omega),mG_at (by omega)]
  unfold raB
  rw [List.getElem_zipWith]
theorem ra_und {l m r : Mark} (h : raisedO l m = some r) : undB l m = true∧r = raB l m∧raB l m ≠ m:=by
 unfold raisedO at h
 split at h
 ·cases h
 ·rename_i q
  cases h
  refine ⟨?_,rfl,fun z=>q (.inr z)⟩
  cases e : undB l m with
  | true=>rfl
  | false=>exact absurd (.inl e) q
theorem after_get {m : Mark} {g t : List Int} {z i : Nat} (h1 : m.length = z) (h2 : g.length = z) (h3 : t.length = z) (hi : i < z) : (afterM m t g).getD i none = afM (m.getD i none) (g.getD i 0 - t.getD i 0):=by
 rw [List.getD_eq_getElem?_getD]
 unfold afterM
 rw [af_at h1 h2 h3 hi,mG_at (by omega)]
 rfl
def fin (m : Mark) : Nat:=(m.map Option.isSome).count true
theorem fin_le (m : Mark) : fin m ≤ m.length:=by
 unfold fin
 have:=List.count_le_length (a:=true) (l:=m.map Option.isSome)
 rwa [List.length_map] at this
theorem fin_cons (o : Option Int) (m : Mark) : fin (o :: m) = fin m + (if o.isSome = true then 1 else 0):=by
 unfold fin
 rw [List.map_cons,List.count_cons]
 cases o <;> rfl
theorem fin_after : ∀ {m : Mark} {gs : List Int},m.length = gs.length→fin (List.zipWith afM m gs) = fin m
 | [],[],_=>rfl
 | [],_ :: _,e=>by simp at e
 | _ :: _,[],e=>by simp at e
 | o :: m,g :: gs,e=>by
  have ih:=fin_after (m:=m) (gs:=gs) (by simpa using e)
  show fin (afM o g :: List.zipWith afM m gs) = _
  rw [fin_cons,fin_cons,ih]
  cases o <;> rfl
theorem fin_ra : ∀ {l m : Mark},l.length = m.length→fin (raB l m) ≤ fin m∧(raB l m ≠ m→fin (raB l m) < fin m)
 | [],[],_=>⟨Nat.le_refl _,fun z=>absurd rfl z⟩
 | [],_ :: _,e=>by simp at e
 | _ :: _,[],e=>by simp at e
 | x :: l,y :: m,e=>by
  obtain ⟨i1,i2⟩:=fin_ra (l:=l) (m:=m) (by simpa using e)
  have er : raB (x :: l) (y :: m) = raAt x y :: raB l m:=rfl
  rw [er,fin_cons,fin_cons]
  cases y with
  | none =>
   have ea : raAt x none = none:=by unfold raAt; split <;> rfl
   rw [ea]
   refine ⟨by simpa using i1,fun h=>?_⟩
   have:=i2 fun z=>h (by rw [z])
   simpa using this
  | some v =>
   by_cases q : some v = x
   ·have ea : raAt x (some v) = some v:=by unfold raAt; rw [if_pos q]
    rw [ea]
    refine ⟨by simpa using i1,fun h=>?_⟩
    have:=i2 fun z=>h (by rw [z])
    simpa using this
   ·have ea : raAt x (some v) = none:=by unfold raAt; rw [if_neg q]
    rw [ea]
    refine ⟨?_,fun _=>?_⟩ <;> simp <;> omega
abbrev Leg:=Mark × List Nat × Bool
structure LegOk (z : Nat) (tk gv : List (List Int)) (A : Mark) (ds : List Nat) (lp : Bool) (B : Mark) : Prop where
 al : A.length = z
 bl : B.length = z
 dr : ∀ d ∈ ds,d < tk.length
 dl : ds.length ≤ 64
 nn : nonN A
 nd : ∀ i,i < z→∀ a,A.getD i none = some a→(needL z tk gv ds).getD i 0 ≤ a
 go : lp = false→∀ i,i < z→∀ a,A.getD i none = some a→B.getD i none = some (a + (gL z tk gv ds).getD i 0)
 lo : lp = true→∀ i,i < z→∀ a,A.getD i none = some a→0 ≤ (gL z tk gv ds).getD i 0∧((gL z tk gv ds).getD i 0 = 0→B.getD i none = some a)∧(0 < (gL z tk gv ds).getD i 0→B.getD i none = none)
 no : ∀ i,i < z→A.getD i none = none→B.getD i none = none
 f1 : lp = false→fin B = fin A
 f2 : lp = true→fin B < fin A
inductive LegsC (z : Nat) (tk gv : List (List Int)) : Nat→Mark→List Leg→Mark→Prop where
 | nil (A : Mark) : LegsC z tk gv 0 A [] A
 | snoc {n : Nat} {A B C : Mark} {ls : List Leg} {ds : List Nat} {lp : Bool} : LegsC z tk gv n A ls B→LegOk z tk gv B ds lp C→LegsC z tk gv (n + (if lp = true then 0 else 1)) A (ls ++ [(B,ds,lp)]) C
theorem LegsC.count {z : Nat} {tk gv : List (List Int)} {n : Nat} {A B : Mark} {ls : List Leg} (h : LegsC z tk gv n A ls B) : ls.length + fin B ≤ n + fin A:=by
 induction h with
 | nil A=>simp
 | snoc h k ih =>
  rw [List.length_append,List.length_singleton]
  rename_i lp
  cases lp with
  | true=>have:=k.f2 rfl; simp; omega
  | false=>have:=k.f1 rfl; simp; omega
theorem LegsC.last {z : Nat} {tk gv : List (List Int)} {n : Nat} {A C : Mark} {ls : List Leg} {l : Leg} (h : LegsC z tk gv n A (ls ++ [l]) C) : ∃ n',LegsC z tk gv n' A ls l.1∧LegOk z tk gv l.1 l.2.1 l.2.2 C:=by
 generalize e : ls ++ [l] = L at h
 cases h with
 | nil=>simp at e
 | snoc h k =>
  obtain ⟨e1,e2⟩:=List.append_inj' e rfl
  subst e1
  have e2:=List.singleton_inj.mp e2
  subst e2
  exact ⟨_,h,k⟩
theorem LegsC.nil_eq {z : Nat} {tk gv : List (List Int)} {n : Nat} {A C : Mark} {ls : List Leg} (h : LegsC z tk gv n A ls C) (e : ls = []) : A = C:=by
 cases h with
 | nil=>rfl
 | snoc h k=>simp at e
def SegOk (z : Nat) (tk gv : List (List Int)) (ds : List Nat) (MS : List Mark) (A : Mark) : Prop:=∀ p,p < MS.length→∀ i,i < z→∀ a,A.getD i none = some a→∃ c,(MS.getD p []).getD i none = some c∧a = c + (gL z tk gv (ds.drop p)).getD i 0∧(needL z tk gv (ds.drop p)).getD i 0 ≤ c
section
variable {z : Nat} {tk gv : List (List Int)} (wt : Wd z tk) (wg : Wd z gv) (hl : gv.length = tk.length)
include wt wg hl
theorem need_one (nt : ∀ r ∈ tk,nonneg r) (ng : ∀ r ∈ gv,nonneg r) {d i : Nat} (hd : d < tk.length) (hi : i < z) : (needL z tk gv [d]).getD i 0 = (tk.getD d []).getD i 0:=by
 rw [need_cons wt wg hl hd (fun x (h : x ∈ ([] : List Nat))=>(nomatch h)) hi]
 show mx _ ((List.replicate z (0 : Int)).getD i 0 - _) = _
 rw [rep_at]
 have h1:=nonneg_at (nt _ (getDm hd)) i
 have h2:=nonneg_at (ng _ (getDm (d:=d) (by omega))) i
 unfold mx
 split <;> omega
theorem gL_one {d i : Nat} (hd : d < tk.length) (hi : i < z) : (gL z tk gv [d]).getD i 0 = (gv.getD d []).getD i 0 - (tk.getD d []).getD i 0:=by
 rw [gL_cons wt wg hl hd (fun x (h : x ∈ ([] : List Nat))=>(nomatch h)) hi]
 show _ + (List.replicate z (0 : Int)).getD i 0 = _
 rw [rep_at]
 omega
theorem SegOk.go (nt : ∀ r ∈ tk,nonneg r) (ng : ∀ r ∈ gv,nonneg r) {ds : List Nat} {MS : List Mark} {A : Mark} {d : Nat} (S : SegOk z tk gv ds MS A) (dl : ds.length = MS.length) (hds : ∀ x ∈ ds,x < tk.length) (hd : d < tk.length) (al : A.length = z) (u : undB ((tk.getD d []).map some) A = true) : SegOk z tk gv (ds ++ [d]) (MS ++ [A]) (afterM A (tk.getD d []) (gv.getD d [])):=by
 have lt:=wt.at hd
 have lg:=wg.at (d:=d) (by omega)
 intro p hp i hi a ha
 rw [after_get al lg lt hi] at ha
 cases q : A.getD i none with
 | none=>rw [q] at ha; cases ha
 | some b =>
  rw [q] at ha
  have ha : b + ((gv.getD d []).getD i 0 - (tk.getD d []).getD i 0) = a:=Option.some.inj ha
  have hu:=und_get (z:=z) (by rw [List.length_map]; exact lt) al hi u
  rw [q] at hu
  have et : ((tk.getD d []).map some).getD i none = some ((tk.getD d []).getD i 0):=by
   rw [mG_at (by rw [List.length_map]; omega),List.getElem_map,L2.getD_at (by omega)]
  rw [et] at hu
  have hu : (tk.getD d []).getD i 0 ≤ b:=of_decide_eq_true hu
  rw [List.length_append,List.length_singleton] at hp
  by_cases e : p = MS.length
  ·subst e
   refine ⟨b,?_,?_,?_⟩
   ·have eM : (MS ++ [A]).getD MS.length [] = A:=by rw [List.getD_eq_getElem?_getD,List.getElem?_append_right (Nat.le_refl _),Nat.sub_self]; rfl
    rw [eM]
    exact q
   ·rw [← dl,List.drop_left,gL_one wt wg hl hd hi]; omega
   ·rw [← dl,List.drop_left,need_one wt wg hl nt ng hd hi]; exact hu
  ·have hp' : p < MS.length:=by omega
   obtain ⟨c,h1,h2,h3⟩:=S p hp' i hi b q
   have ed : (ds ++ [d]).drop p = ds.drop p ++ [d]:=List.drop_append_of_le_length (by omega)
   have hx : ∀ x ∈ ds.drop p,x < tk.length:=fun x h=>hds x (List.mem_of_mem_drop h)
   have h1' : ∀ x ∈ [d],x < tk.length:=fun x h=>by rw [List.mem_singleton.mp h]; exact hd
   refine ⟨c,?_,?_,?_⟩
   ·have eM : (MS ++ [A]).getD p [] = MS.getD p []:=by rw [List.getD_eq_getElem?_getD,List.getElem?_append_left hp',← List.getD_eq_getElem?_getD]
    rw [eM]
    exact h1
   ·rw [ed,gL_app wt wg hl hi hx h1',gL_one wt wg hl hd hi]; omega
   ·rw [ed,need_app wt wg hl nt hi hx h1',need_one wt wg hl nt ng hd hi]
    unfold mx
    split <;> omega
theorem SegOk.ra {ds : List Nat} {MS : List Mark} {A l r : Mark} (S : SegOk z tk gv ds MS A) (hll : l.length = z) (al : A.length = z) (h : raisedO l A = some r) : SegOk z tk gv ds MS r:=by
 intro p hp i hi a ha
 rw [ra_get hll al hi h] at ha
 refine S p hp i hi a ?_
 unfold raAt at ha
 split at ha
 ·exact ha
 ·cases ha
theorem leg_door (nt : ∀ r ∈ tk,nonneg r) (ng : ∀ r ∈ gv,nonneg r) {A : Mark} {d : Nat} (hd : d < tk.length) (al : A.length = z) (nn : nonN A) (u : undB ((tk.getD d []).map some) A = true) : LegOk z tk gv A [d] false (afterM A (tk.getD d []) (gv.getD d [])):=by
 have lt:=wt.at hd
 have lg:=wg.at (d:=d) (by omega)
 refine ⟨al,after_len al lt lg,fun x h=>(by rw [List.mem_singleton.mp h]; exact hd),(by show 1 ≤ 64; omega),nn,fun i hi a ha=>?_,fun _ i hi a ha=>?_,fun z=>(nomatch z),fun i hi ha=>?_,fun _=>?_,fun z=>(nomatch z)⟩
 ·rw [need_one wt wg hl nt ng hd hi]
  have hu:=und_get (z:=z) (by rw [List.length_map]; exact lt) al hi u
  have et : ((tk.getD d []).map some).getD i none = some ((tk.getD d []).getD i 0):=by
   rw [mG_at (by rw [List.length_map]; omega),List.getElem_map,L2.getD_at (by omega)]
  rw [et,ha] at hu
  exact of_decide_eq_true hu
 ·rw [after_get al lg lt hi,ha,gL_one wt wg hl hd hi]
  rfl
 ·rw [after_get al lg lt hi,ha]
  rfl
 ·exact fin_after (by rw [sub_len lg lt,al])
theorem leg_loop {ds : List Nat} {MS : List Mark} {A r : Mark} {p : Nat} (S : SegOk z tk gv ds MS A) (hp : p < MS.length) (wd : ∀ m ∈ MS,m.length = z) (hds : ∀ x ∈ ds,x < tk.length) (dl : ds.length ≤ 64) (al : A.length = z) (nn : nonN A) (h : raisedO (MS.getD p []) A = some r) : LegOk z tk gv A (ds.drop p) true r:=by
 have ml : (MS.getD p []).length = z:=by rw [gDM hp]; exact wd _ (List.getElem_mem hp)
 obtain ⟨u,er,en⟩:=ra_und h
 have low : ∀ i,i < z→∀ a,A.getD i none = some a→∃ c,(MS.getD p []).getD i none = some c∧a = c + (gL z tk gv (ds.drop p)).getD i 0∧(needL z tk gv (ds.drop p)).getD i 0 ≤ c∧c ≤ a:=fun i hi a ha=>by
  obtain ⟨c,h1,h2,h3⟩:=S p hp i hi a ha
  have hu:=und_get ml al hi u
  rw [h1,ha] at hu
  exact ⟨c,h1,h2,h3,of_decide_eq_true hu⟩
 refine ⟨al,by rw [er,raB_len (by omega)]; exact al,fun x hx=>hds x (List.mem_of_mem_drop hx),by rw [List.length_drop]; omega,nn,fun i hi a ha=>?_,fun z=>(nomatch z),fun _ i hi a ha=>?_,fun i hi ha=>?_,fun z=>(nomatch z),fun _=>?_⟩
 ·obtain ⟨c,_,_,h3,h4⟩:=low i hi a ha
  omega
 ·obtain ⟨c,h1,h2,h3,h4⟩:=low i hi a ha
  rw [ra_get ml al hi h,h1,ha]
  refine ⟨by omega,fun e=>?_,fun e=>?_⟩
  ·unfold raAt
   rw [if_pos]
   congr 1
   omega
  ·unfold raAt
   rw [if_neg]
   intro z
   have:=Option.some.inj z
   omega
 ·rw [ra_get ml al hi h,ha]
  unfold raAt
  split <;> rfl
 ·rw [er]
  exact (fin_ra (by omega)).2 en
end
inductive Run (z : Nat) (tk gv : List (List Int)) : List Int→List Blk2→List Int→Prop where
 | nil (b : List Int) : Run z tk gv b [] b
 | cons {b e : List Int} {c : Blk2} {cs : List Blk2} : (∀ i,i < z→(needL z tk gv (rep c.1 c.2)).getD i 0 ≤ b.getD i 0)→Run z tk gv (add b (gL z tk gv (rep c.1 c.2))) cs e→Run z tk gv b (c :: cs) e
def MAt (z : Nat) (A : Mark) (w b : List Int) : Prop:=∀ i,i < z→(∀ a,A.getD i none = some a→b.getD i 0 = a)∧(A.getD i none = none→w.getD i 0 ≤ b.getD i 0)
def Pumps (z : Nat) (tk gv : List (List Int)) (A : Mark) (w : List Int) (bls : List Blk2) (C : Mark) (v : List Int) : Prop:=∀ b,b.length = z→MAt z A w b→∃ e,Run z tk gv b bls e∧e.length = z∧MAt z C v e
theorem Pumps.nil (z : Nat) (tk gv : List (List Int)) (A : Mark) (w : List Int) : Pumps z tk gv A w [] A w:=fun b bl h=>⟨b,.nil b,bl,h⟩
section
variable {z : Nat} {tk gv : List (List Int)} (wt : Wd z tk) (wg : Wd z gv) (hl : gv.length = tk.length)
include wt wg hl
theorem need_le (bt : ∀ r ∈ tk,∀ x ∈ r,0 ≤ x∧x ≤ 1000000000) (bg : ∀ r ∈ gv,∀ x ∈ r,0 ≤ x∧x ≤ 1000000000) {i : Nat} (hi : i < z) : ∀ {ds : List Nat},(∀ d ∈ ds,d < tk.length)→(needL z tk gv ds).getD i 0 ≤ (ds.length : Int) * 1000000000
 | [],_=>by
  show (List.replicate z (0 : Int)).getD i 0 ≤ _
  rw [rep_at]; simp
 | d :: ds,h=>by
  have hd:=h d (List.mem_cons_self ..)
  have hx : ∀ x ∈ ds,x < tk.length:=fun x hx=>h x (List.mem_cons_of_mem _ hx)
  have ih:=need_le bt bg hi (ds:=ds) hx
  rw [need_cons wt wg hl hd hx hi,List.length_cons]
  have l1:=wt.at hd
  have l2:=wg.at (d:=d) (by omega)
  have b1:=bt _ (getDm hd) _ (List.getElem_mem (show i < (tk.getD d []).length by omega))
  have b2:=bg _ (getDm (d:=d) (by omega)) _ (List.getElem_mem (show i < (gv.getD d []).length by omega))
  rw [L2.getD_at (show i < (tk.getD d []).length by omega),L2.getD_at (show i < (gv.getD d []).length by omega)]
  unfold mx
  split <;> omega
theorem Pumps.cons {A B C : Mark} {ds : List Nat} {lp : Bool} {w v : List Int} {bls : List Blk2} {c : Nat} (nt : ∀ r ∈ tk,nonneg r) (P : Pumps z tk gv B w bls C v) (L : LegOk z tk gv A ds lp B) (wl : w.length = z) (h1 : lp = false→c = 1)
  (h2 : lp = true→∀ i,i < z→∀ a,A.getD i none = some a→0 < (gL z tk gv ds).getD i 0→w.getD i 0 ≤ a + (c : Int) * (gL z tk gv ds).getD i 0) : Pumps z tk gv A (hi2 (needL z tk gv (rep c ds)) (sub w (gL z tk gv (rep c ds)))) ((c,ds) :: bls) C v:=by
 have hr : ∀ d ∈ rep c ds,d < tk.length:=fun d hd=>L.dr d (rep_mem hd)
 have l1:=need_len wt wg hl hr
 have l2:=gL_len wt wg hl hr
 intro b bl h
 have nd : ∀ i,i < z→(needL z tk gv (rep c ds)).getD i 0 ≤ b.getD i 0:=fun i hi=>by
  cases q : A.getD i none with
  | none =>
   have:=(h i hi).2 q
   rw [hi2_at l1 (sub_len wl l2) hi] at this
   exact Int.le_trans le_mx1 this
  | some a =>
   have e:=(h i hi).1 a q
   have hn:=L.nd i hi a q
   rw [e]
   match c,h1,h2 with
   | 0,_,_ =>
    show (List.replicate z (0 : Int)).getD i 0 ≤ a
    rw [rep_at]
    exact L.nn a (by rw [mG_at (by rw [L.al]; exact hi)] at q; rw [← q]; exact List.getElem_mem _)
   | m + 1,h1,h2 =>
    rw [need_rep wt wg hl nt hi L.dr m]
    cases lp with
    | false =>
     have : m = 0:=by have:=h1 rfl; omega
     subst this
     unfold mx
     simp
     exact hn
    | true =>
     have g0:=(L.lo rfl i hi a q).1
     have:=Int.mul_nonneg (show (0 : Int) ≤ (m : Int) by omega) g0
     unfold mx
     split <;> omega
 have M : MAt z B w (add b (gL z tk gv (rep c ds))):=fun i hi=>by
  rw [add_at bl l2 hi,gL_rep wt wg hl hi L.dr]
  cases q : A.getD i none with
  | none =>
   have e:=L.no i hi q
   refine ⟨fun a ha=>(by rw [e] at ha; cases ha),fun _=>?_⟩
   have:=(h i hi).2 q
   rw [hi2_at l1 (sub_len wl l2) hi,sub_at wl l2 hi,gL_rep wt wg hl hi L.dr] at this
   have:=Int.le_trans le_mx2 this
   omega
  | some a =>
   have e:=(h i hi).1 a q
   rw [e]
   cases lp with
   | false =>
    have h1:=h1 rfl
    subst h1
    have eb:=L.go rfl i hi a q
    refine ⟨fun a' ha=>?_,fun z=>(by rw [eb] at z; cases z)⟩
    rw [eb] at ha
    have:=Option.some.inj ha
    simp
    exact this
   | true =>
    obtain ⟨g0,g1,g2⟩:=L.lo rfl i hi a q
    by_cases e0 : (gL z tk gv ds).getD i 0 = 0
    ·have eb:=g1 e0
     refine ⟨fun a' ha=>?_,fun z=>(by rw [eb] at z; cases z)⟩
     rw [eb] at ha
     rw [e0,Int.mul_zero,Int.add_zero]
     exact Option.some.inj ha
    ·have gp : 0 < (gL z tk gv ds).getD i 0:=by omega
     have eb:=g2 gp
     exact ⟨fun a' ha=>(by rw [eb] at ha; cases ha),fun _=>h2 rfl i hi a q gp⟩
 obtain ⟨e,r,el,m⟩:=P _ (add_len bl l2) M
 exact ⟨e,.cons nd r,el,m⟩
theorem Run.filt {b e : List Int} {bls : List Blk2} (h : Run z tk gv b bls e) (bl : b.length = z) (dr : ∀ c ∈ bls,∀ d ∈ c.2,d < tk.length) : Run z tk gv b (bls.filter fun c=>decide (0 < c.1)) e:=by
 induction h with
 | nil b=>exact .nil b
 | cons hn r ih =>
  rename_i b e c cs
  have hr : ∀ d ∈ rep c.1 c.2,d < tk.length:=fun d hd=>dr c (List.mem_cons_self ..) d (rep_mem hd)
  have l2:=gL_len wt wg hl hr
  have ih:=ih (add_len bl l2) fun x hx=>dr x (List.mem_cons_of_mem _ hx)
  by_cases q : 0 < c.1
  ·rw [List.filter_cons_of_pos (by simpa using q)]
   exact .cons hn ih
  ·rw [List.filter_cons_of_neg (by simpa using q)]
   have c0 : c.1 = 0:=by omega
   have e : add b (gL z tk gv (rep c.1 c.2)) = b:=by
    refine ext_at (z:=z) (add_len bl l2) bl fun i hi=>?_
    rw [add_at bl l2 hi,c0]
    show _ + (List.replicate z (0 : Int)).getD i 0 = _
    rw [rep_at]
    omega
   rw [e] at ih
   exact ih
end
def Bn (j f : Nat) : Nat:=2 ^ j * (10 ^ 12) ^ f * (2 * 10 ^ 60)
theorem Bn_s (j f : Nat) : Bn (j + 1) f = 2 * Bn j f:=by
 unfold Bn
 rw [Nat.pow_succ,Nat.mul_comm (2 ^ j) 2,Nat.mul_assoc,Nat.mul_assoc,Nat.mul_assoc]
theorem mul4 (a b k y : Nat) : a * (b * k) * y = k * (a * b * y):=by
 rw [← Nat.mul_assoc,Nat.mul_comm (a * b) k,Nat.mul_assoc]
theorem Bn_l (j f : Nat) : Bn j (f + 1) = 10 ^ 12 * Bn j f:=mul4 (2 ^ j) ((10 ^ 12) ^ f) (10 ^ 12) (2 * 10 ^ 60)
theorem Bn_mono {j f f' : Nat} (h : f ≤ f') : Bn j f ≤ Bn j f':=Nat.mul_le_mul_right _ (Nat.mul_le_mul_left _ (Nat.pow_le_pow_right (by decide) h))
theorem Bn_top {j f : Nat} (h1 : j ≤ 70) (h2 : f ≤ 6) : Bn j f < 2 ^ 600:=by
 have e : Bn j f ≤ Bn 70 6:=Nat.mul_le_mul_right _ (Nat.mul_le_mul (Nat.pow_le_pow_right (by decide) h1) (Nat.pow_le_pow_right (by decide) h2))
 exact Nat.lt_of_le_of_lt e (by decide +kernel)
theorem Bn_low (j f : Nat) : 2 * 10 ^ 60 ≤ Bn j f:=by
 unfold Bn
 exact Nat.le_mul_of_pos_left _ (Nat.mul_pos (Nat.pow_pos (by decide)) (Nat.pow_pos (by decide)))
def WB (z j f : Nat) (w : List Int) : Prop:=∀ i,i < z→0 ≤ w.getD i 0∧w.getD i 0 + 100000000000 ≤ (Bn j f : Int)
section
variable {z : Nat} {tk gv : List (List Int)} (wt : Wd z tk) (wg : Wd z gv) (hl : gv.length = tk.length)
include wt wg hl
theorem WB.step (bt : ∀ r ∈ tk,∀ x ∈ r,0 ≤ x∧x ≤ 1000000000) (bg : ∀ r ∈ gv,∀ x ∈ r,0 ≤ x∧x ≤ 1000000000) {A B : Mark} {ds : List Nat} {lp : Bool} {w : List Int} {c j : Nat} (L : LegOk z tk gv A ds lp B) (wl : w.length = z) (W : WB z j (fin B) w) (h1 : lp = false→c = 1) (h2 : lp = true→(c : Int) + 100000000000 ≤ (Bn j (fin B) : Int)) : WB z (j + 1) (fin A) (hi2 (needL z tk gv (rep c ds)) (sub w (gL z tk gv (rep c ds)))):=by
 have nt : ∀ r ∈ tk,nonneg r:=fun r hr x hx=>(bt r hr x hx).1
 have hr : ∀ d ∈ rep c ds,d < tk.length:=fun d hd=>L.dr d (rep_mem hd)
 have l1:=need_len wt wg hl hr
 have l2:=gL_len wt wg hl hr
 intro i hi
 obtain ⟨w0,w1⟩:=W i hi
 have n0:=nonneg_at (need_nonneg wt wg hl nt hr) i
 rw [hi2_at l1 (sub_len wl l2) hi,sub_at wl l2 hi,gL_rep wt wg hl hi L.dr]
 have ga:=gL_abs wt wg hl bt bg hi L.dr
 have na:=need_le wt wg hl bt bg hi L.dr
 have n2:=nonneg_at (need_nonneg wt wg hl nt L.dr) i
 have dl:=L.dl
 have ga : ((gL z tk gv ds).getD i 0).natAbs ≤ 64000000000:=by omega
 have na : (needL z tk gv ds).getD i 0 ≤ 64000000000:=by omega
 have low:=Bn_low j (fin B)
 have nr : (needL z tk gv (rep c ds)).getD i 0 ≤ 64000000000 + (c : Int) * 64000000000:=by
  match c with
  | 0 =>
   show (List.replicate z (0 : Int)).getD i 0 ≤ _
   rw [rep_at]; decide
  | m + 1 =>
   rw [need_rep wt wg hl nt hi L.dr m]
   have : -((m : Int) * (gL z tk gv ds).getD i 0) ≤ (m : Int) * 64000000000:=by
    rw [← Int.mul_neg]
    exact Int.mul_le_mul_of_nonneg_left (by omega) (by omega)
   unfold mx
   split <;> omega
 have gr : -((c : Int) * (gL z tk gv ds).getD i 0) ≤ (c : Int) * 64000000000:=by
  rw [← Int.mul_neg]
  exact Int.mul_le_mul_of_nonneg_left (by omega) (by omega)
 have top : mx ((needL z tk gv (rep c ds)).getD i 0) (w.getD i 0 - (c : Int) * (gL z tk gv ds).getD i 0) ≤ 64000000000 + w.getD i 0 + (c : Int) * 64000000000:=by
  unfold mx
  split <;> omega
 refine ⟨Int.le_trans n0 le_mx1,?_⟩
 generalize mx ((needL z tk gv (rep c ds)).getD i 0) (w.getD i 0 - (c : Int) * (gL z tk gv ds).getD i 0) = x at top
 rw [Bn_s]
 cases lp with
 | false =>
  have:=h1 rfl
  subst this
  rw [← L.f1 rfl]
  generalize Bn j (fin B) = T at *
  omega
 | true =>
  have hc:=h2 rfl
  have hf:=L.f2 rfl
  have hm:=Bn_mono (j:=j) (show fin B + 1 ≤ fin A from hf)
  rw [Bn_l] at hm
  generalize Bn j (fin B) = T at *
  generalize Bn j (fin A) = T2 at *
  omega
end
theorem wb_const {z f : Nat} {y : Int} (h0 : 0 ≤ y) (h1 : y < 10 ^ 60) : WB z 0 f (List.replicate z y):=fun i hi=>by
 have e : (List.replicate z y).getD i 0 = y:=by rw [L2.getD_at (by rw [List.length_replicate]; exact hi),List.getElem_replicate]
 rw [e]
 have:=Bn_low 0 f
 generalize Bn 0 f = T at *
 omega
theorem often_at {L g q : Int} {M : Int} (g0 : 0 < g) (hL : L ≤ M) (hM : 0 ≤ M) (e : q = (L + g - 1) / g) : q ≤ M∧L ≤ q * g:=by
 subst e
 constructor
 ·have h : (L + g - 1) / g < M + 1:=by
   refine Int.ediv_lt_of_lt_mul g0 ?_
   rw [Int.add_mul]
   have:=Int.mul_le_mul_of_nonneg_left (show (1 : Int) ≤ g by omega) hM
   omega
  omega
 ·have h:=Int.lt_ediv_add_one_mul_self (L + g - 1) g0
  rw [Int.add_mul] at h
  omega
def LegAt (H0 H : Hp) (n : Addr) (p : Addr) (l : Leg) : Prop:=p ≠ n∧H0 p = none∧∃ a q,a ≠ n∧q ≠ n∧H0 a = none∧H0 q = none∧H p = some (.tup [.ref a,.ref q,.bl l.2.2])∧H a = some (.lst (vmk l.1))∧H q = some (.lst (vints (zs l.2.1)))
def LegRows (H0 H : Hp) (n : Addr) (as : List Addr) (ls : List Leg) : Prop:=Paired (LegAt H0 H n) as ls
theorem LegRows.same {H0 H H' : Hp} {n : Addr} {as : List Addr} {ls : List Leg} (h : LegRows H0 H n as ls) (S : Same H H') : LegRows H0 H' n as ls:=Paired.mapP h fun _ _ ⟨n1,f1,a,q,n2,n3,f2,f3,e1,e2,e3⟩=>⟨n1,f1,a,q,n2,n3,f2,f3,S _ _ e1,S _ _ e2,S _ _ e3⟩
theorem LegRows.lay {H0 H : Hp} {n : Addr} {o : HO} {as : List Addr} {ls : List Leg} (h : LegRows H0 H n as ls) : LegRows H0 (upd H n o) n as ls:=Paired.mapP h fun _ _ ⟨n1,f1,a,q,n2,n3,f2,f3,e1,e2,e3⟩=>⟨n1,f1,a,q,n2,n3,f2,f3,by rw [upd_ne n1]; exact e1,by rw [upd_ne n2]; exact e2,by rw [upd_ne n3]; exact e3⟩
theorem bmF_at {tk gv : List (List Int)} : ∀ (br : List (Int × List Int)) (M0 MS : List Mark),bmF tk gv M0 br = .inr MS→MS.take M0.length = M0∧MS.length = M0.length + br.length∧∀ i (h : i < br.length),stF tk gv (MS.take (M0.length + i)) br[i] = some (MS.getD (M0.length + i) [])
 | [],M0,MS,e=>by
  cases e
  exact ⟨List.take_length,rfl,fun i h=>absurd h (Nat.not_lt_zero _)⟩
 | b :: bs,M0,MS,e=>by
  cases q : stF tk gv M0 b with
  | none=>rw [bmF_no q] at e; cases e
  | some m =>
   rw [bmF_go q] at e
   obtain ⟨h1,h2,h3⟩:=bmF_at bs _ _ e
   rw [List.length_append,List.length_singleton] at h1 h2 h3
   have t0 : MS.take M0.length = M0:=by
    have : (MS.take (M0.length + 1)).take M0.length = M0:=by rw [h1,List.take_left]
    rwa [List.take_take,Nat.min_eq_left (by omega)] at this
   have g0 : MS.getD M0.length [] = m:=by
    have hl : M0.length < MS.length:=by rw [h2]; omega
    have : (MS.take (M0.length + 1))[M0.length]? = some m:=by rw [h1,List.getElem?_append_right (Nat.le_refl _),Nat.sub_self]; rfl
    rw [List.getElem?_take_of_lt (by omega)] at this
    rw [List.getD_eq_getElem?_getD,this]
    rfl
   refine ⟨t0,by rw [h2,List.length_cons]; omega,fun i h=>?_⟩
   match i,h with
   | 0,_=>show stF tk gv (MS.take M0.length) b = some (MS.getD M0.length []); rw [t0,g0]; exact q
   | i + 1,h =>
    have:=h3 i (by simpa using h)
    rw [show M0.length + (i + 1) = M0.length + 1 + i by omega]
    exact this
theorem cut_both (ns : List Nat) (i j : Nat) (h1 : i ≤ j) (h2 : j ≤ ns.length) : cutV (vints (zs ns)) (some (i : Int)) (some (j : Int)) = vints (zs ((ns.take j).drop i)):=by
 unfold cutV
 rw [HT.sIx_nat,HT.sIx_nat,ints_len,zs_len,Nat.min_eq_left h2,Nat.min_eq_left (by omega)]
 show ((List.map V.int (List.map _ ns)).drop i).take (j - i) = List.map V.int (List.map _ ((ns.take j).drop i))
 rw [List.drop_take,List.map_take,List.map_take,List.map_drop,List.map_drop]
theorem rep_flatY (z : Nat) (y : Int) : (List.replicate z [V.int y]).flatten = vints (List.replicate z y):=by
 induction z with
 | zero=>rfl
 | succ z ih =>
  rw [List.replicate_succ,List.flatten_cons,ih]
  rfl
theorem LegsC.len {z : Nat} {tk gv : List (List Int)} {n : Nat} {A B : Mark} {ls : List Leg} (h : LegsC z tk gv n A ls B) (e : A.length = z) : B.length = z:=by
 cases h with
 | nil=>exact e
 | snoc h k=>exact k.bl
theorem LegRows.layO {H0 H : Hp} {n m : Addr} {o o' : HO} {as : List Addr} {ls : List Leg} (h : LegRows H0 H n as ls) (hm : H0 m = some o') : LegRows H0 (upd H m o) n as ls:=Paired.mapP h fun p _ ⟨n1,f1,a,q,n2,n3,f2,f3,e1,e2,e3⟩=>by
 have ne : ∀ {r : Addr},H0 r = none→r ≠ m:=fun f z=>by rw [z,hm] at f; cases f
 exact ⟨n1,f1,a,q,n2,n3,f2,f3,by rw [upd_ne (ne f1)]; exact e1,by rw [upd_ne (ne f2)]; exact e2,by rw [upd_ne (ne f3)]; exact e3⟩
theorem paired_rev {α β : Type} {F : α→β→Prop} : ∀ {l : List α} {m : List β},Paired F l m→Paired F l.reverse m.reverse
 | _,_,.nil=>.nil
 | _,_,.cons e t=>by
  rw [List.reverse_cons,List.reverse_cons]
  exact paired_app (paired_rev t) (.cons e .nil)
theorem mat_first {z : Nat} {fs w : List Int} (h : fs.length = z) : MAt z (fs.map some) w fs:=fun i hi=>by
 have e : (fs.map some : Mark).getD i none = some (fs.getD i 0):=by
  rw [mG_at (by rw [List.length_map]; omega),List.getElem_map,L2.getD_at (by omega)]
 rw [e]
 exact ⟨fun a ha=>Option.some.inj ha,fun z=>(nomatch z)⟩
end L2
namespace L2
open PySem PySem.Spec PyProof.Rows PySem.SeqAt
section
variable {X : Cx}
def ixM (ms : List Mark) (m : Mark) : Nat:=ms.findIdx (fun z=>decide (z = m))
theorem ixM_at {ms : List Mark} {m : Mark} (h : m ∈ ms) : ms[ixM ms m]? = some m∧∀ j,j < ixM ms m→∀ w,ms[j]? = some w→w ≠ m:=by
 unfold ixM
 have hl : ms.findIdx (fun z=>decide (z = m)) < ms.length:=List.findIdx_lt_length_of_exists ⟨m,h,by simp⟩
 have e:=List.findIdx_getElem (w:=hl)
 refine ⟨by rw [List.getElem?_eq_getElem hl,of_decide_eq_true e],fun j hj w hw hwy=>?_⟩
 have:=List.not_of_lt_findIdx hj
 have hml : j < ms.length:=Nat.lt_trans hj hl
 rw [List.getElem?_eq_getElem hml] at hw
 rw [Option.some.inj hw,hwy] at this
 simp at this
inductive rIndexM (K : PySem.W.Frag) (x : V) (vs : List V) (H : Hp) (Q : VK) : Prop
 | mk : ∀ (l b : Addr) (as : List Addr) (ms : List Mark) (m : Mark),(x = .ref l)→(vs = [.ref b])→(H l = some (.lst (as.map V.ref)))→(MRows H as ms)→(SqL K H b (vmk m))→(m ∈ ms)→(Q (.int ((ixM ms m : Nat) : Int)) H)→rIndexM K x vs H Q
theorem mt_indexM (hu : X.A.units + 2 < cLine) : MtM X "list.index" (rIndexM X.K) := by
 intro pins s σ H x vs v us Q I rx rv h
 obtain ⟨l,b,as,ms,m,rfl,rfl,hH,R,qb,hm,q⟩:=h
 cases rx
 obtain ⟨u,rfl,ru⟩:=rv.one
 cases ru
 obtain ⟨z,its,n,r,hl,e⟩:=I.lstM hH
 have ei:=rows_val r
 subst ei
 obtain ⟨e1,e2⟩:=ixM_at hm
 generalize ixM ms m = j at e1 e2 q
 have hjl : j < ms.length:=(List.getElem?_eq_some_iff.mp e1).1
 have vl : as.length = ms.length:=R.length
 have hs:=sizeLine_eq
 rw [List.length_map] at hl z
 have hj : j < (as.map Value.ref).toArray.size:=by rw [List.size_toArray,List.length_map]; omega
 have ev : ∀ k (w : Mark) (hk : k < (as.map Value.ref).toArray.size),ms[k]? = some w→markAt H m ((as.map Value.ref).toArray[k]) = decide (w = m):=fun k w hk hw=>by
  obtain ⟨c,hc,f⟩:=paired_getR R hw
  rw [List.getElem_toArray,List.getElem_map,(List.getElem?_eq_some_iff.mp hc).2]
  exact markAt_of f m
 refine call_meets F.slot_list_index ⟨_,e,rfl⟩ F.entry_list_index (F.args_list_index_2 _ _) (SeqAt.list_indexAt l (as.map Value.ref).toArray n none #[] (.ref b) (markAt H m) j hj (by omega) (by rw [ev j m hj e1]; simp) fun k hk hkj=>?_) ⟨e,marks_eqAt I ?_ R qb,?_⟩
 ·have hkm : k < ms.length:=by omega
  rw [ev k _ hk (List.getElem?_eq_getElem hkm)]
  exact decide_eq_false (e2 k hkj _ (List.getElem?_eq_getElem hkm))
 ·rw [in1_units]; omega
 ·exact ⟨.int j,H,I.tok _,⟨_,rfl⟩,q⟩
end
theorem raL_lpF {MS : List Mark} {i : Nat} (hl : i < MS.length) : ∀ (lp : List Int) (m r : Mark),(∀ x ∈ lp,0 ≤ x∧x ≤ (i : Int))→raL MS m lp = some r→lpF (MS.take (i + 1)) m lp = some r
 | [],m,r,_,e=>e
 | x :: lp,m,r,h,e=>by
  obtain ⟨r',h1,h2⟩:=raL_go e
  have hx:=h x (List.mem_cons_self ..)
  have tl : (MS.take (i + 1)).length = i + 1:=by rw [List.length_take]; omega
  have tD : (MS.take (i + 1)).getD x.toNat [] = MS.getD x.toNat []:=by rw [List.getD_eq_getElem?_getD,List.getElem?_take_of_lt (by omega),← List.getD_eq_getElem?_getD]
  rw [lpF_go (by rw [tl]; omega) (by rw [tD]; exact h1)]
  exact raL_lpF hl lp r' r (fun y hy=>h y (List.mem_cons_of_mem _ hy)) h2
theorem way_stF {tk gv : List (List Int)} {fs : List Int} {MS : List Mark} {br : List (Int × List Int)} (W : WayOk tk gv fs MS br) {i : Nat} (hi : i < br.length) : stF tk gv (MS.take (i + 1)) br[i] = some (MS.getD (i + 1) []):=by
 have ln:=W.len
 obtain ⟨d,hd,e1,u,hx,er⟩:=W.st i hi
 have eb : br.getD i (0,[]) = br[i]:=by rw [List.getD_eq_getElem?_getD,List.getElem?_eq_getElem hi]; rfl
 rw [eb] at e1 hx er
 have hl : i < MS.length:=by omega
 have tl : (MS.take (i + 1)).length = i + 1:=by rw [List.length_take]; omega
 have tD : (MS.take (i + 1)).getD i [] = MS.getD i []:=by rw [List.getD_eq_getElem?_getD,List.getElem?_take_of_lt (Nat.lt_succ_self i),← List.getD_eq_getElem?_getD]
 rw [stF_go (by rw [e1,tl,Nat.add_sub_cancel,tD,Int.toNat_natCast]; exact u),e1,tl,Nat.add_sub_cancel,tD,Int.toNat_natCast]
 exact raL_lpF hl _ _ _ hx er
theorem way_bm {tk gv : List (List Int)} {fs : List Int} {MS : List Mark} {br : List (Int × List Int)} (W : WayOk tk gv fs MS br) : bmF tk gv [fs.map some] br = .inr MS:=by
 have ln:=W.len
 have key : ∀ k i,i + k = br.length→bmF tk gv (MS.take (i + 1)) (br.drop i) = .inr MS:=by
  intro k
  induction k with
  | zero =>
   intro i hi
   have e : i = br.length:=by omega
   subst e
   rw [List.drop_length,List.take_of_length_le (by omega)]
   rfl
  | succ k ih =>
   intro i hi
   have hb : i < br.length:=by omega
   have hl : i + 1 < MS.length:=by omega
   rw [List.drop_eq_getElem_cons hb,bmF_go (way_stF W hb)]
   have et : MS.take (i + 1) ++ [MS.getD (i + 1) []] = MS.take (i + 1 + 1):=by rw [List.take_add_one (i:=i + 1),List.getElem?_eq_getElem hl,gDM hl]; rfl
   rw [et]
   exact ih (i + 1) (by omega)
 have:=key br.length 0 (by omega)
 rw [List.drop_zero] at this
 rw [← this]
 congr 1
 have h0 : 0 < MS.length:=by omega
 rw [List.take_one,List.head?_eq_getElem?,List.getElem?_eq_getElem h0,← W.m0,gDM h0]
 rfl
theorem way_last {w : TV} {n : Nat} (pv : PV w.par) (hn : n < w.par.length) : (pthM w n).getD (wayB w n).length [] = w.marks.getD n []:=by
 have pos:=pth_pos pv hn
 have lB : (wayB w n).length = (pth w.par n).length - 1:=by unfold wayB; rw [List.length_map,List.length_drop]
 obtain ⟨l,e,_⟩:=pth_end pv hn
 have h : (pth w.par n)[(wayB w n).length]? = some n:=by
  rw [lB,e,List.length_append,List.length_singleton,Nat.add_sub_cancel,List.getElem?_append_right (Nat.le_refl _),Nat.sub_self]
  rfl
 unfold pthM
 rw [gDm (by omega),(List.getElem?_eq_some_iff.mp h).2]
end L2
theorem PySem.W.Fast.tw10654890064643620631 : True:=trivial
theorem PySem.W.Fast.tw10658142666660259418 : True:=trivial
theorem PySem.W.Fast.tw10948553305705174518 : True:=trivial
theorem PySem.W.Fast.tw11448914044226966194 : True:=trivial
theorem PySem.W.Fast.tw1284363316801166898 : True:=trivial
theorem PySem.W.Fast.tw1340500424713281719 : True:=trivial
theorem PySem.W.Fast.tw13917354760589098742 : True:=trivial
theorem PySem.W.Fast.tw14537900138677242912 : True:=trivial
theorem PySem.W.Fast.tw14749347829403950914 : True:=trivial
theorem PySem.W.Fast.tw15210107223002493734 : True:=trivial
theorem PySem.W.Fast.tw15925770702829533610 : True:=trivial
theorem PySem.W.Fast.tw17171156122302465262 : True:=trivial
theorem PySem.W.Fast.tw17175150629040904994 : True:=trivial
theorem PySem.W.Fast.tw17294652538946893510 : True:=trivial
theorem PySem.W.Fast.tw17557918819534513163 : True:=trivial
theorem PySem.W.Fast.tw18098624025608217279 : True:=trivial
theorem PySem.W.Fast.tw2296617728323468297 : True:=trivial
theorem PySem.W.Fast.tw2439684365408766461 : True:=trivial
theorem PySem.W.Fast.tw264192004066054266 : True:=trivial
theorem PySem.W.Fast.tw2787429013099299808 : True:=trivial
theorem PySem.W.Fast.tw3199061763972285558 : True:=trivial
theorem PySem.W.Fast.tw3489621920138363796 : True:=trivial
theorem PySem.W.Fast.tw4134225797944626245 : True:=trivial
theorem PySem.W.Fast.tw615598371564989774 : True:=trivial
theorem PySem.W.Fast.tw6420663791311795453 : True:=trivial
theorem PySem.W.Fast.tw80463413301368566 : True:=trivial
theorem PySem.W.Fast.tw9505221586947429920 : True:=trivial
namespace Law
open PySem L2
def top (i : Nat) : Stmt:=PySem.Challenge.pw_beadhall_k59_whole_fence_passed.main.body.getD i (.Pass ⟨0,0,0,0⟩)
abbrev s_is_name : Stmt:=top 22
abbrev s_refuse_bad_names : Stmt:=top 21
abbrev s_refuse_bad_bags : Stmt:=top 23
abbrev s_Net_init : Stmt:=inClass (top 20) 0
abbrev s_Tree_init : Stmt:=inClass (top 33) 0
abbrev s_law_made : Stmt:=top 62
abbrev s_is_no_more : Stmt:=top 27
abbrev s_under : Stmt:=top 26
abbrev s_first_above : Stmt:=top 36
abbrev s_may_mark : Stmt:=top 28
abbrev s_upward : Stmt:=top 38
abbrev s_raised : Stmt:=top 30
abbrev s_put_node : Stmt:=top 37
abbrev s_NoGo_init : Stmt:=inClass (top 4) 0
abbrev s_refuse_unlike : Stmt:=top 7
abbrev s_less : Stmt:=top 9
abbrev s_gain : Stmt:=top 24
abbrev s_mark_after : Stmt:=top 29
abbrev s_look_at : Stmt:=top 35
abbrev s_grown : Stmt:=top 34
abbrev s_law_grown : Stmt:=top 65
abbrev s_law_tree_of : Stmt:=top 66
abbrev s_law_cell : Stmt:=top 59
abbrev s_law_num : Stmt:=top 60
abbrev s_law_net : Stmt:=top 61
abbrev s_is_outermost : Stmt:=top 13
abbrev s_outermost : Stmt:=top 12
abbrev s_peak_marks : Stmt:=top 31
abbrev s_fence : Stmt:=top 40
abbrev s_law_whole : Stmt:=top 63
abbrev s_law_marks_formed : Stmt:=top 64
abbrev s_law_turn : Stmt:=top 67
abbrev s_law_behind : Stmt:=top 68
abbrev s_law_end : Stmt:=top 69
abbrev s_mark_behind : Stmt:=top 54
abbrev s_branch_marks : Stmt:=top 53
abbrev s_legs_of : Stmt:=top 56
abbrev s_plus : Stmt:=top 8
abbrev s_times : Stmt:=top 11
abbrev s_tally_gain : Stmt:=top 46
abbrev s_tally_of : Stmt:=top 45
abbrev s_gain_of : Stmt:=top 42
abbrev s_often_enough : Stmt:=top 57
abbrev s_higher : Stmt:=top 10
abbrev s_need_ahead : Stmt:=top 44
abbrev s_need_of : Stmt:=top 43
abbrev s_need_of_one : Stmt:=top 51
abbrev s_gain_of_one : Stmt:=top 50
abbrev s_block_need : Stmt:=top 49
abbrev s_block_gain : Stmt:=top 48
abbrev s_pump : Stmt:=top 55
abbrev s_way_to : Stmt:=top 39
abbrev s_law_passed : Stmt:=top 70
abbrev s_law : Stmt:=top 71
inductive sp_is_name (K : PySem.W.Frag) (vs : List V) (H : Hp) (Q : VK) (z_3 : XK) : Prop
 | mk : ∀ (x : Str),(vs = [.str x])→(x.cps.all (· < 128) = true)→(x.length ≤ 1000)→(∀ H',Same H H'→Q (.bl (okName x)) H')→sp_is_name K vs H Q z_3
inductive sp_refuse_bad_names (K : PySem.W.Frag) (vs : List V) (H : Hp) (Q : VK) (z_3 : XK) : Prop
 | mk : ∀ (a : Addr) (ys : List Str) (lo hi : Int),(vs = [.ref a,.int lo,.int hi])→(SqL K H a (vstrs ys))→(lo ≤ ys.length)→(ys.length ≤ hi)→(ys.length ≤ 60)→((∀ y ∈ ys,okName y = true))→(ys.Nodup)→(∀ H',Same H H'→Q .non H')→sp_refuse_bad_names K vs H Q z_3
inductive sp_refuse_bad_bags (K : PySem.W.Frag) (vs : List V) (H : Hp) (Q : VK) (z_3 : XK) : Prop
 | mk : ∀ (a : Addr) (as : List Addr) (rs : List (List Int)) (n : Nat),(vs = [.ref a,.int rs.length,.int n])→(SqL K H a (as.map V.ref))→(Rows H as rs)→((∀ r ∈ rs,okBag n r))→(Q .non H)→sp_refuse_bad_bags K vs H Q z_3
inductive sp_Net_init (C : Addr) (K : PySem.W.Frag) (vs : List V) (H : Hp) (Q : VK) (z_3 : XK) : Prop
 | mk : ∀ (x dx pb pd pt pg pf : Addr) (ts gs : List Addr) (N : NetV),(vs = [.ref x,.ref pb,.ref pd,.ref pt,.ref pg,.ref pf])→(H x = some (.ins C dx []))→(N.Ok)→(SqL K H pb (vstrs N.bowls))→(SqL K H pd (vstrs N.doors))→(SqL K H pt (ts.map V.ref))→(Rows H ts N.takes)→(SqL K H pg (gs.map V.ref))→(Rows H gs N.gives)→(H pf = some (.lst (vints N.first)))→(∀ (b d t g f : Addr) (ts' gs' : List Addr) (H' : Hp),(∀ a ∈ [b,d,t,g,f] ++ ts' ++ gs',H a = none)→(∀ q o,H q = some o→q ≠ x→H' q = some o)→NetIn C H' x dx b d t g f ts' gs' N→Q .non H')→sp_Net_init C K vs H Q z_3
inductive sp_Tree_init (C : Addr) (K : PySem.W.Frag) (vs : List V) (H : Hp) (Q : VK) (z_3 : XK) : Prop
 | mk : ∀ (x dx pg : Addr) (first : List Int),(vs = [.ref x,.ref pg])→(H x = some (.ins C dx []))→(SqL K H pg (vints first))→(∀ (e q m p c l a : Addr) (H' : Hp),H m = none→H p = none→H c = none→H l = none→H a = none→(∀ q o,H q = some o→q ≠ x→H' q = some o)→TIn C H' x dx m p c l a [e] [q] ⟨[first.map some],[-1],[-1],[[]],[]⟩→Q .non H')→sp_Tree_init C K vs H Q z_3
inductive sp_law_made (C : Addr) (K : PySem.W.Frag) (vs : List V) (H : Hp) (Q : VK) (z_3 : XK) : Prop
 | mk : ∀ (p pt pg pf : Addr) (ts gs : List Addr) (tk gv : List (List Int)) (fs : List Int),(vs = [.ref p])→(PlanR H p pt pg pf ts gs tk gv fs)→(OkR fs.length tk gv fs)→(∀ (x dx b d t g f : Addr) (ts' gs' : List Addr) (H' : Hp),H x = none→Same H H'→NetIn C H' x dx b d t g f ts' gs' (netR tk gv fs)→(netR tk gv fs).Ok→Q (.ref x) H')→sp_law_made C K vs H Q z_3
inductive sp_is_no_more (K : PySem.W.Frag) (vs : List V) (H : Hp) (Q : VK) (z_3 : XK) : Prop
 | mk : ∀ (a b : Option Int),(vs = [vm a,vm b])→(Q (.bl (nomo a b)) H)→sp_is_no_more K vs H Q z_3
inductive sp_under (K : PySem.W.Frag) (vs : List V) (H : Hp) (Q : VK) (z_3 : XK) : Prop
 | mk : ∀ (a b : Addr) (l h : List (Option Int)),(vs = [.ref a,.ref b])→(SqL K H a (vmk l))→(SqL K H b (vmk h))→(l.length = h.length)→(l.length ≤ 70)→(∀ H',Same H H'→Q (.bl (undB l h)) H')→sp_under K vs H Q z_3
inductive sp_first_above (C : Addr) (K : PySem.W.Frag) (vs : List V) (H : Hp) (Q : VK) (z_3 : XK) : Prop
 | mk : ∀ (y dy m p c l a : Addr) (ms ls : List Addr) (w : TV) (n z : Nat),(vs = [.ref y,.int n])→(TIn C H y dy m p c l a ms ls w)→(n < w.marks.length)→(w.marks.length ≤ 60)→((∀ r ∈ w.marks,r.length = z))→(z ≤ 6)→(∀ (x : Int) (H' : Hp),Same H H'→(x < 0 ∨ ∃ j,j < n∧undB (w.marks.getD n []) (w.marks.getD j []) = true)→Q (.int x) H')→sp_first_above C K vs H Q z_3
inductive sp_may_mark (C : Addr) (K : PySem.W.Frag) (vs : List V) (H : Hp) (Q : VK) (z_3 : XK) : Prop
 | mk : ∀ (x dx b d t g f c : Addr) (ts gs : List Addr) (N : NetV) (m : List (Option Int)) (k : Nat),(vs = [.ref x,.ref c,.int k])→(NetIn C H x dx b d t g f ts gs N)→(N.Ok)→(SqL K H c (vmk m))→(m.length = N.bowls.length)→(k < N.takes.length)→(∀ H',Same H H'→Q (.bl (undB ((N.takes.getD k []).map some) m)) H')→sp_may_mark C K vs H Q z_3
inductive sp_upward (C : Addr) (K : PySem.W.Frag) (vs : List V) (H : Hp) (Q : VK) (z_3 : XK) : Prop
 | mk : ∀ (y dy m p c l a : Addr) (ms ls : List Addr) (w : TV) (n : Nat),(vs = [.ref y,.int n])→(TIn C H y dy m p c l a ms ls w)→(PV w.par)→(n < w.par.length)→(w.par.length ≤ 60)→(∀ (q : Addr) (H' : Hp),H q = none→Same H H'→H' q = some (.lst (vints ((upC w.par (n + 1) n).map fun (k : Nat)=>(k : Int))))→Q (.ref q) H')→sp_upward C K vs H Q z_3
inductive sp_raised (K : PySem.W.Frag) (vs : List V) (H : Hp) (Q : VK) (z_3 : XK) : Prop
 | mk : ∀ (a b : Addr) (l m : List (Option Int)),(vs = [.ref a,.ref b])→(SqL K H a (vmk l))→(SqL K H b (vmk m))→(l.length = m.length)→(l.length ≤ 70)→((raisedO l m = none→∀ H',Same H H'→Q .non H'))→(∀ r,raisedO l m = some r→∀ (p : Addr) (H' : Hp),H p = none→Same H H'→H' p = some (.lst (vmk r))→Q (.ref p) H')→sp_raised K vs H Q z_3
inductive sp_put_node (C G : Addr) (K : PySem.W.Frag) (vs : List V) (H : Hp) (Q : VK) (E : XK) : Prop
 | mk : ∀ (H0 : Hp) (y dy m p c l a pm : Addr) (ms ls : List Addr) (w : TV) (mk : Mark) (z par door room : Nat),(vs = [.ref y,.int par,.int door,.ref pm,.int room])→(Same H0 H)→(H0 m = none)→(H0 p = none)→(H0 c = none)→(H0 l = none)→(TIn C H y dy m p c l a ms ls w)→(PV w.par)→(w.par.length = w.marks.length)→(w.com.length = w.marks.length)→(w.loops.length = w.marks.length)→((∀ r ∈ w.marks,r.length = z))→(par < w.marks.length)→(w.marks.length ≤ 60)→(H pm = some (.lst (vmk mk)))→(mk.length = z)→(z ≤ 6)→(Out5 m p c l a pm)→((w.marks.length < room→∀ (ms' ls' : List Addr) (H' : Hp),Same H0 H'→TIn C H' y dy m p c l a ms' ls' ⟨w.marks ++ [(raF w.marks mk (upC w.par (par + 1) par)).1],w.par ++ [(par : Int)],w.com ++ [(door : Int)],w.loops ++ [(raF w.marks mk (upC w.par (par + 1) par)).2],w.above⟩→Q .non H'))→((room ≤ w.marks.length→∀ H',Same H0 H'→E (.ref G) none H'))→sp_put_node C G K vs H Q E
def sp_NoGo_init (C : Addr) (K : PySem.W.Frag) : Sp := spXI C "at"
inductive sp_refuse_unlike (K : PySem.W.Frag) (vs : List V) (H : Hp) (Q : VK) (z_3 : XK) : Prop
 | mk : ∀ (a b : Addr) (xs ys : List V),(vs = [.ref a,.ref b])→(SqL K H a xs)→(SqL K H b ys)→(xs.length = ys.length)→(Q .non H)→sp_refuse_unlike K vs H Q z_3
abbrev sp_less : PySem.W.Frag→Sp:=sp_zipd (fun i j=>i - j)
inductive sp_gain (C : Addr) (K : PySem.W.Frag) (vs : List V) (H : Hp) (Q : VK) (z_3 : XK) : Prop
 | mk : ∀ (x dx b d t g f : Addr) (ts gs : List Addr) (N : NetV) (k : Nat) (ht : k < N.takes.length) (hg : k < N.gives.length),(vs = [.ref x,.int k])→(NetIn C H x dx b d t g f ts gs N)→(N.Ok)→(∀ (p : Addr) (H' : Hp),H p = none→Same H H'→H' p = some (.lst (vints (List.zipWith (fun i j=>i - j) N.gives[k] N.takes[k])))→Q (.ref p) H')→sp_gain C K vs H Q z_3
inductive sp_mark_after (C G : Addr) (K : PySem.W.Frag) (vs : List V) (H : Hp) (Q : VK) (E : XK) : Prop
 | mk : ∀ (x dx b d t g f c : Addr) (ts gs : List Addr) (N : NetV) (m : List (Option Int)) (k : Nat), (vs = [.ref x, .ref c, .int k]) → (NetIn C H x dx b d t g f ts gs N) → (N.Ok) → (SqL K H c (vmk m)) → (m.length = N.bowls.length) → (k < N.takes.length) → ((undB ((N.takes.getD k []).map some) m = true → ∀ (p : Addr) (H' : Hp), H p = none → Same H H' → H' p = some (.lst (vmk (List.zipWith afM m (sub (N.gives.getD k []) (N.takes.getD k []))))) → Q (.ref p) H')) → ((undB ((N.takes.getD k []).map some) m = false → ∀ (e : Addr) (H' : Hp), Same H H' → H e = none → H' e = some (.xd [("at", .int 0)]) → E (.ref G) (some e) H')) → sp_mark_after C G K vs H Q E
inductive sp_look_at (C CT G NG : Addr) (K : PySem.W.Frag) (vs : List V) (H : Hp) (Q : VK) (E : XK) : Prop
 | mk : ∀ (H0 : Hp) (x dx xb xd xt xg xf : Addr) (ts gs : List Addr) (N : NetV) (y dy m p c l a : Addr) (ms ls : List Addr) (w : TV) (n room : Nat),(vs = [.ref x,.ref y,.int n,.int room])→(NetIn C H0 x dx xb xd xt xg xf ts gs N)→(N.Ok)→(Same H0 H)→(H0 m = none)→(H0 p = none)→(H0 c = none)→(H0 l = none)→(H0 a = none)→(TIn CT H y dy m p c l a ms ls w)→(TGood N.takes N.gives N.first N.bowls.length room w n n)→(n < w.marks.length)→(room ≤ 60)→((∀ (w' : TV) (ms' ls' : List Addr) (H' : Hp),Same H0 H'→TIn CT H' y dy m p c l a ms' ls' w'→TGood N.takes N.gives N.first N.bowls.length room w' (n + 1) (n + 1)→w.marks.length ≤ w'.marks.length→Q .non H'))→((0 < N.takes.length→∀ H',Same H0 H'→E (.ref G) none H'))→sp_look_at C CT G NG K vs H Q E
inductive sp_grown (C CT G NG : Addr) (K : PySem.W.Frag) (vs : List V) (H : Hp) (Q : VK) (E : XK) : Prop
 | mk : ∀ (x dx b d t g f : Addr) (ts gs : List Addr) (N : NetV) (room : Nat),(vs = [.ref x,.int room])→(NetIn C H x dx b d t g f ts gs N)→(N.Ok)→(1 ≤ room)→(room ≤ 60)→((∀ (w : TV) (y dy m p c l a : Addr) (ms ls : List Addr) (H' : Hp),H y = none→Same H H'→TIn CT H' y dy m p c l a ms ls w→TGood N.takes N.gives N.first N.bowls.length room w w.marks.length w.marks.length→Q (.ref y) H'))→((0 < N.takes.length→∀ H',Same H H'→E (.ref G) none H'))→sp_grown C CT G NG K vs H Q E
inductive sp_law_grown (C CT : Addr) (K : PySem.W.Frag) (vs : List V) (H : Hp) (Q : VK) (z_3 : XK) : Prop
 | mk : ∀ (x dx b d t g f : Addr) (ts gs : List Addr) (N : NetV) (room : Nat),(vs = [.ref x,.int room])→(NetIn C H x dx b d t g f ts gs N)→(N.Ok)→(1 ≤ room)→(room ≤ 60)→(∀ (fv : V) (H' : Hp),Same H H'→((fv = .non∧0 < N.takes.length) ∨ ∃ (w : TV) (y dy m p c l a : Addr) (ms ls : List Addr),fv = .ref y∧TIn CT H' y dy m p c l a ms ls w∧TGood N.takes N.gives N.first N.bowls.length room w w.marks.length w.marks.length)→Q fv H')→sp_law_grown C CT K vs H Q z_3
inductive sp_law_tree_of (C CT : Addr) (K : PySem.W.Frag) (vs : List V) (H : Hp) (Q : VK) (z_3 : XK) : Prop
 | mk : ∀ (p pt pg pf : Addr) (ts gs : List Addr) (tk gv : List (List Int)) (fs : List Int) (room : Nat),(vs = [.ref p,.int room])→(PlanR H p pt pg pf ts gs tk gv fs)→(OkR fs.length tk gv fs)→(1 ≤ room)→(room ≤ 60)→(∀ (q cp ct cg cf x dx nb nd nt ng nf y dy m p' c l a : Addr) (ts' gs' nts ngs ms ls : List Addr) (tk' gv' : List (List Int)) (w : TV) (H' : Hp),Same H H'→H' q = some (.tup [.ref cp,.ref x,.ref y])→PlanR H' cp ct cg cf ts' gs' tk' gv' fs→OkR fs.length tk' gv' fs→NetIn C H' x dx nb nd nt ng nf nts ngs (netR tk' gv' fs)→(netR tk' gv' fs).Ok→TIn CT H' y dy m p' c l a ms ls w→TGood tk' gv' fs fs.length room w w.marks.length w.marks.length→Q (.ref q) H')→sp_law_tree_of C CT K vs H Q z_3
inductive sp_law_cell (K : PySem.W.Frag) (vs : List V) (H : Hp) (Q : VK) (z_3 : XK) : Prop
 | mk : ∀ (a : Addr) (ns : List Int) (k : Nat),(vs = [.ref a,.int k])→(SqL K H a (vints ns))→(ns.length ≤ 63)→(∀ n : Int,Q (.int n) H)→sp_law_cell K vs H Q z_3
inductive sp_law_num (K : PySem.W.Frag) (vs : List V) (H : Hp) (Q : VK) (z_3 : XK) : Prop
 | mk : ∀ (a : Addr) (ns : List Int) (k : Nat),(vs = [.ref a,.int k])→(SqL K H a (vints ns))→(ns.length ≤ 63)→(k < 1000)→(∀ n : Int,0 ≤ n→n < 998244353→Q (.int n) H)→sp_law_num K vs H Q z_3
inductive sp_law_net (K : PySem.W.Frag) (vs : List V) (H : Hp) (Q : VK) (z_3 : XK) : Prop
 | mk : ∀ (a : Addr) (ns : List Int),(vs = [.ref a])→(SqL K H a (vints ns))→(ns.length ≤ 63)→(∀ (p pt pg pf : Addr) (ts gs : List Addr) (z : Nat) (tk gv : List (List Int)) (fs : List Int) (H' : Hp),Same H H'→PlanR H' p pt pg pf ts gs tk gv fs→OkR z tk gv fs→Q (.ref p) H')→sp_law_net K vs H Q z_3
inductive sp_is_outermost (f : Addr) (K : PySem.W.Frag) (vs : List V) (H : Hp) (Q : VK) (z_3 : XK) : Prop
 | mk : ∀ (c p : Addr) (as : List Addr) (ms : List Mark) (r : Mark) (z : Nat),(vs = [.ref c,.ref p,.ref f])→(SqL K H c (vmk r))→(H p = some (.lst (as.map V.ref)))→(MRows H as ms)→((∀ m ∈ ms,m.length = z))→(r.length = z)→(z ≤ 60)→(∀ H',Same H H'→Q (.bl (isOutM ms r)) H')→sp_is_outermost f K vs H Q z_3
inductive sp_outermost (f : Addr) (K : PySem.W.Frag) (vs : List V) (H : Hp) (Q : VK) (z_3 : XK) : Prop
 | mk : ∀ (p : Addr) (as : List Addr) (ms : List Mark) (z : Nat),(vs = [.ref p,.ref f])→(H p = some (.lst (as.map V.ref)))→(MRows H as ms)→(ms.length ≤ 60)→((∀ m ∈ ms,m.length = z))→(1 ≤ z)→(z ≤ 60)→(∀ (pf : Addr) (fs : List Addr) (H' : Hp),H pf = none→(∀ a ∈ fs,H a = none)→(∀ a ∈ fs,a ≠ pf)→Same H H'→H' pf = some (.lst (fs.map V.ref))→MRows H' fs (tellM ms ms)→Q (.ref pf) H')→sp_outermost f K vs H Q z_3
inductive sp_peak_marks (K : PySem.W.Frag) (vs : List V) (H : Hp) (Q : VK) (z_3 : XK) : Prop
 | mk : ∀ (p : Addr) (as : List Addr) (ms : List Mark) (z : Nat),(vs = [.ref p])→(H p = some (.lst (as.map V.ref)))→(MRows H as ms)→(ms.length ≤ 60)→((∀ m ∈ ms,m.length = z))→(1 ≤ z)→(z ≤ 60)→(∀ (pf : Addr) (fs : List Addr) (H' : Hp),H pf = none→(∀ a ∈ fs,H a = none)→(∀ a ∈ fs,a ≠ pf)→Same H H'→H' pf = some (.lst (fs.map V.ref))→MRows H' fs (tellM ms ms)→Q (.ref pf) H')→sp_peak_marks K vs H Q z_3
inductive sp_fence (C : Addr) (K : PySem.W.Frag) (vs : List V) (H : Hp) (Q : VK) (z_3 : XK) : Prop
 | mk : ∀ (y dy m p c l a : Addr) (ms ls : List Addr) (w : TV) (z : Nat),(vs = [.ref y])→(TIn C H y dy m p c l a ms ls w)→(w.marks.length ≤ 60)→((∀ r ∈ w.marks,r.length = z))→(1 ≤ z)→(z ≤ 60)→(∀ (pf : Addr) (fs : List Addr) (H' : Hp),H pf = none→Same H H'→H' pf = some (.lst (fs.map V.ref))→MRows H' fs (tellM w.marks w.marks)→Q (.ref pf) H')→sp_fence C K vs H Q z_3
inductive sp_law_whole (K : PySem.W.Frag) (vs : List V) (H : Hp) (Q : VK) (z_3 : XK) : Prop
 | mk : ∀ (i : Int),(vs = [.int i])→(Q (.bl true) H)→sp_law_whole K vs H Q z_3
inductive sp_law_marks_formed (K : PySem.W.Frag) (vs : List V) (H : Hp) (Q : VK) (z_3 : XK) : Prop
 | mk : ∀ (p : Addr) (as : List Addr) (ms : List Mark) (z : Nat),(vs = [.ref p,.int z])→(H p = some (.lst (as.map V.ref)))→(MRows H as ms)→(0 < ms.length)→((∀ r ∈ ms,r.length = z∧nonN r))→(Q (.bl true) H)→sp_law_marks_formed K vs H Q z_3
inductive sp_law_turn (K : PySem.W.Frag) (vs : List V) (H : Hp) (Q : VK) (z_3 : XK) : Prop
 | mk : ∀ (p pt pg pf pd : Addr) (ts gs : List Addr) (tk gv : List (List Int)) (fs : List Int) (ds : List Nat),(vs = [.ref p,.ref pd])→(PlanR H p pt pg pf ts gs tk gv fs)→(OkR fs.length tk gv fs)→(H pd = some (.lst (vints (zs ds))))→((∀ k ∈ ds,k < tk.length))→(∀ (q pn pu : Addr) (H' : Hp),Same H H'→H' q = some (.tup [.ref pn,.ref pu])→H' pn = some (.lst (vints (needL fs.length tk gv ds)))→H' pu = some (.lst (vints (gL fs.length tk gv ds)))→Q (.ref q) H')→sp_law_turn K vs H Q z_3
inductive sp_law_behind (K : PySem.W.Frag) (vs : List V) (H : Hp) (Q : VK) (z_3 : XK) : Prop
 | mk : ∀ (p pt pg pf pb : Addr) (ts gs : List Addr) (tk gv : List (List Int)) (fs bs : List Int) (a : Addr × Addr) (c : Blk2),(vs = [.ref p,.ref pb,.ref a.1])→(PlanR H p pt pg pf ts gs tk gv fs)→(OkR fs.length tk gv fs)→(H pb = some (.lst (vints bs)))→(bs.length = fs.length)→(BlkAt H a c)→(0 < c.1)→(c.1 < 2 ^ 600)→(c.2.length ≤ 64)→((∀ k ∈ c.2,k < tk.length))→((∀ i,i < fs.length→(needL fs.length tk gv (rep c.1 c.2)).getD i 0 ≤ bs.getD i 0))→(∀ (q : Addr) (H' : Hp),Same H H'→H' q = some (.lst (vints (add bs (gL fs.length tk gv (rep c.1 c.2)))))→Q (.ref q) H')→sp_law_behind K vs H Q z_3
inductive sp_law_end (K : PySem.W.Frag) (vs : List V) (H : Hp) (Q : VK) (z_3 : XK) : Prop
 | mk : ∀ (p pt pg pf pk : Addr) (ts gs : List Addr) (tk gv : List (List Int)) (fs e9 : List Int) (ps : List (Addr × Addr)) (bls : List Blk2),(vs = [.ref p,.ref pk])→(PlanR H p pt pg pf ts gs tk gv fs)→(OkR fs.length tk gv fs)→(H pk = some (.lst (fsts ps)))→(Blks H ps bls)→((∀ c ∈ bls,0 < c.1∧c.1 < 2 ^ 600∧c.2.length ≤ 64∧∀ k ∈ c.2,k < tk.length))→(Run fs.length tk gv fs bls e9)→(∀ (q : Addr) (H' : Hp),Same H H'→H' q = some (.lst (vints e9))→Q (.ref q) H')→sp_law_end K vs H Q z_3
inductive sp_mark_behind (C G : Addr) (K : PySem.W.Frag) (vs : List V) (H : Hp) (Q : VK) (E : XK) : Prop
 | mk : ∀ (x dx b d t g f pM pl : Addr) (ts gs am : List Addr) (N : NetV) (MS : List Mark) (bd : Nat) (lp : List Int), (vs = [.ref x, .ref pM, .int bd, .ref pl]) → (NetIn C H x dx b d t g f ts gs N) → (N.Ok) → (H pM = some (.lst (am.map V.ref))) → (MRows H am MS) → ((∀ m ∈ MS, m.length = N.bowls.length)) → (0 < MS.length) → (MS.length ≤ 66) → (bd < N.takes.length) → (H pl = some (.lst (vints lp))) → ((∀ m, stF N.takes N.gives MS ((bd : Int), lp) = some m → ∀ (p : Addr) (H' : Hp), H p = none → Same H H' → H' p = some (.lst (vmk m)) → Q (.ref p) H')) → ((stF N.takes N.gives MS ((bd : Int), lp) = none → ∀ (e : Addr) (H' : Hp), Same H H' → H e = none → H' e = some (.xd [("at", .int ((MS.length - 1 : Nat) : Int))]) → E (.ref G) (some e) H')) → sp_mark_behind C G K vs H Q E
inductive sp_branch_marks (C G : Addr) (K : PySem.W.Frag) (vs : List V) (H : Hp) (Q : VK) (E : XK) : Prop
 | mk : ∀ (x dx b d t g f pw : Addr) (ts gs as : List Addr) (N : NetV) (br : List (Int × List Int)), (vs = [.ref x, .ref pw]) → (NetIn C H x dx b d t g f ts gs N) → (N.Ok) → (H pw = some (.lst (as.map V.ref))) → (WRows H as br) → (BrOk N.takes.length 70 br) → ((∀ MS, bmF N.takes N.gives [N.first.map some] br = .inr MS → ∀ (q : Addr) (am : List Addr) (H' : Hp), H q = none → Same H H' → H' q = some (.lst (am.map V.ref)) → MRows H' am MS → am.Nodup → (∀ a ∈ am, H a = none) → (∀ m ∈ MS, m.length = N.bowls.length) → MS.length = br.length + 1 → Q (.ref q) H')) → ((∀ i, bmF N.takes N.gives [N.first.map some] br = .inl i → ∀ (e : Addr) (H' : Hp), Same H H' → H e = none → H' e = some (.xd [("at", .int ((i : Nat) : Int))]) → E (.ref G) (some e) H')) → sp_branch_marks C G K vs H Q E
inductive sp_legs_of (C : Addr) (K : PySem.W.Frag) (vs : List V) (H : Hp) (Q : VK) (z_3 : XK) : Prop
 | mk : ∀ (x dx b d t g f pw : Addr) (ts gs as : List Addr) (N : NetV) (br : List (Int × List Int)) (MS : List Mark),(vs = [.ref x,.ref pw])→(NetIn C H x dx b d t g f ts gs N)→(N.Ok)→(H pw = some (.lst (as.map V.ref)))→(WRows H as br)→(BrOk N.takes.length 70 br)→(bmF N.takes N.gives [N.first.map some] br = .inr MS)→(∀ (q : Addr) (al : List Addr) (ls : List Leg) (H' : Hp),H q = none→Same H H'→H' q = some (.lst (al.map V.ref))→LegRows H H' q al ls→ls.length ≤ 70→LegsC N.bowls.length N.takes N.gives br.length (N.first.map some) ls (MS.getD br.length [])→Q (.ref q) H')→sp_legs_of C K vs H Q z_3
abbrev sp_plus : PySem.W.Frag→Sp:=sp_zipd (fun i j=>i + j)
inductive sp_times (K : PySem.W.Frag) (vs : List V) (H : Hp) (Q : VK) (z_3 : XK) : Prop
 | mk : ∀ (m : Int) (b : Addr) (ys : List Int),(vs = [.int m,.ref b])→(SqL K H b (vints ys))→(ys.length ≤ 70)→(m.natAbs < 2 ^ 1000)→((∀ y ∈ ys,y.natAbs < 2 ^ 1000))→(∀ (p : Addr) (H' : Hp),H p = none→Same H H'→H' p = some (.lst (vints (ys.map fun y=>m * y)))→Q (.ref p) H')→sp_times K vs H Q z_3
inductive sp_tally_gain (C : Addr) (K : PySem.W.Frag) (vs : List V) (H : Hp) (Q : VK) (z_3 : XK) : Prop
 | mk : ∀ (x dx b d t g f c : Addr) (ts gs : List Addr) (N : NetV) (ms : List Int),(vs = [.ref x,.ref c])→(NetIn C H x dx b d t g f ts gs N)→(N.Ok)→(SqL K H c (vints ms))→(ms.length = N.takes.length)→((∀ m ∈ ms,m.natAbs < 10 ^ 70))→(∀ (p : Addr) (H' : Hp),H p = none→Same H H'→H' p = some (.lst (vints (tgU N.bowls.length N.takes N.gives ms ms.length)))→Q (.ref p) H')→sp_tally_gain C K vs H Q z_3
inductive sp_tally_of (C : Addr) (K : PySem.W.Frag) (vs : List V) (H : Hp) (Q : VK) (z_3 : XK) : Prop
 | mk : ∀ (x dx b d t g f c : Addr) (ts gs : List Addr) (N : NetV) (ds : List Nat),(vs = [.ref x,.ref c])→(NetIn C H x dx b d t g f ts gs N)→(N.Ok)→(SqL K H c (vints (zs ds)))→(∀ (p : Addr) (H' : Hp),H p = none→Same H H'→H' p = some (.lst (vints (cntL N.doors.length ds)))→Q (.ref p) H')→sp_tally_of C K vs H Q z_3
inductive sp_gain_of (C : Addr) (K : PySem.W.Frag) (vs : List V) (H : Hp) (Q : VK) (z_3 : XK) : Prop
 | mk : ∀ (x dx b d t g f c : Addr) (ts gs : List Addr) (N : NetV) (ds : List Nat),(vs = [.ref x,.ref c])→(NetIn C H x dx b d t g f ts gs N)→(N.Ok)→(SqL K H c (vints (zs ds)))→(ds.length ≤ 100000)→(∀ (p : Addr) (H' : Hp),H p = none→Same H H'→H' p = some (.lst (vints (tgU N.bowls.length N.takes N.gives (cntL N.doors.length ds) N.takes.length)))→Q (.ref p) H')→sp_gain_of C K vs H Q z_3
inductive sp_often_enough (C : Addr) (K : PySem.W.Frag) (vs : List V) (H : Hp) (Q : VK) (z_3 : XK) : Prop
 | mk : ∀ (x dx b d t g f pa pd pw : Addr) (ts gs : List Addr) (N : NetV) (A : Mark) (ds : List Nat) (w : List Int) (M : Int),(vs = [.ref x,.ref pa,.ref pd,.ref pw])→(NetIn C H x dx b d t g f ts gs N)→(N.Ok)→(H pa = some (.lst (vmk A)))→(H pd = some (.lst (vints (zs ds))))→(H pw = some (.lst (vints w)))→(A.length = N.bowls.length)→(w.length = N.bowls.length)→(nonN A)→(ds.length ≤ 64)→((∀ k ∈ ds,k < N.takes.length))→(0 ≤ M)→((∀ i,i < N.bowls.length→w.getD i 0 ≤ M))→(∀ c : Nat,(c : Int) ≤ M→(∀ i,i < N.bowls.length→∀ a,A.getD i none = some a→0 < (gL N.bowls.length N.takes N.gives ds).getD i 0→w.getD i 0 ≤ a + (c : Int) * (gL N.bowls.length N.takes N.gives ds).getD i 0)→∀ H',Same H H'→Q (.int (c : Int)) H')→sp_often_enough C K vs H Q z_3
abbrev sp_higher : PySem.W.Frag→Sp:=sp_zipd mx
inductive sp_need_ahead (K : PySem.W.Frag) (vs : List V) (H : Hp) (Q : VK) (z_3 : XK) : Prop
 | mk : ∀ (a b c : Addr) (xs ys zs : List Int),(vs = [.ref a,.ref b,.ref c])→(SqL K H a (vints xs))→(SqL K H b (vints ys))→(SqL K H c (vints zs))→(xs.length = ys.length)→(xs.length = zs.length)→(xs.length ≤ 70)→(∀ (p : Addr) (H' : Hp),H p = none→Same H H'→H' p = some (.lst (vints (hi2 xs (L2.sub zs ys))))→Q (.ref p) H')→sp_need_ahead K vs H Q z_3
inductive sp_need_of (C : Addr) (K : PySem.W.Frag) (vs : List V) (H : Hp) (Q : VK) (z_3 : XK) : Prop
 | mk : ∀ (x dx b d t g f c : Addr) (ts gs : List Addr) (N : NetV) (ds : List Nat),(vs = [.ref x,.ref c])→(NetIn C H x dx b d t g f ts gs N)→(N.Ok)→(SqL K H c (vints (zs ds)))→((∀ k ∈ ds,k < N.takes.length))→(∀ (p : Addr) (H' : Hp),H p = none→Same H H'→H' p = some (.lst (vints (needL N.bowls.length N.takes N.gives ds)))→Q (.ref p) H')→sp_need_of C K vs H Q z_3
inductive sp_need_of_one (C : Addr) (K : PySem.W.Frag) (vs : List V) (H : Hp) (Q : VK) (z_3 : XK) : Prop
 | mk : ∀ (x dx b d t g f : Addr) (ts gs : List Addr) (N : NetV) (p : Addr × Addr) (bl : Blk2),(vs = [.ref x,.ref p.1])→(NetIn C H x dx b d t g f ts gs N)→(N.Ok)→(BlkAt H p bl)→(bl.1 < 2 ^ 600)→(bl.2.length ≤ 1000)→((∀ k ∈ bl.2,k < N.takes.length))→(∀ (q : Addr) (H' : Hp),H q = none→Same H H'→H' q = some (.lst (vints (needL N.bowls.length N.takes N.gives (rep bl.1 bl.2))))→Q (.ref q) H')→sp_need_of_one C K vs H Q z_3
inductive sp_gain_of_one (C : Addr) (K : PySem.W.Frag) (vs : List V) (H : Hp) (Q : VK) (z_3 : XK) : Prop
 | mk : ∀ (x dx b d t g f : Addr) (ts gs : List Addr) (N : NetV) (p : Addr × Addr) (bl : Blk2),(vs = [.ref x,.ref p.1])→(NetIn C H x dx b d t g f ts gs N)→(N.Ok)→(BlkAt H p bl)→(bl.1 < 2 ^ 600)→(bl.2.length ≤ 1000)→((∀ k ∈ bl.2,k < N.takes.length))→(∀ (q : Addr) (H' : Hp),H q = none→Same H H'→H' q = some (.lst (vints (gL N.bowls.length N.takes N.gives (rep bl.1 bl.2))))→Q (.ref q) H')→sp_gain_of_one C K vs H Q z_3
inductive sp_block_need (C : Addr) (K : PySem.W.Frag) (vs : List V) (H : Hp) (Q : VK) (z_3 : XK) : Prop
 | mk : ∀ (x dx b d t g f pb : Addr) (ts gs : List Addr) (N : NetV) (ps : List (Addr × Addr)) (bls : List Blk2),(vs = [.ref x,.ref pb])→(NetIn C H x dx b d t g f ts gs N)→(N.Ok)→(SqL K H pb (fsts ps))→(Blks H ps bls)→((∀ c ∈ bls,c.1 < 2 ^ 600∧c.2.length ≤ 1000∧∀ k ∈ c.2,k < N.takes.length))→(∀ (q : Addr) (H' : Hp),H q = none→Same H H'→H' q = some (.lst (vints (needL N.bowls.length N.takes N.gives (laid bls))))→Q (.ref q) H')→sp_block_need C K vs H Q z_3
inductive sp_block_gain (C : Addr) (K : PySem.W.Frag) (vs : List V) (H : Hp) (Q : VK) (z_3 : XK) : Prop
 | mk : ∀ (x dx b d t g f pb : Addr) (ts gs : List Addr) (N : NetV) (ps : List (Addr × Addr)) (bls : List Blk2),(vs = [.ref x,.ref pb])→(NetIn C H x dx b d t g f ts gs N)→(N.Ok)→(SqL K H pb (fsts ps))→(Blks H ps bls)→((∀ c ∈ bls,c.1 < 2 ^ 600∧c.2.length ≤ 1000∧∀ k ∈ c.2,k < N.takes.length))→(∀ (q : Addr) (H' : Hp),H q = none→Same H H'→H' q = some (.lst (vints (gL N.bowls.length N.takes N.gives (laid bls))))→Q (.ref q) H')→sp_block_gain C K vs H Q z_3
inductive sp_pump (C : Addr) (K : PySem.W.Frag) (vs : List V) (H : Hp) (Q : VK) (z_3 : XK) : Prop
 | mk : ∀ (x dx b d t g f pw : Addr) (ts gs as : List Addr) (N : NetV) (br : List (Int × List Int)) (MS : List Mark) (y : Int),(vs = [.ref x,.ref pw,.int y])→(NetIn C H x dx b d t g f ts gs N)→(N.Ok)→(H pw = some (.lst (as.map V.ref)))→(WRows H as br)→(BrOk N.takes.length 70 br)→(bmF N.takes N.gives [N.first.map some] br = .inr MS)→(0 ≤ y)→(y < 10 ^ 60)→(∀ (q : Addr) (ps : List (Addr × Addr)) (bls : List Blk2) (e : List Int) (H' : Hp),H q = none→Same H H'→H' q = some (.lst (fsts ps))→Blks H' ps bls→(∀ c ∈ bls,0 < c.1∧c.1 < 2 ^ 600∧c.2.length ≤ 64∧∀ k ∈ c.2,k < N.takes.length)→Run N.bowls.length N.takes N.gives N.first bls e→e.length = N.bowls.length→MAt N.bowls.length (MS.getD br.length []) (List.replicate N.bowls.length y) e→Q (.ref q) H')→sp_pump C K vs H Q z_3
inductive sp_way_to (C : Addr) (K : PySem.W.Frag) (vs : List V) (H : Hp) (Q : VK) (z_3 : XK) : Prop
 | mk : ∀ (y dy m p c l a : Addr) (ms ls : List Addr) (w : TV) (n : Nat),(vs = [.ref y,.int n])→(TIn C H y dy m p c l a ms ls w)→(PV w.par)→(n < w.marks.length)→(w.marks.length ≤ 60)→(w.par.length = w.marks.length)→(w.com.length = w.marks.length)→(w.loops.length = w.marks.length)→((∀ q ∈ (pth w.par n).drop 1,q < w.marks.length∧(w.loops.getD q []).length ≤ w.marks.length∧∀ x ∈ w.loops.getD q [],x ∈ zI (pth w.par n)))→(∀ (pw : Addr) (as : List Addr) (H' : Hp),Same H H'→H' pw = some (.lst (as.map V.ref))→WRows H' as (wayB w n)→Q (.ref pw) H')→sp_way_to C K vs H Q z_3
inductive sp_law_passed (C CT : Addr) (K : PySem.W.Frag) (vs : List V) (H : Hp) (Q : VK) (z_3 : XK) : Prop
 | mk : ∀ (p pt pg pf x dx nb nd nt ng nf y dy m p' c l a qm : Addr) (ts gs nts ngs ms ls : List Addr) (tk gv : List (List Int)) (fs : List Int) (w : TV) (room : Nat) (r : Mark) (v : Int),(vs = [.ref p,.ref x,.ref y,.ref qm,.int v])→(PlanR H p pt pg pf ts gs tk gv fs)→(OkR fs.length tk gv fs)→(NetIn C H x dx nb nd nt ng nf nts ngs (netR tk gv fs))→((netR tk gv fs).Ok)→(TIn CT H y dy m p' c l a ms ls w)→(TGood tk gv fs fs.length room w w.marks.length w.marks.length)→(room ≤ 60)→(H qm = some (.lst (vmk r)))→(r ∈ w.marks)→(0 ≤ v)→(v < 10 ^ 60)→(∀ H',Same H H'→Q (.bl true) H')→sp_law_passed C CT K vs H Q z_3
inductive sp_law (K : PySem.W.Frag) (vs : List V) (H : Hp) (Q : VK) (z_3 : XK) : Prop
 | mk : ∀ (a : Addr) (ns : List Int),(vs = [.ref a])→(SqL K H a (vints ns))→(ns.length ≤ 63)→(∀ H',Q (.bl true) H')→sp_law K vs H Q z_3
theorem kx1 (CX : CXT) (P : Program) (w : World) (K : PySem.W.Frag) (mg : Str→Option Value) (base : Heap) (N : List Str) (q : Str) (sc : Scope) (f : Addr) (cd : Value) (A : Around) (outer : List Env) (s : Shared) (H : Hp) (E : XK) : (cxOf CX P w K mg base N q sc f cd A outer s H E).K = K:=rfl
theorem kx2 (X : Cx) (N : List Str) (sc : Scope) (B : Blk) : (cxComp X N sc B).K = X.K:=rfl
theorem kx3 (X : Cx) (N : List Str) (sc : Scope) (B : Blk) : (cxCompC X N sc B).K = X.K:=rfl
set_option genInjectivity false in
set_option genSizeOf false in
structure Adr where
 f_is_name : Addr
 f_refuse_bad_names : Addr
 f_refuse_bad_bags : Addr
 f_Net_init : Addr
 f_Tree_init : Addr
 f_law_made : Addr
 f_is_no_more : Addr
 f_under : Addr
 f_first_above : Addr
 f_may_mark : Addr
 f_upward : Addr
 f_raised : Addr
 f_put_node : Addr
 f_NoGo_init : Addr
 f_refuse_unlike : Addr
 f_less : Addr
 f_gain : Addr
 f_mark_after : Addr
 f_look_at : Addr
 f_grown : Addr
 f_law_grown : Addr
 f_law_tree_of : Addr
 f_law_cell : Addr
 f_law_num : Addr
 f_law_net : Addr
 f_is_outermost : Addr
 f_outermost : Addr
 f_peak_marks : Addr
 f_fence : Addr
 f_law_whole : Addr
 f_law_marks_formed : Addr
 f_law_turn : Addr
 f_law_behind : Addr
 f_law_end : Addr
 f_mark_behind : Addr
 f_branch_marks : Addr
 f_legs_of : Addr
 f_plus : Addr
 f_times : Addr
 f_tally_gain : Addr
 f_tally_of : Addr
 f_gain_of : Addr
 f_often_enough : Addr
 f_higher : Addr
 f_need_ahead : Addr
 f_need_of : Addr
 f_need_of_one : Addr
 f_gain_of_one : Addr
 f_block_need : Addr
 f_block_gain : Addr
 f_pump : Addr
 f_way_to : Addr
 f_law_passed : Addr
 f_law : Addr
 C_Net : Addr
 C_Tree : Addr
 C_HallError : Addr
 C_TooWide : Addr
 C_NoGo : Addr
set_option genInjectivity false in
set_option genSizeOf false in
structure Fds where
 d_is_name : FuncData
 d_refuse_bad_names : FuncData
 d_refuse_bad_bags : FuncData
 d_Net_init : FuncData
 d_Tree_init : FuncData
 d_law_made : FuncData
 d_is_no_more : FuncData
 d_under : FuncData
 d_first_above : FuncData
 d_may_mark : FuncData
 d_upward : FuncData
 d_raised : FuncData
 d_put_node : FuncData
 d_NoGo_init : FuncData
 d_refuse_unlike : FuncData
 d_less : FuncData
 d_gain : FuncData
 d_mark_after : FuncData
 d_look_at : FuncData
 d_grown : FuncData
 d_law_grown : FuncData
 d_law_tree_of : FuncData
 d_law_cell : FuncData
 d_law_num : FuncData
 d_law_net : FuncData
 d_is_outermost : FuncData
 d_outermost : FuncData
 d_peak_marks : FuncData
 d_fence : FuncData
 d_law_whole : FuncData
 d_law_marks_formed : FuncData
 d_law_turn : FuncData
 d_law_behind : FuncData
 d_law_end : FuncData
 d_mark_behind : FuncData
 d_branch_marks : FuncData
 d_legs_of : FuncData
 d_plus : FuncData
 d_times : FuncData
 d_tally_gain : FuncData
 d_tally_of : FuncData
 d_gain_of : FuncData
 d_often_enough : FuncData
 d_higher : FuncData
 d_need_ahead : FuncData
 d_need_of : FuncData
 d_need_of_one : FuncData
 d_gain_of_one : FuncData
 d_block_need : FuncData
 d_block_gain : FuncData
 d_pump : FuncData
 d_way_to : FuncData
 d_law_passed : FuncData
 d_law : FuncData
structure Txt (K : PySem.W.Frag) (mg : Str→Option Value) (AR : Adr) (FR : Fds) : Prop where
 F_is_name : Fun K "is_name" "is_name" s_is_name AR.f_is_name FR.d_is_name
 m_is_name : mg "is_name" = some (.ref AR.f_is_name)
 b_is_name : Binds K FR.d_is_name ["word"] []
 F_refuse_bad_names : Fun K "refuse_bad_names" "refuse_bad_names" s_refuse_bad_names AR.f_refuse_bad_names FR.d_refuse_bad_names
 m_refuse_bad_names : mg "refuse_bad_names" = some (.ref AR.f_refuse_bad_names)
 b_refuse_bad_names : Binds K FR.d_refuse_bad_names ["names", "least", "most"] []
 F_refuse_bad_bags : Fun K "refuse_bad_bags" "refuse_bad_bags" s_refuse_bad_bags AR.f_refuse_bad_bags FR.d_refuse_bad_bags
 m_refuse_bad_bags : mg "refuse_bad_bags" = some (.ref AR.f_refuse_bad_bags)
 b_refuse_bad_bags : Binds K FR.d_refuse_bad_bags ["bags", "many", "width"] []
 F_Net_init : Fun K "__init__" "Net.__init__" s_Net_init AR.f_Net_init FR.d_Net_init
 b_Net_init : Binds K FR.d_Net_init ["self", "bowls", "doors", "takes", "gives", "first"] []
 F_Tree_init : Fun K "__init__" "Tree.__init__" s_Tree_init AR.f_Tree_init FR.d_Tree_init
 b_Tree_init : Binds K FR.d_Tree_init ["self", "first"] []
 F_law_made : Fun K "_law_made" "_law_made" s_law_made AR.f_law_made FR.d_law_made
 m_law_made : mg "_law_made" = some (.ref AR.f_law_made)
 b_law_made : Binds K FR.d_law_made ["plan"] []
 F_is_no_more : Fun K "is_no_more" "is_no_more" s_is_no_more AR.f_is_no_more FR.d_is_no_more
 m_is_no_more : mg "is_no_more" = some (.ref AR.f_is_no_more)
 b_is_no_more : Binds K FR.d_is_no_more ["number", "bound"] []
 F_under : Fun K "under" "under" s_under AR.f_under FR.d_under
 m_under : mg "under" = some (.ref AR.f_under)
 b_under : Binds K FR.d_under ["low", "high"] []
 F_first_above : Fun K "first_above" "first_above" s_first_above AR.f_first_above FR.d_first_above
 m_first_above : mg "first_above" = some (.ref AR.f_first_above)
 b_first_above : Binds K FR.d_first_above ["tree", "node"] []
 F_may_mark : Fun K "may_mark" "may_mark" s_may_mark AR.f_may_mark FR.d_may_mark
 m_may_mark : mg "may_mark" = some (.ref AR.f_may_mark)
 b_may_mark : Binds K FR.d_may_mark ["net", "mark", "door"] []
 F_upward : Fun K "upward" "upward" s_upward AR.f_upward FR.d_upward
 m_upward : mg "upward" = some (.ref AR.f_upward)
 b_upward : Binds K FR.d_upward ["tree", "node"] []
 F_raised : Fun K "raised" "raised" s_raised AR.f_raised FR.d_raised
 m_raised : mg "raised" = some (.ref AR.f_raised)
 b_raised : Binds K FR.d_raised ["low", "mark"] []
 F_put_node : Fun K "put_node" "put_node" s_put_node AR.f_put_node FR.d_put_node
 m_put_node : mg "put_node" = some (.ref AR.f_put_node)
 b_put_node : Binds K FR.d_put_node ["tree", "parent", "door", "mark", "room"] []
 F_NoGo_init : Fun K "__init__" "NoGo.__init__" s_NoGo_init AR.f_NoGo_init FR.d_NoGo_init
 b_NoGo_init : Binds K FR.d_NoGo_init ["self", "words", "at"] []
 F_refuse_unlike : Fun K "refuse_unlike" "refuse_unlike" s_refuse_unlike AR.f_refuse_unlike FR.d_refuse_unlike
 m_refuse_unlike : mg "refuse_unlike" = some (.ref AR.f_refuse_unlike)
 b_refuse_unlike : Binds K FR.d_refuse_unlike ["ones", "others"] []
 F_less : Fun K "less" "less" s_less AR.f_less FR.d_less
 m_less : mg "less" = some (.ref AR.f_less)
 b_less : Binds K FR.d_less ["ones", "others"] []
 F_gain : Fun K "gain" "gain" s_gain AR.f_gain FR.d_gain
 m_gain : mg "gain" = some (.ref AR.f_gain)
 b_gain : Binds K FR.d_gain ["net", "door"] []
 F_mark_after : Fun K "mark_after" "mark_after" s_mark_after AR.f_mark_after FR.d_mark_after
 m_mark_after : mg "mark_after" = some (.ref AR.f_mark_after)
 b_mark_after : Binds K FR.d_mark_after ["net", "mark", "door"] []
 F_look_at : Fun K "look_at" "look_at" s_look_at AR.f_look_at FR.d_look_at
 m_look_at : mg "look_at" = some (.ref AR.f_look_at)
 b_look_at : Binds K FR.d_look_at ["net", "tree", "node", "room"] []
 F_grown : Fun K "grown" "grown" s_grown AR.f_grown FR.d_grown
 m_grown : mg "grown" = some (.ref AR.f_grown)
 b_grown : Binds K FR.d_grown ["net", "room"] []
 F_law_grown : Fun K "_law_grown" "_law_grown" s_law_grown AR.f_law_grown FR.d_law_grown
 m_law_grown : mg "_law_grown" = some (.ref AR.f_law_grown)
 b_law_grown : Binds K FR.d_law_grown ["net", "room"] []
 F_law_tree_of : Fun K "_law_tree_of" "_law_tree_of" s_law_tree_of AR.f_law_tree_of FR.d_law_tree_of
 m_law_tree_of : mg "_law_tree_of" = some (.ref AR.f_law_tree_of)
 b_law_tree_of : Binds K FR.d_law_tree_of ["plan", "room"] []
 F_law_cell : Fun K "_law_cell" "_law_cell" s_law_cell AR.f_law_cell FR.d_law_cell
 m_law_cell : mg "_law_cell" = some (.ref AR.f_law_cell)
 b_law_cell : Binds K FR.d_law_cell ["script", "k"] []
 F_law_num : Fun K "_law_num" "_law_num" s_law_num AR.f_law_num FR.d_law_num
 m_law_num : mg "_law_num" = some (.ref AR.f_law_num)
 b_law_num : Binds K FR.d_law_num ["script", "k"] []
 F_law_net : Fun K "_law_net" "_law_net" s_law_net AR.f_law_net FR.d_law_net
 m_law_net : mg "_law_net" = some (.ref AR.f_law_net)
 b_law_net : Binds K FR.d_law_net ["script"] []
 F_is_outermost : Fun K "is_outermost" "is_outermost" s_is_outermost AR.f_is_outermost FR.d_is_outermost
 m_is_outermost : mg "is_outermost" = some (.ref AR.f_is_outermost)
 b_is_outermost : Binds K FR.d_is_outermost ["row", "rows", "lies"] []
 F_outermost : Fun K "outermost" "outermost" s_outermost AR.f_outermost FR.d_outermost
 m_outermost : mg "outermost" = some (.ref AR.f_outermost)
 b_outermost : Binds K FR.d_outermost ["rows", "lies"] []
 F_peak_marks : Fun K "peak_marks" "peak_marks" s_peak_marks AR.f_peak_marks FR.d_peak_marks
 m_peak_marks : mg "peak_marks" = some (.ref AR.f_peak_marks)
 b_peak_marks : Binds K FR.d_peak_marks ["marks"] []
 F_fence : Fun K "fence" "fence" s_fence AR.f_fence FR.d_fence
 m_fence : mg "fence" = some (.ref AR.f_fence)
 b_fence : Binds K FR.d_fence ["tree"] []
 F_law_whole : Fun K "_law_whole" "_law_whole" s_law_whole AR.f_law_whole FR.d_law_whole
 m_law_whole : mg "_law_whole" = some (.ref AR.f_law_whole)
 b_law_whole : Binds K FR.d_law_whole ["found"] []
 F_law_marks_formed : Fun K "_law_marks_formed" "_law_marks_formed" s_law_marks_formed AR.f_law_marks_formed FR.d_law_marks_formed
 m_law_marks_formed : mg "_law_marks_formed" = some (.ref AR.f_law_marks_formed)
 b_law_marks_formed : Binds K FR.d_law_marks_formed ["marks", "width"] []
 F_law_turn : Fun K "_law_turn" "_law_turn" s_law_turn AR.f_law_turn FR.d_law_turn
 m_law_turn : mg "_law_turn" = some (.ref AR.f_law_turn)
 b_law_turn : Binds K FR.d_law_turn ["plan", "doors"] []
 F_law_behind : Fun K "_law_behind" "_law_behind" s_law_behind AR.f_law_behind FR.d_law_behind
 m_law_behind : mg "_law_behind" = some (.ref AR.f_law_behind)
 b_law_behind : Binds K FR.d_law_behind ["plan", "beads", "block"] []
 F_law_end : Fun K "_law_end" "_law_end" s_law_end AR.f_law_end FR.d_law_end
 m_law_end : mg "_law_end" = some (.ref AR.f_law_end)
 b_law_end : Binds K FR.d_law_end ["plan", "blocks"] []
 F_mark_behind : Fun K "mark_behind" "mark_behind" s_mark_behind AR.f_mark_behind FR.d_mark_behind
 m_mark_behind : mg "mark_behind" = some (.ref AR.f_mark_behind)
 b_mark_behind : Binds K FR.d_mark_behind ["net", "marks", "door", "loops"] []
 F_branch_marks : Fun K "branch_marks" "branch_marks" s_branch_marks AR.f_branch_marks FR.d_branch_marks
 m_branch_marks : mg "branch_marks" = some (.ref AR.f_branch_marks)
 b_branch_marks : Binds K FR.d_branch_marks ["net", "branch"] []
 F_legs_of : Fun K "legs_of" "legs_of" s_legs_of AR.f_legs_of FR.d_legs_of
 m_legs_of : mg "legs_of" = some (.ref AR.f_legs_of)
 b_legs_of : Binds K FR.d_legs_of ["net", "branch"] []
 F_plus : Fun K "plus" "plus" s_plus AR.f_plus FR.d_plus
 m_plus : mg "plus" = some (.ref AR.f_plus)
 b_plus : Binds K FR.d_plus ["ones", "others"] []
 F_times : Fun K "times" "times" s_times AR.f_times FR.d_times
 m_times : mg "times" = some (.ref AR.f_times)
 b_times : Binds K FR.d_times ["many", "ones"] []
 F_tally_gain : Fun K "tally_gain" "tally_gain" s_tally_gain AR.f_tally_gain FR.d_tally_gain
 m_tally_gain : mg "tally_gain" = some (.ref AR.f_tally_gain)
 b_tally_gain : Binds K FR.d_tally_gain ["net", "tally"] []
 F_tally_of : Fun K "tally_of" "tally_of" s_tally_of AR.f_tally_of FR.d_tally_of
 m_tally_of : mg "tally_of" = some (.ref AR.f_tally_of)
 b_tally_of : Binds K FR.d_tally_of ["net", "doors"] []
 F_gain_of : Fun K "gain_of" "gain_of" s_gain_of AR.f_gain_of FR.d_gain_of
 m_gain_of : mg "gain_of" = some (.ref AR.f_gain_of)
 b_gain_of : Binds K FR.d_gain_of ["net", "doors"] []
 F_often_enough : Fun K "often_enough" "often_enough" s_often_enough AR.f_often_enough FR.d_often_enough
 m_often_enough : mg "often_enough" = some (.ref AR.f_often_enough)
 b_often_enough : Binds K FR.d_often_enough ["net", "ahead", "doors", "wanted"] []
 F_higher : Fun K "higher" "higher" s_higher AR.f_higher FR.d_higher
 m_higher : mg "higher" = some (.ref AR.f_higher)
 b_higher : Binds K FR.d_higher ["ones", "others"] []
 F_need_ahead : Fun K "need_ahead" "need_ahead" s_need_ahead AR.f_need_ahead FR.d_need_ahead
 m_need_ahead : mg "need_ahead" = some (.ref AR.f_need_ahead)
 b_need_ahead : Binds K FR.d_need_ahead ["need", "gained", "goal"] []
 F_need_of : Fun K "need_of" "need_of" s_need_of AR.f_need_of FR.d_need_of
 m_need_of : mg "need_of" = some (.ref AR.f_need_of)
 b_need_of : Binds K FR.d_need_of ["net", "doors"] []
 F_need_of_one : Fun K "need_of_one" "need_of_one" s_need_of_one AR.f_need_of_one FR.d_need_of_one
 m_need_of_one : mg "need_of_one" = some (.ref AR.f_need_of_one)
 b_need_of_one : Binds K FR.d_need_of_one ["net", "block"] []
 F_gain_of_one : Fun K "gain_of_one" "gain_of_one" s_gain_of_one AR.f_gain_of_one FR.d_gain_of_one
 m_gain_of_one : mg "gain_of_one" = some (.ref AR.f_gain_of_one)
 b_gain_of_one : Binds K FR.d_gain_of_one ["net", "block"] []
 F_block_need : Fun K "block_need" "block_need" s_block_need AR.f_block_need FR.d_block_need
 m_block_need : mg "block_need" = some (.ref AR.f_block_need)
 b_block_need : Binds K FR.d_block_need ["net", "blocks"] []
 F_block_gain : Fun K "block_gain" "block_gain" s_block_gain AR.f_block_gain FR.d_block_gain
 m_block_gain : mg "block_gain" = some (.ref AR.f_block_gain)
 b_block_gain : Binds K FR.d_block_gain ["net", "blocks"] []
 F_pump : Fun K "pump" "pump" s_pump AR.f_pump FR.d_pump
 m_pump : mg "pump" = some (.ref AR.f_pump)
 b_pump : Binds K FR.d_pump ["net", "branch", "many"] []
 F_way_to : Fun K "way_to" "way_to" s_way_to AR.f_way_to FR.d_way_to
 m_way_to : mg "way_to" = some (.ref AR.f_way_to)
 b_way_to : Binds K FR.d_way_to ["tree", "node"] []
 F_law_passed : Fun K "_law_passed" "_law_passed" s_law_passed AR.f_law_passed FR.d_law_passed
 m_law_passed : mg "_law_passed" = some (.ref AR.f_law_passed)
 b_law_passed : Binds K FR.d_law_passed ["plan", "net", "tree", "mark", "many"] []
 F_law : Fun K "law" "law" s_law AR.f_law FR.d_law
 m_law : mg "law" = some (.ref AR.f_law)
 b_law : Binds K FR.d_law ["script"] []
 z_len : mg "len" = none
 z_all : mg "all" = none
 z_set : mg "set" = none
 z_list : mg "list" = none
 z_zip : mg "zip" = none
 z_range : mg "range" = none
 z_isinstance : mg "isinstance" = none
 z_int : mg "int" = none
 z_bool : mg "bool" = none
 z_max : mg "max" = none
 z_tuple : mg "tuple" = none
 z_enumerate : mg "enumerate" = none
 z_reversed : mg "reversed" = none
 cl_Net : Cls K AR.C_Net
 mC_Net : mg "Net" = some (.ref AR.C_Net)
 mk_Net : Mk K AR.C_Net AR.f_Net_init
 n_Net_bowls : NoAttr K AR.C_Net "bowls"
 n_Net_doors : NoAttr K AR.C_Net "doors"
 n_Net_takes : NoAttr K AR.C_Net "takes"
 n_Net_gives : NoAttr K AR.C_Net "gives"
 n_Net_first : NoAttr K AR.C_Net "first"
 cl_Tree : Cls K AR.C_Tree
 mC_Tree : mg "Tree" = some (.ref AR.C_Tree)
 mk_Tree : Mk K AR.C_Tree AR.f_Tree_init
 n_Tree_marks : NoAttr K AR.C_Tree "marks"
 n_Tree_parents : NoAttr K AR.C_Tree "parents"
 n_Tree_comers : NoAttr K AR.C_Tree "comers"
 n_Tree_loops : NoAttr K AR.C_Tree "loops"
 n_Tree_above : NoAttr K AR.C_Tree "above"
 mC_HallError : mg "HallError" = some (.ref AR.C_HallError)
 ec_HallError : ecIn K AR.C_HallError excMro = true
 xp_HallError : XPlain K AR.C_HallError excMro
 mC_TooWide : mg "TooWide" = some (.ref AR.C_TooWide)
 ec_TooWide : ecIn K AR.C_TooWide (.ref AR.C_HallError :: excMro) = true
 xp_TooWide : XPlain K AR.C_TooWide (.ref AR.C_HallError :: excMro)
 mC_NoGo : mg "NoGo" = some (.ref AR.C_NoGo)
 ec_NoGo : ecIn K AR.C_NoGo (.ref AR.C_HallError :: excMro) = true
 xs_NoGo : XSet K AR.C_NoGo
 xn_NoGo : XInit K AR.C_NoGo (.ref AR.C_HallError :: excMro) AR.f_NoGo_init
 xa_NoGo_at : NoAttr K AR.C_NoGo "at"
 xb_HallError : XBase K AR.C_HallError
 c_MOST_SIGNS : ∃ t, mg "MOST_SIGNS" = some (.int 8 t)
 c_MOST_BEADS : ∃ t, mg "MOST_BEADS" = some (.int 1000000000 t)
 c_LEAST_BOWLS : ∃ t, mg "LEAST_BOWLS" = some (.int 1 t)
 c_MOST_BOWLS : ∃ t, mg "MOST_BOWLS" = some (.int 6 t)
 c_MOST_DOORS : ∃ t, mg "MOST_DOORS" = some (.int 8 t)
section
variable {P : Program} {w : World} {K : PySem.W.Frag} {mg : Str→Option Value} {base : Heap} {AR : Adr} {FR : Fds}
theorem sc_is_name : FnScope ["word"] ["word"] (defScope s_is_name) := ⟨rfl, rfl, rfl, by decide +kernel, rfl, by decide +kernel, by decide +kernel⟩
set_option maxHeartbeats 4000000 in
theorem ok_is_name (T : Txt K mg AR FR) : FnOk P w K mg base CX0 1 AR.f_is_name FR.d_is_name ["word"] (sp_is_name K) := by
 obtain ⟨_,cc_MOST_SIGNS⟩:=T.c_MOST_SIGNS
 refine T.F_is_name.ok sc_is_name (fun vs H Q E h=>?_) (fun cdv A outer s H vs Q E hr h=>?_)
 ·obtain ⟨x,rfl,hx,hz,hQ⟩:=h
  rfl
 ·obtain ⟨x,rfl,hx,hz,hQ⟩:=h
  refine ⟨_, (pss_one (ps_ret (pe_and (pe_chain op_le op_le pe_int (pe_callB call_len_str (by rfl) T.z_len bt_len (pa_cons (pv 0) pa_nil)) (pe_glob (v := .int 8) (by rfl) cc_MOST_SIGNS ⟨_, rfl⟩)) (pe_one (pe_callB (call_all_list rfl) (by rfl) T.z_all bt_all (pa_cons (pe_comp (N' := ["sign"]) (nt := 1) (caps := []) _ _ (CompScope.of (by kernel_rfl)) (pi_str (pv 0)) (fun _ => (pg_nameC (i := 0) ["sign"] (by decide +kernel) (by rfl))) (fun _ => pts_nil) (fun _ => (pe_chain op_le_str op_le_str pe_str (pv 0) pe_str))) pa_nil)))))), ?_⟩
  try dsimp only [kx1,kx2,kx3,Cx.nox,Cx.wish]
  have hcs : x.cps.size = x.length:=rfl
  refine ⟨_,rfl,x,rfl,Nat.le_trans hz (by decide),_,_,rfl,rfl,_,rfl,?_⟩
  have key : ∀ (k : Bool) (H' : Hp),Same H H'→okName x = k→Q (.bl k) H':=fun k H' S e=>e ▸ hQ H' S
  refine iteD (fun h1=>?_) (fun h1=>?_)
  ·refine ⟨_,_,rfl,rfl,_,rfl,?_⟩
   refine iteD (fun h8=>?_) (fun h8=>?_)
   ·refine ⟨_,rfl,x,rfl,hx,?_⟩
    refine comp_strP (fun i zs σ H2=>(∃ v,σ = [v])∧Same H H2∧zs = ((x.cps.toList.take i).map okSign).map V.bl) ⟨⟨none,rfl⟩,Same.refl _,rfl⟩ ?_ ?_ ?_
    ·rintro i zs σ H2 hi ⟨_,S,rfl⟩
     rw [List.length_map,List.length_map,List.length_take]
     exact small70 (by omega)
    ·rintro B i c zs σ H2 hc ⟨⟨v,rfl⟩,S,rfl⟩
     try dsimp only [gName,tTrue]
     rw [if_pos rfl]
     have hc' : x.cps.toList[i]? = some c:=by simpa using hc
     have fin : ∀ k : Bool,okSign c = k→(((x.cps.toList.take i).map okSign).map V.bl ++ [V.bl k]) = ((x.cps.toList.take (i + 1)).map okSign).map V.bl:=fun k e=>by
      rw [List.take_add_one,hc',Option.toList_some,List.map_append,List.map_append,← e]
      rfl
     refine ⟨_,rfl,_,_,rfl,rfl,_,rfl,?_⟩
     have ea : (!decide ((⟨#[c]⟩ : Str).cps.toList < (Str.ofString "a").cps.toList)) = decide (97 ≤ c) := le_one
     have ez : (!decide ((Str.ofString "z").cps.toList < (⟨#[c]⟩ : Str).cps.toList)) = decide (c ≤ 122) := le_one
     rw [ea]
     refine iteD (fun g1=>?_) (fun g1=>?_)
     ·refine ⟨_,_,rfl,rfl,⟨_,rfl⟩,S,?_⟩
      rw [ez]
      exact fin _ (by unfold okSign; simp [g1])
     ·exact ⟨⟨_,rfl⟩,S,fin _ (by unfold okSign; simp [g1])⟩
    ·rintro zs σ H2 ⟨_,S,rfl⟩ p hp
     rw [← Array.length_toList,List.take_length]
     refine ⟨p,_,rfl,SqL.of upd_same,key _ _ (S.upd hp) ?_⟩
     rw [all_map_sign]
     unfold okName
     simp [show 1 ≤ x.length by omega,show x.length ≤ 8 by omega]
   ·refine key _ _ (Same.refl _) ?_
    unfold okName
    simp [show ¬ x.length ≤ 8 by omega]
  ·refine ⟨_,rfl,?_⟩
   refine iteF (key _ _ (Same.refl _) ?_)
   unfold okName
   simp [show ¬ 1 ≤ x.length by omega]
theorem sc_refuse_bad_names : FnScope ["names", "least", "most", "name"] ["names", "least", "most"] (defScope s_refuse_bad_names) := ⟨rfl, rfl, rfl, by decide +kernel, rfl, by decide +kernel, by decide +kernel⟩
set_option maxHeartbeats 4000000 in
theorem ok_refuse_bad_names (T : Txt K mg AR FR) : FnOk P w K mg base CX0 2 AR.f_refuse_bad_names FR.d_refuse_bad_names ["names", "least", "most"] (sp_refuse_bad_names K) := by
 have G_is_name : FnOk P w K mg base CX0 1 AR.f_is_name FR.d_is_name _ (sp_is_name K):=ok_is_name T
 refine T.F_refuse_bad_names.ok sc_refuse_bad_names (fun vs H Q E h=>?_) (fun cdv A outer s H vs Q E hr h=>?_)
 ·obtain ⟨a,ys,lo,hi,rfl,ha,h1,h2,h6,hn,hd,hQ⟩:=h
  rfl
 ·obtain ⟨a,ys,lo,hi,rfl,ha,h1,h2,h6,hn,hd,hQ⟩:=h
  refine ⟨_,(pss_cons (ps_if (pt_not (pt_chain op_le op_le (pv 1) (pe_callB call_len_seq (by rfl) T.z_len bt_len (pa_cons (pv 0) pa_nil)) (pv 2))) (pss_one ps_never) pss_nil)
   (pss_cons (ps_for PassesOwn.never rfl (pi_list (pv 0)) (pg_name (i:=3) sc_refuse_bad_names.nd (by rfl) (Or.inl rfl))
   (pss_one (ps_if (pt_not (pt_val (pe_call G_is_name (hr.mono (by decide)) (by rfl) T.m_is_name T.F_is_name.kp T.b_is_name .nil pass0 (pa_cons (pv 3) pa_nil)))) (pss_one ps_never) pss_nil)))
   (pss_one (ps_if (pt_cmpR op_ne (pe_callB call_len_setS (by rfl) T.z_len bt_len (pa_cons (pe_callTy (call_set_strs rfl) (by rfl) T.z_set bt_set (pa_cons (pv 0) pa_nil)) pa_nil)) (pe_callB call_len_seq (by rfl) T.z_len bt_len (pa_cons (pv 0) pa_nil)) (nomark _)) (pss_one ps_never) pss_nil)))),?_⟩
  try dsimp only [kx1,kx2,kx3,Cx.nox,Cx.wish]
  have hL : (vstrs ys).length = ys.length:=List.length_map ..
  refine ⟨_,rfl,_,rfl,a,_,rfl,.inl ha,_,_,rfl,rfl,_,rfl,?_⟩
  refine iteD (fun _=>?_) (fun g=>absurd (by rw [hL]; omega) g)
  refine ⟨_,rfl,_,_,rfl,rfl,_,rfl,?_⟩
  refine iteND (fun g=>absurd (by rw [hL]; omega) g) (fun _=>?_)
  refine ⟨_,rfl,a,rfl,⟨_,ha⟩,for_list (K:=K) (a:=a) (xs:=vstrs ys) (fun i σ H2=>∃ o,σ = [some (.ref a),some (.int lo),some (.int hi),o]∧Same H H2) ⟨none,rfl,Same.refl _⟩ (fun i σ H2 _ hp4=>by obtain ⟨_,_,S⟩:=hp4; exact S.seq ha) ?_ ?_⟩
  ·rintro i x σ H2 hx ⟨o,rfl,S⟩
   obtain ⟨y,hy,rfl⟩:=strs_get hx
   have ok:=hn y (List.mem_of_getElem? hy)
   have ol : y.length ≤ 8:=by
    unfold okName at ok
    rw [Bool.and_eq_true,Bool.and_eq_true,decide_eq_true_eq,decide_eq_true_eq] at ok
    exact ok.1.2
   refine ⟨_,rfl,y,rfl,okName_ascii ok,by omega,fun H3 S3=>⟨_,rfl,?_⟩⟩
   rw [ok]
   refine iteF ?_
   exact ⟨_,rfl,S.trans S3⟩
  ·rintro σ H2 ⟨o,rfl,S⟩
   refine ⟨_,rfl,a,ys,rfl,S.seq ha,by omega,fun p hp=>?_⟩
   refine ⟨p,_,rfl,upd_same,_,rfl,a,_,rfl,.inl ((S.upd hp).seq ha),rfl,_,rfl,?_⟩
   refine iteNS (by rw [metS_all hd,hL]) ?_
   exact hQ _ (S.upd hp)
theorem sc_refuse_bad_bags : FnScope ["bags", "many", "width", "bag", "number"] ["bags", "many", "width"] (defScope s_refuse_bad_bags) := ⟨rfl, rfl, rfl, by decide +kernel, rfl, by decide +kernel, by decide +kernel⟩
set_option maxHeartbeats 4000000 in
theorem ok_refuse_bad_bags (T : Txt K mg AR FR) : FnOk P w K mg base CX0 1 AR.f_refuse_bad_bags FR.d_refuse_bad_bags ["bags", "many", "width"] (sp_refuse_bad_bags K) := by
 obtain ⟨_,cc_MOST_BEADS⟩:=T.c_MOST_BEADS
 refine T.F_refuse_bad_bags.ok sc_refuse_bad_bags (fun vs H Q E h=>?_) (fun cdv A outer s H vs Q E hr h=>?_)
 ·obtain ⟨a,as,rs,n,rfl,ha,R,ok,hQ⟩:=h
  rfl
 ·obtain ⟨a,as,rs,n,rfl,ha,R,ok,hQ⟩:=h
  refine ⟨_,(pss_cons (ps_if (pt_cmpR op_ne (pe_callB call_len_seq (by rfl) T.z_len bt_len (pa_cons (pv 0) pa_nil)) (pv 1) (nomark _)) (pss_one ps_never) pss_nil)
   (pss_one (ps_for PassesOwn.never rfl (pi_list (pv 0)) (pg_name (i:=3) sc_refuse_bad_bags.nd (by rfl) (Or.inl rfl))
   (pss_cons (ps_if (pt_cmpR op_ne (pe_callB call_len_seq (by rfl) T.z_len bt_len (pa_cons (pv 3) pa_nil)) (pv 2) (nomark _)) (pss_one ps_never) pss_nil)
   (pss_one (ps_for PassesOwn.never rfl (pi_list (pv 3)) (pg_name (i:=4) sc_refuse_bad_bags.nd (by rfl) (Or.inl rfl))
   (pss_one (ps_if (pt_not (pt_chain op_le op_le pe_int (pv 4) (pe_glob (v:=.int 1000000000) (by rfl) cc_MOST_BEADS ⟨_,rfl⟩))) (pss_one ps_never) pss_nil)))))))),?_⟩
  try dsimp only [kx1,kx2,kx3,Cx.nox,Cx.wish]
  have hal:=R.length
  refine ⟨_,rfl,a,_,rfl,.inl ha,_,rfl,rfl,_,rfl,?_⟩
  refine iteNS (by rw [List.length_map,hal]) ?_
  refine ⟨_,rfl,a,rfl,⟨_,ha⟩,for_list (K:=K) (a:=a) (xs:=as.map V.ref) (fun i σ H2=>∃ o3 o4,σ = [some (.ref a),some (.int rs.length),some (.int n),o3,o4]∧H2 = H) ⟨none,none,rfl,rfl⟩ (fun i σ H2 _ hp4=>by obtain ⟨_,_,_,e⟩:=hp4; exact e ▸ ha) ?_ ?_⟩
  ·rintro i x σ H2 hx ⟨o3,o4,rfl,rfl⟩
   obtain ⟨b,hb1,rfl⟩:=refs_get hx
   obtain ⟨r,hr1,hb⟩:=Paired.getL R hb1
   obtain ⟨hrl,hrb⟩:=ok r (List.mem_of_getElem? hr1)
   refine ⟨_,rfl,b,_,rfl,.inl (SqL.of hb),_,rfl,rfl,_,rfl,?_⟩
   refine iteNS (by rw [ints_len,hrl]) ?_
   refine ⟨_,rfl,b,rfl,⟨_,SqL.of hb⟩,for_list (K:=K) (a:=b) (xs:=vints r) (fun i' σ H3=>∃ o4,σ = [some (.ref a),some (.int rs.length),some (.int n),some (.ref b),o4]∧H3 = H2) ⟨_,rfl,rfl⟩ (fun i σ H3 _ hp4=>by obtain ⟨_,_,e⟩:=hp4; exact e ▸ SqL.of hb) ?_ ?_⟩
   ·rintro i' y σ H3 hy ⟨o,rfl,rfl⟩
    obtain ⟨m,hm,rfl⟩:=ints_get hy
    obtain ⟨g1,g2⟩:=hrb m (List.mem_of_getElem? hm)
    refine ⟨_,rfl,_,_,rfl,rfl,_,rfl,?_⟩
    refine iteD (fun _=>?_) (fun g=>absurd g1 g)
    refine ⟨_,_,rfl,rfl,_,rfl,?_⟩
    refine iteND (fun g=>absurd g2 g) (fun _=>?_)
    exact ⟨_,rfl,rfl⟩
   ·rintro σ H3 ⟨o,rfl,rfl⟩
    exact ⟨_,_,rfl,rfl⟩
  ·rintro σ H2 ⟨o3,o4,rfl,rfl⟩
   exact hQ
theorem sc_Net_init : FnScope ["self", "bowls", "doors", "takes", "gives", "first"] ["self", "bowls", "doors", "takes", "gives", "first"] (defScope s_Net_init) := ⟨rfl, rfl, rfl, by decide +kernel, rfl, by decide +kernel, by decide +kernel⟩
set_option maxHeartbeats 4000000 in
theorem ok_Net_init (T : Txt K mg AR FR) : FnOk P w K mg base CX0 3 AR.f_Net_init FR.d_Net_init ["self", "bowls", "doors", "takes", "gives", "first"] (sp_Net_init AR.C_Net K) := by
 obtain ⟨_,cc_LEAST_BOWLS⟩:=T.c_LEAST_BOWLS
 obtain ⟨_,cc_MOST_BOWLS⟩:=T.c_MOST_BOWLS
 obtain ⟨_,cc_MOST_DOORS⟩:=T.c_MOST_DOORS
 have G_refuse_bad_names : FnOk P w K mg base CX0 2 AR.f_refuse_bad_names FR.d_refuse_bad_names _ (sp_refuse_bad_names K):=ok_refuse_bad_names T
 have G_refuse_bad_bags : FnOk P w K mg base CX0 1 AR.f_refuse_bad_bags FR.d_refuse_bad_bags _ (sp_refuse_bad_bags K):=ok_refuse_bad_bags T
 refine T.F_Net_init.ok sc_Net_init (fun vs H Q E h=>?_) (fun cdv A outer s H vs Q E hr h=>?_)
 ·obtain ⟨x,dx,pb,pd,pt,pg,pf,ts,gs,N,rfl,hx,ok,hb,hd,ht,tr,hg,gr,hf,hQ⟩:=h
  rfl
 ·obtain ⟨x,dx,pb,pd,pt,pg,pf,ts,gs,N,rfl,hx,ok,hb,hd,ht,tr,hg,gr,hf,hQ⟩:=h
  refine ⟨_,(pss_cons (ps_expr (pe_call G_refuse_bad_names (hr.mono (by decide)) (by rfl) T.m_refuse_bad_names T.F_refuse_bad_names.kp T.b_refuse_bad_names .nil pass0 (pa_cons (pv 1) (pa_cons (pe_glob (v:=.int 1) (by rfl) cc_LEAST_BOWLS ⟨_,rfl⟩) (pa_cons (pe_glob (v:=.int 6) (by rfl) cc_MOST_BOWLS ⟨_,rfl⟩) pa_nil)))))
   (pss_cons (ps_expr (pe_call G_refuse_bad_names (hr.mono (by decide)) (by rfl) T.m_refuse_bad_names T.F_refuse_bad_names.kp T.b_refuse_bad_names .nil pass0 (pa_cons (pv 2) (pa_cons pe_int (pa_cons (pe_glob (v:=.int 8) (by rfl) cc_MOST_DOORS ⟨_,rfl⟩) pa_nil)))))
   (pss_cons (ps_expr (pe_call G_refuse_bad_bags (hr.mono (by decide)) (by rfl) T.m_refuse_bad_bags T.F_refuse_bad_bags.kp T.b_refuse_bad_bags .nil pass0 (pa_cons (pv 3) (pa_cons (pe_callB call_len_seq (by rfl) T.z_len bt_len (pa_cons (pv 2) pa_nil)) (pa_cons (pe_callB call_len_seq (by rfl) T.z_len bt_len (pa_cons (pv 1) pa_nil)) pa_nil)))))
   (pss_cons (ps_expr (pe_call G_refuse_bad_bags (hr.mono (by decide)) (by rfl) T.m_refuse_bad_bags T.F_refuse_bad_bags.kp T.b_refuse_bad_bags .nil pass0 (pa_cons (pv 4) (pa_cons (pe_callB call_len_seq (by rfl) T.z_len bt_len (pa_cons (pv 2) pa_nil)) (pa_cons (pe_callB call_len_seq (by rfl) T.z_len bt_len (pa_cons (pv 1) pa_nil)) pa_nil)))))
   (pss_cons (ps_expr (pe_call G_refuse_bad_bags (hr.mono (by decide)) (by rfl) T.m_refuse_bad_bags T.F_refuse_bad_bags.kp T.b_refuse_bad_bags .nil pass0 (pa_cons (pe_lst (pa_cons (pv 5) pa_nil)) (pa_cons pe_int (pa_cons (pe_callB call_len_seq (by rfl) T.z_len bt_len (pa_cons (pv 1) pa_nil)) pa_nil)))))
   (pss_cons (ps_fld (pv 0) (pe_callTy call_list_of (by rfl) T.z_list bt_list (pa_cons (pv 1) pa_nil)) rfl)
   (pss_cons (ps_fld (pv 0) (pe_callTy call_list_of (by rfl) T.z_list bt_list (pa_cons (pv 2) pa_nil)) rfl)
   (pss_cons (ps_fld (pv 0) (pe_comp (N' := ["bag"]) (nt := 1) (caps := []) _ _ (CompScope.of (by kernel_rfl)) (pi_list (pv 3)) (fun _ => (pg_nameC (i := 0) ["bag"] (by decide +kernel) (by rfl))) (fun _ => pts_nil) (fun _ => (pe_callTy call_list_of (by rfl) T.z_list bt_list (pa_cons (pv 0) pa_nil)))) rfl)
   (pss_cons (ps_fld (pv 0) (pe_comp (N' := ["bag"]) (nt := 1) (caps := []) _ _ (CompScope.of (by kernel_rfl)) (pi_list (pv 4)) (fun _ => (pg_nameC (i := 0) ["bag"] (by decide +kernel) (by rfl))) (fun _ => pts_nil) (fun _ => (pe_callTy call_list_of (by rfl) T.z_list bt_list (pa_cons (pv 0) pa_nil)))) rfl)
   (pss_one (ps_fld (pv 0) (pe_callTy call_list_of (by rfl) T.z_list bt_list (pa_cons (pv 5) pa_nil)) rfl))))))))))),?_⟩
  try dsimp only [kx1,kx2,kx3,Cx.nox,Cx.wish]
  have tl:=tr.length
  have gl:=gr.length
  have lb : (vstrs N.bowls).length = N.bowls.length:=List.length_map ..
  have ld : (vstrs N.doors).length = N.doors.length:=List.length_map ..
  refine ⟨_,rfl,pb,N.bowls,1,6,rfl,hb,by have:=ok.b1; omega,by have:=ok.b6; omega,by have:=ok.b6; omega,ok.bn,ok.bd,fun H1 S1=>?_⟩
  refine ⟨_,rfl,pd,N.doors,0,8,rfl,S1.seq hd,by omega,by have:=ok.d8; omega,by have:=ok.d8; omega,ok.dn,ok.dd,fun H2 S2=>?_⟩
  have S12:=S1.trans S2
  refine ⟨_,rfl,_,rfl,pd,_,rfl,.inl (S12.seq hd),_,rfl,pb,_,rfl,.inl (S12.seq hb),pt,ts,N.takes,N.bowls.length,by rw [ld,lb,ok.tl]; rfl,S12.seq ht,tr.same S12,ok.tk,?_⟩
  refine ⟨_,rfl,_,rfl,pd,_,rfl,.inl (S12.seq hd),_,rfl,pb,_,rfl,.inl (S12.seq hb),pg,gs,N.gives,N.bowls.length,by rw [ld,lb,ok.gl]; rfl,S12.seq hg,gr.same S12,ok.gv,?_⟩
  refine ⟨_,rfl,by show 1 ≤ sizeLine; decide,fun q0 m0=>?_⟩
  have U0:=S12.upd m0 (o:=.lst [V.ref pf])
  refine ⟨_,rfl,pb,_,rfl,.inl (U0.seq hb),q0,[pf],[N.first],N.bowls.length,by rw [lb]; rfl,SqL.of upd_same,.cons (U0 _ _ hf) .nil,(fun r hr=>by rw [List.mem_singleton.mp hr]; exact ok.fs),?_⟩
  generalize upd H2 q0 (.lst [V.ref pf]) = H3 at U0
  have x3:=U0 _ _ hx
  have k3 : But x H H3:=U0.but
  refine ⟨_,rfl,pb,_,rfl,.inl (U0.seq hb),fun b nb=>?_⟩
  have nxb : x ≠ b:=ne_of_none x3 nb
  refine ⟨_,rfl,x,AR.C_Net,dx,[],rfl,by rw [upd_ne nxb]; exact x3,T.cl_Net,T.n_Net_bowls,by show 0 < 1000; decide,?_⟩
  have k4 : But x H3 _:=But.step (x:=x) (o:=.lst (vstrs N.bowls)) (o':=.ins AR.C_Net dx (nf1 (.ref b))) nb
  have x4:=upd_same (H:=upd H3 b (.lst (vstrs N.bowls))) (a:=x) (o:=.ins AR.C_Net dx (nf1 (.ref b)))
  have b4 : upd (upd H3 b (.lst (vstrs N.bowls))) x (.ins AR.C_Net dx (nf1 (.ref b))) b = some (.lst (vstrs N.bowls)):=by rw [upd_ne (Ne.symm nxb),upd_same]
  generalize hH4 : upd (upd H3 b (.lst (vstrs N.bowls))) x (.ins AR.C_Net dx (nf1 (.ref b))) = H4 at k4 x4 b4
  have a4:=k3.trans k4
  refine ⟨_, rfl, pd, _, rfl, .inl (by rw [show upd (upd H3 b (.lst (vstrs N.bowls))) x (.ins AR.C_Net dx (putF "bowls" (V.ref b) [])) = H4 from hH4]; exact a4.seq hx hd), ?_⟩
  rw [show upd (upd H3 b (.lst (vstrs N.bowls))) x (.ins AR.C_Net dx (putF "bowls" (V.ref b) [])) = H4 from hH4]
  intro d nd
  have nxd : x ≠ d:=ne_of_none x4 nd
  refine ⟨_,rfl,x,AR.C_Net,dx,_,rfl,by rw [upd_ne nxd]; exact x4,T.cl_Net,T.n_Net_doors,by show 1 < 1000; decide,?_⟩
  rw [put_n2]
  have k5 : But x H4 _:=But.step (x:=x) (o:=.lst (vstrs N.doors)) (o':=.ins AR.C_Net dx (nf2 (.ref b) (.ref d))) nd
  have x5:=upd_same (H:=upd H4 d (.lst (vstrs N.doors))) (a:=x) (o:=.ins AR.C_Net dx (nf2 (.ref b) (.ref d)))
  have d5 : upd (upd H4 d (.lst (vstrs N.doors))) x (.ins AR.C_Net dx (nf2 (.ref b) (.ref d))) d = some (.lst (vstrs N.doors)):=by rw [upd_ne (Ne.symm nxd),upd_same]
  have b5:=k5 _ _ b4 (Ne.symm nxb)
  generalize upd (upd H4 d (.lst (vstrs N.doors))) x (.ins AR.C_Net dx (nf2 (.ref b) (.ref d))) = H5 at k5 x5 d5 b5 ⊢
  have a5:=a4.trans k5
  refine ⟨_,rfl,pt,rfl,⟨_,a5.seq hx ht⟩,?_⟩
  refine comp_copies (K:=K) (τ:=[]) (fun _=>rfl) (a5.seq hx ht) (a5.rows hx tr) (by have:=ok.tl; have:=ok.d8; omega) fun H6 ts' S6 R6 f6 t nt=>?_
  have x6:=S6 _ _ x5
  have nxt : x ≠ t:=ne_of_none x6 nt
  refine ⟨_,rfl,x,AR.C_Net,dx,_,rfl,by rw [upd_ne nxt]; exact x6,T.cl_Net,T.n_Net_takes,by show 2 < 1000; decide,?_⟩
  rw [put_n3]
  have k7 : But x H6 _:=But.step (x:=x) (o:=.lst (ts'.map V.ref)) (o':=.ins AR.C_Net dx (nf3 (.ref b) (.ref d) (.ref t))) nt
  have x7:=upd_same (H:=upd H6 t (.lst (ts'.map V.ref))) (a:=x) (o:=.ins AR.C_Net dx (nf3 (.ref b) (.ref d) (.ref t)))
  have t7 : upd (upd H6 t (.lst (ts'.map V.ref))) x (.ins AR.C_Net dx (nf3 (.ref b) (.ref d) (.ref t))) t = some (.lst (ts'.map V.ref)):=by rw [upd_ne (Ne.symm nxt),upd_same]
  have b7:=k7 _ _ (S6 _ _ b5) (Ne.symm nxb)
  have d7:=k7 _ _ (S6 _ _ d5) (Ne.symm nxd)
  have r7:=k7.rows x6 R6
  generalize upd (upd H6 t (.lst (ts'.map V.ref))) x (.ins AR.C_Net dx (nf3 (.ref b) (.ref d) (.ref t))) = H7 at k7 x7 t7 b7 d7 r7 ⊢
  have a7:=a5.trans (S6.but.trans k7)
  refine ⟨_,rfl,pg,rfl,⟨_,a7.seq hx hg⟩,?_⟩
  refine comp_copies (K:=K) (τ:=[]) (fun _=>rfl) (a7.seq hx hg) (a7.rows hx gr) (by have:=ok.gl; have:=ok.d8; omega) fun H8 gs' S8 R8 f8 g ng=>?_
  have x8:=S8 _ _ x7
  have nxg : x ≠ g:=ne_of_none x8 ng
  refine ⟨_,rfl,x,AR.C_Net,dx,_,rfl,by rw [upd_ne nxg]; exact x8,T.cl_Net,T.n_Net_gives,by show 3 < 1000; decide,?_⟩
  rw [put_n4]
  have k9 : But x H8 _:=But.step (x:=x) (o:=.lst (gs'.map V.ref)) (o':=.ins AR.C_Net dx (nf4 (.ref b) (.ref d) (.ref t) (.ref g))) ng
  have x9:=upd_same (H:=upd H8 g (.lst (gs'.map V.ref))) (a:=x) (o:=.ins AR.C_Net dx (nf4 (.ref b) (.ref d) (.ref t) (.ref g)))
  have g9 : upd (upd H8 g (.lst (gs'.map V.ref))) x (.ins AR.C_Net dx (nf4 (.ref b) (.ref d) (.ref t) (.ref g))) g = some (.lst (gs'.map V.ref)):=by rw [upd_ne (Ne.symm nxg),upd_same]
  have b9:=k9 _ _ (S8 _ _ b7) (Ne.symm nxb)
  have d9:=k9 _ _ (S8 _ _ d7) (Ne.symm nxd)
  have t9:=k9 _ _ (S8 _ _ t7) (Ne.symm nxt)
  have r9:=k9.rows x8 (r7.same S8)
  have q9:=k9.rows x8 R8
  generalize upd (upd H8 g (.lst (gs'.map V.ref))) x (.ins AR.C_Net dx (nf4 (.ref b) (.ref d) (.ref t) (.ref g))) = H9 at k9 x9 g9 b9 d9 t9 r9 q9 ⊢
  have a9:=a7.trans (S8.but.trans k9)
  refine ⟨_,rfl,pf,_,rfl,.inl (a9.seq hx (SqL.of hf)),fun f nf=>?_⟩
  have nxf : x ≠ f:=ne_of_none x9 nf
  refine ⟨_,rfl,x,AR.C_Net,dx,_,rfl,by rw [upd_ne nxf]; exact x9,T.cl_Net,T.n_Net_first,by show 4 < 1000; decide,?_⟩
  rw [put_n5]
  have k10 : But x H9 _:=But.step (x:=x) (o:=.lst (vints N.first)) (o':=.ins AR.C_Net dx (netF b d t g f)) nf
  have free : ∀ {Ha : Hp} {q : Addr} {o : HO},But x H Ha→Ha x = some o→Ha q = none→H q = none:=fun k e n=>k.free (C:=AR.C_Net) (dx:=dx) (fs:=[]) e n
  refine hQ b d t g f ts' gs' _ (fun a ha=>?_) (fun q o e n=>k10 _ _ (a9 _ _ e n) n) ⟨upd_same,k10 _ _ b9 (Ne.symm nxb),k10 _ _ d9 (Ne.symm nxd),k10 _ _ t9 (Ne.symm nxt),k10.rows x9 r9,k10 _ _ g9 (Ne.symm nxg),k10.rows x9 q9,by rw [upd_ne (Ne.symm nxf),upd_same]⟩
  rcases List.mem_append.mp ha with ha | ha
  ·rcases List.mem_append.mp ha with ha | ha
   ·simp only [List.mem_cons,List.not_mem_nil,or_false] at ha
    rcases ha with rfl | rfl | rfl | rfl | rfl
    ·exact free k3 x3 nb
    ·exact free a4 x4 nd
    ·exact free (a5.trans S6.but) x6 nt
    ·exact free (a7.trans S8.but) x8 ng
    ·exact free a9 x9 nf
   ·exact free a5 x5 (f6 a ha)
  ·exact free a7 x7 (f8 a ha)
theorem sc_Tree_init : FnScope ["self", "first"] ["self", "first"] (defScope s_Tree_init) := ⟨rfl, rfl, rfl, by decide +kernel, rfl, by decide +kernel, by decide +kernel⟩
set_option maxHeartbeats 4000000 in
theorem ok_Tree_init (T : Txt K mg AR FR) : FnOk P w K mg base CX0 1 AR.f_Tree_init FR.d_Tree_init ["self", "first"] (sp_Tree_init AR.C_Tree K) := by
 refine T.F_Tree_init.ok sc_Tree_init (fun vs H Q E h=>?_) (fun cdv A outer s H vs Q E hr h=>?_)
 ·obtain ⟨x,dx,pg,first,rfl,hx,hg,hQ⟩:=h
  rfl
 ·obtain ⟨x,dx,pg,first,rfl,hx,hg,hQ⟩:=h
  refine ⟨_,(pss_cons (ps_fld (pv 0) (pe_lst (pa_cons (pe_callTy call_list_of (by rfl) T.z_list bt_list (pa_cons (pv 1) pa_nil)) pa_nil)) rfl)
   (pss_cons (ps_fld (pv 0) (pe_lst (pa_cons (pe_un un_neg pe_int) pa_nil)) rfl)
   (pss_cons (ps_fld (pv 0) (pe_lst (pa_cons (pe_un un_neg pe_int) pa_nil)) rfl)
   (pss_cons (ps_fld (pv 0) (pe_lst (pa_cons (pe_lst pa_nil) pa_nil)) rfl)
   (pss_one (ps_fld (pv 0) (pe_lst pa_nil) rfl)))))),?_⟩
  try dsimp only [kx1,kx2,kx3,Cx.nox,Cx.wish]
  have free : ∀ {Ha : Hp} {q : Addr} {o : HO},But x H Ha→Ha x = some o→Ha q = none→H q = none:=fun k e n=>k.free (C:=AR.C_Tree) (dx:=dx) (fs:=[]) e n
  refine ⟨_,rfl,pg,_,rfl,.inl hg,fun e ne=>?_⟩
  have Ue:=(Same.refl H).upd ne (o:=.lst (vints first))
  have he:=upd_same (H:=H) (a:=e) (o:=.lst (vints first))
  have xe : x ≠ e:=ne_of_none hx ne
  generalize upd H e (.lst (vints first)) = H1 at Ue he ⊢
  refine ⟨by show 1 ≤ sizeLine; decide,fun m nm=>?_⟩
  have x1:=Ue _ _ hx
  have xm : x ≠ m:=ne_of_none x1 nm
  have em : e ≠ m:=ne_of_none he nm
  refine ⟨_,rfl,x,AR.C_Tree,dx,[],rfl,by rw [upd_ne xm]; exact x1,T.cl_Tree,T.n_Tree_marks,by show 0 < 1000; decide,?_⟩
  rw [put_t1]
  have k4 : But x H1 _:=But.step (x:=x) (o:=.lst [V.ref e]) (o':=.ins AR.C_Tree dx (tF1 (.ref m))) nm
  have x4:=upd_same (H:=upd H1 m (.lst [V.ref e])) (a:=x) (o:=.ins AR.C_Tree dx (tF1 (.ref m)))
  have m4 : upd (upd H1 m (.lst [V.ref e])) x (.ins AR.C_Tree dx (tF1 (.ref m))) m = some (.lst [V.ref e]):=by rw [upd_ne (Ne.symm xm),upd_same]
  have e4:=k4 _ _ he (Ne.symm xe)
  generalize upd (upd H1 m (.lst [V.ref e])) x (.ins AR.C_Tree dx (tF1 (.ref m))) = H4 at k4 x4 m4 e4 ⊢
  have K4 : But x H H4:=Ue.but.trans k4
  refine ⟨_,rfl,by show 1 ≤ sizeLine; decide,fun p np=>?_⟩
  have xp : x ≠ p:=ne_of_none x4 np
  have ep : e ≠ p:=ne_of_none e4 np
  have mp : m ≠ p:=ne_of_none m4 np
  refine ⟨_,rfl,x,AR.C_Tree,dx,_,rfl,by rw [upd_ne xp]; exact x4,T.cl_Tree,T.n_Tree_parents,by show 1 < 1000; decide,?_⟩
  rw [put_t2]
  have k5 : But x H4 _:=But.step (x:=x) (o:=.lst [V.int (-1)]) (o':=.ins AR.C_Tree dx (tF2 (.ref m) (.ref p))) np
  have x5:=upd_same (H:=upd H4 p (.lst [V.int (-1)])) (a:=x) (o:=.ins AR.C_Tree dx (tF2 (.ref m) (.ref p)))
  have p5 : upd (upd H4 p (.lst [V.int (-1)])) x (.ins AR.C_Tree dx (tF2 (.ref m) (.ref p))) p = some (.lst [V.int (-1)]):=by rw [upd_ne (Ne.symm xp),upd_same]
  have m5:=k5 _ _ m4 (Ne.symm xm)
  have e5:=k5 _ _ e4 (Ne.symm xe)
  generalize upd (upd H4 p (.lst [V.int (-1)])) x (.ins AR.C_Tree dx (tF2 (.ref m) (.ref p))) = H5 at k5 x5 p5 m5 e5 ⊢
  have K5:=K4.trans k5
  refine ⟨_,rfl,by show 1 ≤ sizeLine; decide,fun c nc=>?_⟩
  have xc : x ≠ c:=ne_of_none x5 nc
  have ec : e ≠ c:=ne_of_none e5 nc
  have mc : m ≠ c:=ne_of_none m5 nc
  have pc : p ≠ c:=ne_of_none p5 nc
  refine ⟨_,rfl,x,AR.C_Tree,dx,_,rfl,by rw [upd_ne xc]; exact x5,T.cl_Tree,T.n_Tree_comers,by show 2 < 1000; decide,?_⟩
  rw [put_t3]
  have k6 : But x H5 _:=But.step (x:=x) (o:=.lst [V.int (-1)]) (o':=.ins AR.C_Tree dx (tF3 (.ref m) (.ref p) (.ref c))) nc
  have x6:=upd_same (H:=upd H5 c (.lst [V.int (-1)])) (a:=x) (o:=.ins AR.C_Tree dx (tF3 (.ref m) (.ref p) (.ref c)))
  have c6 : upd (upd H5 c (.lst [V.int (-1)])) x (.ins AR.C_Tree dx (tF3 (.ref m) (.ref p) (.ref c))) c = some (.lst [V.int (-1)]):=by rw [upd_ne (Ne.symm xc),upd_same]
  have p6:=k6 _ _ p5 (Ne.symm xp)
  have m6:=k6 _ _ m5 (Ne.symm xm)
  have e6:=k6 _ _ e5 (Ne.symm xe)
  generalize upd (upd H5 c (.lst [V.int (-1)])) x (.ins AR.C_Tree dx (tF3 (.ref m) (.ref p) (.ref c))) = H6 at k6 x6 c6 p6 m6 e6 ⊢
  have K6:=K5.trans k6
  refine ⟨by show 0 ≤ sizeLine; decide,fun q nq=>?_⟩
  have Uq:=(Same.refl H6).upd nq (o:=.lst [])
  have hq:=upd_same (H:=H6) (a:=q) (o:=.lst [])
  have xq : x ≠ q:=ne_of_none x6 nq
  have qm : q ≠ m:=Ne.symm (ne_of_none m6 nq)
  have qp : q ≠ p:=Ne.symm (ne_of_none p6 nq)
  have qc : q ≠ c:=Ne.symm (ne_of_none c6 nq)
  have x7:=Uq _ _ x6
  have e7:=Uq _ _ e6
  have m7:=Uq _ _ m6
  have p7:=Uq _ _ p6
  have c7:=Uq _ _ c6
  generalize upd H6 q (.lst []) = H7 at Uq hq x7 e7 m7 p7 c7 ⊢
  refine ⟨by show 1 ≤ sizeLine; decide,fun l nl=>?_⟩
  have xl : x ≠ l:=ne_of_none x7 nl
  have el : e ≠ l:=ne_of_none e7 nl
  have ml : m ≠ l:=ne_of_none m7 nl
  have pl : p ≠ l:=ne_of_none p7 nl
  have cl : c ≠ l:=ne_of_none c7 nl
  have ql : q ≠ l:=ne_of_none hq nl
  have K7:=K6.trans Uq.but
  refine ⟨_,rfl,x,AR.C_Tree,dx,_,rfl,by rw [upd_ne xl]; exact x7,T.cl_Tree,T.n_Tree_loops,by show 3 < 1000; decide,?_⟩
  rw [put_t4]
  have k8 : But x H7 _:=But.step (x:=x) (o:=.lst [V.ref q]) (o':=.ins AR.C_Tree dx (tF4 (.ref m) (.ref p) (.ref c) (.ref l))) nl
  have x8:=upd_same (H:=upd H7 l (.lst [V.ref q])) (a:=x) (o:=.ins AR.C_Tree dx (tF4 (.ref m) (.ref p) (.ref c) (.ref l)))
  have l8 : upd (upd H7 l (.lst [V.ref q])) x (.ins AR.C_Tree dx (tF4 (.ref m) (.ref p) (.ref c) (.ref l))) l = some (.lst [V.ref q]):=by rw [upd_ne (Ne.symm xl),upd_same]
  have c8:=k8 _ _ c7 (Ne.symm xc)
  have p8:=k8 _ _ p7 (Ne.symm xp)
  have m8:=k8 _ _ m7 (Ne.symm xm)
  have e8:=k8 _ _ e7 (Ne.symm xe)
  have q8:=k8 _ _ hq (Ne.symm xq)
  generalize upd (upd H7 l (.lst [V.ref q])) x (.ins AR.C_Tree dx (tF4 (.ref m) (.ref p) (.ref c) (.ref l))) = H8 at k8 x8 l8 c8 p8 m8 e8 q8 ⊢
  have K8:=K7.trans k8
  refine ⟨by show 0 ≤ sizeLine; decide,fun a na=>?_⟩
  have xa : x ≠ a:=ne_of_none x8 na
  refine ⟨_,rfl,x,AR.C_Tree,dx,_,rfl,by rw [upd_ne xa]; exact x8,T.cl_Tree,T.n_Tree_above,by show 4 < 1000; decide,?_⟩
  rw [put_t5]
  have k9 : But x H8 _:=But.step (x:=x) (o:=.lst []) (o':=.ins AR.C_Tree dx (tFl m p c l a)) na
  refine hQ e q m p c l a _ (Ue.free nm) (free K4 x4 np) (free K5 x5 nc) (free K7 x7 nl) (free K8 x8 na) (fun q o h n=>k9 _ _ (K8 _ _ h n) n) ⟨upd_same,k9 _ _ m8 (Ne.symm xm),.cons (by show _ = _; rw [← vints_mk]; exact k9 _ _ e8 (Ne.symm xe)) .nil,k9 _ _ p8 (Ne.symm xp),k9 _ _ c8 (Ne.symm xc),k9 _ _ l8 (Ne.symm xl),.cons (k9 _ _ q8 (Ne.symm xq)) .nil,by rw [upd_ne (Ne.symm xa),upd_same]; rfl,⟨mp,mc,ml,ne_of_none m8 na,pc,pl,ne_of_none p8 na,cl,ne_of_none c8 na,ne_of_none l8 na⟩,fun r hr=>?_,fun r hr=>?_⟩
  ·rw [List.mem_singleton.mp hr]; exact ⟨em,ep,ec,el,ne_of_none e8 na⟩
  ·rw [List.mem_singleton.mp hr]; exact ⟨qm,qp,qc,ql,ne_of_none q8 na⟩
theorem sc_law_made : FnScope ["plan", "takes", "gives", "doors"] ["plan"] (defScope s_law_made) := ⟨rfl, rfl, rfl, by decide +kernel, rfl, by decide +kernel, by decide +kernel⟩
set_option maxHeartbeats 4000000 in
theorem ok_law_made (T : Txt K mg AR FR) : FnOk P w K mg base CX0 5 AR.f_law_made FR.d_law_made ["plan"] (sp_law_made AR.C_Net K) := by
 have G_Net_init : FnOk P w K mg base CX0 3 AR.f_Net_init FR.d_Net_init _ (sp_Net_init AR.C_Net K):=ok_Net_init T
 refine T.F_law_made.ok sc_law_made (fun vs H Q E h=>?_) (fun cdv A outer s H vs Q E hr h=>?_)
 ·obtain ⟨p,pt,pg,pf,ts,gs,tk,gv,fs,rfl,P,o,hQ⟩:=h
  rfl
 ·obtain ⟨p,pt,pg,pf,ts,gs,tk,gv,fs,rfl,P,o,hQ⟩:=h
  refine ⟨_, (pss_cons (ps_setComp (i := 1) (N' := ["bag"]) (nt := 1) (caps := []) _ _ (CompScope.of (by kernel_rfl)) sc_law_made.nd rfl rfl (pi_list (pe_ix ix_tup (pv 0) pe_int (fun _ _ => rfl))) (fun _ => (pg_nameC (i := 0) ["bag"] (by decide +kernel) (by rfl))) (fun _ => pts_nil) (fun _ => (pe_callTy call_list_of (by rfl) T.z_list bt_list (pa_cons (pv 0) pa_nil))))
   (pss_cons (ps_setComp (i := 2) (N' := ["bag"]) (nt := 1) (caps := []) _ _ (CompScope.of (by kernel_rfl)) sc_law_made.nd rfl rfl (pi_list (pe_ix ix_tup (pv 0) pe_int (fun _ _ => rfl))) (fun _ => (pg_nameC (i := 0) ["bag"] (by decide +kernel) (by rfl))) (fun _ => pts_nil) (fun _ => (pe_callTy call_list_of (by rfl) T.z_list bt_list (pa_cons (pv 0) pa_nil))))
   (pss_cons (ps_set (i:=3) sc_law_made.nd rfl (Or.inl rfl) (pe_slice sl_list (pe_lst (pa_cons pe_str (pa_cons pe_str (pa_cons pe_str (pa_cons pe_str (pa_cons pe_str (pa_cons pe_str (pa_cons pe_str (pa_cons pe_str pa_nil))))))))) po_none (po_some (pe_callB call_len_seq (by rfl) T.z_len bt_len (pa_cons (pv 1) pa_nil)))))
   (pss_one (ps_ret (pe_make T.mk_Net G_Net_init (hr.mono (by decide)) (by rfl) T.mC_Net T.b_Net_init .nil pass0 (pa_cons (pe_slice sl_list (pe_lst (pa_cons pe_str (pa_cons pe_str (pa_cons pe_str (pa_cons pe_str (pa_cons pe_str (pa_cons pe_str pa_nil))))))) po_none (po_some (pe_callB call_len_seq (by rfl) T.z_len bt_len (pa_cons (pe_ix ix_tup (pv 0) pe_int (fun _ _=>rfl)) pa_nil)))) (pa_cons (pv 3) (pa_cons (pv 1) (pa_cons (pv 2) (pa_cons (pe_callTy call_list_of (by rfl) T.z_list bt_list (pa_cons (pe_ix ix_tup (pv 0) pe_int (fun _ _=>rfl)) pa_nil)) pa_nil))))))))))),?_⟩
  try dsimp only [kx1,kx2,kx3,Cx.nox,Cx.wish]
  have ok:=netR_ok o
  have z6:=o.z6
  have t8:=o.t8
  have gl:=o.gl
  refine ⟨_,rfl,p,_,_,_,rfl,rfl,SqT.of P.top,rfl,pt,rfl,⟨_,SqL.of P.ht⟩,?_⟩
  refine comp_copies (K:=K) (τ:=[]) (fun _=>rfl) (SqL.of P.ht) P.tr (by omega) fun H6 ts' S6 R6 f6 t nt=>?_
  have V6:=S6.upd nt (o:=.lst (ts'.map V.ref))
  have ht6:=upd_same (H:=H6) (a:=t) (o:=.lst (ts'.map V.ref))
  have R6':=R6.same ((Same.refl H6).upd nt (o:=.lst (ts'.map V.ref)))
  generalize upd H6 t (.lst (ts'.map V.ref)) = H7 at V6 ht6 R6' ⊢
  have P7:=P.same V6
  refine ⟨_,rfl,p,_,_,_,rfl,rfl,SqT.of P7.top,rfl,pg,rfl,⟨_,SqL.of P7.hg⟩,?_⟩
  refine comp_copies (K:=K) (τ:=[]) (fun _=>rfl) (SqL.of P7.hg) P7.gr (by omega) fun H8 gs' S8 R8 f8 g ng=>?_
  have V8:=S8.upd ng (o:=.lst (gs'.map V.ref))
  have hg8:=upd_same (H:=H8) (a:=g) (o:=.lst (gs'.map V.ref))
  have R8':=R8.same ((Same.refl H8).upd ng (o:=.lst (gs'.map V.ref)))
  generalize upd H8 g (.lst (gs'.map V.ref)) = H9 at V8 hg8 R8' ⊢
  have U9:=V6.trans V8
  have P9:=P7.same V8
  refine ⟨by show 8 ≤ sizeLine; decide,fun l2 n2=>?_⟩
  have U3:=(Same.refl H9).upd n2 (o:=.lst veit3)
  refine ⟨_,rfl,t,_,rfl,.inl (SqL.of (U3 _ _ (V8 _ _ ht6))),_,rfl,l2,veit3,rfl,SqL.of upd_same,fun d1 nd1=>?_⟩
  rw [List.length_map,R6.length,cut_eit3]
  have U4:=U3.upd nd1 (o:=.lst (vstrs (eit3.take tk.length)))
  have hd1:=upd_same (H:=upd H9 l2 (.lst veit3)) (a:=d1) (o:=.lst (vstrs (eit3.take tk.length)))
  generalize upd (upd H9 l2 (.lst veit3)) d1 (.lst (vstrs (eit3.take tk.length))) = H10 at U4 hd1 ⊢
  have P10:=P9.same U4
  refine ⟨by show 6 ≤ sizeLine; decide,fun l1 n1=>?_⟩
  have U5:=(Same.refl H10).upd n1 (o:=.lst vsix)
  have P11:=P10.same U5
  refine ⟨_,rfl,p,_,_,_,rfl,rfl,SqT.of P11.top,rfl,pf,_,rfl,.inl (SqL.of P11.hf),_,rfl,l1,vsix,rfl,SqL.of upd_same,fun b1 nb1=>?_⟩
  rw [ints_len,cut_six]
  have U6:=U5.upd nb1 (o:=.lst (vstrs (six.take fs.length)))
  have hb1:=upd_same (H:=upd H10 l1 (.lst vsix)) (a:=b1) (o:=.lst (vstrs (six.take fs.length)))
  generalize upd (upd H10 l1 (.lst vsix)) b1 (.lst (vstrs (six.take fs.length))) = H11 at U6 hb1 ⊢
  have P12:=P10.same U6
  refine ⟨_,rfl,_,rfl,_,rfl,_,rfl,p,_,_,_,rfl,rfl,SqT.of P12.top,rfl,pf,_,rfl,.inl (SqL.of P12.hf),fun f nf=>?_⟩
  have V10:=(Same.refl H11).upd nf (o:=.lst (vints fs))
  have hf10:=upd_same (H:=H11) (a:=f) (o:=.lst (vints fs))
  generalize upd H11 f (.lst (vints fs)) = H12 at V10 hf10 ⊢
  have X12:=(U4.trans U6).trans V10
  have Z12:=U9.trans X12
  intro x dx nx ndx ne
  have nx' : upd H12 dx (.own x) x = none:=by rw [upd_ne (Ne.symm ne)]; exact nx
  have U:=((Same.refl H12).upd ndx (o:=.own x)).upd nx' (o:=.ins AR.C_Net dx [])
  have W12:=(V8.trans X12).trans U
  refine ⟨x,dx,b1,d1,t,g,f,ts',gs',netR tk gv fs,rfl,upd_same,ok,SqL.of ((V10.trans U) _ _ hb1),SqL.of (((U6.trans V10).trans U) _ _ hd1),SqL.of (W12 _ _ ht6),R6'.same W12,SqL.of ((X12.trans U) _ _ hg8),R8'.same (X12.trans U),U _ _ hf10,fun b2 d2 t2 g2 f2 ts2 gs2 H2 fr kp NI=>⟨rfl,?_⟩⟩
  exact hQ x dx b2 d2 t2 g2 f2 ts2 gs2 H2 (Z12.free nx) (Z12.trans fun q o e=>kp q o (U q o e) (ne_of_none e nx)) NI ok
theorem sc_is_no_more : FnScope ["number", "bound"] ["number", "bound"] (defScope s_is_no_more) := ⟨rfl, rfl, rfl, by decide +kernel, rfl, by decide +kernel, by decide +kernel⟩
set_option maxHeartbeats 4000000 in
theorem ok_is_no_more (T : Txt K mg AR FR) : FnOk P w K mg base CX0 1 AR.f_is_no_more FR.d_is_no_more ["number", "bound"] (sp_is_no_more K) := by
 refine T.F_is_no_more.ok sc_is_no_more (fun vs H Q E h=>?_) (fun cdv A outer s H vs Q E hr h=>?_)
 ·obtain ⟨a,b,rfl,hQ⟩:=h
  rfl
 ·obtain ⟨a,b,rfl,hQ⟩:=h
  refine ⟨_,(pss_one (ps_ret (pe_or (pe_cmpR op_isN (pv 1) pe_non (nomark _)) (pe_one (pe_and (pe_cmpR op_notN (pv 0) pe_non (nomark _)) (pe_one (pe_cmpR op_le (pv 0) (pv 1) (nomark _)))))))),?_⟩
  try dsimp only [kx1,kx2,kx3,Cx.nox,Cx.wish]
  cases b with
  | none=>exact ⟨_,rfl,rfl,_,rfl,iteD (fun _=>hQ) (fun h=>absurd rfl h)⟩
  | some j =>
   refine ⟨_,rfl,rfl,_,rfl,iteD (fun h=>nomatch h) (fun _=>?_)⟩
   cases a with
   | none=>exact ⟨_,rfl,rfl,_,rfl,iteND (fun h=>absurd rfl h) (fun _=>hQ)⟩
   | some i=>exact ⟨_,rfl,rfl,_,rfl,iteND (fun _=>⟨_,rfl,_,rfl,_,_,rfl,rfl,hQ⟩) (fun h=>nomatch h)⟩
theorem sc_under : FnScope ["low", "high"] ["low", "high"] (defScope s_under) := ⟨rfl, rfl, rfl, by decide +kernel, rfl, by decide +kernel, by decide +kernel⟩
set_option maxHeartbeats 4000000 in
theorem ok_under (T : Txt K mg AR FR) : FnOk P w K mg base CX0 2 AR.f_under FR.d_under ["low", "high"] (sp_under K) := by
 have G_is_no_more : FnOk P w K mg base CX0 1 AR.f_is_no_more FR.d_is_no_more _ (sp_is_no_more K):=ok_is_no_more T
 refine T.F_under.ok sc_under (fun vs H Q E h=>?_) (fun cdv A outer s H vs Q E hr h=>?_)
 ·obtain ⟨a,b,l,h,rfl,ha,hb,hl,hz,hQ⟩:=h
  rfl
 ·obtain ⟨a,b,l,h,rfl,ha,hb,hl,hz,hQ⟩:=h
  refine ⟨_, (pss_one (ps_ret (pe_callB (call_all_list rfl) (by rfl) T.z_all bt_all (pa_cons (pe_comp (N' := ["number", "bound"]) (nt := 2) (caps := []) _ _ (CompScope.of (by kernel_rfl)) (pi_zip (by rfl) T.z_zip (pa_cons (pv 0) (pa_cons (pv 1) pa_nil))) (fun _ => (pg_tup (by rfl) (pgs_cons (pg_nameC (i := 0) ["number", "bound"] (by decide +kernel) (by rfl)) (pgs_cons (pg_nameC (i := 1) ["number", "bound"] (by decide +kernel) (by rfl)) pgs_nil)))) (fun _ => pts_nil) (fun _ => (pe_call G_is_no_more (hr.mono (by decide)) (by rfl) T.m_is_no_more T.F_is_no_more.kp T.b_is_no_more .nil pass0 (pa_cons (pv 0) (pa_cons (pv 1) pa_nil))))) pa_nil)))), ?_⟩
  try dsimp only [kx1,kx2,kx3,Cx.nox,Cx.wish]
  refine ⟨_,rfl,_,rfl,a,b,_,_,rfl,ha,hb,?_⟩
  refine comp_zip1 (τ:=[]) gNo (by rw [vmk_len,vmk_len]; exact hl) (by rw [vmk_len]; exact small70 hz) ha hb ?_ ?_
  ·intro B x w H2 hx hw S Q' hq
   obtain ⟨i,_,rfl⟩:=vmk_mem hx
   obtain ⟨j,_,rfl⟩:=vmk_mem hw
   have h:=hq H2 (Same.refl _)
   rw [gNo_vm] at h
   exact ⟨_,rfl,_,rfl,i,j,rfl,h⟩
  ·intro H2 S p hp
   rw [zip_no]
   exact ⟨p,_,rfl,SqL.of upd_same,hQ _ (S.upd hp)⟩
theorem sc_first_above : FnScope ["tree", "node", "other"] ["tree", "node"] (defScope s_first_above) := ⟨rfl, rfl, rfl, by decide +kernel, rfl, by decide +kernel, by decide +kernel⟩
set_option maxHeartbeats 4000000 in
theorem ok_first_above (T : Txt K mg AR FR) : FnOk P w K mg base CX0 3 AR.f_first_above FR.d_first_above ["tree", "node"] (sp_first_above AR.C_Tree K) := by
 have G_Tree_init : FnOk P w K mg base CX0 1 AR.f_Tree_init FR.d_Tree_init _ (sp_Tree_init AR.C_Tree K):=ok_Tree_init T
 have G_under : FnOk P w K mg base CX0 2 AR.f_under FR.d_under _ (sp_under K):=ok_under T
 refine T.F_first_above.ok sc_first_above (fun vs H Q E h=>?_) (fun cdv A outer s H vs Q E hr h=>?_)
 ·obtain ⟨y,dy,m,p,c,l,a,ms,ls,w,n,z,rfl,t,hn,h60,wd,z6,hQ⟩:=h
  rfl
 ·obtain ⟨y,dy,m,p,c,l,a,ms,ls,w,n,z,rfl,t,hn,h60,wd,z6,hQ⟩:=h
  refine ⟨_,(pss_cons (ps_for PassesOwn.never rfl (pi_range1 (by rfl) T.z_range (pa_cons (pv 1) pa_nil)) (pg_name (i:=2) sc_first_above.nd (by rfl) (Or.inl rfl))
   (pss_one (ps_if (pt_val (pe_call G_under (hr.mono (by decide)) (by rfl) T.m_under T.F_under.kp T.b_under .nil pass0 (pa_cons (pe_ix ix_list (pe_fld (pv 0) rfl) (pv 1) (fun _ _=>rfl)) (pa_cons (pe_ix ix_list (pe_fld (pv 0) rfl) (pv 2) (fun _ _=>rfl)) pa_nil)))) (pss_one (ps_ret (pv 2))) pss_nil)))
   (pss_one (ps_ret (pe_un un_neg pe_int)))),?_⟩
  try dsimp only [kx1,kx2,kx3,Cx.nox,Cx.wish]
  refine ⟨_,rfl,_,rfl,by omega,by omega,?_⟩
  rw [Int.toNat_natCast]
  refine for_range (n:=_) (fun i σ H2=>∃ o,σ = [some (.ref y),some (.int n),o]∧Same H H2) ⟨none,rfl,Same.refl _⟩ ?_ ?_
  ·rintro i σ H2 hi ⟨o,rfl,S⟩
   have t2:=t.same S
   have hi' : i < w.marks.length:=by omega
   obtain ⟨qa,ea,fa⟩:=mrows_at t2.rm hn
   obtain ⟨qb,eb,fb⟩:=mrows_at t2.rm hi'
   have l1:=wd _ (List.getElem_mem hn)
   have l2:=wd _ (List.getElem_mem hi')
   refine ⟨_,rfl,y,_,dy,_,_,rfl,t2.ob,T.cl_Tree,T.n_Tree_marks,rfl,_,rfl,m,_,_,_,rfl,rfl,SqL.of t2.hm,ea,_,rfl,y,_,dy,_,_,rfl,t2.ob,T.cl_Tree,T.n_Tree_marks,rfl,_,rfl,m,_,_,_,rfl,rfl,SqL.of t2.hm,by rw [Int.zero_add]; exact eb,qa,qb,_,_,rfl,SqL.of fa,SqL.of fb,by rw [l1,l2],by rw [l1]; omega,fun H3 S3=>⟨_,rfl,?_⟩⟩
   cases u : undB w.marks[n] w.marks[i] with
   | false=>exact iteF ⟨_,rfl,S.trans S3⟩
   | true =>
    refine iteT ⟨_,rfl,hQ _ H3 (S.trans S3) (.inr ⟨i,hi,?_⟩)⟩
    rw [List.getD_eq_getElem?_getD,List.getD_eq_getElem?_getD,List.getElem?_eq_getElem hn,List.getElem?_eq_getElem hi']
    exact u
  ·rintro σ H2 ⟨o,rfl,S⟩
   exact ⟨_,rfl,hQ _ H2 S (.inl (by decide))⟩
theorem sc_may_mark : FnScope ["net", "mark", "door"] ["net", "mark", "door"] (defScope s_may_mark) := ⟨rfl, rfl, rfl, by decide +kernel, rfl, by decide +kernel, by decide +kernel⟩
set_option maxHeartbeats 4000000 in
theorem ok_may_mark (T : Txt K mg AR FR) : FnOk P w K mg base CX0 5 AR.f_may_mark FR.d_may_mark ["net", "mark", "door"] (sp_may_mark AR.C_Net K) := by
 have G_Net_init : FnOk P w K mg base CX0 3 AR.f_Net_init FR.d_Net_init _ (sp_Net_init AR.C_Net K):=ok_Net_init T
 have G_under : FnOk P w K mg base CX0 2 AR.f_under FR.d_under _ (sp_under K):=ok_under T
 refine T.F_may_mark.ok sc_may_mark (fun vs H Q E h=>?_) (fun cdv A outer s H vs Q E hr h=>?_)
 ·obtain ⟨x,dx,b,d,t,g,f,c,ts,gs,N,m,k,rfl,n,ok,hc,hl,hk,hQ⟩:=h
  rfl
 ·obtain ⟨x,dx,b,d,t,g,f,c,ts,gs,N,m,k,rfl,n,ok,hc,hl,hk,hQ⟩:=h
  refine ⟨_,(pss_one (ps_ret (pe_call G_under (hr.mono (by decide)) (by rfl) T.m_under T.F_under.kp T.b_under .nil pass0 (pa_cons (pe_ix ix_list (pe_fld (pv 0) rfl) (pv 2) (fun _ _=>rfl)) (pa_cons (pv 1) pa_nil))))),?_⟩
  try dsimp only [kx1,kx2,kx3,Cx.nox,Cx.wish]
  have b6:=ok.b6
  obtain ⟨qt,et,ft⟩:=rows_at n.tr hk
  have lt:=(ok.tk _ (List.getElem_mem hk)).1
  rw [getDr hk] at hQ
  refine ⟨_,rfl,x,_,dx,_,_,rfl,n.ob,T.cl_Net,T.n_Net_takes,rfl,_,rfl,t,_,_,_,rfl,rfl,SqL.of n.ht,et,_,rfl,qt,c,(N.takes[k]).map some,m,rfl,by rw [← vints_mk]; exact SqL.of ft,hc,by rw [List.length_map,hl,lt],by rw [List.length_map,lt]; omega,hQ⟩
theorem sc_upward : FnScope ["tree", "node", "nodes"] ["tree", "node"] (defScope s_upward) := ⟨rfl, rfl, rfl, by decide +kernel, rfl, by decide +kernel, by decide +kernel⟩
set_option maxHeartbeats 4000000 in
theorem ok_upward (T : Txt K mg AR FR) : FnOk P w K mg base CX0 3 AR.f_upward FR.d_upward ["tree", "node"] (sp_upward AR.C_Tree K) := by
 have G_Tree_init : FnOk P w K mg base CX0 1 AR.f_Tree_init FR.d_Tree_init _ (sp_Tree_init AR.C_Tree K):=ok_Tree_init T
 refine T.F_upward.ok sc_upward (fun vs H Q E h=>?_) (fun cdv A outer s H vs Q E hr h=>?_)
 ·obtain ⟨y,dy,m,p,c,l,a,ms,ls,w,n,rfl,t,hpv,hn,h60,hQ⟩:=h
  rfl
 ·obtain ⟨y,dy,m,p,c,l,a,ms,ls,w,n,rfl,t,hpv,hn,h60,hQ⟩:=h
  refine ⟨_,(pss_cons (ps_set (i:=2) sc_upward.nd rfl (Or.inl rfl) (pe_lst pa_nil))
   (pss_cons (ps_while PassesOwn.never (pt_cmpR op_ge (pv 1) pe_int (nomark _))
   (pss_cons (ps_expr (pe_bm PySem.F.plainAttrs_list PySem.F.slot_list_append PySem.F.type_list_append mt_append (pv 2) (pa_cons (pv 1) pa_nil)))
   (pss_one (ps_set (i:=1) sc_upward.nd rfl (Or.inl rfl) (pe_ix ix_list (pe_fld (pv 0) rfl) (pv 1) (fun _ _=>rfl))))))
   (pss_one (ps_ret (pv 2))))),?_⟩
  try dsimp only [kx1,kx2,kx3,Cx.nox,Cx.wish]
  refine ⟨by show 0 ≤ sizeLine; decide,fun q nq=>?_⟩
  have U:=(Same.refl H).upd nq (o:=.lst [])
  refine ⟨fun k σ H2=>∃ (cur : Int) (ds : List Int),σ = [some (.ref y),some (.int cur),some (.ref q)]∧Same H H2∧H2 q = some (.lst (vints ds))∧k = (cur + 1).toNat∧cur ≤ n∧ds.length + k ≤ n + 1∧ds ++ (if cur < 0 then [] else (upC w.par (cur.toNat + 1) cur.toNat).map fun (k : Nat)=>(k : Int)) = (upC w.par (n + 1) n).map fun (k : Nat)=>(k : Int),
   ⟨_,(n : Int),[],rfl,U,upd_same,rfl,Int.le_refl _,by show 0 + _ ≤ _; omega,by rw [if_neg (by omega),Int.toNat_natCast]; rfl⟩,?_⟩
  rintro k σ H2 ⟨cur,ds,rfl,S2,hq,rfl,cn,dl,ed⟩
  refine ⟨_,rfl,_,_,rfl,rfl,_,rfl,?_⟩
  refine iteD (fun h=>⟨_,fun σ' H' z=>z,?_⟩) (fun h=>?_)
  rotate_left
  ·rw [if_pos (by omega),List.append_nil] at ed
   rw [ed] at hq
   exact ⟨_,rfl,hQ q H2 nq S2 hq⟩
  obtain ⟨j,rfl⟩:=Int.eq_ofNat_of_zero_le h
  have hj : j < w.par.length:=by omega
  have t2:=t.same S2
  refine ⟨_,rfl,.inl ⟨rfl,_,SqL.of hq⟩,_,rfl,q,_,_,rfl,rfl,hq,by rw [ints_len]; exact small70 (by omega),?_⟩
  have S3 : Same H (upd H2 q (.lst (vints ds ++ [V.int (j : Int)]))):=S2.upd' nq
  have hq3 : upd H2 q (.lst (vints ds ++ [V.int (j : Int)])) q = some (.lst (vints (ds ++ [(j : Int)]))):=by rw [upd_same,vints_snoc]
  generalize upd H2 q (.lst (vints ds ++ [V.int (j : Int)])) = H3 at S3 hq3 ⊢
  have t3:=t.same S3
  refine ⟨_,rfl,y,_,dy,_,_,rfl,t3.ob,T.cl_Tree,T.n_Tree_parents,rfl,_,rfl,p,_,_,_,rfl,rfl,SqL.of t3.hp,ints_at hj,?_⟩
  have lt:=hpv j hj
  have eg : w.par.getD j (-1) = w.par[j]:=by rw [List.getD_eq_getElem?_getD,List.getElem?_eq_getElem hj]; rfl
  rw [eg] at lt
  refine ⟨(w.par[j] + 1).toNat,by omega,w.par[j],ds ++ [(j : Int)],rfl,S3,hq3,rfl,by omega,by rw [List.length_append,List.length_singleton]; omega,?_⟩
  rw [if_neg (show ¬ ((j : Nat) : Int) < 0 by omega),Int.toNat_natCast,upC_step hpv hj,eg] at ed
  rw [← ed,List.append_assoc]
  congr 1
  by_cases q0 : w.par[j] < 0
  ·rw [if_pos q0,if_pos q0]; rfl
  ·rw [if_neg q0,if_neg q0]; rfl
theorem sc_raised : FnScope ["low", "mark", "grown"] ["low", "mark"] (defScope s_raised) := ⟨rfl, rfl, rfl, by decide +kernel, rfl, by decide +kernel, by decide +kernel⟩
set_option maxHeartbeats 4000000 in
theorem ok_raised (T : Txt K mg AR FR) : FnOk P w K mg base CX0 3 AR.f_raised FR.d_raised ["low", "mark"] (sp_raised K) := by
 have G_under : FnOk P w K mg base CX0 2 AR.f_under FR.d_under _ (sp_under K):=ok_under T
 refine T.F_raised.ok sc_raised (fun vs H Q E h=>?_) (fun cdv A outer s H vs Q E hr h=>?_)
 ·obtain ⟨a,b,l,m,rfl,ha,hb,hl,hz,hN,hR⟩:=h
  rfl
 ·obtain ⟨a,b,l,m,rfl,ha,hb,hl,hz,hN,hR⟩:=h
  refine ⟨_, (pss_cons (ps_setComp (i := 2) (N' := ["before", "number"]) (nt := 2) (caps := []) _ _ (CompScope.of (by kernel_rfl)) sc_raised.nd rfl rfl (pi_zip (by rfl) T.z_zip (pa_cons (pv 0) (pa_cons (pv 1) pa_nil))) (fun _ => (pg_tup (by rfl) (pgs_cons (pg_nameC (i := 0) ["before", "number"] (by decide +kernel) (by rfl)) (pgs_cons (pg_nameC (i := 1) ["before", "number"] (by decide +kernel) (by rfl)) pgs_nil)))) (fun _ => pts_nil) (fun _ => (pe_ifExp (pt_cmpR op_eq (pv 1) (pv 0) (nomark _)) (pv 1) pe_non)))
   (pss_cons (ps_if (PW.pt (pw_or (pt_not (pt_val (pe_call G_under (hr.mono (by decide)) (by rfl) T.m_under T.F_under.kp T.b_under .nil pass0 (pa_cons (pv 0) (pa_cons (pv 1) pa_nil))))) (pw_or1 (pt_cmpR (op_eqM (hu0_of hr)) (pv 2) (pv 1) (nomark _))))) (pss_one (ps_ret pe_non)) pss_nil)
   (pss_one (ps_ret (pv 2))))),?_⟩
  try dsimp only [kx1,kx2,kx3,Cx.nox,Cx.wish]
  refine ⟨_,rfl,_,rfl,a,b,_,_,rfl,ha,hb,?_⟩
  refine comp_zip1 (τ:=[]) gRa (by rw [vmk_len,vmk_len]; exact hl) (by rw [vmk_len]; exact small70 hz) ha hb ?_ ?_
  ·intro B x w H2 hx hw S Q' hq
   obtain ⟨i,_,rfl⟩:=vmk_mem hx
   obtain ⟨j,_,rfl⟩:=vmk_mem hw
   have h:=hq H2 (Same.refl _)
   refine ⟨_,rfl,_,rfl,scal_vm _ _,_,rfl,?_⟩
   unfold gRa at h
   refine iteD (fun e=>?_) (fun e=>?_)
   ·rw [if_pos e] at h
    exact ⟨_,rfl,h⟩
   ·rw [if_neg e] at h
    exact h
  intro H2 S p np
  rw [zip_ra]
  have U:=S.upd np (o:=.lst (vmk (raB l m)))
  have e1:=upd_same (H:=H2) (a:=p) (o:=.lst (vmk (raB l m)))
  have fp:=S.free np
  generalize upd H2 p (.lst (vmk (raB l m))) = H3 at U e1 ⊢
  refine ⟨_,rfl,_,rfl,a,b,l,m,rfl,U.seq ha,U.seq hb,hl,hz,fun H4 S4=>⟨_,rfl,?_⟩⟩
  have U4:=U.trans S4
  cases eU : undB l m with
  | false =>
   refine iteT (iteT (hN ?_ H4 U4))
   unfold raisedO
   rw [if_pos (.inl eU)]
  | true =>
   refine iteF ?_
   refine ⟨_,rfl,_,rfl,p,b,_,_,rfl,rfl,SqL.of (S4 _ _ e1),U4.seq hb,_,rfl,?_⟩
   refine iteD (fun e=>hN ?_ H4 U4) (fun e=>⟨_,rfl,hR _ ?_ p H4 fp U4 (S4 _ _ e1)⟩)
   ·unfold raisedO
    rw [if_pos (.inr e)]
   ·unfold raisedO
    rw [if_neg]
    rintro (z | z)
    ·rw [eU] at z; cases z
    ·exact e z
theorem sc_put_node : FnScope ["tree", "parent", "door", "mark", "room", "loops", "ancestor", "endless"] ["tree", "parent", "door", "mark", "room"] (defScope s_put_node) := ⟨rfl, rfl, rfl, by decide +kernel, rfl, by decide +kernel, by decide +kernel⟩
set_option maxHeartbeats 4000000 in
theorem ok_put_node (T : Txt K mg AR FR) : FnOk P w K mg base (CXF P w) 4 AR.f_put_node FR.d_put_node ["tree", "parent", "door", "mark", "room"] (sp_put_node AR.C_Tree AR.C_TooWide K) := by
 have G_Tree_init : FnOk P w K mg base CX0 1 AR.f_Tree_init FR.d_Tree_init _ (sp_Tree_init AR.C_Tree K):=ok_Tree_init T
 have G_upward : FnOk P w K mg base CX0 3 AR.f_upward FR.d_upward _ (sp_upward AR.C_Tree K):=ok_upward T
 have G_raised : FnOk P w K mg base CX0 3 AR.f_raised FR.d_raised _ (sp_raised K):=ok_raised T
 refine T.F_put_node.okF sc_put_node (fun vs H Q E h=>?_) (fun cdv A outer s H vs Q E hr h=>?_)
 ·obtain ⟨H0,y,dy,m,p,c,l,a,pm,ms,ls,w,mk,z,par,door,room,rfl,S0,f1,f2,f3,f4,t,hpv,lpp,lcc,lll,wd,hpar,h60,hpm,mkl,z6,om,hQ,hE⟩:=h
  rfl
 ·obtain ⟨H0,y,dy,m,p,c,l,a,pm,ms,ls,w,mk,z,par,door,room,rfl,S0,f1,f2,f3,f4,t,hpv,lpp,lcc,lll,wd,hpar,h60,hpm,mkl,z6,om,hQ,hE⟩:=h
  refine ⟨_,(pss_cons (ps_if (pt_cmpR op_ge (pe_callB call_len_seq (by rfl) T.z_len bt_len (pa_cons (pe_fld (pv 0) rfl) pa_nil)) (pv 4) (nomark _)) (pss_one (ps_raise raiseF T.xp_TooWide (by rfl) T.mC_TooWide (pa_cons pe_str pa_nil))) pss_nil)
   (pss_cons (ps_set (i:=5) sc_put_node.nd rfl (Or.inl rfl) (pe_lst pa_nil))
   (pss_cons (ps_for PassesOwn.leaving rfl (pi_list (pe_call G_upward (hr.mono (by decide)) (by rfl) T.m_upward T.F_upward.kp T.b_upward .nil pass0 (pa_cons (pv 0) (pa_cons (pv 1) pa_nil)))) (pg_name (i:=6) sc_put_node.nd (by rfl) (Or.inl rfl))
   (pss_cons (ps_set (i:=7) sc_put_node.nd rfl (Or.inl rfl) (pe_call G_raised (hr.mono (by decide)) (by rfl) T.m_raised T.F_raised.kp T.b_raised .nil pass0 (pa_cons (pe_ix ix_list (pe_fld (pv 0) rfl) (pv 6) (fun _ _=>rfl)) (pa_cons (pv 3) pa_nil))))
   (pss_one (ps_if (pt_cmpR op_notN (pv 7) pe_non (nomark _)) (pss_cons (ps_set (i:=3) sc_put_node.nd rfl (Or.inl rfl) (pv 7))
   (pss_one (ps_expr (pe_bm PySem.F.plainAttrs_list PySem.F.slot_list_append PySem.F.type_list_append mt_append (pv 5) (pa_cons (pv 6) pa_nil))))) pss_nil))))
   (pss_cons (ps_expr (pe_bm PySem.F.plainAttrs_list PySem.F.slot_list_append PySem.F.type_list_append mt_append (pe_fld (pv 0) rfl) (pa_cons (pv 3) pa_nil)))
   (pss_cons (ps_expr (pe_bm PySem.F.plainAttrs_list PySem.F.slot_list_append PySem.F.type_list_append mt_append (pe_fld (pv 0) rfl) (pa_cons (pv 1) pa_nil)))
   (pss_cons (ps_expr (pe_bm PySem.F.plainAttrs_list PySem.F.slot_list_append PySem.F.type_list_append mt_append (pe_fld (pv 0) rfl) (pa_cons (pv 2) pa_nil)))
   (pss_one (ps_expr (pe_bm PySem.F.plainAttrs_list PySem.F.slot_list_append PySem.F.type_list_append mt_append (pe_fld (pv 0) rfl) (pa_cons (pv 5) pa_nil)))))))))),?_⟩
  try dsimp only [kx1,kx2,kx3,Cx.nox,Cx.wish]
  have vb : (ms.map V.ref).length = w.marks.length:=by rw [List.length_map,t.rm.length]
  refine ⟨_,rfl,y,_,dy,_,_,rfl,t.ob,T.cl_Tree,T.n_Tree_marks,rfl,m,_,rfl,.inl (SqL.of t.hm),_,rfl,_,_,rfl,rfl,_,rfl,?_⟩
  rw [vb]
  refine iteD (fun h2=>⟨by show 1 ≤ sizeLine; decide,hE (by omega) _ S0⟩) (fun h2=>?_)
  refine ⟨by show 0 ≤ sizeLine; decide,fun pl npl=>?_⟩
  have U1:=(Same.refl H).upd npl (o:=.lst [])
  have hpl1:=upd_same (H:=H) (a:=pl) (o:=.lst [])
  have pml : pm ≠ pl:=ne_of_none hpm npl
  generalize upd H pl (.lst []) = H1 at U1 hpl1 ⊢
  generalize hch : upC w.par (par + 1) par = ch at hQ
  have chl : ∀ k ∈ ch,k ≤ par:=fun k hk=>upC_le hpv _ _ (by omega) k (hch ▸ hk)
  refine ⟨_,rfl,_,rfl,y,dy,m,p,c,l,a,ms,ls,w,par,rfl,t.same U1,hpv,by omega,by omega,fun pu H2 npu S2 hpu=>?_⟩
  rw [hch] at hpu
  have U2:=U1.trans S2
  have plu : pl ≠ pu:=ne_of_none hpl1 npu
  have npu' : H pu = none:=U1.free npu
  refine ⟨pu,rfl,⟨_,SqL.of hpu⟩,for_list (K:=K) (a:=pu) (xs:=vints (ch.map fun (k : Nat)=>(k : Int))) (fun i σ H3=>∃ (cm : Addr) (cur : Mark) (lp : List Int) (o6 o7 : Option V),σ = [some (.ref y),some (.int par),some (.int door),some (.ref cm),some (.int room),some (.ref pl),o6,o7]∧Same H H3∧H3 pu = some (.lst (vints (ch.map fun (k : Nat)=>(k : Int))))∧H3 pl = some (.lst (vints lp))∧H3 cm = some (.lst (vmk cur))∧Out5 m p c l a cm∧cm ≠ pl∧cm ≠ pu∧cur.length = z∧lp.length ≤ i∧raF w.marks mk ch = ((raF w.marks cur (ch.drop i)).1,lp ++ (raF w.marks cur (ch.drop i)).2))
   ⟨pm,mk,[],none,none,rfl,U2,hpu,S2 _ _ hpl1,U2 _ _ hpm,om,pml,ne_of_none hpm npu',mkl,Nat.le_refl _,rfl⟩ (fun i σ H3 _ hp4=>by obtain ⟨_,_,_,_,_,_,_,h,_⟩:=hp4; exact SqL.of h) ?_ ?_⟩
  ·rintro i x σ H3 hx ⟨cm,cur,lp,o6,o7,rfl,S3,hu3,hl3,hc3,oc,cpl,cpu,cl,ll,er⟩
   obtain ⟨j,hj,rfl⟩:=ints_get hx
   rw [List.getElem?_map] at hj
   obtain ⟨k,hk,rfl⟩:=Option.map_eq_some_iff.mp hj
   have hi : i < ch.length:=(List.getElem?_eq_some_iff.mp hk).1
   have ck : ch.drop i = k :: ch.drop (i + 1):=by
    rw [List.drop_eq_getElem_cons hi]
    congr 1
    exact (List.getElem?_eq_some_iff.mp hk).2
   have kp:=chl k (List.mem_of_getElem? hk)
   have hkm : k < w.marks.length:=by omega
   have t3:=t.same S3
   obtain ⟨qa,ea,fa⟩:=mrows_at t3.rm hkm
   have l1:=wd _ (List.getElem_mem hkm)
   have eg : w.marks.getD k [] = w.marks[k]:=by rw [List.getD_eq_getElem?_getD,List.getElem?_eq_getElem hkm]; rfl
   have chn : ch.length ≤ par + 1:=by rw [← hch]; exact upC_len _ _
   rw [ck] at er
   refine ⟨_,rfl,y,_,dy,_,_,rfl,t3.ob,T.cl_Tree,T.n_Tree_marks,rfl,_,rfl,m,_,_,_,rfl,rfl,SqL.of t3.hm,ea,_,rfl,qa,cm,_,cur,rfl,SqL.of fa,SqL.of hc3,by rw [l1,cl],by rw [l1]; omega,fun eN H4 S4=>?_,fun r eR q H4 nq S4 hq4=>?_⟩
   ·refine ⟨_,rfl,rfl,_,rfl,?_⟩
    refine iteND (fun z=>absurd rfl z) (fun _=>?_)
    rw [raF_no (by rw [eg]; exact eN)] at er
    exact ⟨cm,cur,lp,_,_,rfl,S3.trans S4,S4 _ _ hu3,S4 _ _ hl3,S4 _ _ hc3,oc,cpl,cpu,cl,by omega,er⟩
   ·refine ⟨_,rfl,rfl,_,rfl,?_⟩
    refine iteND (fun _=>?_) (fun z=>nomatch z)
    rw [raF_go (by rw [eg]; exact eR)] at er
    have hl4:=S4 _ _ hl3
    refine ⟨_,rfl,?_⟩
    refine ⟨_,rfl,.inl ⟨rfl,_,SqL.of hl4⟩,_,rfl,pl,_,_,rfl,rfl,hl4,by rw [ints_len]; exact small70 (by omega),?_⟩
    have qpl : q ≠ pl:=Ne.symm (ne_of_none hl3 nq)
    have lr:=(raised_und (by rw [l1,cl]) eR).2.1
    refine ⟨q,r,lp ++ [(k : Int)],_,_,rfl,(S3.trans S4).upd' npl,by rw [upd_ne (Ne.symm plu)]; exact S4 _ _ hu3,by rw [upd_same,vints_snoc],by rw [upd_ne qpl]; exact hq4,t3.out nq,qpl,Ne.symm (ne_of_none hu3 nq),by rw [lr,cl],by rw [List.length_append,List.length_singleton]; omega,?_⟩
    rw [er,List.append_assoc]
    rfl
  ·rintro σ H3 ⟨cm,cur,lp,o6,o7,rfl,S3,hu3,hl3,hc3,oc,cpl,cpu,cl,ll,er⟩
   rw [ints_len,List.length_map,List.drop_length] at er
   have er : raF w.marks mk ch = (cur,lp):=by rw [er]; show (cur,lp ++ []) = _; rw [List.append_nil]
   rw [er] at hQ
   have t3:=t.same S3
   have S03:=S0.trans S3
   have ol : Out5 m p c l a pl:=t.out npl
   refine ⟨_,rfl,y,_,dy,_,_,rfl,t3.ob,T.cl_Tree,T.n_Tree_marks,rfl,.inl ⟨rfl,_,SqL.of t3.hm⟩,_,rfl,m,_,_,rfl,rfl,t3.hm,by rw [vb]; exact small70 (by omega),?_⟩
   have S4 : Same H0 (upd H3 m (.lst (ms.map V.ref ++ [V.ref cm]))):=S03.upd' f1
   have t4:=t3.putM hc3 oc
   have hl4 : upd H3 m (.lst (ms.map V.ref ++ [V.ref cm])) pl = some (.lst (vints lp)):=by rw [upd_ne ol.m]; exact hl3
   generalize upd H3 m (.lst (ms.map V.ref ++ [V.ref cm])) = H4 at S4 t4 hl4 ⊢
   refine ⟨_,rfl,y,_,dy,_,_,rfl,t4.ob,T.cl_Tree,T.n_Tree_parents,rfl,.inl ⟨rfl,_,SqL.of t4.hp⟩,_,rfl,p,_,_,rfl,rfl,t4.hp,by rw [ints_len]; exact small70 (by show w.par.length ≤ _; omega),?_⟩
   have S5 : Same H0 (upd H4 p (.lst (vints w.par ++ [V.int (par : Int)]))):=S4.upd' f2
   have t5:=t4.putP (x:=(par : Int))
   have hl5 : upd H4 p (.lst (vints w.par ++ [V.int (par : Int)])) pl = some (.lst (vints lp)):=by rw [upd_ne ol.p]; exact hl4
   generalize upd H4 p (.lst (vints w.par ++ [V.int (par : Int)])) = H5 at S5 t5 hl5 ⊢
   refine ⟨_,rfl,y,_,dy,_,_,rfl,t5.ob,T.cl_Tree,T.n_Tree_comers,rfl,.inl ⟨rfl,_,SqL.of t5.hc⟩,_,rfl,c,_,_,rfl,rfl,t5.hc,by rw [ints_len]; exact small70 (by show w.com.length ≤ _; omega),?_⟩
   have S6 : Same H0 (upd H5 c (.lst (vints w.com ++ [V.int (door : Int)]))):=S5.upd' f3
   have t6:=t5.putC (x:=(door : Int))
   have hl6 : upd H5 c (.lst (vints w.com ++ [V.int (door : Int)])) pl = some (.lst (vints lp)):=by rw [upd_ne ol.c]; exact hl5
   generalize upd H5 c (.lst (vints w.com ++ [V.int (door : Int)])) = H6 at S6 t6 hl6 ⊢
   refine ⟨_,rfl,y,_,dy,_,_,rfl,t6.ob,T.cl_Tree,T.n_Tree_loops,rfl,.inl ⟨rfl,_,SqL.of t6.hl⟩,_,rfl,l,_,_,rfl,rfl,t6.hl,by rw [List.length_map,t6.rl.length]; exact small70 (by show w.loops.length ≤ _; omega),?_⟩
   exact hQ (by omega) _ _ _ (S6.upd' f4) (t6.putL hl6 ol)
theorem sc_NoGo_init : FnScope ["self", "words", "at"] ["self", "words", "at"] (defScope s_NoGo_init) := ⟨rfl, rfl, rfl, by decide +kernel, rfl, by decide +kernel, by decide +kernel⟩
set_option maxHeartbeats 4000000 in
theorem ok_NoGo_init (T : Txt K mg AR FR) : FnOk P w K mg base CX0 1 AR.f_NoGo_init FR.d_NoGo_init ["self", "words", "at"] (sp_NoGo_init AR.C_NoGo K) := by
 refine T.F_NoGo_init.ok sc_NoGo_init (fun vs H Q E h=>?_) (fun cdv A outer s H vs Q E hr h=>?_)
 ·obtain ⟨e,t,w',y,rfl,he,hQ⟩:=h
  rfl
 ·obtain ⟨e,t,w',y,rfl,he,hQ⟩:=h
  refine ⟨_,(pss_cons (ps_xinit T.xb_HallError (by rfl) T.mC_HallError (pa_cons (pv 0) (pa_cons (pv 1) pa_nil)))
   (pss_one (ps_xset (pv 0) (pv 2)))),?_⟩
  try dsimp only [kx1,kx2,kx3,Cx.nox,Cx.wish]
  refine ⟨_,rfl,_,rfl,e,AR.C_NoGo,t,_,rfl,he,T.ec_NoGo,fun t'=>?_⟩
  refine ⟨_,rfl,_,rfl,e,AR.C_NoGo,AR.C_HallError,t',rfl,upd_same,T.ec_NoGo,T.xs_NoGo,T.xa_NoGo_at,fun dx nd=>hQ dx t' ?_⟩
  have ne : dx ≠ e:=fun z=>by rw [z,upd_same] at nd; cases nd
  rw [upd_ne ne] at nd
  exact nd
theorem sc_refuse_unlike : FnScope ["ones", "others"] ["ones", "others"] (defScope s_refuse_unlike) := ⟨rfl, rfl, rfl, by decide +kernel, rfl, by decide +kernel, by decide +kernel⟩
set_option maxHeartbeats 4000000 in
theorem ok_refuse_unlike (T : Txt K mg AR FR) : FnOk P w K mg base CX0 1 AR.f_refuse_unlike FR.d_refuse_unlike ["ones", "others"] (sp_refuse_unlike K) := by
 refine T.F_refuse_unlike.ok sc_refuse_unlike (fun vs H Q E h=>?_) (fun cdv A outer s H vs Q E hr h=>?_)
 ·obtain ⟨a,b,xs,ys,rfl,ha,hb,hl,hQ⟩:=h
  rfl
 ·obtain ⟨a,b,xs,ys,rfl,ha,hb,hl,hQ⟩:=h
  refine ⟨_,(pss_one (ps_if (pt_cmpR op_ne (pe_callB call_len_seq (by rfl) T.z_len bt_len (pa_cons (pv 0) pa_nil)) (pe_callB call_len_seq (by rfl) T.z_len bt_len (pa_cons (pv 1) pa_nil)) (nomark _)) (pss_one ps_never) pss_nil)),?_⟩
  try dsimp only [kx1,kx2,kx3,Cx.nox,Cx.wish]
  refine ⟨_,rfl,a,_,rfl,.inl ha,_,rfl,b,_,rfl,.inl hb,rfl,_,rfl,?_⟩
  refine iteND (fun hne=>?_) (fun _=>hQ)
  exact absurd (by rw [hl]) hne
theorem sc_less : FnScope ["ones", "others"] ["ones", "others"] (defScope s_less) := ⟨rfl, rfl, rfl, by decide +kernel, rfl, by decide +kernel, by decide +kernel⟩
set_option maxHeartbeats 4000000 in
theorem ok_less (T : Txt K mg AR FR) : FnOk P w K mg base CX0 2 AR.f_less FR.d_less ["ones", "others"] (sp_less K) := by
 have G_refuse_unlike : FnOk P w K mg base CX0 1 AR.f_refuse_unlike FR.d_refuse_unlike _ (sp_refuse_unlike K):=ok_refuse_unlike T
 refine T.F_less.ok sc_less (fun vs H Q E h=>?_) (fun cdv A outer s H vs Q E hr h=>?_)
 ·obtain ⟨a,b,xs,ys,rfl,ha,hb,hl,hz,hQ⟩:=h
  rfl
 ·obtain ⟨a,b,xs,ys,rfl,ha,hb,hl,hz,hQ⟩:=h
  refine ⟨_,(pss_cons (ps_expr (pe_call G_refuse_unlike (hr.mono (by decide)) (by rfl) T.m_refuse_unlike T.F_refuse_unlike.kp T.b_refuse_unlike .nil pass0 (pa_cons (pv 0) (pa_cons (pv 1) pa_nil))))
   (pss_one (ps_ret (pe_comp (N' := ["one", "other"]) (nt := 2) (caps := []) _ _ (CompScope.of (by kernel_rfl)) (pi_zip (by rfl) T.z_zip (pa_cons (pv 0) (pa_cons (pv 1) pa_nil))) (fun _ => (pg_tup (by rfl) (pgs_cons (pg_nameC (i := 0) ["one", "other"] (by decide +kernel) (by rfl)) (pgs_cons (pg_nameC (i := 1) ["one", "other"] (by decide +kernel) (by rfl)) pgs_nil)))) (fun _ => pts_nil) (fun _ => (pe_op op_sub (pv 0) (pv 1))))))), ?_⟩
  try dsimp only [kx1,kx2,kx3,Cx.nox,Cx.wish]
  refine ⟨_,rfl,_,rfl,a,b,_,_,rfl,ha,hb,by rw [ints_len,ints_len]; exact hl,?_⟩
  refine ⟨_,rfl,_,rfl,a,b,_,_,rfl,ha,hb,?_⟩
  refine comp_zip1 (τ:=[]) (gInt fun i j=>i - j) (by rw [ints_len,ints_len]; exact hl) (by rw [ints_len]; exact small70 hz) ha hb ?_ ?_
  ·intro B x w H2 hx hw S Q' hq
   obtain ⟨i,_,rfl⟩:=ints_mem hx
   obtain ⟨j,_,rfl⟩:=ints_mem hw
   exact ⟨_,rfl,_,rfl,_,_,rfl,rfl,hq H2 (Same.refl _)⟩
  ·intro H2 S p hp
   rw [zip_ints (f:=fun i j=>i - j) fun _ _=>rfl]
   exact hQ p _ (S.free hp) (S.upd hp) upd_same
theorem sc_gain : FnScope ["net", "door"] ["net", "door"] (defScope s_gain) := ⟨rfl, rfl, rfl, by decide +kernel, rfl, by decide +kernel, by decide +kernel⟩
set_option maxHeartbeats 4000000 in
theorem ok_gain (T : Txt K mg AR FR) : FnOk P w K mg base CX0 5 AR.f_gain FR.d_gain ["net", "door"] (sp_gain AR.C_Net K) := by
 have G_Net_init : FnOk P w K mg base CX0 3 AR.f_Net_init FR.d_Net_init _ (sp_Net_init AR.C_Net K):=ok_Net_init T
 have G_less : FnOk P w K mg base CX0 2 AR.f_less FR.d_less _ (sp_less K):=ok_less T
 refine T.F_gain.ok sc_gain (fun vs H Q E h=>?_) (fun cdv A outer s H vs Q E hr h=>?_)
 ·obtain ⟨x,dx,b,d,t,g,f,ts,gs,N,k,kt,kg,rfl,n,ok,hQ⟩:=h
  rfl
 ·obtain ⟨x,dx,b,d,t,g,f,ts,gs,N,k,kt,kg,rfl,n,ok,hQ⟩:=h
  refine ⟨_,(pss_one (ps_ret (pe_call G_less (hr.mono (by decide)) (by rfl) T.m_less T.F_less.kp T.b_less .nil pass0 (pa_cons (pe_ix ix_list (pe_fld (pv 0) rfl) (pv 1) (fun _ _=>rfl)) (pa_cons (pe_ix ix_list (pe_fld (pv 0) rfl) (pv 1) (fun _ _=>rfl)) pa_nil))))),?_⟩
  try dsimp only [kx1,kx2,kx3,Cx.nox,Cx.wish]
  obtain ⟨qg,eg,fg⟩:=rows_at n.gr kg
  obtain ⟨qt,et,ft⟩:=rows_at n.tr kt
  have lg:=(ok.gv _ (List.getElem_mem kg)).1
  have lt:=(ok.tk _ (List.getElem_mem kt)).1
  have b6:=ok.b6
  exact ⟨_,rfl,x,_,dx,_,_,rfl,n.ob,T.cl_Net,T.n_Net_gives,rfl,_,rfl,g,_,_,_,rfl,rfl,SqL.of n.hg,eg,_,rfl,x,_,dx,_,_,rfl,n.ob,T.cl_Net,T.n_Net_takes,rfl,_,rfl,t,_,_,_,rfl,rfl,SqL.of n.ht,et,qg,qt,_,_,rfl,SqL.of fg,SqL.of ft,by omega,by omega,hQ⟩
theorem sc_mark_after : FnScope ["net", "mark", "door"] ["net", "mark", "door"] (defScope s_mark_after) := ⟨rfl, rfl, rfl, by decide +kernel, rfl, by decide +kernel, by decide +kernel⟩
set_option maxHeartbeats 4000000 in
theorem ok_mark_after (T : Txt K mg AR FR) : FnOk P w K mg base (CXF P w) 6 AR.f_mark_after FR.d_mark_after ["net", "mark", "door"] (sp_mark_after AR.C_Net AR.C_NoGo K) := by
 have G_Net_init : FnOk P w K mg base CX0 3 AR.f_Net_init FR.d_Net_init _ (sp_Net_init AR.C_Net K):=ok_Net_init T
 have G_may_mark : FnOk P w K mg base CX0 5 AR.f_may_mark FR.d_may_mark _ (sp_may_mark AR.C_Net K):=ok_may_mark T
 have G_NoGo_init : FnOk P w K mg base CX0 1 AR.f_NoGo_init FR.d_NoGo_init _ (sp_NoGo_init AR.C_NoGo K):=ok_NoGo_init T
 have G_gain : FnOk P w K mg base CX0 5 AR.f_gain FR.d_gain _ (sp_gain AR.C_Net K):=ok_gain T
 refine T.F_mark_after.okF sc_mark_after (fun vs H Q E h=>?_) (fun cdv A outer s H vs Q E hr h=>?_)
 ·obtain ⟨x,dx,b,d,t,g,f,c,ts,gs,N,m,k,rfl,n,ok,hc,hl,hk,hQ,hE⟩:=h
  rfl
 ·obtain ⟨x,dx,b,d,t,g,f,c,ts,gs,N,m,k,rfl,n,ok,hc,hl,hk,hQ,hE⟩:=h
  refine ⟨_,(pss_cons (ps_if (pt_not (pt_val (pe_call G_may_mark (hr.mono (by decide)) (by rfl) T.m_may_mark T.F_may_mark.kp T.b_may_mark .nil pass0 (pa_cons (pv 0) (pa_cons (pv 1) (pa_cons (pv 2) pa_nil)))))) (pss_one (ps_raiseI raiseFI T.xn_NoGo G_NoGo_init (hr.mono (by decide)) (by rfl) T.mC_NoGo T.b_NoGo_init (pa_cons pe_str (pa_cons pe_int pa_nil)))) pss_nil)
   (pss_one (ps_ret (pe_comp (N' := ["number", "more"]) (nt := 2) (caps := []) _ _ (CompScope.of (by kernel_rfl)) (pi_zip (by rfl) T.z_zip (pa_cons (pv 1) (pa_cons (pe_call G_gain (hr.mono (by decide)) (by rfl) T.m_gain T.F_gain.kp T.b_gain .nil pass0 (pa_cons (pv 0) (pa_cons (pv 2) pa_nil))) pa_nil))) (fun _ => (pg_tup (by rfl) (pgs_cons (pg_nameC (i := 0) ["number", "more"] (by decide +kernel) (by rfl)) (pgs_cons (pg_nameC (i := 1) ["number", "more"] (by decide +kernel) (by rfl)) pgs_nil)))) (fun _ => pts_nil) (fun _ => (pe_ifExp (pt_cmpR op_isN (pv 0) pe_non (nomark _)) pe_non (pe_op op_add (pv 0) (pv 1)))))))), ?_⟩
  try dsimp only [kx1,kx2,kx3,Cx.nox,Cx.wish]
  have b6:=ok.b6
  have kg : k < N.gives.length:=by rw [ok.gl,← ok.tl]; exact hk
  have lt:=(ok.tk _ (List.getElem_mem hk)).1
  have lg:=(ok.gv _ (List.getElem_mem kg)).1
  refine ⟨_,rfl,_,rfl,_,rfl,x,dx,b,d,t,g,f,c,ts,gs,N,m,k,rfl,n,ok,hc,hl,hk,fun H1 S1=>?_⟩
  refine ⟨_,rfl,?_⟩
  cases hu : undB ((N.takes.getD k []).map some) m with
  | false =>
   refine iteT ?_
   refine ⟨by show 2 ≤ sizeLine; decide,?_⟩
   exact xi_flies (y:=.int 0) fun e H' SS ne he=>hE hu e H' (S1.trans SS) (S1.free ne) he
  | true =>
   refine iteF ?_
   refine ⟨_,rfl,_,rfl,_,rfl,x,dx,b,d,t,g,f,ts,gs,N,k,hk,kg,rfl,n.same S1,ok,fun pg H2 npg S2 hpg=>?_⟩
   have lsb : (List.zipWith (fun i j=>i - j) N.gives[k] N.takes[k]).length = N.bowls.length:=sub_len lg lt
   refine ⟨c,pg,_,_,rfl,(S1.trans S2).seq hc,SqL.of hpg,?_⟩
   refine comp_zip1 (τ:=[]) gAf (by rw [vmk_len,ints_len,lsb,hl]) (by rw [vmk_len,hl]; exact small70 (by omega)) ((S1.trans S2).seq hc) (SqL.of hpg) ?_ ?_
   ·intro B v w H3 hv hw S3 Q' hq
    obtain ⟨o,_,rfl⟩:=vmk_mem hv
    obtain ⟨j,_,rfl⟩:=ints_mem hw
    have h:=hq H3 (Same.refl _)
    rw [gAf_vm] at h
    cases o with
    | none=>exact ⟨_,rfl,rfl,_,rfl,iteD (fun _=>h) (fun q=>absurd rfl q)⟩
    | some i=>exact ⟨_,rfl,rfl,_,rfl,iteD (fun q=>nomatch q) (fun _=>⟨_,rfl,_,rfl,_,_,rfl,rfl,h⟩)⟩
   ·intro H3 S3 p np
    rw [zip_af]
    refine hQ hu p _ ((S1.trans (S2.trans S3)).free np) ((S1.trans (S2.trans S3)).upd np) ?_
    rw [upd_same,getDr hk,getDr kg]
    rfl
theorem sc_look_at : FnScope ["net", "tree", "node", "room", "door"] ["net", "tree", "node", "room"] (defScope s_look_at) := ⟨rfl, rfl, rfl, by decide +kernel, rfl, by decide +kernel, by decide +kernel⟩
set_option maxHeartbeats 4000000 in
theorem ok_look_at (T : Txt K mg AR FR) : FnOk P w K mg base (CXF P w) 7 AR.f_look_at FR.d_look_at ["net", "tree", "node", "room"] (sp_look_at AR.C_Net AR.C_Tree AR.C_TooWide AR.C_NoGo K) := by
 have G_Net_init : FnOk P w K mg base CX0 3 AR.f_Net_init FR.d_Net_init _ (sp_Net_init AR.C_Net K):=ok_Net_init T
 have G_Tree_init : FnOk P w K mg base CX0 1 AR.f_Tree_init FR.d_Tree_init _ (sp_Tree_init AR.C_Tree K):=ok_Tree_init T
 have G_first_above : FnOk P w K mg base CX0 3 AR.f_first_above FR.d_first_above _ (sp_first_above AR.C_Tree K):=ok_first_above T
 have G_may_mark : FnOk P w K mg base CX0 5 AR.f_may_mark FR.d_may_mark _ (sp_may_mark AR.C_Net K):=ok_may_mark T
 have G_put_node : FnOk P w K mg base (CXF P w) 4 AR.f_put_node FR.d_put_node _ (sp_put_node AR.C_Tree AR.C_TooWide K):=ok_put_node T
 have G_mark_after : FnOk P w K mg base (CXF P w) 6 AR.f_mark_after FR.d_mark_after _ (sp_mark_after AR.C_Net AR.C_NoGo K):=ok_mark_after T
 refine T.F_look_at.okF sc_look_at (fun vs H Q E h=>?_) (fun cdv A outer s H vs Q E hr h=>?_)
 ·obtain ⟨H0,x,dx,xb,xd,xt,xg,xf,ts,gs,N,y,dy,m,p,c,l,a,ms,ls,w,n,room,rfl,ni,ok,S0,f1,f2,f3,f4,f5,t,g,hn,r60,hQ,hE⟩:=h
  rfl
 ·obtain ⟨H0,x,dx,xb,xd,xt,xg,xf,ts,gs,N,y,dy,m,p,c,l,a,ms,ls,w,n,room,rfl,ni,ok,S0,f1,f2,f3,f4,f5,t,g,hn,r60,hQ,hE⟩:=h
  refine ⟨_,(pss_cons (ps_expr (pe_bm PySem.F.plainAttrs_list PySem.F.slot_list_append PySem.F.type_list_append mt_append (pe_fld (pv 1) rfl) (pa_cons (pe_call G_first_above (hr.mono (by decide)) (by rfl) T.m_first_above T.F_first_above.kp T.b_first_above .nil pass0 (pa_cons (pv 1) (pa_cons (pv 2) pa_nil))) pa_nil)))
   (pss_cons (ps_if (pt_cmpR op_ge (pe_ix ix_list (pe_fld (pv 1) rfl) (pv 2) (fun _ _=>rfl)) pe_int (nomark _)) (pss_one ps_retN) pss_nil)
   (pss_one (ps_for PassesOwn.leaving rfl (pi_range1 (by rfl) T.z_range (pa_cons (pe_callB call_len_seq (by rfl) T.z_len bt_len (pa_cons (pe_fld (pv 0) rfl) pa_nil)) pa_nil)) (pg_name (i:=4) sc_look_at.nd (by rfl) (Or.inl rfl))
   (pss_one (ps_if (pt_val (pe_call G_may_mark (hr.mono (by decide)) (by rfl) T.m_may_mark T.F_may_mark.kp T.b_may_mark .nil pass0 (pa_cons (pv 0) (pa_cons (pe_ix ix_list (pe_fld (pv 1) rfl) (pv 2) (fun _ _=>rfl)) (pa_cons (pv 4) pa_nil))))) (pss_one (ps_expr (pe_call G_put_node (hr.mono (by decide)) (by rfl) T.m_put_node T.F_put_node.kp T.b_put_node .nil passF (pa_cons (pv 1) (pa_cons (pv 2) (pa_cons (pv 4) (pa_cons (pe_call G_mark_after (hr.mono (by decide)) (by rfl) T.m_mark_after T.F_mark_after.kp T.b_mark_after .nil passF (pa_cons (pv 0) (pa_cons (pe_ix ix_list (pe_fld (pv 1) rfl) (pv 2) (fun _ _=>rfl)) (pa_cons (pv 4) pa_nil)))) (pa_cons (pv 3) pa_nil)))))))) pss_nil)))))),?_⟩
  try dsimp only [kx1,kx2,kx3,Cx.nox,Cx.wish]
  have le:=g.le
  have b1:=ok.b1
  have b6:=ok.b6
  have d8:=ok.d8
  have tl:=ok.tl
  have gl:=ok.gl
  have la:=g.la
  have vd : (vstrs N.doors).length = N.doors.length:=List.length_map ..
  refine ⟨_,rfl,y,_,dy,_,_,rfl,t.ob,T.cl_Tree,T.n_Tree_above,rfl,.inl ⟨rfl,_,SqL.of t.ha⟩,_,rfl,_,rfl,y,dy,m,p,c,l,a,ms,ls,w,n,N.bowls.length,rfl,t,hn,by omega,g.wd,b6,fun x0 H1 S1 hx0=>?_⟩
  have t1:=t.same S1
  refine ⟨a,_,_,rfl,rfl,t1.ha,by rw [ints_len,la]; exact small70 (by omega),?_⟩
  have S2 : Same H0 (upd H1 a (.lst (vints w.above ++ [V.int x0]))):=(S0.trans S1).upd' f5
  have t2:=t1.putA (x:=x0)
  have g2:=g.look hn hx0
  generalize upd H1 a (.lst (vints w.above ++ [V.int x0])) = H2 at S2 t2 ⊢
  have ex : (w.above ++ [x0]).getD n 0 = x0:=gD_E la.symm
  have ln : n < (w.above ++ [x0]).length:=by rw [List.length_append,la]; exact Nat.lt_succ_self n
  have ey : (w.above ++ [x0])[n] = x0:=by
   rw [List.getD_eq_getElem?_getD,List.getElem?_eq_getElem ln] at ex
   exact ex
  refine ⟨_,rfl,y,_,dy,_,_,rfl,t2.ob,T.cl_Tree,T.n_Tree_above,rfl,_,rfl,a,_,_,_,rfl,rfl,SqL.of t2.ha,ints_at ln,?_⟩
  rw [ey]
  refine ⟨_,_,rfl,rfl,_,rfl,?_⟩
  refine iteD (fun h0=>?_) (fun h0=>?_)
  ·exact hQ _ ms ls H2 S2 t2 (g2.next fun z=>by have z : (w.above ++ [x0]).getD n 0 < 0:=z; rw [ex] at z; omega) (Nat.le_refl _)
  have n2:=ni.same S2
  refine ⟨_,rfl,x,_,dx,_,_,rfl,n2.ob,T.cl_Net,T.n_Net_doors,rfl,xd,_,rfl,.inl (SqL.of n2.hd),_,rfl,rngA _,by rw [vd]; omega,?_⟩
  rw [Int.toNat_natCast,vd,← tl]
  refine for_range (n:=_) (fun i σ H3=>∃ (w' : TV) (ms' ls' : List Addr) (o4 : Option V),σ = [some (.ref x),some (.ref y),some (.int n),some (.int room),o4]∧Same H0 H3∧TIn AR.C_Tree H3 y dy m p c l a ms' ls' w'∧TGood N.takes N.gives N.first N.bowls.length room w' n (n + 1)∧w.marks.length ≤ w'.marks.length∧∀ d,d < i→undB ((N.takes.getD d []).map some) (w'.marks.getD n []) = true→∃ q,q < w'.marks.length∧undB (afterM (w'.marks.getD n []) (N.takes.getD d []) (N.gives.getD d [])) (w'.marks.getD q []) = true)
   ⟨_,ms,ls,none,rfl,S2,t2,g2,Nat.le_refl _,fun d h=>absurd h (Nat.not_lt_zero _)⟩ ?_ ?_
  ·rintro i σ H3 hi ⟨w',ms',ls',o4,rfl,S3,t3,g3,lw,hc⟩
   have it : i < N.takes.length:=hi
   have ig : i < N.gives.length:=by omega
   have e0 : (0 : Int) + (i : Int) = ((i : Nat) : Int):=Int.zero_add _
   have n3:=ni.same S3
   have hn' : n < w'.marks.length:=by omega
   have le3:=g3.le
   obtain ⟨qa,ea,fqa⟩:=mrows_at t3.rm hn'
   have eg : w'.marks.getD n [] = w'.marks[n]:=by rw [List.getD_eq_getElem?_getD,List.getElem?_eq_getElem hn']; rfl
   have lq:=g3.wd _ (List.getElem_mem hn')
   have lt : (N.takes.getD i []).length = N.bowls.length:=by rw [getDr it]; exact (ok.tk _ (List.getElem_mem it)).1
   have lg : (N.gives.getD i []).length = N.bowls.length:=by rw [getDr ig]; exact (ok.gv _ (List.getElem_mem ig)).1
   refine ⟨_,rfl,_,rfl,y,_,dy,_,_,rfl,t3.ob,T.cl_Tree,T.n_Tree_marks,rfl,_,rfl,m,_,_,_,rfl,rfl,SqL.of t3.hm,ea,_,rfl,x,dx,xb,xd,xt,xg,xf,qa,ts,gs,N,w'.marks[n],i,by rw [e0]; rfl,n3,ok,SqL.of fqa,lq,it,fun H4 S4=>⟨_,rfl,?_⟩⟩
   have t4:=t3.same S4
   have S34:=S3.trans S4
   cases hb : undB ((N.takes.getD i []).map some) w'.marks[n] with
   | false =>
    refine iteF ⟨w',ms',ls',_,rfl,S34,t4,g3,lw,fun d hd hu=>?_⟩
    by_cases e : d = i
    ·subst e; rw [eg,hb] at hu; cases hu
    ·exact hc d (by omega) hu
   | true =>
    refine iteT ?_
    refine ⟨_,rfl,_,rfl,_,rfl,_,rfl,_,rfl,y,_,dy,_,_,rfl,t4.ob,T.cl_Tree,T.n_Tree_marks,rfl,_,rfl,m,_,_,_,rfl,rfl,SqL.of t4.hm,ea,_,rfl,x,dx,xb,xd,xt,xg,xf,qa,ts,gs,N,w'.marks[n],i,by rw [e0]; rfl,ni.same S34,ok,SqL.of (S4 _ _ fqa),lq,it,fun _ pb H5 npb S5 hpb=>?_,fun h=>absurd (hb.symm.trans h) (by decide)⟩
    have t5:=t4.same S5
    have S35:=S34.trans S5
    have hpb : H5 pb = some (.lst (vmk (afterM w'.marks[n] (N.takes.getD i []) (N.gives.getD i [])))):=hpb
    have al : (afterM w'.marks[n] (N.takes.getD i []) (N.gives.getD i [])).length = N.bowls.length:=after_len lq lt lg
    refine ⟨_,rfl,H0,y,dy,m,p,c,l,a,pb,ms',ls',w',_,N.bowls.length,n,i,room,by rw [e0]; rfl,S35,f1,f2,f3,f4,t5,g3.pv,g3.lp,g3.lc,g3.ll,g3.wd,hn',by omega,hpb,al,b6,t4.out npb,fun hr ms6 ls6 H6 S6 t6=>?_,fun hr H6 S6=>hE (by omega) H6 S6⟩
    have chl : ∀ k ∈ upC w'.par (n + 1) n,k < w'.marks.length:=fun k hk=>by have:=upC_le g3.pv _ _ (by rw [g3.lp]; exact hn') k hk; omega
    obtain ⟨u1,u2,u3⟩:=raF_und g3.wd (upC w'.par (n + 1) n) _ chl al
    have nn:=nonN_after (gv:=N.gives.getD i []) (g3.nn _ (List.getElem_mem hn')) (by rw [lt,lq]) (by rw [lg,lq]) (by rw [getDr ig]; exact (ok.gv _ (List.getElem_mem ig)).2) hb
    replace u3:=u3 nn
    generalize hR : raF w'.marks (afterM w'.marks[n] (N.takes.getD i []) (N.gives.getD i [])) (upC w'.par (n + 1) n) = R at t6 u1 u2 u3
    refine ⟨_,ms6,ls6,_,rfl,S6,t6,g3.put hn' it (by omega) (by omega) hr (by rw [eg]; exact hb) (by rw [eg]; exact hR.symm) u2 u3,?_,fun d hd hu=>?_⟩
    ·show _ ≤ (w'.marks ++ [R.1]).length
     rw [List.length_append]
     omega
    ·show ∃ q,q < (w'.marks ++ [R.1]).length∧undB (afterM ((w'.marks ++ [R.1]).getD n []) (N.takes.getD d []) (N.gives.getD d [])) ((w'.marks ++ [R.1]).getD q []) = true
     have hu : undB ((N.takes.getD d []).map some) ((w'.marks ++ [R.1]).getD n []) = true:=hu
     rw [gD_L hn'] at hu ⊢
     rw [List.length_append]
     by_cases e : d = i
     ·subst e
      refine ⟨w'.marks.length,Nat.lt_succ_self _,?_⟩
      rw [gD_E rfl,eg]
      exact u1
     ·obtain ⟨q,hq,u⟩:=hc d (by omega) hu
      refine ⟨q,Nat.lt_succ_of_lt hq,?_⟩
      rw [gD_L hq]
      exact u
  ·rintro σ H3 ⟨w',ms',ls',o4,rfl,S3,t3,g3,lw,hc⟩
   exact hQ w' ms' ls' H3 S3 t3 (g3.next fun _ d hd hu=>hc d hd hu) lw
theorem sc_grown : FnScope ["net", "room", "tree", "node"] ["net", "room"] (defScope s_grown) := ⟨rfl, rfl, rfl, by decide +kernel, rfl, by decide +kernel, by decide +kernel⟩
set_option maxHeartbeats 4000000 in
theorem ok_grown (T : Txt K mg AR FR) : FnOk P w K mg base (CXF P w) 8 AR.f_grown FR.d_grown ["net", "room"] (sp_grown AR.C_Net AR.C_Tree AR.C_TooWide AR.C_NoGo K) := by
 have G_Net_init : FnOk P w K mg base CX0 3 AR.f_Net_init FR.d_Net_init _ (sp_Net_init AR.C_Net K):=ok_Net_init T
 have G_Tree_init : FnOk P w K mg base CX0 1 AR.f_Tree_init FR.d_Tree_init _ (sp_Tree_init AR.C_Tree K):=ok_Tree_init T
 have G_look_at : FnOk P w K mg base (CXF P w) 7 AR.f_look_at FR.d_look_at _ (sp_look_at AR.C_Net AR.C_Tree AR.C_TooWide AR.C_NoGo K):=ok_look_at T
 refine T.F_grown.okF sc_grown (fun vs H Q E h=>?_) (fun cdv A outer s H vs Q E hr h=>?_)
 ·obtain ⟨x,dx,b,d,t,g,f,ts,gs,N,room,rfl,n,ok,r1,r60,hQ,hE⟩:=h
  rfl
 ·obtain ⟨x,dx,b,d,t,g,f,ts,gs,N,room,rfl,n,ok,r1,r60,hQ,hE⟩:=h
  refine ⟨_,(pss_cons (ps_set (i:=2) sc_grown.nd rfl (Or.inl rfl) (pe_make T.mk_Tree G_Tree_init (hr.mono (by decide)) (by rfl) T.mC_Tree T.b_Tree_init .nil pass0 (pa_cons (pe_fld (pv 0) rfl) pa_nil)))
   (pss_cons (ps_set (i:=3) sc_grown.nd rfl (Or.inl rfl) pe_int)
   (pss_cons (ps_while PassesOwn.leaving (pt_cmpR op_lt (pv 3) (pe_callB call_len_seq (by rfl) T.z_len bt_len (pa_cons (pe_fld (pv 2) rfl) pa_nil)) (nomark _))
   (pss_cons (ps_expr (pe_call G_look_at (hr.mono (by decide)) (by rfl) T.m_look_at T.F_look_at.kp T.b_look_at .nil passF (pa_cons (pv 0) (pa_cons (pv 2) (pa_cons (pv 3) (pa_cons (pv 1) pa_nil))))))
   (pss_one (ps_set (i:=3) sc_grown.nd rfl (Or.inl rfl) (pe_op op_add (pv 3) pe_int)))))
   (pss_one (ps_ret (pv 2)))))),?_⟩
  try dsimp only [kx1,kx2,kx3,Cx.nox,Cx.wish]
  have b1:=ok.b1
  have fl:=ok.fs.1
  refine ⟨_,rfl,x,_,dx,_,_,rfl,n.ob,T.cl_Net,T.n_Net_first,rfl,fun y dy ny ndy ne=>?_⟩
  have ny' : upd H dy (.own y) y = none:=by rw [upd_ne (Ne.symm ne)]; exact ny
  have U:=((Same.refl H).upd ndy (o:=.own y)).upd ny' (o:=.ins AR.C_Tree dy [])
  refine ⟨y,dy,f,N.first,rfl,upd_same,SqL.of (U _ _ n.hf),fun e q m p c l a H1 n1 n2 n3 n4 n5 kp t1=>⟨rfl,?_⟩⟩
  have S1 : Same H H1:=fun q o e=>kp q o (U q o e) (ne_of_none e ny)
  have f1:=U.free n1
  have f2:=U.free n2
  have f3:=U.free n3
  have f4:=U.free n4
  have f5:=U.free n5
  refine ⟨fun k σ H2=>∃ (node : Nat) (w : TV) (ms ls : List Addr),σ = [some (.ref x),some (.int room),some (.ref y),some (.int node)]∧Same H H2∧TIn AR.C_Tree H2 y dy m p c l a ms ls w∧TGood N.takes N.gives N.first N.bowls.length room w node node∧node ≤ w.marks.length∧k = room - node,
   ⟨_,0,_,[e],[q],rfl,S1,t1,TGood.start fl ok.fs.2 r1,Nat.zero_le _,rfl⟩,?_⟩
  rintro k σ H2 ⟨node,w,ms,ls,rfl,S2,t2,g2,hnl,rfl⟩
  have vb : (ms.map V.ref).length = w.marks.length:=by rw [List.length_map,t2.rm.length]
  refine ⟨_,rfl,_,rfl,y,_,dy,_,_,rfl,t2.ob,T.cl_Tree,T.n_Tree_marks,rfl,m,_,rfl,.inl (SqL.of t2.hm),_,_,rfl,rfl,_,rfl,?_⟩
  rw [vb]
  refine iteD (fun h=>⟨_,fun σ' H' z=>z,?_⟩) (fun h=>?_)
  rotate_left
  ·have e : node = w.marks.length:=by omega
   rw [e] at g2
   exact ⟨_,rfl,hQ w y dy m p c l a ms ls H2 ny S2 t2 g2⟩
  have hlt : node < w.marks.length:=by omega
  have le:=g2.le
  refine ⟨_,rfl,_,rfl,_,rfl,_,rfl,H,x,dx,b,d,t,g,f,ts,gs,N,y,dy,m,p,c,l,a,ms,ls,w,node,room,rfl,n,ok,S2,f1,f2,f3,f4,f5,t2,g2,hlt,r60,fun w' ms' ls' H3 S3 t3 g3 lw=>?_,fun h0 H3 S3=>hE h0 H3 S3⟩
  refine ⟨_,rfl,_,_,rfl,rfl,?_⟩
  exact ⟨room - (node + 1),by omega,node + 1,w',ms',ls',rfl,S3,t3,g3,by omega,rfl⟩
theorem sc_law_grown : FnScope ["net", "room", "found"] ["net", "room"] (defScope s_law_grown) := ⟨rfl, rfl, rfl, by decide +kernel, rfl, by decide +kernel, by decide +kernel⟩
set_option maxHeartbeats 4000000 in
theorem ok_law_grown (T : Txt K mg AR FR) : FnOk P w K mg base CX0 9 AR.f_law_grown FR.d_law_grown ["net", "room"] (sp_law_grown AR.C_Net AR.C_Tree K) := by
 have G_Net_init : FnOk P w K mg base CX0 3 AR.f_Net_init FR.d_Net_init _ (sp_Net_init AR.C_Net K):=ok_Net_init T
 have G_Tree_init : FnOk P w K mg base CX0 1 AR.f_Tree_init FR.d_Tree_init _ (sp_Tree_init AR.C_Tree K):=ok_Tree_init T
 have G_grown : FnOk P w K mg base (CXF P w) 8 AR.f_grown FR.d_grown _ (sp_grown AR.C_Net AR.C_Tree AR.C_TooWide AR.C_NoGo K):=ok_grown T
 refine T.F_law_grown.ok sc_law_grown (fun vs H Q E h=>?_) (fun cdv A outer s H vs Q E hr h=>?_)
 ·obtain ⟨x,dx,b,d,t,g,f,ts,gs,N,room,rfl,NI,ok,r1,r60,hQ⟩:=h
  rfl
 ·obtain ⟨x,dx,b,d,t,g,f,ts,gs,N,room,rfl,NI,ok,r1,r60,hQ⟩:=h
  refine ⟨_,(pss_cons (ps_set (i:=2) sc_law_grown.nd rfl (Or.inl rfl) pe_non)
   (pss_cons (ps_try0 (by rfl) T.mC_TooWide (pb_set (i:=2) sc_law_grown.nd rfl (Or.inl rfl) (px_call G_grown (hr.mono (by decide)) (by rfl) T.m_grown T.F_grown.kp T.b_grown (pa_cons (pv 0) (pa_cons (pv 1) pa_nil)))) (fun _ _=>(pss_one (ps_set (i:=2) sc_law_grown.nd rfl (Or.inl rfl) pe_non))))
   (pss_one (ps_ret (pv 2))))),?_⟩
  try dsimp only [kx1,kx2,kx3,Cx.nox,Cx.wish]
  refine seq_join (fun σ' H'=>σ' = [some (.ref x),some (.int room),some .non]∧H = H') ?_ (fun N hN=>hN _ _ ⟨rfl,rfl⟩)
  rintro _ _ ⟨rfl,rfl⟩
  refine seq_join (fun σ' H'=>∃ (fv : V),σ' = [some (.ref x),some (.int room),some fv]∧Same H H'∧((fv = .non∧0 < N.takes.length) ∨ ∃ (w : TV) (y dy m p c l a : Addr) (ms ls : List Addr),fv = .ref y∧TIn AR.C_Tree H' y dy m p c l a ms ls w∧TGood N.takes N.gives N.first N.bowls.length room w w.marks.length w.marks.length)) ?_ ?_
  ·rintro σ' H2 ⟨fv,rfl,S2,hfv⟩
   exact ⟨_,rfl,hQ fv H2 S2 hfv⟩
  ·intro M hM
   refine ⟨_,rfl,_,rfl,x,dx,b,d,t,g,f,ts,gs,N,room,rfl,NI,ok,r1,r60,fun w y dy m p c l a ms ls H11 ny S11 ti tg=>?_,fun ew H11 S11=>?_⟩
   ·exact hM _ _ ⟨_,rfl,S11,.inr ⟨w,y,dy,m,p,c,l,a,ms,ls,rfl,ti,tg⟩⟩
   ·refine ⟨_,rfl,caught_self T.ec_TooWide,fun e o ne xo=>?_⟩
    exact hM _ _ ⟨_,rfl,S11,.inl ⟨rfl,ew⟩⟩
theorem sc_law_tree_of : FnScope ["plan", "room", "gone", "many", "cut", "net", "tree"] ["plan", "room"] (defScope s_law_tree_of) := ⟨rfl, rfl, rfl, by decide +kernel, rfl, by decide +kernel, by decide +kernel⟩
set_option maxHeartbeats 4000000 in
theorem ok_law_tree_of (T : Txt K mg AR FR) : FnOk P w K mg base CX0 10 AR.f_law_tree_of FR.d_law_tree_of ["plan", "room"] (sp_law_tree_of AR.C_Net AR.C_Tree K) := by
 have G_Net_init : FnOk P w K mg base CX0 3 AR.f_Net_init FR.d_Net_init _ (sp_Net_init AR.C_Net K):=ok_Net_init T
 have G_Tree_init : FnOk P w K mg base CX0 1 AR.f_Tree_init FR.d_Tree_init _ (sp_Tree_init AR.C_Tree K):=ok_Tree_init T
 have G_law_made : FnOk P w K mg base CX0 5 AR.f_law_made FR.d_law_made _ (sp_law_made AR.C_Net K):=ok_law_made T
 have G_law_grown : FnOk P w K mg base CX0 9 AR.f_law_grown FR.d_law_grown _ (sp_law_grown AR.C_Net AR.C_Tree K):=ok_law_grown T
 refine T.F_law_tree_of.ok sc_law_tree_of (fun vs H Q E h=>?_) (fun cdv A outer s H vs Q E hr h=>?_)
 ·obtain ⟨p,pt,pg,pf,ts,gs,tk,gv,fs,room,rfl,P,o,r1,r60,hQ⟩:=h
  rfl
 ·obtain ⟨p,pt,pg,pf,ts,gs,tk,gv,fs,room,rfl,P,o,r1,r60,hQ⟩:=h
  refine ⟨_,(pss_cons (ps_for PassesOwn.never rfl (pi_range1 (by rfl) T.z_range (pa_cons (pe_op op_add (pe_callB call_len_seq (by rfl) T.z_len bt_len (pa_cons (pe_ix ix_tup (pv 0) pe_int (fun _ _=>rfl)) pa_nil)) pe_int) pa_nil)) (pg_name (i:=2) sc_law_tree_of.nd (by rfl) (Or.inl rfl))
   (pss_cons (ps_set (i:=3) sc_law_tree_of.nd rfl (Or.inl rfl) (pe_op op_sub (pe_callB call_len_seq (by rfl) T.z_len bt_len (pa_cons (pe_ix ix_tup (pv 0) pe_int (fun _ _=>rfl)) pa_nil)) (pv 2)))
   (pss_cons (ps_set (i:=4) sc_law_tree_of.nd rfl (Or.inl rfl) (pe_tup (pa_cons (pe_slice sl_list (pe_ix ix_tup (pv 0) pe_int (fun _ _=>rfl)) po_none (po_some (pv 3))) (pa_cons (pe_slice sl_list (pe_ix ix_tup (pv 0) pe_int (fun _ _=>rfl)) po_none (po_some (pv 3))) (pa_cons (pe_ix ix_tup (pv 0) pe_int (fun _ _=>rfl)) pa_nil)))))
   (pss_cons (ps_set (i:=5) sc_law_tree_of.nd rfl (Or.inl rfl) (pe_call G_law_made (hr.mono (by decide)) (by rfl) T.m_law_made T.F_law_made.kp T.b_law_made .nil pass0 (pa_cons (pv 4) pa_nil)))
   (pss_cons (ps_set (i:=6) sc_law_tree_of.nd rfl (Or.inl rfl) (pe_call G_law_grown (hr.mono (by decide)) (by rfl) T.m_law_grown T.F_law_grown.kp T.b_law_grown .nil pass0 (pa_cons (pv 5) (pa_cons (pv 1) pa_nil))))
   (pss_one (ps_if (pt_cmpR op_notN (pv 6) pe_non (nomark _)) (pss_one (ps_ret (pe_tup (pa_cons (pv 4) (pa_cons (pv 5) (pa_cons (pv 6) pa_nil)))))) pss_nil)))))))
   (pss_one (ps_ret pe_non))),?_⟩
  try dsimp only [kx1,kx2,kx3,Cx.nox,Cx.wish]
  have t8:=o.t8
  have gl:=o.gl
  have vt : (ts.map V.ref).length = tk.length:=by rw [List.length_map,P.tr.length]
  refine ⟨_,rfl,p,_,_,_,rfl,rfl,SqT.of P.top,rfl,pt,_,rfl,.inl (SqL.of P.ht),_,_,rfl,rfl,_,rfl,by omega,by rw [vt]; omega,?_⟩
  rw [vt,show ((tk.length : Int) + 1).toNat = tk.length + 1 by omega]
  refine for_range (n:=_) (fun i σ H3=>∃ o2 o3 o4 o5 o6,σ = [some (.ref p),some (.int room),o2,o3,o4,o5,o6]∧Same H H3∧i ≤ tk.length) ⟨none,none,none,none,none,rfl,Same.refl _,Nat.zero_le _⟩ ?_ ?_
  ·rintro i σ H3 hi ⟨o2,o3,o4,o5,o6,rfl,S3,it⟩
   have P3:=P.same S3
   refine ⟨_,rfl,p,_,_,_,rfl,rfl,SqT.of P3.top,rfl,pt,_,rfl,.inl (SqL.of P3.ht),_,rfl,_,_,rfl,rfl,?_⟩
   have ek : ((ts.map V.ref).length : Int) - (0 + (i : Int)) = ((tk.length - i : Nat) : Int):=by rw [vt]; omega
   try dsimp only
   rw [ek]
   generalize hk : tk.length - i = k
   refine ⟨_,rfl,p,_,_,_,rfl,rfl,SqT.of P3.top,rfl,_,rfl,_,rfl,pt,_,rfl,SqL.of P3.ht,fun c1 n1=>?_⟩
   rw [cut_take,← List.map_take]
   have U1:=(Same.refl H3).upd n1 (o:=.lst ((ts.take k).map V.ref))
   have h1:=upd_same (H:=H3) (a:=c1) (o:=.lst ((ts.take k).map V.ref))
   generalize upd H3 c1 (.lst ((ts.take k).map V.ref)) = H4 at U1 h1 ⊢
   have P4:=P3.same U1
   refine ⟨_,rfl,p,_,_,_,rfl,rfl,SqT.of P4.top,rfl,_,rfl,_,rfl,pg,_,rfl,SqL.of P4.hg,fun c2 n2=>?_⟩
   rw [cut_take,← List.map_take]
   have U2:=(Same.refl H4).upd n2 (o:=.lst ((gs.take k).map V.ref))
   have h2:=upd_same (H:=H4) (a:=c2) (o:=.lst ((gs.take k).map V.ref))
   generalize upd H4 c2 (.lst ((gs.take k).map V.ref)) = H5 at U2 h2 ⊢
   have P5:=P4.same U2
   refine ⟨_,rfl,p,_,_,_,rfl,rfl,SqT.of P5.top,rfl,by show 3 ≤ sizeLine; decide,fun cp ncp=>?_⟩
   have U3:=(Same.refl H5).upd ncp (o:=.tup [V.ref c1,V.ref c2,V.ref pf])
   have PC : PlanR (upd H5 cp (.tup [V.ref c1,V.ref c2,V.ref pf])) cp c1 c2 pf (ts.take k) (gs.take k) (tk.take k) (gv.take k) fs:=⟨upd_same,U3 _ _ (U2 _ _ h1),rowsTake k (P5.same U3).tr,U3 _ _ h2,rowsTake k (P5.same U3).gr,U3 _ _ P5.hf⟩
   generalize upd H5 cp (.tup [V.ref c1,V.ref c2,V.ref pf]) = H6 at U3 PC ⊢
   have S36:=S3.trans (U1.trans (U2.trans U3))
   have oC:=o.take k
   refine ⟨_,rfl,cp,c1,c2,pf,ts.take k,gs.take k,tk.take k,gv.take k,fs,rfl,PC,oC,fun x dx nb nd nt ng nf nts ngs H7 nx S7 NI okN=>?_⟩
   refine ⟨_,rfl,_,rfl,x,dx,nb,nd,nt,ng,nf,nts,ngs,_,room,rfl,NI,okN,r1,r60,fun fv H8 S8 hf=>?_⟩
   refine ⟨_,rfl,rfl,_,rfl,?_⟩
   rcases hf with ⟨rfl,h0⟩ | ⟨w,y,dy,m,p',c,l,a,ms,ls,rfl,ti,tg⟩
   ·refine iteND (fun z=>absurd rfl z) (fun _=>?_)
    have h0 : 0 < (tk.take k).length:=h0
    rw [List.length_take] at h0
    exact ⟨_,_,_,_,_,rfl,S36.trans (S7.trans S8),by omega⟩
   ·refine iteND (fun _=>?_) (fun z=>nomatch z)
    rw [netR_len oC.z6] at tg
    refine ⟨_,rfl,_,rfl,_,rfl,by show 3 ≤ sizeLine; decide,fun q nq=>?_⟩
    have U9:=(Same.refl H8).upd nq (o:=.tup [V.ref cp,V.ref x,V.ref y])
    exact hQ q cp c1 c2 pf x dx nb nd nt ng nf y dy m p' c l a _ _ nts ngs ms ls _ _ w _ ((S36.trans (S7.trans S8)).trans U9) upd_same (PC.same ((S7.trans S8).trans U9)) oC (NI.same (S8.trans U9)) okN (ti.same U9) tg
  ·rintro σ H3 ⟨o2,o3,o4,o5,o6,rfl,S3,it⟩
   exact absurd it (by omega)
theorem sc_law_cell : FnScope ["script", "k"] ["script", "k"] (defScope s_law_cell) := ⟨rfl, rfl, rfl, by decide +kernel, rfl, by decide +kernel, by decide +kernel⟩
set_option maxHeartbeats 4000000 in
theorem ok_law_cell (T : Txt K mg AR FR) : FnOk P w K mg base CX0 1 AR.f_law_cell FR.d_law_cell ["script", "k"] (sp_law_cell K) := by
 refine T.F_law_cell.ok sc_law_cell (fun vs H Q E h=>?_) (fun cdv A outer s H vs Q E hr h=>?_)
 ·obtain ⟨a,ns,k,rfl,hS,h63,hQ⟩:=h
  rfl
 ·obtain ⟨a,ns,k,rfl,hS,h63,hQ⟩:=h
  refine ⟨_,(pss_cons (ps_if (pt_cmpR op_eq (pe_callB call_len_seq (by rfl) T.z_len bt_len (pa_cons (pv 0) pa_nil)) pe_int (nomark _)) (pss_one (ps_ret pe_int)) pss_nil)
   (pss_one (ps_ret (pe_ix ix_list (pv 0) (pe_op op_mod (pv 1) (pe_callB call_len_seq (by rfl) T.z_len bt_len (pa_cons (pv 0) pa_nil))) (fun _ _=>rfl))))),?_⟩
  try dsimp only [kx1,kx2,kx3,Cx.nox,Cx.wish]
  refine ⟨_,rfl,a,_,rfl,.inl hS,rfl,_,rfl,?_⟩
  refine iteD (fun _=>hQ 0) (fun h0=>?_)
  rw [ints_len] at h0
  have h0 : 0 < ns.length:=by
   rcases Nat.eq_zero_or_pos ns.length with e | e
   ·exact absurd (by rw [e]; rfl) h0
   ·exact e
  have e : ((k : Nat) : Int) % (((vints ns).length : Nat) : Int) = ((k % ns.length : Nat) : Int):=by rw [ints_len,Int.natCast_emod]
  refine ⟨_,rfl,_,rfl,_,rfl,a,_,rfl,.inl hS,_,_,rfl,rfl,(by rw [ints_len]; omega),a,_,_,V.int (ns[k % ns.length]'(Nat.mod_lt _ h0)),rfl,rfl,hS,?_,hQ _⟩
  rw [e]
  exact ints_at (Nat.mod_lt _ h0)
theorem sc_law_num : FnScope ["script", "k", "mixed"] ["script", "k"] (defScope s_law_num) := ⟨rfl, rfl, rfl, by decide +kernel, rfl, by decide +kernel, by decide +kernel⟩
set_option maxHeartbeats 4000000 in
theorem ok_law_num (T : Txt K mg AR FR) : FnOk P w K mg base CX0 2 AR.f_law_num FR.d_law_num ["script", "k"] (sp_law_num K) := by
 have G_law_cell : FnOk P w K mg base CX0 1 AR.f_law_cell FR.d_law_cell _ (sp_law_cell K):=ok_law_cell T
 refine T.F_law_num.ok sc_law_num (fun vs H Q E h=>?_) (fun cdv A outer s H vs Q E hr h=>?_)
 ·obtain ⟨a,ns,k,rfl,hS,h63,k1,hQ⟩:=h
  rfl
 ·obtain ⟨a,ns,k,rfl,hS,h63,k1,hQ⟩:=h
  refine ⟨_,(pss_cons (ps_set (i:=2) sc_law_num.nd rfl (Or.inl rfl) (pe_op op_mod (pe_op op_mul (pe_op op_add (pe_op op_add (pe_op op_mod (pe_call G_law_cell (hr.mono (by decide)) (by rfl) T.m_law_cell T.F_law_cell.kp T.b_law_cell .nil pass0 (pa_cons (pv 0) (pa_cons (pv 1) pa_nil))) pe_int) (pe_op op_mul pe_int (pv 1))) pe_int) (pe_op op_add (pe_op op_add pe_int (pe_op op_mul (pe_op op_mul pe_int (pv 1)) (pv 1))) (pv 1))) pe_int))
   (pss_one (ps_ret (pe_op op_mod (pe_op op_mul (pv 2) (pv 2)) pe_int)))),?_⟩
  try dsimp only [kx1,kx2,kx3,Cx.nox,Cx.wish]
  refine ⟨_,rfl,_,rfl,a,ns,k,rfl,hS,h63,fun c=>?_⟩
  have m1 : 0 ≤ c % 1000000007:=Int.emod_nonneg _ (by decide)
  have m2 : c % 1000000007 < 1000000007:=Int.emod_lt_of_pos _ (by decide)
  refine ⟨_,_,rfl,rfl,(by show (0 : Int) < 1000000007; decide),_,rfl,_,_,rfl,rfl,.inl ⟨by decide,by decide⟩,_,_,rfl,rfl,_,_,rfl,rfl,?_⟩
  refine ⟨_,rfl,_,_,rfl,rfl,.inl ⟨by decide,by decide⟩,_,rfl,_,_,rfl,rfl,.inr ⟨by omega,by omega⟩,_,_,rfl,rfl,_,rfl,_,_,rfl,rfl,_,_,rfl,rfl,.inl ⟨by omega,by omega⟩,_,_,rfl,rfl,(by show (0 : Int) < 1000000007; decide),?_⟩
  try dsimp only
  generalize hx : (c % 1000000007 + 7919 * (k : Int) + 11) * (48271 + 6 * (k : Int) * (k : Int) + (k : Int)) % 1000000007 = mm
  have x1 : 0 ≤ mm:=by rw [← hx]; exact Int.emod_nonneg _ (by decide)
  have x2 : mm < 1000000007:=by rw [← hx]; exact Int.emod_lt_of_pos _ (by decide)
  exact ⟨_,rfl,_,rfl,_,_,rfl,rfl,.inl ⟨by omega,by omega⟩,_,_,rfl,rfl,(by show (0 : Int) < 998244353; decide),hQ _ (Int.emod_nonneg _ (by decide)) (Int.emod_lt_of_pos _ (by decide))⟩
theorem sc_law_net : FnScope ["script", "width", "many", "grow", "some", "first", "k", "small", "takes", "gives", "d"] ["script"] (defScope s_law_net) := ⟨rfl, rfl, rfl, by decide +kernel, rfl, by decide +kernel, by decide +kernel⟩
set_option maxHeartbeats 40000000 in
theorem ok_law_net (T : Txt K mg AR FR) : FnOk P w K mg base CX0 3 AR.f_law_net FR.d_law_net ["script"] (sp_law_net K) := by
 have G_law_num : FnOk P w K mg base CX0 2 AR.f_law_num FR.d_law_num _ (sp_law_num K):=ok_law_num T
 refine T.F_law_net.okB sc_law_net (fun vs H Q E h=>?_) (fun cdv A outer s H vs Q E hr h=>?_)
 ·obtain ⟨a,ns,rfl,hS,h63,hQ⟩:=h
  rfl
 ·obtain ⟨a,ns,rfl,hS,h63,hQ⟩:=h
  refine ⟨_,(pss_consB (ps_setB (i:=1) sc_law_net.nd rfl (Or.inl rfl) (pe_ixB ix_list (pe_lstB (ns:=[1,2,2,3,3,3,4,2,3,5,6,3]) (IntsAt.cons (IntsAt.cons (IntsAt.cons (IntsAt.cons (IntsAt.cons (IntsAt.cons (IntsAt.cons (IntsAt.cons (IntsAt.cons (IntsAt.cons (IntsAt.cons (IntsAt.cons IntsAt.nil))))))))))))) (pe_op op_mod (pe_call G_law_num (hr.mono (by decide)) (by rfl) T.m_law_num T.F_law_num.kp T.b_law_num .nil pass0 (pa_cons (pv 0) (pa_cons pe_int pa_nil))) pe_int) (fun _ _=>rfl)))
   (pss_consB (ps_setB (i:=2) sc_law_net.nd rfl (Or.inl rfl) (pe_ixB ix_list (pe_lstB (ns:=[0,1,2,2,3,3,4,2,3,5,6,7,8,3,2,4]) (IntsAt.cons (IntsAt.cons (IntsAt.cons (IntsAt.cons (IntsAt.cons (IntsAt.cons (IntsAt.cons (IntsAt.cons (IntsAt.cons (IntsAt.cons (IntsAt.cons (IntsAt.cons (IntsAt.cons (IntsAt.cons (IntsAt.cons (IntsAt.cons IntsAt.nil))))))))))))))))) (pe_op op_mod (pe_call G_law_num (hr.mono (by decide)) (by rfl) T.m_law_num T.F_law_num.kp T.b_law_num .nil pass0 (pa_cons (pv 0) (pa_cons pe_int pa_nil))) pe_int) (fun _ _=>rfl)))
   (PBb.mk (pss_cons (ps_set (i:=3) sc_law_net.nd rfl (Or.inr rfl) pe_int)
   (pss_cons (ps_if (pt_cmpR op_eq (pe_op op_mod (pe_call G_law_num (hr.mono (by decide)) (by rfl) T.m_law_num T.F_law_num.kp T.b_law_num .nil pass0 (pa_cons (pv 0) (pa_cons pe_int pa_nil))) pe_int) pe_int (nomark _)) (pss_one (ps_set (i:=3) sc_law_net.nd rfl (Or.inr rfl) (pe_op op_add pe_int (pe_op op_mod (pe_call G_law_num (hr.mono (by decide)) (by rfl) T.m_law_num T.F_law_num.kp T.b_law_num .nil pass0 (pa_cons (pv 0) (pa_cons pe_int pa_nil))) pe_int)))) pss_nil)
   (pss_cons (ps_set (i:=4) sc_law_net.nd rfl (Or.inr rfl) (pe_lst (pa_cons pe_int (pa_cons pe_int (pa_cons pe_int (pa_cons pe_int (pa_cons pe_int (pa_cons pe_int pa_nil))))))))
   (pss_cons (ps_if (pt_cmpR op_gt (pv 1) pe_int (nomark _)) (pss_one (ps_set (i:=4) sc_law_net.nd rfl (Or.inr rfl) (pe_lst (pa_cons pe_int (pa_cons pe_int (pa_cons pe_int (pa_cons pe_int (pa_cons pe_int (pa_cons pe_int (pa_cons pe_int (pa_cons pe_int (pa_cons pe_int pa_nil)))))))))))) pss_nil)
   (pss_cons (ps_set (i:=5) sc_law_net.nd rfl (Or.inl rfl) (pe_lst pa_nil))
   (pss_cons (ps_for PassesOwn.never rfl (pi_range1 (by rfl) T.z_range (pa_cons (pv 1) pa_nil)) (pg_name (i:=6) sc_law_net.nd (by rfl) (Or.inl rfl))
   (pss_cons (ps_set (i:=7) sc_law_net.nd rfl (Or.inl rfl) (pe_ix ix_list (pe_lst (pa_cons pe_int (pa_cons pe_int (pa_cons pe_int (pa_cons pe_int (pa_cons pe_int (pa_cons pe_int pa_nil))))))) (pe_op op_mod (pe_call G_law_num (hr.mono (by decide)) (by rfl) T.m_law_num T.F_law_num.kp T.b_law_num .nil pass0 (pa_cons (pv 0) (pa_cons (pe_op op_add pe_int (pv 6)) pa_nil))) pe_int) (fun _ _=>rfl)))
   (pss_one (ps_expr (pe_bm PySem.F.plainAttrs_list PySem.F.slot_list_append PySem.F.type_list_append mt_append (pv 5) (pa_cons (pe_op op_add (pe_op op_mul (pv 7) (pv 3)) (pe_op op_mod (pe_call G_law_num (hr.mono (by decide)) (by rfl) T.m_law_num T.F_law_num.kp T.b_law_num .nil pass0 (pa_cons (pv 0) (pa_cons (pe_op op_add pe_int (pv 6)) pa_nil))) (pv 3))) pa_nil))))))
   (pss_cons (ps_set (i:=8) sc_law_net.nd rfl (Or.inl rfl) (pe_lst pa_nil))
   (pss_cons (ps_set (i:=9) sc_law_net.nd rfl (Or.inl rfl) (pe_lst pa_nil))
   (pss_cons (ps_for PassesOwn.never rfl (pi_range1 (by rfl) T.z_range (pa_cons (pv 2) pa_nil)) (pg_name (i:=10) sc_law_net.nd (by rfl) (Or.inr rfl))
   (pss_cons (ps_expr (pe_bm PySem.F.plainAttrs_list PySem.F.slot_list_append PySem.F.type_list_append mt_append (pv 8) (pa_cons (pe_comp (N' := ["k", "some", "script", "d", "grow"]) (nt := 1) (caps := [4, 0, 10, 3]) _ _ (CompScope.of (by kernel_rfl)) (pi_range1 (by rfl) T.z_range (pa_cons (pv 1) pa_nil)) (fun _ => (pg_nameC (i := 0) ["k", "some", "script", "d", "grow"] (by decide +kernel) (by rfl))) (fun _ => pts_nil) (fun _ => (pe_op op_mul (pe_ix ix_list (pv 1) (pe_op op_mod (pe_call G_law_num (hr.mono (by decide)) (by rfl) T.m_law_num T.F_law_num.kp T.b_law_num .nil pass0 (pa_cons (pv 2) (pa_cons (pe_op op_add (pe_op op_add pe_int (pe_op op_mul pe_int (pv 3))) (pv 0)) pa_nil))) (pe_callB call_len_seq (by rfl) T.z_len bt_len (pa_cons (pv 1) pa_nil))) (fun _ _ => rfl)) (pv 4)))) pa_nil)))
   (pss_one (ps_expr (pe_bm PySem.F.plainAttrs_list PySem.F.slot_list_append PySem.F.type_list_append mt_append (pv 9) (pa_cons (pe_comp (N' := ["k", "some", "script", "d", "grow"]) (nt := 1) (caps := [4, 0, 10, 3]) _ _ (CompScope.of (by kernel_rfl)) (pi_range1 (by rfl) T.z_range (pa_cons (pv 1) pa_nil)) (fun _ => (pg_nameC (i := 0) ["k", "some", "script", "d", "grow"] (by decide +kernel) (by rfl))) (fun _ => pts_nil) (fun _ => (pe_op op_mul (pe_ix ix_list (pv 1) (pe_op op_mod (pe_call G_law_num (hr.mono (by decide)) (by rfl) T.m_law_num T.F_law_num.kp T.b_law_num .nil pass0 (pa_cons (pv 2) (pa_cons (pe_op op_add (pe_op op_add pe_int (pe_op op_mul pe_int (pv 3))) (pv 0)) pa_nil))) (pe_callB call_len_seq (by rfl) T.z_len bt_len (pa_cons (pv 1) pa_nil))) (fun _ _ => rfl)) (pv 4)))) pa_nil))))))
   (pss_one (ps_ret (pe_tup (pa_cons (pv 8) (pa_cons (pv 9) (pa_cons (pv 5) pa_nil)))))))))))))))))),?_⟩
  try dsimp only [kx1,kx2,kx3,Cx.nox,Cx.wish]
  refine ⟨by show 12 ≤ sizeLine; decide,fun q1 nq1=>?_⟩
  have U1:=(Same.refl H).upd nq1 (o:=.lst (vints [1,2,2,3,3,3,4,2,3,5,6,3]))
  refine ⟨_,rfl,a,ns,0,rfl,U1.seq hS,h63,by decide,fun c0 c00 c01=>?_⟩
  obtain ⟨z,eB,z1,z6⟩:=pickW (i:=c0 % 12) (Int.emod_nonneg _ (by decide)) (Int.emod_lt_of_pos _ (by decide))
  refine ⟨_,_,rfl,rfl,(by show (0 : Int) < 12; decide),q1,_,_,_,rfl,rfl,SqL.of upd_same,eB,?_⟩
  generalize upd H q1 (.lst (vints [1,2,2,3,3,3,4,2,3,5,6,3])) = H1 at U1 ⊢
  refine ⟨by show 16 ≤ sizeLine; decide,fun q2 nq2=>?_⟩
  have U2:=U1.upd nq2 (o:=.lst (vints [0,1,2,2,3,3,4,2,3,5,6,7,8,3,2,4]))
  refine ⟨_,rfl,a,ns,1,rfl,U2.seq hS,h63,by decide,fun c1 c10 c11=>?_⟩
  obtain ⟨dn,eD,d8⟩:=pickM (i:=c1 % 16) (Int.emod_nonneg _ (by decide)) (Int.emod_lt_of_pos _ (by decide))
  refine ⟨_,_,rfl,rfl,(by show (0 : Int) < 16; decide),q2,_,_,_,rfl,rfl,SqL.of upd_same,eD,?_⟩
  generalize upd H1 q2 (.lst (vints [0,1,2,2,3,3,4,2,3,5,6,7,8,3,2,4])) = H2 at U2 ⊢
  try dsimp only [tNext]
  refine seq_join (fun σ' H'=>σ' = [some (.ref a),some (.int z),some (.int dn),some (.int 1),none,none,none,none,none,none,none]∧H2 = H') ?_ (fun N hN=>hN _ _ ⟨rfl,rfl⟩)
  rintro _ _ ⟨rfl,rfl⟩
  try dsimp only [tNext]
  refine seq_join (fun σ' H'=>∃ gw : Int,σ' = [some (.ref a),some (.int z),some (.int dn),some (.int gw),none,none,none,none,none,none,none]∧H2 = H'∧1 ≤ gw∧gw ≤ 200000000) ?_ ?_
  rotate_left
  ·intro N hN
   refine ⟨_,rfl,a,ns,2,rfl,U2.seq hS,h63,by decide,fun c2 c20 c21=>?_⟩
   refine ⟨_,_,rfl,rfl,(by show (0 : Int) < 2; decide),rfl,_,rfl,?_⟩
   refine iteD (fun _=>?_) (fun _=>hN _ _ ⟨1,rfl,rfl,by decide,by decide⟩)
   refine ⟨_,rfl,a,ns,3,rfl,U2.seq hS,h63,by decide,fun c3 c30 c31=>?_⟩
   have a1 : 0 ≤ c3 % 200000000:=Int.emod_nonneg _ (by decide)
   have a2 : c3 % 200000000 < 200000000:=Int.emod_lt_of_pos _ (by decide)
   exact ⟨_,_,rfl,rfl,(by show (0 : Int) < 200000000; decide),_,_,rfl,rfl,hN _ _ ⟨_,rfl,rfl,by omega,by omega⟩⟩
  rintro _ _ ⟨gw,rfl,rfl,gw1,gw2⟩
  refine ⟨by show 6 ≤ sizeLine; decide,fun q3 nq3=>?_⟩
  have U3:=U2.upd nq3 (o:=.lst (vints [0,0,0,1,1,2]))
  have hq3:=upd_same (H:=H2) (a:=q3) (o:=.lst (vints [0,0,0,1,1,2]))
  change _ at hq3
  show _
  generalize hH3 : upd H2 q3 (.lst (vints [0,0,0,1,1,2])) = H3 at U3 hq3
  rw [show upd H2 q3 (.lst [V.int 0,V.int 0,V.int 0,V.int 1,V.int 1,V.int 2]) = H3 from hH3]
  try dsimp only [tNext]
  refine seq_join (fun σ' H'=>∃ (ps : Addr) (sm : List Int),σ' = [some (.ref a),some (.int z),some (.int dn),some (.int gw),some (.ref ps),none,none,none,none,none,none]∧Same H H'∧H' ps = some (.lst (vints sm))∧1 ≤ sm.length∧sm.length ≤ 9∧∀ x ∈ sm,0 ≤ x∧x ≤ 3) ?_ ?_
  rotate_left
  ·intro N hN
   refine ⟨_,rfl,_,_,rfl,rfl,_,rfl,?_⟩
   refine iteD (fun _=>?_) (fun _=>hN _ _ ⟨q3,_,rfl,U3,hq3,by decide,by decide,by decide⟩)
   refine ⟨by show 9 ≤ sizeLine; decide,fun q4 nq4=>?_⟩
   exact hN _ _ ⟨q4,[0,0,0,0,0,0,1,1,2],rfl,U3.upd nq4,upd_same,by decide,by decide,by decide⟩
  rintro _ H4 ⟨ps,sm,rfl,U4,hps,sl1,sl9,sb⟩
  refine ⟨by decide,fun pf npf=>?_⟩
  have U5:=U4.upd npf (o:=.lst [])
  have V5:=(Same.refl H4).upd npf (o:=.lst [])
  have hpf0:=upd_same (H:=H4) (a:=pf) (o:=.lst [])
  have hps5:=V5 _ _ hps
  generalize upd H4 pf (.lst []) = H5 at U5 V5 hpf0 hps5 ⊢
  have z70 : z ≤ 70:=by omega
  have d70 : dn ≤ 70:=by omega
  refine ⟨_,rfl,_,rfl,rngA _,rngB z70,?_⟩
  rw [Int.toNat_natCast]
  refine for_range (n:=_) (fun i σ H6=>∃ (l : List Int) (o6 o7 : Option V),σ = [some (.ref a),some (.int z),some (.int dn),some (.int gw),some (.ref ps),some (.ref pf),o6,o7,none,none,none]∧Same H4 H6∧H6 pf = some (.lst (vints l))∧l.length = i∧∀ x ∈ l,0 ≤ x∧x ≤ 1000000000) ⟨[],none,none,rfl,V5,hpf0,rfl,fun x hx=>nomatch hx⟩ ?_ ?_
  ·rintro i σ H6 hi ⟨l,o6,o7,rfl,S6,hpf,ll,lb⟩
   have hi : i < z:=hi
   have e0 : (0 : Int) + (i : Int) = ((i : Nat) : Int):=Int.zero_add _
   refine ⟨by show 6 ≤ sizeLine; decide,fun q6 nq6=>?_⟩
   have X6:=S6.upd nq6 (o:=.lst [V.int 0,V.int 1,V.int 1,V.int 2,V.int 3,V.int 0])
   refine ⟨_,rfl,_,rfl,_,_,rfl,rfl,a,ns,4 + i,by rw [e0]; rfl,(U4.trans X6).seq hS,h63,by omega,fun c4 c40 c41=>?_⟩
   obtain ⟨v,ev,v0,v3⟩:=pickS (i:=c4 % 6) (Int.emod_nonneg _ (by decide)) (Int.emod_lt_of_pos _ (by decide))
   refine ⟨_,_,rfl,rfl,(by show (0 : Int) < 6; decide),q6,_,_,_,rfl,rfl,SqL.of upd_same,ev,?_⟩
   have hpf6 : upd H6 q6 (.lst [V.int 0,V.int 1,V.int 1,V.int 2,V.int 3,V.int 0]) pf = some (.lst (vints l)):=by rw [upd_ne (ne_of_none hpf nq6)]; exact hpf
   generalize upd H6 q6 (.lst [V.int 0,V.int 1,V.int 1,V.int 2,V.int 3,V.int 0]) = H7 at X6 hpf6 ⊢
   have pr:=prodG ⟨gw1,gw2⟩ ⟨v0,v3⟩
   refine ⟨_,rfl,.inl ⟨rfl,vints l,SqL.of hpf6⟩,_,rfl,_,rfl,_,_,rfl,rfl,.inl ⟨by omega,by omega⟩,_,rfl,_,rfl,_,_,rfl,rfl,a,ns,10 + i,by rw [e0]; rfl,(U4.trans X6).seq hS,h63,by omega,fun c5 c50 c51=>?_⟩
   have r1 : 0 ≤ c5 % gw:=Int.emod_nonneg _ (by omega)
   have r2 : c5 % gw < gw:=Int.emod_lt_of_pos _ (by omega)
   refine ⟨_,rfl,_,_,rfl,rfl,(by show (0 : Int) < gw; omega),_,_,rfl,rfl,pf,vints l,_,rfl,rfl,hpf6,by rw [ints_len]; exact small70 (by omega),?_⟩
   refine ⟨l ++ [v * gw + c5 % gw],_,_,rfl,X6.upd' npf,by rw [upd_same,vints_snoc],by rw [List.length_append,ll]; rfl,fun x hx=>?_⟩
   rcases List.mem_append.mp hx with q | q
   ·exact lb x q
   ·rw [List.mem_singleton.mp q]; exact ⟨by omega,by omega⟩
  rintro σ H6 ⟨fs,o6,o7,rfl,S6,hpf,fl,fb⟩
  have U6:=U4.trans S6
  have hps6:=S6 _ _ hps
  refine ⟨by decide,fun pt npt=>?_⟩
  have U7:=U6.upd npt (o:=.lst [])
  have V7:=(Same.refl H6).upd npt (o:=.lst [])
  have hpt0:=upd_same (H:=H6) (a:=pt) (o:=.lst [])
  have fpt:=npt
  generalize upd H6 pt (.lst []) = H7 at U7 V7 hpt0 ⊢
  refine ⟨by decide,fun pg npg=>?_⟩
  have U8:=U7.upd npg (o:=.lst [])
  have V8:=V7.upd npg (o:=.lst [])
  have ptg : pt ≠ pg:=ne_of_none hpt0 npg
  have hpg0:=upd_same (H:=H7) (a:=pg) (o:=.lst [])
  have hpt8 : upd H7 pg (.lst []) pt = some (.lst []):=by rw [upd_ne ptg]; exact hpt0
  have fpg:=V7.free npg
  generalize upd H7 pg (.lst []) = H8 at U8 V8 hpg0 hpt8 ⊢
  refine ⟨_,rfl,_,rfl,rngA _,rngB d70,?_⟩
  rw [Int.toNat_natCast]
  refine for_range (n:=_) (fun i σ H9=>∃ (o6 o7 o10 : Option V) (ts gs : List Addr) (tk gv : List (List Int)),σ = [some (.ref a),some (.int z),some (.int dn),some (.int gw),some (.ref ps),some (.ref pf),o6,o7,some (.ref pt),some (.ref pg),o10]∧Same H6 H9∧H9 pt = some (.lst (ts.map V.ref))∧Rows H9 ts tk∧H9 pg = some (.lst (gs.map V.ref))∧Rows H9 gs gv∧tk.length = i∧gv.length = i∧(∀ r ∈ tk,okBag z r)∧(∀ r ∈ gv,okBag z r)) ⟨_,_,none,[],[],[],[],rfl,V8,hpt8,.nil,hpg0,.nil,rfl,rfl,(fun r hr=>nomatch hr),fun r hr=>nomatch hr⟩ ?_ ?_
  ·rintro i σ H9 hi ⟨o6',o7',o10,ts,gs,tk,gv,rfl,S9,hpt,tr,hpg,gr,tl,gl,okt,okg⟩
   have hi : i < dn:=hi
   have S09:=U6.trans S9
   refine ⟨_,rfl,.inl ⟨rfl,_,SqL.of hpt⟩,_,rfl,_,rfl,rngA _,rngB z70,?_⟩
   rw [Int.toNat_natCast]
   refine comp_ints (τ:=[some (.ref ps),some (.ref a),some (.int (0 + (i : Int))),some (.int gw)]) (fun m=>0 ≤ m∧m ≤ 1000000000) (small70 (by omega)) (fun B j H10 hj S10 Q' hq=>?_) ?_
   ·have vs1 : (vints sm).length = sm.length:=ints_len sm
    refine ⟨_,rfl,_,rfl,_,rfl,_,_,rfl,rfl,.inl ⟨by decide,by decide⟩,_,_,rfl,rfl,_,rfl,_,_,rfl,rfl,a,ns,20 + 12 * i + j,?_,(S09.trans S10).seq hS,h63,by omega,fun c6 c60 c61=>?_⟩
    ·show [V.ref a,V.int ((20 : Int) + 12 * (0 + (i : Int)) + (0 + (j : Int)))] = _
     rw [show (20 : Int) + 12 * (0 + (i : Int)) + (0 + (j : Int)) = ((20 + 12 * i + j : Nat) : Int) by omega]
    refine ⟨_,rfl,ps,_,rfl,.inl (SqL.of ((S9.trans S10) _ _ hps6)),_,_,rfl,rfl,by show (0 : Int) < _; rw [vs1]; omega,?_⟩
    rw [vs1]
    obtain ⟨ix,hix⟩:=Int.eq_ofNat_of_zero_le (Int.emod_nonneg c6 (show (sm.length : Int) ≠ 0 by omega))
    have hix2:=Int.emod_lt_of_pos c6 (show (0 : Int) < sm.length by omega)
    try dsimp only
    rw [hix]
    have ixl : ix < sm.length:=by omega
    have hsv:=at_in (P:=fun x=>0 ≤ x∧x ≤ 3) rfl ixl sb
    have pr:=prodG ⟨gw1,gw2⟩ hsv
    exact ⟨ps,_,_,_,rfl,rfl,SqL.of ((S9.trans S10) _ _ hps6),at_zs ixl,_,rfl,_,_,rfl,rfl,.inl ⟨by omega,by omega⟩,hq _ _ ⟨pr.1,by omega⟩ (Same.refl _)⟩
   intro r1 H10 S10 lr1 br1 p1 np1
   have pt1 : pt ≠ p1:=ne_of_none (S10 _ _ hpt) np1
   refine ⟨pt,_,_,rfl,rfl,by rw [upd_ne pt1]; exact S10 _ _ hpt,by rw [List.length_map,tr.length]; exact small70 (by omega),?_⟩
   have S11 : Same H6 (upd (upd H10 p1 (.lst (vints r1))) pt (.lst (ts.map V.ref ++ [V.ref p1]))):=((S9.trans S10).upd np1).upd' fpt
   have S911 : ∀ q o,H9 q = some o→q ≠ pt→upd (upd H10 p1 (.lst (vints r1))) pt (.lst (ts.map V.ref ++ [V.ref p1])) q = some o:=fun q o e n=>by
    rw [upd_ne n]; exact ((Same.refl H10).upd np1) _ _ (S10 _ _ e)
   have hpt11 : upd (upd H10 p1 (.lst (vints r1))) pt (.lst (ts.map V.ref ++ [V.ref p1])) pt = some (.lst ((ts ++ [p1]).map V.ref)):=by rw [upd_same,vrefs_snoc]
   have tr11 : Rows (upd (upd H10 p1 (.lst (vints r1))) pt (.lst (ts.map V.ref ++ [V.ref p1]))) (ts ++ [p1]) (tk ++ [r1]):=by
    refine Rows.snoc (Rows.lay (tr.same (S10.upd np1)) (tr.apart hpt)) ?_
    rw [upd_ne (Ne.symm pt1),upd_same]
   have hpg11:=S911 _ _ hpg (Ne.symm ptg)
   have gr11 : Rows (upd (upd H10 p1 (.lst (vints r1))) pt (.lst (ts.map V.ref ++ [V.ref p1]))) gs gv:=by
    refine Rows.lay (gr.same (S10.upd np1)) fun b hb z=>?_
    obtain ⟨r,hr,he⟩:=Rows.mem gr hb
    rw [z] at he
    rw [hpt] at he
    injection he with he
    injection he with he
    have lr:=(okg r hr).1
    cases r with
    | nil=>simp at lr; omega
    | cons a b=>cases ts with
     | nil=>cases he
     | cons c d=>injection he with he _; cases he
   generalize upd (upd H10 p1 (.lst (vints r1))) pt (.lst (ts.map V.ref ++ [V.ref p1])) = H11 at S11 hpt11 tr11 hpg11 gr11 ⊢
   clear S911
   have S011:=U6.trans S11
   refine ⟨_,rfl,.inl ⟨rfl,_,SqL.of hpg11⟩,_,rfl,_,rfl,rngA _,rngB z70,?_⟩
   rw [Int.toNat_natCast]
   refine comp_ints (τ:=[some (.ref ps),some (.ref a),some (.int (0 + (i : Int))),some (.int gw)]) (fun m=>0 ≤ m∧m ≤ 1000000000) (small70 (by omega)) (fun B j H12 hj S12 Q' hq=>?_) ?_
   ·have vs1 : (vints sm).length = sm.length:=ints_len sm
    refine ⟨_,rfl,_,rfl,_,rfl,_,_,rfl,rfl,.inl ⟨by decide,by decide⟩,_,_,rfl,rfl,_,rfl,_,_,rfl,rfl,a,ns,26 + 12 * i + j,?_,(S011.trans S12).seq hS,h63,by omega,fun c6 c60 c61=>?_⟩
    ·show [V.ref a,V.int ((26 : Int) + 12 * (0 + (i : Int)) + (0 + (j : Int)))] = _
     rw [show (26 : Int) + 12 * (0 + (i : Int)) + (0 + (j : Int)) = ((26 + 12 * i + j : Nat) : Int) by omega]
    refine ⟨_,rfl,ps,_,rfl,.inl (SqL.of ((S11.trans S12) _ _ hps6)),_,_,rfl,rfl,by show (0 : Int) < _; rw [vs1]; omega,?_⟩
    rw [vs1]
    obtain ⟨ix,hix⟩:=Int.eq_ofNat_of_zero_le (Int.emod_nonneg c6 (show (sm.length : Int) ≠ 0 by omega))
    have hix2:=Int.emod_lt_of_pos c6 (show (0 : Int) < sm.length by omega)
    try dsimp only
    rw [hix]
    have ixl : ix < sm.length:=by omega
    have hsv:=at_in (P:=fun x=>0 ≤ x∧x ≤ 3) rfl ixl sb
    have pr:=prodG ⟨gw1,gw2⟩ hsv
    exact ⟨ps,_,_,_,rfl,rfl,SqL.of ((S11.trans S12) _ _ hps6),at_zs ixl,_,rfl,_,_,rfl,rfl,.inl ⟨by omega,by omega⟩,hq _ _ ⟨pr.1,by omega⟩ (Same.refl _)⟩
   intro r2 H12 S12 lr2 br2 p2 np2
   have pg2 : pg ≠ p2:=ne_of_none (S12 _ _ hpg11) np2
   refine ⟨pg,_,_,rfl,rfl,by rw [upd_ne pg2]; exact S12 _ _ hpg11,by rw [List.length_map,gr.length]; exact small70 (by omega),?_⟩
   have okt' : ∀ r ∈ tk ++ [r1],okBag z r:=fun r hr=>by
    rcases List.mem_append.mp hr with w | w
    ·exact okt r w
    ·rw [List.mem_singleton.mp w]; exact ⟨lr1,br1⟩
   have okg' : ∀ r ∈ gv ++ [r2],okBag z r:=fun r hr=>by
    rcases List.mem_append.mp hr with w | w
    ·exact okg r w
    ·rw [List.mem_singleton.mp w]; exact ⟨lr2,br2⟩
   refine ⟨_,_,_,ts ++ [p1],gs ++ [p2],tk ++ [r1],gv ++ [r2],rfl,((S11.trans S12).upd np2).upd' fpg,?_,?_,by rw [upd_same,vrefs_snoc],?_,by rw [List.length_append,tl]; rfl,by rw [List.length_append,gl]; rfl,okt',okg'⟩
   ·rw [upd_ne ptg]
    exact ((Same.refl H12).upd np2) _ _ (S12 _ _ hpt11)
   ·refine Rows.lay (tr11.same (S12.upd np2)) fun b hb w=>?_
    obtain ⟨r,hr,he⟩:=Rows.mem tr11 hb
    rw [w,hpg11] at he
    injection he with he
    injection he with he
    have lr:=(okt' r hr).1
    cases r with
    | nil=>simp at lr; omega
    | cons a b=>cases gs with
     | nil=>cases he
     | cons c d=>injection he with he _; cases he
   ·refine Rows.snoc (Rows.lay (gr11.same (S12.upd np2)) (gr11.apart hpg11)) ?_
    rw [upd_ne (Ne.symm pg2),upd_same]
  ·rintro σ H9 ⟨o6',o7',o10,ts,gs,tk,gv,rfl,S9,hpt,tr,hpg,gr,tl,gl,okt,okg⟩
   refine ⟨_,rfl,_,rfl,_,rfl,by show 3 ≤ sizeLine; decide,fun p np=>?_⟩
   have X:=(Same.refl H9).upd np (o:=.tup [V.ref pt,V.ref pg,V.ref pf])
   exact hQ p pt pg pf ts gs z tk gv fs _ ((U6.trans S9).trans X) ⟨upd_same,X _ _ hpt,tr.same X,X _ _ hpg,gr.same X,(S9.trans X) _ _ hpf⟩ ⟨z1,z6,by omega,by omega,okt,okg,fl,fb⟩
theorem sc_is_outermost : FnScope ["row", "rows", "lies", "other"] ["row", "rows", "lies"] (defScope s_is_outermost) := ⟨rfl, rfl, rfl, by decide +kernel, rfl, by decide +kernel, by decide +kernel⟩
set_option maxHeartbeats 4000000 in
theorem ok_is_outermost (T : Txt K mg AR FR) : FnOk P w K mg base CX0 3 AR.f_is_outermost FR.d_is_outermost ["row", "rows", "lies"] (sp_is_outermost AR.f_under K) := by
 have G_under : FnOk P w K mg base CX0 2 AR.f_under FR.d_under _ (sp_under K):=ok_under T
 refine T.F_is_outermost.ok sc_is_outermost (fun vs H Q E h=>?_) (fun cdv A outer s H vs Q E hr h=>?_)
 ·obtain ⟨c,p,as,ms,r,z,rfl,hc,hp,R,hl,hrl,hz,hQ⟩:=h
  rfl
 ·obtain ⟨c,p,as,ms,r,z,rfl,hc,hp,R,hl,hrl,hz,hQ⟩:=h
  refine ⟨_,(pss_cons (ps_for PassesOwn.never rfl (pi_list (pv 1)) (pg_name (i:=3) sc_is_outermost.nd (by rfl) (Or.inl rfl))
   (pss_one (ps_if (PW.pt (pw_and (pt_cmpR (op_neM hr.units0) (pv 3) (pv 0) (nomark _)) (pw_and1 (pt_val (pe_callV 2 G_under (hr.mono (by decide)) T.F_under.kp T.b_under .nil pass0 (pa_cons (pv 0) (pa_cons (pv 3) pa_nil))))))) (pss_one (ps_ret pe_bl)) pss_nil)))
   (pss_one (ps_ret pe_bl))),?_⟩
  try dsimp only [kx1,kx2,kx3,Cx.nox,Cx.wish]
  have hal:=R.length
  refine ⟨_,rfl,p,rfl,⟨_,SqL.of hp⟩,for_list (K:=K) (a:=p) (xs:=as.map V.ref) (fun i σ H2=>∃ o,σ = [some (.ref c),some (.ref p),some (.ref AR.f_under),o]∧Same H H2∧∀ o ∈ ms.take i,o = r ∨ undB r o = false) ⟨none,rfl,Same.refl _,(fun o ho=>by cases ho)⟩ (fun i σ H2 _ hp4=>by obtain ⟨_,_,S,_⟩:=hp4; exact SqL.of (S _ _ hp)) ?_ ?_⟩
  ·rintro i x σ H2 hi ⟨o,rfl,S,hno⟩
   obtain ⟨b,hb1,rfl⟩:=refs_get hi
   obtain ⟨t,ht1,hb⟩:=Paired.getL R hb1
   have htl:=hl t (List.mem_of_getElem? ht1)
   have etl : ms.take (i + 1) = ms.take i ++ [t]:=by rw [List.take_add_one,ht1]; rfl
   have next : ∀ H3,Same H H3→(t = r ∨ undB r t = false)→∃ o,[some (V.ref c),some (.ref p),some (.ref AR.f_under),some (V.ref b)] = [some (V.ref c),some (.ref p),some (.ref AR.f_under),o]∧Same H H3∧∀ o ∈ ms.take (i + 1),o = r ∨ undB r o = false:=fun H3 S3 h=>⟨_,rfl,S3,fun o ho=>by
    rw [etl] at ho
    rcases List.mem_append.mp ho with z1 | z1
    ·exact hno o z1
    ·rw [List.mem_singleton.mp z1]; exact h⟩
   refine ⟨_,rfl,_,rfl,b,c,t,r,rfl,rfl,SqL.of (S _ _ hb),S.seq hc,_,rfl,?_⟩
   refine iteND (fun hne=>?_) (fun he=>iteF (next H2 S (.inl he)))
   refine ⟨rfl,_,rfl,_,rfl,c,b,r,t,rfl,S.seq hc,SqL.of (S _ _ hb),by omega,by omega,fun H3 S3=>⟨_,rfl,?_⟩⟩
   cases hR : undB r t with
   | true =>
    refine iteT ?_
    have e : isOutM ms r = false:=by
     rw [Bool.eq_false_iff]
     intro q
     rcases isOutM_iff.mp q t (List.mem_of_getElem? ht1) with z1 | z1
     ·exact hne z1
     ·rw [hR] at z1; cases z1
    have hq:=hQ H3 (S.trans S3)
    rw [e] at hq
    exact hq
   | false=>exact iteF (next H3 (S.trans S3) (.inr hR))
  ·rintro σ H2 ⟨o,rfl,S,hno⟩
   rw [List.length_map,hal,List.take_length] at hno
   have hq:=hQ H2 S
   rw [isOutM_iff.mpr hno] at hq
   exact hq
theorem sc_outermost : FnScope ["rows", "lies", "row", "found"] ["rows", "lies"] (defScope s_outermost) := ⟨rfl, rfl, rfl, by decide +kernel, rfl, by decide +kernel, by decide +kernel⟩
set_option maxHeartbeats 4000000 in
theorem ok_outermost (T : Txt K mg AR FR) : FnOk P w K mg base CX0 4 AR.f_outermost FR.d_outermost ["rows", "lies"] (sp_outermost AR.f_under K) := by
 have G_refuse_unlike : FnOk P w K mg base CX0 1 AR.f_refuse_unlike FR.d_refuse_unlike _ (sp_refuse_unlike K):=ok_refuse_unlike T
 have G_is_outermost : FnOk P w K mg base CX0 3 AR.f_is_outermost FR.d_is_outermost _ (sp_is_outermost AR.f_under K):=ok_is_outermost T
 refine T.F_outermost.ok sc_outermost (fun vs H Q E h=>?_) (fun cdv A outer s H vs Q E hr h=>?_)
 ·obtain ⟨p,as,ms,z,rfl,hp,R,hn,hl,z1,z60,hQ⟩:=h
  rfl
 ·obtain ⟨p,as,ms,z,rfl,hp,R,hn,hl,z1,z60,hQ⟩:=h
  refine ⟨_,(pss_cons (ps_for PassesOwn.never rfl (pi_list (pv 0)) (pg_name (i:=2) sc_outermost.nd (by rfl) (Or.inl rfl))
   (pss_one (ps_expr (pe_call G_refuse_unlike (hr.mono (by decide)) (by rfl) T.m_refuse_unlike T.F_refuse_unlike.kp T.b_refuse_unlike .nil pass0 (pa_cons (pe_ix ix_list (pv 0) pe_int (fun _ _=>rfl)) (pa_cons (pv 2) pa_nil))))))
   (pss_cons (ps_set (i:=3) sc_outermost.nd rfl (Or.inl rfl) (pe_lst pa_nil))
   (pss_cons (ps_for PassesOwn.never rfl (pi_list (pv 0)) (pg_name (i:=2) sc_outermost.nd (by rfl) (Or.inl rfl))
   (pss_one (ps_if (PW.pt (pw_and (pt_cmpR (op_notInM (hu2_of hr)) (pv 2) (pv 3) (by with_unfolding_all rfl)) (pw_and1 (pt_val (pe_call G_is_outermost (hr.mono (by decide)) (by rfl) T.m_is_outermost T.F_is_outermost.kp T.b_is_outermost .nil pass0 (pa_cons (pv 2) (pa_cons (pv 0) (pa_cons (pv 1) pa_nil)))))))) (pss_one (ps_expr (pe_bm PySem.F.plainAttrs_list PySem.F.slot_list_append PySem.F.type_list_append mt_append (pv 3) (pa_cons (pe_callTy call_list_of (by rfl) T.z_list bt_list (pa_cons (pv 2) pa_nil)) pa_nil)))) pss_nil)))
   (pss_one (ps_ret (pv 3)))))),?_⟩
  try dsimp only [kx1,kx2,kx3,Cx.nox,Cx.wish]
  have hal:=R.length
  refine ⟨_,rfl,p,rfl,⟨_,SqL.of hp⟩,for_list (K:=K) (a:=p) (xs:=as.map V.ref) (fun i σ H2=>∃ o,σ = [some (.ref p),some (.ref AR.f_under),o,none]∧H2 = H) ⟨none,rfl,rfl⟩ (fun i σ H2 _ hp4=>by obtain ⟨_,_,e⟩:=hp4; exact e ▸ SqL.of hp) ?_ ?_⟩
  ·rintro i x σ H2 hi ⟨o,rfl,rfl⟩
   obtain ⟨b,hb1,rfl⟩:=refs_get hi
   obtain ⟨r,hr1,hb⟩:=Paired.getL R hb1
   have h0 : 0 < as.length:=by have:=(List.getElem?_eq_some_iff.mp hb1).1; omega
   have hb0 : as[0]? = some as[0]:=List.getElem?_eq_getElem h0
   obtain ⟨r0,hr0,hb00⟩:=Paired.getL R hb0
   refine ⟨_,rfl,p,_,_,_,rfl,rfl,SqL.of hp,atI_nat (j:=0) (v:=V.ref as[0]) (by rw [List.getElem?_map,hb0]; rfl),_,rfl,as[0],b,_,_,rfl,SqL.of hb00,SqL.of hb,?_,_,rfl,rfl⟩
   rw [vmk_len,vmk_len,hl r0 (List.mem_of_getElem? hr0),hl r (List.mem_of_getElem? hr1)]
  rintro σ H2 ⟨o,rfl,rfl⟩
  refine ⟨by decide,fun pf npf=>?_⟩
  have T0:=(Same.refl H2).upd npf (o:=.lst [])
  have tz : ∀ i,∀ m ∈ tellM ms (ms.take i),1 ≤ m.length:=fun i m hm=>by
   rcases tellM_sub ms _ _ m hm with q | q
   ·cases q
   ·rw [hl m (List.mem_of_mem_take q)]; exact z1
  refine ⟨_,rfl,p,rfl,⟨_,SqL.of (T0 _ _ hp)⟩,for_list (K:=K) (a:=p) (xs:=as.map V.ref) (fun i σ H3=>∃ (o : Option V) (fs : List Addr),σ = [some (.ref p),some (.ref AR.f_under),o,some (.ref pf)]∧Same H2 H3∧H3 pf = some (.lst (fs.map V.ref))∧MRows H3 fs (tellM ms (ms.take i))∧∀ a ∈ fs,H2 a = none)
   ⟨_,[],rfl,T0,upd_same,.nil,fun a ha=>nomatch ha⟩ (fun i σ H3 _ hp4=>by obtain ⟨_,_,_,S,_⟩:=hp4; exact SqL.of (S _ _ hp)) ?_ ?_⟩
  ·rintro i x σ H3 hi ⟨o',fs,rfl,S,hpf,RF,hfs⟩
   obtain ⟨b,hb1,rfl⟩:=refs_get hi
   obtain ⟨r,hr1,hb⟩:=Paired.getL R hb1
   have hrl:=hl r (List.mem_of_getElem? hr1)
   have etl : ms.take (i + 1) = ms.take i ++ [r]:=by rw [List.take_add_one,hr1]; rfl
   have hlen : fs.length ≤ 60:=by
    rw [RF.length]
    have q1:=tellM_len ms (ms.take i) []
    have q2 : (ms.take i).length ≤ ms.length:=by rw [List.length_take]; omega
    unfold tellM
    simp only [List.length_nil] at q1
    omega
   refine ⟨_,rfl,_,rfl,b,pf,fs,_,r,rfl,rfl,SqL.of (S _ _ hb),SqL.of hpf,RF,_,rfl,?_⟩
   by_cases hm : r ∈ tellM ms (ms.take i)
   ·have e : (if true = true then !decide (r ∈ tellM ms (ms.take i)) else decide (r ∈ tellM ms (ms.take i))) = false:=by rw [if_pos rfl,decide_eq_true hm]; rfl
    rw [e]
    refine iteF (iteF ⟨_,fs,rfl,S,hpf,?_,hfs⟩)
    rw [etl,tellM_snoc]
    unfold stepM
    rw [if_neg (fun z=>z.1 hm)]
    exact RF
   ·have e : (if true = true then !decide (r ∈ tellM ms (ms.take i)) else decide (r ∈ tellM ms (ms.take i))) = true:=by rw [if_pos rfl,decide_eq_false hm]; rfl
    rw [e]
    refine iteT ?_
    refine ⟨_,rfl,_,rfl,_,rfl,b,p,as,ms,r,z,rfl,SqL.of (S _ _ hb),S _ _ hp,R.same S,hl,hrl,z60,fun H4 S4=>⟨_,rfl,?_⟩⟩
    cases ho : isOutM ms r with
    | false =>
     refine iteF ⟨_,fs,rfl,S.trans S4,S4 _ _ hpf,?_,hfs⟩
     rw [etl,tellM_snoc]
     unfold stepM
     rw [if_neg (fun z=>by rw [ho] at z; exact absurd z.2 (by decide))]
     exact RF.same S4
    | true =>
     refine iteT ?_
     refine ⟨_,rfl,.inl ⟨rfl,_,SqL.of (S4 _ _ hpf)⟩,_,rfl,b,_,rfl,.inl (SqL.of (S4 _ _ (S _ _ hb))),fun q nq=>?_⟩
     have np : pf ≠ q:=ne_of_none (S4 _ _ hpf) nq
     refine ⟨pf,_,_,rfl,rfl,by rw [upd_ne np]; exact S4 _ _ hpf,by rw [List.length_map]; exact small70 (by omega),?_⟩
     have T4:=(Same.refl H4).upd nq (o:=.lst (vmk r))
     refine ⟨_,fs ++ [q],rfl,((S.trans S4).trans T4).upd' npf,by rw [upd_same,vrefs_snoc],?_,fun a ha=>?_⟩
     ·rw [etl,tellM_snoc]
      unfold stepM
      rw [if_pos ⟨hm,ho⟩]
      refine MRows.snoc (MRows.lay ((RF.same S4).same T4) (RF.apart hpf (tz i))) ?_
      rw [upd_ne (Ne.symm np),upd_same]
     ·rcases List.mem_append.mp ha with z' | z'
      ·exact hfs a z'
      ·rw [List.mem_singleton.mp z']
       exact (S.trans S4).free nq
  ·rintro σ H3 ⟨o',fs,rfl,S,hpf,RF,hfs⟩
   have ap:=RF.apart hpf (tz _)
   rw [List.length_map,hal,List.take_length] at RF
   exact ⟨_,rfl,hQ pf fs H3 npf hfs ap S hpf RF⟩
theorem sc_peak_marks : FnScope ["marks"] ["marks"] (defScope s_peak_marks) := ⟨rfl, rfl, rfl, by decide +kernel, rfl, by decide +kernel, by decide +kernel⟩
set_option maxHeartbeats 4000000 in
theorem ok_peak_marks (T : Txt K mg AR FR) : FnOk P w K mg base CX0 5 AR.f_peak_marks FR.d_peak_marks ["marks"] (sp_peak_marks K) := by
 have G_outermost : FnOk P w K mg base CX0 4 AR.f_outermost FR.d_outermost _ (sp_outermost AR.f_under K):=ok_outermost T
 have G_under : FnOk P w K mg base CX0 2 AR.f_under FR.d_under _ (sp_under K):=ok_under T
 refine T.F_peak_marks.ok sc_peak_marks (fun vs H Q E h=>?_) (fun cdv A outer s H vs Q E hr h=>?_)
 ·obtain ⟨p,as,ms,z,rfl,hp,R,hn,hl,z1,z60,hQ⟩:=h
  rfl
 ·obtain ⟨p,as,ms,z,rfl,hp,R,hn,hl,z1,z60,hQ⟩:=h
  refine ⟨_,(pss_one (ps_ret (pe_call G_outermost (hr.mono (by decide)) (by rfl) T.m_outermost T.F_outermost.kp T.b_outermost .nil pass0 (pa_cons (pv 0) (pa_cons (pe_glob (v:=.ref AR.f_under) (by rfl) T.m_under rfl) pa_nil))))),?_⟩
  try dsimp only [kx1,kx2,kx3,Cx.nox,Cx.wish]
  exact ⟨_,rfl,p,as,ms,z,rfl,hp,R,hn,hl,z1,z60,hQ⟩
theorem sc_fence : FnScope ["tree"] ["tree"] (defScope s_fence) := ⟨rfl, rfl, rfl, by decide +kernel, rfl, by decide +kernel, by decide +kernel⟩
set_option maxHeartbeats 4000000 in
theorem ok_fence (T : Txt K mg AR FR) : FnOk P w K mg base CX0 6 AR.f_fence FR.d_fence ["tree"] (sp_fence AR.C_Tree K) := by
 have G_Tree_init : FnOk P w K mg base CX0 1 AR.f_Tree_init FR.d_Tree_init _ (sp_Tree_init AR.C_Tree K):=ok_Tree_init T
 have G_peak_marks : FnOk P w K mg base CX0 5 AR.f_peak_marks FR.d_peak_marks _ (sp_peak_marks K):=ok_peak_marks T
 refine T.F_fence.ok sc_fence (fun vs H Q E h=>?_) (fun cdv A outer s H vs Q E hr h=>?_)
 ·obtain ⟨y,dy,m,p,c,l,a,ms,ls,w,z,rfl,t,h60,wd,z1,z60,hQ⟩:=h
  rfl
 ·obtain ⟨y,dy,m,p,c,l,a,ms,ls,w,z,rfl,t,h60,wd,z1,z60,hQ⟩:=h
  refine ⟨_,(pss_one (ps_ret (pe_call G_peak_marks (hr.mono (by decide)) (by rfl) T.m_peak_marks T.F_peak_marks.kp T.b_peak_marks .nil pass0 (pa_cons (pe_fld (pv 0) rfl) pa_nil)))),?_⟩
  try dsimp only [kx1,kx2,kx3,Cx.nox,Cx.wish]
  exact ⟨_,rfl,y,_,dy,_,_,rfl,t.ob,T.cl_Tree,T.n_Tree_marks,rfl,m,ms,w.marks,z,rfl,t.hm,t.rm,h60,wd,z1,z60,fun pf fs H' n1 _ _ S h R=>hQ pf fs H' n1 S h R⟩
theorem sc_law_whole : FnScope ["found"] ["found"] (defScope s_law_whole) := ⟨rfl, rfl, rfl, by decide +kernel, rfl, by decide +kernel, by decide +kernel⟩
set_option maxHeartbeats 4000000 in
theorem ok_law_whole (T : Txt K mg AR FR) : FnOk P w K mg base CX0 1 AR.f_law_whole FR.d_law_whole ["found"] (sp_law_whole K) := by
 refine T.F_law_whole.ok sc_law_whole (fun vs H Q E h=>?_) (fun cdv A outer s H vs Q E hr h=>?_)
 ·obtain ⟨i,rfl,hQ⟩:=h
  rfl
 ·obtain ⟨i,rfl,hQ⟩:=h
  refine ⟨_, (pss_one (ps_ret (pe_and (pe_callB call_isinst (by rfl) T.z_isinstance bt_isinstance (pa_cons (pv 0) (pa_cons (pe_bltn (v := .ty "int") (by rfl) T.z_int bt_int rfl) pa_nil))) (pe_one (pe_not (pe_callB call_isinst (by rfl) T.z_isinstance bt_isinstance (pa_cons (pv 0) (pa_cons (pe_bltn (v := .ty "bool") (by rfl) T.z_bool bt_bool rfl) pa_nil)))))))), ?_⟩
  try dsimp only [kx1,kx2,kx3,Cx.nox,Cx.wish]
  refine ⟨_,rfl,_,_,_,_,rfl,.int i,by rfl,_,rfl,?_⟩
  refine iteT ?_
  exact ⟨_,rfl,_,_,_,false,rfl,.int i,by rfl,false,rfl,hQ⟩
theorem sc_law_marks_formed : FnScope ["marks", "width", "mark", "number"] ["marks", "width"] (defScope s_law_marks_formed) := ⟨rfl, rfl, rfl, by decide +kernel, rfl, by decide +kernel, by decide +kernel⟩
set_option maxHeartbeats 4000000 in
theorem ok_law_marks_formed (T : Txt K mg AR FR) : FnOk P w K mg base CX0 2 AR.f_law_marks_formed FR.d_law_marks_formed ["marks", "width"] (sp_law_marks_formed K) := by
 have G_law_whole : FnOk P w K mg base CX0 1 AR.f_law_whole FR.d_law_whole _ (sp_law_whole K):=ok_law_whole T
 refine T.F_law_marks_formed.ok sc_law_marks_formed (fun vs H Q E h=>?_) (fun cdv A outer s H vs Q E hr h=>?_)
 ·obtain ⟨p,as,ms,z,rfl,hp,R,h0,hm,hQ⟩:=h
  rfl
 ·obtain ⟨p,as,ms,z,rfl,hp,R,h0,hm,hQ⟩:=h
  refine ⟨_, (pss_cons (ps_if (PW.pt (pw_or (pt_not (pt_val (pe_callB call_isinst (by rfl) T.z_isinstance bt_isinstance (pa_cons (pv 0) (pa_cons (pe_bltn (v := .ty "list") (by rfl) T.z_list bt_list rfl) pa_nil))))) (pw_or1 (pt_cmpR op_eq (pe_callB call_len_seq (by rfl) T.z_len bt_len (pa_cons (pv 0) pa_nil)) pe_int (nomark _))))) (pss_one (ps_ret pe_bl)) pss_nil)
   (pss_cons (ps_for PassesOwn.never rfl (pi_list (pv 0)) (pg_name (i:=2) sc_law_marks_formed.nd (by rfl) (Or.inl rfl))
   (pss_cons (ps_if (PW.pt (pw_or (pt_not (pt_val (pe_callB call_isinst (by rfl) T.z_isinstance bt_isinstance (pa_cons (pv 2) (pa_cons (pe_bltn (v := .ty "list") (by rfl) T.z_list bt_list rfl) pa_nil))))) (pw_or1 (pt_cmpR op_ne (pe_callB call_len_seq (by rfl) T.z_len bt_len (pa_cons (pv 2) pa_nil)) (pv 1) (nomark _))))) (pss_one (ps_ret pe_bl)) pss_nil)
   (pss_one (ps_for PassesOwn.never rfl (pi_list (pv 2)) (pg_name (i:=3) sc_law_marks_formed.nd (by rfl) (Or.inl rfl))
   (pss_one (ps_if (PW.pt (pw_and (pt_cmpR op_notN (pv 3) pe_non (nomark _)) (pw_and1 (pt_not (PW.pt (pw_and (pt_val (pe_call G_law_whole (hr.mono (by decide)) (by rfl) T.m_law_whole T.F_law_whole.kp T.b_law_whole .nil pass0 (pa_cons (pv 3) pa_nil))) (pw_and1 (pt_cmpR op_ge (pv 3) pe_int (nomark _))))))))) (pss_one (ps_ret pe_bl)) pss_nil))))))
   (pss_one (ps_ret pe_bl)))),?_⟩
  try dsimp only [kx1,kx2,kx3,Cx.nox,Cx.wish]
  have vl : (as.map V.ref).length = ms.length:=by rw [List.length_map,R.length]
  refine ⟨_,rfl,_,_,_,_,rfl,.lst hp,by rfl,_,rfl,?_⟩
  refine iteF ?_
  refine ⟨_,rfl,p,_,rfl,.inl (SqL.of hp),rfl,_,rfl,?_⟩
  rw [vl]
  refine iteD (fun e=>absurd (vint_eq.mp e) (by omega)) (fun _=>?_)
  refine ⟨_,rfl,p,rfl,⟨_,SqL.of hp⟩,for_list (K:=K) (a:=p) (xs:=as.map V.ref) (fun i σ H2=>∃ o2 o3,σ = [some (.ref p),some (.int z),o2,o3]∧H2 = H) ⟨none,none,rfl,rfl⟩ (fun i σ H2 _ hp4=>by obtain ⟨_,_,_,e⟩:=hp4; exact e ▸ SqL.of hp) ?_ ?_⟩
  ·rintro i x σ H2 hx ⟨o2,o3,rfl,rfl⟩
   obtain ⟨b,hb1,rfl⟩:=refs_get hx
   obtain ⟨r,hr1,hb⟩:=Paired.getL R hb1
   obtain ⟨rl,rn⟩:=hm r (List.mem_of_getElem? hr1)
   refine ⟨_,rfl,_,_,_,_,rfl,.lst hb,by rfl,_,rfl,?_⟩
   refine iteF ?_
   refine ⟨_,rfl,b,_,rfl,.inl (SqL.of hb),_,rfl,rfl,_,rfl,?_⟩
   refine iteNS (by rw [vmk_len,rl]) ?_
   refine ⟨_,rfl,b,rfl,⟨_,SqL.of hb⟩,for_list (K:=K) (a:=b) (xs:=vmk r) (fun i' σ H3=>∃ o3,σ = [some (.ref p),some (.int z),some (.ref b),o3]∧H3 = H2) ⟨_,rfl,rfl⟩ (fun i σ H3 _ hp4=>by obtain ⟨_,_,e⟩:=hp4; exact e ▸ SqL.of hb) ?_ ?_⟩
   ·rintro i' v σ H3 hv ⟨o3',rfl,rfl⟩
    obtain ⟨n,hn,rfl⟩:=vmk_mem (List.mem_of_getElem? hv)
    refine ⟨_,rfl,rfl,_,rfl,?_⟩
    cases n with
    | none=>exact iteND (fun z=>absurd rfl z) (fun _=>iteF ⟨_,rfl,rfl⟩)
    | some k =>
     have k0:=rn k hn
     refine iteND (fun _=>?_) (fun z=>nomatch z)
     refine ⟨_,rfl,k,rfl,_,rfl,?_⟩
     refine iteT ?_
     refine ⟨_,rfl,_,_,rfl,rfl,_,rfl,?_⟩
     exact iteND (fun z=>absurd k0 z) (fun _=>⟨_,rfl,rfl⟩)
   ·rintro σ H3 ⟨o3',rfl,rfl⟩
    exact ⟨_,_,rfl,rfl⟩
  ·rintro σ H2 ⟨o2,o3,rfl,rfl⟩
   exact hQ
theorem sc_law_turn : FnScope ["plan", "doors", "width", "need", "turns", "door", "k"] ["plan", "doors"] (defScope s_law_turn) := ⟨rfl, rfl, rfl, by decide +kernel, rfl, by decide +kernel, by decide +kernel⟩
set_option maxHeartbeats 4000000 in
theorem ok_law_turn (T : Txt K mg AR FR) : FnOk P w K mg base CX0 2 AR.f_law_turn FR.d_law_turn ["plan", "doors"] (sp_law_turn K) := by
 have G_law_whole : FnOk P w K mg base CX0 1 AR.f_law_whole FR.d_law_whole _ (sp_law_whole K):=ok_law_whole T
 refine T.F_law_turn.ok sc_law_turn (fun vs H Q E h=>?_) (fun cdv A outer s H vs Q E hr h=>?_)
 ·obtain ⟨p,pt,pg,pf,pd,ts,gs,tk,gv,fs,ds,rfl,P,o,hd,hk,hQ⟩:=h
  rfl
 ·obtain ⟨p,pt,pg,pf,pd,ts,gs,tk,gv,fs,ds,rfl,P,o,hd,hk,hQ⟩:=h
  refine ⟨_,(pss_cons (ps_set (i:=2) sc_law_turn.nd rfl (Or.inl rfl) (pe_callB call_len_seq (by rfl) T.z_len bt_len (pa_cons (pe_ix ix_tup (pv 0) pe_int (fun _ _=>rfl)) pa_nil)))
   (pss_cons (ps_setComp (i := 3) (N' := ["k"]) (nt := 1) (caps := []) _ _ (CompScope.of (by kernel_rfl)) sc_law_turn.nd rfl rfl (pi_range1 (by rfl) T.z_range (pa_cons (pv 2) pa_nil)) (fun _ => (pg_nameC (i := 0) ["k"] (by decide +kernel) (by rfl))) (fun _ => pts_nil) (fun _ => pe_int))
   (pss_cons (ps_setComp (i := 4) (N' := ["k"]) (nt := 1) (caps := []) _ _ (CompScope.of (by kernel_rfl)) sc_law_turn.nd rfl rfl (pi_range1 (by rfl) T.z_range (pa_cons (pv 2) pa_nil)) (fun _ => (pg_nameC (i := 0) ["k"] (by decide +kernel) (by rfl))) (fun _ => pts_nil) (fun _ => pe_int))
   (pss_cons (ps_for PassesOwn.never rfl (pi_list (pv 1)) (pg_name (i:=5) sc_law_turn.nd (by rfl) (Or.inl rfl))
   (pss_cons (ps_if (PW.pt (pw_or (pt_not (pt_val (pe_call G_law_whole (hr.mono (by decide)) (by rfl) T.m_law_whole T.F_law_whole.kp T.b_law_whole .nil pass0 (pa_cons (pv 5) pa_nil)))) (pw_or (pt_cmpR op_lt (pv 5) pe_int (nomark _)) (pw_or1 (pt_cmpR op_ge (pv 5) (pe_callB call_len_seq (by rfl) T.z_len bt_len (pa_cons (pe_ix ix_tup (pv 0) pe_int (fun _ _=>rfl)) pa_nil)) (nomark _)))))) (pss_one (ps_ret pe_non)) pss_nil)
   (pss_one (ps_for PassesOwn.never rfl (pi_range1 (by rfl) T.z_range (pa_cons (pv 2) pa_nil)) (pg_name (i:=6) sc_law_turn.nd (by rfl) (Or.inl rfl))
   (pss_cons (ps_asg (pe_callB (call_max2 rfl) (by rfl) T.z_max bt_max (pa_cons (pe_ix ix_list (pv 3) (pv 6) (fun _ _=>rfl)) (pa_cons (pe_op op_sub (pe_ix ix_list (pe_ix ix_list (pe_ix ix_tup (pv 0) pe_int (fun _ _=>rfl)) (pv 5) (fun _ _=>rfl)) (pv 6) (fun _ _=>rfl)) (pe_ix ix_list (pv 4) (pv 6) (fun _ _=>rfl))) pa_nil))) (pg_sub (pv 3) (pv 6) set_list))
   (pss_one (ps_asg (pe_op op_sub (pe_op op_add (pe_ix ix_list (pv 4) (pv 6) (fun _ _=>rfl)) (pe_ix ix_list (pe_ix ix_list (pe_ix ix_tup (pv 0) pe_int (fun _ _=>rfl)) (pv 5) (fun _ _=>rfl)) (pv 6) (fun _ _=>rfl))) (pe_ix ix_list (pe_ix ix_list (pe_ix ix_tup (pv 0) pe_int (fun _ _=>rfl)) (pv 5) (fun _ _=>rfl)) (pv 6) (fun _ _=>rfl))) (pg_sub (pv 4) (pv 6) set_list))))))))
   (pss_one (ps_ret (pe_tup (pa_cons (pv 3) (pa_cons (pv 4) pa_nil))))))))),?_⟩
  try dsimp only [kx1,kx2,kx3,Cx.nox,Cx.wish]
  have z6:=o.z6
  have t8:=o.t8
  have wt:=wd_of o.tk
  have wg:=wd_of o.gv
  have gl:=o.gl
  have nt : ∀ r ∈ tk,nonneg r:=fun r hr=>(o.tk r hr).nn
  have ng : ∀ r ∈ gv,nonneg r:=fun r hr=>(o.gv r hr).nn
  have vt : (ts.map V.ref).length = tk.length:=by rw [List.length_map,P.tr.length]
  refine ⟨_,rfl,p,_,_,_,rfl,rfl,SqT.of P.top,rfl,pf,_,rfl,.inl (SqL.of P.hf),?_⟩
  rw [ints_len]
  refine ⟨_,rfl,_,rfl,by omega,by omega,?_⟩
  rw [Int.toNat_natCast]
  refine comp_range1 (τ:=[]) (fun i=>V.int ((List.replicate fs.length (0 : Int)).getD i 0)) (small70 (by omega)) (fun B j H2 hj S Q' hq=>?_) ?_
  ·have h:=hq H2 (Same.refl _)
   rw [rep_at] at h
   exact h
  intro H1 S1 pn nn
  rw [by_get List.length_replicate]
  have U1:=S1.upd nn (o:=.lst (vints (List.replicate fs.length 0)))
  have h1:=upd_same (H:=H1) (a:=pn) (o:=.lst (vints (List.replicate fs.length 0)))
  have fn:=S1.free nn
  generalize upd H1 pn (.lst (vints (List.replicate fs.length 0))) = H2 at U1 h1 ⊢
  refine ⟨_,rfl,_,rfl,by omega,by omega,?_⟩
  rw [Int.toNat_natCast]
  refine comp_range1 (τ:=[]) (fun i=>V.int ((List.replicate fs.length (0 : Int)).getD i 0)) (small70 (by omega)) (fun B j H2 hj S Q' hq=>?_) ?_
  ·have h:=hq H2 (Same.refl _)
   rw [rep_at] at h
   exact h
  intro H3 S3 pu nu
  rw [by_get List.length_replicate]
  have U3:=(U1.trans S3).upd nu (o:=.lst (vints (List.replicate fs.length 0)))
  have h3:=upd_same (H:=H3) (a:=pu) (o:=.lst (vints (List.replicate fs.length 0)))
  have fu:=(U1.trans S3).free nu
  have hn3 : upd H3 pu (.lst (vints (List.replicate fs.length 0))) pn = some (.lst (vints (List.replicate fs.length 0))):=by rw [upd_ne (ne_of_none (S3 _ _ h1) nu)]; exact S3 _ _ h1
  have nu' : pn ≠ pu:=ne_of_none (S3 _ _ h1) nu
  generalize upd H3 pu (.lst (vints (List.replicate fs.length 0))) = H4 at U3 h3 hn3 ⊢
  refine ⟨_,rfl,pd,rfl,⟨_,SqL.of (U3 _ _ hd)⟩,for_list (K:=K) (a:=pd) (xs:=vints (zs ds)) (fun i σ H5=>∃ (o5 o6 : Option V),σ = [some (.ref p),some (.ref pd),some (.int ((fs.length : Nat) : Int)),some (.ref pn),some (.ref pu),o5,o6]∧Same H H5∧H5 pn = some (.lst (vints (needL fs.length tk gv (ds.take i))))∧H5 pu = some (.lst (vints (gL fs.length tk gv (ds.take i))))) ⟨none,none,rfl,U3,hn3,h3⟩ (fun i σ H5 _ hp4=>by obtain ⟨_,_,_,S,_⟩:=hp4; exact SqL.of (S _ _ hd)) ?_ ?_⟩
  ·rintro i v σ H5 hv ⟨o5,o6,rfl,S5,hn5,hu5⟩
   obtain ⟨k,hk1,rfl⟩:=zs_get hv
   have kt:=hk k (List.mem_of_getElem? hk1)
   have kg : k < gv.length:=by omega
   have lt : (tk.getD k []).length = fs.length:=wt.at kt
   have lg : (gv.getD k []).length = fs.length:=wg.at kg
   have tkk : ∀ d ∈ ds.take i,d < tk.length:=fun d hd=>hk d (List.mem_of_mem_take hd)
   have one : ∀ d ∈ [k],d < tk.length:=fun d hd=>by rw [List.mem_singleton.mp hd]; exact kt
   have et : ds.take (i + 1) = ds.take i ++ [k]:=by rw [List.take_add_one,hk1]; rfl
   have tk1 : ∀ d ∈ ds.take (i + 1),d < tk.length:=fun d hd=>hk d (List.mem_of_mem_take hd)
   have P5:=P.same S5
   refine ⟨_,rfl,_,rfl,_,rfl,?_⟩
   refine iteF ?_
   refine ⟨_,rfl,_,_,rfl,rfl,_,rfl,?_⟩
   refine iteD (fun z=>absurd z (by omega)) (fun _=>?_)
   refine ⟨_,rfl,_,rfl,p,_,_,_,rfl,rfl,SqT.of P5.top,rfl,pt,_,rfl,.inl (SqL.of P5.ht),_,_,rfl,rfl,_,rfl,?_⟩
   refine iteD (fun z=>absurd z (by rw [vt]; omega)) (fun _=>?_)
   refine ⟨_,rfl,_,rfl,by omega,by omega,?_⟩
   rw [Int.toNat_natCast]
   have ln:=need_len wt wg gl tkk
   have lu:=gL_len wt wg gl tkk
   refine for_range (n:=_) (fun j σ H6=>∃ (o6 : Option V) (A B : List Int),σ = [some (.ref p),some (.ref pd),some (.int ((fs.length : Nat) : Int)),some (.ref pn),some (.ref pu),some (.int (k : Int)),o6]∧Same H H6∧H6 pn = some (.lst (vints A))∧H6 pu = some (.lst (vints B))∧A.length = fs.length∧B.length = fs.length∧(∀ q,q < fs.length→A.getD q 0 = if q < j then (needL fs.length tk gv (ds.take (i + 1))).getD q 0 else (needL fs.length tk gv (ds.take i)).getD q 0)∧∀ q,q < fs.length→B.getD q 0 = if q < j then (gL fs.length tk gv (ds.take (i + 1))).getD q 0 else (gL fs.length tk gv (ds.take i)).getD q 0)
    ⟨_,_,_,rfl,S5,hn5,hu5,ln,lu,fun q hq=>by rw [if_neg (Nat.not_lt_zero _)],fun q hq=>by rw [if_neg (Nat.not_lt_zero _)]⟩ ?_ ?_
   ·rintro j σ H6 hj ⟨o6',A,B,rfl,S6,hn6,hu6,Al,Bl,hA,hB⟩
    have hj : j < fs.length:=hj
    have P6:=P.same S6
    obtain ⟨qt,et',ft⟩:=rows_at P6.tr kt
    obtain ⟨qg,eg',fg⟩:=rows_at P6.gr kg
    rw [← getDr kt] at ft
    rw [← getDr kg] at fg
    have nA:=hA j hj
    have nB:=hB j hj
    rw [if_neg (Nat.lt_irrefl _)] at nA nB
    refine ⟨_,rfl,_,rfl,pn,_,_,_,rfl,rfl,SqL.of hn6,at_place Al hj,?_⟩
    refine ⟨_,rfl,p,_,_,_,rfl,rfl,SqT.of P6.top,rfl,_,rfl,pt,_,_,_,rfl,rfl,SqL.of P6.ht,et',_,rfl,qt,_,_,_,rfl,rfl,SqL.of ft,at_place lt hj,_,rfl,_,rfl,pu,_,_,_,rfl,rfl,SqL.of hu6,at_place Bl hj,_,_,rfl,rfl,_,_,rfl,?_⟩
    refine ⟨_,rfl,_,rfl,pn,_,_,j,rfl,rfl,hn6,by rw [Int.zero_add]; exact ixN_nat (by rw [ints_len]; omega),?_⟩
    rw [set_ints]
    have e1 : (if (tk.getD k []).getD j 0 - B.getD j 0 > A.getD j 0 then (tk.getD k []).getD j 0 - B.getD j 0 else A.getD j 0) = (needL fs.length tk gv (ds.take (i + 1))).getD j 0:=by
     show mx (A.getD j 0) ((tk.getD k []).getD j 0 - B.getD j 0) = _
     rw [et,need_app wt wg gl nt hj tkk one,need_one wt wg gl nt ng kt hj,nA,nB]
    rw [e1]
    have hu7 : upd H6 pn (.lst (vints (A.set j ((needL fs.length tk gv (ds.take (i + 1))).getD j 0)))) pu = some (.lst (vints B)):=by rw [upd_ne (Ne.symm nu')]; exact hu6
    have hn7:=upd_same (H:=H6) (a:=pn) (o:=.lst (vints (A.set j ((needL fs.length tk gv (ds.take (i + 1))).getD j 0))))
    have S7 : Same H (upd H6 pn (.lst (vints (A.set j ((needL fs.length tk gv (ds.take (i + 1))).getD j 0))))):=S6.upd' fn
    have P7:=P.same S7
    obtain ⟨qt',et7,ft7⟩:=rows_at P7.tr kt
    obtain ⟨qg',eg7,fg7⟩:=rows_at P7.gr kg
    rw [← getDr kt] at ft7
    rw [← getDr kg] at fg7
    generalize upd H6 pn (.lst (vints (A.set j ((needL fs.length tk gv (ds.take (i + 1))).getD j 0)))) = H7 at hu7 hn7 S7 P7 ft7 fg7 ⊢
    refine ⟨_,rfl,_,rfl,pu,_,_,_,rfl,rfl,SqL.of hu7,at_place Bl hj,?_⟩
    refine ⟨_,rfl,p,_,_,_,rfl,rfl,SqT.of P7.top,rfl,_,rfl,pg,_,_,_,rfl,rfl,SqL.of P7.hg,eg7,_,rfl,qg',_,_,_,rfl,rfl,SqL.of fg7,at_place lg hj,_,_,rfl,rfl,?_⟩
    refine ⟨_,rfl,p,_,_,_,rfl,rfl,SqT.of P7.top,rfl,_,rfl,pt,_,_,_,rfl,rfl,SqL.of P7.ht,et7,_,rfl,qt',_,_,_,rfl,rfl,SqL.of ft7,at_place lt hj,_,_,rfl,rfl,?_⟩
    refine ⟨_,rfl,_,rfl,pu,_,_,j,rfl,rfl,hu7,by rw [Int.zero_add]; exact ixN_nat (by rw [ints_len]; omega),?_⟩
    rw [set_ints]
    have e2 : B.getD j 0 + (gv.getD k []).getD j 0 - (tk.getD k []).getD j 0 = (gL fs.length tk gv (ds.take (i + 1))).getD j 0:=by
     rw [et,gL_app wt wg gl hj tkk one,gL_one wt wg gl kt hj,nB]
     omega
    rw [e2]
    refine ⟨_,_,_,rfl,S7.upd' fu,by rw [upd_ne nu']; exact hn7,upd_same,by rw [List.length_set]; exact Al,by rw [List.length_set]; exact Bl,fun q hq=>?_,fun q hq=>?_⟩
    ·by_cases e : q = j
     ·subst e
      rw [if_pos (Nat.lt_succ_self _),set_at (by omega)]
     ·rw [set_ne (Ne.symm e),hA q hq]
      by_cases h : q < j
      ·rw [if_pos h,if_pos (by omega)]
      ·rw [if_neg h,if_neg (by omega)]
    ·by_cases e : q = j
     ·subst e
      rw [if_pos (Nat.lt_succ_self _),set_at (by omega)]
     ·rw [set_ne (Ne.symm e),hB q hq]
      by_cases h : q < j
      ·rw [if_pos h,if_pos (by omega)]
      ·rw [if_neg h,if_neg (by omega)]
   ·rintro σ H6 ⟨o6',A,B,rfl,S6,hn6,hu6,Al,Bl,hA,hB⟩
    refine ⟨_,_,rfl,S6,?_,?_⟩
    ·rw [hn6]
     congr 3
     exact ext_at (z:=fs.length) Al (need_len wt wg gl tk1) fun q hq=>by rw [hA q hq,if_pos hq]
    ·rw [hu6]
     congr 3
     exact ext_at (z:=fs.length) Bl (gL_len wt wg gl tk1) fun q hq=>by rw [hB q hq,if_pos hq]
  ·rintro σ H5 ⟨o5,o6,rfl,S5,hn5,hu5⟩
   rw [ints_len,zs_len,List.take_length] at hn5 hu5
   refine ⟨_,rfl,_,rfl,by show 2 ≤ sizeLine; decide,fun q nq=>?_⟩
   have W:=(Same.refl H5).upd nq (o:=.tup [V.ref pn,V.ref pu])
   exact hQ q pn pu _ (S5.upd nq) upd_same (W _ _ hn5) (W _ _ hu5)
theorem sc_law_behind : FnScope ["plan", "beads", "block", "many", "turn", "behind", "k"] ["plan", "beads", "block"] (defScope s_law_behind) := ⟨rfl, rfl, rfl, by decide +kernel, rfl, by decide +kernel, by decide +kernel⟩
set_option maxHeartbeats 4000000 in
theorem ok_law_behind (T : Txt K mg AR FR) : FnOk P w K mg base CX0 3 AR.f_law_behind FR.d_law_behind ["plan", "beads", "block"] (sp_law_behind K) := by
 have G_law_turn : FnOk P w K mg base CX0 2 AR.f_law_turn FR.d_law_turn _ (sp_law_turn K):=ok_law_turn T
 have G_law_whole : FnOk P w K mg base CX0 1 AR.f_law_whole FR.d_law_whole _ (sp_law_whole K):=ok_law_whole T
 refine T.F_law_behind.ok sc_law_behind (fun vs H Q E h=>?_) (fun cdv A outer s H vs Q E hr h=>?_)
 ·obtain ⟨p,pt,pg,pf,pb,ts,gs,tk,gv,fs,bs,a,c,rfl,P,o,hb,bl,BA,c0,c1,cl,hk,hn,hQ⟩:=h
  rfl
 ·obtain ⟨p,pt,pg,pf,pb,ts,gs,tk,gv,fs,bs,a,c,rfl,P,o,hb,bl,BA,c0,c1,cl,hk,hn,hQ⟩:=h
  refine ⟨_, (pss_cons (ps_if (PW.pt (pw_or (pt_not (pt_val (pe_callB call_isinst (by rfl) T.z_isinstance bt_isinstance (pa_cons (pv 2) (pa_cons (pe_bltn (v := .ty "tuple") (by rfl) T.z_tuple bt_tuple rfl) pa_nil))))) (pw_or (pt_cmpR op_ne (pe_callB call_len_seq (by rfl) T.z_len bt_len (pa_cons (pv 2) pa_nil)) pe_int (nomark _)) (pw_or1 (pt_not (pt_val (pe_callB call_isinst (by rfl) T.z_isinstance bt_isinstance (pa_cons (pe_ix ix_tup (pv 2) pe_int (fun _ _ => rfl)) (pa_cons (pe_bltn (v := .ty "list") (by rfl) T.z_list bt_list rfl) pa_nil))))))))) (pss_one (ps_ret pe_non)) pss_nil)
   (pss_cons (ps_set (i:=3) sc_law_behind.nd rfl (Or.inl rfl) (pe_ix ix_tup (pv 2) pe_int (fun _ _=>rfl)))
   (pss_cons (ps_set (i:=4) sc_law_behind.nd rfl (Or.inl rfl) (pe_call G_law_turn (hr.mono (by decide)) (by rfl) T.m_law_turn T.F_law_turn.kp T.b_law_turn .nil pass0 (pa_cons (pv 0) (pa_cons (pe_ix ix_tup (pv 2) pe_int (fun _ _=>rfl)) pa_nil))))
   (pss_cons (ps_if (PW.pt (pw_or (pt_not (pt_val (pe_call G_law_whole (hr.mono (by decide)) (by rfl) T.m_law_whole T.F_law_whole.kp T.b_law_whole .nil pass0 (pa_cons (pv 3) pa_nil)))) (pw_or (pt_cmpR op_lt (pv 3) pe_int (nomark _)) (pw_or1 (pt_cmpR op_isN (pv 4) pe_non (nomark _)))))) (pss_one (ps_ret pe_non)) pss_nil)
   (pss_cons (ps_if (pt_cmpR op_eq (pv 3) pe_int (nomark _)) (pss_one (ps_ret (pv 1))) pss_nil)
   (pss_cons (ps_set (i:=5) sc_law_behind.nd rfl (Or.inl rfl) (pe_lst pa_nil))
   (pss_cons (ps_for PassesOwn.never rfl (pi_range1 (by rfl) T.z_range (pa_cons (pe_callB call_len_seq (by rfl) T.z_len bt_len (pa_cons (pv 1) pa_nil)) pa_nil)) (pg_name (i:=6) sc_law_behind.nd (by rfl) (Or.inl rfl))
   (pss_cons (ps_if (PW.pt (pw_or (pt_cmpR op_lt (pe_ix ix_list (pv 1) (pv 6) (fun _ _=>rfl)) (pe_ix ix_list (pe_ix ix_tup (pv 4) pe_int (fun _ _=>rfl)) (pv 6) (fun _ _=>rfl)) (nomark _)) (pw_or1 (pt_cmpR op_lt (pe_op op_add (pe_ix ix_list (pv 1) (pv 6) (fun _ _=>rfl)) (pe_op op_mulB (pe_op op_sub (pv 3) pe_int) (pe_ix ix_list (pe_ix ix_tup (pv 4) pe_int (fun _ _=>rfl)) (pv 6) (fun _ _=>rfl)))) (pe_ix ix_list (pe_ix ix_tup (pv 4) pe_int (fun _ _=>rfl)) (pv 6) (fun _ _=>rfl)) (nomark _))))) (pss_one (ps_ret pe_non)) pss_nil)
   (pss_one (ps_expr (pe_bm PySem.F.plainAttrs_list PySem.F.slot_list_append PySem.F.type_list_append mt_append (pv 5) (pa_cons (pe_op op_add (pe_ix ix_list (pv 1) (pv 6) (fun _ _=>rfl)) (pe_op op_mulB (pv 3) (pe_ix ix_list (pe_ix ix_tup (pv 4) pe_int (fun _ _=>rfl)) (pv 6) (fun _ _=>rfl)))) pa_nil))))))
   (pss_one (ps_ret (pv 5)))))))))),?_⟩
  try dsimp only [kx1,kx2,kx3,Cx.nox,Cx.wish]
  have z6:=o.z6
  have wt:=wd_of o.tk
  have wg:=wd_of o.gv
  have gl:=o.gl
  have nt : ∀ r ∈ tk,nonneg r:=fun r hr=>(o.tk r hr).nn
  refine ⟨_,rfl,_,_,_,true,rfl,.tup BA.1,by rfl,true,rfl,?_⟩
  refine iteF ?_
  refine ⟨_,rfl,a.1,_,rfl,.inr (SqT.of BA.1),rfl,_,rfl,?_⟩
  refine iteNS rfl ?_
  refine ⟨_,rfl,a.1,_,_,_,rfl,rfl,SqT.of BA.1,rfl,_,_,_,true,rfl,.lst BA.2,by rfl,true,rfl,?_⟩
  refine iteF ?_
  refine ⟨_,rfl,a.1,_,_,_,rfl,rfl,SqT.of BA.1,rfl,?_⟩
  refine ⟨_,rfl,_,rfl,a.1,_,_,_,rfl,rfl,SqT.of BA.1,rfl,p,pt,pg,pf,a.2,ts,gs,tk,gv,fs,c.2,rfl,P,o,BA.2,hk,fun qt pn pu H1 S1 hq1 hn1 hu1=>?_⟩
  have ci : (0 : Int) < (c.1 : Int):=by omega
  refine ⟨_,rfl,_,rfl,_,rfl,?_⟩
  refine iteF ?_
  refine ⟨_,rfl,_,_,rfl,rfl,_,rfl,?_⟩
  refine iteD (fun z=>absurd z (by omega)) (fun _=>?_)
  refine ⟨_,rfl,rfl,_,rfl,?_⟩
  refine iteD (fun z=>nomatch z) (fun _=>?_)
  refine ⟨_,rfl,rfl,_,rfl,?_⟩
  refine iteD (fun z=>absurd (vint_eq.mp z) (by omega)) (fun _=>?_)
  refine ⟨by decide,fun q nq=>?_⟩
  have U2:=(Same.refl H1).upd nq (o:=.lst [])
  have hq2:=upd_same (H:=H1) (a:=q) (o:=.lst [])
  generalize upd H1 q (.lst []) = H2 at U2 hq2 ⊢
  have S2:=S1.trans U2
  have fq:=S1.free nq
  have lG:=gL_len wt wg gl hk
  have lN:=need_len wt wg gl hk
  have kr : ∀ k ∈ rep c.1 c.2,k < tk.length:=fun k h=>hk k (rep_mem h)
  have lR:=gL_len wt wg gl kr
  have lA:=add_len bl lR
  have ga : ∀ i,i < fs.length→((gL fs.length tk gv c.2).getD i 0).natAbs < 2 ^ 1000:=fun i hi=>Nat.lt_of_le_of_lt (Nat.le_trans (gL_abs wt wg gl (fun r hr=>(o.tk r hr).2) (fun r hr=>(o.gv r hr).2) hi hk) (Nat.mul_le_mul_right _ cl)) (by decide +kernel)
  have cb : ((c.1 : Nat) : Int).natAbs < 2 ^ 1000:=by rw [Int.natAbs_natCast]; exact Nat.lt_trans c1 (by decide +kernel)
  have cb' : ((c.1 : Int) - 1).natAbs < 2 ^ 1000:=Nat.lt_of_le_of_lt (show ((c.1 : Int) - 1).natAbs ≤ c.1 by clear c1 cb; omega) (Nat.lt_trans c1 (by decide +kernel))
  obtain ⟨m,hm⟩:=Nat.exists_eq_succ_of_ne_zero (Nat.ne_of_gt c0)
  refine ⟨_,rfl,pb,_,rfl,.inl (SqL.of (S2 _ _ hb)),_,rfl,rngA _,by rw [ints_len,bl]; omega,?_⟩
  rw [Int.toNat_natCast,ints_len,bl]
  refine for_range (n:=_) (fun i σ H3=>∃ (o6 : Option V),σ = [some (.ref p),some (.ref pb),some (.ref a.1),some (.int (c.1 : Int)),some (.ref qt),some (.ref q),o6]∧Same H1 H3∧H3 q = some (.lst (vints ((add bs (gL fs.length tk gv (rep c.1 c.2))).take i)))) ⟨none,rfl,U2,hq2⟩ ?_ ?_
  ·rintro i σ H3 hi ⟨o6,rfl,S3,hq3⟩
   have hi : i < fs.length:=hi
   have S13:=S1.trans S3
   have hb3:=S13 _ _ hb
   have hn3:=S3 _ _ hn1
   have hu3:=S3 _ _ hu1
   have ht3:=S3 _ _ hq1
   have nd:=hn i hi
   rw [hm,need_rep wt wg gl nt hi hk] at nd
   have n1:=Int.le_trans le_mx1 nd
   have n2:=Int.le_trans le_mx2 nd
   have em : ((c.1 : Int) - 1) = (m : Int):=by omega
   refine ⟨_,rfl,_,rfl,pb,_,_,_,rfl,rfl,SqL.of hb3,at_place bl hi,_,rfl,qt,_,_,_,rfl,rfl,SqT.of ht3,rfl,_,rfl,pn,_,_,_,rfl,rfl,SqL.of hn3,at_place lN hi,_,_,rfl,rfl,_,rfl,?_⟩
   refine iteD (fun z=>absurd z (by omega)) (fun _=>?_)
   refine ⟨_,rfl,_,rfl,pb,_,_,_,rfl,rfl,SqL.of hb3,at_place bl hi,_,rfl,_,_,rfl,rfl,_,rfl,qt,_,_,_,rfl,rfl,SqT.of ht3,rfl,_,rfl,pu,_,_,_,rfl,rfl,SqL.of hu3,at_place lG hi,_,_,rfl,rfl,⟨cb',ga i hi⟩,_,_,rfl,rfl,?_⟩
   refine ⟨_,rfl,qt,_,_,_,rfl,rfl,SqT.of ht3,rfl,_,rfl,pn,_,_,_,rfl,rfl,SqL.of hn3,at_place lN hi,_,_,rfl,rfl,_,rfl,?_⟩
   refine iteD (fun z=>absurd z (by show ¬ (bs.getD i 0 + ((c.1 : Int) - 1) * (gL fs.length tk gv c.2).getD i 0 < (needL fs.length tk gv c.2).getD i 0); rw [em]; omega)) (fun _=>?_)
   refine ⟨_,rfl,.inl ⟨rfl,_,SqL.of hq3⟩,_,rfl,_,rfl,pb,_,_,_,rfl,rfl,SqL.of hb3,at_place bl hi,_,rfl,_,rfl,qt,_,_,_,rfl,rfl,SqT.of ht3,rfl,_,rfl,pu,_,_,_,rfl,rfl,SqL.of hu3,at_place lG hi,_,_,rfl,rfl,⟨cb,ga i hi⟩,_,_,rfl,rfl,?_⟩
   refine ⟨q,_,_,rfl,rfl,hq3,by rw [ints_len,List.length_take]; exact small70 (by omega),?_⟩
   refine ⟨_,rfl,S3.upd' nq,?_⟩
   rw [upd_same,List.take_add_one,List.getElem?_eq_getElem (by omega : i < (add bs (gL fs.length tk gv (rep c.1 c.2))).length),Option.toList_some,vints_snoc]
   have e:=add_at bl lR hi
   rw [L2.getD_at (by omega : i < (add bs (gL fs.length tk gv (rep c.1 c.2))).length),gL_rep wt wg gl hi hk] at e
   rw [e]
  ·rintro σ H3 ⟨o6,rfl,S3,hq3⟩
   rw [List.take_of_length_le (by omega)] at hq3
   exact ⟨_,rfl,hQ q H3 (S1.trans S3) hq3⟩
theorem sc_law_end : FnScope ["plan", "blocks", "beads", "block"] ["plan", "blocks"] (defScope s_law_end) := ⟨rfl, rfl, rfl, by decide +kernel, rfl, by decide +kernel, by decide +kernel⟩
set_option maxHeartbeats 4000000 in
theorem ok_law_end (T : Txt K mg AR FR) : FnOk P w K mg base CX0 4 AR.f_law_end FR.d_law_end ["plan", "blocks"] (sp_law_end K) := by
 have G_law_behind : FnOk P w K mg base CX0 3 AR.f_law_behind FR.d_law_behind _ (sp_law_behind K):=ok_law_behind T
 refine T.F_law_end.ok sc_law_end (fun vs H Q E h=>?_) (fun cdv A outer s H vs Q E hr h=>?_)
 ·obtain ⟨p,pt,pg,pf,pk,ts,gs,tk,gv,fs,e9,ps,bls,rfl,P,o,hk,BK,hc,RN,hQ⟩:=h
  rfl
 ·obtain ⟨p,pt,pg,pf,pk,ts,gs,tk,gv,fs,e9,ps,bls,rfl,P,o,hk,BK,hc,RN,hQ⟩:=h
  refine ⟨_, (pss_cons (ps_if (pt_not (pt_val (pe_callB call_isinst (by rfl) T.z_isinstance bt_isinstance (pa_cons (pv 1) (pa_cons (pe_bltn (v := .ty "list") (by rfl) T.z_list bt_list rfl) pa_nil))))) (pss_one (ps_ret pe_non)) pss_nil)
   (pss_cons (ps_set (i:=2) sc_law_end.nd rfl (Or.inl rfl) (pe_callTy call_list_of (by rfl) T.z_list bt_list (pa_cons (pe_ix ix_tup (pv 0) pe_int (fun _ _=>rfl)) pa_nil)))
   (pss_cons (ps_for PassesOwn.never rfl (pi_list (pv 1)) (pg_name (i:=3) sc_law_end.nd (by rfl) (Or.inl rfl))
   (pss_cons (ps_set (i:=2) sc_law_end.nd rfl (Or.inl rfl) (pe_call G_law_behind (hr.mono (by decide)) (by rfl) T.m_law_behind T.F_law_behind.kp T.b_law_behind .nil pass0 (pa_cons (pv 0) (pa_cons (pv 2) (pa_cons (pv 3) pa_nil)))))
   (pss_one (ps_if (pt_cmpR op_isN (pv 2) pe_non (nomark _)) (pss_one (ps_ret pe_non)) pss_nil))))
   (pss_one (ps_ret (pv 2)))))),?_⟩
  try dsimp only [kx1,kx2,kx3,Cx.nox,Cx.wish]
  have gl:=o.gl
  refine ⟨_,rfl,_,_,_,true,rfl,.lst hk,by rfl,true,rfl,?_⟩
  refine iteF ?_
  refine ⟨_,rfl,p,_,_,_,rfl,rfl,SqT.of P.top,rfl,pf,_,rfl,.inl (SqL.of P.hf),fun pv nv=>?_⟩
  have U11:=(Same.refl H).upd nv (o:=.lst (vints fs))
  have h11:=upd_same (H:=H) (a:=pv) (o:=.lst (vints fs))
  generalize upd H pv (.lst (vints fs)) = H11 at U11 h11 ⊢
  refine ⟨_,rfl,pk,rfl,⟨_,SqL.of (U11 _ _ hk)⟩,for_list (K:=K) (a:=pk) (xs:=fsts ps) (fun i σ H12=>∃ (o3 : Option V) (pv : Addr) (bs : List Int),σ = [some (.ref p),some (.ref pk),some (.ref pv),o3]∧Same H H12∧H12 pv = some (.lst (vints bs))∧bs.length = fs.length∧Run fs.length tk gv bs (bls.drop i) e9) ⟨none,pv,fs,rfl,U11,h11,rfl,RN⟩ (fun i σ H12 _ hp4=>by obtain ⟨_,_,_,_,S,_⟩:=hp4; exact SqL.of (S _ _ hk)) ?_ ?_⟩
  ·rintro i v σ H12 hv ⟨o3,pv,bs,rfl,S12,hv12,bsl,RN⟩
   obtain ⟨pr,hp1,rfl⟩:=fst_get hv
   obtain ⟨c,hc1,hB⟩:=Paired.getL BK hp1
   obtain ⟨k0,k1,k2,k3⟩:=hc c (List.mem_of_getElem? hc1)
   rw [drop_at hc1] at RN
   cases RN with
   | cons nd RN =>
   refine ⟨_,rfl,_,rfl,_,rfl,p,pt,pg,pf,pv,ts,gs,tk,gv,fs,bs,pr,c,rfl,P.same S12,o,hv12,bsl,hB.same S12,k0,k1,k2,k3,nd,fun q H13 S13 hq=>?_⟩
   refine ⟨_,rfl,rfl,_,rfl,?_⟩
   refine iteD (fun z=>nomatch z) (fun _=>?_)
   have kr : ∀ k ∈ rep c.1 c.2,k < tk.length:=fun k h=>k3 k (rep_mem h)
   exact ⟨_,q,_,rfl,S12.trans S13,hq,add_len bsl (gL_len (wd_of o.tk) (wd_of o.gv) gl kr),RN⟩
  rintro σ H12 ⟨o3,pv,bs,rfl,S12,hv12,bsl,RN⟩
  rw [List.length_map,BK.length,List.drop_length] at RN
  cases RN
  exact ⟨_,rfl,hQ pv H12 S12 hv12⟩
theorem sc_mark_behind : FnScope ["net", "marks", "door", "loops", "place", "mark", "point"] ["net", "marks", "door", "loops"] (defScope s_mark_behind) := ⟨rfl, rfl, rfl, by decide +kernel, rfl, by decide +kernel, by decide +kernel⟩
set_option maxHeartbeats 4000000 in
theorem ok_mark_behind (T : Txt K mg AR FR) : FnOk P w K mg base (CXF P w) 7 AR.f_mark_behind FR.d_mark_behind ["net", "marks", "door", "loops"] (sp_mark_behind AR.C_Net AR.C_NoGo K) := by
 have G_Net_init : FnOk P w K mg base CX0 3 AR.f_Net_init FR.d_Net_init _ (sp_Net_init AR.C_Net K):=ok_Net_init T
 have G_may_mark : FnOk P w K mg base CX0 5 AR.f_may_mark FR.d_may_mark _ (sp_may_mark AR.C_Net K):=ok_may_mark T
 have G_NoGo_init : FnOk P w K mg base CX0 1 AR.f_NoGo_init FR.d_NoGo_init _ (sp_NoGo_init AR.C_NoGo K):=ok_NoGo_init T
 have G_mark_after : FnOk P w K mg base (CXF P w) 6 AR.f_mark_after FR.d_mark_after _ (sp_mark_after AR.C_Net AR.C_NoGo K):=ok_mark_after T
 have G_raised : FnOk P w K mg base CX0 3 AR.f_raised FR.d_raised _ (sp_raised K):=ok_raised T
 refine T.F_mark_behind.okF sc_mark_behind (fun vs H Q E h=>?_) (fun cdv A outer s H vs Q E hr h=>?_)
 ·obtain ⟨x,dx,b,d,t,g,f,pM,pl,ts,gs,am,N,MS,bd,lp,rfl,n,ok,hM,RM,wd,m1,m66,hbd,hpl,hQ,hE⟩:=h
  rfl
 ·obtain ⟨x,dx,b,d,t,g,f,pM,pl,ts,gs,am,N,MS,bd,lp,rfl,n,ok,hM,RM,wd,m1,m66,hbd,hpl,hQ,hE⟩:=h
  refine ⟨_,(pss_cons (ps_set (i:=4) sc_mark_behind.nd rfl (Or.inl rfl) (pe_op op_sub (pe_callB call_len_seq (by rfl) T.z_len bt_len (pa_cons (pv 1) pa_nil)) pe_int))
   (pss_cons (ps_if (pt_not (pt_val (pe_call G_may_mark (hr.mono (by decide)) (by rfl) T.m_may_mark T.F_may_mark.kp T.b_may_mark .nil pass0 (pa_cons (pv 0) (pa_cons (pe_ix ix_list (pv 1) (pv 4) (fun _ _=>rfl)) (pa_cons (pv 2) pa_nil)))))) (pss_one (ps_raiseI raiseFI T.xn_NoGo G_NoGo_init (hr.mono (by decide)) (by rfl) T.mC_NoGo T.b_NoGo_init (pa_cons pe_str (pa_cons (pv 4) pa_nil)))) pss_nil)
   (pss_cons (ps_set (i:=5) sc_mark_behind.nd rfl (Or.inl rfl) (pe_call G_mark_after (hr.mono (by decide)) (by rfl) T.m_mark_after T.F_mark_after.kp T.b_mark_after .nil passF (pa_cons (pv 0) (pa_cons (pe_ix ix_list (pv 1) (pv 4) (fun _ _=>rfl)) (pa_cons (pv 2) pa_nil)))))
   (pss_cons (ps_for PassesOwn.leaving rfl (pi_list (pv 3)) (pg_name (i:=6) sc_mark_behind.nd (by rfl) (Or.inl rfl))
   (pss_cons (ps_if (pt_not (pt_chain op_le op_le pe_int (pv 6) (pv 4))) (pss_one (ps_raiseI raiseFI T.xn_NoGo G_NoGo_init (hr.mono (by decide)) (by rfl) T.mC_NoGo T.b_NoGo_init (pa_cons pe_str (pa_cons (pv 4) pa_nil)))) pss_nil)
   (pss_cons (ps_set (i:=5) sc_mark_behind.nd rfl (Or.inl rfl) (pe_call G_raised (hr.mono (by decide)) (by rfl) T.m_raised T.F_raised.kp T.b_raised .nil pass0 (pa_cons (pe_ix ix_list (pv 1) (pv 6) (fun _ _=>rfl)) (pa_cons (pv 5) pa_nil))))
   (pss_one (ps_if (pt_cmpR op_isN (pv 5) pe_non (nomark _)) (pss_one (ps_raiseI raiseFI T.xn_NoGo G_NoGo_init (hr.mono (by decide)) (by rfl) T.mC_NoGo T.b_NoGo_init (pa_cons pe_str (pa_cons (pv 4) pa_nil)))) pss_nil)))))
   (pss_one (ps_ret (pv 5))))))),?_⟩
  try dsimp only [kx1,kx2,kx3,Cx.nox,Cx.wish]
  have b6:=ok.b6
  have kg : bd < N.gives.length:=by rw [ok.gl,← ok.tl]; exact hbd
  have lt : (N.takes.getD bd []).length = N.bowls.length:=by rw [getDr hbd]; exact (ok.tk _ (List.getElem_mem hbd)).1
  have lg : (N.gives.getD bd []).length = N.bowls.length:=by rw [getDr kg]; exact (ok.gv _ (List.getElem_mem kg)).1
  have vM : (am.map V.ref).length = MS.length:=by rw [List.length_map,RM.length]
  have eL : ((MS.length : Nat) : Int) - 1 = ((MS.length - 1 : Nat) : Int):=by omega
  have hl : MS.length - 1 < MS.length:=by omega
  have lD : ∀ {i : Nat},i < MS.length→(MS.getD i []).length = N.bowls.length:=fun h=>by rw [gDM h]; exact wd _ (List.getElem_mem h)
  obtain ⟨qm,em,fm⟩:=mrows_at RM hl
  rw [← gDM hl] at fm
  refine ⟨_,rfl,pM,_,rfl,.inl (SqL.of hM),_,_,rfl,rfl,?_⟩
  try dsimp only
  rw [vM,eL]
  refine ⟨_,rfl,_,rfl,_,rfl,pM,_,_,_,rfl,rfl,SqL.of hM,em,_,rfl,x,dx,b,d,t,g,f,qm,ts,gs,N,_,bd,rfl,n,ok,SqL.of fm,lD hl,hbd,fun H1 S1=>⟨_,rfl,?_⟩⟩
  cases hu : undB ((N.takes.getD bd []).map some) (MS.getD (MS.length - 1) []) with
  | false =>
   refine iteT ?_
   refine ⟨_,rfl,by show 2 ≤ sizeLine; decide,?_⟩
   exact xi_flies (y:=.int ((MS.length - 1 : Nat) : Int)) fun e H' SS ne he=>hE (stF_no hu) e H' (S1.trans SS) (S1.free ne) he
  | true =>
   refine iteF ?_
   have eS:=stF_go (tk:=N.takes) (gv:=N.gives) (MS:=MS) (b:=((bd : Int),lp)) hu
   rw [eS] at hQ hE
   refine ⟨_,rfl,_,rfl,_,rfl,pM,_,_,_,rfl,rfl,SqL.of (S1 _ _ hM),em,_,rfl,x,dx,b,d,t,g,f,qm,ts,gs,N,_,bd,rfl,n.same S1,ok,SqL.of (S1 _ _ fm),lD hl,hbd,fun _ q1 H2 n1 S2 h1=>?_,fun h=>absurd (hu.symm.trans h) (by decide)⟩
   have h1 : H2 q1 = some (.lst (vmk (afterM (MS.getD (MS.length - 1) []) (N.takes.getD bd []) (N.gives.getD bd [])))):=h1
   have S12:=S1.trans S2
   have al:=after_len (lD hl) lt lg
   rw [Int.toNat_natCast] at hQ hE
   generalize afterM (MS.getD (MS.length - 1) []) (N.takes.getD bd []) (N.gives.getD bd []) = m0 at hQ hE h1 al
   generalize hR : lpF MS m0 lp = Rz at hQ hE
   refine ⟨_,rfl,pl,rfl,⟨_,SqL.of (S12 _ _ hpl)⟩,for_list (K:=K) (a:=pl) (xs:=vints lp) (fun j σ H3=>∃ (cm : Addr) (cur : Mark) (o6 : Option V),σ = [some (.ref x),some (.ref pM),some (.int bd),some (.ref pl),some (.int ((MS.length - 1 : Nat) : Int)),some (.ref cm),o6]∧Same H H3∧H cm = none∧H3 cm = some (.lst (vmk cur))∧cur.length = N.bowls.length∧lpF MS cur (lp.drop j) = Rz) ⟨q1,m0,none,rfl,S12,S1.free n1,h1,al,hR⟩ (fun j σ H3 _ hp4=>by obtain ⟨_,_,_,_,S,_⟩:=hp4; exact SqL.of (S _ _ hpl)) ?_ ?_⟩
   ·rintro j v σ H3 hv ⟨cm,cur,o6,rfl,S3,nc,hc,cl,eR⟩
    obtain ⟨y,hy,rfl⟩:=ints_get hv
    rw [drop_at hy] at eR
    have out : ¬ (0 ≤ y ∧ y < (MS.length : Int)) → ∀ (e : Addr) (H' : Hp), Same H3 H' → H3 e = none → H' e = some (.xd [("at", .int ((MS.length - 1 : Nat) : Int))]) → E (.ref AR.C_NoGo) (some e) H' := fun h e H' SS ne he => by
     rw [lpF_out h] at eR
     exact hE eR.symm e H' (S3.trans SS) (S3.free ne) he
    refine ⟨_,rfl,_,_,rfl,rfl,_,rfl,?_⟩
    refine iteD (fun y0=>?_) (fun y0=>?_)
    rotate_left
    ·refine ⟨_,rfl,?_⟩
     refine iteT ?_
     refine ⟨_,rfl,by show 2 ≤ sizeLine; decide,?_⟩
     exact xi_flies (y:=.int ((MS.length - 1 : Nat) : Int)) (out fun z=>y0 z.1)
    refine ⟨_,rfl,_,_,rfl,rfl,_,rfl,?_⟩
    refine iteND (fun y1=>?_) (fun y1=>?_)
    ·refine ⟨_,rfl,by show 2 ≤ sizeLine; decide,?_⟩
     exact xi_flies (y:=.int ((MS.length - 1 : Nat) : Int)) (out fun z=>y1 (by omega))
    obtain ⟨k,rfl⟩:=Int.eq_ofNat_of_zero_le y0
    have hk : k < MS.length:=by omega
    have hin : 0 ≤ ((k : Nat) : Int)∧((k : Nat) : Int) < (MS.length : Int):=⟨y0,by omega⟩
    obtain ⟨qk,ek,fk⟩:=mrows_at (RM.same S3) hk
    rw [← gDM hk] at fk
    refine ⟨_,rfl,_,rfl,pM,_,_,_,rfl,rfl,SqL.of (S3 _ _ hM),ek,_,rfl,qk,cm,_,cur,rfl,SqL.of fk,SqL.of hc,by rw [lD hk,cl],by rw [lD hk]; omega,fun eN H4 S4=>?_,fun r er q2 H4 n2 S4 h2=>?_⟩
    ·refine ⟨_,rfl,rfl,_,rfl,?_⟩
     refine iteD (fun _=>?_) (fun z=>absurd rfl z)
     rw [lpF_no hin (by rw [Int.toNat_natCast]; exact eN)] at eR
     refine ⟨_,rfl,by show 2 ≤ sizeLine; decide,?_⟩
     exact xi_flies (y:=.int ((MS.length - 1 : Nat) : Int)) fun e H' SS ne he=>hE eR.symm e H' ((S3.trans S4).trans SS) ((S3.trans S4).free ne) he
    ·refine ⟨_,rfl,rfl,_,rfl,?_⟩
     refine iteD (fun z=>nomatch z) (fun _=>?_)
     rw [lpF_go hin (by rw [Int.toNat_natCast]; exact er)] at eR
     exact ⟨q2,r,_,rfl,S3.trans S4,S3.free n2,h2,by rw [(raised_und (by rw [lD hk,cl]) er).2.1,cl],eR⟩
   ·rintro σ H3 ⟨cm,cur,o6,rfl,S3,nc,hc,cl,eR⟩
    rw [ints_len,List.drop_length] at eR
    exact ⟨_,rfl,hQ cur eR.symm cm H3 nc S3 hc⟩
theorem sc_branch_marks : FnScope ["net", "branch", "marks", "door", "loops"] ["net", "branch"] (defScope s_branch_marks) := ⟨rfl, rfl, rfl, by decide +kernel, rfl, by decide +kernel, by decide +kernel⟩
set_option maxHeartbeats 4000000 in
theorem ok_branch_marks (T : Txt K mg AR FR) : FnOk P w K mg base (CXF P w) 8 AR.f_branch_marks FR.d_branch_marks ["net", "branch"] (sp_branch_marks AR.C_Net AR.C_NoGo K) := by
 have G_Net_init : FnOk P w K mg base CX0 3 AR.f_Net_init FR.d_Net_init _ (sp_Net_init AR.C_Net K):=ok_Net_init T
 have G_mark_behind : FnOk P w K mg base (CXF P w) 7 AR.f_mark_behind FR.d_mark_behind _ (sp_mark_behind AR.C_Net AR.C_NoGo K):=ok_mark_behind T
 refine T.F_branch_marks.okF sc_branch_marks (fun vs H Q E h=>?_) (fun cdv A outer s H vs Q E hr h=>?_)
 ·obtain ⟨x,dx,b,d,t,g,f,pw,ts,gs,as,N,br,rfl,n,ok,hw,R,bo,hQ,hE⟩:=h
  rfl
 ·obtain ⟨x,dx,b,d,t,g,f,pw,ts,gs,as,N,br,rfl,n,ok,hw,R,bo,hQ,hE⟩:=h
  refine ⟨_,(pss_cons (ps_set (i:=2) sc_branch_marks.nd rfl (Or.inl rfl) (pe_lst (pa_cons (pe_callTy call_list_of (by rfl) T.z_list bt_list (pa_cons (pe_fld (pv 0) rfl) pa_nil)) pa_nil)))
   (pss_cons (ps_for PassesOwn.leaving rfl (pi_list (pv 1)) (pg_tup (by rfl) (pgs_cons (pg_name (i:=3) sc_branch_marks.nd (by rfl) (Or.inl rfl)) (pgs_cons (pg_name (i:=4) sc_branch_marks.nd (by rfl) (Or.inl rfl)) pgs_nil)))
   (pss_one (ps_expr (pe_bm PySem.F.plainAttrs_list PySem.F.slot_list_append PySem.F.type_list_append mt_append (pv 2) (pa_cons (pe_call G_mark_behind (hr.mono (by decide)) (by rfl) T.m_mark_behind T.F_mark_behind.kp T.b_mark_behind .nil passF (pa_cons (pv 0) (pa_cons (pv 2) (pa_cons (pv 3) (pa_cons (pv 4) pa_nil))))) pa_nil)))))
   (pss_one (ps_ret (pv 2))))),?_⟩
  try dsimp only [kx1,kx2,kx3,Cx.nox,Cx.wish]
  have b1:=ok.b1
  have b6:=ok.b6
  have fl:=ok.fs.1
  have le:=bo.le
  have vw : (as.map V.ref).length = br.length:=by rw [List.length_map]; exact Paired.length R
  generalize hR : bmF N.takes N.gives [N.first.map some] br = Rz at hQ hE
  refine ⟨_,rfl,x,_,dx,_,_,rfl,n.ob,T.cl_Net,T.n_Net_first,rfl,f,_,rfl,.inl (SqL.of n.hf),fun e ne=>?_⟩
  have U0:=(Same.refl H).upd ne (o:=.lst (vints N.first))
  have h0:=upd_same (H:=H) (a:=e) (o:=.lst (vints N.first))
  generalize upd H e (.lst (vints N.first)) = H0 at U0 h0 ⊢
  refine ⟨by show 1 ≤ sizeLine; decide,fun pM nM=>?_⟩
  have nM0:=U0.free nM
  have U1:=U0.upd nM (o:=.lst [V.ref e])
  have e1 : upd H0 pM (.lst [V.ref e]) e = some (.lst (vints N.first)):=by rw [upd_ne (ne_of_none h0 nM)]; exact h0
  have hM1:=upd_same (H:=H0) (a:=pM) (o:=.lst [V.ref e])
  generalize upd H0 pM (.lst [V.ref e]) = H1 at U1 e1 hM1 ⊢
  refine ⟨_,rfl,pw,rfl,⟨_,SqL.of (U1 _ _ hw)⟩,for_list (K:=K) (a:=pw) (xs:=as.map V.ref) (fun i σ H2=>∃ (am : List Addr) (MS : List Mark) (o3 o4 : Option V),σ = [some (.ref x),some (.ref pw),some (.ref pM),o3,o4]∧Same H H2∧H2 pM = some (.lst (am.map V.ref))∧MRows H2 am MS∧am.Nodup∧(∀ a ∈ am,H a = none)∧(∀ m ∈ MS,m.length = N.bowls.length)∧MS.length = i + 1∧bmF N.takes N.gives MS (br.drop i) = Rz)
   ⟨[e],[N.first.map some],none,none,rfl,U1,hM1,.cons (by show _ = _; rw [← vints_mk]; exact e1) .nil,List.nodup_cons.mpr ⟨fun z=>(nomatch z),List.nodup_nil⟩,fun a ha=>by rw [List.mem_singleton.mp ha]; exact ne,fun m hm=>by rw [List.mem_singleton.mp hm,List.length_map]; exact fl,rfl,hR⟩ (fun i σ H2 _ hp4=>by obtain ⟨_,_,_,_,_,S,_⟩:=hp4; exact SqL.of (S _ _ hw)) ?_ ?_⟩
  ·rintro i v σ H2 hv ⟨am,MS,o3,o4,rfl,S2,hM,RM,nd,fr,wd,ml,eR⟩
   obtain ⟨a,ha1,rfl⟩:=refs_get hv
   obtain ⟨bb,hb1,⟨ql,w1,w2⟩⟩:=Paired.getL R ha1
   have hi : i < br.length:=(List.getElem?_eq_some_iff.mp hb1).1
   obtain ⟨d0,d1,d2⟩:=bo.dr bb (List.mem_of_getElem? hb1)
   obtain ⟨bd,ebd⟩:=Int.eq_ofNat_of_zero_le d0
   obtain ⟨b1',lp⟩:=bb
   have ebd : b1' = (bd : Int):=ebd
   subst ebd
   have hbd : bd < N.takes.length:=by omega
   have kg : bd < N.gives.length:=by rw [ok.gl,← ok.tl]; exact hbd
   have lt : (N.takes.getD bd []).length = N.bowls.length:=by rw [getDr hbd]; exact (ok.tk _ (List.getElem_mem hbd)).1
   have lg : (N.gives.getD bd []).length = N.bowls.length:=by rw [getDr kg]; exact (ok.gv _ (List.getElem_mem kg)).1
   rw [drop_at hb1] at eR
   have n2:=n.same S2
   refine ⟨a,_,rfl,SqT.of (S2 _ _ w1),rfl,_,_,rfl,_,_,rfl,rfl,?_⟩
   refine ⟨_,rfl,.inl ⟨rfl,_,SqL.of hM⟩,_,rfl,_,rfl,_,rfl,_,rfl,x,dx,b,d,t,g,f,pM,ql,ts,gs,am,N,MS,bd,lp,rfl,n2,ok,hM,RM,wd,by omega,by omega,hbd,S2 _ _ w2,fun mk eS p H3 np S3 hp=>?_,fun eS e' H3 S3 ne' he'=>?_⟩
   ·refine ⟨pM,_,_,rfl,rfl,S3 _ _ hM,by rw [List.length_map,RM.length]; exact small70 (by omega),?_⟩
    rw [bmF_go eS] at eR
    have z0 : ∀ m ∈ MS,1 ≤ m.length:=fun m hm=>by rw [wd m hm]; exact b1
    have pn : p ≠ pM:=Ne.symm (ne_of_none hM np)
    have mkl : mk.length = N.bowls.length:=stF_len wd (by omega) (by rw [Int.toNat_natCast]; exact lt) (by rw [Int.toNat_natCast]; exact lg) eS
    have nin : p ∉ am:=fun z=>by
     obtain ⟨r,_,er⟩:=RM.mem p z
     rw [np] at er; cases er
    refine ⟨am ++ [p],MS ++ [mk],_,_,rfl,(S2.trans S3).upd' nM0,by rw [upd_same,vrefs_snoc],MRows.snoc (MRows.lay (RM.same S3) (RM.apart hM z0)) (by rw [upd_ne pn]; exact hp),nodup_snoc nd nin,fun q hq=>?_,fun q hq=>?_,by rw [List.length_append,ml]; rfl,eR⟩
    ·rcases List.mem_append.mp hq with z | z
     ·exact fr q z
     ·rw [List.mem_singleton.mp z]; exact S2.free np
    ·rcases List.mem_append.mp hq with z | z
     ·exact wd q z
     ·rw [List.mem_singleton.mp z]; exact mkl
   ·rw [bmF_no eS] at eR
    exact hE _ eR.symm e' H3 (S2.trans S3) (S2.free ne') he'
  ·rintro σ H2 ⟨am,MS,o3,o4,rfl,S2,hM,RM,nd,fr,wd,ml,eR⟩
   rw [vw,List.drop_length] at eR
   exact ⟨_,rfl,hQ MS eR.symm pM am H2 nM0 S2 hM RM nd fr wd (by rw [ml,vw])⟩
theorem sc_legs_of : FnScope ["net", "branch", "marks", "doors", "legs", "place", "pair", "mark", "point"] ["net", "branch"] (defScope s_legs_of) := ⟨rfl, rfl, rfl, by decide +kernel, rfl, by decide +kernel, by decide +kernel⟩
set_option maxHeartbeats 4000000 in
theorem ok_legs_of (T : Txt K mg AR FR) : FnOk P w K mg base CX0 9 AR.f_legs_of FR.d_legs_of ["net", "branch"] (sp_legs_of AR.C_Net K) := by
 have G_Net_init : FnOk P w K mg base CX0 3 AR.f_Net_init FR.d_Net_init _ (sp_Net_init AR.C_Net K):=ok_Net_init T
 have G_branch_marks : FnOk P w K mg base (CXF P w) 8 AR.f_branch_marks FR.d_branch_marks _ (sp_branch_marks AR.C_Net AR.C_NoGo K):=ok_branch_marks T
 have G_mark_after : FnOk P w K mg base (CXF P w) 6 AR.f_mark_after FR.d_mark_after _ (sp_mark_after AR.C_Net AR.C_NoGo K):=ok_mark_after T
 have G_raised : FnOk P w K mg base CX0 3 AR.f_raised FR.d_raised _ (sp_raised K):=ok_raised T
 refine T.F_legs_of.ok sc_legs_of (fun vs H Q E h=>?_) (fun cdv A outer s H vs Q E hr h=>?_)
 ·obtain ⟨x,dx,b,d,t,g,f,pw,ts,gs,as,N,br,MS,rfl,n,ok,hw,R,bo,eb,hQ⟩:=h
  rfl
 ·obtain ⟨x,dx,b,d,t,g,f,pw,ts,gs,as,N,br,MS,rfl,n,ok,hw,R,bo,eb,hQ⟩:=h
  refine ⟨_,(pss_cons (ps_set (i:=2) sc_legs_of.nd rfl (Or.inl rfl) (pe_call G_branch_marks.never (hr.mono (by decide)) (by rfl) T.m_branch_marks T.F_branch_marks.kp T.b_branch_marks .nil pass0 (pa_cons (pv 0) (pa_cons (pv 1) pa_nil))))
   (pss_cons (ps_setComp (i := 3) (N' := ["door", "loops"]) (nt := 2) (caps := []) _ _ (CompScope.of (by kernel_rfl)) sc_legs_of.nd rfl rfl (pi_list (pv 1)) (fun _ => (pg_tup (by rfl) (pgs_cons (pg_nameC (i := 0) ["door", "loops"] (by decide +kernel) (by rfl)) (pgs_cons (pg_nameC (i := 1) ["door", "loops"] (by decide +kernel) (by rfl)) pgs_nil)))) (fun _ => pts_nil) (fun _ => (pv 0)))
   (pss_cons (ps_set (i:=4) sc_legs_of.nd rfl (Or.inl rfl) (pe_lst pa_nil))
   (pss_cons (ps_for PassesOwn.never rfl (pi_enum (by rfl) T.z_enumerate (pa_cons (pv 1) pa_nil)) (pg_tup (by rfl) (pgs_cons (pg_name (i:=5) sc_legs_of.nd (by rfl) (Or.inl rfl)) (pgs_cons (pg_name (i:=6) sc_legs_of.nd (by rfl) (Or.inl rfl)) pgs_nil)))
   (pss_cons (ps_expr (pe_bm PySem.F.plainAttrs_list PySem.F.slot_list_append PySem.F.type_list_append mt_append (pv 4) (pa_cons (pe_tup (pa_cons (pe_ix ix_list (pv 2) (pv 5) (fun _ _=>rfl)) (pa_cons (pe_lst (pa_cons (pe_ix ix_tup (pv 6) pe_int (fun _ _=>rfl)) pa_nil)) (pa_cons pe_bl pa_nil)))) pa_nil)))
   (pss_cons (ps_set (i:=7) sc_legs_of.nd rfl (Or.inl rfl) (pe_call G_mark_after.never (hr.mono (by decide)) (by rfl) T.m_mark_after T.F_mark_after.kp T.b_mark_after .nil pass0 (pa_cons (pv 0) (pa_cons (pe_ix ix_list (pv 2) (pv 5) (fun _ _=>rfl)) (pa_cons (pe_ix ix_tup (pv 6) pe_int (fun _ _=>rfl)) pa_nil)))))
   (pss_one (ps_for PassesOwn.never rfl (pi_list (pe_ix ix_tup (pv 6) pe_int (fun _ _=>rfl))) (pg_name (i:=8) sc_legs_of.nd (by rfl) (Or.inl rfl))
   (pss_cons (ps_expr (pe_bm PySem.F.plainAttrs_list PySem.F.slot_list_append PySem.F.type_list_append mt_append (pv 4) (pa_cons (pe_tup (pa_cons (pv 7) (pa_cons (pe_slice sl_list (pv 3) (po_some (pv 8)) (po_some (pe_op op_add (pv 5) pe_int))) (pa_cons pe_bl pa_nil)))) pa_nil)))
   (pss_one (ps_set (i:=7) sc_legs_of.nd rfl (Or.inl rfl) (pe_call G_raised (hr.mono (by decide)) (by rfl) T.m_raised T.F_raised.kp T.b_raised .nil pass0 (pa_cons (pe_ix ix_list (pv 2) (pv 8) (fun _ _=>rfl)) (pa_cons (pv 7) pa_nil)))))))))))
   (pss_one (ps_ret (pv 4))))))),?_⟩
  try dsimp only [kx1,kx2,kx3,Cx.nox,Cx.wish]
  have b1:=ok.b1
  have b6:=ok.b6
  have fl:=ok.fs.1
  have le:=bo.le
  have wt:=wd_of ok.tk
  have wg:=wd_of ok.gv
  have gl : N.gives.length = N.takes.length:=by rw [ok.gl,ok.tl]
  have nt : ∀ r ∈ N.takes,nonneg r:=fun r hr=>(ok.tk r hr).nn
  have ng : ∀ r ∈ N.gives,nonneg r:=fun r hr=>(ok.gv r hr).nn
  have vw : as.length = br.length:=Paired.length R
  obtain ⟨_,_,hst⟩:=bmF_at br [N.first.map some] MS eb
  refine ⟨_,rfl,_,rfl,x,dx,b,d,t,g,f,pw,ts,gs,as,N,br,rfl,n,ok,hw,R,bo,fun MS' e' pM am H1 nM S1 hM RM nd fr wd ml=>?_,fun j z=>(by rw [eb] at z; cases z)⟩
  rw [eb] at e'
  cases e'
  have fF : (N.first.map some : Mark) = MS.getD 0 []:=by
   obtain ⟨h1,h2,_⟩:=bmF_at br [N.first.map some] MS eb
   have : (MS.take 1)[0]? = some (N.first.map some):=by rw [show MS.take 1 = [N.first.map some] from h1]; rfl
   rw [List.getElem?_take_of_lt (by omega)] at this
   rw [List.getD_eq_getElem?_getD,this]
   rfl
  refine ⟨_,rfl,pw,rfl,⟨_,SqL.of (S1 _ _ hw)⟩,?_⟩
  refine comp_listP (K:=K) (a:=pw) (xs:=as.map V.ref) (fun i ys σ H2=>∃ (o1 o2 : Option V),σ = [o1,o2]∧H2 = H1∧ys = vints ((br.take i).map fun b=>b.1)) ⟨none,none,rfl,rfl,rfl⟩ ?_ ?_ ?_
  ·rintro i ys σ H2 hi ⟨o1,o2,rfl,rfl,rfl⟩
   rw [List.length_map,vw] at hi
   refine ⟨SqL.of (S1 _ _ hw),?_⟩
   rw [ints_len,List.length_map,List.length_take]
   exact small70 (by omega)
  ·rintro B i v ys σ H2 hv ⟨o1,o2,rfl,rfl,rfl⟩
   obtain ⟨a,ha1,rfl⟩:=refs_get hv
   obtain ⟨bb,hb1,⟨ql,w1,w2⟩⟩:=Paired.getL R ha1
   refine ⟨a,_,rfl,SqT.of (S1 _ _ w1),rfl,_,_,rfl,_,_,rfl,rfl,?_⟩
   try dsimp only [tTrue]
   rw [if_pos rfl]
   refine ⟨_,rfl,_,_,rfl,rfl,?_⟩
   rw [List.take_add_one,hb1,Option.toList_some,List.map_append]
   exact (vints_snoc _ _).symm
  rintro ys σ H2 ⟨o1,o2,rfl,rfl,rfl⟩ pd npd
  rw [List.length_map,vw,List.take_length]
  have ed : (br.map fun b=>b.1) = zs (br.map fun b=>b.1.toNat):=by
   unfold zs
   rw [List.map_map]
   refine List.map_congr_left fun b hb=>?_
   have:=(bo.dr b hb).1
   show b.1 = ((b.1.toNat : Nat) : Int)
   omega
  rw [ed]
  have hdd : ∀ k ∈ br.map (fun b=>b.1.toNat),k < N.takes.length:=fun k hk=>by
   obtain ⟨b,hb,rfl⟩:=List.mem_map.mp hk
   have:=bo.dr b hb
   omega
  have ddl : (br.map fun b=>b.1.toNat).length = br.length:=List.length_map ..
  have ddg : ∀ i (h : i < br.length),(br.map fun b=>b.1.toNat)[i]? = some (br[i].1.toNat):=fun i h=>by rw [List.getElem?_map,List.getElem?_eq_getElem h]; rfl
  generalize (br.map fun b=>b.1.toNat) = dd at hdd ddl ddg ⊢
  have U2:=(Same.refl H2).upd npd (o:=.lst (vints (zs dd)))
  have h2:=upd_same (H:=H2) (a:=pd) (o:=.lst (vints (zs dd)))
  generalize upd H2 pd (.lst (vints (zs dd))) = H3 at U2 h2 ⊢
  have S13:=S1.trans U2
  refine ⟨by show 0 ≤ sizeLine; decide,fun pL nL=>?_⟩
  have nL0:=S13.free nL
  have U4:=(Same.refl H3).upd nL (o:=.lst [])
  have hL4:=upd_same (H:=H3) (a:=pL) (o:=.lst [])
  have pdL : pd ≠ pL:=ne_of_none h2 nL
  generalize upd H3 pL (.lst []) = H4 at U4 hL4 ⊢
  have S24:=U2.trans U4
  have S14:=S1.trans S24
  have mn : ∀ a ∈ am,a ≠ pL:=fun a ha=>by
   obtain ⟨r,_,er⟩:=(RM.same U2).mem a ha
   exact ne_of_none er nL
  refine ⟨_,rfl,pw,_,rfl,SqL.of (S14 _ _ hw),?_⟩
  refine for_enum (K:=K) (a:=pw) (xs:=as.map V.ref) (fun i σ H5=>∃ (o5 o6 o7 o8 : Option V) (al : List Addr) (ls : List Leg),σ = [some (.ref x),some (.ref pw),some (.ref pM),some (.ref pd),some (.ref pL),o5,o6,o7,o8]∧Same H H5∧Same H3 H5∧H5 pL = some (.lst (al.map V.ref))∧LegRows H H5 pL al ls∧LegsC N.bowls.length N.takes N.gives i (N.first.map some) ls (MS.getD i [])∧SegOk N.bowls.length N.takes N.gives (dd.take i) (MS.take i) (MS.getD i [])∧nonN (MS.getD i []))
   ⟨none,none,none,none,[],[],rfl,S14,U4,hL4,.nil,by rw [fF]; exact .nil _,fun p hp=>absurd hp (by rw [List.take_zero]; exact Nat.not_lt_zero _),?_⟩ (fun i σ H5 _ hp4=>by obtain ⟨_,_,_,_,_,_,_,S,_⟩:=hp4; exact SqL.of (S _ _ hw)) ?_ ?_
  ·rw [← fF]
   intro v hv
   obtain ⟨y,hy,e⟩:=List.mem_map.mp hv
   cases e
   exact (ok.fs.2 _ hy).1
  ·rintro i v q0 σ H5 hv ⟨o5,o6,o7,o8,al,ls,rfl,S5,W5,hL5,R5,LC,SG,nn⟩ nq0
   obtain ⟨a,ha1,rfl⟩:=refs_get hv
   obtain ⟨bb,hb1,⟨ql,w1,w2⟩⟩:=Paired.getL R ha1
   have hi : i < br.length:=(List.getElem?_eq_some_iff.mp hb1).1
   have hbe : br[i] = bb:=(List.getElem?_eq_some_iff.mp hb1).2
   have hs:=hst i hi
   rw [hbe,show ([N.first.map some] : List Mark).length + i = i + 1 by show 1 + i = i + 1; omega] at hs
   obtain ⟨d0,d1,d2⟩:=bo.dr bb (List.mem_of_getElem? hb1)
   have hdi:=ddg i hi
   rw [hbe] at hdi
   obtain ⟨bb1,lp⟩:=bb
   obtain ⟨bd,ebd⟩:=Int.eq_ofNat_of_zero_le d0
   have ebd : bb1 = (bd : Int):=ebd
   subst ebd
   have hdi : dd[i]? = some bd:=hdi
   have hbd : bd < N.takes.length:=by omega
   have U:=(Same.refl H5).upd nq0 (o:=.tup [.int (i : Nat),.ref a])
   have fq0:=S5.free nq0
   refine ⟨q0,[_,_],rfl,SqT.of upd_same,rfl,_,[_],rfl,_,[],rfl,rfl,?_⟩
   try dsimp only [gName,gNil]
   generalize upd H5 q0 (.tup [.int (i : Nat),.ref a]) = H6 at U ⊢
   have S6:=S5.trans U
   have W6:=W5.trans U
   have hL6:=U _ _ hL5
   have R6:=R5.same U
   have hiM : i < MS.length:=by omega
   have tl : (MS.take (i + 1)).length = i + 1:=by rw [List.length_take]; omega
   have tD : ∀ k,k < i + 1→(MS.take (i + 1)).getD k [] = MS.getD k []:=fun k hk=>by rw [List.getD_eq_getElem?_getD,List.getElem?_take_of_lt hk,← List.getD_eq_getElem?_getD]
   have lD : ∀ {k : Nat},k < MS.length→(MS.getD k []).length = N.bowls.length:=fun h=>by rw [gDM h]; exact wd _ (List.getElem_mem h)
   obtain ⟨qm,hqm,fm⟩:=paired_getR (RM.same (U2.trans W6)) (List.getElem?_eq_getElem hiM)
   have qmem : qm ∈ am:=List.mem_of_getElem? hqm
   have em : atI (am.map V.ref) ((i : Nat) : Int) = some (V.ref qm):=atI_nat (by rw [List.getElem?_map,hqm]; rfl)
   rw [← gDM hiM] at fm
   have hM6:=W6 _ _ (U2 _ _ hM)
   have ct:=LC.count
   have f1:=fin_le (N.first.map some)
   rw [List.length_map,fl] at f1
   cases hu : undB ((N.takes.getD bd []).map some) (MS.getD i []) with
   | false =>
    rw [stF_no (by rw [tl,Nat.add_sub_cancel,tD i (Nat.lt_succ_self i),Int.toNat_natCast]; exact hu)] at hs
    cases hs
   | true =>
   rw [stF_go (by rw [tl,Nat.add_sub_cancel,tD i (Nat.lt_succ_self i),Int.toNat_natCast]; exact hu),tl,Nat.add_sub_cancel,tD i (Nat.lt_succ_self i)] at hs
   have hs : lpF (MS.take (i + 1)) (afterM (MS.getD i []) (N.takes.getD bd []) (N.gives.getD bd [])) lp = some (MS.getD (i + 1) []):=hs
   have LC2:=LC.snoc (leg_door wt wg gl nt ng hbd (lD hiM) nn hu)
   have SG2:=SegOk.go wt wg gl nt ng SG (by rw [List.length_take,List.length_take,ddl]; omega) (fun k hk=>hdd k (List.mem_of_mem_take hk)) hbd (lD hiM) hu
   have et1 : dd.take i ++ [bd] = dd.take (i + 1):=by rw [List.take_add_one,hdi]; rfl
   have et2 : MS.take i ++ [MS.getD i []] = MS.take (i + 1):=by rw [List.take_add_one,List.getElem?_eq_getElem hiM,gDM hiM]; rfl
   rw [et1,et2] at SG2
   have kg : bd < N.gives.length:=by rw [gl]; exact hbd
   have lt : (N.takes.getD bd []).length = N.bowls.length:=wt.at hbd
   have lg : (N.gives.getD bd []).length = N.bowls.length:=wg.at kg
   have nn2 : nonN (afterM (MS.getD i []) (N.takes.getD bd []) (N.gives.getD bd [])):=nonN_after nn (by rw [lt,lD hiM]) (by rw [lg,lD hiM]) (by rw [getDr kg]; exact (ok.gv _ (List.getElem_mem kg)).2) hu
   have al2:=after_len (lD hiM) lt lg
   refine ⟨_,rfl,.inl ⟨rfl,_,SqL.of hL6⟩,_,rfl,_,rfl,pM,_,_,_,rfl,rfl,SqL.of hM6,em,_,rfl,a,_,_,_,rfl,rfl,SqT.of (S6 _ _ w1),rfl,by show 1 ≤ sizeLine; decide,fun l1 nl1=>?_⟩
   have U7:=(Same.refl H6).upd nl1 (o:=.lst [V.int (bd : Int)])
   have g7:=upd_same (H:=H6) (a:=l1) (o:=.lst [V.int (bd : Int)])
   have l1L : l1 ≠ pL:=Ne.symm (ne_of_none hL6 nl1)
   generalize upd H6 l1 (.lst [V.int (bd : Int)]) = H7 at U7 g7 ⊢
   refine ⟨by show 3 ≤ sizeLine; decide,fun t1 nt1=>?_⟩
   have U8:=(Same.refl H7).upd nt1 (o:=.tup [V.ref qm,V.ref l1,V.bl false])
   have g8:=upd_same (H:=H7) (a:=t1) (o:=.tup [V.ref qm,V.ref l1,V.bl false])
   have t1L : t1 ≠ pL:=Ne.symm (ne_of_none (U7 _ _ hL6) nt1)
   have ft1:=(S6.trans U7).free nt1
   generalize upd H7 t1 (.tup [V.ref qm,V.ref l1,V.bl false]) = H8 at U8 g8 ⊢
   have S68:=U7.trans U8
   have hL8:=S68 _ _ hL6
   have alen : (al.map V.ref).length = ls.length:=by rw [List.length_map]; exact Paired.length R5
   refine ⟨pL,_,_,rfl,rfl,hL8,by rw [alen]; exact small70 (by omega),?_⟩
   have R9:=Paired.snoc (LegRows.lay (o:=.lst (al.map V.ref ++ [V.ref t1])) (R6.same S68)) (show LegAt H (upd H8 pL (.lst (al.map V.ref ++ [V.ref t1]))) pL t1 (MS.getD i [],[bd],false) from ⟨t1L,ft1,qm,l1,mn qm qmem,l1L,fr qm qmem,S6.free nl1,by rw [upd_ne t1L]; exact g8,by rw [upd_ne (mn qm qmem)]; exact S68 _ _ fm,by rw [upd_ne l1L]; exact U8 _ _ g7⟩)
   have hL9 : upd H8 pL (.lst (al.map V.ref ++ [V.ref t1])) pL = some (.lst ((al ++ [t1]).map V.ref)):=by rw [upd_same,vrefs_snoc]
   have S9 : Same H (upd H8 pL (.lst (al.map V.ref ++ [V.ref t1]))):=(S6.trans S68).upd' nL0
   have W9 : Same H3 (upd H8 pL (.lst (al.map V.ref ++ [V.ref t1]))):=(W6.trans S68).upd' nL
   generalize upd H8 pL (.lst (al.map V.ref ++ [V.ref t1])) = H9 at R9 hL9 S9 W9 ⊢
   have hM9:=W9 _ _ (U2 _ _ hM)
   have fm9 : H9 qm = some (.lst (vmk (MS.getD i []))):=by
    obtain ⟨qm',hqm',fm'⟩:=paired_getR (RM.same (U2.trans W9)) (List.getElem?_eq_getElem hiM)
    rw [hqm] at hqm'
    cases hqm'
    rw [gDM hiM]
    exact fm'
   refine ⟨_,rfl,_,rfl,_,rfl,pM,_,_,_,rfl,rfl,SqL.of hM9,em,_,rfl,a,_,_,_,rfl,rfl,SqT.of (S9 _ _ w1),rfl,x,dx,b,d,t,g,f,qm,ts,gs,N,_,bd,rfl,n.same S9,ok,SqL.of fm9,lD hiM,hbd,fun _ q1 H10 n1 S10 h1=>?_,fun h=>absurd (hu.symm.trans h) (by decide)⟩
   have h1 : H10 q1 = some (.lst (vmk (afterM (MS.getD i []) (N.takes.getD bd []) (N.gives.getD bd [])))):=h1
   have q1L : q1 ≠ pL:=Ne.symm (ne_of_none hL9 n1)
   generalize afterM (MS.getD i []) (N.takes.getD bd []) (N.gives.getD bd []) = m0 at hs LC2 SG2 nn2 al2 h1
   have S10':=S9.trans S10
   have W10:=W9.trans S10
   refine ⟨_,rfl,a,_,_,_,rfl,rfl,SqT.of (S10' _ _ w1),rfl,ql,rfl,⟨_,SqL.of (S10' _ _ w2)⟩,?_⟩
   refine for_list (K:=K) (a:=ql) (xs:=vints lp) (fun j σ H11=>∃ (cm : Addr) (cur : Mark) (o8 : Option V) (al : List Addr) (ls : List Leg),σ = [some (.ref x),some (.ref pw),some (.ref pM),some (.ref pd),some (.ref pL),some (.int ((i : Nat) : Int)),some (.ref a),some (.ref cm),o8]∧Same H H11∧Same H3 H11∧H11 pL = some (.lst (al.map V.ref))∧LegRows H H11 pL al ls∧LegsC N.bowls.length N.takes N.gives (i + 1) (N.first.map some) ls cur∧SegOk N.bowls.length N.takes N.gives (dd.take (i + 1)) (MS.take (i + 1)) cur∧nonN cur∧cur.length = N.bowls.length∧H11 cm = some (.lst (vmk cur))∧cm ≠ pL∧H cm = none∧lpF (MS.take (i + 1)) cur (lp.drop j) = some (MS.getD (i + 1) []))
    ⟨q1,m0,_,_,_,rfl,S10',W10,S10 _ _ hL9,LegRows.same R9 S10,LC2,SG2,nn2,al2,h1,q1L,S9.free n1,hs⟩ (fun j σ H11 _ hp4=>by obtain ⟨_,_,_,_,_,_,S,_⟩:=hp4; exact SqL.of (S _ _ w2)) ?_ ?_
   ·rintro j v σ H11 hv ⟨cm,cur,o8',al',ls',rfl,S11,W11,hL11,R11,LC3,SG3,nn3,cl,hc,cL,fc,eR⟩
    obtain ⟨y,hy,rfl⟩:=ints_get hv
    rw [drop_at hy] at eR
    by_cases hin : 0 ≤ y∧y < ((MS.take (i + 1)).length : Int)
    rotate_left
    ·rw [lpF_out hin] at eR; cases eR
    obtain ⟨k,rfl⟩:=Int.eq_ofNat_of_zero_le hin.1
    have hk : k < i + 1:=by have:=hin.2; rw [tl] at this; omega
    have hkM : k < MS.length:=by omega
    cases er : raisedO (MS.getD k []) cur with
    | none =>
     rw [lpF_no hin (by rw [Int.toNat_natCast,tD k hk]; exact er)] at eR
     cases eR
    | some r =>
    rw [lpF_go hin (by rw [Int.toNat_natCast,tD k hk]; exact er)] at eR
    have wdT : ∀ m ∈ MS.take (i + 1),m.length = N.bowls.length:=fun m hm=>wd m (List.mem_of_mem_take hm)
    have kdd : ∀ x ∈ dd.take (i + 1),x < N.takes.length:=fun x hx=>hdd x (List.mem_of_mem_take hx)
    have LG:=leg_loop wt wg gl (p:=k) SG3 (by rw [tl]; exact hk) wdT kdd (by rw [List.length_take]; omega) cl nn3 (by rw [tD k hk]; exact er)
    have LC4:=LC3.snoc LG
    have SG4:=SegOk.ra wt wg gl SG3 (lD hkM) cl er
    have ru:=raised_und (by rw [lD hkM,cl]) er
    have ct3:=LC3.count
    obtain ⟨qk,hqk,fk⟩:=paired_getR (RM.same (U2.trans W11)) (List.getElem?_eq_getElem hkM)
    rw [← gDM hkM] at fk
    have ek : atI (am.map V.ref) ((k : Nat) : Int) = some (V.ref qk):=atI_nat (by rw [List.getElem?_map,hqk]; rfl)
    have hd11:=W11 _ _ h2
    refine ⟨_,rfl,.inl ⟨rfl,_,SqL.of hL11⟩,_,rfl,_,rfl,_,rfl,_,rfl,_,rfl,_,_,rfl,rfl,_,rfl,pd,_,rfl,SqL.of hd11,fun s1 ns1=>?_⟩
    rw [show ((i : Nat) : Int) + 1 = ((i + 1 : Nat) : Int) from rfl,cut_both dd k (i + 1) (by omega) (by omega)]
    have U12:=(Same.refl H11).upd ns1 (o:=.lst (vints (zs ((dd.take (i + 1)).drop k))))
    have g12:=upd_same (H:=H11) (a:=s1) (o:=.lst (vints (zs ((dd.take (i + 1)).drop k))))
    have s1L : s1 ≠ pL:=Ne.symm (ne_of_none hL11 ns1)
    generalize upd H11 s1 (.lst (vints (zs ((dd.take (i + 1)).drop k)))) = H12 at U12 g12 ⊢
    refine ⟨by show 3 ≤ sizeLine; decide,fun t2 nt2=>?_⟩
    have U13:=(Same.refl H12).upd nt2 (o:=.tup [V.ref cm,V.ref s1,V.bl true])
    have g13:=upd_same (H:=H12) (a:=t2) (o:=.tup [V.ref cm,V.ref s1,V.bl true])
    have t2L : t2 ≠ pL:=Ne.symm (ne_of_none (U12 _ _ hL11) nt2)
    have ft2:=(S11.trans U12).free nt2
    generalize upd H12 t2 (.tup [V.ref cm,V.ref s1,V.bl true]) = H13 at U13 g13 ⊢
    have S1113:=U12.trans U13
    have alen' : (al'.map V.ref).length = ls'.length:=by rw [List.length_map]; exact Paired.length R11
    refine ⟨pL,_,_,rfl,rfl,S1113 _ _ hL11,by rw [alen']; exact small70 (by omega),?_⟩
    have R14:=Paired.snoc (LegRows.lay (o:=.lst (al'.map V.ref ++ [V.ref t2])) (R11.same S1113)) (show LegAt H (upd H13 pL (.lst (al'.map V.ref ++ [V.ref t2]))) pL t2 (cur,(dd.take (i + 1)).drop k,true) from ⟨t2L,ft2,cm,s1,cL,s1L,fc,S11.free ns1,by rw [upd_ne t2L]; exact g13,by rw [upd_ne cL]; exact S1113 _ _ hc,by rw [upd_ne s1L]; exact U13 _ _ g12⟩)
    have hL14 : upd H13 pL (.lst (al'.map V.ref ++ [V.ref t2])) pL = some (.lst ((al' ++ [t2]).map V.ref)):=by rw [upd_same,vrefs_snoc]
    have S14' : Same H (upd H13 pL (.lst (al'.map V.ref ++ [V.ref t2]))):=(S11.trans S1113).upd' nL0
    have W14 : Same H3 (upd H13 pL (.lst (al'.map V.ref ++ [V.ref t2]))):=(W11.trans S1113).upd' nL
    have hc14 : upd H13 pL (.lst (al'.map V.ref ++ [V.ref t2])) cm = some (.lst (vmk cur)):=by rw [upd_ne cL]; exact S1113 _ _ hc
    generalize upd H13 pL (.lst (al'.map V.ref ++ [V.ref t2])) = H14 at R14 hL14 S14' W14 hc14 ⊢
    have fk14 : H14 qk = some (.lst (vmk (MS.getD k []))):=by
     obtain ⟨qk',hqk',fk'⟩:=paired_getR (RM.same (U2.trans W14)) (List.getElem?_eq_getElem hkM)
     rw [hqk] at hqk'
     cases hqk'
     rw [gDM hkM]
     exact fk'
    refine ⟨_,rfl,_,rfl,pM,_,_,_,rfl,rfl,SqL.of (W14 _ _ (U2 _ _ hM)),ek,_,rfl,qk,cm,_,cur,rfl,SqL.of fk14,SqL.of hc14,by rw [lD hkM,cl],by rw [lD hkM]; omega,fun eN=>(by rw [er] at eN; cases eN),fun r' er' q2 H15 n2 S15 h2'=>?_⟩
    rw [er] at er'
    cases er'
    exact ⟨q2,r,_,_,_,rfl,S14'.trans S15,W14.trans S15,S15 _ _ hL14,LegRows.same R14 S15,LC4,SG4,ru.2.2 nn3,by rw [ru.2.1,cl],h2',Ne.symm (ne_of_none hL14 n2),S14'.free n2,eR⟩
   ·rintro σ H11 ⟨cm,cur,o8',al',ls',rfl,S11,W11,hL11,R11,LC3,SG3,nn3,cl,hc,cL,fc,eR⟩
    rw [ints_len,List.drop_length] at eR
    have eR : cur = MS.getD (i + 1) []:=Option.some.inj eR
    rw [eR] at LC3 SG3 nn3
    exact ⟨_,_,_,_,al',ls',rfl,S11,W11,hL11,R11,LC3,SG3,nn3⟩
  ·rintro σ H5 ⟨o5,o6,o7,o8,al,ls,rfl,S5,W5,hL5,R5,LC,SG,nn⟩
   rw [List.length_map,vw] at LC
   have ct:=LC.count
   have f1:=fin_le (N.first.map some)
   rw [List.length_map,fl] at f1
   exact ⟨_,rfl,hQ pL al ls H5 nL0 S5 hL5 R5 (by omega) LC⟩
theorem sc_plus : FnScope ["ones", "others"] ["ones", "others"] (defScope s_plus) := ⟨rfl, rfl, rfl, by decide +kernel, rfl, by decide +kernel, by decide +kernel⟩
set_option maxHeartbeats 4000000 in
theorem ok_plus (T : Txt K mg AR FR) : FnOk P w K mg base CX0 2 AR.f_plus FR.d_plus ["ones", "others"] (sp_plus K) := by
 have G_refuse_unlike : FnOk P w K mg base CX0 1 AR.f_refuse_unlike FR.d_refuse_unlike _ (sp_refuse_unlike K):=ok_refuse_unlike T
 refine T.F_plus.ok sc_plus (fun vs H Q E h=>?_) (fun cdv A outer s H vs Q E hr h=>?_)
 ·obtain ⟨a,b,xs,ys,rfl,ha,hb,hl,hz,hQ⟩:=h
  rfl
 ·obtain ⟨a,b,xs,ys,rfl,ha,hb,hl,hz,hQ⟩:=h
  refine ⟨_,(pss_cons (ps_expr (pe_call G_refuse_unlike (hr.mono (by decide)) (by rfl) T.m_refuse_unlike T.F_refuse_unlike.kp T.b_refuse_unlike .nil pass0 (pa_cons (pv 0) (pa_cons (pv 1) pa_nil))))
   (pss_one (ps_ret (pe_comp (N' := ["one", "other"]) (nt := 2) (caps := []) _ _ (CompScope.of (by kernel_rfl)) (pi_zip (by rfl) T.z_zip (pa_cons (pv 0) (pa_cons (pv 1) pa_nil))) (fun _ => (pg_tup (by rfl) (pgs_cons (pg_nameC (i := 0) ["one", "other"] (by decide +kernel) (by rfl)) (pgs_cons (pg_nameC (i := 1) ["one", "other"] (by decide +kernel) (by rfl)) pgs_nil)))) (fun _ => pts_nil) (fun _ => (pe_op op_add (pv 0) (pv 1))))))), ?_⟩
  try dsimp only [kx1,kx2,kx3,Cx.nox,Cx.wish]
  refine ⟨_,rfl,_,rfl,a,b,_,_,rfl,ha,hb,by rw [ints_len,ints_len]; exact hl,?_⟩
  refine ⟨_,rfl,_,rfl,a,b,_,_,rfl,ha,hb,?_⟩
  refine comp_zip1 (τ:=[]) (gInt fun i j=>i + j) (by rw [ints_len,ints_len]; exact hl) (by rw [ints_len]; exact small70 hz) ha hb ?_ ?_
  ·intro B x w H2 hx hw S Q' hq
   obtain ⟨i,_,rfl⟩:=ints_mem hx
   obtain ⟨j,_,rfl⟩:=ints_mem hw
   exact ⟨_,rfl,_,rfl,_,_,rfl,rfl,hq H2 (Same.refl _)⟩
  ·intro H2 S p hp
   rw [zip_ints (f:=fun i j=>i + j) fun _ _=>rfl]
   exact hQ p _ (S.free hp) (S.upd hp) upd_same
theorem sc_times : FnScope ["many", "ones"] ["many", "ones"] (defScope s_times) := ⟨rfl, rfl, rfl, by decide +kernel, rfl, by decide +kernel, by decide +kernel⟩
set_option maxHeartbeats 4000000 in
theorem ok_times (T : Txt K mg AR FR) : FnOk P w K mg base CX0 1 AR.f_times FR.d_times ["many", "ones"] (sp_times K) := by
 refine T.F_times.ok sc_times (fun vs H Q E h=>?_) (fun cdv A outer s H vs Q E hr h=>?_)
 ·obtain ⟨m,b,ys,rfl,hb,hz,hm,hy,hQ⟩:=h
  rfl
 ·obtain ⟨m,b,ys,rfl,hb,hz,hm,hy,hQ⟩:=h
  refine ⟨_, (pss_one (ps_ret (pe_comp (N' := ["one", "many"]) (nt := 1) (caps := [0]) _ _ (CompScope.of (by kernel_rfl)) (pi_list (pv 1)) (fun _ => (pg_nameC (i := 0) ["one", "many"] (by decide +kernel) (by rfl))) (fun _ => pts_nil) (fun _ => (pe_op op_mulB (pv 1) (pv 0)))))), ?_⟩
  try dsimp only [kx1,kx2,kx3,Cx.nox,Cx.wish]
  refine ⟨_,rfl,b,rfl,⟨_,hb⟩,?_⟩
  refine comp_listP (K:=K) (a:=b) (xs:=vints ys) (fun i zs σ H2=>(∃ v,σ = [v,some (.int m)])∧Same H H2∧zs = vints ((ys.take i).map fun y=>m * y)) ⟨⟨none,rfl⟩,Same.refl _,rfl⟩ ?_ ?_ ?_
  ·rintro i zs σ H2 hi ⟨_,S,rfl⟩
   refine ⟨S.seq hb,?_⟩
   rw [ints_len,List.length_map,List.length_take]
   exact small70 (by omega)
  ·rintro B i x zs σ H2 hx ⟨⟨v,rfl⟩,S,rfl⟩
   obtain ⟨n,hn,rfl⟩:=ints_get hx
   try dsimp only [gName,tTrue]
   rw [if_pos rfl]
   refine ⟨_,rfl,_,rfl,_,_,rfl,rfl,⟨hm,hy n (List.mem_of_getElem? hn)⟩,⟨_,rfl⟩,S,?_⟩
   rw [List.take_add_one,hn,Option.toList_some,List.map_append]
   exact (vints_snoc _ _).symm
  ·rintro zs σ H2 ⟨_,S,rfl⟩ p hp
   rw [ints_len,List.take_length] at *
   exact hQ p _ (S.free hp) (S.upd hp) (by rw [upd_same])
theorem sc_tally_gain : FnScope ["net", "tally", "gained", "door", "many"] ["net", "tally"] (defScope s_tally_gain) := ⟨rfl, rfl, rfl, by decide +kernel, rfl, by decide +kernel, by decide +kernel⟩
set_option maxHeartbeats 4000000 in
theorem ok_tally_gain (T : Txt K mg AR FR) : FnOk P w K mg base CX0 6 AR.f_tally_gain FR.d_tally_gain ["net", "tally"] (sp_tally_gain AR.C_Net K) := by
 have G_Net_init : FnOk P w K mg base CX0 3 AR.f_Net_init FR.d_Net_init _ (sp_Net_init AR.C_Net K):=ok_Net_init T
 have G_plus : FnOk P w K mg base CX0 2 AR.f_plus FR.d_plus _ (sp_plus K):=ok_plus T
 have G_times : FnOk P w K mg base CX0 1 AR.f_times FR.d_times _ (sp_times K):=ok_times T
 have G_gain : FnOk P w K mg base CX0 5 AR.f_gain FR.d_gain _ (sp_gain AR.C_Net K):=ok_gain T
 refine T.F_tally_gain.ok sc_tally_gain (fun vs H Q E h=>?_) (fun cdv A outer s H vs Q E hr h=>?_)
 ·obtain ⟨x,dx,b,d,t,g,f,c,ts,gs,N,ms,rfl,n,ok,hc,ml,mb,hQ⟩:=h
  rfl
 ·obtain ⟨x,dx,b,d,t,g,f,c,ts,gs,N,ms,rfl,n,ok,hc,ml,mb,hQ⟩:=h
  refine ⟨_,(pss_cons (ps_set (i:=2) sc_tally_gain.nd rfl (Or.inl rfl) (pe_op op_rep (pe_lst (pa_cons pe_int pa_nil)) (pe_callB call_len_seq (by rfl) T.z_len bt_len (pa_cons (pe_fld (pv 0) rfl) pa_nil))))
   (pss_cons (ps_for PassesOwn.never rfl (pi_enum (by rfl) T.z_enumerate (pa_cons (pv 1) pa_nil)) (pg_tup (by rfl) (pgs_cons (pg_name (i:=3) sc_tally_gain.nd (by rfl) (Or.inl rfl)) (pgs_cons (pg_name (i:=4) sc_tally_gain.nd (by rfl) (Or.inl rfl)) pgs_nil)))
   (pss_one (ps_set (i:=2) sc_tally_gain.nd rfl (Or.inl rfl) (pe_call G_plus (hr.mono (by decide)) (by rfl) T.m_plus T.F_plus.kp T.b_plus .nil pass0 (pa_cons (pv 2) (pa_cons (pe_call G_times (hr.mono (by decide)) (by rfl) T.m_times T.F_times.kp T.b_times .nil pass0 (pa_cons (pv 4) (pa_cons (pe_call G_gain (hr.mono (by decide)) (by rfl) T.m_gain T.F_gain.kp T.b_gain .nil pass0 (pa_cons (pv 0) (pa_cons (pv 3) pa_nil))) pa_nil))) pa_nil))))))
   (pss_one (ps_ret (pv 2))))),?_⟩
  try dsimp only [kx1,kx2,kx3,Cx.nox,Cx.wish]
  have b6:=ok.b6
  have d8:=ok.d8
  have tl:=ok.tl
  have gl:=ok.gl
  have vb : (vstrs N.bowls).length = N.bowls.length:=List.length_map ..
  refine ⟨by decide,fun l nl=>?_⟩
  have U1:=(Same.refl H).upd nl (o:=.lst [V.int 0])
  refine ⟨_,rfl,x,_,dx,_,_,rfl,U1 _ _ n.ob,T.cl_Net,T.n_Net_bowls,rfl,b,_,rfl,.inl (SqL.of (U1 _ _ n.hb)),?_⟩
  refine ⟨l,_,_,rfl,rfl,upd_same,by rw [vb]; omega,by rw [vb]; omega,by rw [vb]; show 1 * N.bowls.length ≤ _; exact Nat.le_of_lt (small70 (by omega)),fun p0 np0=>?_⟩
  rw [vb,Int.toNat_natCast,rep_flat]
  have U2:=U1.upd np0 (o:=.lst (vints (List.replicate N.bowls.length 0)))
  have e0:=upd_same (H:=upd H l (.lst [V.int 0])) (a:=p0) (o:=.lst (vints (List.replicate N.bowls.length 0)))
  have f0 : H p0 = none:=U1.free np0
  generalize upd (upd H l (.lst [V.int 0])) p0 (.lst (vints (List.replicate N.bowls.length 0))) = H1 at U2 e0 ⊢
  refine ⟨_,rfl,c,_,rfl,U2.seq hc,?_⟩
  refine for_enum (K:=K) (a:=c) (xs:=vints ms) (fun i σ H2=>∃ (q : Addr) (o3 o4 : Option V),σ = [some (.ref x),some (.ref c),some (.ref q),o3,o4]∧Same H H2∧H q = none∧H2 q = some (.lst (vints (tgU N.bowls.length N.takes N.gives ms i)))) ⟨p0,none,none,rfl,U2,f0,e0⟩ (fun i σ H2 _ hp4=>by obtain ⟨_,_,_,_,S,_⟩:=hp4; exact S.seq hc) ?_ ?_
  ·rintro i v q0 σ H2 hv ⟨q,o3,o4,rfl,S,fq,hq⟩ nq0
   obtain ⟨m,hm,rfl⟩:=ints_get hv
   have hi:=(List.getElem?_eq_some_iff.mp hm).1
   have it : i < N.takes.length:=by omega
   have ig : i < N.gives.length:=by omega
   have U:=(Same.refl H2).upd nq0 (o:=.tup [.int (i : Nat),.int m])
   refine ⟨q0,[_,_],rfl,SqT.of upd_same,rfl,_,[_],rfl,_,[],rfl,rfl,?_⟩
   try dsimp only [gName,gNil]
   generalize upd H2 q0 (.tup [.int (i : Nat),.int m]) = H3 at U ⊢
   have S3:=S.trans U
   have n3:=n.same S3
   have lg:=(ok.gv _ (List.getElem_mem ig)).1
   have lt:=(ok.tk _ (List.getElem_mem it)).1
   have ls : (L2.sub N.gives[i] N.takes[i]).length = N.bowls.length:=sub_len lg lt
   refine ⟨_,rfl,_,rfl,_,rfl,_,rfl,x,dx,b,d,t,g,f,ts,gs,N,i,it,ig,rfl,n3,ok,fun q2 H4 nq2 S4 hq2=>?_⟩
   change H4 q2 = some (.lst (vints (L2.sub N.gives[i] N.takes[i]))) at hq2
   refine ⟨m,q2,_,rfl,SqL.of hq2,by omega,p70 (mb m (List.mem_of_getElem? hm)),fun y hy=>?_,fun q5 H5 nq5 S5 hq5=>?_⟩
   ·exact Nat.lt_of_le_of_lt (sub_abs lg lt (ok.gv _ (List.getElem_mem ig)).2 (ok.tk _ (List.getElem_mem it)).2 y hy) (by decide +kernel)
   have lu:=tgU_len (wd_of ok.tk) (wd_of ok.gv) (by omega) ms (i:=i) (by omega)
   refine ⟨q,q5,_,_,rfl,SqL.of (S5 _ _ (S4 _ _ (U _ _ hq))),SqL.of hq5,by rw [lu,List.length_map,ls],by omega,fun p H6 np S6 hp=>?_⟩
   have SS:=((S3.trans S4).trans S5).trans S6
   refine ⟨p,_,_,rfl,SS,(((S3.trans S4).trans S5).free np),?_⟩
   rw [hp]
   show some (HO.lst (vints (add (tgU N.bowls.length N.takes N.gives ms i) ((L2.sub N.gives[i] N.takes[i]).map fun y=>m * y)))) = some (HO.lst (vints (add (tgU N.bowls.length N.takes N.gives ms i) ((L2.sub (N.gives.getD i []) (N.takes.getD i [])).map fun y=>ms.getD i 0 * y))))
   rw [getDr it,getDr ig,List.getD_eq_getElem?_getD (l:=ms),hm]
   rfl
  ·rintro σ H2 ⟨q,o3,o4,rfl,S,fq,hq⟩
   rw [ints_len] at hq
   exact ⟨_,rfl,hQ q H2 fq S hq⟩
theorem sc_tally_of : FnScope ["net", "doors"] ["net", "doors"] (defScope s_tally_of) := ⟨rfl, rfl, rfl, by decide +kernel, rfl, by decide +kernel, by decide +kernel⟩
set_option maxHeartbeats 4000000 in
theorem ok_tally_of (T : Txt K mg AR FR) : FnOk P w K mg base CX0 5 AR.f_tally_of FR.d_tally_of ["net", "doors"] (sp_tally_of AR.C_Net K) := by
 have G_Net_init : FnOk P w K mg base CX0 3 AR.f_Net_init FR.d_Net_init _ (sp_Net_init AR.C_Net K):=ok_Net_init T
 refine T.F_tally_of.ok sc_tally_of (fun vs H Q E h=>?_) (fun cdv A outer s H vs Q E hr h=>?_)
 ·obtain ⟨x,dx,b,d,t,g,f,c,ts,gs,N,ds,rfl,n,ok,hc,hQ⟩:=h
  rfl
 ·obtain ⟨x,dx,b,d,t,g,f,c,ts,gs,N,ds,rfl,n,ok,hc,hQ⟩:=h
  refine ⟨_, (pss_one (ps_ret (pe_comp (N' := ["door", "doors"]) (nt := 1) (caps := [1]) _ _ (CompScope.of (by kernel_rfl)) (pi_range1 (by rfl) T.z_range (pa_cons (pe_callB call_len_seq (by rfl) T.z_len bt_len (pa_cons (pe_fld (pv 0) rfl) pa_nil)) pa_nil)) (fun _ => (pg_nameC (i := 0) ["door", "doors"] (by decide +kernel) (by rfl))) (fun _ => pts_nil) (fun _ => (pe_bm PySem.F.plainAttrs_list PySem.F.slot_list_count PySem.F.type_list_count mt_count (pv 1) (pa_cons (pv 0) pa_nil)))))), ?_⟩
  try dsimp only [kx1,kx2,kx3,Cx.nox,Cx.wish]
  have vd : (vstrs N.doors).length = N.doors.length:=List.length_map ..
  have d8:=ok.d8
  refine ⟨_,rfl,x,_,dx,_,_,rfl,n.ob,T.cl_Net,T.n_Net_doors,rfl,d,_,rfl,.inl (SqL.of n.hd),_,rfl,by omega,by rw [vd]; omega,?_⟩
  rw [Int.toNat_natCast,vd]
  refine comp_range1 (τ:=[some (.ref c)]) (fun i=>V.int ((ds.count i : Nat) : Int)) (small70 (by omega)) (fun B j H2 hj S Q' hq=>?_) ?_
  ·have h:=hq H2 (Same.refl _)
   refine ⟨_,rfl,.inl ⟨rfl,_,S.seq hc⟩,_,rfl,c,_,_,rfl,rfl,S.seq hc,?_⟩
   rw [Int.zero_add,count_zs]
   exact h
  ·intro H2 S p np
   have e : (List.range N.doors.length).map (fun i=>V.int ((ds.count i : Nat) : Int)) = vints (cntL N.doors.length ds):=by
    rw [cntL,vints,List.map_map]
    rfl
   rw [e]
   exact hQ p _ (S.free np) (S.upd np) upd_same
theorem sc_gain_of : FnScope ["net", "doors"] ["net", "doors"] (defScope s_gain_of) := ⟨rfl, rfl, rfl, by decide +kernel, rfl, by decide +kernel, by decide +kernel⟩
set_option maxHeartbeats 4000000 in
theorem ok_gain_of (T : Txt K mg AR FR) : FnOk P w K mg base CX0 7 AR.f_gain_of FR.d_gain_of ["net", "doors"] (sp_gain_of AR.C_Net K) := by
 have G_Net_init : FnOk P w K mg base CX0 3 AR.f_Net_init FR.d_Net_init _ (sp_Net_init AR.C_Net K):=ok_Net_init T
 have G_tally_gain : FnOk P w K mg base CX0 6 AR.f_tally_gain FR.d_tally_gain _ (sp_tally_gain AR.C_Net K):=ok_tally_gain T
 have G_tally_of : FnOk P w K mg base CX0 5 AR.f_tally_of FR.d_tally_of _ (sp_tally_of AR.C_Net K):=ok_tally_of T
 refine T.F_gain_of.ok sc_gain_of (fun vs H Q E h=>?_) (fun cdv A outer s H vs Q E hr h=>?_)
 ·obtain ⟨x,dx,b,d,t,g,f,c,ts,gs,N,ds,rfl,n,ok,hc,dl,hQ⟩:=h
  rfl
 ·obtain ⟨x,dx,b,d,t,g,f,c,ts,gs,N,ds,rfl,n,ok,hc,dl,hQ⟩:=h
  refine ⟨_,(pss_one (ps_ret (pe_call G_tally_gain (hr.mono (by decide)) (by rfl) T.m_tally_gain T.F_tally_gain.kp T.b_tally_gain .nil pass0 (pa_cons (pv 0) (pa_cons (pe_call G_tally_of (hr.mono (by decide)) (by rfl) T.m_tally_of T.F_tally_of.kp T.b_tally_of .nil pass0 (pa_cons (pv 0) (pa_cons (pv 1) pa_nil))) pa_nil))))),?_⟩
  try dsimp only [kx1,kx2,kx3,Cx.nox,Cx.wish]
  have cl : (cntL N.doors.length ds).length = N.takes.length:=by rw [cntL_len,ok.tl]
  refine ⟨_,rfl,_,rfl,_,rfl,x,dx,b,d,t,g,f,c,ts,gs,N,ds,rfl,n,ok,hc,fun q H2 nq S hq=>?_⟩
  refine ⟨x,dx,b,d,t,g,f,q,ts,gs,N,_,rfl,n.same S,ok,SqL.of hq,cl,cnt_abs dl,fun p H3 np S3 hp=>?_⟩
  rw [cl] at hp
  exact hQ p H3 (S.free np) (S.trans S3) hp
theorem sc_often_enough : FnScope ["net", "ahead", "doors", "wanted", "often", "bowl", "gained", "lacking"] ["net", "ahead", "doors", "wanted"] (defScope s_often_enough) := ⟨rfl, rfl, rfl, by decide +kernel, rfl, by decide +kernel, by decide +kernel⟩
set_option maxHeartbeats 4000000 in
theorem ok_often_enough (T : Txt K mg AR FR) : FnOk P w K mg base CX0 8 AR.f_often_enough FR.d_often_enough ["net", "ahead", "doors", "wanted"] (sp_often_enough AR.C_Net K) := by
 have G_Net_init : FnOk P w K mg base CX0 3 AR.f_Net_init FR.d_Net_init _ (sp_Net_init AR.C_Net K):=ok_Net_init T
 have G_gain_of : FnOk P w K mg base CX0 7 AR.f_gain_of FR.d_gain_of _ (sp_gain_of AR.C_Net K):=ok_gain_of T
 refine T.F_often_enough.ok sc_often_enough (fun vs H Q E h=>?_) (fun cdv A outer s H vs Q E hr h=>?_)
 ·obtain ⟨x,dx,b,d,t,g,f,pa,pd,pw,ts,gs,N,A,ds,w,M,rfl,n,ok,ha,hd,hw,al,wl,nn,dl,hk,hM,wM,hQ⟩:=h
  rfl
 ·obtain ⟨x,dx,b,d,t,g,f,pa,pd,pw,ts,gs,N,A,ds,w,M,rfl,n,ok,ha,hd,hw,al,wl,nn,dl,hk,hM,wM,hQ⟩:=h
  refine ⟨_,(pss_cons (ps_set (i:=4) sc_often_enough.nd rfl (Or.inl rfl) pe_int)
   (pss_cons (ps_for PassesOwn.never rfl (pi_enum (by rfl) T.z_enumerate (pa_cons (pe_call G_gain_of (hr.mono (by decide)) (by rfl) T.m_gain_of T.F_gain_of.kp T.b_gain_of .nil pass0 (pa_cons (pv 0) (pa_cons (pv 2) pa_nil))) pa_nil)) (pg_tup (by rfl) (pgs_cons (pg_name (i:=5) sc_often_enough.nd (by rfl) (Or.inl rfl)) (pgs_cons (pg_name (i:=6) sc_often_enough.nd (by rfl) (Or.inl rfl)) pgs_nil)))
   (pss_one (ps_if (PW.pt (pw_and (pt_cmpR op_notN (pe_ix ix_list (pv 1) (pv 5) (fun _ _=>rfl)) pe_non (nomark _)) (pw_and1 (pt_cmpR op_gt (pv 6) pe_int (nomark _))))) (pss_cons (ps_set (i:=7) sc_often_enough.nd rfl (Or.inl rfl) (pe_op op_sub (pe_ix ix_list (pv 3) (pv 5) (fun _ _=>rfl)) (pe_ix ix_list (pv 1) (pv 5) (fun _ _=>rfl))))
   (pss_one (ps_set (i:=4) sc_often_enough.nd rfl (Or.inl rfl) (pe_callB (call_max2 rfl) (by rfl) T.z_max bt_max (pa_cons (pv 4) (pa_cons (pe_op op_fdivB (pe_op op_sub (pe_op op_add (pv 7) (pv 6)) pe_int) (pv 6)) pa_nil)))))) pss_nil)))
   (pss_one (ps_ret (pv 4))))),?_⟩
  try dsimp only [kx1,kx2,kx3,Cx.nox,Cx.wish]
  have wt:=wd_of ok.tk
  have wg:=wd_of ok.gv
  have gl : N.gives.length = N.takes.length:=by rw [ok.gl,ok.tl]
  have b6:=ok.b6
  have gln:=gL_len wt wg gl hk
  refine ⟨_,rfl,_,rfl,x,dx,b,d,t,g,f,pd,ts,gs,N,ds,rfl,n,ok,SqL.of hd,by omega,fun q1 H1 nq1 S1 hq1=>?_⟩
  rw [tg_row wt wg gl (by rw [ok.tl]; exact Nat.le_refl _) hk] at hq1
  have ga : ∀ i,i < N.bowls.length→((gL N.bowls.length N.takes N.gives ds).getD i 0).natAbs ≤ 64 * 1000000000:=fun i hi=>Nat.le_trans (gL_abs wt wg gl (fun r hr=>(ok.tk r hr).2) (fun r hr=>(ok.gv r hr).2) hi hk) (Nat.mul_le_mul_right _ dl)
  generalize gL N.bowls.length N.takes N.gives ds = G at hq1 gln ga hQ
  refine ⟨q1,_,rfl,SqL.of hq1,?_⟩
  refine for_enum (K:=K) (a:=q1) (xs:=vints G) (fun i σ H2=>∃ (o5 o6 o7 : Option V) (c : Nat),σ = [some (.ref x),some (.ref pa),some (.ref pd),some (.ref pw),some (.int (c : Int)),o5,o6,o7]∧Same H H2∧H2 q1 = some (.lst (vints G))∧(c : Int) ≤ M∧∀ j,j < i→∀ a,A.getD j none = some a→0 < G.getD j 0→w.getD j 0 ≤ a + (c : Int) * G.getD j 0) ⟨none,none,none,0,rfl,S1,hq1,hM,fun j hj=>absurd hj (Nat.not_lt_zero _)⟩ (fun i σ H2 _ hp4=>by obtain ⟨_,_,_,_,_,_,h,_⟩:=hp4; exact SqL.of h) ?_ ?_
  ·rintro i v q0 σ H2 hv ⟨o5,o6,o7,c,rfl,S,hq,cM,hc⟩ nq0
   obtain ⟨gi,hgi,rfl⟩:=ints_get hv
   have hi : i < N.bowls.length:=by rw [← gln]; exact (List.getElem?_eq_some_iff.mp hgi).1
   have eg : G.getD i 0 = gi:=by rw [List.getD_eq_getElem?_getD,hgi]; rfl
   have U:=(Same.refl H2).upd nq0 (o:=.tup [.int (i : Nat),.int gi])
   refine ⟨q0,[_,_],rfl,SqT.of upd_same,rfl,_,[_],rfl,_,[],rfl,rfl,?_⟩
   try dsimp only [gName,gNil]
   generalize upd H2 q0 (.tup [.int (i : Nat),.int gi]) = H3 at U ⊢
   have S3:=S.trans U
   have ea : atI (vmk A) ((i : Nat) : Int) = some (vm A[i]):=vmk_at (by omega)
   have eA : A.getD i none = A[i]:=mG_at (by omega)
   have keep : (∀ a,A.getD i none = some a→¬ 0 < G.getD i 0)→∀ j,j < i + 1→∀ a,A.getD j none = some a→0 < G.getD j 0→w.getD j 0 ≤ a + (c : Int) * G.getD j 0:=fun h j hj a h1 h2=>by
    by_cases e : j = i
    ·subst e; exact absurd h2 (h a h1)
    ·exact hc j (by omega) a h1 h2
   refine ⟨_,rfl,_,rfl,pa,_,_,_,rfl,rfl,SqL.of (S3 _ _ ha),ea,rfl,_,rfl,?_⟩
   cases qa : A[i] with
   | none =>
    refine iteND (fun z=>absurd rfl z) (fun _=>iteF ?_)
    exact ⟨_,_,_,c,rfl,S3,U _ _ hq,cM,keep fun a h=>by rw [eA,qa] at h; cases h⟩
   | some a =>
    refine iteND (fun _=>?_) (fun z=>nomatch z)
    refine ⟨_,rfl,_,_,rfl,rfl,_,rfl,?_⟩
    refine iteD (fun g0=>?_) (fun g0=>⟨_,_,_,c,rfl,S3,U _ _ hq,cM,keep fun a _ h=>g0 (by rw [eg] at h; exact h)⟩)
    have g0 : 0 < gi:=g0
    rw [qa] at ea
    have ew : atI (vints w) ((i : Nat) : Int) = some (.int (w.getD i 0)):=by have:=at_place wl hi; rwa [Int.zero_add] at this
    refine ⟨_,rfl,_,rfl,pw,_,_,_,rfl,rfl,SqL.of (S3 _ _ hw),ew,_,rfl,_,rfl,pa,_,_,_,rfl,rfl,SqL.of (S3 _ _ ha),ea,_,_,rfl,rfl,?_⟩
    have gb:=ga i hi
    rw [eg] at gb
    have a0 : 0 ≤ a:=nn a (by rw [← qa]; exact List.getElem_mem _)
    refine ⟨_,rfl,_,rfl,_,rfl,_,_,rfl,rfl,_,_,rfl,rfl,_,rfl,_,_,rfl,rfl,⟨g0,Nat.lt_of_le_of_lt gb (by decide +kernel)⟩,_,_,rfl,?_⟩
    obtain ⟨o1,o2⟩:=often_at (L:=w.getD i 0 - a) (M:=M) g0 (by have:=wM i hi; omega) hM rfl
    generalize (w.getD i 0 - a + gi - 1) / gi = qq at o1 o2
    obtain ⟨c',hc'⟩:=Int.eq_ofNat_of_zero_le (show 0 ≤ mx (c : Int) qq from Int.le_trans (Int.natCast_nonneg c) le_mx1)
    have l1 : (c : Int) ≤ mx (c : Int) qq:=le_mx1
    have l2 : qq ≤ mx (c : Int) qq:=le_mx2
    refine ⟨_,_,_,c',by rw [show (if qq > (c : Int) then qq else (c : Int)) = (c' : Int) from hc']; rfl,S3,U _ _ hq,?_,fun j hj a' h1 h2=>?_⟩
    ·rw [← hc']
     unfold mx
     split <;> omega
    ·rw [hc'] at l1 l2
     by_cases e : j = i
     ·subst e
      rw [eA,qa] at h1
      have h1:=Option.some.inj h1
      subst h1
      rw [eg]
      have:=Int.mul_le_mul_of_nonneg_right l2 (Int.le_of_lt g0)
      omega
     ·have h3:=hc j (by omega) a' h1 h2
      have:=Int.mul_le_mul_of_nonneg_right l1 (Int.le_of_lt h2)
      omega
  ·rintro σ H2 ⟨o5,o6,o7,c,rfl,S,hq,cM,hc⟩
   rw [ints_len,gln] at hc
   exact ⟨_,rfl,hQ c cM hc H2 S⟩
theorem sc_higher : FnScope ["ones", "others"] ["ones", "others"] (defScope s_higher) := ⟨rfl, rfl, rfl, by decide +kernel, rfl, by decide +kernel, by decide +kernel⟩
set_option maxHeartbeats 4000000 in
theorem ok_higher (T : Txt K mg AR FR) : FnOk P w K mg base CX0 2 AR.f_higher FR.d_higher ["ones", "others"] (sp_higher K) := by
 have G_refuse_unlike : FnOk P w K mg base CX0 1 AR.f_refuse_unlike FR.d_refuse_unlike _ (sp_refuse_unlike K):=ok_refuse_unlike T
 refine T.F_higher.ok sc_higher (fun vs H Q E h=>?_) (fun cdv A outer s H vs Q E hr h=>?_)
 ·obtain ⟨a,b,xs,ys,rfl,ha,hb,hl,hz,hQ⟩:=h
  rfl
 ·obtain ⟨a,b,xs,ys,rfl,ha,hb,hl,hz,hQ⟩:=h
  refine ⟨_,(pss_cons (ps_expr (pe_call G_refuse_unlike (hr.mono (by decide)) (by rfl) T.m_refuse_unlike T.F_refuse_unlike.kp T.b_refuse_unlike .nil pass0 (pa_cons (pv 0) (pa_cons (pv 1) pa_nil))))
   (pss_one (ps_ret (pe_comp (N' := ["one", "other"]) (nt := 2) (caps := []) _ _ (CompScope.of (by kernel_rfl)) (pi_zip (by rfl) T.z_zip (pa_cons (pv 0) (pa_cons (pv 1) pa_nil))) (fun _ => (pg_tup (by rfl) (pgs_cons (pg_nameC (i := 0) ["one", "other"] (by decide +kernel) (by rfl)) (pgs_cons (pg_nameC (i := 1) ["one", "other"] (by decide +kernel) (by rfl)) pgs_nil)))) (fun _ => pts_nil) (fun _ => (pe_callB (call_max2 rfl) (by rfl) T.z_max bt_max (pa_cons (pv 0) (pa_cons (pv 1) pa_nil)))))))), ?_⟩
  try dsimp only [kx1,kx2,kx3,Cx.nox,Cx.wish]
  refine ⟨_,rfl,_,rfl,a,b,_,_,rfl,ha,hb,by rw [ints_len,ints_len]; exact hl,?_⟩
  refine ⟨_,rfl,_,rfl,a,b,_,_,rfl,ha,hb,?_⟩
  refine comp_zip1 (τ:=[]) (gInt mx) (by rw [ints_len,ints_len]; exact hl) (by rw [ints_len]; exact small70 hz) ha hb ?_ ?_
  ·intro B x w H2 hx hw S Q' hq
   obtain ⟨i,_,rfl⟩:=ints_mem hx
   obtain ⟨j,_,rfl⟩:=ints_mem hw
   exact ⟨_,rfl,_,rfl,_,_,rfl,hq H2 (Same.refl _)⟩
  ·intro H2 S p hp
   rw [zip_ints (f:=mx) fun _ _=>rfl]
   exact hQ p _ (S.free hp) (S.upd hp) upd_same
theorem sc_need_ahead : FnScope ["need", "gained", "goal"] ["need", "gained", "goal"] (defScope s_need_ahead) := ⟨rfl, rfl, rfl, by decide +kernel, rfl, by decide +kernel, by decide +kernel⟩
set_option maxHeartbeats 4000000 in
theorem ok_need_ahead (T : Txt K mg AR FR) : FnOk P w K mg base CX0 3 AR.f_need_ahead FR.d_need_ahead ["need", "gained", "goal"] (sp_need_ahead K) := by
 have G_higher : FnOk P w K mg base CX0 2 AR.f_higher FR.d_higher _ (sp_higher K):=ok_higher T
 have G_less : FnOk P w K mg base CX0 2 AR.f_less FR.d_less _ (sp_less K):=ok_less T
 refine T.F_need_ahead.ok sc_need_ahead (fun vs H Q E h=>?_) (fun cdv A outer s H vs Q E hr h=>?_)
 ·obtain ⟨a,b,c,xs,ys,zs,rfl,ha,hb,hc,h1,h2,h3,hQ⟩:=h
  rfl
 ·obtain ⟨a,b,c,xs,ys,zs,rfl,ha,hb,hc,h1,h2,h3,hQ⟩:=h
  refine ⟨_,(pss_one (ps_ret (pe_call G_higher (hr.mono (by decide)) (by rfl) T.m_higher T.F_higher.kp T.b_higher .nil pass0 (pa_cons (pv 0) (pa_cons (pe_call G_less (hr.mono (by decide)) (by rfl) T.m_less T.F_less.kp T.b_less .nil pass0 (pa_cons (pv 2) (pa_cons (pv 1) pa_nil))) pa_nil))))),?_⟩
  try dsimp only [kx1,kx2,kx3,Cx.nox,Cx.wish]
  refine ⟨_,rfl,_,rfl,_,rfl,c,b,zs,ys,rfl,hc,hb,by omega,by omega,fun q H2 nq S2 hq=>?_⟩
  have e : (L2.sub zs ys).length = xs.length:=sub_len h2.symm h1.symm
  exact ⟨a,q,xs,L2.sub zs ys,rfl,S2.seq ha,SqL.of hq,e.symm,h3,fun p H3 np S3 hp=>hQ p H3 (S2.free np) (S2.trans S3) hp⟩
theorem sc_need_of : FnScope ["net", "doors", "need", "door"] ["net", "doors"] (defScope s_need_of) := ⟨rfl, rfl, rfl, by decide +kernel, rfl, by decide +kernel, by decide +kernel⟩
set_option maxHeartbeats 4000000 in
theorem ok_need_of (T : Txt K mg AR FR) : FnOk P w K mg base CX0 6 AR.f_need_of FR.d_need_of ["net", "doors"] (sp_need_of AR.C_Net K) := by
 have G_Net_init : FnOk P w K mg base CX0 3 AR.f_Net_init FR.d_Net_init _ (sp_Net_init AR.C_Net K):=ok_Net_init T
 have G_need_ahead : FnOk P w K mg base CX0 3 AR.f_need_ahead FR.d_need_ahead _ (sp_need_ahead K):=ok_need_ahead T
 have G_gain : FnOk P w K mg base CX0 5 AR.f_gain FR.d_gain _ (sp_gain AR.C_Net K):=ok_gain T
 refine T.F_need_of.ok sc_need_of (fun vs H Q E h=>?_) (fun cdv A outer s H vs Q E hr h=>?_)
 ·obtain ⟨x,dx,b,d,t,g,f,c,ts,gs,N,ds,rfl,n,ok,hc,hk,hQ⟩:=h
  rfl
 ·obtain ⟨x,dx,b,d,t,g,f,c,ts,gs,N,ds,rfl,n,ok,hc,hk,hQ⟩:=h
  refine ⟨_,(pss_cons (ps_set (i:=2) sc_need_of.nd rfl (Or.inl rfl) (pe_op op_rep (pe_lst (pa_cons pe_int pa_nil)) (pe_callB call_len_seq (by rfl) T.z_len bt_len (pa_cons (pe_fld (pv 0) rfl) pa_nil))))
   (pss_cons (ps_for PassesOwn.never rfl (pi_rev (by rfl) T.z_reversed (pa_cons (pv 1) pa_nil)) (pg_name (i:=3) sc_need_of.nd (by rfl) (Or.inl rfl))
   (pss_one (ps_set (i:=2) sc_need_of.nd rfl (Or.inl rfl) (pe_call G_need_ahead (hr.mono (by decide)) (by rfl) T.m_need_ahead T.F_need_ahead.kp T.b_need_ahead .nil pass0 (pa_cons (pe_ix ix_list (pe_fld (pv 0) rfl) (pv 3) (fun _ _=>rfl)) (pa_cons (pe_call G_gain (hr.mono (by decide)) (by rfl) T.m_gain T.F_gain.kp T.b_gain .nil pass0 (pa_cons (pv 0) (pa_cons (pv 3) pa_nil))) (pa_cons (pv 2) pa_nil)))))))
   (pss_one (ps_ret (pv 2))))),?_⟩
  try dsimp only [kx1,kx2,kx3,Cx.nox,Cx.wish]
  have b6:=ok.b6
  have gl : N.gives.length = N.takes.length:=by rw [ok.gl,ok.tl]
  have vb : (vstrs N.bowls).length = N.bowls.length:=List.length_map ..
  refine ⟨by decide,fun l nl=>?_⟩
  have U1:=(Same.refl H).upd nl (o:=.lst [V.int 0])
  refine ⟨_,rfl,x,_,dx,_,_,rfl,U1 _ _ n.ob,T.cl_Net,T.n_Net_bowls,rfl,b,_,rfl,.inl (SqL.of (U1 _ _ n.hb)),?_⟩
  refine ⟨l,_,_,rfl,rfl,upd_same,by rw [vb]; omega,by rw [vb]; omega,by rw [vb]; show 1 * N.bowls.length ≤ _; exact Nat.le_of_lt (small70 (by omega)),fun p0 np0=>?_⟩
  rw [vb,Int.toNat_natCast,rep_flat]
  have U2:=U1.upd np0 (o:=.lst (vints (List.replicate N.bowls.length 0)))
  have e0:=upd_same (H:=upd H l (.lst [V.int 0])) (a:=p0) (o:=.lst (vints (List.replicate N.bowls.length 0)))
  have f0 : H p0 = none:=U1.free np0
  generalize upd (upd H l (.lst [V.int 0])) p0 (.lst (vints (List.replicate N.bowls.length 0))) = H1 at U2 e0 ⊢
  refine ⟨_,rfl,c,_,rfl,U2.seq hc,for_rev (K:=K) (a:=c) (xs:=vints (zs ds)) (fun i σ H2=>∃ (q : Addr) (o : Option V),σ = [some (.ref x),some (.ref c),some (.ref q),o]∧Same H H2∧H q = none∧H2 q = some (.lst (vints (needL N.bowls.length N.takes N.gives (ds.drop (ds.length - i)))))) ⟨p0,none,rfl,U2,f0,by rw [Nat.sub_zero,List.drop_length]; exact e0⟩ (fun i σ H2 _ hp4=>by obtain ⟨_,_,_,S,_⟩:=hp4; exact S.seq hc) ?_ ?_⟩
  ·rintro i v σ H2 hv ⟨q,o,rfl,S,fq,hq⟩
   have hi : i < ds.length:=by
    have:=(List.getElem?_eq_some_iff.mp hv).1
    rwa [List.length_reverse,ints_len,zs_len] at this
   rw [List.getElem?_reverse (by rw [ints_len,zs_len]; exact hi),ints_len,zs_len] at hv
   obtain ⟨k,hk1,rfl⟩:=zs_get hv
   have kt:=hk k (List.mem_of_getElem? hk1)
   have kg : k < N.gives.length:=by omega
   have n2:=n.same S
   obtain ⟨qt,et,ft⟩:=rows_at n2.tr kt
   have lg:=(ok.gv _ (List.getElem_mem kg)).1
   have lt:=(ok.tk _ (List.getElem_mem kt)).1
   have ln : (needL N.bowls.length N.takes N.gives (ds.drop (ds.length - i))).length = N.bowls.length:=need_len (wd_of ok.tk) (wd_of ok.gv) gl fun d hd=>hk d (List.mem_of_mem_drop hd)
   refine ⟨_,rfl,x,_,dx,_,_,rfl,n2.ob,T.cl_Net,T.n_Net_takes,rfl,_,rfl,t,_,_,_,rfl,rfl,SqL.of n2.ht,et,?_⟩
   refine ⟨_,rfl,_,rfl,x,dx,b,d,t,g,f,ts,gs,N,k,kt,kg,rfl,n2,ok,fun q2 H3 nq2 S3 hq2=>?_⟩
   have e : (L2.sub N.gives[k] N.takes[k]).length = N.bowls.length:=sub_len lg lt
   refine ⟨_,rfl,qt,q2,q,_,L2.sub N.gives[k] N.takes[k],_,rfl,S3.seq (SqL.of ft),SqL.of hq2,S3.seq (SqL.of hq),by omega,by omega,by omega,fun p H4 np S4 hp=>?_⟩
   refine ⟨p,_,rfl,(S.trans S3).trans S4,(S.trans S3).free np,?_⟩
   have ed : ds.drop (ds.length - (i + 1)) = k :: ds.drop (ds.length - i):=by
    have e1 : ds.length - (i + 1) = ds.length - 1 - i:=by omega
    have e2 : ds.length - i = ds.length - 1 - i + 1:=by omega
    rw [e1,e2,List.drop_eq_getElem_cons (by omega)]
    rw [List.getElem?_eq_getElem (by omega)] at hk1
    rw [Option.some.inj hk1]
   rw [ed]
   show _ = some (HO.lst (vints (ahead (N.takes.getD k []) (N.gives.getD k []) _)))
   rw [getDr kt,getDr kg]
   exact hp
  ·rintro σ H2 ⟨q,o,rfl,S,fq,hq⟩
   rw [ints_len,zs_len,Nat.sub_self,List.drop_zero] at hq
   exact ⟨_,rfl,hQ q H2 fq S hq⟩
theorem sc_need_of_one : FnScope ["net", "block", "need", "gained_ahead"] ["net", "block"] (defScope s_need_of_one) := ⟨rfl, rfl, rfl, by decide +kernel, rfl, by decide +kernel, by decide +kernel⟩
set_option maxHeartbeats 4000000 in
theorem ok_need_of_one (T : Txt K mg AR FR) : FnOk P w K mg base CX0 8 AR.f_need_of_one FR.d_need_of_one ["net", "block"] (sp_need_of_one AR.C_Net K) := by
 have G_Net_init : FnOk P w K mg base CX0 3 AR.f_Net_init FR.d_Net_init _ (sp_Net_init AR.C_Net K):=ok_Net_init T
 have G_need_of : FnOk P w K mg base CX0 6 AR.f_need_of FR.d_need_of _ (sp_need_of AR.C_Net K):=ok_need_of T
 have G_times : FnOk P w K mg base CX0 1 AR.f_times FR.d_times _ (sp_times K):=ok_times T
 have G_gain_of : FnOk P w K mg base CX0 7 AR.f_gain_of FR.d_gain_of _ (sp_gain_of AR.C_Net K):=ok_gain_of T
 have G_higher : FnOk P w K mg base CX0 2 AR.f_higher FR.d_higher _ (sp_higher K):=ok_higher T
 have G_less : FnOk P w K mg base CX0 2 AR.f_less FR.d_less _ (sp_less K):=ok_less T
 refine T.F_need_of_one.ok sc_need_of_one (fun vs H Q E h=>?_) (fun cdv A outer s H vs Q E hr h=>?_)
 ·obtain ⟨x,dx,b,d,t,g,f,ts,gs,N,p,bl,rfl,n,ok,hb,m1,d1,hk,hQ⟩:=h
  rfl
 ·obtain ⟨x,dx,b,d,t,g,f,ts,gs,N,p,bl,rfl,n,ok,hb,m1,d1,hk,hQ⟩:=h
  refine ⟨_,(pss_cons (ps_if (pt_cmpR op_eq (pe_ix ix_tup (pv 1) pe_int (fun _ _=>rfl)) pe_int (nomark _)) (pss_one (ps_ret (pe_op op_rep (pe_lst (pa_cons pe_int pa_nil)) (pe_callB call_len_seq (by rfl) T.z_len bt_len (pa_cons (pe_fld (pv 0) rfl) pa_nil))))) pss_nil)
   (pss_cons (ps_set (i:=2) sc_need_of_one.nd rfl (Or.inl rfl) (pe_call G_need_of (hr.mono (by decide)) (by rfl) T.m_need_of T.F_need_of.kp T.b_need_of .nil pass0 (pa_cons (pv 0) (pa_cons (pe_ix ix_tup (pv 1) pe_int (fun _ _=>rfl)) pa_nil))))
   (pss_cons (ps_set (i:=3) sc_need_of_one.nd rfl (Or.inl rfl) (pe_call G_times (hr.mono (by decide)) (by rfl) T.m_times T.F_times.kp T.b_times .nil pass0 (pa_cons (pe_op op_sub (pe_ix ix_tup (pv 1) pe_int (fun _ _=>rfl)) pe_int) (pa_cons (pe_call G_gain_of (hr.mono (by decide)) (by rfl) T.m_gain_of T.F_gain_of.kp T.b_gain_of .nil pass0 (pa_cons (pv 0) (pa_cons (pe_ix ix_tup (pv 1) pe_int (fun _ _=>rfl)) pa_nil))) pa_nil))))
   (pss_one (ps_ret (pe_call G_higher (hr.mono (by decide)) (by rfl) T.m_higher T.F_higher.kp T.b_higher .nil pass0 (pa_cons (pv 2) (pa_cons (pe_call G_less (hr.mono (by decide)) (by rfl) T.m_less T.F_less.kp T.b_less .nil pass0 (pa_cons (pv 2) (pa_cons (pv 3) pa_nil))) pa_nil)))))))),?_⟩
  try dsimp only [kx1,kx2,kx3,Cx.nox,Cx.wish]
  have wt:=wd_of ok.tk
  have wg:=wd_of ok.gv
  have gl : N.gives.length = N.takes.length:=by rw [ok.gl,ok.tl]
  have b6:=ok.b6
  have vb : (vstrs N.bowls).length = N.bowls.length:=List.length_map ..
  have gln:=gL_len wt wg gl hk
  have nln:=need_len wt wg gl hk
  refine ⟨_,rfl,p.1,_,_,_,rfl,rfl,SqT.of hb.1,rfl,rfl,_,rfl,?_⟩
  refine iteD (fun h0=>?_) (fun h0=>?_)
  ·have m0 : bl.1 = 0:=by have:=vint_eq.mp h0; omega
   refine ⟨by decide,fun l nl=>?_⟩
   have U1:=(Same.refl H).upd nl (o:=.lst [V.int 0])
   refine ⟨_,rfl,x,_,dx,_,_,rfl,U1 _ _ n.ob,T.cl_Net,T.n_Net_bowls,rfl,b,_,rfl,.inl (SqL.of (U1 _ _ n.hb)),?_⟩
   refine ⟨l,_,_,rfl,rfl,upd_same,by rw [vb]; omega,by rw [vb]; omega,by rw [vb]; show 1 * N.bowls.length ≤ _; exact Nat.le_of_lt (small70 (by omega)),fun p0 np0=>?_⟩
   rw [vb,Int.toNat_natCast,rep_flat]
   refine hQ p0 _ (U1.free np0) (U1.upd np0) ?_
   rw [upd_same,m0]
   rfl
  ·have m0 : bl.1 ≠ 0:=fun z=>h0 (by rw [z]; rfl)
   obtain ⟨m,hm⟩:=Nat.exists_eq_succ_of_ne_zero m0
   refine ⟨_,rfl,_,rfl,p.1,_,_,_,rfl,rfl,SqT.of hb.1,rfl,?_⟩
   refine ⟨x,dx,b,d,t,g,f,p.2,ts,gs,N,bl.2,rfl,n,ok,SqL.of hb.2,hk,fun q1 H1 nq1 S1 hq1=>?_⟩
   have hb1:=hb.same S1
   refine ⟨_,rfl,p.1,_,_,_,rfl,rfl,SqT.of hb1.1,rfl,_,_,rfl,rfl,_,rfl,_,rfl,p.1,_,_,_,rfl,rfl,SqT.of hb1.1,rfl,?_⟩
   refine ⟨x,dx,b,d,t,g,f,p.2,ts,gs,N,bl.2,rfl,n.same S1,ok,SqL.of hb1.2,by omega,fun q2 H2 nq2 S2 hq2=>?_⟩
   rw [tg_row wt wg gl (by rw [ok.tl]; exact Nat.le_refl _) hk] at hq2
   refine ⟨(bl.1 : Int) - 1,q2,_,rfl,SqL.of hq2,by omega,?_,fun y hy=>?_,fun q3 H3 nq3 S3 hq3=>?_⟩
   ·exact Nat.lt_of_le_of_lt (show ((bl.1 : Int) - 1).natAbs ≤ bl.1 by clear m1; omega) (Nat.lt_trans m1 (by decide +kernel))
   ·obtain ⟨i,hi,rfl⟩:=List.mem_iff_getElem.mp hy
    have h:=gL_abs wt wg gl (fun r hr=>(ok.tk r hr).2) (fun r hr=>(ok.gv r hr).2) (i:=i) (by omega) hk
    rw [L2.getD_at hi] at h
    exact Nat.lt_of_le_of_lt (Nat.le_trans h (Nat.mul_le_mul_right _ d1)) (by decide +kernel)
   have hq1':=(S2.trans S3) _ _ hq1
   have ml : ((gL N.bowls.length N.takes N.gives bl.2).map fun y=>((bl.1 : Int) - 1) * y).length = N.bowls.length:=by rw [List.length_map]; exact gln
   refine ⟨_,rfl,_,rfl,_,rfl,q1,q3,_,_,rfl,SqL.of hq1',SqL.of hq3,by omega,by omega,fun q4 H4 nq4 S4 hq4=>?_⟩
   change H4 q4 = some (.lst (vints (L2.sub (needL N.bowls.length N.takes N.gives bl.2) ((gL N.bowls.length N.takes N.gives bl.2).map fun y=>((bl.1 : Int) - 1) * y)))) at hq4
   have sl:=sub_len nln ml
   refine ⟨q1,q4,_,_,rfl,SqL.of (S4 _ _ hq1'),SqL.of hq4,by omega,by omega,fun q H5 nq S5 hq=>?_⟩
   have SS:=((S1.trans S2).trans S3).trans S4
   refine hQ q H5 (SS.free nq) (SS.trans S5) ?_
   rw [hq]
   congr 3
   show hi2 (needL N.bowls.length N.takes N.gives bl.2) (L2.sub (needL N.bowls.length N.takes N.gives bl.2) ((gL N.bowls.length N.takes N.gives bl.2).map fun y=>((bl.1 : Int) - 1) * y)) = _
   refine ext_at (z:=N.bowls.length) (hi2_len nln sl) (need_len wt wg gl fun d hd=>hk d (rep_mem hd)) fun i hi=>?_
   rw [hi2_at nln sl hi,sub_at nln ml hi,map_at (by omega),hm,need_rep wt wg gl (fun r hr=>(ok.tk r hr).nn) hi hk]
   congr 2
   congr 1
   omega
theorem sc_gain_of_one : FnScope ["net", "block"] ["net", "block"] (defScope s_gain_of_one) := ⟨rfl, rfl, rfl, by decide +kernel, rfl, by decide +kernel, by decide +kernel⟩
set_option maxHeartbeats 4000000 in
theorem ok_gain_of_one (T : Txt K mg AR FR) : FnOk P w K mg base CX0 8 AR.f_gain_of_one FR.d_gain_of_one ["net", "block"] (sp_gain_of_one AR.C_Net K) := by
 have G_Net_init : FnOk P w K mg base CX0 3 AR.f_Net_init FR.d_Net_init _ (sp_Net_init AR.C_Net K):=ok_Net_init T
 have G_times : FnOk P w K mg base CX0 1 AR.f_times FR.d_times _ (sp_times K):=ok_times T
 have G_gain_of : FnOk P w K mg base CX0 7 AR.f_gain_of FR.d_gain_of _ (sp_gain_of AR.C_Net K):=ok_gain_of T
 refine T.F_gain_of_one.ok sc_gain_of_one (fun vs H Q E h=>?_) (fun cdv A outer s H vs Q E hr h=>?_)
 ·obtain ⟨x,dx,b,d,t,g,f,ts,gs,N,p,bl,rfl,n,ok,hb,m1,d1,hk,hQ⟩:=h
  rfl
 ·obtain ⟨x,dx,b,d,t,g,f,ts,gs,N,p,bl,rfl,n,ok,hb,m1,d1,hk,hQ⟩:=h
  refine ⟨_,(pss_one (ps_ret (pe_call G_times (hr.mono (by decide)) (by rfl) T.m_times T.F_times.kp T.b_times .nil pass0 (pa_cons (pe_ix ix_tup (pv 1) pe_int (fun _ _=>rfl)) (pa_cons (pe_call G_gain_of (hr.mono (by decide)) (by rfl) T.m_gain_of T.F_gain_of.kp T.b_gain_of .nil pass0 (pa_cons (pv 0) (pa_cons (pe_ix ix_tup (pv 1) pe_int (fun _ _=>rfl)) pa_nil))) pa_nil))))),?_⟩
  try dsimp only [kx1,kx2,kx3,Cx.nox,Cx.wish]
  have wt:=wd_of ok.tk
  have wg:=wd_of ok.gv
  have gl : N.gives.length = N.takes.length:=by rw [ok.gl,ok.tl]
  have b6:=ok.b6
  have gln:=gL_len wt wg gl hk
  refine ⟨_,rfl,p.1,_,_,_,rfl,rfl,SqT.of hb.1,rfl,_,rfl,_,rfl,p.1,_,_,_,rfl,rfl,SqT.of hb.1,rfl,?_⟩
  refine ⟨x,dx,b,d,t,g,f,p.2,ts,gs,N,bl.2,rfl,n,ok,SqL.of hb.2,by omega,fun q1 H1 nq1 S1 hq1=>?_⟩
  rw [tg_row wt wg gl (by rw [ok.tl]; exact Nat.le_refl _) hk] at hq1
  refine ⟨(bl.1 : Int),q1,_,rfl,SqL.of hq1,by omega,?_,fun y hy=>?_,fun q H2 nq S2 hq=>?_⟩
  ·have : ((bl.1 : Nat) : Int).natAbs = bl.1:=Int.natAbs_natCast _
   rw [this]
   exact Nat.lt_trans m1 (by decide +kernel)
  ·obtain ⟨i,hi,rfl⟩:=List.mem_iff_getElem.mp hy
   have h:=gL_abs wt wg gl (fun r hr=>(ok.tk r hr).2) (fun r hr=>(ok.gv r hr).2) (i:=i) (by omega) hk
   rw [L2.getD_at hi] at h
   exact Nat.lt_of_le_of_lt (Nat.le_trans h (Nat.mul_le_mul_right _ d1)) (by decide +kernel)
  ·refine hQ q H2 (S1.free nq) (S1.trans S2) ?_
   rw [hq]
   congr 3
   refine ext_at (z:=N.bowls.length) (by rw [List.length_map]; exact gln) (gL_len wt wg gl fun d hd=>hk d (rep_mem hd)) fun i hi=>?_
   rw [map_at (by omega),gL_rep wt wg gl hi hk]
theorem sc_block_need : FnScope ["net", "blocks", "need", "block"] ["net", "blocks"] (defScope s_block_need) := ⟨rfl, rfl, rfl, by decide +kernel, rfl, by decide +kernel, by decide +kernel⟩
set_option maxHeartbeats 4000000 in
theorem ok_block_need (T : Txt K mg AR FR) : FnOk P w K mg base CX0 9 AR.f_block_need FR.d_block_need ["net", "blocks"] (sp_block_need AR.C_Net K) := by
 have G_Net_init : FnOk P w K mg base CX0 3 AR.f_Net_init FR.d_Net_init _ (sp_Net_init AR.C_Net K):=ok_Net_init T
 have G_need_ahead : FnOk P w K mg base CX0 3 AR.f_need_ahead FR.d_need_ahead _ (sp_need_ahead K):=ok_need_ahead T
 have G_need_of_one : FnOk P w K mg base CX0 8 AR.f_need_of_one FR.d_need_of_one _ (sp_need_of_one AR.C_Net K):=ok_need_of_one T
 have G_gain_of_one : FnOk P w K mg base CX0 8 AR.f_gain_of_one FR.d_gain_of_one _ (sp_gain_of_one AR.C_Net K):=ok_gain_of_one T
 refine T.F_block_need.ok sc_block_need (fun vs H Q E h=>?_) (fun cdv A outer s H vs Q E hr h=>?_)
 ·obtain ⟨x,dx,b,d,t,g,f,pb,ts,gs,N,ps,bls,rfl,n,ok,hp,B,hk,hQ⟩:=h
  rfl
 ·obtain ⟨x,dx,b,d,t,g,f,pb,ts,gs,N,ps,bls,rfl,n,ok,hp,B,hk,hQ⟩:=h
  refine ⟨_,(pss_cons (ps_set (i:=2) sc_block_need.nd rfl (Or.inl rfl) (pe_op op_rep (pe_lst (pa_cons pe_int pa_nil)) (pe_callB call_len_seq (by rfl) T.z_len bt_len (pa_cons (pe_fld (pv 0) rfl) pa_nil))))
   (pss_cons (ps_for PassesOwn.never rfl (pi_rev (by rfl) T.z_reversed (pa_cons (pv 1) pa_nil)) (pg_name (i:=3) sc_block_need.nd (by rfl) (Or.inl rfl))
   (pss_one (ps_set (i:=2) sc_block_need.nd rfl (Or.inl rfl) (pe_call G_need_ahead (hr.mono (by decide)) (by rfl) T.m_need_ahead T.F_need_ahead.kp T.b_need_ahead .nil pass0 (pa_cons (pe_call G_need_of_one (hr.mono (by decide)) (by rfl) T.m_need_of_one T.F_need_of_one.kp T.b_need_of_one .nil pass0 (pa_cons (pv 0) (pa_cons (pv 3) pa_nil))) (pa_cons (pe_call G_gain_of_one (hr.mono (by decide)) (by rfl) T.m_gain_of_one T.F_gain_of_one.kp T.b_gain_of_one .nil pass0 (pa_cons (pv 0) (pa_cons (pv 3) pa_nil))) (pa_cons (pv 2) pa_nil)))))))
   (pss_one (ps_ret (pv 2))))),?_⟩
  try dsimp only [kx1,kx2,kx3,Cx.nox,Cx.wish]
  have wt:=wd_of ok.tk
  have wg:=wd_of ok.gv
  have gl : N.gives.length = N.takes.length:=by rw [ok.gl,ok.tl]
  have b6:=ok.b6
  have vb : (vstrs N.bowls).length = N.bowls.length:=List.length_map ..
  have bl:=B.length
  have inb : ∀ i,∀ d ∈ laid (bls.drop i),d < N.takes.length:=fun i d hd=>by
   obtain ⟨c,hc,hd'⟩:=laid_mem hd
   exact (hk c (List.mem_of_mem_drop hc)).2.2 d hd'
  refine ⟨by decide,fun l nl=>?_⟩
  have U1:=(Same.refl H).upd nl (o:=.lst [V.int 0])
  refine ⟨_,rfl,x,_,dx,_,_,rfl,U1 _ _ n.ob,T.cl_Net,T.n_Net_bowls,rfl,b,_,rfl,.inl (SqL.of (U1 _ _ n.hb)),?_⟩
  refine ⟨l,_,_,rfl,rfl,upd_same,by rw [vb]; omega,by rw [vb]; omega,by rw [vb]; show 1 * N.bowls.length ≤ _; exact Nat.le_of_lt (small70 (by omega)),fun p0 np0=>?_⟩
  rw [vb,Int.toNat_natCast,rep_flat]
  have U2:=U1.upd np0 (o:=.lst (vints (List.replicate N.bowls.length 0)))
  have e0:=upd_same (H:=upd H l (.lst [V.int 0])) (a:=p0) (o:=.lst (vints (List.replicate N.bowls.length 0)))
  have f0 : H p0 = none:=U1.free np0
  generalize upd (upd H l (.lst [V.int 0])) p0 (.lst (vints (List.replicate N.bowls.length 0))) = H1 at U2 e0 ⊢
  refine ⟨_,rfl,pb,_,rfl,U2.seq hp,for_rev (K:=K) (a:=pb) (xs:=fsts ps) (fun i σ H2=>∃ (q : Addr) (o : Option V),σ = [some (.ref x),some (.ref pb),some (.ref q),o]∧Same H H2∧H q = none∧H2 q = some (.lst (vints (needL N.bowls.length N.takes N.gives (laid (bls.drop (bls.length - i))))))) ⟨p0,none,rfl,U2,f0,by rw [Nat.sub_zero,List.drop_length]; exact e0⟩ (fun i σ H2 _ hp4=>by obtain ⟨_,_,_,S,_⟩:=hp4; exact S.seq hp) ?_ ?_⟩
  ·rintro i v σ H2 hv ⟨q,o,rfl,S,fq,hq⟩
   have hi : i < bls.length:=by
    have:=(List.getElem?_eq_some_iff.mp hv).1
    rwa [List.length_reverse,List.length_map,bl] at this
   rw [List.getElem?_reverse (by rw [List.length_map,bl]; exact hi),List.length_map,bl] at hv
   obtain ⟨p,hp1,rfl⟩:=fst_get hv
   obtain ⟨c,hc,hB⟩:=Paired.getL B hp1
   obtain ⟨k1,k2,k3⟩:=hk c (List.mem_of_getElem? hc)
   refine ⟨_,rfl,_,rfl,x,dx,b,d,t,g,f,ts,gs,N,p,c,rfl,n.same S,ok,hB.same S,k1,k2,k3,fun q1 H3 nq1 S3 hq1=>?_⟩
   have S':=S.trans S3
   refine ⟨_,rfl,_,rfl,x,dx,b,d,t,g,f,ts,gs,N,p,c,rfl,n.same S',ok,hB.same S',k1,k2,k3,fun q2 H4 nq2 S4 hq2=>?_⟩
   have kr : ∀ d ∈ rep c.1 c.2,d < N.takes.length:=fun d hd=>k3 d (rep_mem hd)
   have l1:=need_len wt wg gl kr
   have l2:=gL_len wt wg gl kr
   have l3:=need_len wt wg gl (inb (bls.length - i))
   refine ⟨_,rfl,q1,q2,q,_,_,_,rfl,SqL.of (S4 _ _ hq1),SqL.of hq2,SqL.of ((S3.trans S4) _ _ hq),by omega,by omega,by omega,fun q3 H5 nq3 S5 hq3=>?_⟩
   refine ⟨q3,_,rfl,(S'.trans S4).trans S5,(S'.trans S4).free nq3,?_⟩
   have ed : bls.drop (bls.length - (i + 1)) = c :: bls.drop (bls.length - i):=by
    have e1 : bls.length - (i + 1) = bls.length - 1 - i:=by omega
    have e2 : bls.length - i = bls.length - 1 - i + 1:=by omega
    rw [e1,e2,List.drop_eq_getElem_cons (by omega)]
    rw [List.getElem?_eq_getElem (by omega)] at hc
    rw [Option.some.inj hc]
   rw [hq3,ed,laid_cons]
   congr 3
   have sl:=sub_len l3 l2
   refine ext_at (z:=N.bowls.length) (hi2_len l1 sl) (need_len wt wg gl fun d hd=>by rcases List.mem_append.mp hd with w | w; exact kr d w; exact inb _ d w) fun j hj=>?_
   rw [hi2_at l1 sl hj,sub_at l3 l2 hj,need_app wt wg gl (fun r hr=>(ok.tk r hr).nn) hj kr (inb _)]
  ·rintro σ H2 ⟨q,o,rfl,S,fq,hq⟩
   rw [List.length_map,bl,Nat.sub_self,List.drop_zero] at hq
   exact ⟨_,rfl,hQ q H2 fq S hq⟩
theorem sc_block_gain : FnScope ["net", "blocks", "gained", "block"] ["net", "blocks"] (defScope s_block_gain) := ⟨rfl, rfl, rfl, by decide +kernel, rfl, by decide +kernel, by decide +kernel⟩
set_option maxHeartbeats 4000000 in
theorem ok_block_gain (T : Txt K mg AR FR) : FnOk P w K mg base CX0 9 AR.f_block_gain FR.d_block_gain ["net", "blocks"] (sp_block_gain AR.C_Net K) := by
 have G_Net_init : FnOk P w K mg base CX0 3 AR.f_Net_init FR.d_Net_init _ (sp_Net_init AR.C_Net K):=ok_Net_init T
 have G_plus : FnOk P w K mg base CX0 2 AR.f_plus FR.d_plus _ (sp_plus K):=ok_plus T
 have G_gain_of_one : FnOk P w K mg base CX0 8 AR.f_gain_of_one FR.d_gain_of_one _ (sp_gain_of_one AR.C_Net K):=ok_gain_of_one T
 refine T.F_block_gain.ok sc_block_gain (fun vs H Q E h=>?_) (fun cdv A outer s H vs Q E hr h=>?_)
 ·obtain ⟨x,dx,b,d,t,g,f,pb,ts,gs,N,ps,bls,rfl,n,ok,hp,B,hk,hQ⟩:=h
  rfl
 ·obtain ⟨x,dx,b,d,t,g,f,pb,ts,gs,N,ps,bls,rfl,n,ok,hp,B,hk,hQ⟩:=h
  refine ⟨_,(pss_cons (ps_set (i:=2) sc_block_gain.nd rfl (Or.inl rfl) (pe_op op_rep (pe_lst (pa_cons pe_int pa_nil)) (pe_callB call_len_seq (by rfl) T.z_len bt_len (pa_cons (pe_fld (pv 0) rfl) pa_nil))))
   (pss_cons (ps_for PassesOwn.never rfl (pi_list (pv 1)) (pg_name (i:=3) sc_block_gain.nd (by rfl) (Or.inl rfl))
   (pss_one (ps_set (i:=2) sc_block_gain.nd rfl (Or.inl rfl) (pe_call G_plus (hr.mono (by decide)) (by rfl) T.m_plus T.F_plus.kp T.b_plus .nil pass0 (pa_cons (pv 2) (pa_cons (pe_call G_gain_of_one (hr.mono (by decide)) (by rfl) T.m_gain_of_one T.F_gain_of_one.kp T.b_gain_of_one .nil pass0 (pa_cons (pv 0) (pa_cons (pv 3) pa_nil))) pa_nil))))))
   (pss_one (ps_ret (pv 2))))),?_⟩
  try dsimp only [kx1,kx2,kx3,Cx.nox,Cx.wish]
  have wt:=wd_of ok.tk
  have wg:=wd_of ok.gv
  have gl : N.gives.length = N.takes.length:=by rw [ok.gl,ok.tl]
  have b6:=ok.b6
  have vb : (vstrs N.bowls).length = N.bowls.length:=List.length_map ..
  have inb : ∀ i,∀ d ∈ laid (bls.take i),d < N.takes.length:=fun i d hd=>by
   obtain ⟨c,hc,hd'⟩:=laid_mem hd
   exact (hk c (List.mem_of_mem_take hc)).2.2 d hd'
  refine ⟨by decide,fun l nl=>?_⟩
  have U1:=(Same.refl H).upd nl (o:=.lst [V.int 0])
  refine ⟨_,rfl,x,_,dx,_,_,rfl,U1 _ _ n.ob,T.cl_Net,T.n_Net_bowls,rfl,b,_,rfl,.inl (SqL.of (U1 _ _ n.hb)),?_⟩
  refine ⟨l,_,_,rfl,rfl,upd_same,by rw [vb]; omega,by rw [vb]; omega,by rw [vb]; show 1 * N.bowls.length ≤ _; exact Nat.le_of_lt (small70 (by omega)),fun p0 np0=>?_⟩
  rw [vb,Int.toNat_natCast,rep_flat]
  have U2:=U1.upd np0 (o:=.lst (vints (List.replicate N.bowls.length 0)))
  have e0:=upd_same (H:=upd H l (.lst [V.int 0])) (a:=p0) (o:=.lst (vints (List.replicate N.bowls.length 0)))
  have f0 : H p0 = none:=U1.free np0
  generalize upd (upd H l (.lst [V.int 0])) p0 (.lst (vints (List.replicate N.bowls.length 0))) = H1 at U2 e0 ⊢
  refine ⟨_,rfl,pb,rfl,⟨_,U2.seq hp⟩,for_list (K:=K) (a:=pb) (xs:=fsts ps) (fun i σ H2=>∃ (q : Addr) (o : Option V),σ = [some (.ref x),some (.ref pb),some (.ref q),o]∧Same H H2∧H q = none∧H2 q = some (.lst (vints (gL N.bowls.length N.takes N.gives (laid (bls.take i)))))) ⟨p0,none,rfl,U2,f0,e0⟩ (fun i σ H2 _ hp4=>by obtain ⟨_,_,_,S,_⟩:=hp4; exact S.seq hp) ?_ ?_⟩
  ·rintro i v σ H2 hv ⟨q,o,rfl,S,fq,hq⟩
   obtain ⟨p,hp1,rfl⟩:=fst_get hv
   obtain ⟨c,hc,hB⟩:=Paired.getL B hp1
   obtain ⟨k1,k2,k3⟩:=hk c (List.mem_of_getElem? hc)
   refine ⟨_,rfl,_,rfl,_,rfl,x,dx,b,d,t,g,f,ts,gs,N,p,c,rfl,n.same S,ok,hB.same S,k1,k2,k3,fun q2 H3 nq2 S3 hq2=>?_⟩
   have l1:=gL_len wt wg gl (inb i)
   have kr : ∀ d ∈ rep c.1 c.2,d < N.takes.length:=fun d hd=>k3 d (rep_mem hd)
   have l2:=gL_len wt wg gl kr
   refine ⟨q,q2,_,_,rfl,SqL.of (S3 _ _ hq),SqL.of hq2,by omega,by omega,fun q3 H4 nq3 S4 hq3=>?_⟩
   refine ⟨q3,_,rfl,(S.trans S3).trans S4,(S.trans S3).free nq3,?_⟩
   have et : bls.take (i + 1) = bls.take i ++ [c]:=by rw [List.take_add_one,hc]; rfl
   rw [hq3,et,laid_app,laid_one]
   congr 3
   refine ext_at (z:=N.bowls.length) (add_len l1 l2) (gL_len wt wg gl fun d hd=>by rcases List.mem_append.mp hd with w | w; exact inb i d w; exact kr d w) fun j hj=>?_
   rw [gL_app wt wg gl hj (inb i) kr]
   exact add_at l1 l2 hj
  ·rintro σ H2 ⟨q,o,rfl,S,fq,hq⟩
   rw [List.length_map,B.length,List.take_length] at hq
   exact ⟨_,rfl,hQ q H2 fq S hq⟩
theorem sc_pump : FnScope ["net", "branch", "many", "wanted", "blocks", "ahead", "doors", "is_loop", "block"] ["net", "branch", "many"] (defScope s_pump) := ⟨rfl, rfl, rfl, by decide +kernel, rfl, by decide +kernel, by decide +kernel⟩
set_option maxHeartbeats 4000000 in
theorem ok_pump (T : Txt K mg AR FR) : FnOk P w K mg base CX0 10 AR.f_pump FR.d_pump ["net", "branch", "many"] (sp_pump AR.C_Net K) := by
 have G_Net_init : FnOk P w K mg base CX0 3 AR.f_Net_init FR.d_Net_init _ (sp_Net_init AR.C_Net K):=ok_Net_init T
 have G_legs_of : FnOk P w K mg base CX0 9 AR.f_legs_of FR.d_legs_of _ (sp_legs_of AR.C_Net K):=ok_legs_of T
 have G_often_enough : FnOk P w K mg base CX0 8 AR.f_often_enough FR.d_often_enough _ (sp_often_enough AR.C_Net K):=ok_often_enough T
 have G_need_ahead : FnOk P w K mg base CX0 3 AR.f_need_ahead FR.d_need_ahead _ (sp_need_ahead K):=ok_need_ahead T
 have G_block_need : FnOk P w K mg base CX0 9 AR.f_block_need FR.d_block_need _ (sp_block_need AR.C_Net K):=ok_block_need T
 have G_block_gain : FnOk P w K mg base CX0 9 AR.f_block_gain FR.d_block_gain _ (sp_block_gain AR.C_Net K):=ok_block_gain T
 refine T.F_pump.ok sc_pump (fun vs H Q E h=>?_) (fun cdv A outer s H vs Q E hr h=>?_)
 ·obtain ⟨x,dx,b,d,t,g,f,pw,ts,gs,as,N,br,MS,y,rfl,n,ok,hw,R,bo,eb,y0,y1,hQ⟩:=h
  rfl
 ·obtain ⟨x,dx,b,d,t,g,f,pw,ts,gs,as,N,br,MS,y,rfl,n,ok,hw,R,bo,eb,y0,y1,hQ⟩:=h
  refine ⟨_,(pss_cons (ps_set (i:=3) sc_pump.nd rfl (Or.inl rfl) (pe_op op_rep (pe_lst (pa_cons (pv 2) pa_nil)) (pe_callB call_len_seq (by rfl) T.z_len bt_len (pa_cons (pe_fld (pv 0) rfl) pa_nil))))
   (pss_cons (ps_set (i:=4) sc_pump.nd rfl (Or.inl rfl) (pe_lst pa_nil))
   (pss_cons (ps_for PassesOwn.never rfl (pi_rev (by rfl) T.z_reversed (pa_cons (pe_call G_legs_of (hr.mono (by decide)) (by rfl) T.m_legs_of T.F_legs_of.kp T.b_legs_of .nil pass0 (pa_cons (pv 0) (pa_cons (pv 1) pa_nil))) pa_nil)) (pg_tup (by rfl) (pgs_cons (pg_name (i:=5) sc_pump.nd (by rfl) (Or.inl rfl)) (pgs_cons (pg_name (i:=6) sc_pump.nd (by rfl) (Or.inl rfl)) (pgs_cons (pg_name (i:=7) sc_pump.nd (by rfl) (Or.inl rfl)) pgs_nil))))
   (pss_cons (ps_set (i:=8) sc_pump.nd rfl (Or.inl rfl) (pe_tup (pa_cons (pe_ifExp (pt_val (pv 7)) (pe_call G_often_enough (hr.mono (by decide)) (by rfl) T.m_often_enough T.F_often_enough.kp T.b_often_enough .nil pass0 (pa_cons (pv 0) (pa_cons (pv 5) (pa_cons (pv 6) (pa_cons (pv 3) pa_nil))))) pe_int) (pa_cons (pv 6) pa_nil))))
   (pss_cons (ps_set (i:=3) sc_pump.nd rfl (Or.inl rfl) (pe_call G_need_ahead (hr.mono (by decide)) (by rfl) T.m_need_ahead T.F_need_ahead.kp T.b_need_ahead .nil pass0 (pa_cons (pe_call G_block_need (hr.mono (by decide)) (by rfl) T.m_block_need T.F_block_need.kp T.b_block_need .nil pass0 (pa_cons (pv 0) (pa_cons (pe_lst (pa_cons (pv 8) pa_nil)) pa_nil))) (pa_cons (pe_call G_block_gain (hr.mono (by decide)) (by rfl) T.m_block_gain T.F_block_gain.kp T.b_block_gain .nil pass0 (pa_cons (pv 0) (pa_cons (pe_lst (pa_cons (pv 8) pa_nil)) pa_nil))) (pa_cons (pv 3) pa_nil)))))
   (pss_one (ps_expr (pe_bm PySem.F.plainAttrs_list PySem.F.slot_list_append PySem.F.type_list_append mt_append (pv 4) (pa_cons (pv 8) pa_nil)))))))
   (pss_one (ps_ret (pe_comp (N' := ["block"]) (nt := 1) (caps := []) _ _ (CompScope.of (by kernel_rfl)) (pi_rev (by rfl) T.z_reversed (pa_cons (pv 4) pa_nil)) (fun _ => (pg_nameC (i := 0) ["block"] (by decide +kernel) (by rfl))) (fun _ => (pts_one (pt_cmpR op_gt (pe_ix ix_tup (pv 0) pe_int (fun _ _ => rfl)) pe_int (nomark _)))) (fun _ => (pv 0)))))))), ?_⟩
  try dsimp only [kx1,kx2,kx3,Cx.nox,Cx.wish]
  have b6:=ok.b6
  have fl:=ok.fs.1
  have wt:=wd_of ok.tk
  have wg:=wd_of ok.gv
  have gl : N.gives.length = N.takes.length:=by rw [ok.gl,ok.tl]
  have nt : ∀ r ∈ N.takes,nonneg r:=fun r hr=>(ok.tk r hr).nn
  have vb : (vstrs N.bowls).length = N.bowls.length:=List.length_map ..
  have f1:=fin_le (N.first.map some)
  rw [List.length_map,fl] at f1
  refine ⟨_,rfl,by show 1 ≤ sizeLine; decide,fun l nl=>?_⟩
  have U1:=(Same.refl H).upd nl (o:=.lst [V.int y])
  refine ⟨_,rfl,x,_,dx,_,_,rfl,U1 _ _ n.ob,T.cl_Net,T.n_Net_bowls,rfl,b,_,rfl,.inl (SqL.of (U1 _ _ n.hb)),?_⟩
  refine ⟨l,_,_,rfl,rfl,upd_same,by rw [vb]; omega,by rw [vb]; omega,by rw [vb]; show 1 * N.bowls.length ≤ _; exact Nat.le_of_lt (small70 (by omega)),fun p0 np0=>?_⟩
  rw [vb,Int.toNat_natCast]
  have ery : (List.replicate N.bowls.length [V.int y]).flatten = vints (List.replicate N.bowls.length y):=rep_flatY _ _
  rw [ery]
  have U2:=U1.upd np0 (o:=.lst (vints (List.replicate N.bowls.length y)))
  have e2:=upd_same (H:=upd H l (.lst [V.int y])) (a:=p0) (o:=.lst (vints (List.replicate N.bowls.length y)))
  generalize upd (upd H l (.lst [V.int y])) p0 _ = H1 at U2 e2 ⊢
  refine ⟨by decide,fun pk nk=>?_⟩
  have nk0:=U2.free nk
  have U3:=U2.upd nk (o:=.lst [])
  have e3 : upd H1 pk (.lst []) p0 = some (.lst (vints (List.replicate N.bowls.length y))):=by rw [upd_ne (ne_of_none e2 nk)]; exact e2
  have hk3:=upd_same (H:=H1) (a:=pk) (o:=.lst [])
  have p0k : p0 ≠ pk:=ne_of_none e2 nk
  generalize upd H1 pk (.lst []) = H2 at U3 e3 hk3 ⊢
  refine ⟨_,rfl,_,rfl,x,dx,b,d,t,g,f,pw,ts,gs,as,N,br,MS,rfl,n.same U3,ok,U3 _ _ hw,R.same U3,bo,eb,fun pL al ls H4 nL S4 hL4 RL ln LC=>?_⟩
  have pLk : pL ≠ pk:=Ne.symm (ne_of_none hk3 nL)
  have U4:=U3.trans S4
  have alen : al.length = ls.length:=Paired.length RL
  generalize hC : MS.getD br.length [] = MF at LC hQ
  refine ⟨pL,_,rfl,SqL.of hL4,for_rev (K:=K) (a:=pL) (xs:=al.map V.ref) (fun i σ H5=>∃ (o5 o6 o7 o8 : Option V) (pv : Addr) (ps : List (Addr × Addr)) (bls : List Blk2) (w : List Int) (B : Mark) (m : Nat),σ = [some (.ref x),some (.ref pw),some (.int y),some (.ref pv),some (.ref pk),o5,o6,o7,o8]∧Same H H5∧H5 pL = some (.lst (al.map V.ref))∧LegRows H2 H5 pL al ls∧H5 pk = some (.lst (fsts ps))∧Blks H5 ps bls∧(∀ p ∈ ps,p.2 ≠ pk)∧bls.length = i∧pv ≠ pk∧H5 pv = some (.lst (vints w))∧w.length = N.bowls.length∧WB N.bowls.length i (fin B) w∧LegsC N.bowls.length N.takes N.gives m (N.first.map some) (ls.take (ls.length - i)) B∧B.length = N.bowls.length∧Pumps N.bowls.length N.takes N.gives B w bls.reverse MF (List.replicate N.bowls.length y)∧(∀ c ∈ bls,c.1 < 2 ^ 600∧c.2.length ≤ 64∧∀ k ∈ c.2,k < N.takes.length))
   ⟨none,none,none,none,p0,[],[],_,MF,_,rfl,U4,hL4,RL,S4 _ _ hk3,.nil,fun p hp=>(nomatch hp),rfl,p0k,S4 _ _ e3,List.length_replicate,wb_const y0 y1,by rw [Nat.sub_zero,List.take_length]; exact LC,?_,Pumps.nil _ _ _ _ _,fun c hc=>(nomatch hc)⟩ (fun i σ H5 _ hp4=>by obtain ⟨_,_,_,_,_,_,_,_,_,_,_,_,h,_⟩:=hp4; exact SqL.of h) ?_ ?_⟩
  ·exact LC.len (by rw [List.length_map]; exact fl)
  ·rintro i v σ H5 hv ⟨o5,o6,o7,o8,pv,ps,bls,w,B,m,rfl,S5,hL5,R5,hk5,B5,pn,bl,vk,hv5,wl,WBi,LCi,Bl,PP,hcs⟩
   have hi : i < ls.length:=by
    have:=(List.getElem?_eq_some_iff.mp hv).1
    rwa [List.length_reverse,List.length_map,alen] at this
   rw [List.getElem?_reverse (by rw [List.length_map,alen]; exact hi),List.length_map,alen] at hv
   obtain ⟨a0,ha0,rfl⟩:=refs_get hv
   obtain ⟨lg,hlg,⟨t1,f0,pa,pq,t2,t3,f2,f3,e1,e2',e3'⟩⟩:=Paired.getL R5 ha0
   have etk : ls.take (ls.length - i) = ls.take (ls.length - (i + 1)) ++ [lg]:=by
    rw [show ls.length - i = ls.length - 1 - i + 1 by omega,show ls.length - (i + 1) = ls.length - 1 - i by omega,List.take_add_one,hlg]
    rfl
   rw [etk] at LCi
   obtain ⟨m',LC',LG⟩:=LCi.last
   obtain ⟨A,ds,lp⟩:=lg
   have LG : LegOk N.bowls.length N.takes N.gives A ds lp B:=LG
   have LC' : LegsC N.bowls.length N.takes N.gives m' (N.first.map some) (ls.take (ls.length - (i + 1))) A:=LC'
   have Al : A.length = N.bowls.length:=LG.al
   have fB:=fin_le B
   have fA:=fin_le A
   rw [Bl] at fB
   rw [Al] at fA
   have top:=Bn_top (j:=i) (f:=fin B) (by omega) (by omega)
   have low:=Bn_low i (fin B)
   have pqk : pq ≠ pk:=fun z=>by rw [z,hk3] at f3; cases f3
   refine ⟨a0,_,rfl,SqT.of e1,rfl,_,_,rfl,_,_,rfl,_,_,rfl,rfl,?_⟩
   try dsimp only [gName,gNil]
   try dsimp only [tNext]
   refine seq_join (fun σ' H'=>∃ (c : Nat) (tq : Addr),σ' = [some (.ref x),some (.ref pw),some (.int y),some (.ref pv),some (.ref pk),some (.ref pa),some (.ref pq),some (.bl lp),some (.ref tq)]∧Same H5 H'∧H5 tq = none∧H' tq = some (.tup [.int (c : Int),.ref pq])∧(lp = false→c = 1)∧(lp = true→(c : Int) + 100000000000 ≤ (Bn i (fin B) : Int))∧(lp = true→∀ j,j < N.bowls.length→∀ a,A.getD j none = some a→0 < (gL N.bowls.length N.takes N.gives ds).getD j 0→w.getD j 0 ≤ a + (c : Int) * (gL N.bowls.length N.takes N.gives ds).getD j 0)) ?_ (fun Nn hN=>?_)
   rotate_left
   ·refine ⟨_,rfl,_,rfl,?_⟩
    cases lp with
    | true =>
     refine iteT ?_
     refine ⟨_,rfl,_,rfl,_,rfl,_,rfl,x,dx,b,d,t,g,f,pa,pq,pv,ts,gs,N,A,ds,w,(Bn i (fin B) : Int) - 100000000000,rfl,n.same S5,ok,e2',e3',hv5,Al,wl,LG.nn,LG.dl,LG.dr,by omega,fun j hj=>by have:=(WBi j hj).2; omega,fun c cM hc H6 S6=>?_⟩
     refine ⟨_,rfl,by show 2 ≤ sizeLine; decide,fun tq ntq=>?_⟩
     exact hN _ _ ⟨c,tq,rfl,S6.upd ntq,S6.free ntq,upd_same,fun z=>(nomatch z),fun _=>by omega,fun _=>hc⟩
    | false =>
     refine iteF ?_
     refine ⟨_,rfl,by show 2 ≤ sizeLine; decide,fun tq ntq=>?_⟩
     exact hN _ _ ⟨1,tq,rfl,(Same.refl H5).upd ntq,ntq,upd_same,fun _=>rfl,fun z=>(nomatch z),fun z=>(nomatch z)⟩
   rintro _ H6 ⟨c,tq,rfl,S6,ntq,htq,c1,c2,c3⟩
   have cb : c < 2 ^ 600:=by
    cases lp with
    | true=>have:=c2 rfl; generalize (2 ^ 600 : Nat) = T at *; omega
    | false=>rw [c1 rfl]; decide +kernel
   have kr : ∀ k ∈ rep c ds,k < N.takes.length:=fun k hk=>LG.dr k (rep_mem hk)
   have l1:=need_len wt wg gl kr
   have l2:=gL_len wt wg gl kr
   have dl:=LG.dl
   have S56:=S5.trans S6
   refine ⟨_,rfl,_,rfl,by show 1 ≤ sizeLine; decide,fun b1 nb1=>?_⟩
   have U7:=(Same.refl H6).upd nb1 (o:=.lst [V.ref tq])
   have g7:=upd_same (H:=H6) (a:=b1) (o:=.lst [V.ref tq])
   generalize upd H6 b1 (.lst [V.ref tq]) = H7 at U7 g7 ⊢
   have S67:=S6.trans U7
   have BA : BlkAt H7 (tq,pq) (c,ds):=⟨U7 _ _ htq,S67 _ _ e3'⟩
   refine ⟨x,dx,b,d,t,g,f,b1,ts,gs,N,[(tq,pq)],[(c,ds)],rfl,n.same (S5.trans S67),ok,SqL.of g7,.cons BA .nil,fun c' hc'=>by rw [List.mem_singleton.mp hc']; exact ⟨cb,by show ds.length ≤ 1000; omega,LG.dr⟩,fun q1 H8 nq1 S8 hq1=>?_⟩
   rw [laid_one] at hq1
   have S78:=S67.trans S8
   refine ⟨_,rfl,_,rfl,by show 1 ≤ sizeLine; decide,fun b2 nb2=>?_⟩
   have U9:=(Same.refl H8).upd nb2 (o:=.lst [V.ref tq])
   have g9:=upd_same (H:=H8) (a:=b2) (o:=.lst [V.ref tq])
   generalize upd H8 b2 (.lst [V.ref tq]) = H9 at U9 g9 ⊢
   have S79:=S78.trans U9
   refine ⟨x,dx,b,d,t,g,f,b2,ts,gs,N,[(tq,pq)],[(c,ds)],rfl,n.same (S5.trans S79),ok,SqL.of g9,.cons (BA.same (S8.trans U9)) .nil,fun c' hc'=>by rw [List.mem_singleton.mp hc']; exact ⟨cb,by show ds.length ≤ 1000; omega,LG.dr⟩,fun q2 H10 nq2 S10 hq2=>?_⟩
   rw [laid_one] at hq2
   have S710:=S79.trans S10
   refine ⟨_,rfl,q1,q2,pv,_,_,w,rfl,SqL.of ((U9.trans S10) _ _ hq1),SqL.of hq2,SqL.of (S710 _ _ hv5),by show (needL _ _ _ (rep c ds)).length = (gL _ _ _ (rep c ds)).length; omega,by show (needL _ _ _ (rep c ds)).length = _; omega,by show (needL _ _ _ (rep c ds)).length ≤ _; omega,fun q3 H11 nq3 S11 hq3=>?_⟩
   have hq3 : H11 q3 = some (.lst (vints (hi2 (needL N.bowls.length N.takes N.gives (rep c ds)) (L2.sub w (gL N.bowls.length N.takes N.gives (rep c ds)))))):=hq3
   have SF:=S710.trans S11
   have hk11:=SF _ _ hk5
   have q3k : q3 ≠ pk:=Ne.symm (ne_of_none (S710 _ _ hk5) nq3)
   have psl : (fsts ps).length = bls.length:=by rw [List.length_map]; exact B5.length
   refine ⟨_,rfl,.inl ⟨rfl,_,SqL.of hk11⟩,_,rfl,pk,_,_,rfl,rfl,hk11,by rw [psl]; exact small70 (by omega),?_⟩
   have B11 : Blks H11 (ps ++ [(tq,pq)]) (bls ++ [(c,ds)]):=Blks.snoc (B5.same SF) (BA.same ((S8.trans (U9.trans S10)).trans S11))
   have pn' : ∀ p ∈ ps ++ [(tq,pq)],p.2 ≠ pk:=fun p hp=>by
    rcases List.mem_append.mp hp with z | z
    ·exact pn p z
    ·rw [List.mem_singleton.mp z]; exact pqk
   have ef : fsts ps ++ [V.ref tq] = fsts (ps ++ [(tq,pq)]):=by
    show List.map _ ps ++ _ = List.map _ (ps ++ [(tq,pq)])
    rw [List.map_append]
    rfl
   have B12:=B11.lay (ys:=fsts ps ++ [V.ref tq]) hk11 pn'
   have sl:=sub_len wl l2
   refine ⟨_,_,_,_,q3,ps ++ [(tq,pq)],bls ++ [(c,ds)],_,A,m',rfl,(S5.trans SF).upd' nk0,by rw [upd_ne pLk]; exact SF _ _ hL5,LegRows.layO (R5.same SF) hk3,by rw [upd_same,ef],B12,pn',by rw [List.length_append,bl]; rfl,q3k,by rw [upd_ne q3k]; exact hq3,hi2_len l1 sl,WB.step wt wg gl (fun r hr=>(ok.tk r hr).2) (fun r hr=>(ok.gv r hr).2) LG wl WBi c1 c2,LC',Al,?_,fun c' hc'=>?_⟩
   ·rw [List.reverse_append]
    exact Pumps.cons wt wg gl nt PP LG wl c1 c3
   ·rcases List.mem_append.mp hc' with z | z
    ·exact hcs c' z
    ·rw [List.mem_singleton.mp z]
     exact ⟨cb,dl,LG.dr⟩
  ·rintro σ H5 ⟨o5,o6,o7,o8,pv,ps,bls,w,B,m,rfl,S5,hL5,R5,hk5,B5,pn,bl,vk,hv5,wl,WBi,LCi,Bl,PP,hcs⟩
   rw [List.length_map,alen] at bl LCi
   rw [Nat.sub_self,List.take_zero] at LCi
   have eB:=LCi.nil_eq rfl
   rw [← eB] at PP
   obtain ⟨e,RN,el,MA⟩:=PP N.first fl (mat_first fl)
   have BR : Blks H5 ps.reverse bls.reverse:=paired_rev B5
   have RF:=Run.filt wt wg gl RN fl fun c hc=>(hcs c (List.mem_reverse.mp hc)).2.2
   have hcr : ∀ c ∈ bls.reverse.filter fun c=>decide (0 < c.1),0 < c.1∧c.1 < 2 ^ 600∧c.2.length ≤ 64∧∀ k ∈ c.2,k < N.takes.length:=fun c hc=>by
    obtain ⟨h1,h2⟩:=List.mem_filter.mp hc
    exact ⟨of_decide_eq_true h2,hcs c (List.mem_reverse.mp h1)⟩
   have er : (fsts ps).reverse = fsts ps.reverse:=by
    show (List.map _ ps).reverse = List.map _ ps.reverse
    rw [List.map_reverse]
   have blr : bls.reverse.length = ls.length:=by rw [List.length_reverse,bl]
   generalize bls.reverse = bls' at BR RF hcr blr
   generalize ps.reverse = ps' at BR er
   refine ⟨_,rfl,pk,_,rfl,SqL.of hk5,?_⟩
   refine comp_revP (K:=K) (a:=pk) (xs:=fsts ps) (fun i ys σ H6=>∃ (o : Option V) (qs : List (Addr × Addr)),σ = [o]∧H6 = H5∧ys = fsts qs∧Blks H5 qs ((bls'.take i).filter fun c=>decide (0 < c.1))) ⟨none,[],rfl,rfl,rfl,.nil⟩ ?_ ?_ ?_
   ·rintro i ys σ H6 hi ⟨o,qs,rfl,rfl,rfl,BQ⟩
    refine ⟨SqL.of hk5,?_⟩
    have h1:=BQ.length
    have h2:=List.length_filter_le (fun c : Blk2=>decide (0 < c.1)) (bls'.take i)
    rw [List.length_take] at h2
    rw [List.length_map]
    exact small70 (by omega)
   ·rintro BB i v ys σ H6 hv ⟨o,qs,rfl,rfl,rfl,BQ⟩
    rw [er] at hv
    obtain ⟨p,hp1,rfl⟩:=fst_get hv
    obtain ⟨c,hc,hB⟩:=Paired.getL BR hp1
    have et : bls'.take (i + 1) = bls'.take i ++ [c]:=by rw [List.take_add_one,hc]; rfl
    try dsimp only [gName]
    refine ⟨_,rfl,p.1,_,_,_,rfl,rfl,SqT.of hB.1,rfl,_,_,rfl,rfl,_,rfl,?_⟩
    refine iteD (fun z=>?_) (fun z=>?_)
    ·have z : 0 < c.1:=by have : (0 : Int) < (c.1 : Int):=z; omega
     refine ⟨_,rfl,_,qs ++ [p],rfl,rfl,?_,?_⟩
     ·show List.map _ qs ++ _ = List.map _ (qs ++ [p])
      rw [List.map_append]
      rfl
     ·rw [et,List.filter_append,List.filter_cons_of_pos (by simpa using z)]
      exact Blks.snoc BQ hB
    ·have z : ¬ 0 < c.1:=fun h=>z (show (0 : Int) < (c.1 : Int) by omega)
     refine ⟨_,qs,rfl,rfl,rfl,?_⟩
     rw [et,List.filter_append,List.filter_cons_of_neg (by simpa using z),List.filter_nil,List.append_nil]
     exact BQ
   ·rintro ys σ H6 ⟨o,qs,rfl,rfl,rfl,BQ⟩ q nq
    rw [List.length_map,B5.length,bl,← blr,List.take_length] at BQ
    exact hQ q qs _ e _ (S5.free nq) (S5.upd nq) upd_same (BQ.same ((Same.refl H6).upd nq)) hcr RF el MA
theorem sc_way_to : FnScope ["tree", "node", "nodes"] ["tree", "node"] (defScope s_way_to) := ⟨rfl, rfl, rfl, by decide +kernel, rfl, by decide +kernel, by decide +kernel⟩
set_option maxHeartbeats 4000000 in
theorem ok_way_to (T : Txt K mg AR FR) : FnOk P w K mg base CX0 4 AR.f_way_to FR.d_way_to ["tree", "node"] (sp_way_to AR.C_Tree K) := by
 have G_Tree_init : FnOk P w K mg base CX0 1 AR.f_Tree_init FR.d_Tree_init _ (sp_Tree_init AR.C_Tree K):=ok_Tree_init T
 have G_upward : FnOk P w K mg base CX0 3 AR.f_upward FR.d_upward _ (sp_upward AR.C_Tree K):=ok_upward T
 refine T.F_way_to.ok sc_way_to (fun vs H Q E h=>?_) (fun cdv A outer s H vs Q E hr h=>?_)
 ·obtain ⟨y,dy,m,p,c,l,a,ms,ls,w,n,rfl,t,hpv,hn,h60,lpp,lcc,lll,hin,hQ⟩:=h
  rfl
 ·obtain ⟨y,dy,m,p,c,l,a,ms,ls,w,n,rfl,t,hpv,hn,h60,lpp,lcc,lll,hin,hQ⟩:=h
  refine ⟨_,(pss_cons (ps_set (i:=2) sc_way_to.nd rfl (Or.inr rfl) (pe_listRev rfl (by rfl) T.z_list (by rfl) T.z_reversed (pa_cons (pe_call G_upward (hr.mono (by decide)) (by rfl) T.m_upward T.F_upward.kp T.b_upward .nil pass0 (pa_cons (pv 0) (pa_cons (pv 1) pa_nil))) pa_nil)))
   (pss_one (ps_ret (pe_comp (N' := ["one", "tree", "nodes"]) (nt := 1) (caps := [0, 2]) _ _ (CompScope.of (by kernel_rfl)) (pi_list (pe_slice sl_list (pv 2) (po_some pe_int) po_none)) (fun _ => (pg_nameC (i := 0) ["one", "tree", "nodes"] (by decide +kernel) (by rfl))) (fun _ => pts_nil) (fun _ => (pe_tup (pa_cons (pe_ix ix_list (pe_fld (pv 1) rfl) (pv 0) (fun _ _ => rfl)) (pa_cons (pe_comp (N' := ["loop", "nodes"]) (nt := 1) (caps := [2]) _ _ (CompScope.of (by kernel_rfl)) (pi_list (pe_ix ix_list (pe_fld (pv 1) rfl) (pv 0) (fun _ _ => rfl))) (fun _ => (pg_nameC (i := 0) ["loop", "nodes"] (by decide +kernel) (by rfl))) (fun _ => pts_nil) (fun _ => (pe_bm PySem.F.plainAttrs_list PySem.F.slot_list_index PySem.F.type_list_index mt_indexI (pv 1) (pa_cons (pv 0) pa_nil)))) pa_nil)))))))), ?_⟩
  try dsimp only [kx1,kx2,kx3,Cx.nox,Cx.wish]
  have hp : n < w.par.length:=by omega
  have pl:=pth_len (par:=w.par) n
  refine ⟨_,rfl,_,rfl,y,dy,m,p,c,l,a,ms,ls,w,n,rfl,t,hpv,hp,by omega,fun q1 H1 n1 S1 h1=>⟨q1,_,rfl,SqL.of h1,fun pn npn=>?_⟩⟩
  rw [rev_up]
  generalize hP : pth w.par n = P at hin pl
  have U2:=S1.upd npn (o:=.lst (vints (zI P)))
  have h2:=upd_same (H:=H1) (a:=pn) (o:=.lst (vints (zI P)))
  generalize upd H1 pn (.lst (vints (zI P))) = H2 at U2 h2 ⊢
  refine ⟨_,rfl,_,rfl,pn,_,rfl,SqL.of h2,fun ps nps=>?_⟩
  have ec : cutV (vints (zI P)) (some (1 : Int)) none = vints ((zI P).drop 1):=cut_tail (zI P) 1
  rw [ec]
  have U3:=U2.upd nps (o:=.lst (vints ((zI P).drop 1)))
  have h3:=upd_same (H:=H2) (a:=ps) (o:=.lst (vints ((zI P).drop 1)))
  have hpn3 : upd H2 ps (.lst (vints ((zI P).drop 1))) pn = some (.lst (vints (zI P))):=by rw [upd_ne (ne_of_none h2 nps)]; exact h2
  generalize upd H2 ps (.lst (vints ((zI P).drop 1))) = H3 at U3 h3 hpn3 ⊢
  have dl : (vints ((zI P).drop 1)).length = P.length - 1:=by rw [ints_len,List.length_drop,List.length_map]
  have eB : wayB w n = (P.drop 1).map (wayAt w (zI P)):=by unfold wayB; rw [hP]
  refine ⟨ps,rfl,⟨_,SqL.of h3⟩,?_⟩
  refine comp_listP (K:=K) (a:=ps) (xs:=vints ((zI P).drop 1)) (fun i zs σ H4=>∃ (o : Option V) (as : List Addr),σ = [o,some (.ref y),some (.ref pn)]∧Same H3 H4∧zs = as.map V.ref∧WRows H4 as ((wayB w n).take i)∧as.length = i) ⟨none,[],rfl,Same.refl _,rfl,.nil,rfl⟩ ?_ ?_ ?_
  ·rintro i zs σ H4 hi ⟨o,as,rfl,S,rfl,R,al⟩
   refine ⟨SqL.of (S _ _ h3),?_⟩
   rw [List.length_map]
   exact small70 (by omega)
  ·rintro B i x zs σ H4 hx ⟨o,as,rfl,S,rfl,R,al⟩
   try dsimp only [gName,tTrue]
   rw [if_pos rfl]
   obtain ⟨j,hj,rfl⟩:=ints_get hx
   have hj : ((P.drop 1).map fun (k : Nat)=>(k : Int))[i]? = some j:=by rw [List.map_drop]; exact hj
   rw [List.getElem?_map] at hj
   obtain ⟨q,hq,rfl⟩:=Option.map_eq_some_iff.mp hj
   obtain ⟨g1,g2,g3⟩:=hin q (List.mem_of_getElem? hq)
   have qc : q < w.com.length:=by omega
   have ql : q < w.loops.length:=by omega
   have t4:=t.same (U3.trans S)
   have hpn4:=S _ _ hpn3
   obtain ⟨qa,el,fa⟩:=rows_at t4.rl ql
   have ecq : w.com[q] = w.com.getD q 0:=by rw [List.getD_eq_getElem?_getD,List.getElem?_eq_getElem qc]; rfl
   have elq : w.loops[q] = w.loops.getD q []:=(getDr ql).symm
   refine ⟨_,rfl,y,_,dy,_,_,rfl,t4.ob,T.cl_Tree,T.n_Tree_comers,rfl,_,rfl,c,_,_,_,rfl,rfl,SqL.of t4.hc,ints_at qc,?_⟩
   refine ⟨_,rfl,y,_,dy,_,_,rfl,t4.ob,T.cl_Tree,T.n_Tree_loops,rfl,_,rfl,l,_,_,_,rfl,rfl,SqL.of t4.hl,el,qa,rfl,⟨_,SqL.of fa⟩,?_⟩
   rw [elq] at fa
   refine comp_list1 (τ:=[some (.ref pn)]) (gIx (zI P)) (SqL.of fa) (by rw [ints_len]; exact small70 (by omega)) (fun B' x H5 hx5 S5 Q' hq5=>?_) ?_
   ·obtain ⟨k,hk,rfl⟩:=ints_mem hx5
    exact ⟨_,rfl,.inl ⟨rfl,_,SqL.of (S5 _ _ hpn4)⟩,_,rfl,pn,_,_,rfl,rfl,S5 _ _ hpn4,g3 k hk,hq5 H5 (Same.refl _)⟩
   intro H5 S5 li nli
   rw [gIx_map]
   have U6:=S5.upd nli (o:=.lst (vints ((w.loops.getD q []).map (ixI (zI P)))))
   have h6:=upd_same (H:=H5) (a:=li) (o:=.lst (vints ((w.loops.getD q []).map (ixI (zI P)))))
   generalize upd H5 li (.lst (vints ((w.loops.getD q []).map (ixI (zI P))))) = H6 at U6 h6 ⊢
   refine ⟨by show 2 ≤ sizeLine; decide,fun tp ntp=>?_⟩
   have U7:=(Same.refl H6).upd ntp (o:=.tup [V.int w.com[q],V.ref li])
   refine ⟨_,as ++ [tp],rfl,(S.trans U6).trans U7,(vrefs_snoc _ _).symm,WRows.take_snoc (R.same (U6.trans U7)) (b:=wayAt w (zI P) q) ?_ ⟨li,?_,U7 _ _ h6⟩,by rw [List.length_append,al]; rfl⟩
   ·rw [eB,List.getElem?_map,hq]; rfl
   ·rw [upd_same]
    show some (HO.tup [V.int w.com[q],V.ref li]) = some (HO.tup [V.int (w.com.getD q 0),V.ref li])
    rw [ecq]
  ·rintro zs σ H4 ⟨o,as,rfl,S,rfl,R,al⟩ pw npw
   have U5:=(Same.refl H4).upd npw (o:=.lst (as.map V.ref))
   rw [List.take_of_length_le (by rw [eB,List.length_map,List.length_drop,dl]; exact Nat.le_refl _)] at R
   exact hQ pw as _ ((U3.trans S).trans U5) upd_same (R.same U5)
theorem sc_law_passed : FnScope ["plan", "net", "tree", "mark", "many", "beads", "k"] ["plan", "net", "tree", "mark", "many"] (defScope s_law_passed) := ⟨rfl, rfl, rfl, by decide +kernel, rfl, by decide +kernel, by decide +kernel⟩
set_option maxHeartbeats 4000000 in
theorem ok_law_passed (T : Txt K mg AR FR) : FnOk P w K mg base CX0 11 AR.f_law_passed FR.d_law_passed ["plan", "net", "tree", "mark", "many"] (sp_law_passed AR.C_Net AR.C_Tree K) := by
 have G_Net_init : FnOk P w K mg base CX0 3 AR.f_Net_init FR.d_Net_init _ (sp_Net_init AR.C_Net K):=ok_Net_init T
 have G_Tree_init : FnOk P w K mg base CX0 1 AR.f_Tree_init FR.d_Tree_init _ (sp_Tree_init AR.C_Tree K):=ok_Tree_init T
 have G_law_end : FnOk P w K mg base CX0 4 AR.f_law_end FR.d_law_end _ (sp_law_end K):=ok_law_end T
 have G_pump : FnOk P w K mg base CX0 10 AR.f_pump FR.d_pump _ (sp_pump AR.C_Net K):=ok_pump T
 have G_way_to : FnOk P w K mg base CX0 4 AR.f_way_to FR.d_way_to _ (sp_way_to AR.C_Tree K):=ok_way_to T
 refine T.F_law_passed.ok sc_law_passed (fun vs H Q E h=>?_) (fun cdv A outer s H vs Q E hr h=>?_)
 ·obtain ⟨p,pt,pg,pf,x,dx,nb,nd,nt,ng,nf,y,dy,m,p',c,l,a,qm,ts,gs,nts,ngs,ms,ls,tk,gv,fs,w,room,r,v,rfl,P,o,NI,ok,ti,tg,r60,hm,hr0,v0,v1,hQ⟩:=h
  rfl
 ·obtain ⟨p,pt,pg,pf,x,dx,nb,nd,nt,ng,nf,y,dy,m,p',c,l,a,qm,ts,gs,nts,ngs,ms,ls,tk,gv,fs,w,room,r,v,rfl,P,o,NI,ok,ti,tg,r60,hm,hr0,v0,v1,hQ⟩:=h
  refine ⟨_,(pss_cons (ps_if (pt_cmpR (op_notInM (hu2_of hr)) (pv 3) (pe_fld (pv 2) rfl) (by with_unfolding_all rfl)) (pss_one (ps_ret pe_bl)) pss_nil)
   (pss_cons (ps_set (i:=5) sc_law_passed.nd rfl (Or.inl rfl) (pe_call G_law_end (hr.mono (by decide)) (by rfl) T.m_law_end T.F_law_end.kp T.b_law_end .nil pass0 (pa_cons (pv 0) (pa_cons (pe_call G_pump (hr.mono (by decide)) (by rfl) T.m_pump T.F_pump.kp T.b_pump .nil pass0 (pa_cons (pv 1) (pa_cons (pe_call G_way_to (hr.mono (by decide)) (by rfl) T.m_way_to T.F_way_to.kp T.b_way_to .nil pass0 (pa_cons (pv 2) (pa_cons (pe_bm PySem.F.plainAttrs_list PySem.F.slot_list_index PySem.F.type_list_index (mt_indexM (hu2_of hr)) (pe_fld (pv 2) rfl) (pa_cons (pv 3) pa_nil)) pa_nil))) (pa_cons (pv 4) pa_nil)))) pa_nil))))
   (pss_cons (ps_if (pt_cmpR op_isN (pv 5) pe_non (nomark _)) (pss_one (ps_ret pe_bl)) pss_nil)
   (pss_cons (ps_for PassesOwn.never rfl (pi_range1 (by rfl) T.z_range (pa_cons (pe_callB call_len_seq (by rfl) T.z_len bt_len (pa_cons (pv 3) pa_nil)) pa_nil)) (pg_name (i:=6) sc_law_passed.nd (by rfl) (Or.inl rfl))
   (pss_cons (ps_if (PW.pt (pw_and (pt_cmpR op_isN (pe_ix ix_list (pv 3) (pv 6) (fun _ _=>rfl)) pe_non (nomark _)) (pw_and1 (pt_cmpR op_lt (pe_ix ix_list (pv 5) (pv 6) (fun _ _=>rfl)) (pv 4) (nomark _))))) (pss_one (ps_ret pe_bl)) pss_nil)
   (pss_one (ps_if (PW.pt (pw_and (pt_cmpR op_notN (pe_ix ix_list (pv 3) (pv 6) (fun _ _=>rfl)) pe_non (nomark _)) (pw_and1 (pt_cmpR op_ne (pe_ix ix_list (pv 5) (pv 6) (fun _ _=>rfl)) (pe_ix ix_list (pv 3) (pv 6) (fun _ _=>rfl)) (nomark _))))) (pss_one (ps_ret pe_bl)) pss_nil))))
   (pss_one (ps_ret pe_bl)))))),?_⟩
  try dsimp only [kx1,kx2,kx3,Cx.nox,Cx.wish]
  have z6:=o.z6
  have gl:=o.gl
  have le:=tg.le
  have nl:=netR_len (tk:=tk) (gv:=gv) z6
  refine ⟨_,rfl,_,rfl,y,_,dy,_,_,rfl,ti.ob,T.cl_Tree,T.n_Tree_marks,rfl,qm,m,ms,w.marks,r,rfl,rfl,SqL.of hm,SqL.of ti.hm,ti.rm,_,rfl,?_⟩
  rw [decide_eq_true hr0]
  refine iteF ?_
  obtain ⟨e1,_⟩:=ixM_at hr0
  generalize hn : ixM w.marks r = n at e1
  have hnl : n < w.marks.length:=(List.getElem?_eq_some_iff.mp e1).1
  have enr : w.marks.getD n [] = r:=by rw [List.getD_eq_getElem?_getD,e1]; rfl
  have wok:=way_ok tg hnl
  have win:=way_in tg hnl
  have hp : n < w.par.length:=by rw [tg.lp]; exact hnl
  have eb:=way_bm wok
  have el:=way_last tg.pv hp
  rw [enr] at el
  have pl:=pth_len (par:=w.par) n
  have lB : (wayB w n).length = (pth w.par n).length - 1:=by unfold wayB; rw [List.length_map,List.length_drop]
  have rl : r.length = fs.length:=tg.wd r hr0
  refine ⟨_,rfl,_,rfl,_,rfl,_,rfl,y,_,dy,_,_,rfl,ti.ob,T.cl_Tree,T.n_Tree_marks,rfl,.inl ⟨rfl,_,SqL.of ti.hm⟩,_,rfl,m,qm,ms,w.marks,r,rfl,rfl,ti.hm,ti.rm,SqL.of hm,hr0,?_⟩
  rw [hn]
  refine ⟨y,dy,m,p',c,l,a,ms,ls,w,n,rfl,ti,tg.pv,hnl,by omega,tg.lp,tg.lc,tg.ll,win,fun pw as H1 S1 hw R=>?_⟩
  have bo : BrOk (netR tk gv fs).takes.length 70 (wayB w n):=⟨by omega,fun b hb=>by
   obtain ⟨j,hj,rfl⟩:=List.mem_iff_getElem.mp hb
   obtain ⟨d,hd,ed,_⟩:=wok.st j hj
   have eb : (wayB w n).getD j (0,[]) = (wayB w n)[j]:=by rw [List.getD_eq_getElem?_getD,List.getElem?_eq_getElem hj]; rfl
   rw [eb] at ed
   refine ⟨by omega,by show _ < (tk.length : Int); omega,?_⟩
   obtain ⟨q,hq,e2⟩:=List.mem_map.mp (show (wayB w n)[j] ∈ ((pth w.par n).drop 1).map (wayAt w (zI (pth w.par n))) from List.getElem_mem hj)
   rw [← e2]
   show ((w.loops.getD _ []).map _).length ≤ 70
   rw [List.length_map]
   have:=(win q hq).2.1
   omega⟩
  refine ⟨_,rfl,x,dx,nb,nd,nt,ng,nf,pw,nts,ngs,as,netR tk gv fs,wayB w n,pthM w n,v,rfl,NI.same S1,ok,hw,R,bo,eb,v0,v1,fun pk ps bls e9 H2 nk S2 hk BK hc RN e9l MA=>?_⟩
  rw [nl] at RN e9l MA
  rw [el] at MA
  have S12:=S1.trans S2
  refine ⟨p,pt,pg,pf,pk,ts,gs,tk,gv,fs,e9,ps,bls,rfl,P.same S12,o,hk,BK,hc,RN,fun pv H3 S3 hv3=>?_⟩
  have S13:=S12.trans S3
  have fm:=S13 _ _ hm
  refine ⟨_,rfl,rfl,_,rfl,?_⟩
  refine iteD (fun z=>nomatch z) (fun _=>?_)
  refine ⟨_,rfl,qm,_,rfl,.inl (SqL.of fm),_,rfl,rngA _,by rw [vmk_len,rl]; omega,?_⟩
  rw [Int.toNat_natCast,vmk_len,rl]
  refine for_range (n:=_) (fun i σ H13=>∃ (o6 : Option V),σ = [some (.ref p),some (.ref x),some (.ref y),some (.ref qm),some (.int v),some (.ref pv),o6]∧H13 = H3) ⟨_,rfl,rfl⟩ ?_ ?_
  ·rintro i σ H13 hi ⟨o10',rfl,rfl⟩
   have hi : i < fs.length:=hi
   obtain ⟨m1,m2⟩:=MA i hi
   rw [mG_at (by omega)] at m1 m2
   refine ⟨_,rfl,_,rfl,qm,_,_,_,rfl,rfl,SqL.of fm,vmk_at0 (by omega),rfl,_,rfl,?_⟩
   cases e : r[i] with
   | none =>
    refine iteD (fun _=>?_) (fun q=>absurd rfl q)
    have m2:=m2 e
    have er : (List.replicate fs.length v).getD i 0 = v:=by rw [L2.getD_at (by rw [List.length_replicate]; exact hi),List.getElem_replicate]
    rw [er] at m2
    refine ⟨_,rfl,_,rfl,pv,_,_,_,rfl,rfl,SqL.of hv3,at_place e9l hi,_,rfl,_,_,rfl,rfl,_,rfl,?_⟩
    refine iteD (fun z=>absurd z (by omega)) (fun _=>?_)
    refine ⟨_,rfl,_,rfl,qm,_,_,_,rfl,rfl,SqL.of fm,vmk_at0 (by omega),rfl,_,rfl,?_⟩
    rw [e]
    refine iteND (fun q=>absurd rfl q) (fun _=>iteF ?_)
    exact ⟨_,rfl,rfl⟩
   | some u =>
    refine iteD (fun q=>nomatch q) (fun _=>iteF ?_)
    have m1:=m1 u e
    refine ⟨_,rfl,_,rfl,qm,_,_,_,rfl,rfl,SqL.of fm,vmk_at0 (by omega),rfl,_,rfl,?_⟩
    rw [e]
    refine iteND (fun _=>?_) (fun q=>nomatch q)
    refine ⟨_,rfl,_,rfl,pv,_,_,_,rfl,rfl,SqL.of hv3,at_place e9l hi,_,rfl,_,rfl,qm,_,_,_,rfl,rfl,SqL.of fm,vmk_at0 (by omega),by rw [e]; rfl,_,rfl,?_⟩
    rw [e,m1]
    refine iteND (fun q=>absurd rfl q) (fun _=>?_)
    exact ⟨_,rfl,rfl⟩
  ·rintro σ H13 ⟨o10',rfl,rfl⟩
   exact hQ _ S13
theorem sc_law : FnScope ["script", "found", "marks", "many", "mark"] ["script"] (defScope s_law) := ⟨rfl, rfl, rfl, by decide +kernel, rfl, by decide +kernel, by decide +kernel⟩
set_option maxHeartbeats 40000000 in
theorem ok_law (T : Txt K mg AR FR) : FnOk P w K mg base CX0 12 AR.f_law FR.d_law ["script"] (sp_law K) := by
 have G_law_tree_of : FnOk P w K mg base CX0 10 AR.f_law_tree_of FR.d_law_tree_of _ (sp_law_tree_of AR.C_Net AR.C_Tree K):=ok_law_tree_of T
 have G_law_net : FnOk P w K mg base CX0 3 AR.f_law_net FR.d_law_net _ (sp_law_net K):=ok_law_net T
 have G_fence : FnOk P w K mg base CX0 6 AR.f_fence FR.d_fence _ (sp_fence AR.C_Tree K):=ok_fence T
 have G_law_marks_formed : FnOk P w K mg base CX0 2 AR.f_law_marks_formed FR.d_law_marks_formed _ (sp_law_marks_formed K):=ok_law_marks_formed T
 have G_law_num : FnOk P w K mg base CX0 2 AR.f_law_num FR.d_law_num _ (sp_law_num K):=ok_law_num T
 have G_law_cell : FnOk P w K mg base CX0 1 AR.f_law_cell FR.d_law_cell _ (sp_law_cell K):=ok_law_cell T
 have G_law_passed : FnOk P w K mg base CX0 11 AR.f_law_passed FR.d_law_passed _ (sp_law_passed AR.C_Net AR.C_Tree K):=ok_law_passed T
 refine T.F_law.ok sc_law (fun vs H Q E h=>?_) (fun cdv A outer s H vs Q E hr h=>?_)
 ·obtain ⟨a,ns,rfl,hS,hlen,hQ⟩:=h
  rfl
 ·obtain ⟨a,ns,rfl,hS,hlen,hQ⟩:=h
  refine ⟨_,(pss_cons (ps_set (i:=1) sc_law.nd rfl (Or.inl rfl) (pe_call G_law_tree_of (hr.mono (by decide)) (by rfl) T.m_law_tree_of T.F_law_tree_of.kp T.b_law_tree_of .nil pass0 (pa_cons (pe_call G_law_net (hr.mono (by decide)) (by rfl) T.m_law_net T.F_law_net.kp T.b_law_net .nil pass0 (pa_cons (pv 0) pa_nil)) (pa_cons pe_int pa_nil))))
   (pss_cons (ps_if (pt_cmpR op_isN (pv 1) pe_non (nomark _)) (pss_one (ps_ret pe_bl)) pss_nil)
   (pss_cons (ps_set (i:=2) sc_law.nd rfl (Or.inl rfl) (pe_call G_fence (hr.mono (by decide)) (by rfl) T.m_fence T.F_fence.kp T.b_fence .nil pass0 (pa_cons (pe_ix ix_tup (pv 1) pe_int (fun _ _=>rfl)) pa_nil)))
   (pss_cons (ps_if (pt_not (pt_val (pe_call G_law_marks_formed (hr.mono (by decide)) (by rfl) T.m_law_marks_formed T.F_law_marks_formed.kp T.b_law_marks_formed .nil pass0 (pa_cons (pv 2) (pa_cons (pe_callB call_len_seq (by rfl) T.z_len bt_len (pa_cons (pe_ix ix_tup (pe_ix ix_tup (pv 1) pe_int (fun _ _=>rfl)) pe_int (fun _ _=>rfl)) pa_nil)) pa_nil))))) (pss_one (ps_ret pe_bl)) pss_nil)
   (pss_cons (ps_set (i:=3) sc_law.nd rfl (Or.inl rfl) (pe_op op_mod (pe_call G_law_num (hr.mono (by decide)) (by rfl) T.m_law_num T.F_law_num.kp T.b_law_num .nil pass0 (pa_cons (pv 0) (pa_cons pe_int pa_nil))) pe_int))
   (pss_cons (ps_if (pt_cmpR op_eq (pe_op op_mod (pe_call G_law_num (hr.mono (by decide)) (by rfl) T.m_law_num T.F_law_num.kp T.b_law_num .nil pass0 (pa_cons (pv 0) (pa_cons pe_int pa_nil))) pe_int) pe_int (nomark _)) (pss_one (ps_set (i:=3) sc_law.nd rfl (Or.inl rfl) (pe_op op_mod (pe_call G_law_cell (hr.mono (by decide)) (by rfl) T.m_law_cell T.F_law_cell.kp T.b_law_cell .nil pass0 (pa_cons (pv 0) (pa_cons pe_int pa_nil))) (pe_op op_pow pe_int pe_int)))) pss_nil)
   (pss_cons (ps_for PassesOwn.never rfl (pi_list (pv 2)) (pg_name (i:=4) sc_law.nd (by rfl) (Or.inl rfl))
   (pss_one (ps_if (pt_not (pt_val (pe_call G_law_passed (hr.mono (by decide)) (by rfl) T.m_law_passed T.F_law_passed.kp T.b_law_passed .nil pass0 (pa_cons (pe_ix ix_tup (pv 1) pe_int (fun _ _=>rfl)) (pa_cons (pe_ix ix_tup (pv 1) pe_int (fun _ _=>rfl)) (pa_cons (pe_ix ix_tup (pv 1) pe_int (fun _ _=>rfl)) (pa_cons (pv 4) (pa_cons (pv 3) pa_nil)))))))) (pss_one (ps_ret pe_bl)) pss_nil)))
   (pss_one (ps_ret pe_bl))))))))),?_⟩
  try dsimp only [kx1,kx2,kx3,Cx.nox,Cx.wish]
  refine ⟨_,rfl,a,ns,rfl,hS,hlen,fun p pt pg pf ts gs z tk gv fs H1 S1 P o=>?_⟩
  have ez : z = fs.length:=o.fs.1.symm
  subst ez
  refine ⟨p,pt,pg,pf,ts,gs,tk,gv,fs,60,rfl,P,o,by decide,by decide,fun q cp ct cg cf x dx nb nd nt ng nf y dy m p' c l a' ts' gs' nts ngs ms ls tk' gv' w H2 S2 hq PC oC NI ok ti tg=>?_⟩
  refine ⟨_,rfl,rfl,_,rfl,?_⟩
  refine iteD (fun z=>nomatch z) (fun _=>?_)
  have z1:=oC.z1
  have z6:=oC.z6
  have le:=tg.le
  refine ⟨_,rfl,q,_,_,_,rfl,rfl,SqT.of hq,rfl,y,dy,m,p',c,l,a',ms,ls,w,fs.length,rfl,ti,le,tg.wd,z1,by omega,fun pm fsA H3 nm S3 hm RM=>?_⟩
  have P3:=PC.same S3
  have hq3:=S3 _ _ hq
  have S13:=(S1.trans S2).trans S3
  have inM : ∀ r ∈ tellM w.marks w.marks,r ∈ w.marks:=fun r hr=>(tellM_sub w.marks w.marks [] r hr).resolve_left (fun h=>by cases h)
  have wdF : ∀ r ∈ tellM w.marks w.marks,r.length = fs.length∧nonN r:=fun r hr=>⟨tg.wd r (inM r hr),tg.nn r (inM r hr)⟩
  have c0:=tg.cov_first
  have ex0:=tg.cov_fence rfl c0
  have pos : 0 < (tellM w.marks w.marks).length:=by
   obtain ⟨r,hr,_⟩:=ex0
   exact List.length_pos_of_mem hr
  refine ⟨_,rfl,_,rfl,q,_,_,_,rfl,rfl,SqT.of hq3,rfl,cp,_,_,_,rfl,rfl,SqT.of P3.top,rfl,cf,_,rfl,.inl (SqL.of P3.hf),pm,fsA,_,fs.length,by rw [ints_len]; rfl,hm,RM,pos,wdF,_,rfl,?_⟩
  refine iteF ?_
  try dsimp only [tNext]
  refine seq_join (fun σ' H'=>∃ c : Int,σ' = [some (.ref a),some (.ref q),some (.ref pm),some (.int (c % 4)),none]∧H3 = H') ?_ (fun N hN=>?_)
  rotate_left
  ·refine ⟨_,rfl,a,ns,120,rfl,S13.seq hS,hlen,by decide,fun c0 c00 c01=>?_⟩
   refine ⟨_,_,rfl,rfl,(by show (0 : Int) < 4; decide),?_⟩
   exact hN _ _ ⟨c0,rfl,rfl⟩
  rintro _ _ ⟨cc,rfl,rfl⟩
  try dsimp only [tNext]
  refine seq_join (fun σ' H'=>∃ v : Int,0 ≤ v∧v < 10 ^ 60∧σ' = [some (.ref a),some (.ref q),some (.ref pm),some (.int v),none]∧H3 = H') ?_ (fun N hN=>?_)
  rotate_left
  ·refine ⟨_,rfl,a,ns,121,rfl,S13.seq hS,hlen,by decide,fun c1 c10 c11=>?_⟩
   refine ⟨_,_,rfl,rfl,(by show (0 : Int) < 2; decide),rfl,_,rfl,?_⟩
   refine iteD (fun _=>?_) (fun _=>?_)
   ·refine ⟨_,rfl,a,ns,2,rfl,S13.seq hS,hlen,fun c2=>?_⟩
    refine ⟨_,_,rfl,rfl,⟨by decide,by decide,by decide⟩,_,_,rfl,rfl,(by show (0 : Int) < 10 ^ 60; decide),?_⟩
    exact hN _ _ ⟨_,Int.emod_nonneg c2 (show ((10 : Int) ^ 60) ≠ 0 by decide),Int.emod_lt_of_pos c2 (show (0 : Int) < 10 ^ 60 by decide),rfl,rfl⟩
   ·have q1 : 0 ≤ cc % 4:=Int.emod_nonneg _ (by decide)
    have q2 : cc % 4 < 4:=Int.emod_lt_of_pos _ (by decide)
    exact hN _ _ ⟨cc % 4,q1,Int.lt_of_lt_of_le q2 (by decide),rfl,rfl⟩
  rintro _ _ ⟨v,v0,v1,rfl,rfl⟩
  refine ⟨_,rfl,pm,rfl,⟨_,SqL.of hm⟩,for_list (K:=K) (a:=pm) (xs:=fsA.map V.ref) (fun i σ H4=>∃ (o4 : Option V),σ = [some (.ref a),some (.ref q),some (.ref pm),some (.int v),o4]∧Same H3 H4) ⟨none,rfl,Same.refl _⟩ (fun i σ H4 _ hp4=>by obtain ⟨_,_,S⟩:=hp4; exact SqL.of (S _ _ hm)) ?_ ?_⟩
  ·rintro i vv σ H4 hv ⟨o4,rfl,S4⟩
   obtain ⟨qm,hq1,rfl⟩:=refs_get hv
   obtain ⟨r,hr1,hr2⟩:=Paired.getL RM hq1
   have rin:=inM r (List.mem_of_getElem? hr1)
   have hq4:=S4 _ _ hq3
   have S34:=S3.trans S4
   refine ⟨_,rfl,q,_,_,_,rfl,rfl,SqT.of hq4,rfl,_,rfl,q,_,_,_,rfl,rfl,SqT.of hq4,rfl,_,rfl,q,_,_,_,rfl,rfl,SqT.of hq4,rfl,_,rfl,_,rfl,cp,ct,cg,cf,x,dx,nb,nd,nt,ng,nf,y,dy,m,p',c,l,a',qm,ts',gs',nts,ngs,ms,ls,tk',gv',fs,w,60,r,v,rfl,PC.same S34,oC,NI.same S34,ok,ti.same S34,tg,by decide,S4 _ _ hr2,rin,v0,v1,fun H5 S5=>?_⟩
   refine ⟨_,rfl,?_⟩
   refine iteF ?_
   exact ⟨_,rfl,S4.trans S5⟩
  ·rintro σ H4 ⟨o4,rfl,S4⟩
   exact hQ _
end
theorem ex_S {us : List Value} {n : Nat} (hl : us.length = n + 1) : ∃ a r,us = a :: r∧r.length = n:=by cases us with | nil=>cases hl | cons a r=>exact ⟨a,r,rfl,Nat.succ.inj hl⟩
theorem ex_Z {us : List Value} (hl : us.length = 0) : us = []:=List.eq_nil_of_length_eq_zero hl
theorem ex_0 {us : List Value} (hl : us.length = 0) : us = []:=List.eq_nil_of_length_eq_zero hl
theorem ex_1 {us : List Value} (hl : us.length = 1) : ∃ a0,us = [a0]:=by obtain ⟨a,r,rfl,h⟩:=ex_S hl; obtain rfl:=ex_0 h; exact ⟨a,rfl⟩
theorem ex_2 {us : List Value} (hl : us.length = 2) : ∃ a0 a1,us = [a0,a1]:=by obtain ⟨a,r,rfl,h⟩:=ex_S hl; obtain ⟨_,rfl⟩:=ex_1 h; exact ⟨a,_,rfl⟩
theorem ex_3 {us : List Value} (hl : us.length = 3) : ∃ a0 a1 a2,us = [a0,a1,a2]:=by obtain ⟨a,r,rfl,h⟩:=ex_S hl; obtain ⟨_,_,rfl⟩:=ex_2 h; exact ⟨a,_,_,rfl⟩
theorem ex_4 {us : List Value} (hl : us.length = 4) : ∃ a0 a1 a2 a3,us = [a0,a1,a2,a3]:=by obtain ⟨a,r,rfl,h⟩:=ex_S hl; obtain ⟨_,_,_,rfl⟩:=ex_3 h; exact ⟨a,_,_,_,rfl⟩
theorem ex_5 {us : List Value} (hl : us.length = 5) : ∃ a0 a1 a2 a3 a4,us = [a0,a1,a2,a3,a4]:=by obtain ⟨a,r,rfl,h⟩:=ex_S hl; obtain ⟨_,_,_,_,rfl⟩:=ex_4 h; exact ⟨a,_,_,_,_,rfl⟩
theorem ex_6 {us : List Value} (hl : us.length = 6) : ∃ a0 a1 a2 a3 a4 a5,us = [a0,a1,a2,a3,a4,a5]:=by obtain ⟨a,r,rfl,h⟩:=ex_S hl; obtain ⟨_,_,_,_,_,rfl⟩:=ex_5 h; exact ⟨a,_,_,_,_,_,rfl⟩
set_option maxHeartbeats 0 in
theorem all_mk {l : PySem.W.OpenLaw} {w : World} {K : PySem.W.Frag} {h : Heap} {mg : Str → Option Value} {fa f_is_name f_refuse_bad_names f_refuse_bad_bags f_Net_init f_Tree_init f_law_made f_is_no_more f_under f_first_above f_may_mark f_upward f_raised f_put_node f_NoGo_init f_refuse_unlike f_less f_gain f_mark_after f_look_at f_grown f_law_grown f_law_tree_of f_law_cell f_law_num f_law_net f_is_outermost f_outermost f_peak_marks f_fence f_law_whole f_law_marks_formed f_law_turn f_law_behind f_law_end f_mark_behind f_branch_marks f_legs_of f_plus f_times f_tally_gain f_tally_of f_gain_of f_often_enough f_higher f_need_ahead f_need_of f_need_of_one f_gain_of_one f_block_need f_block_gain f_pump f_way_to f_law_passed f_law C_Net C_Tree C_HallError C_TooWide C_NoGo : Addr} (X : K.In h) (G : h.Ns mainGlobals mg) (hfa : mg "law" = some (.ref fa))
  {od_is_name an_is_name : Option Addr} {sl_is_name : Array (Option Value)} {oc_is_name kV_is_name dc_is_name pm_is_name cd_is_name ct_is_name : Value}
  {od_refuse_bad_names an_refuse_bad_names : Option Addr} {sl_refuse_bad_names : Array (Option Value)} {oc_refuse_bad_names kV_refuse_bad_names dc_refuse_bad_names pm_refuse_bad_names cd_refuse_bad_names ct_refuse_bad_names : Value}
  {od_refuse_bad_bags an_refuse_bad_bags : Option Addr} {sl_refuse_bad_bags : Array (Option Value)} {oc_refuse_bad_bags kV_refuse_bad_bags dc_refuse_bad_bags pm_refuse_bad_bags cd_refuse_bad_bags ct_refuse_bad_bags : Value}
  {od_Net_init an_Net_init : Option Addr} {sl_Net_init : Array (Option Value)} {oc_Net_init kV_Net_init dc_Net_init pm_Net_init cd_Net_init ct_Net_init : Value}
  {od_Tree_init an_Tree_init : Option Addr} {sl_Tree_init : Array (Option Value)} {oc_Tree_init kV_Tree_init dc_Tree_init pm_Tree_init cd_Tree_init ct_Tree_init : Value}
  {od_law_made an_law_made : Option Addr} {sl_law_made : Array (Option Value)} {oc_law_made kV_law_made dc_law_made pm_law_made cd_law_made ct_law_made : Value}
  {od_is_no_more an_is_no_more : Option Addr} {sl_is_no_more : Array (Option Value)} {oc_is_no_more kV_is_no_more dc_is_no_more pm_is_no_more cd_is_no_more ct_is_no_more : Value}
  {od_under an_under : Option Addr} {sl_under : Array (Option Value)} {oc_under kV_under dc_under pm_under cd_under ct_under : Value}
  {od_first_above an_first_above : Option Addr} {sl_first_above : Array (Option Value)} {oc_first_above kV_first_above dc_first_above pm_first_above cd_first_above ct_first_above : Value}
  {od_may_mark an_may_mark : Option Addr} {sl_may_mark : Array (Option Value)} {oc_may_mark kV_may_mark dc_may_mark pm_may_mark cd_may_mark ct_may_mark : Value}
  {od_upward an_upward : Option Addr} {sl_upward : Array (Option Value)} {oc_upward kV_upward dc_upward pm_upward cd_upward ct_upward : Value}
  {od_raised an_raised : Option Addr} {sl_raised : Array (Option Value)} {oc_raised kV_raised dc_raised pm_raised cd_raised ct_raised : Value}
  {od_put_node an_put_node : Option Addr} {sl_put_node : Array (Option Value)} {oc_put_node kV_put_node dc_put_node pm_put_node cd_put_node ct_put_node : Value}
  {od_NoGo_init an_NoGo_init : Option Addr} {sl_NoGo_init : Array (Option Value)} {oc_NoGo_init kV_NoGo_init dc_NoGo_init pm_NoGo_init cd_NoGo_init ct_NoGo_init : Value}
  {od_refuse_unlike an_refuse_unlike : Option Addr} {sl_refuse_unlike : Array (Option Value)} {oc_refuse_unlike kV_refuse_unlike dc_refuse_unlike pm_refuse_unlike cd_refuse_unlike ct_refuse_unlike : Value}
  {od_less an_less : Option Addr} {sl_less : Array (Option Value)} {oc_less kV_less dc_less pm_less cd_less ct_less : Value}
  {od_gain an_gain : Option Addr} {sl_gain : Array (Option Value)} {oc_gain kV_gain dc_gain pm_gain cd_gain ct_gain : Value}
  {od_mark_after an_mark_after : Option Addr} {sl_mark_after : Array (Option Value)} {oc_mark_after kV_mark_after dc_mark_after pm_mark_after cd_mark_after ct_mark_after : Value}
  {od_look_at an_look_at : Option Addr} {sl_look_at : Array (Option Value)} {oc_look_at kV_look_at dc_look_at pm_look_at cd_look_at ct_look_at : Value}
  {od_grown an_grown : Option Addr} {sl_grown : Array (Option Value)} {oc_grown kV_grown dc_grown pm_grown cd_grown ct_grown : Value}
  {od_law_grown an_law_grown : Option Addr} {sl_law_grown : Array (Option Value)} {oc_law_grown kV_law_grown dc_law_grown pm_law_grown cd_law_grown ct_law_grown : Value}
  {od_law_tree_of an_law_tree_of : Option Addr} {sl_law_tree_of : Array (Option Value)} {oc_law_tree_of kV_law_tree_of dc_law_tree_of pm_law_tree_of cd_law_tree_of ct_law_tree_of : Value}
  {od_law_cell an_law_cell : Option Addr} {sl_law_cell : Array (Option Value)} {oc_law_cell kV_law_cell dc_law_cell pm_law_cell cd_law_cell ct_law_cell : Value}
  {od_law_num an_law_num : Option Addr} {sl_law_num : Array (Option Value)} {oc_law_num kV_law_num dc_law_num pm_law_num cd_law_num ct_law_num : Value}
  {od_law_net an_law_net : Option Addr} {sl_law_net : Array (Option Value)} {oc_law_net kV_law_net dc_law_net pm_law_net cd_law_net ct_law_net : Value}
  {od_is_outermost an_is_outermost : Option Addr} {sl_is_outermost : Array (Option Value)} {oc_is_outermost kV_is_outermost dc_is_outermost pm_is_outermost cd_is_outermost ct_is_outermost : Value}
  {od_outermost an_outermost : Option Addr} {sl_outermost : Array (Option Value)} {oc_outermost kV_outermost dc_outermost pm_outermost cd_outermost ct_outermost : Value}
  {od_peak_marks an_peak_marks : Option Addr} {sl_peak_marks : Array (Option Value)} {oc_peak_marks kV_peak_marks dc_peak_marks pm_peak_marks cd_peak_marks ct_peak_marks : Value}
  {od_fence an_fence : Option Addr} {sl_fence : Array (Option Value)} {oc_fence kV_fence dc_fence pm_fence cd_fence ct_fence : Value}
  {od_law_whole an_law_whole : Option Addr} {sl_law_whole : Array (Option Value)} {oc_law_whole kV_law_whole dc_law_whole pm_law_whole cd_law_whole ct_law_whole : Value}
  {od_law_marks_formed an_law_marks_formed : Option Addr} {sl_law_marks_formed : Array (Option Value)} {oc_law_marks_formed kV_law_marks_formed dc_law_marks_formed pm_law_marks_formed cd_law_marks_formed ct_law_marks_formed : Value}
  {od_law_turn an_law_turn : Option Addr} {sl_law_turn : Array (Option Value)} {oc_law_turn kV_law_turn dc_law_turn pm_law_turn cd_law_turn ct_law_turn : Value}
  {od_law_behind an_law_behind : Option Addr} {sl_law_behind : Array (Option Value)} {oc_law_behind kV_law_behind dc_law_behind pm_law_behind cd_law_behind ct_law_behind : Value}
  {od_law_end an_law_end : Option Addr} {sl_law_end : Array (Option Value)} {oc_law_end kV_law_end dc_law_end pm_law_end cd_law_end ct_law_end : Value}
  {od_mark_behind an_mark_behind : Option Addr} {sl_mark_behind : Array (Option Value)} {oc_mark_behind kV_mark_behind dc_mark_behind pm_mark_behind cd_mark_behind ct_mark_behind : Value}
  {od_branch_marks an_branch_marks : Option Addr} {sl_branch_marks : Array (Option Value)} {oc_branch_marks kV_branch_marks dc_branch_marks pm_branch_marks cd_branch_marks ct_branch_marks : Value}
  {od_legs_of an_legs_of : Option Addr} {sl_legs_of : Array (Option Value)} {oc_legs_of kV_legs_of dc_legs_of pm_legs_of cd_legs_of ct_legs_of : Value}
  {od_plus an_plus : Option Addr} {sl_plus : Array (Option Value)} {oc_plus kV_plus dc_plus pm_plus cd_plus ct_plus : Value}
  {od_times an_times : Option Addr} {sl_times : Array (Option Value)} {oc_times kV_times dc_times pm_times cd_times ct_times : Value}
  {od_tally_gain an_tally_gain : Option Addr} {sl_tally_gain : Array (Option Value)} {oc_tally_gain kV_tally_gain dc_tally_gain pm_tally_gain cd_tally_gain ct_tally_gain : Value}
  {od_tally_of an_tally_of : Option Addr} {sl_tally_of : Array (Option Value)} {oc_tally_of kV_tally_of dc_tally_of pm_tally_of cd_tally_of ct_tally_of : Value}
  {od_gain_of an_gain_of : Option Addr} {sl_gain_of : Array (Option Value)} {oc_gain_of kV_gain_of dc_gain_of pm_gain_of cd_gain_of ct_gain_of : Value}
  {od_often_enough an_often_enough : Option Addr} {sl_often_enough : Array (Option Value)} {oc_often_enough kV_often_enough dc_often_enough pm_often_enough cd_often_enough ct_often_enough : Value}
  {od_higher an_higher : Option Addr} {sl_higher : Array (Option Value)} {oc_higher kV_higher dc_higher pm_higher cd_higher ct_higher : Value}
  {od_need_ahead an_need_ahead : Option Addr} {sl_need_ahead : Array (Option Value)} {oc_need_ahead kV_need_ahead dc_need_ahead pm_need_ahead cd_need_ahead ct_need_ahead : Value}
  {od_need_of an_need_of : Option Addr} {sl_need_of : Array (Option Value)} {oc_need_of kV_need_of dc_need_of pm_need_of cd_need_of ct_need_of : Value}
  {od_need_of_one an_need_of_one : Option Addr} {sl_need_of_one : Array (Option Value)} {oc_need_of_one kV_need_of_one dc_need_of_one pm_need_of_one cd_need_of_one ct_need_of_one : Value}
  {od_gain_of_one an_gain_of_one : Option Addr} {sl_gain_of_one : Array (Option Value)} {oc_gain_of_one kV_gain_of_one dc_gain_of_one pm_gain_of_one cd_gain_of_one ct_gain_of_one : Value}
  {od_block_need an_block_need : Option Addr} {sl_block_need : Array (Option Value)} {oc_block_need kV_block_need dc_block_need pm_block_need cd_block_need ct_block_need : Value}
  {od_block_gain an_block_gain : Option Addr} {sl_block_gain : Array (Option Value)} {oc_block_gain kV_block_gain dc_block_gain pm_block_gain cd_block_gain ct_block_gain : Value}
  {od_pump an_pump : Option Addr} {sl_pump : Array (Option Value)} {oc_pump kV_pump dc_pump pm_pump cd_pump ct_pump : Value}
  {od_way_to an_way_to : Option Addr} {sl_way_to : Array (Option Value)} {oc_way_to kV_way_to dc_way_to pm_way_to cd_way_to ct_way_to : Value}
  {od_law_passed an_law_passed : Option Addr} {sl_law_passed : Array (Option Value)} {oc_law_passed kV_law_passed dc_law_passed pm_law_passed cd_law_passed ct_law_passed : Value}
  {od_law an_law : Option Addr} {sl_law : Array (Option Value)} {oc_law kV_law dc_law pm_law cd_law ct_law : Value}
  {t_MOST_SIGNS : Tok}
  {t_MOST_BEADS : Tok}
  {t_LEAST_BOWLS : Tok}
  {t_MOST_BOWLS : Tok}
  {t_MOST_DOORS : Tok}
  (aC_Net : PySem.W.nsIn K mainGlobals "Net" = some (some (.ref C_Net)))
  (aC_Tree : PySem.W.nsIn K mainGlobals "Tree" = some (some (.ref C_Tree)))
  (aC_HallError : PySem.W.nsIn K mainGlobals "HallError" = some (some (.ref C_HallError)))
  (aC_TooWide : PySem.W.nsIn K mainGlobals "TooWide" = some (some (.ref C_TooWide)))
  (aC_NoGo : PySem.W.nsIn K mainGlobals "NoGo" = some (some (.ref C_NoGo)))
  (a_is_name : PySem.W.nsIn K mainGlobals "is_name" = some (some (.ref f_is_name)))
  (l_is_name : K.lookup f_is_name = some ⟨oc_is_name, od_is_name, .func (PySem.W.fnOf "is_name" "is_name" (defArgs s_is_name) (defBody s_is_name) (defScope s_is_name) .none kV_is_name dc_is_name pm_is_name an_is_name cd_is_name ct_is_name), sl_is_name⟩)
  (c_is_name : PySem.W.codeIn K cd_is_name "is_name" = true)
  (k_is_name : PySem.W.keepIn K (.ref f_is_name) = true)
  (a_refuse_bad_names : PySem.W.nsIn K mainGlobals "refuse_bad_names" = some (some (.ref f_refuse_bad_names)))
  (l_refuse_bad_names : K.lookup f_refuse_bad_names = some ⟨oc_refuse_bad_names, od_refuse_bad_names, .func (PySem.W.fnOf "refuse_bad_names" "refuse_bad_names" (defArgs s_refuse_bad_names) (defBody s_refuse_bad_names) (defScope s_refuse_bad_names) .none kV_refuse_bad_names dc_refuse_bad_names pm_refuse_bad_names an_refuse_bad_names cd_refuse_bad_names ct_refuse_bad_names), sl_refuse_bad_names⟩)
  (c_refuse_bad_names : PySem.W.codeIn K cd_refuse_bad_names "refuse_bad_names" = true)
  (k_refuse_bad_names : PySem.W.keepIn K (.ref f_refuse_bad_names) = true)
  (a_refuse_bad_bags : PySem.W.nsIn K mainGlobals "refuse_bad_bags" = some (some (.ref f_refuse_bad_bags)))
  (l_refuse_bad_bags : K.lookup f_refuse_bad_bags = some ⟨oc_refuse_bad_bags, od_refuse_bad_bags, .func (PySem.W.fnOf "refuse_bad_bags" "refuse_bad_bags" (defArgs s_refuse_bad_bags) (defBody s_refuse_bad_bags) (defScope s_refuse_bad_bags) .none kV_refuse_bad_bags dc_refuse_bad_bags pm_refuse_bad_bags an_refuse_bad_bags cd_refuse_bad_bags ct_refuse_bad_bags), sl_refuse_bad_bags⟩)
  (c_refuse_bad_bags : PySem.W.codeIn K cd_refuse_bad_bags "refuse_bad_bags" = true)
  (k_refuse_bad_bags : PySem.W.keepIn K (.ref f_refuse_bad_bags) = true)
  (a_Net_init : PySem.W.findIn K (.ref C_Net) "__init__" = some (some (.ref f_Net_init)))
  (i_Net_init : PySem.W.isFn K (.ref f_Net_init) = true)
  (l_Net_init : K.lookup f_Net_init = some ⟨oc_Net_init, od_Net_init, .func (PySem.W.fnOf "__init__" "Net.__init__" (defArgs s_Net_init) (defBody s_Net_init) (defScope s_Net_init) .none kV_Net_init dc_Net_init pm_Net_init an_Net_init cd_Net_init ct_Net_init), sl_Net_init⟩)
  (c_Net_init : PySem.W.codeIn K cd_Net_init "Net.__init__" = true)
  (k_Net_init : PySem.W.keepIn K (.ref f_Net_init) = true)
  (a_Tree_init : PySem.W.findIn K (.ref C_Tree) "__init__" = some (some (.ref f_Tree_init)))
  (i_Tree_init : PySem.W.isFn K (.ref f_Tree_init) = true)
  (l_Tree_init : K.lookup f_Tree_init = some ⟨oc_Tree_init, od_Tree_init, .func (PySem.W.fnOf "__init__" "Tree.__init__" (defArgs s_Tree_init) (defBody s_Tree_init) (defScope s_Tree_init) .none kV_Tree_init dc_Tree_init pm_Tree_init an_Tree_init cd_Tree_init ct_Tree_init), sl_Tree_init⟩)
  (c_Tree_init : PySem.W.codeIn K cd_Tree_init "Tree.__init__" = true)
  (k_Tree_init : PySem.W.keepIn K (.ref f_Tree_init) = true)
  (a_law_made : PySem.W.nsIn K mainGlobals "_law_made" = some (some (.ref f_law_made)))
  (l_law_made : K.lookup f_law_made = some ⟨oc_law_made, od_law_made, .func (PySem.W.fnOf "_law_made" "_law_made" (defArgs s_law_made) (defBody s_law_made) (defScope s_law_made) .none kV_law_made dc_law_made pm_law_made an_law_made cd_law_made ct_law_made), sl_law_made⟩)
  (c_law_made : PySem.W.codeIn K cd_law_made "_law_made" = true)
  (k_law_made : PySem.W.keepIn K (.ref f_law_made) = true)
  (a_is_no_more : PySem.W.nsIn K mainGlobals "is_no_more" = some (some (.ref f_is_no_more)))
  (l_is_no_more : K.lookup f_is_no_more = some ⟨oc_is_no_more, od_is_no_more, .func (PySem.W.fnOf "is_no_more" "is_no_more" (defArgs s_is_no_more) (defBody s_is_no_more) (defScope s_is_no_more) .none kV_is_no_more dc_is_no_more pm_is_no_more an_is_no_more cd_is_no_more ct_is_no_more), sl_is_no_more⟩)
  (c_is_no_more : PySem.W.codeIn K cd_is_no_more "is_no_more" = true)
  (k_is_no_more : PySem.W.keepIn K (.ref f_is_no_more) = true)
  (a_under : PySem.W.nsIn K mainGlobals "under" = some (some (.ref f_under)))
  (l_under : K.lookup f_under = some ⟨oc_under, od_under, .func (PySem.W.fnOf "under" "under" (defArgs s_under) (defBody s_under) (defScope s_under) .none kV_under dc_under pm_under an_under cd_under ct_under), sl_under⟩)
  (c_under : PySem.W.codeIn K cd_under "under" = true)
  (k_under : PySem.W.keepIn K (.ref f_under) = true)
  (a_first_above : PySem.W.nsIn K mainGlobals "first_above" = some (some (.ref f_first_above)))
  (l_first_above : K.lookup f_first_above = some ⟨oc_first_above, od_first_above, .func (PySem.W.fnOf "first_above" "first_above" (defArgs s_first_above) (defBody s_first_above) (defScope s_first_above) .none kV_first_above dc_first_above pm_first_above an_first_above cd_first_above ct_first_above), sl_first_above⟩)
  (c_first_above : PySem.W.codeIn K cd_first_above "first_above" = true)
  (k_first_above : PySem.W.keepIn K (.ref f_first_above) = true)
  (a_may_mark : PySem.W.nsIn K mainGlobals "may_mark" = some (some (.ref f_may_mark)))
  (l_may_mark : K.lookup f_may_mark = some ⟨oc_may_mark, od_may_mark, .func (PySem.W.fnOf "may_mark" "may_mark" (defArgs s_may_mark) (defBody s_may_mark) (defScope s_may_mark) .none kV_may_mark dc_may_mark pm_may_mark an_may_mark cd_may_mark ct_may_mark), sl_may_mark⟩)
  (c_may_mark : PySem.W.codeIn K cd_may_mark "may_mark" = true)
  (k_may_mark : PySem.W.keepIn K (.ref f_may_mark) = true)
  (a_upward : PySem.W.nsIn K mainGlobals "upward" = some (some (.ref f_upward)))
  (l_upward : K.lookup f_upward = some ⟨oc_upward, od_upward, .func (PySem.W.fnOf "upward" "upward" (defArgs s_upward) (defBody s_upward) (defScope s_upward) .none kV_upward dc_upward pm_upward an_upward cd_upward ct_upward), sl_upward⟩)
  (c_upward : PySem.W.codeIn K cd_upward "upward" = true)
  (k_upward : PySem.W.keepIn K (.ref f_upward) = true)
  (a_raised : PySem.W.nsIn K mainGlobals "raised" = some (some (.ref f_raised)))
  (l_raised : K.lookup f_raised = some ⟨oc_raised, od_raised, .func (PySem.W.fnOf "raised" "raised" (defArgs s_raised) (defBody s_raised) (defScope s_raised) .none kV_raised dc_raised pm_raised an_raised cd_raised ct_raised), sl_raised⟩)
  (c_raised : PySem.W.codeIn K cd_raised "raised" = true)
  (k_raised : PySem.W.keepIn K (.ref f_raised) = true)
  (a_put_node : PySem.W.nsIn K mainGlobals "put_node" = some (some (.ref f_put_node)))
  (l_put_node : K.lookup f_put_node = some ⟨oc_put_node, od_put_node, .func (PySem.W.fnOf "put_node" "put_node" (defArgs s_put_node) (defBody s_put_node) (defScope s_put_node) .none kV_put_node dc_put_node pm_put_node an_put_node cd_put_node ct_put_node), sl_put_node⟩)
  (c_put_node : PySem.W.codeIn K cd_put_node "put_node" = true)
  (k_put_node : PySem.W.keepIn K (.ref f_put_node) = true)
  (a_NoGo_init : PySem.W.findIn K (.ref C_NoGo) "__init__" = some (some (.ref f_NoGo_init)))
  (i_NoGo_init : PySem.W.isFn K (.ref f_NoGo_init) = true)
  (l_NoGo_init : K.lookup f_NoGo_init = some ⟨oc_NoGo_init, od_NoGo_init, .func (PySem.W.fnOf "__init__" "NoGo.__init__" (defArgs s_NoGo_init) (defBody s_NoGo_init) (defScope s_NoGo_init) .none kV_NoGo_init dc_NoGo_init pm_NoGo_init an_NoGo_init cd_NoGo_init ct_NoGo_init), sl_NoGo_init⟩)
  (c_NoGo_init : PySem.W.codeIn K cd_NoGo_init "NoGo.__init__" = true)
  (k_NoGo_init : PySem.W.keepIn K (.ref f_NoGo_init) = true)
  (a_refuse_unlike : PySem.W.nsIn K mainGlobals "refuse_unlike" = some (some (.ref f_refuse_unlike)))
  (l_refuse_unlike : K.lookup f_refuse_unlike = some ⟨oc_refuse_unlike, od_refuse_unlike, .func (PySem.W.fnOf "refuse_unlike" "refuse_unlike" (defArgs s_refuse_unlike) (defBody s_refuse_unlike) (defScope s_refuse_unlike) .none kV_refuse_unlike dc_refuse_unlike pm_refuse_unlike an_refuse_unlike cd_refuse_unlike ct_refuse_unlike), sl_refuse_unlike⟩)
  (c_refuse_unlike : PySem.W.codeIn K cd_refuse_unlike "refuse_unlike" = true)
  (k_refuse_unlike : PySem.W.keepIn K (.ref f_refuse_unlike) = true)
  (a_less : PySem.W.nsIn K mainGlobals "less" = some (some (.ref f_less)))
  (l_less : K.lookup f_less = some ⟨oc_less, od_less, .func (PySem.W.fnOf "less" "less" (defArgs s_less) (defBody s_less) (defScope s_less) .none kV_less dc_less pm_less an_less cd_less ct_less), sl_less⟩)
  (c_less : PySem.W.codeIn K cd_less "less" = true)
  (k_less : PySem.W.keepIn K (.ref f_less) = true)
  (a_gain : PySem.W.nsIn K mainGlobals "gain" = some (some (.ref f_gain)))
  (l_gain : K.lookup f_gain = some ⟨oc_gain, od_gain, .func (PySem.W.fnOf "gain" "gain" (defArgs s_gain) (defBody s_gain) (defScope s_gain) .none kV_gain dc_gain pm_gain an_gain cd_gain ct_gain), sl_gain⟩)
  (c_gain : PySem.W.codeIn K cd_gain "gain" = true)
  (k_gain : PySem.W.keepIn K (.ref f_gain) = true)
  (a_mark_after : PySem.W.nsIn K mainGlobals "mark_after" = some (some (.ref f_mark_after)))
  (l_mark_after : K.lookup f_mark_after = some ⟨oc_mark_after, od_mark_after, .func (PySem.W.fnOf "mark_after" "mark_after" (defArgs s_mark_after) (defBody s_mark_after) (defScope s_mark_after) .none kV_mark_after dc_mark_after pm_mark_after an_mark_after cd_mark_after ct_mark_after), sl_mark_after⟩)
  (c_mark_after : PySem.W.codeIn K cd_mark_after "mark_after" = true)
  (k_mark_after : PySem.W.keepIn K (.ref f_mark_after) = true)
  (a_look_at : PySem.W.nsIn K mainGlobals "look_at" = some (some (.ref f_look_at)))
  (l_look_at : K.lookup f_look_at = some ⟨oc_look_at, od_look_at, .func (PySem.W.fnOf "look_at" "look_at" (defArgs s_look_at) (defBody s_look_at) (defScope s_look_at) .none kV_look_at dc_look_at pm_look_at an_look_at cd_look_at ct_look_at), sl_look_at⟩)
  (c_look_at : PySem.W.codeIn K cd_look_at "look_at" = true)
  (k_look_at : PySem.W.keepIn K (.ref f_look_at) = true)
  (a_grown : PySem.W.nsIn K mainGlobals "grown" = some (some (.ref f_grown)))
  (l_grown : K.lookup f_grown = some ⟨oc_grown, od_grown, .func (PySem.W.fnOf "grown" "grown" (defArgs s_grown) (defBody s_grown) (defScope s_grown) .none kV_grown dc_grown pm_grown an_grown cd_grown ct_grown), sl_grown⟩)
  (c_grown : PySem.W.codeIn K cd_grown "grown" = true)
  (k_grown : PySem.W.keepIn K (.ref f_grown) = true)
  (a_law_grown : PySem.W.nsIn K mainGlobals "_law_grown" = some (some (.ref f_law_grown)))
  (l_law_grown : K.lookup f_law_grown = some ⟨oc_law_grown, od_law_grown, .func (PySem.W.fnOf "_law_grown" "_law_grown" (defArgs s_law_grown) (defBody s_law_grown) (defScope s_law_grown) .none kV_law_grown dc_law_grown pm_law_grown an_law_grown cd_law_grown ct_law_grown), sl_law_grown⟩)
  (c_law_grown : PySem.W.codeIn K cd_law_grown "_law_grown" = true)
  (k_law_grown : PySem.W.keepIn K (.ref f_law_grown) = true)
  (a_law_tree_of : PySem.W.nsIn K mainGlobals "_law_tree_of" = some (some (.ref f_law_tree_of)))
  (l_law_tree_of : K.lookup f_law_tree_of = some ⟨oc_law_tree_of, od_law_tree_of, .func (PySem.W.fnOf "_law_tree_of" "_law_tree_of" (defArgs s_law_tree_of) (defBody s_law_tree_of) (defScope s_law_tree_of) .none kV_law_tree_of dc_law_tree_of pm_law_tree_of an_law_tree_of cd_law_tree_of ct_law_tree_of), sl_law_tree_of⟩)
  (c_law_tree_of : PySem.W.codeIn K cd_law_tree_of "_law_tree_of" = true)
  (k_law_tree_of : PySem.W.keepIn K (.ref f_law_tree_of) = true)
  (a_law_cell : PySem.W.nsIn K mainGlobals "_law_cell" = some (some (.ref f_law_cell)))
  (l_law_cell : K.lookup f_law_cell = some ⟨oc_law_cell, od_law_cell, .func (PySem.W.fnOf "_law_cell" "_law_cell" (defArgs s_law_cell) (defBody s_law_cell) (defScope s_law_cell) .none kV_law_cell dc_law_cell pm_law_cell an_law_cell cd_law_cell ct_law_cell), sl_law_cell⟩)
  (c_law_cell : PySem.W.codeIn K cd_law_cell "_law_cell" = true)
  (k_law_cell : PySem.W.keepIn K (.ref f_law_cell) = true)
  (a_law_num : PySem.W.nsIn K mainGlobals "_law_num" = some (some (.ref f_law_num)))
  (l_law_num : K.lookup f_law_num = some ⟨oc_law_num, od_law_num, .func (PySem.W.fnOf "_law_num" "_law_num" (defArgs s_law_num) (defBody s_law_num) (defScope s_law_num) .none kV_law_num dc_law_num pm_law_num an_law_num cd_law_num ct_law_num), sl_law_num⟩)
  (c_law_num : PySem.W.codeIn K cd_law_num "_law_num" = true)
  (k_law_num : PySem.W.keepIn K (.ref f_law_num) = true)
  (a_law_net : PySem.W.nsIn K mainGlobals "_law_net" = some (some (.ref f_law_net)))
  (l_law_net : K.lookup f_law_net = some ⟨oc_law_net, od_law_net, .func (PySem.W.fnOf "_law_net" "_law_net" (defArgs s_law_net) (defBody s_law_net) (defScope s_law_net) .none kV_law_net dc_law_net pm_law_net an_law_net cd_law_net ct_law_net), sl_law_net⟩)
  (c_law_net : PySem.W.codeIn K cd_law_net "_law_net" = true)
  (k_law_net : PySem.W.keepIn K (.ref f_law_net) = true)
  (a_is_outermost : PySem.W.nsIn K mainGlobals "is_outermost" = some (some (.ref f_is_outermost)))
  (l_is_outermost : K.lookup f_is_outermost = some ⟨oc_is_outermost, od_is_outermost, .func (PySem.W.fnOf "is_outermost" "is_outermost" (defArgs s_is_outermost) (defBody s_is_outermost) (defScope s_is_outermost) .none kV_is_outermost dc_is_outermost pm_is_outermost an_is_outermost cd_is_outermost ct_is_outermost), sl_is_outermost⟩)
  (c_is_outermost : PySem.W.codeIn K cd_is_outermost "is_outermost" = true)
  (k_is_outermost : PySem.W.keepIn K (.ref f_is_outermost) = true)
  (a_outermost : PySem.W.nsIn K mainGlobals "outermost" = some (some (.ref f_outermost)))
  (l_outermost : K.lookup f_outermost = some ⟨oc_outermost, od_outermost, .func (PySem.W.fnOf "outermost" "outermost" (defArgs s_outermost) (defBody s_outermost) (defScope s_outermost) .none kV_outermost dc_outermost pm_outermost an_outermost cd_outermost ct_outermost), sl_outermost⟩)
  (c_outermost : PySem.W.codeIn K cd_outermost "outermost" = true)
  (k_outermost : PySem.W.keepIn K (.ref f_outermost) = true)
  (a_peak_marks : PySem.W.nsIn K mainGlobals "peak_marks" = some (some (.ref f_peak_marks)))
  (l_peak_marks : K.lookup f_peak_marks = some ⟨oc_peak_marks, od_peak_marks, .func (PySem.W.fnOf "peak_marks" "peak_marks" (defArgs s_peak_marks) (defBody s_peak_marks) (defScope s_peak_marks) .none kV_peak_marks dc_peak_marks pm_peak_marks an_peak_marks cd_peak_marks ct_peak_marks), sl_peak_marks⟩)
  (c_peak_marks : PySem.W.codeIn K cd_peak_marks "peak_marks" = true)
  (k_peak_marks : PySem.W.keepIn K (.ref f_peak_marks) = true)
  (a_fence : PySem.W.nsIn K mainGlobals "fence" = some (some (.ref f_fence)))
  (l_fence : K.lookup f_fence = some ⟨oc_fence, od_fence, .func (PySem.W.fnOf "fence" "fence" (defArgs s_fence) (defBody s_fence) (defScope s_fence) .none kV_fence dc_fence pm_fence an_fence cd_fence ct_fence), sl_fence⟩)
  (c_fence : PySem.W.codeIn K cd_fence "fence" = true)
  (k_fence : PySem.W.keepIn K (.ref f_fence) = true)
  (a_law_whole : PySem.W.nsIn K mainGlobals "_law_whole" = some (some (.ref f_law_whole)))
  (l_law_whole : K.lookup f_law_whole = some ⟨oc_law_whole, od_law_whole, .func (PySem.W.fnOf "_law_whole" "_law_whole" (defArgs s_law_whole) (defBody s_law_whole) (defScope s_law_whole) .none kV_law_whole dc_law_whole pm_law_whole an_law_whole cd_law_whole ct_law_whole), sl_law_whole⟩)
  (c_law_whole : PySem.W.codeIn K cd_law_whole "_law_whole" = true)
  (k_law_whole : PySem.W.keepIn K (.ref f_law_whole) = true)
  (a_law_marks_formed : PySem.W.nsIn K mainGlobals "_law_marks_formed" = some (some (.ref f_law_marks_formed)))
  (l_law_marks_formed : K.lookup f_law_marks_formed = some ⟨oc_law_marks_formed, od_law_marks_formed, .func (PySem.W.fnOf "_law_marks_formed" "_law_marks_formed" (defArgs s_law_marks_formed) (defBody s_law_marks_formed) (defScope s_law_marks_formed) .none kV_law_marks_formed dc_law_marks_formed pm_law_marks_formed an_law_marks_formed cd_law_marks_formed ct_law_marks_formed), sl_law_marks_formed⟩)
  (c_law_marks_formed : PySem.W.codeIn K cd_law_marks_formed "_law_marks_formed" = true)
  (k_law_marks_formed : PySem.W.keepIn K (.ref f_law_marks_formed) = true)
  (a_law_turn : PySem.W.nsIn K mainGlobals "_law_turn" = some (some (.ref f_law_turn)))
  (l_law_turn : K.lookup f_law_turn = some ⟨oc_law_turn, od_law_turn, .func (PySem.W.fnOf "_law_turn" "_law_turn" (defArgs s_law_turn) (defBody s_law_turn) (defScope s_law_turn) .none kV_law_turn dc_law_turn pm_law_turn an_law_turn cd_law_turn ct_law_turn), sl_law_turn⟩)
  (c_law_turn : PySem.W.codeIn K cd_law_turn "_law_turn" = true)
  (k_law_turn : PySem.W.keepIn K (.ref f_law_turn) = true)
  (a_law_behind : PySem.W.nsIn K mainGlobals "_law_behind" = some (some (.ref f_law_behind)))
  (l_law_behind : K.lookup f_law_behind = some ⟨oc_law_behind, od_law_behind, .func (PySem.W.fnOf "_law_behind" "_law_behind" (defArgs s_law_behind) (defBody s_law_behind) (defScope s_law_behind) .none kV_law_behind dc_law_behind pm_law_behind an_law_behind cd_law_behind ct_law_behind), sl_law_behind⟩)
  (c_law_behind : PySem.W.codeIn K cd_law_behind "_law_behind" = true)
  (k_law_behind : PySem.W.keepIn K (.ref f_law_behind) = true)
  (a_law_end : PySem.W.nsIn K mainGlobals "_law_end" = some (some (.ref f_law_end)))
  (l_law_end : K.lookup f_law_end = some ⟨oc_law_end, od_law_end, .func (PySem.W.fnOf "_law_end" "_law_end" (defArgs s_law_end) (defBody s_law_end) (defScope s_law_end) .none kV_law_end dc_law_end pm_law_end an_law_end cd_law_end ct_law_end), sl_law_end⟩)
  (c_law_end : PySem.W.codeIn K cd_law_end "_law_end" = true)
  (k_law_end : PySem.W.keepIn K (.ref f_law_end) = true)
  (a_mark_behind : PySem.W.nsIn K mainGlobals "mark_behind" = some (some (.ref f_mark_behind)))
  (l_mark_behind : K.lookup f_mark_behind = some ⟨oc_mark_behind, od_mark_behind, .func (PySem.W.fnOf "mark_behind" "mark_behind" (defArgs s_mark_behind) (defBody s_mark_behind) (defScope s_mark_behind) .none kV_mark_behind dc_mark_behind pm_mark_behind an_mark_behind cd_mark_behind ct_mark_behind), sl_mark_behind⟩)
  (c_mark_behind : PySem.W.codeIn K cd_mark_behind "mark_behind" = true)
  (k_mark_behind : PySem.W.keepIn K (.ref f_mark_behind) = true)
  (a_branch_marks : PySem.W.nsIn K mainGlobals "branch_marks" = some (some (.ref f_branch_marks)))
  (l_branch_marks : K.lookup f_branch_marks = some ⟨oc_branch_marks, od_branch_marks, .func (PySem.W.fnOf "branch_marks" "branch_marks" (defArgs s_branch_marks) (defBody s_branch_marks) (defScope s_branch_marks) .none kV_branch_marks dc_branch_marks pm_branch_marks an_branch_marks cd_branch_marks ct_branch_marks), sl_branch_marks⟩)
  (c_branch_marks : PySem.W.codeIn K cd_branch_marks "branch_marks" = true)
  (k_branch_marks : PySem.W.keepIn K (.ref f_branch_marks) = true)
  (a_legs_of : PySem.W.nsIn K mainGlobals "legs_of" = some (some (.ref f_legs_of)))
  (l_legs_of : K.lookup f_legs_of = some ⟨oc_legs_of, od_legs_of, .func (PySem.W.fnOf "legs_of" "legs_of" (defArgs s_legs_of) (defBody s_legs_of) (defScope s_legs_of) .none kV_legs_of dc_legs_of pm_legs_of an_legs_of cd_legs_of ct_legs_of), sl_legs_of⟩)
  (c_legs_of : PySem.W.codeIn K cd_legs_of "legs_of" = true)
  (k_legs_of : PySem.W.keepIn K (.ref f_legs_of) = true)
  (a_plus : PySem.W.nsIn K mainGlobals "plus" = some (some (.ref f_plus)))
  (l_plus : K.lookup f_plus = some ⟨oc_plus, od_plus, .func (PySem.W.fnOf "plus" "plus" (defArgs s_plus) (defBody s_plus) (defScope s_plus) .none kV_plus dc_plus pm_plus an_plus cd_plus ct_plus), sl_plus⟩)
  (c_plus : PySem.W.codeIn K cd_plus "plus" = true)
  (k_plus : PySem.W.keepIn K (.ref f_plus) = true)
  (a_times : PySem.W.nsIn K mainGlobals "times" = some (some (.ref f_times)))
  (l_times : K.lookup f_times = some ⟨oc_times, od_times, .func (PySem.W.fnOf "times" "times" (defArgs s_times) (defBody s_times) (defScope s_times) .none kV_times dc_times pm_times an_times cd_times ct_times), sl_times⟩)
  (c_times : PySem.W.codeIn K cd_times "times" = true)
  (k_times : PySem.W.keepIn K (.ref f_times) = true)
  (a_tally_gain : PySem.W.nsIn K mainGlobals "tally_gain" = some (some (.ref f_tally_gain)))
  (l_tally_gain : K.lookup f_tally_gain = some ⟨oc_tally_gain, od_tally_gain, .func (PySem.W.fnOf "tally_gain" "tally_gain" (defArgs s_tally_gain) (defBody s_tally_gain) (defScope s_tally_gain) .none kV_tally_gain dc_tally_gain pm_tally_gain an_tally_gain cd_tally_gain ct_tally_gain), sl_tally_gain⟩)
  (c_tally_gain : PySem.W.codeIn K cd_tally_gain "tally_gain" = true)
  (k_tally_gain : PySem.W.keepIn K (.ref f_tally_gain) = true)
  (a_tally_of : PySem.W.nsIn K mainGlobals "tally_of" = some (some (.ref f_tally_of)))
  (l_tally_of : K.lookup f_tally_of = some ⟨oc_tally_of, od_tally_of, .func (PySem.W.fnOf "tally_of" "tally_of" (defArgs s_tally_of) (defBody s_tally_of) (defScope s_tally_of) .none kV_tally_of dc_tally_of pm_tally_of an_tally_of cd_tally_of ct_tally_of), sl_tally_of⟩)
  (c_tally_of : PySem.W.codeIn K cd_tally_of "tally_of" = true)
  (k_tally_of : PySem.W.keepIn K (.ref f_tally_of) = true)
  (a_gain_of : PySem.W.nsIn K mainGlobals "gain_of" = some (some (.ref f_gain_of)))
  (l_gain_of : K.lookup f_gain_of = some ⟨oc_gain_of, od_gain_of, .func (PySem.W.fnOf "gain_of" "gain_of" (defArgs s_gain_of) (defBody s_gain_of) (defScope s_gain_of) .none kV_gain_of dc_gain_of pm_gain_of an_gain_of cd_gain_of ct_gain_of), sl_gain_of⟩)
  (c_gain_of : PySem.W.codeIn K cd_gain_of "gain_of" = true)
  (k_gain_of : PySem.W.keepIn K (.ref f_gain_of) = true)
  (a_often_enough : PySem.W.nsIn K mainGlobals "often_enough" = some (some (.ref f_often_enough)))
  (l_often_enough : K.lookup f_often_enough = some ⟨oc_often_enough, od_often_enough, .func (PySem.W.fnOf "often_enough" "often_enough" (defArgs s_often_enough) (defBody s_often_enough) (defScope s_often_enough) .none kV_often_enough dc_often_enough pm_often_enough an_often_enough cd_often_enough ct_often_enough), sl_often_enough⟩)
  (c_often_enough : PySem.W.codeIn K cd_often_enough "often_enough" = true)
  (k_often_enough : PySem.W.keepIn K (.ref f_often_enough) = true)
  (a_higher : PySem.W.nsIn K mainGlobals "higher" = some (some (.ref f_higher)))
  (l_higher : K.lookup f_higher = some ⟨oc_higher, od_higher, .func (PySem.W.fnOf "higher" "higher" (defArgs s_higher) (defBody s_higher) (defScope s_higher) .none kV_higher dc_higher pm_higher an_higher cd_higher ct_higher), sl_higher⟩)
  (c_higher : PySem.W.codeIn K cd_higher "higher" = true)
  (k_higher : PySem.W.keepIn K (.ref f_higher) = true)
  (a_need_ahead : PySem.W.nsIn K mainGlobals "need_ahead" = some (some (.ref f_need_ahead)))
  (l_need_ahead : K.lookup f_need_ahead = some ⟨oc_need_ahead, od_need_ahead, .func (PySem.W.fnOf "need_ahead" "need_ahead" (defArgs s_need_ahead) (defBody s_need_ahead) (defScope s_need_ahead) .none kV_need_ahead dc_need_ahead pm_need_ahead an_need_ahead cd_need_ahead ct_need_ahead), sl_need_ahead⟩)
  (c_need_ahead : PySem.W.codeIn K cd_need_ahead "need_ahead" = true)
  (k_need_ahead : PySem.W.keepIn K (.ref f_need_ahead) = true)
  (a_need_of : PySem.W.nsIn K mainGlobals "need_of" = some (some (.ref f_need_of)))
  (l_need_of : K.lookup f_need_of = some ⟨oc_need_of, od_need_of, .func (PySem.W.fnOf "need_of" "need_of" (defArgs s_need_of) (defBody s_need_of) (defScope s_need_of) .none kV_need_of dc_need_of pm_need_of an_need_of cd_need_of ct_need_of), sl_need_of⟩)
  (c_need_of : PySem.W.codeIn K cd_need_of "need_of" = true)
  (k_need_of : PySem.W.keepIn K (.ref f_need_of) = true)
  (a_need_of_one : PySem.W.nsIn K mainGlobals "need_of_one" = some (some (.ref f_need_of_one)))
  (l_need_of_one : K.lookup f_need_of_one = some ⟨oc_need_of_one, od_need_of_one, .func (PySem.W.fnOf "need_of_one" "need_of_one" (defArgs s_need_of_one) (defBody s_need_of_one) (defScope s_need_of_one) .none kV_need_of_one dc_need_of_one pm_need_of_one an_need_of_one cd_need_of_one ct_need_of_one), sl_need_of_one⟩)
  (c_need_of_one : PySem.W.codeIn K cd_need_of_one "need_of_one" = true)
  (k_need_of_one : PySem.W.keepIn K (.ref f_need_of_one) = true)
  (a_gain_of_one : PySem.W.nsIn K mainGlobals "gain_of_one" = some (some (.ref f_gain_of_one)))
  (l_gain_of_one : K.lookup f_gain_of_one = some ⟨oc_gain_of_one, od_gain_of_one, .func (PySem.W.fnOf "gain_of_one" "gain_of_one" (defArgs s_gain_of_one) (defBody s_gain_of_one) (defScope s_gain_of_one) .none kV_gain_of_one dc_gain_of_one pm_gain_of_one an_gain_of_one cd_gain_of_one ct_gain_of_one), sl_gain_of_one⟩)
  (c_gain_of_one : PySem.W.codeIn K cd_gain_of_one "gain_of_one" = true)
  (k_gain_of_one : PySem.W.keepIn K (.ref f_gain_of_one) = true)
  (a_block_need : PySem.W.nsIn K mainGlobals "block_need" = some (some (.ref f_block_need)))
  (l_block_need : K.lookup f_block_need = some ⟨oc_block_need, od_block_need, .func (PySem.W.fnOf "block_need" "block_need" (defArgs s_block_need) (defBody s_block_need) (defScope s_block_need) .none kV_block_need dc_block_need pm_block_need an_block_need cd_block_need ct_block_need), sl_block_need⟩)
  (c_block_need : PySem.W.codeIn K cd_block_need "block_need" = true)
  (k_block_need : PySem.W.keepIn K (.ref f_block_need) = true)
  (a_block_gain : PySem.W.nsIn K mainGlobals "block_gain" = some (some (.ref f_block_gain)))
  (l_block_gain : K.lookup f_block_gain = some ⟨oc_block_gain, od_block_gain, .func (PySem.W.fnOf "block_gain" "block_gain" (defArgs s_block_gain) (defBody s_block_gain) (defScope s_block_gain) .none kV_block_gain dc_block_gain pm_block_gain an_block_gain cd_block_gain ct_block_gain), sl_block_gain⟩)
  (c_block_gain : PySem.W.codeIn K cd_block_gain "block_gain" = true)
  (k_block_gain : PySem.W.keepIn K (.ref f_block_gain) = true)
  (a_pump : PySem.W.nsIn K mainGlobals "pump" = some (some (.ref f_pump)))
  (l_pump : K.lookup f_pump = some ⟨oc_pump, od_pump, .func (PySem.W.fnOf "pump" "pump" (defArgs s_pump) (defBody s_pump) (defScope s_pump) .none kV_pump dc_pump pm_pump an_pump cd_pump ct_pump), sl_pump⟩)
  (c_pump : PySem.W.codeIn K cd_pump "pump" = true)
  (k_pump : PySem.W.keepIn K (.ref f_pump) = true)
  (a_way_to : PySem.W.nsIn K mainGlobals "way_to" = some (some (.ref f_way_to)))
  (l_way_to : K.lookup f_way_to = some ⟨oc_way_to, od_way_to, .func (PySem.W.fnOf "way_to" "way_to" (defArgs s_way_to) (defBody s_way_to) (defScope s_way_to) .none kV_way_to dc_way_to pm_way_to an_way_to cd_way_to ct_way_to), sl_way_to⟩)
  (c_way_to : PySem.W.codeIn K cd_way_to "way_to" = true)
  (k_way_to : PySem.W.keepIn K (.ref f_way_to) = true)
  (a_law_passed : PySem.W.nsIn K mainGlobals "_law_passed" = some (some (.ref f_law_passed)))
  (l_law_passed : K.lookup f_law_passed = some ⟨oc_law_passed, od_law_passed, .func (PySem.W.fnOf "_law_passed" "_law_passed" (defArgs s_law_passed) (defBody s_law_passed) (defScope s_law_passed) .none kV_law_passed dc_law_passed pm_law_passed an_law_passed cd_law_passed ct_law_passed), sl_law_passed⟩)
  (c_law_passed : PySem.W.codeIn K cd_law_passed "_law_passed" = true)
  (k_law_passed : PySem.W.keepIn K (.ref f_law_passed) = true)
  (a_law : PySem.W.nsIn K mainGlobals "law" = some (some (.ref f_law)))
  (l_law : K.lookup f_law = some ⟨oc_law, od_law, .func (PySem.W.fnOf "law" "law" (defArgs s_law) (defBody s_law) (defScope s_law) .none kV_law dc_law pm_law an_law cd_law ct_law), sl_law⟩)
  (c_law : PySem.W.codeIn K cd_law "law" = true)
  (k_law : PySem.W.keepIn K (.ref f_law) = true)
  (pg_Net : PySem.W.plainGet K C_Net Str.empty = true)
  (hd_Net : PySem.W.hasDictIn K C_Net = true)
  (po_Net : PySem.W.plainOver K C_Net = true)
  (sa_Net : PySem.W.findIn K (.ref C_Net) "__setattr__" = some (some (.builtin "object.__setattr__")))
  (mk_Net : PySem.W.makesIn K C_Net = true)
  (kc_Net : PySem.W.keepIn K (.ref C_Net) = true)
  (n_Net_bowls : PySem.W.findIn K (.ref C_Net) "bowls" = some none)
  (n_Net_doors : PySem.W.findIn K (.ref C_Net) "doors" = some none)
  (n_Net_takes : PySem.W.findIn K (.ref C_Net) "takes" = some none)
  (n_Net_gives : PySem.W.findIn K (.ref C_Net) "gives" = some none)
  (n_Net_first : PySem.W.findIn K (.ref C_Net) "first" = some none)
  (pg_Tree : PySem.W.plainGet K C_Tree Str.empty = true)
  (hd_Tree : PySem.W.hasDictIn K C_Tree = true)
  (po_Tree : PySem.W.plainOver K C_Tree = true)
  (sa_Tree : PySem.W.findIn K (.ref C_Tree) "__setattr__" = some (some (.builtin "object.__setattr__")))
  (mk_Tree : PySem.W.makesIn K C_Tree = true)
  (kc_Tree : PySem.W.keepIn K (.ref C_Tree) = true)
  (n_Tree_marks : PySem.W.findIn K (.ref C_Tree) "marks" = some none)
  (n_Tree_parents : PySem.W.findIn K (.ref C_Tree) "parents" = some none)
  (n_Tree_comers : PySem.W.findIn K (.ref C_Tree) "comers" = some none)
  (n_Tree_loops : PySem.W.findIn K (.ref C_Tree) "loops" = some none)
  (n_Tree_above : PySem.W.findIn K (.ref C_Tree) "above" = some none)
  (ec_HallError : ecIn K C_HallError excMro = true)
  (xp_HallError : ((PySem.W.clsIn K C_HallError).map (·.ns)).bind (fun N => PySem.W.nsIn K N "__init__") = some none)
  (ec_TooWide : ecIn K C_TooWide (.ref C_HallError :: excMro) = true)
  (xp_TooWide : ((PySem.W.clsIn K C_TooWide).map (·.ns)).bind (fun N => PySem.W.nsIn K N "__init__") = some none)
  (ec_NoGo : ecIn K C_NoGo (.ref C_HallError :: excMro) = true)
  (xsa_NoGo : PySem.W.findIn K (.ref C_NoGo) "__setattr__" = some (some (.builtin "object.__setattr__")))
  (xhd_NoGo : PySem.W.hasDictIn K C_NoGo = true)
  (kc_NoGo : PySem.W.keepIn K (.ref C_NoGo) = true)
  (xt_at_NoGo : PySem.W.findIn K (.ref C_NoGo) "at" = some none)
  (xbg : PySem.W.specialIn K (.ref C_HallError) "__getattribute__" = some (some (.builtin "type.__getattribute__")))
  (xbr : PySem.W.readsIn K C_HallError (.type "type") = true)
  (xbf : PySem.W.findCls K (.ref C_HallError) (.type "type") "__init__" = some (.val (.builtin "ValueError.__init__")))
  (g_MOST_SIGNS : PySem.W.nsIn K mainGlobals "MOST_SIGNS" = some (some (.int 8 t_MOST_SIGNS)))
  (g_MOST_BEADS : PySem.W.nsIn K mainGlobals "MOST_BEADS" = some (some (.int 1000000000 t_MOST_BEADS)))
  (g_LEAST_BOWLS : PySem.W.nsIn K mainGlobals "LEAST_BOWLS" = some (some (.int 1 t_LEAST_BOWLS)))
  (g_MOST_BOWLS : PySem.W.nsIn K mainGlobals "MOST_BOWLS" = some (some (.int 6 t_MOST_BOWLS)))
  (g_MOST_DOORS : PySem.W.nsIn K mainGlobals "MOST_DOORS" = some (some (.int 8 t_MOST_DOORS)))
  (z_len : PySem.W.nsIn K mainGlobals "len" = some none)
  (z_all : PySem.W.nsIn K mainGlobals "all" = some none)
  (z_set : PySem.W.nsIn K mainGlobals "set" = some none)
  (z_list : PySem.W.nsIn K mainGlobals "list" = some none)
  (z_zip : PySem.W.nsIn K mainGlobals "zip" = some none)
  (z_range : PySem.W.nsIn K mainGlobals "range" = some none)
  (z_isinstance : PySem.W.nsIn K mainGlobals "isinstance" = some none)
  (z_int : PySem.W.nsIn K mainGlobals "int" = some none)
  (z_bool : PySem.W.nsIn K mainGlobals "bool" = some none)
  (z_max : PySem.W.nsIn K mainGlobals "max" = some none)
  (z_tuple : PySem.W.nsIn K mainGlobals "tuple" = some none)
  (z_enumerate : PySem.W.nsIn K mainGlobals "enumerate" = some none)
  (z_reversed : PySem.W.nsIn K mainGlobals "reversed" = some none)
  : ∃ fd : FuncData, (∀ (s : Shared) (v : Value), BindsTo s fd ⟨[v], []⟩ [("script", v)]) ∧ ∀ base : Heap, K.In base → base.Ns mainGlobals mg → FnOk l.prog w K mg base CX0 12 fa fd ["script"] (sp_law K) := by
 have e:=hfa.symm.trans (PySem.W.mg_of X G a_law)
 cases e
 have F_is_name:=fun_mk (st:=s_is_name) l_is_name c_is_name k_is_name
 have b_is_name := F_is_name.binds (ps := ["word"]) fun _ _ _ _ _ _ us hl => by obtain ⟨_, rfl⟩ := ex_1 hl; rfl
 have F_refuse_bad_names:=fun_mk (st:=s_refuse_bad_names) l_refuse_bad_names c_refuse_bad_names k_refuse_bad_names
 have b_refuse_bad_names := F_refuse_bad_names.binds (ps := ["names", "least", "most"]) fun _ _ _ _ _ _ us hl => by obtain ⟨_, _, _, rfl⟩ := ex_3 hl; rfl
 have F_refuse_bad_bags:=fun_mk (st:=s_refuse_bad_bags) l_refuse_bad_bags c_refuse_bad_bags k_refuse_bad_bags
 have b_refuse_bad_bags := F_refuse_bad_bags.binds (ps := ["bags", "many", "width"]) fun _ _ _ _ _ _ us hl => by obtain ⟨_, _, _, rfl⟩ := ex_3 hl; rfl
 have F_Net_init:=fun_mk (st:=s_Net_init) l_Net_init c_Net_init k_Net_init
 have b_Net_init := F_Net_init.binds (ps := ["self", "bowls", "doors", "takes", "gives", "first"]) fun _ _ _ _ _ _ us hl => by obtain ⟨_, _, _, _, _, _, rfl⟩ := ex_6 hl; rfl
 have F_Tree_init:=fun_mk (st:=s_Tree_init) l_Tree_init c_Tree_init k_Tree_init
 have b_Tree_init := F_Tree_init.binds (ps := ["self", "first"]) fun _ _ _ _ _ _ us hl => by obtain ⟨_, _, rfl⟩ := ex_2 hl; rfl
 have F_law_made:=fun_mk (st:=s_law_made) l_law_made c_law_made k_law_made
 have b_law_made := F_law_made.binds (ps := ["plan"]) fun _ _ _ _ _ _ us hl => by obtain ⟨_, rfl⟩ := ex_1 hl; rfl
 have F_is_no_more:=fun_mk (st:=s_is_no_more) l_is_no_more c_is_no_more k_is_no_more
 have b_is_no_more := F_is_no_more.binds (ps := ["number", "bound"]) fun _ _ _ _ _ _ us hl => by obtain ⟨_, _, rfl⟩ := ex_2 hl; rfl
 have F_under:=fun_mk (st:=s_under) l_under c_under k_under
 have b_under := F_under.binds (ps := ["low", "high"]) fun _ _ _ _ _ _ us hl => by obtain ⟨_, _, rfl⟩ := ex_2 hl; rfl
 have F_first_above:=fun_mk (st:=s_first_above) l_first_above c_first_above k_first_above
 have b_first_above := F_first_above.binds (ps := ["tree", "node"]) fun _ _ _ _ _ _ us hl => by obtain ⟨_, _, rfl⟩ := ex_2 hl; rfl
 have F_may_mark:=fun_mk (st:=s_may_mark) l_may_mark c_may_mark k_may_mark
 have b_may_mark := F_may_mark.binds (ps := ["net", "mark", "door"]) fun _ _ _ _ _ _ us hl => by obtain ⟨_, _, _, rfl⟩ := ex_3 hl; rfl
 have F_upward:=fun_mk (st:=s_upward) l_upward c_upward k_upward
 have b_upward := F_upward.binds (ps := ["tree", "node"]) fun _ _ _ _ _ _ us hl => by obtain ⟨_, _, rfl⟩ := ex_2 hl; rfl
 have F_raised:=fun_mk (st:=s_raised) l_raised c_raised k_raised
 have b_raised := F_raised.binds (ps := ["low", "mark"]) fun _ _ _ _ _ _ us hl => by obtain ⟨_, _, rfl⟩ := ex_2 hl; rfl
 have F_put_node:=fun_mk (st:=s_put_node) l_put_node c_put_node k_put_node
 have b_put_node := F_put_node.binds (ps := ["tree", "parent", "door", "mark", "room"]) fun _ _ _ _ _ _ us hl => by obtain ⟨_, _, _, _, _, rfl⟩ := ex_5 hl; rfl
 have F_NoGo_init:=fun_mk (st:=s_NoGo_init) l_NoGo_init c_NoGo_init k_NoGo_init
 have b_NoGo_init := F_NoGo_init.binds (ps := ["self", "words", "at"]) fun _ _ _ _ _ _ us hl => by obtain ⟨_, _, _, rfl⟩ := ex_3 hl; rfl
 have F_refuse_unlike:=fun_mk (st:=s_refuse_unlike) l_refuse_unlike c_refuse_unlike k_refuse_unlike
 have b_refuse_unlike := F_refuse_unlike.binds (ps := ["ones", "others"]) fun _ _ _ _ _ _ us hl => by obtain ⟨_, _, rfl⟩ := ex_2 hl; rfl
 have F_less:=fun_mk (st:=s_less) l_less c_less k_less
 have b_less := F_less.binds (ps := ["ones", "others"]) fun _ _ _ _ _ _ us hl => by obtain ⟨_, _, rfl⟩ := ex_2 hl; rfl
 have F_gain:=fun_mk (st:=s_gain) l_gain c_gain k_gain
 have b_gain := F_gain.binds (ps := ["net", "door"]) fun _ _ _ _ _ _ us hl => by obtain ⟨_, _, rfl⟩ := ex_2 hl; rfl
 have F_mark_after:=fun_mk (st:=s_mark_after) l_mark_after c_mark_after k_mark_after
 have b_mark_after := F_mark_after.binds (ps := ["net", "mark", "door"]) fun _ _ _ _ _ _ us hl => by obtain ⟨_, _, _, rfl⟩ := ex_3 hl; rfl
 have F_look_at:=fun_mk (st:=s_look_at) l_look_at c_look_at k_look_at
 have b_look_at := F_look_at.binds (ps := ["net", "tree", "node", "room"]) fun _ _ _ _ _ _ us hl => by obtain ⟨_, _, _, _, rfl⟩ := ex_4 hl; rfl
 have F_grown:=fun_mk (st:=s_grown) l_grown c_grown k_grown
 have b_grown := F_grown.binds (ps := ["net", "room"]) fun _ _ _ _ _ _ us hl => by obtain ⟨_, _, rfl⟩ := ex_2 hl; rfl
 have F_law_grown:=fun_mk (st:=s_law_grown) l_law_grown c_law_grown k_law_grown
 have b_law_grown := F_law_grown.binds (ps := ["net", "room"]) fun _ _ _ _ _ _ us hl => by obtain ⟨_, _, rfl⟩ := ex_2 hl; rfl
 have F_law_tree_of:=fun_mk (st:=s_law_tree_of) l_law_tree_of c_law_tree_of k_law_tree_of
 have b_law_tree_of := F_law_tree_of.binds (ps := ["plan", "room"]) fun _ _ _ _ _ _ us hl => by obtain ⟨_, _, rfl⟩ := ex_2 hl; rfl
 have F_law_cell:=fun_mk (st:=s_law_cell) l_law_cell c_law_cell k_law_cell
 have b_law_cell := F_law_cell.binds (ps := ["script", "k"]) fun _ _ _ _ _ _ us hl => by obtain ⟨_, _, rfl⟩ := ex_2 hl; rfl
 have F_law_num:=fun_mk (st:=s_law_num) l_law_num c_law_num k_law_num
 have b_law_num := F_law_num.binds (ps := ["script", "k"]) fun _ _ _ _ _ _ us hl => by obtain ⟨_, _, rfl⟩ := ex_2 hl; rfl
 have F_law_net:=fun_mk (st:=s_law_net) l_law_net c_law_net k_law_net
 have b_law_net := F_law_net.binds (ps := ["script"]) fun _ _ _ _ _ _ us hl => by obtain ⟨_, rfl⟩ := ex_1 hl; rfl
 have F_is_outermost:=fun_mk (st:=s_is_outermost) l_is_outermost c_is_outermost k_is_outermost
 have b_is_outermost := F_is_outermost.binds (ps := ["row", "rows", "lies"]) fun _ _ _ _ _ _ us hl => by obtain ⟨_, _, _, rfl⟩ := ex_3 hl; rfl
 have F_outermost:=fun_mk (st:=s_outermost) l_outermost c_outermost k_outermost
 have b_outermost := F_outermost.binds (ps := ["rows", "lies"]) fun _ _ _ _ _ _ us hl => by obtain ⟨_, _, rfl⟩ := ex_2 hl; rfl
 have F_peak_marks:=fun_mk (st:=s_peak_marks) l_peak_marks c_peak_marks k_peak_marks
 have b_peak_marks := F_peak_marks.binds (ps := ["marks"]) fun _ _ _ _ _ _ us hl => by obtain ⟨_, rfl⟩ := ex_1 hl; rfl
 have F_fence:=fun_mk (st:=s_fence) l_fence c_fence k_fence
 have b_fence := F_fence.binds (ps := ["tree"]) fun _ _ _ _ _ _ us hl => by obtain ⟨_, rfl⟩ := ex_1 hl; rfl
 have F_law_whole:=fun_mk (st:=s_law_whole) l_law_whole c_law_whole k_law_whole
 have b_law_whole := F_law_whole.binds (ps := ["found"]) fun _ _ _ _ _ _ us hl => by obtain ⟨_, rfl⟩ := ex_1 hl; rfl
 have F_law_marks_formed:=fun_mk (st:=s_law_marks_formed) l_law_marks_formed c_law_marks_formed k_law_marks_formed
 have b_law_marks_formed := F_law_marks_formed.binds (ps := ["marks", "width"]) fun _ _ _ _ _ _ us hl => by obtain ⟨_, _, rfl⟩ := ex_2 hl; rfl
 have F_law_turn:=fun_mk (st:=s_law_turn) l_law_turn c_law_turn k_law_turn
 have b_law_turn := F_law_turn.binds (ps := ["plan", "doors"]) fun _ _ _ _ _ _ us hl => by obtain ⟨_, _, rfl⟩ := ex_2 hl; rfl
 have F_law_behind:=fun_mk (st:=s_law_behind) l_law_behind c_law_behind k_law_behind
 have b_law_behind := F_law_behind.binds (ps := ["plan", "beads", "block"]) fun _ _ _ _ _ _ us hl => by obtain ⟨_, _, _, rfl⟩ := ex_3 hl; rfl
 have F_law_end:=fun_mk (st:=s_law_end) l_law_end c_law_end k_law_end
 have b_law_end := F_law_end.binds (ps := ["plan", "blocks"]) fun _ _ _ _ _ _ us hl => by obtain ⟨_, _, rfl⟩ := ex_2 hl; rfl
 have F_mark_behind:=fun_mk (st:=s_mark_behind) l_mark_behind c_mark_behind k_mark_behind
 have b_mark_behind := F_mark_behind.binds (ps := ["net", "marks", "door", "loops"]) fun _ _ _ _ _ _ us hl => by obtain ⟨_, _, _, _, rfl⟩ := ex_4 hl; rfl
 have F_branch_marks:=fun_mk (st:=s_branch_marks) l_branch_marks c_branch_marks k_branch_marks
 have b_branch_marks := F_branch_marks.binds (ps := ["net", "branch"]) fun _ _ _ _ _ _ us hl => by obtain ⟨_, _, rfl⟩ := ex_2 hl; rfl
 have F_legs_of:=fun_mk (st:=s_legs_of) l_legs_of c_legs_of k_legs_of
 have b_legs_of := F_legs_of.binds (ps := ["net", "branch"]) fun _ _ _ _ _ _ us hl => by obtain ⟨_, _, rfl⟩ := ex_2 hl; rfl
 have F_plus:=fun_mk (st:=s_plus) l_plus c_plus k_plus
 have b_plus := F_plus.binds (ps := ["ones", "others"]) fun _ _ _ _ _ _ us hl => by obtain ⟨_, _, rfl⟩ := ex_2 hl; rfl
 have F_times:=fun_mk (st:=s_times) l_times c_times k_times
 have b_times := F_times.binds (ps := ["many", "ones"]) fun _ _ _ _ _ _ us hl => by obtain ⟨_, _, rfl⟩ := ex_2 hl; rfl
 have F_tally_gain:=fun_mk (st:=s_tally_gain) l_tally_gain c_tally_gain k_tally_gain
 have b_tally_gain := F_tally_gain.binds (ps := ["net", "tally"]) fun _ _ _ _ _ _ us hl => by obtain ⟨_, _, rfl⟩ := ex_2 hl; rfl
 have F_tally_of:=fun_mk (st:=s_tally_of) l_tally_of c_tally_of k_tally_of
 have b_tally_of := F_tally_of.binds (ps := ["net", "doors"]) fun _ _ _ _ _ _ us hl => by obtain ⟨_, _, rfl⟩ := ex_2 hl; rfl
 have F_gain_of:=fun_mk (st:=s_gain_of) l_gain_of c_gain_of k_gain_of
 have b_gain_of := F_gain_of.binds (ps := ["net", "doors"]) fun _ _ _ _ _ _ us hl => by obtain ⟨_, _, rfl⟩ := ex_2 hl; rfl
 have F_often_enough:=fun_mk (st:=s_often_enough) l_often_enough c_often_enough k_often_enough
 have b_often_enough := F_often_enough.binds (ps := ["net", "ahead", "doors", "wanted"]) fun _ _ _ _ _ _ us hl => by obtain ⟨_, _, _, _, rfl⟩ := ex_4 hl; rfl
 have F_higher:=fun_mk (st:=s_higher) l_higher c_higher k_higher
 have b_higher := F_higher.binds (ps := ["ones", "others"]) fun _ _ _ _ _ _ us hl => by obtain ⟨_, _, rfl⟩ := ex_2 hl; rfl
 have F_need_ahead:=fun_mk (st:=s_need_ahead) l_need_ahead c_need_ahead k_need_ahead
 have b_need_ahead := F_need_ahead.binds (ps := ["need", "gained", "goal"]) fun _ _ _ _ _ _ us hl => by obtain ⟨_, _, _, rfl⟩ := ex_3 hl; rfl
 have F_need_of:=fun_mk (st:=s_need_of) l_need_of c_need_of k_need_of
 have b_need_of := F_need_of.binds (ps := ["net", "doors"]) fun _ _ _ _ _ _ us hl => by obtain ⟨_, _, rfl⟩ := ex_2 hl; rfl
 have F_need_of_one:=fun_mk (st:=s_need_of_one) l_need_of_one c_need_of_one k_need_of_one
 have b_need_of_one := F_need_of_one.binds (ps := ["net", "block"]) fun _ _ _ _ _ _ us hl => by obtain ⟨_, _, rfl⟩ := ex_2 hl; rfl
 have F_gain_of_one:=fun_mk (st:=s_gain_of_one) l_gain_of_one c_gain_of_one k_gain_of_one
 have b_gain_of_one := F_gain_of_one.binds (ps := ["net", "block"]) fun _ _ _ _ _ _ us hl => by obtain ⟨_, _, rfl⟩ := ex_2 hl; rfl
 have F_block_need:=fun_mk (st:=s_block_need) l_block_need c_block_need k_block_need
 have b_block_need := F_block_need.binds (ps := ["net", "blocks"]) fun _ _ _ _ _ _ us hl => by obtain ⟨_, _, rfl⟩ := ex_2 hl; rfl
 have F_block_gain:=fun_mk (st:=s_block_gain) l_block_gain c_block_gain k_block_gain
 have b_block_gain := F_block_gain.binds (ps := ["net", "blocks"]) fun _ _ _ _ _ _ us hl => by obtain ⟨_, _, rfl⟩ := ex_2 hl; rfl
 have F_pump:=fun_mk (st:=s_pump) l_pump c_pump k_pump
 have b_pump := F_pump.binds (ps := ["net", "branch", "many"]) fun _ _ _ _ _ _ us hl => by obtain ⟨_, _, _, rfl⟩ := ex_3 hl; rfl
 have F_way_to:=fun_mk (st:=s_way_to) l_way_to c_way_to k_way_to
 have b_way_to := F_way_to.binds (ps := ["tree", "node"]) fun _ _ _ _ _ _ us hl => by obtain ⟨_, _, rfl⟩ := ex_2 hl; rfl
 have F_law_passed:=fun_mk (st:=s_law_passed) l_law_passed c_law_passed k_law_passed
 have b_law_passed := F_law_passed.binds (ps := ["plan", "net", "tree", "mark", "many"]) fun _ _ _ _ _ _ us hl => by obtain ⟨_, _, _, _, _, rfl⟩ := ex_5 hl; rfl
 have F_law:=fun_mk (st:=s_law) l_law c_law k_law
 have b_law := F_law.binds (ps := ["script"]) fun _ _ _ _ _ _ us hl => by obtain ⟨_, rfl⟩ := ex_1 hl; rfl
 have T : Txt K mg (Adr.mk _ _ _ _ _ _ _ _ _ _ _ _ _ _ _ _ _ _ _ _ _ _ _ _ _ _ _ _ _ _ _ _ _ _ _ _ _ _ _ _ _ _ _ _ _ _ _ _ _ _ _ _ _ _ _ _ _ _ _) (Fds.mk _ _ _ _ _ _ _ _ _ _ _ _ _ _ _ _ _ _ _ _ _ _ _ _ _ _ _ _ _ _ _ _ _ _ _ _ _ _ _ _ _ _ _ _ _ _ _ _ _ _ _ _ _ _):=⟨F_is_name,PySem.W.mg_of X G a_is_name,b_is_name,F_refuse_bad_names,PySem.W.mg_of X G a_refuse_bad_names,b_refuse_bad_names,F_refuse_bad_bags,PySem.W.mg_of X G a_refuse_bad_bags,b_refuse_bad_bags,F_Net_init,b_Net_init,F_Tree_init,b_Tree_init,F_law_made,PySem.W.mg_of X G a_law_made,b_law_made,F_is_no_more,PySem.W.mg_of X G a_is_no_more,b_is_no_more,F_under,PySem.W.mg_of X G a_under,b_under,F_first_above,PySem.W.mg_of X G a_first_above,b_first_above,F_may_mark,PySem.W.mg_of X G a_may_mark,b_may_mark,F_upward,PySem.W.mg_of X G a_upward,b_upward,F_raised,PySem.W.mg_of X G a_raised,b_raised,F_put_node,PySem.W.mg_of X G a_put_node,b_put_node,F_NoGo_init,b_NoGo_init,F_refuse_unlike,PySem.W.mg_of X G a_refuse_unlike,b_refuse_unlike,F_less,PySem.W.mg_of X G a_less,b_less,F_gain,PySem.W.mg_of X G a_gain,b_gain,F_mark_after,PySem.W.mg_of X G a_mark_after,b_mark_after,F_look_at,PySem.W.mg_of X G a_look_at,b_look_at,F_grown,PySem.W.mg_of X G a_grown,b_grown,F_law_grown,PySem.W.mg_of X G a_law_grown,b_law_grown,F_law_tree_of,PySem.W.mg_of X G a_law_tree_of,b_law_tree_of,F_law_cell,PySem.W.mg_of X G a_law_cell,b_law_cell,F_law_num,PySem.W.mg_of X G a_law_num,b_law_num,F_law_net,PySem.W.mg_of X G a_law_net,b_law_net,F_is_outermost,PySem.W.mg_of X G a_is_outermost,b_is_outermost,F_outermost,PySem.W.mg_of X G a_outermost,b_outermost,F_peak_marks,PySem.W.mg_of X G a_peak_marks,b_peak_marks,F_fence,PySem.W.mg_of X G a_fence,b_fence,F_law_whole,PySem.W.mg_of X G a_law_whole,b_law_whole,F_law_marks_formed,PySem.W.mg_of X G a_law_marks_formed,b_law_marks_formed,F_law_turn,PySem.W.mg_of X G a_law_turn,b_law_turn,F_law_behind,PySem.W.mg_of X G a_law_behind,b_law_behind,F_law_end,PySem.W.mg_of X G a_law_end,b_law_end,F_mark_behind,PySem.W.mg_of X G a_mark_behind,b_mark_behind,F_branch_marks,PySem.W.mg_of X G a_branch_marks,b_branch_marks,F_legs_of,PySem.W.mg_of X G a_legs_of,b_legs_of,F_plus,PySem.W.mg_of X G a_plus,b_plus,F_times,PySem.W.mg_of X G a_times,b_times,F_tally_gain,PySem.W.mg_of X G a_tally_gain,b_tally_gain,F_tally_of,PySem.W.mg_of X G a_tally_of,b_tally_of,F_gain_of,PySem.W.mg_of X G a_gain_of,b_gain_of,F_often_enough,PySem.W.mg_of X G a_often_enough,b_often_enough,F_higher,PySem.W.mg_of X G a_higher,b_higher,F_need_ahead,PySem.W.mg_of X G a_need_ahead,b_need_ahead,F_need_of,PySem.W.mg_of X G a_need_of,b_need_of,F_need_of_one,PySem.W.mg_of X G a_need_of_one,b_need_of_one,F_gain_of_one,PySem.W.mg_of X G a_gain_of_one,b_gain_of_one,F_block_need,PySem.W.mg_of X G a_block_need,b_block_need,F_block_gain,PySem.W.mg_of X G a_block_gain,b_block_gain,F_pump,PySem.W.mg_of X G a_pump,b_pump,F_way_to,PySem.W.mg_of X G a_way_to,b_way_to,F_law_passed,PySem.W.mg_of X G a_law_passed,b_law_passed,F_law,PySem.W.mg_of X G a_law,b_law,PySem.W.mg_none_of X G z_len,PySem.W.mg_none_of X G z_all,PySem.W.mg_none_of X G z_set,PySem.W.mg_none_of X G z_list,PySem.W.mg_none_of X G z_zip,PySem.W.mg_none_of X G z_range,PySem.W.mg_none_of X G z_isinstance,PySem.W.mg_none_of X G z_int,PySem.W.mg_none_of X G z_bool,PySem.W.mg_none_of X G z_max,PySem.W.mg_none_of X G z_tuple,PySem.W.mg_none_of X G z_enumerate,PySem.W.mg_none_of X G z_reversed,⟨pg_Net,hd_Net,po_Net,sa_Net⟩,PySem.W.mg_of X G aC_Net,⟨mk_Net,a_Net_init,i_Net_init,kc_Net⟩,n_Net_bowls,n_Net_doors,n_Net_takes,n_Net_gives,n_Net_first,⟨pg_Tree,hd_Tree,po_Tree,sa_Tree⟩,PySem.W.mg_of X G aC_Tree,⟨mk_Tree,a_Tree_init,i_Tree_init,kc_Tree⟩,n_Tree_marks,n_Tree_parents,n_Tree_comers,n_Tree_loops,n_Tree_above,PySem.W.mg_of X G aC_HallError,ec_HallError,⟨ec_HallError,xp_HallError⟩,PySem.W.mg_of X G aC_TooWide,ec_TooWide,⟨ec_TooWide,xp_TooWide⟩,PySem.W.mg_of X G aC_NoGo,ec_NoGo,⟨xsa_NoGo,xhd_NoGo⟩,⟨ec_NoGo,a_NoGo_init,i_NoGo_init,kc_NoGo⟩,xt_at_NoGo,⟨xbg,xbr,xbf⟩,⟨_,PySem.W.mg_of X G g_MOST_SIGNS⟩,⟨_,PySem.W.mg_of X G g_MOST_BEADS⟩,⟨_,PySem.W.mg_of X G g_LEAST_BOWLS⟩,⟨_,PySem.W.mg_of X G g_MOST_BOWLS⟩,⟨_,PySem.W.mg_of X G g_MOST_DOORS⟩⟩
 exact ⟨PySem.W.fnOf "law" "law" (defArgs s_law) (defBody s_law) (defScope s_law) .none kV_law dc_law pm_law an_law cd_law ct_law, fun s v => .of_eq rfl, fun base _ _ => ok_law T⟩
theorem walk {l : PySem.W.OpenLaw} {q : Program} {loose : List Str} {XP : (Str→Option Value)→Heap→Prop} {YP : World→Heap→Prop} {d : DefRec} {K : Params→PySem.W.Frag} (hn : l.most = some 63) (hdf : d.params.defaults = [])
  (hY : ∀ (w : World) (h : Heap),YP w h→(K w.params).In h)
  (F : ∀ (w : World) (mg : Str→Option Value) (fa : Addr) (h : Heap),(K w.params).In h→h.Ns mainGlobals mg→mg d.name = some (.ref fa) →
   ∃ fd : FuncData, (∀ (s : Shared) (u : Value), BindsTo s fd ⟨[u], []⟩ [("script", u)]) ∧ ∀ base : Heap, (K w.params).In base → base.Ns mainGlobals mg → FnOk l.prog w (K w.params) mg base CX0 12 fa fd ["script"] (sp_law (K w.params))) :
  PySem.W.WalkO q loose XP YP l.row.toRowW d [] (fun f vs=>PySem.call f vs) :=
 L2.walk_of (n := 63) (k := 12) (x := "script") (CX := fun _ => CX0) (sp := fun w => sp_law (K w.params)) hn (by decide) hdf ⟨rfl, by decide, by decide⟩ hY F (fun _ _ a ns hl _ hS => ⟨a, ns, rfl, hS, hl, fun _ => rfl⟩) fun _ _ _ _ _ z => z
theorem walkX_of {q : Program} {loose : List Str} {XP : (Str→Option Value)→Heap→Prop} {α : Type} {Yf : Shared→α} {Ya : World→α} {r : PySem.W.RowW} {d : DefRec} {kwd : List (Str × Expr)} {run : Value→List Value→Sem Value} {YP : World→Heap→Prop}
  (hY : ∀ (w : World) (s₀ s₁ : Shared) (args : List PySem.W.WData) (vals : List Value) (as : List Addr),Yf s₀ = Ya w→PySem.W.Laid r.records w s₀ s₁ args vals as→YP w s₁.heap) (h : PySem.W.WalkO q loose XP YP r d kwd run) : PySem.W.WalkX q loose XP Yf Ya r d kwd run :=
 fun w s₀ s₁ mg mb G Y a o pm cd doc dV kV h2 h3 h4 h5 h6 hg args vals as L hpre hlay hrd hwl hlo=>h w s₀ s₁ mg mb G (hY w s₀ s₁ args vals as Y L) a o pm cd doc dV kV h2 h3 h4 h5 h6 hg args vals as hpre hlay hrd hwl hlo
end Law
open PySem PySem.W PyProof.Rows
set_option maxRecDepth 100000 in
set_option maxHeartbeats 0 in
theorem PySem.Challenge.cw_beadhall_k59_whole_fence_passed_holds : PySem.Challenge.rw_beadhall_k59_whole_fence_passed.Holds := by
 w_on; o_law; z_head; (case hw=>w_witness2)
 k_fill
 refine Law.walkX_of (fun w s₀ s₁ args vals as Y L=>PySem.W.InK.keeps w s₀.heap s₁.heap (PySem.W.X.z_facts (by intro P; kernel_rfl) Y).2.1 L.keeps) (Law.walk (l:=PySem.Challenge.rw_beadhall_k59_whole_fence_passed) rfl rfl (fun w h Y=>Y) ?F)
 case F =>
  intro w mg fa h KX G hmg
  refine' Law.all_mk KX G hmg ?aC_Net ?aC_Tree ?aC_HallError ?aC_TooWide ?aC_NoGo ?a_is_name ?l_is_name ?c_is_name ?k_is_name ?a_refuse_bad_names ?l_refuse_bad_names ?c_refuse_bad_names ?k_refuse_bad_names ?a_refuse_bad_bags ?l_refuse_bad_bags ?c_refuse_bad_bags ?k_refuse_bad_bags ?a_Net_init ?i_Net_init ?l_Net_init ?c_Net_init ?k_Net_init ?a_Tree_init ?i_Tree_init ?l_Tree_init ?c_Tree_init ?k_Tree_init ?a_law_made ?l_law_made ?c_law_made ?k_law_made ?a_is_no_more ?l_is_no_more ?c_is_no_more ?k_is_no_more ?a_under ?l_under ?c_under ?k_under ?a_first_above ?l_first_above ?c_first_above ?k_first_above ?a_may_mark ?l_may_mark ?c_may_mark ?k_may_mark ?a_upward ?l_upward ?c_upward ?k_upward ?a_raised ?l_raised ?c_raised ?k_raised ?a_put_node ?l_put_node ?c_put_node ?k_put_node ?a_NoGo_init ?i_NoGo_init ?l_NoGo_init ?c_NoGo_init ?k_NoGo_init ?a_refuse_unlike ?l_refuse_unlike ?c_refuse_unlike ?k_refuse_unlike ?a_less ?l_less ?c_less ?k_less ?a_gain ?l_gain ?c_gain ?k_gain ?a_mark_after ?l_mark_after ?c_mark_after ?k_mark_after ?a_look_at ?l_look_at ?c_look_at ?k_look_at ?a_grown ?l_grown ?c_grown ?k_grown ?a_law_grown ?l_law_grown ?c_law_grown ?k_law_grown ?a_law_tree_of ?l_law_tree_of ?c_law_tree_of ?k_law_tree_of ?a_law_cell ?l_law_cell ?c_law_cell ?k_law_cell ?a_law_num ?l_law_num ?c_law_num ?k_law_num ?a_law_net ?l_law_net ?c_law_net ?k_law_net ?a_is_outermost ?l_is_outermost ?c_is_outermost ?k_is_outermost ?a_outermost ?l_outermost ?c_outermost ?k_outermost ?a_peak_marks ?l_peak_marks ?c_peak_marks ?k_peak_marks ?a_fence ?l_fence ?c_fence ?k_fence ?a_law_whole ?l_law_whole ?c_law_whole ?k_law_whole ?a_law_marks_formed ?l_law_marks_formed ?c_law_marks_formed ?k_law_marks_formed ?a_law_turn ?l_law_turn ?c_law_turn ?k_law_turn ?a_law_behind ?l_law_behind ?c_law_behind ?k_law_behind ?a_law_end ?l_law_end ?c_law_end ?k_law_end ?a_mark_behind ?l_mark_behind ?c_mark_behind ?k_mark_behind ?a_branch_marks ?l_branch_marks ?c_branch_marks ?k_branch_marks ?a_legs_of ?l_legs_of ?c_legs_of ?k_legs_of ?a_plus ?l_plus ?c_plus ?k_plus ?a_times ?l_times ?c_times ?k_times ?a_tally_gain ?l_tally_gain ?c_tally_gain ?k_tally_gain ?a_tally_of ?l_tally_of ?c_tally_of ?k_tally_of ?a_gain_of ?l_gain_of ?c_gain_of ?k_gain_of ?a_often_enough ?l_often_enough ?c_often_enough ?k_often_enough ?a_higher ?l_higher ?c_higher ?k_higher ?a_need_ahead ?l_need_ahead ?c_need_ahead ?k_need_ahead ?a_need_of ?l_need_of ?c_need_of ?k_need_of ?a_need_of_one ?l_need_of_one ?c_need_of_one ?k_need_of_one ?a_gain_of_one ?l_gain_of_one ?c_gain_of_one ?k_gain_of_one ?a_block_need ?l_block_need ?c_block_need ?k_block_need ?a_block_gain ?l_block_gain ?c_block_gain ?k_block_gain ?a_pump ?l_pump ?c_pump ?k_pump ?a_way_to ?l_way_to ?c_way_to ?k_way_to ?a_law_passed ?l_law_passed ?c_law_passed ?k_law_passed ?a_law ?l_law ?c_law ?k_law ?pg_Net ?hd_Net ?po_Net ?sa_Net ?mk_Net ?kc_Net ?n_Net_bowls ?n_Net_doors ?n_Net_takes ?n_Net_gives ?n_Net_first ?pg_Tree ?hd_Tree ?po_Tree ?sa_Tree ?mk_Tree ?kc_Tree ?n_Tree_marks ?n_Tree_parents ?n_Tree_comers ?n_Tree_loops ?n_Tree_above ?ec_HallError ?xp_HallError ?ec_TooWide ?xp_TooWide ?ec_NoGo ?xsa_NoGo ?xhd_NoGo ?kc_NoGo ?xt_at_NoGo ?xbg ?xbr ?xbf ?g_MOST_SIGNS ?g_MOST_BEADS ?g_LEAST_BOWLS ?g_MOST_BOWLS ?g_MOST_DOORS ?z_len ?z_all ?z_set ?z_list ?z_zip ?z_range ?z_isinstance ?z_int ?z_bool ?z_max ?z_tuple ?z_enumerate ?z_reversed
  (case aC_Net=>k_is)
  (case aC_Tree=>k_is)
  (case aC_HallError=>k_is)
  (case aC_TooWide=>k_is)
  (case aC_NoGo=>k_is)
  (case a_is_name=>k_is)
  (case l_is_name=>k_is)
  (case c_is_name=>k_is)
  (case k_is_name=>k_is)
  (case a_refuse_bad_names=>k_is)
  (case l_refuse_bad_names=>k_is)
  (case c_refuse_bad_names=>k_is)
  (case k_refuse_bad_names=>k_is)
  (case a_refuse_bad_bags=>k_is)
  (case l_refuse_bad_bags=>k_is)
  (case c_refuse_bad_bags=>k_is)
  (case k_refuse_bad_bags=>k_is)
  (case a_Net_init=>k_is)
  (case i_Net_init=>k_is)
  (case l_Net_init=>k_is)
  (case c_Net_init=>k_is)
  (case k_Net_init=>k_is)
  (case a_Tree_init=>k_is)
  (case i_Tree_init=>k_is)
  (case l_Tree_init=>k_is)
  (case c_Tree_init=>k_is)
  (case k_Tree_init=>k_is)
  (case a_law_made=>k_is)
  (case l_law_made=>k_is)
  (case c_law_made=>k_is)
  (case k_law_made=>k_is)
  (case a_is_no_more=>k_is)
  (case l_is_no_more=>k_is)
  (case c_is_no_more=>k_is)
  (case k_is_no_more=>k_is)
  (case a_under=>k_is)
  (case l_under=>k_is)
  (case c_under=>k_is)
  (case k_under=>k_is)
  (case a_first_above=>k_is)
  (case l_first_above=>k_is)
  (case c_first_above=>k_is)
  (case k_first_above=>k_is)
  (case a_may_mark=>k_is)
  (case l_may_mark=>k_is)
  (case c_may_mark=>k_is)
  (case k_may_mark=>k_is)
  (case a_upward=>k_is)
  (case l_upward=>k_is)
  (case c_upward=>k_is)
  (case k_upward=>k_is)
  (case a_raised=>k_is)
  (case l_raised=>k_is)
  (case c_raised=>k_is)
  (case k_raised=>k_is)
  (case a_put_node=>k_is)
  (case l_put_node=>k_is)
  (case c_put_node=>k_is)
  (case k_put_node=>k_is)
  (case a_NoGo_init=>k_is)
  (case i_NoGo_init=>k_is)
  (case l_NoGo_init=>k_is)
  (case c_NoGo_init=>k_is)
  (case k_NoGo_init=>k_is)
  (case a_refuse_unlike=>k_is)
  (case l_refuse_unlike=>k_is)
  (case c_refuse_unlike=>k_is)
  (case k_refuse_unlike=>k_is)
  (case a_less=>k_is)
  (case l_less=>k_is)
  (case c_less=>k_is)
  (case k_less=>k_is)
  (case a_gain=>k_is)
  (case l_gain=>k_is)
  (case c_gain=>k_is)
  (case k_gain=>k_is)
  (case a_mark_after=>k_is)
  (case l_mark_after=>k_is)
  (case c_mark_after=>k_is)
  (case k_mark_after=>k_is)
  (case a_look_at=>k_is)
  (case l_look_at=>k_is)
  (case c_look_at=>k_is)
  (case k_look_at=>k_is)
  (case a_grown=>k_is)
  (case l_grown=>k_is)
  (case c_grown=>k_is)
  (case k_grown=>k_is)
  (case a_law_grown=>k_is)
  (case l_law_grown=>k_is)
  (case c_law_grown=>k_is)
  (case k_law_grown=>k_is)
  (case a_law_tree_of=>k_is)
  (case l_law_tree_of=>k_is)
  (case c_law_tree_of=>k_is)
  (case k_law_tree_of=>k_is)
  (case a_law_cell=>k_is)
  (case l_law_cell=>k_is)
  (case c_law_cell=>k_is)
  (case k_law_cell=>k_is)
  (case a_law_num=>k_is)
  (case l_law_num=>k_is)
  (case c_law_num=>k_is)
  (case k_law_num=>k_is)
  (case a_law_net=>k_is)
  (case l_law_net=>k_is)
  (case c_law_net=>k_is)
  (case k_law_net=>k_is)
  (case a_is_outermost=>k_is)
  (case l_is_outermost=>k_is)
  (case c_is_outermost=>k_is)
  (case k_is_outermost=>k_is)
  (case a_outermost=>k_is)
  (case l_outermost=>k_is)
  (case c_outermost=>k_is)
  (case k_outermost=>k_is)
  (case a_peak_marks=>k_is)
  (case l_peak_marks=>k_is)
  (case c_peak_marks=>k_is)
  (case k_peak_marks=>k_is)
  (case a_fence=>k_is)
  (case l_fence=>k_is)
  (case c_fence=>k_is)
  (case k_fence=>k_is)
  (case a_law_whole=>k_is)
  (case l_law_whole=>k_is)
  (case c_law_whole=>k_is)
  (case k_law_whole=>k_is)
  (case a_law_marks_formed=>k_is)
  (case l_law_marks_formed=>k_is)
  (case c_law_marks_formed=>k_is)
  (case k_law_marks_formed=>k_is)
  (case a_law_turn=>k_is)
  (case l_law_turn=>k_is)
  (case c_law_turn=>k_is)
  (case k_law_turn=>k_is)
  (case a_law_behind=>k_is)
  (case l_law_behind=>k_is)
  (case c_law_behind=>k_is)
  (case k_law_behind=>k_is)
  (case a_law_end=>k_is)
  (case l_law_end=>k_is)
  (case c_law_end=>k_is)
  (case k_law_end=>k_is)
  (case a_mark_behind=>k_is)
  (case l_mark_behind=>k_is)
  (case c_mark_behind=>k_is)
  (case k_mark_behind=>k_is)
  (case a_branch_marks=>k_is)
  (case l_branch_marks=>k_is)
  (case c_branch_marks=>k_is)
  (case k_branch_marks=>k_is)
  (case a_legs_of=>k_is)
  (case l_legs_of=>k_is)
  (case c_legs_of=>k_is)
  (case k_legs_of=>k_is)
  (case a_plus=>k_is)
  (case l_plus=>k_is)
  (case c_plus=>k_is)
  (case k_plus=>k_is)
  (case a_times=>k_is)
  (case l_times=>k_is)
  (case c_times=>k_is)
  (case k_times=>k_is)
  (case a_tally_gain=>k_is)
  (case l_tally_gain=>k_is)
  (case c_tally_gain=>k_is)
  (case k_tally_gain=>k_is)
  (case a_tally_of=>k_is)
  (case l_tally_of=>k_is)
  (case c_tally_of=>k_is)
  (case k_tally_of=>k_is)
  (case a_gain_of=>k_is)
  (case l_gain_of=>k_is)
  (case c_gain_of=>k_is)
  (case k_gain_of=>k_is)
  (case a_often_enough=>k_is)
  (case l_often_enough=>k_is)
  (case c_often_enough=>k_is)
  (case k_often_enough=>k_is)
  (case a_higher=>k_is)
  (case l_higher=>k_is)
  (case c_higher=>k_is)
  (case k_higher=>k_is)
  (case a_need_ahead=>k_is)
  (case l_need_ahead=>k_is)
  (case c_need_ahead=>k_is)
  (case k_need_ahead=>k_is)
  (case a_need_of=>k_is)
  (case l_need_of=>k_is)
  (case c_need_of=>k_is)
  (case k_need_of=>k_is)
  (case a_need_of_one=>k_is)
  (case l_need_of_one=>k_is)
  (case c_need_of_one=>k_is)
  (case k_need_of_one=>k_is)
  (case a_gain_of_one=>k_is)
  (case l_gain_of_one=>k_is)
  (case c_gain_of_one=>k_is)
  (case k_gain_of_one=>k_is)
  (case a_block_need=>k_is)
  (case l_block_need=>k_is)
  (case c_block_need=>k_is)
  (case k_block_need=>k_is)
  (case a_block_gain=>k_is)
  (case l_block_gain=>k_is)
  (case c_block_gain=>k_is)
  (case k_block_gain=>k_is)
  (case a_pump=>k_is)
  (case l_pump=>k_is)
  (case c_pump=>k_is)
  (case k_pump=>k_is)
  (case a_way_to=>k_is)
  (case l_way_to=>k_is)
  (case c_way_to=>k_is)
  (case k_way_to=>k_is)
  (case a_law_passed=>k_is)
  (case l_law_passed=>k_is)
  (case c_law_passed=>k_is)
  (case k_law_passed=>k_is)
  (case a_law=>k_is)
  (case l_law=>k_is)
  (case c_law=>k_is)
  (case k_law=>k_is)
  (case pg_Net=>k_is)
  (case hd_Net=>k_is)
  (case po_Net=>k_is)
  (case sa_Net=>k_is)
  (case mk_Net=>k_is)
  (case kc_Net=>k_is)
  (case n_Net_bowls=>k_is)
  (case n_Net_doors=>k_is)
  (case n_Net_takes=>k_is)
  (case n_Net_gives=>k_is)
  (case n_Net_first=>k_is)
  (case pg_Tree=>k_is)
  (case hd_Tree=>k_is)
  (case po_Tree=>k_is)
  (case sa_Tree=>k_is)
  (case mk_Tree=>k_is)
  (case kc_Tree=>k_is)
  (case n_Tree_marks=>k_is)
  (case n_Tree_parents=>k_is)
  (case n_Tree_comers=>k_is)
  (case n_Tree_loops=>k_is)
  (case n_Tree_above=>k_is)
  (case ec_HallError=>kernel_rfl)
  (case xp_HallError=>kernel_rfl)
  (case ec_TooWide=>kernel_rfl)
  (case xp_TooWide=>kernel_rfl)
  (case ec_NoGo=>kernel_rfl)
  (case xsa_NoGo=>k_is)
  (case xhd_NoGo=>k_is)
  (case kc_NoGo=>k_is)
  (case xt_at_NoGo=>k_is)
  (case xbg=>k_is)
  (case xbr=>k_is)
  (case xbf=>k_is)
  (case g_MOST_SIGNS=>k_is)
  (case g_MOST_BEADS=>k_is)
  (case g_LEAST_BOWLS=>k_is)
  (case g_MOST_BOWLS=>k_is)
  (case g_MOST_DOORS=>k_is)
  (case z_len=>k_is)
  (case z_all=>k_is)
  (case z_set=>k_is)
  (case z_list=>k_is)
  (case z_zip=>k_is)
  (case z_range=>k_is)
  (case z_isinstance=>k_is)
  (case z_int=>k_is)
  (case z_bool=>k_is)
  (case z_max=>k_is)
  (case z_tuple=>k_is)
  (case z_enumerate=>k_is)
  (case z_reversed=>k_is)
