import PyProof.Rows.All
import Wide.All
import OpenK.AllK
import Wide.FinOn
import Lean
import PyProof.EqAt
import PyProof.EqKinds
import PyProof.TupleCall
import OpenK.ZGo
import PySem.Challenge.RW_beadhall_k79_texts_of_asks
set_option Elab.async false
set_option linter.all false
set_option maxRecDepth 100000
namespace L2
open PySem PySem.Spec PyProof.Rows
abbrev Key:=Sum Int Str
def keyIs : Key→Value→Bool
 | .inl k,v=>Value.isInt k v
 | .inr x,v=>Value.isStrOf x v
def keyH (w : World) : Key→Int
 | .inl k=>hashInt k
 | .inr x=>hashStr w x
theorem keyIs_shape : ∀ {k : Key} {v : Value},keyIs k v = true→(∃ i t,k = Sum.inl i∧v = Value.int i t) ∨ (∃ x t,k = Sum.inr x∧v = Value.str x t)
 | .inl i,v,h=>by
  obtain ⟨t,e⟩:=Value.isInt_shape (k:=i) (v:=v) h
  exact .inl ⟨i,t,rfl,e⟩
 | .inr x,v,h=>by
  obtain ⟨t,e⟩:=Value.isStrOf_shape (x:=x) (v:=v) h
  exact .inr ⟨x,t,rfl,e⟩
theorem keyIs_str (x : Str) (t : Tok) : keyIs (.inr x) (.str x t) = true:=by simp [keyIs,Value.isStrOf]
theorem key_ll (a b : Int) : decide ((Sum.inl a : Key) = Sum.inl b) = (a == b):=by
 by_cases e : a = b
 ·subst e; simp
 ·have h : ¬ (Sum.inl a : Key) = Sum.inl b:=fun q=>e (Sum.inl.inj q)
  rw [decide_eq_false h]
  exact (beq_eq_false_iff_ne.mpr e).symm
theorem key_rr (a b : Str) : decide ((Sum.inr a : Key) = Sum.inr b) = decide (a = b):=by
 by_cases e : a = b
 ·subst e; simp
 ·have h : ¬ (Sum.inr a : Key) = Sum.inr b:=fun q=>e (Sum.inr.inj q)
  rw [decide_eq_false h,decide_eq_false e]
theorem key_lr (a : Int) (b : Str) : decide ((Sum.inl a : Key) = Sum.inr b) = false:=decide_eq_false (fun q=>nomatch q)
theorem key_rl (a : Str) (b : Int) : decide ((Sum.inr a : Key) = Sum.inl b) = false:=decide_eq_false (fun q=>nomatch q)
def mixKind (prog : Program) (w : World) : PySem.KeyKind prog w Key where
 is:=keyIs
 hash:=keyH w
 inj:=fun v a b ha hb=>by
  rcases keyIs_shape ha with ⟨i,t,rfl,rfl⟩ | ⟨x,t,rfl,rfl⟩
  ·rcases keyIs_shape hb with ⟨j,u,rfl,e⟩ | ⟨y,u,rfl,e⟩
   ·injection e with e1 _; rw [e1]
   ·exact nomatch e
  ·rcases keyIs_shape hb with ⟨j,u,rfl,e⟩ | ⟨y,u,rfl,e⟩
   ·exact nomatch e
   ·injection e with e1 _; rw [e1]
 byValue:=fun k v h=>by
  rcases keyIs_shape h with ⟨i,t,rfl,rfl⟩ | ⟨x,t,rfl,rfl⟩ <;> rfl
 pyHash:=fun hv h=>by
  rcases keyIs_shape hv with ⟨i,t,rfl,rfl⟩ | ⟨x,t,rfl,rfl⟩
  ·exact wpAny_pyHash_int h
  ·exact wpAny_pyHash_str h
 eqBool:=fun hu hv h=>by
  rcases keyIs_shape hu with ⟨i,t,rfl,rfl⟩ | ⟨x,t,rfl,rfl⟩
  ·rcases keyIs_shape hv with ⟨j,u,rfl,rfl⟩ | ⟨y,u,rfl,rfl⟩
   ·rw [key_ll] at h; exact wpAny_eqBool_int h
   ·rw [key_lr] at h; exact SeqAt.EqAt.int_str i t y u _ _ _ _ h
  ·rcases keyIs_shape hv with ⟨j,u,rfl,rfl⟩ | ⟨y,u,rfl,rfl⟩
   ·rw [key_rl] at h; exact SeqAt.EqAt.str_int x t j u _ _ _ _ h
   ·rw [key_rr] at h; exact wpAny_eqBool_str h
 «strs»:=fun k x t v h=>by
  rcases keyIs_shape h with ⟨i,u,rfl,e⟩ | ⟨y,u,rfl,e⟩
  ·exact nomatch e
  ·injection e with e1 _
   subst e1
   cases v <;> rfl
theorem mixKind_str (prog : Program) (w : World) (x : Str) (t : Tok) : (mixKind prog w).is (.inr x) (.str x t) = true:=keyIs_str x t
end L2
namespace L2
open PySem PySem.Spec PyProof.Rows
inductive V where
 | non | bl (b : Bool) | int (i : Int) | str (x : Str) | byt (b : Array UInt8) | flt (b : UInt64) | ref (a : Addr) | ty (n : String)
 deriving DecidableEq
def RelV : V→Value→Prop
 | .non,u=>u = Value.none
 | .bl b,u=>u = Value.bool b
 | .int i,u=>∃ t,u = Value.int i t
 | .str x,u=>∃ t,u = Value.str x t
 | .byt b,u=>∃ t,u = Value.bytes b t
 | .flt b,u=>∃ t,u = Value.float b t
 | .ref a,u=>u = Value.ref a
 | .ty n,u=>u = Value.type n
abbrev Vals : List V→List Value→Prop:=Paired RelV
theorem Vals.length {xs : List V} {us : List Value} (r : Vals xs us) : xs.length = us.length:=Paired.length r
theorem Vals.get : ∀ {xs : List V} {us : List Value} {i : Nat} {x : V},Vals xs us→xs[i]? = some x→∃ u,us[i]? = some u∧RelV x u
 | _,_,_,_,.nil,e=>by simp at e
 | _,_,0,_,.cons r _,e=>by simp at e; subst e; exact ⟨_,rfl,r⟩
 | _,_,i + 1,x,.cons _ t,e=>by
  obtain ⟨u,h1,h2⟩:=Vals.get (i:=i) (x:=x) t (by simpa using e)
  exact ⟨u,by simpa using h1,h2⟩
theorem Vals.set {x : V} {u : Value} (r : RelV x u) : ∀ {xs : List V} {us : List Value} (i : Nat),Vals xs us→Vals (xs.set i x) (us.set i u)
 | _,_,_,.nil=>.nil
 | _,_,0,.cons _ t=>.cons r t
 | _,_,i + 1,.cons q t=>.cons q (Vals.set r i t)
theorem Vals.append : ∀ {xs ys : List V} {us ws : List Value},Vals xs us→Vals ys ws→Vals (xs ++ ys) (us ++ ws)
 | _,_,_,_,.nil,s=>s
 | _,_,_,_,.cons r t,s=>.cons r (Vals.append t s)
theorem Vals.take : ∀ {xs : List V} {us : List Value} (n : Nat),Vals xs us→Vals (xs.take n) (us.take n)
 | _,_,0,_=>.nil
 | _,_,_ + 1,.nil=>.nil
 | _,_,n + 1,.cons r t=>.cons r (Vals.take n t)
theorem Vals.drop : ∀ {xs : List V} {us : List Value} (n : Nat),Vals xs us→Vals (xs.drop n) (us.drop n)
 | _,_,0,r=>r
 | _,_,_ + 1,.nil=>.nil
 | _,_,n + 1,.cons _ t=>Vals.drop n t
def RelO : Option V→Option Value→Prop
 | some v,some u=>RelV v u
 | none,none=>True
 | _,_=>False
def KV {κ : Type} : List (κ × V)→List (κ × Value)→Prop:=Paired fun (p : κ × V) (q : κ × Value)=>p.1 = q.1∧RelV p.2 q.2
def kV : Key→V
 | .inl i=>.int i
 | .inr x=>.str x
inductive HO where
 | lst (xs : List V)
 | tup (xs : List V)
 | dK (kvs : List (Key × V)) | dT (kvs : List (List Key × V))
 | set (S : Int→Bool) (n : Nat)
 | ins (C dx : Addr) (fs : List (Str × V))
 | own (x : Addr)
 | xd (fs : List (Str × V))
 | met (f x : Addr)
 | rng (lo hi : Int)
 | frz (o : Obj) (u : HO)
 | tbl (ps : Array Value)
 | ext (φ : Heap→Prop)
abbrev Hp:=Addr→Option HO
def upd (H : Hp) (a : Addr) (o : HO) : Hp:=fun b=>if b = a then some o else H b
theorem upd_same {H : Hp} {a : Addr} {o : HO} : upd H a o a = some o:=by unfold upd; rw [if_pos rfl]
theorem upd_ne {H : Hp} {a b : Addr} {o : HO} (h : b ≠ a) : upd H a o b = H b:=by unfold upd; rw [if_neg h]
theorem ne_of {H : Hp} {a b : Addr} {o u : HO} (h : H a = some o) (h' : H b = some u) (d : o ≠ u) : a ≠ b:=by
 intro e; subst e; rw [h] at h'; exact d (Option.some.inj h')
theorem ne_of_none {H : Hp} {a b : Addr} {o : HO} (h : H a = some o) (h' : H b = none) : a ≠ b:=by
 intro e; subst e; rw [h] at h'; cases h'
section
variable (P : Program) (w : World)
def ObjOk (H : Hp) (h : Heap) (a : Addr) : HO→Prop
 | .lst xs => xs.length ≤ sizeLine ∧ ∃ (its : List Value) (n : Nat), Vals xs its ∧ h.get? a = some { cls := .type "list", data := .seq its.toArray n }
 | .tup xs=>xs.length ≤ sizeLine∧∃ its : List Value,Vals xs its∧IsTup h a its.toArray
 | .dK kvs=>kvs.length ≤ sizeLine∧(a == sysModules) = false∧∃ vs,KV kvs vs∧h.DictOf (mixKind P w) a vs
 | .dT kvs=>kvs.length ≤ sizeLine∧(a == sysModules) = false∧∃ xs : List (List Key × Addr × Value),
   Paired (fun (p : List Key × V) (q : List Key × Addr × Value)=>p.1 = q.1∧H q.2.1 = some (.tup (p.1.map kV))∧RelV p.2 q.2.2) kvs xs ∧
   ∃ o es ep,h.get? a = some o∧o.ExactDict∧o.data = .dict es ep∧es.toList = xs.map (entryOfKey (tupleKind (mixKind P w)))∧(xs.map (·.1)).Nodup
 | .set S n=>h.SetOf (intKind P w) a S n
 | .ins C dx fs=>H dx = some (.own a)∧fs.length ≤ 1000∧dx ≠ a∧h.get? a = some (PySem.W.instObj C dx) ∧
   ∃ mA,h.Ns1 dx mA∧(∀ f,RelO (fs.lookup f) (mA f))∧PySem.Within mA (fs.map (·.1))
 | .own _=>∃ o,h.get? a = some o
 | .xd fs=>∃ mA,h.Ns1 a mA∧∀ f,RelO (fs.lookup f) (mA f)
 | .rng lo hi => ∃ t u v, h.get? a = some { cls := .type "range", data := .fields #[.int lo t, .int hi u, .int 1 v] }
 | .frz o u=>h.get? a = some o∧ObjOk H h a u
 | .tbl ps=>h.get? a = some { cls:=.none,data:=.fields ps }
 | .met f x=>h.get? a = some (PySem.W.methodObj (.ref f) (.ref x))
 | .ext φ=>φ h∧(∃ o,h.get? a = some o)∧∀ h1 h2 : Heap,φ h1→(∀ o,h1.get? a = some o→h2.get? a = some o)→φ h2
def HOk (H : Hp) (h : Heap) : Prop:=∀ a o,H a = some o→ObjOk P w H h a o
end
section
variable {P : Program} {w : World} {H H' : Hp} {h h' : Heap} {a : Addr} {o : HO}
theorem ObjOk.lt (x : ObjOk P w H h a o) : a < h.objs.size:=by
 cases o with
 | lst xs=>obtain ⟨_,_,_,_,e⟩:=x; exact Heap.lt_size e
 | tup xs=>obtain ⟨_,_,_,p⟩:=x; exact p.lt
 | dK kvs=>obtain ⟨_,_,_,_,o,_,_,e,_⟩:=x; exact Heap.lt_size e
 | dT kvs=>obtain ⟨_,_,_,_,o,_,_,e,_⟩:=x; exact Heap.lt_size e
 | set S n=>obtain ⟨o,_,_,_,e,_⟩:=x; exact Heap.lt_size e
 | ins C dx fs=>obtain ⟨_,_,_,e,_⟩:=x; exact Heap.lt_size e
 | own y=>obtain ⟨_,e⟩:=x; exact Heap.lt_size e
 | xd fs=>obtain ⟨_,⟨_,_,_,e,_⟩,_⟩:=x; exact Heap.lt_size e
 | rng lo hi=>obtain ⟨_,_,_,e⟩:=x; exact Heap.lt_size e
 | frz ob u=>obtain ⟨e,_⟩:=x; exact Heap.lt_size e
 | tbl ps=>exact Heap.lt_size (show h.get? a = some _ from x)
 | met f y=>exact Heap.lt_size (show h.get? a = some _ from x)
 | ext φ=>obtain ⟨_,⟨_,e⟩,_⟩:=x; exact Heap.lt_size e
theorem Paired.mapP {α β : Type} {F G : α→β→Prop} : ∀ {l₁ : List α} {l₂ : List β},Paired F l₁ l₂→(∀ a b,F a b→G a b)→Paired G l₁ l₂
 | _,_,.nil,_=>.nil
 | _,_,.cons r t,f=>.cons (f _ _ r) (Paired.mapP t f)
theorem ObjOk.stay (x : ObjOk P w H h a o) (k : ∀ b u,(b = a ∨ H b = some (.own a))→h.get? b = some u→h'.get? b = some u)
  (ho : ∀ b,H b = some (.own a)→H' b = some (.own a)) (ht : ∀ b xs,H b = some (.tup xs)→H' b = some (.tup xs)) : ObjOk P w H' h' a o:=by
 induction o with
 | lst xs=>obtain ⟨z,its,n,r,e⟩:=x; exact ⟨z,its,n,r,k _ _ (.inl rfl) e⟩
 | tup xs=>obtain ⟨z,its,r,ob,e,c⟩:=x; exact ⟨z,its,r,ob,k _ _ (.inl rfl) e,c⟩
 | dK kvs=>obtain ⟨z,y,vs,r,ob,es,ep,e,c⟩:=x; exact ⟨z,y,vs,r,ob,es,ep,k _ _ (.inl rfl) e,c⟩
 | dT kvs =>
  obtain ⟨z,y,xs,r,ob,es,ep,e,c⟩:=x
  exact ⟨z,y,xs,Paired.mapP r fun p q z=>⟨z.1,ht _ _ z.2.1,z.2.2⟩,ob,es,ep,k _ _ (.inl rfl) e,c⟩
 | set S n=>obtain ⟨ob,es,ep,t,e,c⟩:=x; exact ⟨ob,es,ep,t,k _ _ (.inl rfl) e,c⟩
 | ins C dx fs =>
  obtain ⟨d,z,ne,e,mA,⟨od,es,ep,e2,c⟩,r⟩:=x
  exact ⟨ho _ d,z,ne,k _ _ (.inl rfl) e,mA,⟨od,es,ep,k _ _ (.inr d) e2,c⟩,r⟩
 | own y=>obtain ⟨ob,e⟩:=x; exact ⟨ob,k _ _ (.inl rfl) e⟩
 | xd fs=>obtain ⟨mA,⟨od,es,ep,e,c⟩,r⟩:=x; exact ⟨mA,⟨od,es,ep,k _ _ (.inl rfl) e,c⟩,r⟩
 | rng lo hi=>obtain ⟨t,u,v,e⟩:=x; exact ⟨t,u,v,k _ _ (.inl rfl) e⟩
 | frz ob u ih=>obtain ⟨e,q⟩:=x; exact ⟨k _ _ (.inl rfl) e,ih q⟩
 | tbl ps =>
  have e : h.get? a = some { cls:=.none,data:=.fields ps }:=x
  show h'.get? a = some { cls:=.none,data:=.fields ps }
  exact k a _ (.inl rfl) e
 | met f y =>
  have e : h.get? a = some (PySem.W.methodObj (.ref f) (.ref y)):=x
  show h'.get? a = some (PySem.W.methodObj (.ref f) (.ref y))
  exact k a _ (.inl rfl) e
 | ext φ=>obtain ⟨p,⟨o,e⟩,st⟩:=x; exact ⟨st _ _ p fun o q=>k _ _ (.inl rfl) q,⟨o,k _ _ (.inl rfl) e⟩,st⟩
theorem HOk.lt (x : HOk P w H h) (e : H a = some o) : a < h.objs.size:=(x a o e).lt
theorem HOk.fresh (x : HOk P w H h) (e : h.objs.size ≤ a) : H a = none:=by
 cases q : H a with
 | none=>rfl
 | some u=>exact absurd (Nat.lt_of_lt_of_le (x.lt q) e) (Nat.lt_irrefl _)
theorem HOk.kept (x : HOk P w H h) (k : ∀ b u,h.get? b = some u→h'.get? b = some u) : HOk P w H h':=fun a o e =>
 (x a o e).stay (fun b u _ q=>k b u q) (fun _ q=>q) fun _ _ q=>q
theorem HOk.laid (x : HOk P w H h) (k : ∀ b u,h.get? b = some u→h'.get? b = some u) (hp : h.objs.size ≤ a) (new : ObjOk P w (upd H a o) h' a o) : HOk P w (upd H a o) h':=fun b u e=>by
 have hn:=x.fresh hp
 by_cases hb : b = a
 ·subst hb; rw [upd_same] at e; cases e; exact new
 ·rw [upd_ne hb] at e
  exact (x b u e).stay (fun c v _ q=>k c v q) (fun c q=>by rw [upd_ne (ne_of_none q hn)]; exact q) fun c xs q=>by rw [upd_ne (ne_of_none q hn)]; exact q
end
def Rd (H : Hp) (a : Addr) (u : HO) : Prop:=H a = some u ∨ ∃ o,H a = some (.frz o u)
theorem Rd.of {H : Hp} {a : Addr} {u : HO} (h : H a = some u) : Rd H a u:=.inl h
theorem Rd.ok {P : Program} {w : World} {H : Hp} {h : Heap} {a : Addr} {u : HO} (r : Rd H a u) (x : HOk P w H h) : ObjOk P w H h a u:=by
 rcases r with r | ⟨o,r⟩
 ·exact x a u r
 ·obtain ⟨_,q⟩:=x a _ r
  exact q
def Mut : Option HO→Prop
 | some (.lst _)=>True
 | some (.dK _)=>True
 | some (.dT _)=>True
 | some (.set _ _)=>True
 | some (.ins _ _ _)=>True
 | some (.ext _)=>True
 | _=>False
section
variable {P : Program} {w : World} {H : Hp} {h h' : Heap} {x e : Addr} {o' : HO}
theorem HOk.write (ok : HOk P w H h) (mu : Mut (H x)) (he : e = x ∨ H e = some (.own x)) (k : ∀ b u,b ≠ e→h.get? b = some u→h'.get? b = some u) (heo : ∃ u,h'.get? e = some u)
  (new : ObjOk P w (upd H x o') h' x o') : HOk P w (upd H x o') h':=fun b u q=>by
 have nown : ∀ c y,H c = some (.own y)→c ≠ x:=fun c y r z=>by subst z; rw [r] at mu; exact mu
 have ntup : ∀ c xs,H c = some (.tup xs)→c ≠ x:=fun c xs r z=>by subst z; rw [r] at mu; exact mu
 by_cases hb : b = x
 ·subst hb; rw [upd_same] at q; cases q; exact new
 ·rw [upd_ne hb] at q
  by_cases hbe : b = e
  ·have q' : H b = some (.own x):=by
    rcases he with z | z
    ·exact absurd (hbe.trans z) hb
    ·rw [hbe]; exact z
   rw [q] at q'; cases q'
   obtain ⟨v,hv⟩:=heo
   exact ⟨v,by rw [hbe]; exact hv⟩
  ·refine (ok b u q).stay (fun c v hc r=>k c v ?_ r) (fun c r=>by rw [upd_ne (nown c b r)]; exact r) fun c xs r=>by rw [upd_ne (ntup c xs r)]; exact r
   rcases hc with rfl | hc
   ·exact hbe
   ·rintro rfl
    rcases he with z | z
    ·exact nown c b hc z
    ·rw [hc] at z; cases z; exact hb rfl
end
structure Un (fs ex : List Addr) (H H' : Hp) (h h' : Heap) : Prop where
 keep : ∀ b o,h.get? b = some o→H b = none→b ∉ fs→b ∉ ex→h'.get? b = some o
 slot : ∀ b o,h.get? b = some o→H b = none→b ∈ fs→b ∉ ex→∃ sl,h'.get? b = some { o with slots:=sl }
 free : ∀ b o,h.get? b = some o→H b = none→b ∉ ex→H' b = none
 there : ∀ b o,h.get? b = some o→b ∉ ex→∃ o',h'.get? b = some o'
 tups : ∀ b xs,H b = some (.tup xs)→H' b = some (.tup xs)
 frzs : ∀ b o u,H b = some (.frz o u)→H' b = some (.frz o u)
 tbls : ∀ b ps,H b = some (.tbl ps)→∃ more,H' b = some (.tbl (ps ++ more))
section
variable {fs fs' ex ex' : List Addr} {H H1 H2 : Hp} {h h1 h2 h' : Heap} {a x e : Addr} {o : HO}
theorem Un.any (u : Un fs ex H H1 h h1) {b : Addr} {ob : Obj} (q : h.get? b = some ob) (n : H b = none) (hx : b ∉ ex) : ∃ sl,h1.get? b = some { ob with slots:=sl }:=by
 by_cases hb : b ∈ fs
 ·exact u.slot b ob q n hb hx
 ·exact ⟨ob.slots,u.keep b ob q n hb hx⟩
theorem Un.trans (a : Un fs ex H H1 h h1) (b : Un fs ex H1 H2 h1 h2) : Un fs ex H H2 h h2 where
 keep:=fun c ob q n hc hx=>b.keep c ob (a.keep c ob q n hc hx) (a.free c ob q n hx) hc hx
 slot:=fun c ob q n hc hx=>by
  obtain ⟨sl,e1⟩:=a.slot c ob q n hc hx
  obtain ⟨sl',e2⟩:=b.slot c _ e1 (a.free c ob q n hx) hc hx
  exact ⟨sl',e2⟩
 free:=fun c ob q n hx=>by
  obtain ⟨o',e1⟩:=a.there c ob q hx
  exact b.free c o' e1 (a.free c ob q n hx) hx
 there:=fun c ob q hx=>by
  obtain ⟨o',e1⟩:=a.there c ob q hx
  exact b.there c o' e1 hx
 tups:=fun c xs q=>b.tups c xs (a.tups c xs q)
 frzs:=fun c ob xs q=>b.frzs c ob xs (a.frzs c ob xs q)
 tbls:=fun c ps q=>by
  obtain ⟨m1,e1⟩:=a.tbls c ps q
  obtain ⟨m2,e2⟩:=b.tbls c _ e1
  exact ⟨m1 ++ m2,by rw [e2,Array.append_assoc]⟩
theorem Un.kept (k : ∀ b u,h.get? b = some u→h'.get? b = some u) : Un fs ex H H h h' :=
 ⟨fun b ob q _ _ _=>k b ob q,fun b ob q _ _ _=>⟨ob.slots,k b ob q⟩,fun _ _ _ n _=>n,fun b ob q _=>⟨ob,k b ob q⟩,fun _ _ q=>q,fun _ _ _ q=>q,fun _ ps q=>⟨#[],by rw [q]; simp⟩⟩
theorem Un.refl : Un fs ex H H h h:=Un.kept fun _ _ q=>q
theorem Un.laid (k : ∀ b u,h.get? b = some u→h'.get? b = some u) (hp : h.objs.size ≤ a) (hn : H a = none) : Un fs ex H (upd H a o) h h' where
 keep:=fun b u q _ _ _=>k b u q
 slot:=fun b u q _ _ _=>⟨u.slots,k b u q⟩
 free:=fun b u q n _=>by rw [upd_ne (Nat.ne_of_lt (Nat.lt_of_lt_of_le (Heap.lt_size q) hp))]; exact n
 there:=fun b u q _=>⟨u,k b u q⟩
 tups:=fun b xs q=>by rw [upd_ne (ne_of_none q hn)]; exact q
 frzs:=fun b u xs q=>by rw [upd_ne (ne_of_none q hn)]; exact q
 tbls:=fun b ps q=>⟨#[],by rw [upd_ne (ne_of_none q hn),q]; simp⟩
theorem Un.write (mu : Mut (H x)) (he : e = x ∨ H e = some (.own x)) (k : ∀ b u,b ≠ e→h.get? b = some u→h'.get? b = some u) (heo : ∃ u,h'.get? e = some u) : Un fs ex H (upd H x o) h h':=by
 have hx : ∀ b,H b = none→b ≠ x:=fun b n z=>by subst z; rw [n] at mu; exact mu
 have hb : ∀ b,H b = none→b ≠ e:=fun b n z=>by
  subst z
  rcases he with r | r
  ·exact hx b n r
  ·rw [n] at r; cases r
 have hm : ∀ b u,H b = some u→¬ Mut (some u)→b ≠ x:=fun b u q nm z=>by subst z; rw [q] at mu; exact nm mu
 refine ⟨fun b u q n _ _=>k b u (hb b n) q,fun b u q n _ _=>⟨u.slots,k b u (hb b n) q⟩,fun b u q n _=>by rw [upd_ne (hx b n)]; exact n,fun b u q _=>?_,
  fun b xs q=>by rw [upd_ne (hm b _ q fun z=>z)]; exact q,fun b u xs q=>by rw [upd_ne (hm b _ q fun z=>z)]; exact q,fun b ps q=>⟨#[],by rw [upd_ne (hm b _ q fun z=>z),q]; simp⟩⟩
 by_cases hbe : b = e
 ·subst hbe; exact heo
 ·exact ⟨u,k b u hbe q⟩
theorem Un.mono (u : Un fs ex H H1 h h1) (hs : ∀ b ∈ fs,b ∈ fs') (hx : ∀ b ∈ ex,b ∈ ex') : Un fs' ex' H H1 h h1 :=
 ⟨fun b ob q n hb he=>u.keep b ob q n (fun z=>hb (hs b z)) fun z=>he (hx b z),fun _ _ q n _ he=>u.any q n fun z=>he (hx _ z),fun b ob q n he=>u.free b ob q n fun z=>he (hx b z),fun b ob q he=>u.there b ob q fun z=>he (hx b z),u.tups,u.frzs,u.tbls⟩
end
def trk (h : Heap) (H : Hp) : List Addr:=(List.range h.objs.size).filter fun a=>(H a).isSome
def hidT (h : Heap) (H : Hp) : Heap:=PySem.W.hideAll h (trk h H)
theorem hidT_size (h : Heap) (H : Hp) : (hidT h H).objs.size = h.objs.size:=PySem.W.hideAll_size _ _
theorem hidT_get {h : Heap} {H : Hp} {b : Addr} {o : Obj} (e : h.get? b = some o) (n : H b = none) : (hidT h H).get? b = some o :=
 PySem.W.hideAll_get _ e fun hm=>by
  have q : (H b).isSome = true:=(List.mem_filter.mp hm).2
  rw [n] at q; simp at q
theorem of_hidT {h : Heap} {H : Hp} {b : Addr} {o : Obj} (e : (hidT h H).get? b = some o) : h.get? b = some o∧H b = none:=by
 have e' : h.get? b = some o:=PySem.W.of_hideAll (trk h H) e
 refine ⟨e',?_⟩
 cases q : H b with
 | none=>rfl
 | some x =>
  have hm : b ∈ trk h H:=List.mem_filter.mpr ⟨List.mem_range.mpr (Heap.lt_size e'),by simp [q]⟩
  have z : (hidT h H).get? b = none:=PySem.W.hideAll_none (trk h H) hm
  rw [z] at e; cases e
def allNews (g h : Heap) (L : Addr) : List (Addr × Obj):=(List.range h.objs.size).filterMap fun a=>if a = L ∨ (g.get? a).isSome = true then none else (h.get? a).map fun o=>(a,o)
def rest (g h : Heap) (L d : Addr) : List (Addr × Obj):=(allNews g h L).filter fun p=>decide (p.1 ≠ d)
end L2
namespace L2
open PySem PySem.Spec PyProof.Rows
structure Mod (K : PySem.W.Frag) (mg : Str→Option Value) (base : Heap) : Prop where
 kin : K.In base
 glob : base.Ns mainGlobals mg
 blt : ∃ mb, base.Ns builtinsNs mb ∧ ∀ x : Str, x ≠ "__name__" → mb x = bootBuiltins x
 nolimit : base.NoLimit
structure Cx where
 prog : Program
 w : World
 K : PySem.W.Frag
 mg : Str→Option Value
 base : Heap
 A : Around
 N : List Str
 s₀ : Shared
 H₀ : Hp
 env : Env
 outer : List Env
 stack : List Env
 ex : List Addr
 fn : Str→Bool
 calm : Bool
 pn : List (Addr × Obj)
 xe : Value→Shared→Prop
def frs (l : List Env) : List Addr:=l.filterMap (·.frame)
abbrev Cx.fs (X : Cx) : List Addr:=frs X.outer
def Vis (sc : Scope) (x : Str) : Prop:=sc.names.lookup x = some .local ∨ sc.names.lookup x = some .cell ∨ sc.names.lookup x = some .free
def Loc (sc : Scope) (x : Str) : Prop:=sc.names.lookup x = some .local ∨ sc.names.lookup x = some .cell
def Look (env : Env) (h : Heap) (m : Str→Option Value) (x : Str) (u : Value) : Prop :=
 (env.kindOf x = some .local∧m x = some u) ∨ ((env.kindOf x = some .cell ∨ env.kindOf x = some .free)∧∃ c,env.cells.lookup x = some c∧h.IsCell c (some u))
structure Cx.Ok (X : Cx) : Prop where
 mod : Mod X.K X.mg X.base
 kind : X.env.scope.kind = .function
 glob : X.env.globals = mainGlobals
 blt : X.env.builtins = builtinsNs
 above : X.s₀.heap.objs.size ≤ X.env.locals
 inj : ∀ x y c,X.env.cells.lookup x = some c→X.env.cells.lookup y = some c→x = y
 has : ∀ x,(X.env.kindOf x = some .cell ∨ X.env.kindOf x = some .free)→∃ c,X.env.cells.lookup x = some c
 cab : ∀ x c,X.fn x = true→X.env.cells.lookup x = some c→X.s₀.heap.objs.size ≤ c
 hd : X.calm = true→X.A.handled = none
 frames : X.A.frames = some X.stack
 stk : X.stack = X.outer ∨ (X.stack = X.env :: X.outer∧X.env.frame = some X.env.locals)
 exf : ∀ b ∈ X.ex,b ≠ X.env.locals∧∀ x c,X.env.cells.lookup x = some c→c ≠ b
 bs : ∀ b o,X.base.get? b = some o→X.s₀.heap.get? b = some o∧X.H₀ b = none
 bsz : X.base.objs.size ≤ X.s₀.heap.objs.size
 noex : ∀ b o,X.base.get? b = some o→b ∉ X.ex
 exfs : ∀ b ∈ X.ex,b ∉ X.fs
 funs : X.s₀.heap.FunFrames X.base X.outer
 frf : ∀ b ∈ X.fs,X.H₀ b = none
structure Inv (X : Cx) (pins : List (Addr × Obj)) (σ : List (Option V)) (H : Hp) (s : Shared) : Prop where
 ok : X.Ok
 os : s.os = X.s₀.os
 bare : AllBare s.gens
 base : Un X.fs X.ex X.H₀ H X.s₀.heap s.heap
 loc : ∃ m,s.heap.Ns X.env.locals m∧∀ (i : Nat) (x : Str) (v : V),X.N[i]? = some x→σ[i]? = some (some v)→Vis X.env.scope x→∃ u,RelV v u∧Look X.env s.heap m x u
 cell : ∀ x c,X.env.cells.lookup x = some c→∃ v,s.heap.IsCell c v
 free : H X.env.locals = none
 freeC : ∀ x c,X.env.cells.lookup x = some c→H c = none
 pin : ∀ p ∈ X.pn ++ pins,s.heap.get? p.1 = some p.2∧H p.1 = none∧p.1 ≠ X.env.locals∧p.1 ∉ X.fs∧∀ v,p.2.data ≠ .cell v
 hok : HOk X.prog X.w H s.heap
 len : σ.length = X.N.length
section
variable {X : Cx} {pins : List (Addr × Obj)} {σ : List (Option V)} {H H' : Hp} {s : Shared} {h' : Heap}
theorem Cx.Ok.nofr (ok : X.Ok) {b : Addr} {o : Obj} (e : X.base.get? b = some o) : b ∉ X.fs:=fun hb=>by
 have:=(ok.funs.mem hb).1
 rw [e] at this; cases this
theorem Inv.bs (I : Inv X pins σ H s) : ∀ b o,X.base.get? b = some o→s.heap.get? b = some o∧H b = none:=fun b o e =>
 ⟨I.base.keep b o (I.ok.bs b o e).1 (I.ok.bs b o e).2 (I.ok.nofr e) (I.ok.noex b o e),I.base.free b o (I.ok.bs b o e).1 (I.ok.bs b o e).2 (I.ok.noex b o e)⟩
theorem Inv.bk (I : Inv X pins σ H s) : ∀ b o,X.base.get? b = some o→s.heap.get? b = some o:=fun b o e=>(I.bs b o e).1
theorem Inv.mod (I : Inv X pins σ H s) : Mod X.K X.mg X.base:=I.ok.mod
theorem Inv.kIn (I : Inv X pins σ H s) : X.K.In s.heap:=I.ok.mod.kin.keeps I.bk
theorem Inv.nolimit (I : Inv X pins σ H s) : s.heap.NoLimit:=I.ok.mod.nolimit.keeps I.bk
theorem Inv.fr (I : Inv X pins σ H s) : ∃ m,Fr X.base X.env.locals s.heap m :=
 let ⟨m,hn,_⟩:=I.loc
 ⟨m,hn,I.bk,Nat.le_trans I.ok.bsz I.ok.above⟩
theorem Inv.lt (I : Inv X pins σ H s) : X.env.locals < s.heap.objs.size:=let ⟨_,hn,_⟩:=I.loc; hn.lt
theorem Inv.sz (I : Inv X pins σ H s) : X.s₀.heap.objs.size ≤ s.heap.objs.size:=Nat.le_trans I.ok.above (Nat.le_of_lt I.lt)
theorem Inv.nofs (I : Inv X pins σ H s) {a : Addr} (h : s.heap.objs.size ≤ a) : a ∉ X.fs:=fun hb=>by
 obtain ⟨_,o,ho,_⟩:=I.ok.funs.mem hb
 exact absurd (Nat.lt_of_lt_of_le (Heap.lt_size ho) (Nat.le_trans I.sz h)) (Nat.lt_irrefl _)
theorem Inv.cne (I : Inv X pins σ H s) : ∀ x c,X.env.cells.lookup x = some c→c ≠ X.env.locals:=fun x c e z=>by
 obtain ⟨v,o,ho,hd⟩:=I.cell x c e
 obtain ⟨m,⟨o',es,ep,ho',hd',_⟩,_⟩:=I.loc
 rw [z,ho'] at ho; cases ho; rw [hd'] at hd; cases hd
theorem Inv.funs (I : Inv X pins σ H s) : s.heap.FunFrames X.base X.outer:=by
 have all : ∀ (l : List Env),(∀ b ∈ frs l,b ∈ X.fs)→X.s₀.heap.FunFrames X.base l→s.heap.FunFrames X.base l:=by
  intro l
  induction l with
  | nil=>intro _ _; trivial
  | cons env r ih =>
   intro hs hl
   obtain ⟨hk,⟨L,o,hf,hn,ho,hd⟩,hr⟩:=hl
   have hL : L ∈ X.fs:=hs L (by unfold frs; rw [List.filterMap_cons,hf]; exact List.mem_cons_self)
   obtain ⟨sl,e⟩:=I.base.slot L o ho (I.ok.frf L hL) hL fun z=>I.ok.exfs L z hL
   exact ⟨hk,⟨L,_,hf,hn,e,hd⟩,ih (fun b hb=>hs b (by unfold frs; rw [List.filterMap_cons,hf]; exact List.mem_cons_of_mem _ hb)) hr⟩
 exact all X.outer (fun _ hb=>hb) I.ok.funs
theorem Inv.stack (I : Inv X pins σ H s) : s.heap.FunFrames X.base X.stack:=by
 rcases I.ok.stk with e | ⟨e,hf⟩
 ·rw [e]; exact I.funs
 ·rw [e]
  obtain ⟨m,hn,_⟩:=I.loc
  refine .cons (by rw [I.ok.kind]; decide) hf hn ?_ I.funs
  exact Heap.get?_none_of_le (Nat.le_trans I.ok.bsz I.ok.above)
theorem Inv.stkSub (I : Inv X pins σ H s) : ∀ b ∈ frs X.stack,b ∈ X.env.locals :: X.fs:=fun b hb=>by
 rcases I.ok.stk with e | ⟨e,hf⟩
 ·rw [e] at hb; exact List.mem_cons_of_mem _ hb
 ·rw [e] at hb
  unfold frs at hb
  rw [List.filterMap_cons,hf] at hb
  exact hb
theorem Inv.stkFree (I : Inv X pins σ H s) : ∀ b ∈ frs X.stack,H b = none:=fun b hb=>by
 rcases List.mem_cons.mp (I.stkSub b hb) with e | hb
 ·rw [e]; exact I.free
 ·obtain ⟨_,o,ho,_⟩:=I.ok.funs.mem hb
  exact I.base.free b o ho (I.ok.frf b hb) fun z=>I.ok.exfs b z hb
theorem Inv.step {g' : Array GenState} {t' : Nat} {d' : Drawn} {ch : List Addr} (I : Inv X pins σ H s)
  (hch : ∀ b ∈ ch,(b ∈ X.ex ∨ X.s₀.heap.objs.size ≤ b)∧b ≠ X.env.locals∧(∀ x c,X.env.cells.lookup x = some c→c ≠ b)∧∀ p ∈ X.pn ++ pins,p.1 ≠ b)
  (keep : ∀ b o,b ≠ X.env.locals→b ∉ X.fs→b ∉ ch→s.heap.get? b = some o→H b = none→h'.get? b = some o)
  (slot : ∀ b o,b ≠ X.env.locals→b ∈ X.fs→b ∉ ch→s.heap.get? b = some o→H b = none→∃ sl,h'.get? b = some { o with slots:=sl }) (free : ∀ b o,b ∉ ch→s.heap.get? b = some o→H b = none→H' b = none)
  (there : ∀ b o,b ∉ ch→s.heap.get? b = some o→∃ o',h'.get? b = some o')
  (tups : ∀ b xs,H b = some (.tup xs)→H' b = some (.tup xs)) (frzs : ∀ b o u,H b = some (.frz o u)→H' b = some (.frz o u)) (tbls : ∀ b ps,H b = some (.tbl ps)→∃ more,H' b = some (.tbl (ps ++ more)))
  (ns : ∀ m,s.heap.Ns X.env.locals m→h'.Ns X.env.locals m) (hok : HOk X.prog X.w H' h') (hg : AllBare g') :
  Inv X pins σ H' { s with heap:=h',gens:=g',drawn:=d',toks:=t' }:=by
 have neL : ∀ b o,X.s₀.heap.get? b = some o→b ≠ X.env.locals:=fun b o e=>Nat.ne_of_lt (Nat.lt_of_lt_of_le (Heap.lt_size e) I.ok.above)
 have neC : ∀ b o,X.s₀.heap.get? b = some o→b ∉ X.ex→b ∉ ch:=fun b o e hx hb=>by
  rcases (hch b hb).1 with z | z
  ·exact hx z
  ·exact absurd (Nat.lt_of_lt_of_le (Heap.lt_size e) z) (Nat.lt_irrefl _)
 have cellK : ∀ x c,X.env.cells.lookup x = some c→∀ v,s.heap.IsCell c v→h'.IsCell c v:=fun x c e v ⟨o,ho,hd⟩=>by
  have nch : c ∉ ch:=fun z=>(hch c z).2.2.1 x c e rfl
  by_cases hc : c ∈ X.fs
  ·obtain ⟨sl,q⟩:=slot c o (I.cne x c e) hc nch ho (I.freeC x c e)
   exact ⟨_,q,hd⟩
  ·exact ⟨o,keep c o (I.cne x c e) hc nch ho (I.freeC x c e),hd⟩
 refine ⟨I.ok,I.os,hg,⟨fun b o e n hb hx=>?_,fun b o e n hb hx=>?_,fun b o e n hx=>?_,fun b o e hx=>?_,fun b xs e=>tups b xs (I.base.tups b xs e),fun b o xs e=>frzs b o xs (I.base.frzs b o xs e),fun b ps e=>?_⟩,?_,fun x c e=>?_,?_,fun x c e=>?_,fun p hp=>?_,hok,I.len⟩
 ·exact keep b o (neL b o e) hb (neC b o e hx) (I.base.keep b o e n hb hx) (I.base.free b o e n hx)
 ·obtain ⟨sl,e1⟩:=I.base.slot b o e n hb hx
  obtain ⟨sl',e2⟩:=slot b _ (neL b o e) hb (neC b o e hx) e1 (I.base.free b o e n hx)
  exact ⟨sl',e2⟩
 ·obtain ⟨o',e1⟩:=I.base.there b o e hx
  exact free b o' (neC b o e hx) e1 (I.base.free b o e n hx)
 ·obtain ⟨o',e1⟩:=I.base.there b o e hx
  exact there b o' (neC b o e hx) e1
 ·obtain ⟨m1,e1⟩:=I.base.tbls b ps e
  obtain ⟨m2,e2⟩:=tbls b _ e1
  exact ⟨m1 ++ m2,by rw [e2,Array.append_assoc]⟩
 ·obtain ⟨m,hn,hl⟩:=I.loc
  refine ⟨m,ns m hn,fun i x v e1 e2 e3=>?_⟩
  obtain ⟨u,r,l⟩:=hl i x v e1 e2 e3
  refine ⟨u,r,?_⟩
  rcases l with l | ⟨k,c,e,z⟩
  ·exact .inl l
  ·exact .inr ⟨k,c,e,cellK x c e _ z⟩
 ·obtain ⟨v,z⟩:=I.cell x c e
  exact ⟨v,cellK x c e v z⟩
 ·obtain ⟨m,⟨o,_,_,ho,_⟩,_⟩:=I.loc
  exact free _ o (fun z=>(hch _ z).2.1 rfl) ho I.free
 ·obtain ⟨v,o,ho,hd⟩:=I.cell x c e
  exact free c o (fun z=>(hch c z).2.2.1 x c e rfl) ho (I.freeC x c e)
 ·obtain ⟨e,n,ne,nf,d⟩:=I.pin p hp
  have nch : p.1 ∉ ch:=fun z=>(hch p.1 z).2.2.2 p hp rfl
  exact ⟨keep p.1 p.2 ne nf nch e n,free p.1 p.2 nch e n,ne,nf,d⟩
theorem Inv.un {t' : Nat} (I : Inv X pins σ H s) (u : Un X.fs [] H H' s.heap h') (hok : HOk X.prog X.w H' h') : Inv X pins σ H' { s with heap:=h',toks:=t' }:=by
 obtain ⟨m,⟨o,es,ep,ho,r⟩,_⟩:=id I.loc
 obtain ⟨sl,hL⟩:=u.any ho I.free (by simp)
 exact I.step (g':=s.gens) (d':=s.drawn) (ch:=[]) (fun _ z=>nomatch z) (fun b o _ hb _ e n=>u.keep b o e n hb (by simp)) (fun b o _ hb _ e n=>u.slot b o e n hb (by simp)) (fun b o _ e n=>u.free b o e n (by simp)) (fun b o _ e=>u.there b o e (by simp)) u.tups u.frzs u.tbls (fun m' hm=>by
  obtain ⟨o',es',ep',ho',r'⟩:=hm
  rw [ho] at ho'; cases ho'
  exact ⟨_,es',ep',hL,r'⟩) hok I.bare
theorem Inv.call {g' : Array GenState} {t' : Nat} {d' : Drawn} {ch : List Addr} (I : Inv X pins σ H s) (u : Un (frs X.stack) ch H H' s.heap h') (hok : HOk X.prog X.w H' h') (hg : AllBare g')
  (hch : ∀ b ∈ ch,(b ∈ X.ex ∨ X.s₀.heap.objs.size ≤ b)∧b ≠ X.env.locals∧(∀ x c,X.env.cells.lookup x = some c→c ≠ b)∧∀ p ∈ X.pn ++ pins,p.1 ≠ b) :
  Inv X pins σ H' { s with heap:=h',gens:=g',drawn:=d',toks:=t' }:=by
 obtain ⟨m,⟨o,es,ep,ho,r⟩,_⟩:=id I.loc
 obtain ⟨sl,hL⟩:=u.any ho I.free fun z=>(hch _ z).2.1 rfl
 exact I.step (ch:=ch) hch (fun b o hL hb hc e n=>u.keep b o e n (fun z=>(List.mem_cons.mp (I.stkSub b z)).elim hL hb) hc) (fun b o _ _ hc e n=>u.any e n hc) (fun b o hc e n=>u.free b o e n hc) (fun b o hc e=>u.there b o e hc) u.tups u.frzs u.tbls (fun m' hm=>by
  obtain ⟨o',es',ep',ho',r'⟩:=hm
  rw [ho] at ho'; cases ho'
  exact ⟨_,es',ep',hL,r'⟩) hok hg
theorem Inv.turned {t' : Nat} {it : Addr} (I : Inv X pins σ H s) (k : ∀ b o,b ≠ it→s.heap.get? b = some o→h'.get? b = some o) (hn : H it = none) (hL : it ≠ X.env.locals)
  (h1 : it ∈ X.ex ∨ X.s₀.heap.objs.size ≤ it) (h2 : ∀ x c,X.env.cells.lookup x = some c→c ≠ it) (h3 : ∀ p ∈ X.pn ++ pins,p.1 ≠ it) : Inv X pins σ H { s with heap:=h',toks:=t' }:=by
 have nit : ∀ b u,H b = some u→b ≠ it:=fun b u e z=>by rw [z,hn] at e; cases e
 refine I.step (g':=s.gens) (d':=s.drawn) (ch:=[it]) (fun b hb=>?_) (fun b o _ _ hc e _=>k b o (fun z=>hc (by simp [z])) e) (fun b o _ _ hc e _=>⟨o.slots,k b o (fun z=>hc (by simp [z])) e⟩) (fun _ _ _ _ n=>n)
  (fun b o hc e=>⟨o,k b o (fun z=>hc (by simp [z])) e⟩) (fun _ _ e=>e) (fun _ _ _ e=>e) (fun b ps e=>⟨#[],by rw [e]; simp⟩) (fun m hm=>?_) (fun b u e=>?_) I.bare
 ·have e : b = it:=by simpa using hb
  subst e
  exact ⟨h1,hL,h2,h3⟩
 ·obtain ⟨o,es,ep,ho,r⟩:=hm
  exact ⟨o,es,ep,k _ o (Ne.symm hL) ho,r⟩
 ·refine (I.hok b u e).stay (fun c v hc q=>k c v ?_ q) (fun _ q=>q) fun _ _ q=>q
  rcases hc with z | z
  ·rw [z]; exact nit b u e
  ·exact nit c _ z
theorem Inv.tok (I : Inv X pins σ H s) (t : Nat) : Inv X pins σ H { s with toks:=t }:=I.un (h':=s.heap) (t':=t) Un.refl I.hok
theorem Inv.kept {t' : Nat} (I : Inv X pins σ H s) (k : ∀ b u,s.heap.get? b = some u→h'.get? b = some u) : Inv X pins σ H { s with heap:=h',toks:=t' }:=I.un (Un.kept k) (I.hok.kept k)
theorem Inv.laid {a : Addr} {o : HO} {t' : Nat} (I : Inv X pins σ H s) (k : ∀ b u,s.heap.get? b = some u→h'.get? b = some u) (hp : s.heap.objs.size ≤ a) (new : ObjOk X.prog X.w (upd H a o) h' a o) :
  Inv X pins σ (upd H a o) { s with heap:=h',toks:=t' }:=I.un (Un.laid k hp (I.hok.fresh hp)) (I.hok.laid k hp new)
theorem Inv.write {x e : Addr} {o : HO} {t' : Nat} (I : Inv X pins σ H s) (mu : Mut (H x)) (he : e = x ∨ H e = some (.own x)) (k : ∀ b u,b ≠ e→s.heap.get? b = some u→h'.get? b = some u) (heo : ∃ u,h'.get? e = some u)
  (new : ObjOk X.prog X.w (upd H x o) h' x o) : Inv X pins σ (upd H x o) { s with heap:=h',toks:=t' }:=I.un (Un.write mu he k heo) (I.hok.write mu he k heo new)
theorem Inv.pins_of {pins' : List (Addr × Obj)} (I : Inv X pins σ H s) (h : ∀ p ∈ pins',s.heap.get? p.1 = some p.2∧H p.1 = none∧p.1 ≠ X.env.locals∧p.1 ∉ X.fs∧∀ v,p.2.data ≠ .cell v) : Inv X pins' σ H s :=
 ⟨I.ok,I.os,I.bare,I.base,I.loc,I.cell,I.free,I.freeC,fun p hp=>(List.mem_append.mp hp).elim (fun z=>I.pin p (List.mem_append_left _ z)) (h p),I.hok,I.len⟩
theorem nodup_ix {N : List Str} (hN : N.Nodup) {i j : Nat} {x : Str} (a : N[i]? = some x) (b : N[j]? = some x) : i = j:=by
 obtain ⟨h1,e1⟩:=List.getElem?_eq_some_iff.mp a
 obtain ⟨h2,e2⟩:=List.getElem?_eq_some_iff.mp b
 exact (List.getElem_inj hN).mp (e1.trans e2.symm)
theorem store_ok2 {M : Model} {A : Around} {E : Value→Shared→Prop} {i : Nat} {x : Str} {v : V} {u : Value} {Q : Unit→Shared→Prop} (I : Inv X pins σ H s) (hN : X.N.Nodup) (hi : X.N[i]? = some x) (hx : Loc X.env.scope x) (r : RelV v u)
  (h : ∀ s',Inv X pins (σ.set i (some v)) H s'→(∃ a,Heap.SameBut a s.heap s'.heap∧(a = X.env.locals ∨ X.env.cells.lookup x = some a))→Q () s') (hf : X.fn x = true ∨ X.env.scope.names.lookup x = some .local:=by first | exact .inl rfl | exact .inr rfl | assumption) : wpAny M A (storeName X.env x u) Q E s:=by
 obtain ⟨m,hn,hl⟩:=id I.loc
 have hcls : (X.env.scope.kind == .class || (X.env.scope.kind == .module && X.env.locals != X.env.globals)) = false:=by rw [I.ok.kind]; rfl
 have hiσ : i < σ.length:=by rw [I.len]; exact (List.getElem?_eq_some_iff.mp hi).1
 have cne:=I.cne
 have tracked : ∀ {a : Addr} {h' : Heap},(∃ o,s.heap.get? a = some o∧H a = none)→Heap.SameBut a s.heap h'→HOk X.prog X.w H h':=fun {a h'} ha hs b ob e=>by
  obtain ⟨_,_,hfree⟩:=ha
  refine (I.hok b ob e).stay (fun c w' hc q=>(hs.2 c ?_).trans q) (fun _ q=>q) fun _ _ q=>q
  rintro rfl
  rcases hc with rfl | hc
  ·rw [hfree] at e; cases e
  ·rw [hfree] at hc; cases hc
 rcases hx with hk | hk
 ·refine wpAny_storeName_local hk hn (fun h' hn' hs=>?_) hcls
  obtain ⟨oL,_,_,hoL,_⟩:=id hn
  refine h _ ⟨I.ok,I.os,I.bare,⟨fun b o e n hb hx=>?_,fun b o e n hb hx=>?_,I.base.free,fun b o e hx=>?_,I.base.tups,I.base.frzs,I.base.tbls⟩,⟨_,hn',fun j y v' e1 e2 e3=>?_⟩,fun y c e=>?_,I.free,I.freeC,fun p hp=>?_,tracked ⟨oL,hoL,I.free⟩ hs,by simpa using I.len⟩ ⟨_,hs,.inl rfl⟩
  ·exact (hs.2 b (Nat.ne_of_lt (Nat.lt_of_lt_of_le (Heap.lt_size e) I.ok.above))).trans (I.base.keep b o e n hb hx)
  ·obtain ⟨sl,e1⟩:=I.base.slot b o e n hb hx
   exact ⟨sl,(hs.2 b (Nat.ne_of_lt (Nat.lt_of_lt_of_le (Heap.lt_size e) I.ok.above))).trans e1⟩
  ·obtain ⟨o',e1⟩:=I.base.there b o e hx
   exact ⟨o',(hs.2 b (Nat.ne_of_lt (Nat.lt_of_lt_of_le (Heap.lt_size e) I.ok.above))).trans e1⟩
  ·by_cases hj : j = i
   ·subst hj
    rw [hi] at e1; cases e1
    rw [List.getElem?_set_self hiσ] at e2
    cases e2
    exact ⟨u,r,.inl ⟨hk,by simp⟩⟩
   ·rw [List.getElem?_set_ne (Ne.symm hj)] at e2
    obtain ⟨u',r',q⟩:=hl j y v' e1 e2 e3
    refine ⟨u',r',?_⟩
    rcases q with ⟨k,e⟩ | ⟨k,c,e,z⟩
    ·refine .inl ⟨k,?_⟩
     have : y ≠ x:=fun e=>hj (nodup_ix hN e1 (e ▸ hi))
     simp [this,e]
    ·exact .inr ⟨k,c,e,z.sameBut hs (cne y c e)⟩
  ·obtain ⟨w',z⟩:=I.cell y c e
   exact ⟨w',z.sameBut hs (cne y c e)⟩
  ·obtain ⟨e,n,ne,nf,d⟩:=I.pin p hp
   exact ⟨(hs.2 p.1 ne).trans e,n,ne,nf,d⟩
 ·have hfn : X.fn x = true:=by
   rcases hf with z | z
   ·exact z
   ·rw [z] at hk; cases hk
  obtain ⟨c,hc⟩:=I.ok.has x (.inl hk)
  obtain ⟨w',z⟩:=I.cell x c hc
  refine wpAny_storeName_cell I.ok.kind hk hc z (fun h' hc' hs=>?_)
  obtain ⟨oc,hoc,hocd⟩:=id z
  refine h { s with heap:=h' } ⟨I.ok,I.os,I.bare,⟨fun b o e n hb hx=>?_,fun b o e n hb hx=>?_,I.base.free,fun b o e hx=>?_,I.base.tups,I.base.frzs,I.base.tbls⟩,⟨m,hn.sameBut hs (Ne.symm (cne x c hc)),fun j y v' e1 e2 e3=>?_⟩,fun y c' e=>?_,I.free,I.freeC,fun p hp=>?_,tracked ⟨oc,hoc,I.freeC x c hc⟩ hs,by simpa using I.len⟩ ⟨c,hs,.inr hc⟩
  ·exact (hs.2 b (Nat.ne_of_lt (Nat.lt_of_lt_of_le (Heap.lt_size e) (I.ok.cab x c hfn hc)))).trans (I.base.keep b o e n hb hx)
  ·obtain ⟨sl,e1⟩:=I.base.slot b o e n hb hx
   exact ⟨sl,(hs.2 b (Nat.ne_of_lt (Nat.lt_of_lt_of_le (Heap.lt_size e) (I.ok.cab x c hfn hc)))).trans e1⟩
  ·obtain ⟨o',e1⟩:=I.base.there b o e hx
   exact ⟨o',(hs.2 b (Nat.ne_of_lt (Nat.lt_of_lt_of_le (Heap.lt_size e) (I.ok.cab x c hfn hc)))).trans e1⟩
  ·by_cases hj : j = i
   ·subst hj
    rw [hi] at e1; cases e1
    rw [List.getElem?_set_self hiσ] at e2
    cases e2
    exact ⟨u,r,.inr ⟨.inl hk,c,hc,hc'⟩⟩
   ·rw [List.getElem?_set_ne (Ne.symm hj)] at e2
    obtain ⟨u',r',q⟩:=hl j y v' e1 e2 e3
    refine ⟨u',r',?_⟩
    rcases q with q | ⟨k,c',e,z'⟩
    ·exact .inl q
    ·refine .inr ⟨k,c',e,z'.sameBut hs ?_⟩
     rintro rfl
     exact hj (nodup_ix hN e1 (I.ok.inj _ _ _ e hc ▸ hi))
  ·by_cases hcc : c' = c
   ·subst hcc; exact ⟨_,hc'⟩
   ·obtain ⟨w2,z2⟩:=I.cell y c' e
    exact ⟨w2,z2.sameBut hs hcc⟩
  ·obtain ⟨e,n,ne,nf,d⟩:=I.pin p hp
   refine ⟨(hs.2 p.1 ?_).trans e,n,ne,nf,d⟩
   intro q
   rw [q,hoc] at e
   have q' : oc = p.2:=Option.some.inj e
   exact d w' (by rw [← q']; exact hocd)
theorem store_ok {M : Model} {A : Around} {E : Value→Shared→Prop} {i : Nat} {x : Str} {v : V} {u : Value} {Q : Unit→Shared→Prop} (I : Inv X pins σ H s) (hN : X.N.Nodup) (hi : X.N[i]? = some x) (hx : Loc X.env.scope x) (r : RelV v u)
  (h : ∀ s',Inv X pins (σ.set i (some v)) H s'→Q () s') (hf : X.fn x = true ∨ X.env.scope.names.lookup x = some .local:=by first | exact .inl rfl | exact .inr rfl | assumption) : wpAny M A (storeName X.env x u) Q E s :=
 store_ok2 I hN hi hx r (fun s' I' _=>h s' I') hf
theorem Inv.call' {s' : Shared} {ch : List Addr} (I : Inv X pins σ H s) (ho : s'.os = s.os) (u : Un (frs X.stack) ch H H' s.heap s'.heap) (hok : HOk X.prog X.w H' s'.heap) (hg : AllBare s'.gens)
  (hch : ∀ b ∈ ch,(b ∈ X.ex ∨ X.s₀.heap.objs.size ≤ b)∧b ≠ X.env.locals∧(∀ x c,X.env.cells.lookup x = some c→c ≠ b)∧∀ p ∈ X.pn ++ pins,p.1 ≠ b) : Inv X pins σ H' s':=by
 obtain ⟨h',g',d',t',o'⟩:=s'
 have e : o' = s.os:=ho
 subst e
 exact I.call (g':=g') (t':=t') (d':=d') u hok hg hch
end
abbrev XK:=Value→Option Addr→Hp→Prop
abbrev St:=List (Option V)
abbrev VK:=V→Hp→Prop
abbrev TE:=St→Hp→VK→Prop
abbrev TT:=St→Hp→(Bool→Hp→Prop)→Prop
abbrev TA:=St→Hp→(List V→Hp→Prop)→Prop
structure Ends where
 nx : St→Hp→Prop
 rt : VK
 bk : St→Hp→Prop:=fun _ _=>False
 ct : St→Hp→Prop:=fun _ _=>False
abbrev TS:=Ends→St→Hp→Prop
def EP (X : Cx) (pins : List (Addr × Obj)) (σ : St) (Q : VK) (u : Value) (s' : Shared) : Prop:=∃ v H',Inv X pins σ H' s'∧RelV v u∧Q v H'
def TP (X : Cx) (pins : List (Addr × Obj)) (σ : St) (Q : Bool→Hp→Prop) (b : Bool) (s' : Shared) : Prop:=∃ H',Inv X pins σ H' s'∧Q b H'
def AP (X : Cx) (pins : List (Addr × Obj)) (σ : St) (Q : List V→Hp→Prop) (us : List Value) (s' : Shared) : Prop:=∃ vs H',Inv X pins σ H' s'∧Vals vs us∧Q vs H'
def SP (X : Cx) (pins : List (Addr × Obj)) (D : Ends) (f : Flow) (s' : Shared) : Prop :=
 match f with
 | .next=>∃ σ' H',Inv X pins σ' H' s'∧D.nx σ' H'
 | .brk=>∃ σ' H',Inv X pins σ' H' s'∧D.bk σ' H'
 | .cont=>∃ σ' H',Inv X pins σ' H' s'∧D.ct σ' H'
 | .ret u=>∃ v σ' H',Inv X pins σ' H' s'∧RelV v u∧D.rt v H'
def PE (X : Cx) (e : Expr) (t : TE) : Prop :=
 ∀ (pins : List (Addr × Obj)) (s : Shared) (σ : St) (H : Hp) (Q : VK),Inv X pins σ H s→t σ H Q→wpAny (model X.prog X.w) X.A (eval e X.env) (EP X pins σ Q) X.xe s
def PT (X : Cx) (e : Expr) (t : TT) : Prop :=
 ∀ (pins : List (Addr × Obj)) (s : Shared) (σ : St) (H : Hp) (Q : Bool→Hp→Prop),Inv X pins σ H s→t σ H Q→wpAny (model X.prog X.w) X.A (isTrue e X.env (eval e X.env)) (TP X pins σ Q) X.xe s
def PW (X : Cx) (e : Expr) (t : TT) : Prop :=
 ∀ (whole : Sem Value) (pins : List (Addr × Obj)) (s : Shared) (σ : St) (H : Hp) (Q : Bool→Hp→Prop),Inv X pins σ H s→t σ H Q→wpAny (model X.prog X.w) X.A (isTrue e X.env whole) (TP X pins σ Q) X.xe s
theorem PW.pt {X : Cx} {e : Expr} {t : TT} (h : PW X e t) : PT X e t:=h _
def PA (X : Cx) (es : List Expr) (t : TA) : Prop :=
 ∀ (pos : Pos) (pins : List (Addr × Obj)) (s : Shared) (σ : St) (H : Hp) (Q : List V→Hp→Prop),Inv X pins σ H s→t σ H Q→wpAny (model X.prog X.w) X.A (spliced (backTo pos (starEach es X.env))) (AP X pins σ Q) X.xe s
def PS (X : Cx) (st : Stmt) (t : TS) : Prop :=
 ∀ (pins : List (Addr × Obj)) (s : Shared) (σ : St) (H : Hp) (D : Ends),Inv X pins σ H s→t D σ H→wpAny (model X.prog X.w) X.A (exec st X.env) (SP X pins D) X.xe s
def PSs (X : Cx) (st : List Stmt) (t : TS) : Prop :=
 ∀ (pins : List (Addr × Obj)) (s : Shared) (σ : St) (H : Hp) (D : Ends),Inv X pins σ H s→t D σ H→wpAny (model X.prog X.w) X.A (execs st X.env) (SP X pins D) X.xe s
theorem thn {α : Type} {t : Sem α} {Q Q' : α→Shared→Prop} {M : Model} {A : Around} {E : Value→Shared→Prop} {s : Shared} (h : wpAny M A t Q E s) (hQ : ∀ a s,Q a s→Q' a s) : wpAny M A t Q' E s:=wpAny_mono h hQ fun _ _ x=>x
end L2
namespace L2
open PySem PySem.Spec PyProof.Rows
section
variable {X : Cx}
inductive tVar (i : Nat) (σ : St) (H : Hp) (Q : VK) : Prop
 | mk : ∀ v,(σ[i]? = some (some v))→(Q v H)→tVar i σ H Q
def tC (v : V) : TE:=fun _ H Q=>Q v H
theorem pe_var {i : Nat} {x : Str} {pos : Pos} (hN : X.N[i]? = some x) (hv : Vis X.env.scope x) (hd : (x == ("__debug__" : Str)) = false := by decide) (hcd : (x == ("__classdict__" : Str)) = false := by decide) : PE X (.Name x pos) (tVar i) := by
 intro pins s σ H Q I h
 obtain ⟨v,e,h⟩:=h
 obtain ⟨m,hn,hl⟩:=I.loc
 obtain ⟨u,r,l⟩:=hl i x v hN e hv
 have fin : EP X pins σ Q u s:=⟨v,H,I,r,h⟩
 rcases l with ⟨hk,hm⟩ | ⟨hk,c,hc,hcell⟩
 ·exact wpAny_Name (wpAny_loadName_local I.ok.kind hk hn hm fin) hd
 ·rcases hk with hk | hk
  ·exact wpAny_Name (wpAny_loadName_cell I.ok.kind hk hc hcell fin) hd
  ·exact wpAny_Name (wpAny_loadName_free I.ok.kind hk hc hcell fin hcd) hd
theorem pe_int {i j pos} : PE X (.Constant (.int i) j pos) (tC (.int i)):=fun _ _ _ H _ I h=>wpAny_Constant_int ⟨.int i,H,I.tok _,⟨_,rfl⟩,h⟩
theorem pe_bl {b j pos} : PE X (.Constant (.bool b) j pos) (tC (.bl b)):=fun _ _ _ H _ I h=>Constant_bool ⟨.bl b,H,I,rfl,h⟩
theorem pe_non {j pos} : PE X (.Constant .none j pos) (tC .non):=fun _ _ _ H _ I h=>Constant_none ⟨.non,H,I,rfl,h⟩
theorem pe_str {x j pos} : PE X (.Constant (.str x) j pos) (tC (.str x)):=fun _ _ _ H _ I h=>Calls.Constant_str ⟨.str x,H,I.tok _,⟨_,rfl⟩,h⟩
def Gl (X : Cx) (x : Str) : Prop:=X.env.kindOf x = some .globalImplicit
theorem ld_glob {E : Value→Shared→Prop} {pins : List (Addr × Obj)} {s : Shared} {σ : St} {H : Hp} {x : Str} {u : Value} {pos : Pos} {Q : Value→Shared→Prop} (I : Inv X pins σ H s) (hg : Gl X x) (hm : X.mg x = some u) (h : Q u s)
  (hd : (x == ("__debug__" : Str)) = false := by decide) : wpAny (model X.prog X.w) X.A (eval (.Name x pos) X.env) Q E s :=
 Calls.Name_function_global I.ok.kind hg (Calls.loadGlobal_global (by rw [I.ok.glob]; exact I.mod.glob.keeps I.bk) hm h) hd
theorem ld_blt {E : Value→Shared→Prop} {pins : List (Addr × Obj)} {s : Shared} {σ : St} {H : Hp} {x : Str} {u : Value} {pos : Pos} {Q : Value→Shared→Prop} (I : Inv X pins σ H s) (hg : Gl X x) (hm : X.mg x = none) (hv : bootBuiltins x = some u) (h : Q u s)
  (hn : x ≠ "__name__" := by decide) (hd : (x == ("__debug__" : Str)) = false := by decide) : wpAny (model X.prog X.w) X.A (eval (.Name x pos) X.env) Q E s := by
 obtain ⟨mb,h1,h2⟩:=I.mod.blt
 exact Calls.Name_function_global I.ok.kind hg (Calls.loadGlobal_builtin (by rw [I.ok.glob]; exact I.mod.glob.keeps I.bk) hm (by rw [I.ok.blt]; exact h1.keeps I.bk) ((h2 x hn).trans hv) h) hd
theorem pe_glob {x : Str} {v : V} {u : Value} {pos : Pos} (hg : Gl X x) (hm : X.mg x = some u) (r : RelV v u) (hd : (x == ("__debug__" : Str)) = false := by decide) : PE X (.Name x pos) (tC v) :=
 fun _ _ _ H _ I h=>ld_glob I hg hm ⟨v,H,I,r,h⟩ hd
theorem pe_bltn {x : Str} {v : V} {u : Value} {pos : Pos} (hg : Gl X x) (hm : X.mg x = none) (hv : bootBuiltins x = some u) (r : RelV v u) (hn : x ≠ "__name__" := by decide) (hd : (x == ("__debug__" : Str)) = false := by decide) : PE X (.Name x pos) (tC v) :=
 fun _ _ _ H _ I h=>ld_blt I hg hm hv ⟨v,H,I,r,h⟩ hn hd
variable {a b : Expr} {ta tb : TE} {pos : Pos}
inductive IsB (Q : Bool→Hp→Prop) (x : V) (H : Hp) : Prop
 | mk : ∀ c,(x = .bl c)→(Q c H)→IsB Q x H
def tB (t : TE) : TT:=fun σ H Q=>t σ H (IsB Q)
theorem pt_val {e : Expr} {t : TE} (h : PE X e t) (he : ∀ whole,isTrue e X.env whole = (do let v ← whole; standAt e.pos; holding [v] (truthy v)):=by intro _; rfl) : PT X e (tB t):=by
 intro pins s σ H Q I hw
 refine isTrue_plain (thn (h pins s σ H _ I hw) fun v s1 ⟨x,H1,I1,r1,q1⟩=>?_) (he _)
 obtain ⟨d,rfl,q⟩:=q1
 cases r1
 exact wpAny_truthy_bool ⟨H1,I1,q⟩
variable {tA tB' : TT} {rest : List Expr}
def tAnd (t u : TT) : TT:=fun σ H Q=>t σ H fun c H1=>if c = true then u σ H1 Q else Q false H1
def tOr (t u : TT) : TT:=fun σ H Q=>t σ H fun c H1=>if c = true then Q true H1 else u σ H1 Q
def tNot (t : TT) : TT:=fun σ H Q=>t σ H fun c H1=>Q (!c) H1
theorem pw_and1 (ha : PT X a tA) : PW X (.BoolOp .And [a] pos) tA:=by
 intro wh pins s σ H Q I h
 refine isTrue_and (thn (ha pins s σ H Q I h) fun c s1 e=>?_)
 cases c with
 | true=>exact isTrue_and_nil e
 | false=>exact e
theorem pw_or1 (ha : PT X a tA) : PW X (.BoolOp .Or [a] pos) tA:=by
 intro wh pins s σ H Q I h
 refine isTrue_or (thn (ha pins s σ H Q I h) fun c s1 e=>?_)
 cases c with
 | false=>exact isTrue_or_nil e
 | true=>exact e
theorem pw_and (ha : PT X a tA) (hb : PW X (.BoolOp .And (b :: rest) pos) tB') : PW X (.BoolOp .And (a :: b :: rest) pos) (tAnd tA tB'):=by
 intro wh pins s σ H Q I h
 refine isTrue_and (thn (ha pins s σ H _ I h) fun c s1 ⟨H1,I1,q1⟩=>?_)
 cases c with
 | true=>exact hb wh pins s1 σ H1 Q I1 q1
 | false=>exact ⟨H1,I1,q1⟩
theorem pw_or (ha : PT X a tA) (hb : PW X (.BoolOp .Or (b :: rest) pos) tB') : PW X (.BoolOp .Or (a :: b :: rest) pos) (tOr tA tB'):=by
 intro wh pins s σ H Q I h
 refine isTrue_or (thn (ha pins s σ H _ I h) fun c s1 ⟨H1,I1,q1⟩=>?_)
 cases c with
 | true=>exact ⟨H1,I1,q1⟩
 | false=>exact hb wh pins s1 σ H1 Q I1 q1
theorem pt_not (ha : PT X a tA) : PT X (.UnaryOp .Not a pos) (tNot tA):=by
 intro pins s σ H Q I h
 exact isTrue_not (ha pins s σ H (fun c H1=>Q (!c) H1) I h)
def tAndV (ta tb : TE) : TE:=fun σ H Q=>ta σ H fun x H1=>∃ c,x = .bl c∧if c = true then tb σ H1 Q else Q (.bl false) H1
def tOrV (ta tb : TE) : TE:=fun σ H Q=>ta σ H fun x H1=>∃ c,x = .bl c∧if c = true then Q (.bl true) H1 else tb σ H1 Q
theorem pe_one {op} {t : TE} (h : PE X a t) : PE X (.BoolOp op [a] pos) t:=fun pins s σ H Q I hw=>BoolOp_one (h pins s σ H Q I hw)
theorem pe_and (ha : PE X a ta) (hb : PE X (.BoolOp .And (b :: rest) pos) tb) : PE X (.BoolOp .And (a :: b :: rest) pos) (tAndV ta tb):=by
 intro pins s σ H Q I h
 refine BoolOp_and (thn (ha pins s σ H _ I h) fun v s1 ⟨x,H1,I1,r1,q1⟩=>?_)
 obtain ⟨c,rfl,q1⟩:=q1
 cases r1
 refine wpAny_truthy_bool ?_
 cases c with
 | true=>exact hb pins s1 σ H1 Q I1 q1
 | false=>exact ⟨.bl false,H1,I1,rfl,q1⟩
theorem pe_or (ha : PE X a ta) (hb : PE X (.BoolOp .Or (b :: rest) pos) tb) : PE X (.BoolOp .Or (a :: b :: rest) pos) (tOrV ta tb):=by
 intro pins s σ H Q I h
 refine BoolOp_or (thn (ha pins s σ H _ I h) fun v s1 ⟨x,H1,I1,r1,q1⟩=>?_)
 obtain ⟨c,rfl,q1⟩:=q1
 cases r1
 refine wpAny_truthy_bool ?_
 cases c with
 | false=>exact hb pins s1 σ H1 Q I1 q1
 | true=>exact ⟨.bl true,H1,I1,rfl,q1⟩
def tIf (t : TT) (ta tb : TE) : TE:=fun σ H Q=>t σ H fun c H1=>if c = true then ta σ H1 Q else tb σ H1 Q
theorem pe_ifExp {c : Expr} (hc : PT X c tA) (ha : PE X a ta) (hb : PE X b tb) : PE X (.IfExp c a b pos) (tIf tA ta tb):=by
 intro pins s σ H Q I h
 refine wpAny_IfExp (thn (hc pins s σ H _ I h) fun d s1 ⟨H1,I1,q1⟩=>?_)
 cases d with
 | true=>exact ha pins s1 σ H1 Q I1 q1
 | false=>exact hb pins s1 σ H1 Q I1 q1
end
end L2
namespace L2
open PySem PySem.Spec PyProof.Rows
def SqL (K : PySem.W.Frag) (H : Hp) (a : Addr) (xs : List V) : Prop :=
 Rd H a (.lst xs) ∨
  ∃ (o : Obj) (its : Array Value) (n : Nat), K.lookup a = some o ∧ o.cls = .type "list" ∧ o.dict = none ∧ o.data = .seq its n ∧ its.size ≤ sizeLine ∧ Vals xs its.toList
def SqT (K : PySem.W.Frag) (H : Hp) (a : Addr) (xs : List V) : Prop :=
 Rd H a (.tup xs) ∨
  ∃ (o : Obj) (its : Array Value) (n : Nat), K.lookup a = some o ∧ o.cls = .type "tuple" ∧ o.data = .seq its n ∧ its.size ≤ sizeLine ∧ Vals xs its.toList
def absV : Value→Option V
 | .none=>some .non
 | .bool b=>some (.bl b)
 | .int i _=>some (.int i)
 | .str x _=>some (.str x)
 | .bytes b _=>some (.byt b)
 | .float b _=>some (.flt b)
 | .ref a=>some (.ref a)
 | .type n=>some (.ty n)
 | _=>none
theorem RelV.abs {x : V} {u : Value} (r : RelV x u) : absV u = some x:=by
 cases x with
 | non=>cases r; rfl
 | bl _=>cases r; rfl
 | int _=>obtain ⟨t,rfl⟩:=r; rfl
 | str _=>obtain ⟨t,rfl⟩:=r; rfl
 | byt _=>obtain ⟨t,rfl⟩:=r; rfl
 | flt _=>obtain ⟨t,rfl⟩:=r; rfl
 | ref _=>cases r; rfl
 | ty _=>cases r; rfl
theorem RelV.inj {x y : V} {u : Value} (r : RelV x u) (q : RelV y u) : x = y:=Option.some.inj (r.abs.symm.trans q.abs)
theorem Vals.inj : ∀ {xs ys : List V} {us : List Value},Vals xs us→Vals ys us→xs = ys
 | _,_,_,.nil,.nil=>rfl
 | _,_,_,.cons r t,.cons r' t'=>by rw [r.inj r',Vals.inj t t']
section
variable {X : Cx} {pins : List (Addr × Obj)} {σ : St} {H : Hp} {s : Shared} {a : Addr} {xs ys : List V}
theorem SqL.of {K : PySem.W.Frag} (h : H a = some (.lst xs)) : SqL K H a xs:=.inl (.inl h)
theorem SqT.of {K : PySem.W.Frag} (h : H a = some (.tup xs)) : SqT K H a xs:=.inl (.inl h)
theorem Inv.list (I : Inv X pins σ H s) (h : SqL X.K H a xs) : ∃ its : List Value,Vals xs its∧PlainL s.heap a its.toArray∧xs.length ≤ sizeLine:=by
 rcases h with h | ⟨o,its,n,hk,hc,hd,hs,hz,r⟩
 ·obtain ⟨z,its,n,r,e⟩:=h.ok I.hok
  exact ⟨its,r,⟨_,n,e,rfl,rfl,rfl⟩,z⟩
 ·refine ⟨its.toList,r,⟨o,n,I.kIn a o hk,hc,hd,by simpa using hs⟩,?_⟩
  have e:=r.length
  simp only [Array.length_toList] at e
  omega
theorem Inv.tuple (I : Inv X pins σ H s) (h : SqT X.K H a xs) : ∃ its : List Value,Vals xs its∧IsTup s.heap a its.toArray∧xs.length ≤ sizeLine:=by
 rcases h with h | ⟨o,its,n,hk,hc,hs,hz,r⟩
 ·obtain ⟨z,its,r,p⟩:=h.ok I.hok
  exact ⟨its,r,p,z⟩
 ·refine ⟨its.toList,r,⟨o,I.kIn a o hk,hc,n,by simpa using hs⟩,?_⟩
  have e:=r.length
  simp only [Array.length_toList] at e
  omega
theorem Inv.list_inj (I : Inv X pins σ H s) (h : SqL X.K H a xs) (h' : SqL X.K H a ys) : xs = ys:=by
 obtain ⟨its,r,⟨o,n,e,_,_,d⟩,_⟩:=I.list h
 obtain ⟨its',r',⟨o',n',e',_,_,d'⟩,_⟩:=I.list h'
 rw [e] at e'; cases e'
 rw [d] at d'
 injection d' with d1 _
 have : its = its':=by simpa using congrArg Array.toList d1
 subst this
 exact r.inj r'
end
abbrev Cx.wish (X : Cx) (E : Value→Shared→Prop) : Cx:={ X with xe:=E }
abbrev Cx.nox (X : Cx) : Cx:=X.wish fun _ _=>False
theorem Cx.Ok.wish {X : Cx} (ok : X.Ok) (E : Value→Shared→Prop) : (X.wish E).Ok :=
 ⟨ok.mod,ok.kind,ok.glob,ok.blt,ok.above,ok.inj,ok.has,ok.cab,ok.hd,ok.frames,ok.stk,ok.exf,ok.bs,ok.bsz,ok.noex,ok.exfs,ok.funs,ok.frf⟩
theorem Cx.Ok.unwish {X : Cx} {E : Value→Shared→Prop} (ok : (X.wish E).Ok) : X.Ok :=
 ⟨ok.mod,ok.kind,ok.glob,ok.blt,ok.above,ok.inj,ok.has,ok.cab,ok.hd,ok.frames,ok.stk,ok.exf,ok.bs,ok.bsz,ok.noex,ok.exfs,ok.funs,ok.frf⟩
section
variable {X : Cx} {pins : List (Addr × Obj)} {σ : St} {H : Hp} {s : Shared} {E : Value→Shared→Prop}
theorem Inv.wish (I : Inv X pins σ H s) (E : Value→Shared→Prop) : Inv (X.wish E) pins σ H s:=⟨I.ok.wish E,I.os,I.bare,I.base,I.loc,I.cell,I.free,I.freeC,I.pin,I.hok,I.len⟩
theorem Inv.unwish (I : Inv (X.wish E) pins σ H s) : Inv X pins σ H s:=⟨I.ok.unwish,I.os,I.bare,I.base,I.loc,I.cell,I.free,I.freeC,I.pin,I.hok,I.len⟩
theorem SP.unwish {D : Ends} {f : Flow} {s' : Shared} (h : SP (X.wish E) pins D f s') : SP X pins D f s':=by
 cases f with
 | next=>obtain ⟨σ',H',I,q⟩:=h; exact ⟨σ',H',I.unwish,q⟩
 | brk=>obtain ⟨σ',H',I,q⟩:=h; exact ⟨σ',H',I.unwish,q⟩
 | cont=>obtain ⟨σ',H',I,q⟩:=h; exact ⟨σ',H',I.unwish,q⟩
 | ret u=>obtain ⟨v,σ',H',I,r,q⟩:=h; exact ⟨v,σ',H',I.unwish,r,q⟩
theorem PE.nox {e : Expr} {t : TE} (h : PE X.nox e t) : PE X e t:=fun pins s σ H Q I hw =>
 wpAny_mono (h pins s σ H Q (I.wish _) hw) (fun _ _ ⟨v,H',I',r,q⟩=>⟨v,H',I'.unwish,r,q⟩) fun _ _ z=>False.elim z
theorem PT.nox {e : Expr} {t : TT} (h : PT X.nox e t) : PT X e t:=fun pins s σ H Q I hw =>
 wpAny_mono (h pins s σ H Q (I.wish _) hw) (fun _ _ ⟨H',I',q⟩=>⟨H',I'.unwish,q⟩) fun _ _ z=>False.elim z
theorem PSs.nox {st : List Stmt} {t : TS} (h : PSs X.nox st t) : PSs X st t:=fun pins s σ H D I hw =>
 wpAny_mono (h pins s σ H D (I.wish _) hw) (fun _ _ q=>q.unwish) fun _ _ z=>False.elim z
end
section
variable {X : Cx} {st : Stmt} {rest : List Stmt} {t u : TS} {e : Expr} {te : TE} {pos : Pos}
def tNext : TS:=fun D σ H=>D.nx σ H
def tSeq (t u : TS) : TS:=fun D σ H=>t { D with nx:=u D } σ H
theorem pss_nil : PSs X [] tNext:=fun _ _ σ H _ I h=>wpAny_execs_nil ⟨σ,H,I,h⟩
theorem pss_cons (h1 : PS X st t) (h2 : PSs X rest u) : PSs X (st :: rest) (tSeq t u):=by
 intro pins s σ H D I h
 refine wpAny_execs_cons (thn (h1 pins s σ H { D with nx:=u D } I h) fun f s1 q=>?_)
 cases f with
 | next =>
  obtain ⟨σ',H',I',q⟩:=q
  exact h2 pins s1 σ' H' D I' q
 | ret v=>exact q
 | brk=>exact q
 | cont=>exact q
theorem pss_one (h1 : PS X st t) : PSs X [st] t:=by
 intro pins s σ H D I h
 refine wpAny_execs_cons (thn (h1 pins s σ H D I h) fun f s1 q=>?_)
 cases f with
 | next=>exact wpAny_execs_nil q
 | ret v=>exact q
 | brk=>exact q
 | cont=>exact q
theorem Inv.quiet {pins : List (Addr × Obj)} {σ : St} {H : Hp} {s : Shared} (I : Inv X pins σ H s) : interactive X.env = false:=by simp [interactive,I.ok.kind]
def tDrop (te : TE) : TS:=fun D σ H=>te σ H fun _ H1=>D.nx σ H1
theorem ps_expr (he : PE X e te) (hs : swapsWith e none pos.line X.env = pure false:=by rfl) : PS X (.Expr e pos) (tDrop te):=by
 intro pins s σ H D I h
 exact wpAny_Expr_any (thn (he pins s σ H _ I h) fun v s1 ⟨x,H1,I1,r1,q1⟩=>⟨σ,H1,I1,q1⟩) I.quiet hs
def tRet (te : TE) : TS:=fun D σ H=>te σ H D.rt
theorem ps_ret (he : PE X e te) : PS X (.Return (some e) pos) (tRet te):=by
 intro pins s σ H D I h
 exact wpAny_Return_some (thn (he pins s σ H _ I h) fun v s1 ⟨x,H1,I1,r1,q1⟩=>⟨x,σ,H1,I1,r1,q1⟩)
def tIfS (c : TT) (t u : TS) : TS:=fun D σ H=>c σ H fun b H1=>if b = true then t D σ H1 else u D σ H1
theorem ps_if {c : Expr} {a b : List Stmt} {tc : TT} (hc : PT X c tc) (ha : PSs X a t) (hb : PSs X b u) : PS X (.If c a b pos) (tIfS tc t u):=by
 intro pins s σ H D I h
 refine wpAny_If (thn (hc pins s σ H _ I h) fun d s1 ⟨H1,I1,q1⟩=>?_)
 cases d with
 | true=>exact ha pins s1 σ H1 D I1 q1
 | false=>exact hb pins s1 σ H1 D I1 q1
def tNever : TS:=fun _ _ _=>False
theorem ps_never : PS X st tNever:=fun _ _ _ _ _ _ h=>h.elim
end
abbrev TG:=V→St→Hp→(St→Hp→Prop)→Prop
abbrev TGs:=List V→St→Hp→(St→Hp→Prop)→Prop
def PG (X : Cx) (target : Expr) (t : TG) : Prop :=
 ∀ (pins : List (Addr × Obj)) (s : Shared) (σ : St) (H : Hp) (v : V) (u : Value) (Q : St→Hp→Prop),Inv X pins σ H s→RelV v u→t v σ H Q →
  wpAny (model X.prog X.w) X.A (assign target X.env u) (fun _ s'=>∃ σ' H',Inv X pins σ' H' s'∧Q σ' H') X.xe s
def PGs (X : Cx) (ts : List Expr) (t : TGs) : Prop :=
 ∀ (pins : List (Addr × Obj)) (s : Shared) (σ : St) (H : Hp) (vs : List V) (us : List Value) (Q : St→Hp→Prop),Inv X pins σ H s→Vals vs us→t vs σ H Q →
  wpAny (model X.prog X.w) X.A (assignInOrder ((assignEach ts X.env).map (·.2)) us) (fun _ s'=>∃ σ' H',Inv X pins σ' H' s'∧Q σ' H') X.xe s
abbrev TSet:=V→V→V→Hp→(Hp→Prop)→Prop
def PSet (X : Cx) (t : TSet) : Prop :=
 ∀ (pins : List (Addr × Obj)) (s : Shared) (σ : St) (H : Hp) (o i v : V) (ov iv u : Value) (Q : Hp→Prop),Inv X pins σ H s→RelV o ov→RelV i iv→RelV v u→t o i v H Q →
  wpAny (model X.prog X.w) X.A (setItem ov iv u) (fun _ s'=>∃ H',Inv X pins σ H' s'∧Q H') X.xe s
section
variable {X : Cx} {pos : Pos}
def gName (i : Nat) : TG:=fun v σ H Q=>Q (σ.set i (some v)) H
theorem pg_name {i : Nat} {x : Str} (hN : X.N.Nodup) (hi : X.N[i]? = some x) (hx : Loc X.env.scope x) (hf : X.fn x = true ∨ X.env.scope.names.lookup x = some .local:=by first | exact .inl rfl | exact .inr rfl | assumption) : PG X (.Name x pos) (gName i):=by
 intro pins s σ H v u Q I r h
 exact wpAny_assign_Name (store_ok I hN hi hx r (fun s' I'=>⟨_,H,I',h⟩) hf)
def gNil : TGs:=fun vs σ H Q=>vs = []∧Q σ H
inductive gCons (t : TG) (u : TGs) (vs : List V) (σ : St) (H : Hp) (Q : St→Hp→Prop) : Prop
 | mk : ∀ v r,(vs = v :: r)→(t v σ H fun σ' H'=>u r σ' H' Q)→gCons t u vs σ H Q
theorem pgs_nil : PGs X [] gNil:=by
 intro pins s σ H vs us Q I r h
 obtain ⟨e,h⟩:=h
 subst e
 cases r
 exact assignInOrder_nil ⟨σ,H,I,h⟩
theorem pgs_cons {e : Expr} {es : List Expr} {t : TG} {u : TGs} (h1 : PG X e t) (h2 : PGs X es u)
  (hs : (assignEach (e :: es) X.env).map (·.2) = assign e X.env :: (assignEach es X.env).map (·.2):=by rfl) : PGs X (e :: es) (gCons t u):=by
 intro pins s σ H vs us Q I r h
 obtain ⟨v,vr,e1,h⟩:=h
 subst e1
 cases r with
 | cons r rr =>
  rw [hs]
  refine assignInOrder_cons (thn (h1 pins s σ H _ _ _ I r h) fun _ s1 ⟨σ1,H1,I1,q1⟩=>?_)
  exact h2 pins s1 σ1 H1 _ _ Q I1 rr q1
inductive gTup (K : PySem.W.Frag) (n : Nat) (t : TGs) (v : V) (σ : St) (H : Hp) (Q : St→Hp→Prop) : Prop
 | mk : ∀ a xs,(v = .ref a)→(SqT K H a xs)→(xs.length = n)→(t xs σ H Q)→gTup K n t v σ H Q
theorem pg_tup {es : List Expr} {k : Nat} {t : TGs} {n : Nat} (hc : X.calm = true) (h : PGs X es t)
  (hn : (assignEach es X.env).length = n:=by rfl) (hst : (assignEach es X.env).findIdx? (·.1) = none:=by rfl) : PG X (.Tuple es k pos) (gTup X.K n t):=by
 intro pins s σ H v u Q I r hw
 obtain ⟨a,xs,e1,hq,hl,hw⟩:=hw
 subst e1
 cases r
 obtain ⟨its,rv,ht,hz⟩:=I.tuple hq
 refine assign_Tuple_tuple (I.ok.hd hc) ht (by simp [hn,← hl,rv.length]) hst fun h' hx=>?_
 have I1 : Inv X pins σ H { s with heap:=h' }:=I.kept (t':=s.toks) fun b o e=>hx b o (Nat.ne_of_lt (Heap.lt_size e)) e
 exact h pins _ σ H xs _ Q I1 (by simpa using rv) hw
def gSub (to ti : TE) (t : TSet) : TG:=fun v σ H Q=>to σ H fun o H1=>ti σ H1 fun i H2=>t o i v H2 fun H3=>Q σ H3
theorem pg_sub {o i : Expr} {to ti : TE} {t : TSet} (ho : PE X o to) (hi : PE X i ti) (hs : PSet X t)
  (ha : ∀ v,assign (.Subscript o i pos) X.env v = (do
   let ov ← holding [v] (eval o X.env)
   let iv ← holding [v,ov] (eval i X.env)
   standAt pos
   holding [v,ov,iv] (setItem ov iv v)
   release [v,ov,iv] []):=by intro _; rfl) : PG X (.Subscript o i pos) (gSub to ti t):=by
 intro pins s σ H v u Q I r h
 rw [ha]
 refine wpAny_bind (wpAny_holding (thn (ho pins s σ H _ I h) fun ov s1 ⟨x,H1,I1,r1,q1⟩=>?_))
 refine wpAny_bind (wpAny_holding (thn (hi pins s1 σ H1 _ I1 q1) fun iv s2 ⟨y,H2,I2,r2,q2⟩=>?_))
 refine wpAny_bind (wpAny_standAt (wpAny_bind (wpAny_holding (thn (hs pins s2 σ H2 x y v ov iv u _ I2 r1 r2 r q2) fun _ s3 ⟨H3,I3,q3⟩=>?_))))
 exact wpAny_release ⟨σ,H3,I3,q3⟩
def tAsg (te : TE) (g : TG) : TS:=fun D σ H=>te σ H fun x H1=>g x σ H1 D.nx
theorem ps_asg {tg e : Expr} {te : TE} {g : TG} (he : PE X e te) (hg : PG X tg g) (hs : swapsWithSole [tg] e pos.line X.env = pure false:=by rfl) (hw : swappedStores [tg] e X.env = pure none:=by rfl)
  (h1 : (assignEach [tg] X.env).map (·.2) = [assign tg X.env]:=by rfl) : PS X (.Assign [tg] e pos) (tAsg te g):=by
 intro pins s σ H D I h
 refine wpAny_Assign_stores (thn (he pins s σ H _ I h) fun v s1 ⟨x,H1,I1,r1,q1⟩=>?_) hs hw
 rw [h1]
 exact thn (hg pins s1 σ H1 x v _ I1 r1 q1) fun _ s2 q=>q
theorem ps_set {i : Nat} {x : Str} {e : Expr} {te : TE} {pos' : Pos} (hN : X.N.Nodup) (hi : X.N[i]? = some x) (hx : Loc X.env.scope x) (he : PE X e te) (hs : swapsWith e (some (.Name x pos')) pos.line X.env = pure false:=by rfl) (hf : X.fn x = true ∨ X.env.scope.names.lookup x = some .local:=by first | exact .inl rfl | exact .inr rfl | assumption) :
  PS X (.Assign [.Name x pos'] e pos) (tAsg te (gName i)):=by
 intro pins s σ H D I h
 refine wpAny_Assign_Name (thn (he pins s σ H _ I h) fun v s1 ⟨y,H1,I1,r1,q1⟩=>?_) hs
 exact store_ok I1 hN hi hx r1 (fun s2 I2=>⟨_,H1,I2,q1⟩) hf
end
section
variable {X : Cx} {pos : Pos}
end
structure It where
 go : Nat→Hp→Prop
 yld : Nat→Hp→V→Hp→Prop
 stop : Nat→Hp→Prop
def FpOk (X : Cx) (pins : List (Addr × Obj)) (H : Hp) (b : Addr) : Prop :=
 H b = none∧b ≠ X.env.locals∧b ∉ X.fs∧(b ∈ X.ex ∨ X.s₀.heap.objs.size ≤ b)∧(∀ x c,X.env.cells.lookup x = some c→c ≠ b)∧∀ p ∈ X.pn ++ pins,p.1 ≠ b
theorem Inv.fpOk {X : Cx} {pins : List (Addr × Obj)} {σ : St} {H H' : Hp} {s : Shared} {b : Addr} (I : Inv X pins σ H s) (hb : s.heap.objs.size ≤ b) (hn : H' b = none) : FpOk X pins H' b:=by
 refine ⟨hn,Nat.ne_of_gt (Nat.lt_of_lt_of_le I.lt hb),I.nofs hb,.inr (Nat.le_trans I.sz hb),fun x c e z=>?_,fun p hp z=>?_⟩
 ·obtain ⟨v,q⟩:=I.cell x c e
  exact absurd (Nat.lt_of_lt_of_le q.lt (by rw [z]; exact hb)) (Nat.lt_irrefl _)
 ·exact absurd (Nat.lt_of_lt_of_le (Heap.lt_size (I.pin p hp).1) (by rw [z]; exact hb)) (Nat.lt_irrefl _)
structure Turn (P : Program) (w : World) (K : PySem.W.Frag) (tg : Expr) (J : It) (fp : List Addr) (it : Addr) (tn : Nat→Heap→Prop) : Prop where
 mem : it ∈ fp
 obj : ∀ i h,tn i h→∀ b ∈ fp,∃ o,h.get? b = some o∧∀ v,o.data ≠ .cell v
 keep : ∀ i h h',tn i h→(∀ b ∈ fp,∀ o,h.get? b = some o→h'.get? b = some o)→tn i h'
 item : ∀ (X : Cx),X.prog = P→X.w = w→X.K = K→X.calm = true→∀ (i : Nat) (pins : List (Addr × Obj)) (s : Shared) (σ : St) (H : Hp) (E : Value→Shared→Prop),Inv X pins σ H s→(∀ b ∈ fp,FpOk X pins H b)→tn i s.heap→J.go i H →
  wpAny (model P w) X.A (pyNext (.ref it)) (fun r s1=>∃ u,r = some u ∧
   wpAny (model P w) X.A (letOwnedTupleGo tg (.ref it) u) (fun _ s2=>∃ x H',Inv X pins σ H' s2∧RelV x u∧J.yld i H x H'∧tn (i + 1) s2.heap∧∀ b ∈ fp,H' b = none) E s1) E s
 done : ∀ (X : Cx),X.prog = P→X.w = w→X.K = K→X.calm = true→∀ (i : Nat) (pins : List (Addr × Obj)) (s : Shared) (σ : St) (H : Hp) (E : Value→Shared→Prop),Inv X pins σ H s→(∀ b ∈ fp,FpOk X pins H b)→tn i s.heap→J.stop i H →
  wpAny (model P w) X.A (pyNext (.ref it)) (fun r s1=>r = none∧Inv X pins σ H s1) E s
 self : ∀ (A : Around) (i : Nat) (s : Shared) (Q : Value→Shared→Prop) (E : Value→Shared→Prop),tn i s.heap→Q (.ref it) s→wpAny (model P w) A (pyIter (.ref it)) Q E s
abbrev TI:=St→Hp→(It→Hp→Prop)→Prop
def PIE (X : Cx) (pins : List (Addr × Obj)) (σ : St) (tg : Expr) (R : It→Hp→Prop) (itv : Value) (s2 : Shared) : Prop :=
 ∃ (it : Addr) (fp : List Addr) (tn : Nat→Heap→Prop) (J : It) (H' : Hp),itv = .ref it∧Inv X pins σ H' s2∧Turn X.prog X.w X.K tg J fp it tn∧tn 0 s2.heap∧(∀ b ∈ fp,FpOk X pins H' b)∧R J H'
def PI (X : Cx) (tg iter : Expr) (wi : TI) : Prop :=
 ∀ (pins : List (Addr × Obj)) (s : Shared) (σ : St) (H : Hp) (R : It→Hp→Prop),Inv X pins σ H s→wi σ H R →
  wpAny (model X.prog X.w) X.A (eval iter X.env) (fun v s1=>wpAny (model X.prog X.w) X.A (pyIter v) (PIE X pins σ tg R) X.xe s1) X.xe s
theorem go_of {M : Model} {A : Around} {E : Value→Shared→Prop} {s : Shared} {tg : Expr} {it : Addr} {u : Value} {o : Obj} {n : String} {vs : Array Value} {Q : Unit→Shared→Prop} (ho : s.heap.get? it = some o) (hc : o.cls = .type n) (hd : o.data = .fields vs)
  (hn : ["enumerate", "zip", "dict_itemiterator", "dict_reverseitemiterator", "odict_iterator", "itertools.zip_longest", "itertools.pairwise"].contains n = false) (hQ : Q () s) : wpAny M A (letOwnedTupleGo tg (.ref it) u) Q E s := by
 unfold letOwnedTupleGo
 cases tg <;> first
  | exact wpAny_pure hQ
  | (cases u <;> first
    | exact wpAny_pure hQ
    | (refine wpAny_bind (wpAny_load ho ?_)
       rw [hc,hd]
       show wpAny M A (if (["enumerate", "zip", "dict_itemiterator", "dict_reverseitemiterator", "odict_iterator", "itertools.zip_longest", "itertools.pairwise"].contains n && vs[0]? == some (rawInt _)) = true then _ else _) Q E s
       rw [if_neg (by intro h; rw [hn,Bool.false_and] at h; cases h)]
       exact wpAny_pure hQ))
def Itl (K : PySem.W.Frag) (a : Addr) : It :=
 ⟨fun i H=>∃ xs x,SqL K H a xs∧xs[i]? = some x,fun i H x H'=>H' = H∧∀ xs,SqL K H a xs→xs[i]? = some x,fun i H=>∃ xs,SqL K H a xs∧xs.length ≤ i⟩
def Itr (lo : Int) (n : Nat) : It:=⟨fun i _=>i < n,fun i H x H'=>H' = H∧x = .int (lo + i),fun i _=>n ≤ i⟩
theorem turn_list {P : Program} {w : World} {K : PySem.W.Frag} {tg : Expr} (a it : Addr) : Turn P w K tg (Itl K a) [it] it (fun i h=>h.IsListIter it a i) where
 mem:=by simp
 obj:=fun i h st b hb=>by
  have e : b = it:=by simpa using hb
  subst e
  obtain ⟨o,e,c,d⟩:=st
  exact ⟨o,e,fun v z=>by rw [d] at z; cases z⟩
 keep:=fun i h h' st k=>st.at fun o e=>k it (by simp) o e
 item:=by
  intro X hP hw hK hc i pins s σ H E I hf st hg
  subst hP hw hK
  obtain ⟨xs,x,hq,hx⟩:=hg
  obtain ⟨its,rv,p,hz⟩:=I.list hq
  obtain ⟨u,hu,ru⟩:=rv.get hx
  obtain ⟨f0,f1,f2,f3,f4,f5⟩:=hf it (by simp)
  refine wpAny_pyNext_list_item st p.isList (x:=u) (by simpa using hu) fun h' st' sb=>?_
  have I1 : Inv X pins σ H { s with heap:=h' }:=I.turned (t':=s.toks) (fun b o hb e=>(sb.2 b hb).trans e) f0 f1 f3 f4 f5
  obtain ⟨o,e,c,d⟩:=id st'
  exact ⟨u,rfl,go_of (s:={ s with heap:=h' }) e c d (by decide) ⟨x,H,I1,ru,⟨rfl,fun ys hy=>by rw [I.list_inj hy hq]; exact hx⟩,st',fun b hb=>(hf b hb).1⟩⟩
 done:=by
  intro X hP hw hK hc i pins s σ H E I hf st hg
  subst hP hw hK
  obtain ⟨xs,hq,hx⟩:=hg
  obtain ⟨its,rv,p,hz⟩:=I.list hq
  obtain ⟨f0,f1,f2,f3,f4,f5⟩:=hf it (by simp)
  have hl:=rv.length
  exact wpAny_pyNext_list_end (I.ok.hd hc) st p.isList (by simp; omega) fun h' eb=>⟨rfl,I.turned (t':=s.toks) (fun b o hb e=>eb b o hb e) f0 f1 f3 f4 f5⟩
 self:=fun _ _ _ _ _ st h=>wpAny_pyIter_listiter st h
theorem turn_range {P : Program} {w : World} {K : PySem.W.Frag} {tg : Expr} (it : Addr) (lo : Int) (n : Nat) : Turn P w K tg (Itr lo n) [it] it (fun i h=>IsRangeIter h it (lo + (i : Nat) * 1) ((n : Int) - (i : Nat)) 1) where
 mem:=by simp
 obj:=fun i h st b hb=>by
  have e : b = it:=by simpa using hb
  subst e
  exact ⟨_,st,fun v z=>by
   have z' : Data.fields _ = Data.cell v:=z
   cases z'⟩
 keep:=fun i h h' st k=>k it (by simp) _ st
 item:=by
  intro X hP hw hK hc i pins s σ H E I hf st hg
  subst hP hw hK
  obtain ⟨f0,f1,f2,f3,f4,f5⟩:=hf it (by simp)
  have W:=Walks.range (prog:=X.prog) (w:=X.w) (I.ok.hd hc) it lo 1 n
  refine W.item i s _ _ hg st fun v h' tk hv st' kk=>?_
  obtain ⟨t,rfl⟩:=hv
  have I1 : Inv X pins σ H { s with heap:=h',toks:=tk }:=I.turned (fun b o hb e=>kk b o (by simpa using hb) e) f0 f1 f3 f4 f5
  refine ⟨_, rfl, go_of (s := { s with heap := h', toks := tk }) (n := "range_iterator") st' rfl rfl (by decide) ⟨.int (lo + i), H, I1, ⟨t, ?_⟩, ⟨rfl, rfl⟩, st', fun b hb => (hf b hb).1⟩⟩
  rw [Int.mul_one]
 done:=by
  intro X hP hw hK hc i pins s σ H E I hf st hg
  subst hP hw hK
  obtain ⟨f0,f1,f2,f3,f4,f5⟩:=hf it (by simp)
  exact wpAny_pyNext_range_end (I.ok.hd hc) st (by have : n ≤ i:=hg; omega) fun h' eb=>⟨rfl,I.turned (t':=s.toks) (fun b o hb e=>eb b o hb e) f0 f1 f3 f4 f5⟩
 self:=fun _ _ _ _ _ st h=>wpAny_pyIter_rangeiter st h
end L2
namespace L2
open PySem PySem.Spec PyProof.Rows
section
variable {X : Cx} {tg : Expr}
def iList (K : PySem.W.Frag) (tl : TE) : TI:=fun σ H R=>tl σ H fun x H1=>∃ a,x = .ref a∧(∃ xs,SqL K H1 a xs)∧R (Itl K a) H1
theorem pi_list {l : Expr} {tl : TE} (hl : PE X l tl) : PI X tg l (iList X.K tl):=by
 intro pins s σ H R I h
 refine thn (hl pins s σ H _ I h) fun v s1 ⟨x,H1,I1,r1,q1⟩=>?_
 obtain ⟨a,e,⟨xs,hq⟩,q⟩:=q1
 subst e
 cases r1
 obtain ⟨its,rv,p,hz⟩:=I1.list hq
 refine wpAny_pyIter_list p.isList ?_
 refine ⟨s1.heap.objs.size,[s1.heap.objs.size],_,_,H1,rfl,I1.kept (t':=s1.toks) fun b o e=>Heap.get?_push_of_some _ e,turn_list a _,⟨_,Heap.get?_push_size _ rfl,rfl,rfl⟩,fun b hb=>?_,q⟩
 have e : b = s1.heap.objs.size:=by simpa using hb
 subst e
 exact I1.fpOk (Nat.le_refl _) (I1.hok.fresh (Nat.le_refl _))
theorem range_it {pins : List (Addr × Obj)} {σ : St} {H : Hp} {s : Shared} {R : It→Hp→Prop} {E : Value→Shared→Prop} {lo hi : Int} {t u v : Tok} {tk : Nat} (I : Inv X pins σ H s) (h1 : -(2 ^ 62) ≤ lo) (h2 : lo < 2 ^ 62) (h3 : -(2 ^ 62) ≤ hi) (h4 : hi < 2 ^ 62)
  (q : R (Itr lo (hi - lo).toNat) H) : wpAny (model X.prog X.w) X.A (pyIter (.ref s.heap.objs.size)) (PIE X pins σ tg R) E { s with heap := s.heap.push { cls := .type "range", data := .fields #[.int lo t, .int hi u, .int 1 v] }, toks := tk } := by
 refine wpAny_pyIter_range (IsRange.new ..) (small_one h1 h2 h3 h4) ?_
 have I1 : Inv X pins σ H { s with heap := s.heap.push { cls := .type "range", data := .fields #[.int lo t, .int hi u, .int 1 v] }, toks := tk } := I.kept fun b o e => Heap.get?_push_of_some _ e
 refine ⟨(s.heap.push { cls := .type "range", data := .fields #[.int lo t, .int hi u, .int 1 v] }).objs.size, [(s.heap.push { cls := .type "range", data := .fields #[.int lo t, .int hi u, .int 1 v] }).objs.size], _, _, H, rfl,
  I1.kept (t':=tk) fun b o e=>Heap.get?_push_of_some _ e,turn_range _ lo (hi - lo).toNat,?_,fun b hb=>?_,q⟩
 ·have e1 : lo + ((0 : Nat) : Int) * 1 = lo:=by simp
  have e2 : (((hi - lo).toNat : Nat) : Int) - ((0 : Nat) : Int) = Builtin.Range.rangeSize lo hi 1:=by rw [rangeSize_one]; split <;> omega
  show IsRangeIter _ _ (lo + ((0 : Nat) : Int) * 1) ((((hi - lo).toNat : Nat) : Int) - ((0 : Nat) : Int)) 1
  rw [e1,e2]
  exact Heap.get?_push_size _ rfl
 ·have e : b = (s.heap.push { cls := .type "range", data := .fields #[.int lo t, .int hi u, .int 1 v] }).objs.size := by simpa using hb
  subst e
  exact I1.fpOk (Nat.le_refl _) (I1.hok.fresh (Nat.le_refl _))
def iRng1 (ta : TA) : TI:=fun σ H R=>ta σ H fun vs H1=>∃ j : Int,vs = [.int j]∧-(2 ^ 62) ≤ j∧j < 2 ^ 62∧R (Itr 0 j.toNat) H1
theorem pi_range1 {a : Expr} {ta : TA} {p pos : Pos} (hg : Gl X "range") (hm : X.mg "range" = none) (ha : PA X [a] ta) (hs : starEach [a] X.env = [(false, eval a X.env)] := by rfl) : PI X tg (.Call (.Name "range" p) [a] [] pos) (iRng1 ta) := by
 intro pins s σ H R I h
 refine Call_ (ld_blt I hg hm boot_range (PyProof.Rows.callWith_type1 (thn (ha pos pins s σ H _ I h) fun us s1 ⟨vs,H1,I1,r1,q1⟩=>?_) hs rfl))
 obtain ⟨j,e,q1,q2,q⟩:=q1
 subst e
 cases r1 with
 | cons r rr =>
  cases rr
  obtain ⟨t,rfl⟩:=r
  exact call_range_1 (range_it I1 (by omega) (by omega) q1 q2 (by simpa using q))
def tFor (wi : TI) (g : TG) (tb : TS) : TS:=fun D σ H=>wi σ H fun J H1=>∃ W : Nat→Nat→St→Hp→Prop,(∃ m,W 0 m σ H1)∧∀ i m σ H,W i m σ H →
 (J.stop i H∧D.nx σ H) ∨ (J.go i H∧∃ N : St→Hp→Prop,(∀ σ' H',N σ' H'→∃ m',m' < m∧W (i + 1) m' σ' H')∧∀ x H',J.yld i H x H'→g x σ H' fun σ2 H2=>tb { D with nx:=N,ct:=N,bk:=D.nx } σ2 H2)
def pinsAt (fp : List Addr) (h : Heap) : List (Addr × Obj):=fp.filterMap fun b=>(h.get? b).map fun o=>(b,o)
theorem mem_pinsAt {fp : List Addr} {h : Heap} {b : Addr} {o : Obj} (hb : b ∈ fp) (e : h.get? b = some o) : (b,o) ∈ pinsAt fp h:=List.mem_filterMap.mpr ⟨b,hb,by rw [e]; rfl⟩
theorem of_pinsAt {fp : List Addr} {h : Heap} {p : Addr × Obj} (hp : p ∈ pinsAt fp h) : p.1 ∈ fp∧h.get? p.1 = some p.2:=by
 obtain ⟨b,hb,e⟩:=List.mem_filterMap.mp hp
 cases q : h.get? b with
 | none=>rw [q] at e; cases e
 | some o =>
  rw [q] at e
  have e' : (b,o) = p:=Option.some.inj e
  subst e'
  exact ⟨hb,q⟩
theorem Inv.pinned {pins : List (Addr × Obj)} {σ : St} {H : Hp} {s : Shared} {fp : List Addr} (I : Inv X pins σ H s) (hf : ∀ b ∈ fp,FpOk X pins H b) (ho : ∀ b ∈ fp,∃ o,s.heap.get? b = some o∧∀ v,o.data ≠ .cell v) : Inv X (pins ++ pinsAt fp s.heap) σ H s :=
 I.pins_of fun p hp=>(List.mem_append.mp hp).elim (fun z=>I.pin p (List.mem_append_right _ z)) fun z=>by
  obtain ⟨hb,e⟩:=of_pinsAt z
  obtain ⟨f0,f1,f2,_⟩:=hf p.1 hb
  obtain ⟨o,e',d⟩:=ho p.1 hb
  rw [e] at e'; cases e'
  exact ⟨e,f0,f1,f2,d⟩
theorem Inv.unpinned {pins pl : List (Addr × Obj)} {σ : St} {H : Hp} {s : Shared} (I : Inv X (pins ++ pl) σ H s) : Inv X pins σ H s:=I.pins_of fun p hp=>I.pin p (List.mem_append_right _ (List.mem_append_left _ hp))
theorem ps_for {iter : Expr} {body : List Stmt} {wi : TI} {g : TG} {tb : TS} {pos : Pos} (hp : PassesOwn (model X.prog X.w) X.A X.env X.xe) (hc : X.calm = true) (hi : PI X tg iter wi) (hg : PG X tg g) (hb : PSs X body tb)
  (hs : ∀ x,foldedSetIterable iter X.env x = pure x:=by intro _; rfl) : PS X (.For tg iter body [] pos) (tFor wi g tb):=by
 intro pins s σ H D I h
 refine wpAny_For (thn (hi pins s σ H _ I h) fun v s1 h1=>thn h1 fun itv s2 h2=>?_) hs
 obtain ⟨it,fp,tn,J,H2,e,I2,T,st2,f2,W,⟨m0,w0⟩,turn⟩:=h2
 subst e
 have stat : ∀ {H' : Hp},(∀ b ∈ fp,H' b = none)→∀ b ∈ fp,FpOk X pins H' b:=fun hn b hb=>⟨hn b hb,(f2 b hb).2⟩
 refine codeAny_forLoop_any (fun n s'=>∃ i σ' H',Inv X pins σ' H' s'∧tn i s'.heap∧(∀ b ∈ fp,H' b = none)∧W i n σ' H') ?_ m0 ⟨0,σ,H2,I2,st2,fun b hb=>(f2 b hb).1,w0⟩
 rintro n s3 ⟨i,σ3,H3,I3,st3,fr3,w3⟩
 rcases turn i n σ3 H3 w3 with ⟨stop,qn⟩ | ⟨go,N,hN,step⟩
 ·refine wpAny_passesOwn hp (thn (T.done X rfl rfl rfl hc i pins s3 σ3 H3 X.xe I3 (stat fr3) st3 stop) fun r s4 ⟨hr,I4⟩=>?_)
  subst hr
  exact wpAny_execs_nil ⟨σ3,H3,I4,qn⟩
 ·refine wpAny_passesOwn hp (thn (T.item X rfl rfl rfl hc i pins s3 σ3 H3 X.xe I3 (stat fr3) st3 go) fun r s4 ⟨u,hr,h4⟩=>?_)
  subst hr
  refine wpAny_passesOwn hp (thn h4 fun _ s5 ⟨x,H5,I5,r5,y5,st5,fr5⟩=>?_)
  have I5':=I5.pinned (stat fr5) (T.obj _ _ st5)
  refine wpAny_passesOwn hp (thn (hg _ s5 σ3 H5 x u _ I5' r5 (step x H5 y5)) fun _ s6 ⟨σ6,H6,I6,q6⟩=>?_)
  refine wpAny_passesOwn hp (thn (hb _ s6 σ6 H6 _ I6 q6) fun f s7 q7=>?_)
  have again : ∀ {σ7 : St} {H7 : Hp},Inv X (pins ++ pinsAt fp s5.heap) σ7 H7 s7→N σ7 H7→∃ m,m < n∧∃ i σ' H',Inv X pins σ' H' s7∧tn i s7.heap∧(∀ b ∈ fp,H' b = none)∧W i m σ' H':=fun {σ7 H7} I7 n7=>by
   obtain ⟨m',hm,w7⟩:=hN σ7 H7 n7
   refine ⟨m',hm,i + 1,σ7,H7,I7.unpinned,T.keep _ _ _ st5 fun b hb o e=>(I7.pin (b,o) (List.mem_append_right _ (List.mem_append_right _ (mem_pinsAt hb e)))).1,fun b hb=>?_,w7⟩
   obtain ⟨o,e,d⟩:=T.obj _ _ st5 b hb
   exact (I7.pin (b,o) (List.mem_append_right _ (List.mem_append_right _ (mem_pinsAt hb e)))).2.1
  cases f with
  | next=>obtain ⟨σ7,H7,I7,n7⟩:=q7; exact again I7 n7
  | cont=>obtain ⟨σ7,H7,I7,n7⟩:=q7; exact again I7 n7
  | brk=>obtain ⟨σ7,H7,I7,q7⟩:=q7; exact ⟨σ7,H7,I7.unpinned,q7⟩
  | ret v=>obtain ⟨x7,σ7,H7,I7,r7,q7⟩:=q7; exact ⟨x7,σ7,H7,I7.unpinned,r7,q7⟩
end
theorem for_list {K : PySem.W.Frag} {a : Addr} {xs : List V} {g : TG} {tb : TS} {D : Ends} {σ : St} {H : Hp} (Pv : Nat→St→Hp→Prop) (h0 : Pv 0 σ H) (hl : ∀ i σ H,i ≤ xs.length→Pv i σ H→SqL K H a xs)
  (hs : ∀ i x σ H,xs[i]? = some x→Pv i σ H→g x σ H fun σ2 H2=>tb { D with nx:=Pv (i + 1),ct:=Pv (i + 1),bk:=D.nx } σ2 H2) (hd : ∀ σ H,Pv xs.length σ H→D.nx σ H) :
  ∃ W : Nat→Nat→St→Hp→Prop,(∃ m,W 0 m σ H)∧∀ i m σ H,W i m σ H →
   ((Itl K a).stop i H∧D.nx σ H) ∨ ((Itl K a).go i H∧∃ N : St→Hp→Prop,(∀ σ' H',N σ' H'→∃ m',m' < m∧W (i + 1) m' σ' H')∧∀ x H',(Itl K a).yld i H x H'→g x σ H' fun σ2 H2=>tb { D with nx:=N,ct:=N,bk:=D.nx } σ2 H2):=by
 refine ⟨fun i m σ H=>m = xs.length - i∧i ≤ xs.length∧Pv i σ H,⟨xs.length,by simp,Nat.zero_le _,h0⟩,?_⟩
 rintro i m σ H ⟨rfl,hi,p⟩
 have q:=hl i σ H hi p
 by_cases hlt : i < xs.length
 ·refine .inr ⟨⟨xs,xs[i],q,by simp [hlt]⟩,Pv (i + 1),fun σ' H' p'=>⟨xs.length - (i + 1),by omega,rfl,hlt,p'⟩,fun x H' y=>?_⟩
  obtain ⟨e,y⟩:=y
  subst e
  exact hs i x σ _ (y xs q) p
 ·have e : i = xs.length:=by omega
  subst e
  exact .inl ⟨⟨xs,q,Nat.le_refl _⟩,hd σ H p⟩
end L2
namespace L2
open PySem PySem.Spec PyProof.Rows
abbrev R2:=V→V→Hp→VK→Prop
def OpR (X : Cx) (f : Value→Value→Sem Value) (r : R2) : Prop :=
 ∀ (pins : List (Addr × Obj)) (s : Shared) (σ : St) (H : Hp) (x y : V) (v u : Value) (Q : VK),Inv X pins σ H s→RelV x v→RelV y u→r x y H Q →
  wpAny (model X.prog X.w) X.A (f v u) (EP X pins σ Q) X.xe s
def UnR (X : Cx) (f : Value→Sem Value) (r : V→Hp→VK→Prop) : Prop :=
 ∀ (pins : List (Addr × Obj)) (s : Shared) (σ : St) (H : Hp) (x : V) (v : Value) (Q : VK),Inv X pins σ H s→RelV x v→r x H Q →
  wpAny (model X.prog X.w) X.A (f v) (EP X pins σ Q) X.xe s
def CallR (X : Cx) (f : Value) (r : List V→Hp→VK→Prop) : Prop :=
 ∀ (pins : List (Addr × Obj)) (s : Shared) (σ : St) (H : Hp) (xs : List V) (us : List Value) (Q : VK),Inv X pins σ H s→Vals xs us→r xs H Q →
  wpAny (model X.prog X.w) X.A (call f us) (EP X pins σ Q) X.xe s
def tOp (r : R2) (ta tb : TE) : TE:=fun σ H Q=>ta σ H fun x H1=>tb σ H1 fun y H2=>r x y H2 Q
def tUn (r : V→Hp→VK→Prop) (ta : TE) : TE:=fun σ H Q=>ta σ H fun x H1=>r x H1 Q
inductive rI (C : Int→Int→Prop) (g : Int→Int→V) (x : V) (y : V) (H : Hp) (Q : VK) : Prop
 | mk : ∀ i j,(x = .int i)→(y = .int j)→(C i j)→(Q (g i j) H)→rI C g x y H Q
inductive rI0 (g : Int→Int→V) (x : V) (y : V) (H : Hp) (Q : VK) : Prop
 | mk : ∀ i j,(x = .int i)→(y = .int j)→(Q (g i j) H)→rI0 g x y H Q
inductive rU (g : Int→V) (x : V) (H : Hp) (Q : VK) : Prop
 | mk : ∀ i,(x = .int i)→(Q (g i) H)→rU g x H Q
section
variable {X : Cx} {a b c : Expr} {ta tb tc : TE} {pos : Pos}
theorem binT (ha : PE X a ta) (hb : PE X b tb) {pins : List (Addr × Obj)} {s : Shared} {σ : St} {H : Hp} {R : V→V→Hp→Prop} (I : Inv X pins σ H s)
  (h : ta σ H fun x H1=>tb σ H1 fun y H2=>R x y H2) {Q : Value→Shared→Prop} {f : Value→Value→Sem Value}
  (hf : ∀ v u s2 x y H2,Inv X pins σ H2 s2→RelV x v→RelV y u→R x y H2→wpAny (model X.prog X.w) X.A (f v u) Q X.xe s2) :
  wpAny (model X.prog X.w) X.A (eval a X.env) (fun v s₁=>wpAny (model X.prog X.w) X.A (eval b X.env) (fun u s₂=>wpAny (model X.prog X.w) X.A (f v u) Q X.xe s₂) X.xe s₁) X.xe s:=by
 refine thn (ha pins s σ H _ I h) fun v s1 ⟨x,H1,I1,r1,q1⟩=>?_
 refine thn (hb pins s1 σ H1 _ I1 q1) fun u s2 ⟨y,H2,I2,r2,q2⟩=>?_
 exact hf v u s2 x y H2 I2 r1 r2 q2
theorem pe_op {op : Operator} {r : R2} (ho : OpR X (binaryOp op) r) (ha : PE X a ta) (hb : PE X b tb) : PE X (.BinOp a op b pos) (tOp r ta tb):=by
 intro pins s σ H Q I h
 exact wpAny_BinOp (binT ha hb I h fun v u s2 x y H2 I2 rx ry q=>ho pins s2 σ H2 x y v u Q I2 rx ry q)
theorem pe_un {op : UnaryOp} {r : V→Hp→VK→Prop} (ho : UnR X (unaryOp op) r) (ha : PE X a ta) : PE X (.UnaryOp op a pos) (tUn r ta):=by
 intro pins s σ H Q I h
 exact UnaryOp_ (thn (ha pins s σ H _ I h) fun v s1 ⟨x,H1,I1,r1,q1⟩=>ho pins s1 σ H1 x v Q I1 r1 q1)
theorem opI {f : Value→Value→Sem Value} {C : Int→Int→Prop} {g : Int→Int→Int}
  (rule : ∀ (i j : Int) (t u : Tok) (s : Shared) (Q : Value→Shared→Prop) (E : Value→Shared→Prop),C i j→Q (.int (g i j) s.toks) { s with toks:=s.toks + 1 }→wpAny (model X.prog X.w) X.A (f (.int i t) (.int j u)) Q E s) :
  OpR X f (rI C fun i j=>.int (g i j)):=by
 intro pins s σ H x y v u Q I rx ry h
 obtain ⟨i,j,rfl,rfl,hc,q⟩:=h
 obtain ⟨t,rfl⟩:=rx
 obtain ⟨t',rfl⟩:=ry
 exact rule i j t t' s _ _ hc ⟨.int (g i j),H,I.tok _,⟨_,rfl⟩,q⟩
theorem opI0 {f : Value→Value→Sem Value} {g : Int→Int→Int}
  (rule : ∀ (i j : Int) (t u : Tok) (s : Shared) (Q : Value→Shared→Prop) (E : Value→Shared→Prop),Q (.int (g i j) s.toks) { s with toks:=s.toks + 1 }→wpAny (model X.prog X.w) X.A (f (.int i t) (.int j u)) Q E s) :
  OpR X f (rI0 fun i j=>.int (g i j)):=by
 intro pins s σ H x y v u Q I rx ry h
 obtain ⟨i,j,rfl,rfl,q⟩:=h
 obtain ⟨t,rfl⟩:=rx
 obtain ⟨t',rfl⟩:=ry
 exact rule i j t t' s _ _ ⟨.int (g i j),H,I.tok _,⟨_,rfl⟩,q⟩
theorem opB0 {f : Value→Value→Sem Value} {g : Int→Int→Bool}
  (rule : ∀ (i j : Int) (t u : Tok) (s : Shared) (Q : Value→Shared→Prop) (E : Value→Shared→Prop),Q (.bool (g i j)) s→wpAny (model X.prog X.w) X.A (f (.int i t) (.int j u)) Q E s) :
  OpR X f (rI0 fun i j=>.bl (g i j)):=by
 intro pins s σ H x y v u Q I rx ry h
 obtain ⟨i,j,rfl,rfl,q⟩:=h
 obtain ⟨t,rfl⟩:=rx
 obtain ⟨t',rfl⟩:=ry
 exact rule i j t t' s _ _ ⟨.bl (g i j),H,I,rfl,q⟩
def CDiv (i j : Int) : Prop:=0 < j∧j < 1073741824
def CMul (i j : Int) : Prop:=(-(2 ^ 64) < i∧i < 2 ^ 64) ∨ (-(2 ^ 64) < j∧j < 2 ^ 64)
theorem CMul.ok {i j : Int} (h : CMul i j) : IntMulOk i j:=by
 rcases h with ⟨h1,h2⟩ | ⟨h1,h2⟩
 ·exact .of_left (intBits_le_64 h1 h2)
 ·exact .of_right (intBits_le_64 h1 h2)
theorem op_add : OpR X (binaryOp .Add) (rI0 fun i j=>.int (i + j)):=opI0 fun _ _ _ _ _ _ _ q=>add_int q
theorem op_sub : OpR X (binaryOp .Sub) (rI0 fun i j=>.int (i - j)):=opI0 fun _ _ _ _ _ _ _ q=>sub_int q
theorem op_mul : OpR X (binaryOp .Mult) (rI CMul fun i j=>.int (i * j)):=opI fun _ _ _ _ _ _ _ hc q=>mul_int q hc.ok
theorem op_fdiv : OpR X (binaryOp .FloorDiv) (rI CDiv fun i j=>.int (i / j)):=opI fun i j _ _ _ _ _ hc q=>by
 have h1 : (0 : Int) < j:=hc.1
 have h2 : j < 1073741824:=hc.2
 exact floordiv_int (by omega) (by rw [Int.fdiv_eq_ediv_of_nonneg i (by omega)]; exact q) (.inl (PyProof.noPylong_small (by omega)))
theorem op_mod : OpR X (binaryOp .Mod) (rI (fun _ j=>0 < j) fun i j=>.int (i % j)):=opI fun i j _ _ _ _ _ hc q=>by
 have h1 : (0 : Int) < j:=hc
 exact mod_int' (by omega) (by rw [Int.fmod_eq_emod_of_nonneg i (by omega)]; exact q)
theorem unI {f : Value→Sem Value} {g : Int→Int}
  (rule : ∀ (i : Int) (t : Tok) (s : Shared) (Q : Value→Shared→Prop) (E : Value→Shared→Prop),Q (.int (g i) s.toks) { s with toks:=s.toks + 1 }→wpAny (model X.prog X.w) X.A (f (.int i t)) Q E s) :
  UnR X f (rU fun i=>.int (g i)):=by
 intro pins s σ H x v Q I rx h
 obtain ⟨i,rfl,q⟩:=h
 obtain ⟨t,rfl⟩:=rx
 exact rule i t s _ _ ⟨.int (g i),H,I.tok _,⟨_,rfl⟩,q⟩
theorem un_neg : UnR X (unaryOp .USub) (rU fun i=>.int (-i)):=unI fun _ _ _ _ _ q=>neg_int q
end
def scal : V→V→Bool
 | .non,.non=>true | .non,.int _=>true | .int _,.non=>true | .non,.bl _=>true | .bl _,.non=>true | .non,.str _=>true | .str _,.non=>true
 | .int _,.int _=>true | .bl _,.bl _=>true | .str _,.str _=>true | .byt _,.byt _=>true
 | .int _,.str _=>true | .str _,.int _=>true | .bl _,.str _=>true | .str _,.bl _=>true
 | _,_=>false
def rEq : R2:=fun x y H Q=>scal x y = true∧Q (.bl (decide (x = y))) H
def rNe : R2:=fun x y H Q=>scal x y = true∧Q (.bl (!decide (x = y))) H
theorem dec_int {i j : Int} : decide (V.int i = V.int j) = (i == j):=by
 rw [Bool.eq_iff_iff]
 simp
theorem dec_bl {i j : Bool} : decide (V.bl i = V.bl j) = (i == j):=by
 rw [Bool.eq_iff_iff]
 simp
theorem dec_str {i j : Str} : decide (V.str i = V.str j) = (i == j):=by
 rw [Bool.eq_iff_iff]
 simp
theorem dec_byt {i j : Array UInt8} : decide (V.byt i = V.byt j) = (i.toList == j.toList):=by
 rw [Bool.eq_iff_iff]
 cases i
 cases j
 simp
section
variable {X : Cx} {a b c : Expr} {ta tb tc : TE} {pos : Pos}
theorem fin_bl {pins : List (Addr × Obj)} {σ : St} {H : Hp} {s : Shared} {Q : VK} {k k' : Bool} (I : Inv X pins σ H s) (q : Q (.bl k) H) (e : k = k') : EP X pins σ Q (.bool k') s:=by
 subst e
 exact ⟨.bl k,H,I,rfl,q⟩
theorem op_eq : OpR X (compareOp .Eq) rEq:=by
 intro pins s σ H x y v u Q I rx ry h
 obtain ⟨hs,q⟩:=h
 cases x with
 | non =>
  cases rx
  cases y with
  | non=>cases ry; exact PySem.EqNone.eq_none_none (fin_bl I q (by simp))
  | bl j=>cases ry; exact PySem.EqNone.eq_none_bool (fin_bl I q (by simp))
  | int j=>obtain ⟨t',rfl⟩:=ry; exact PySem.EqNone.eq_none_int (fin_bl I q (by simp))
  | str j=>obtain ⟨t',rfl⟩:=ry; exact PySem.EqNone.eq_none_str (fin_bl I q (by simp))
  | _=>exact absurd (show false = true from hs) Bool.false_ne_true
 | bl i =>
  cases rx
  cases y with
  | non=>cases ry; exact PySem.EqNone.eq_bool_none (fin_bl I q (by simp))
  | bl j=>cases ry; exact eq_bool (fin_bl I q dec_bl)
  | str j=>obtain ⟨t',rfl⟩:=ry; exact PySem.EqMixed.eq_bool_str (fin_bl I q (by simp))
  | _=>exact absurd (show false = true from hs) Bool.false_ne_true
 | int i =>
  obtain ⟨t,rfl⟩:=rx
  cases y with
  | non=>cases ry; exact PySem.EqNone.eq_int_none (fin_bl I q (by simp))
  | int j=>obtain ⟨t',rfl⟩:=ry; exact eq_int (fin_bl I q dec_int)
  | str j=>obtain ⟨t',rfl⟩:=ry; exact PySem.EqMixed.eq_int_str (fin_bl I q (by simp))
  | _=>exact absurd (show false = true from hs) Bool.false_ne_true
 | str i =>
  obtain ⟨t,rfl⟩:=rx
  cases y with
  | non=>cases ry; exact PySem.EqNone.eq_str_none (fin_bl I q (by simp))
  | bl j=>cases ry; exact PySem.EqMixed.eq_str_bool (fin_bl I q (by simp))
  | int j=>obtain ⟨t',rfl⟩:=ry; exact PySem.EqMixed.eq_str_int (fin_bl I q (by simp))
  | str j=>obtain ⟨t',rfl⟩:=ry; exact eq_str (fin_bl I q dec_str)
  | _=>exact absurd (show false = true from hs) Bool.false_ne_true
 | byt i =>
  obtain ⟨t,rfl⟩:=rx
  cases y with
  | byt j=>obtain ⟨t',rfl⟩:=ry; exact PySem.W.eq_bytes (fin_bl I q dec_byt)
  | _=>exact absurd (show false = true from hs) Bool.false_ne_true
 | _=>cases y <;> exact absurd (show false = true from hs) Bool.false_ne_true
theorem op_ne : OpR X (compareOp .NotEq) rNe:=by
 intro pins s σ H x y v u Q I rx ry h
 obtain ⟨hs,q⟩:=h
 cases x with
 | non =>
  cases rx
  cases y with
  | non=>cases ry; exact PySem.EqNone.ne_none_none (fin_bl I q (by simp))
  | bl j=>cases ry; exact PySem.EqNone.ne_none_bool (fin_bl I q (by simp))
  | int j=>obtain ⟨t',rfl⟩:=ry; exact PySem.EqNone.ne_none_int (fin_bl I q (by simp))
  | str j=>obtain ⟨t',rfl⟩:=ry; exact PySem.EqNone.ne_none_str (fin_bl I q (by simp))
  | _=>exact absurd (show false = true from hs) Bool.false_ne_true
 | bl i =>
  cases rx
  cases y with
  | non=>cases ry; exact PySem.EqNone.ne_bool_none (fin_bl I q (by simp))
  | bl j=>cases ry; exact ne_bool (fin_bl I q (congrArg not dec_bl))
  | str j=>obtain ⟨t',rfl⟩:=ry; exact PySem.EqMixed.ne_bool_str (fin_bl I q (by simp))
  | _=>exact absurd (show false = true from hs) Bool.false_ne_true
 | int i =>
  obtain ⟨t,rfl⟩:=rx
  cases y with
  | non=>cases ry; exact PySem.EqNone.ne_int_none (fin_bl I q (by simp))
  | int j=>obtain ⟨t',rfl⟩:=ry; exact ne_int (fin_bl I q (congrArg not dec_int))
  | str j=>obtain ⟨t',rfl⟩:=ry; exact PySem.EqMixed.ne_int_str (fin_bl I q (by simp))
  | _=>exact absurd (show false = true from hs) Bool.false_ne_true
 | str i =>
  obtain ⟨t,rfl⟩:=rx
  cases y with
  | non=>cases ry; exact PySem.EqNone.ne_str_none (fin_bl I q (by simp))
  | bl j=>cases ry; exact PySem.EqMixed.ne_str_bool (fin_bl I q (by simp))
  | int j=>obtain ⟨t',rfl⟩:=ry; exact PySem.EqMixed.ne_str_int (fin_bl I q (by simp))
  | str j=>obtain ⟨t',rfl⟩:=ry; exact ne_str (fin_bl I q (congrArg not dec_str))
  | _=>exact absurd (show false = true from hs) Bool.false_ne_true
 | byt i =>
  obtain ⟨t,rfl⟩:=rx
  cases y with
  | byt j=>obtain ⟨t',rfl⟩:=ry; exact PySem.W.ne_bytes (fin_bl I q (congrArg not dec_byt))
  | _=>exact absurd (show false = true from hs) Bool.false_ne_true
 | _=>cases y <;> exact absurd (show false = true from hs) Bool.false_ne_true
theorem op_lt : OpR X (compareOp .Lt) (rI0 fun i j=>.bl (decide (i < j))):=opB0 fun _ _ _ _ _ _ _ q=>lt_int q
theorem op_le : OpR X (compareOp .LtE) (rI0 fun i j=>.bl (decide (i ≤ j))):=opB0 fun _ _ _ _ _ _ _ q=>le_int q
theorem op_gt : OpR X (compareOp .Gt) (rI0 fun i j=>.bl (decide (j < i))):=opB0 fun _ _ _ _ _ _ _ q=>gt_int q
theorem op_isN : OpR X (compareOp .Is) (fun x y H Q=>y = .non∧Q (.bl (decide (x = .non))) H):=by
 intro pins s σ H x y v u Q I rx ry h
 obtain ⟨rfl,q⟩:=h
 cases ry
 refine is_none_gen (fin_bl I q ?_)
 cases x <;> first
  | (cases rx; rfl)
  | (obtain ⟨t,rfl⟩:=rx; rfl)
theorem OpR.or {f : Value→Value→Sem Value} {r r' : R2} (h : OpR X f r) (h' : OpR X f r') : OpR X f (fun x y H Q=>r x y H Q ∨ r' x y H Q):=by
 intro pins s σ H x y v u Q I rx ry q
 rcases q with q | q
 ·exact h pins s σ H x y v u Q I rx ry q
 ·exact h' pins s σ H x y v u Q I rx ry q
theorem nomark (b : Expr) {op : CmpOp} (h : op ≠ .In:=by decide) (h2 : op ≠ .NotIn:=by decide) : behindInMarks op b = false:=by
 have e1 : (op == CmpOp.In) = false:=by cases op <;> first | rfl | exact absurd rfl h
 have e2 : (op == CmpOp.NotIn) = false:=by cases op <;> first | rfl | exact absurd rfl h2
 cases b <;> simp [behindInMarks,e1,e2]
theorem pe_cmpR {op : CmpOp} {r : R2} (ho : OpR X (compareOp op) r) (ha : PE X a ta) (hb : PE X b tb) (hm : behindInMarks op b = false) : PE X (.Compare a [op] [b] pos) (tOp r ta tb):=by
 intro pins s σ H Q I h
 exact wpAny_Compare1 (binT ha hb I h fun v u s2 x y H2 I2 rx ry q=>ho pins s2 σ H2 x y v u Q I2 rx ry q) hm
def tTest (t : TE) : TT:=fun σ H Q=>t σ H (IsB Q)
theorem pt_cmpR {op : CmpOp} {r : R2} (ho : OpR X (compareOp op) r) (ha : PE X a ta) (hb : PE X b tb) (hm : behindInMarks op b = false) : PT X (.Compare a [op] [b] pos) (tTest (tOp r ta tb)):=by
 intro pins s σ H Q I h
 refine wpAny_isTrue_Compare1 (thn (ha pins s σ H _ I h) fun v s1 ⟨x,H1,I1,r1,q1⟩=>thn (hb pins s1 σ H1 _ I1 q1) fun u s2 ⟨y,H2,I2,r2,q2⟩ =>
  thn (ho pins s2 σ H2 x y v u _ I2 r1 r2 q2) fun c s3 ⟨z,H3,I3,r3,k,e,q3⟩=>?_) hm
 subst e
 cases r3
 exact wpAny_truthy_bool ⟨H3,I3,q3⟩
def tChain (r r' : R2) (ta tb tc : TE) : TE:=fun σ H Q=>ta σ H fun x H1=>tb σ H1 fun y H2=>r x y H2 fun z H3=>∃ k,z = .bl k ∧
 (if k = true then tc σ H3 fun w' H4=>r' y w' H4 Q else Q (.bl false) H3)
theorem pe_chain {op op' : CmpOp} {r r' : R2} (ho : OpR X (compareOp op) r) (ho' : OpR X (compareOp op') r') (ha : PE X a ta) (hb : PE X b tb) (hc : PE X c tc)
  (hm : lastMarks [op,op'] [b,c] = false:=by with_unfolding_all rfl) : PE X (.Compare a [op,op'] [b,c] pos) (tChain r r' ta tb tc):=by
 intro pins s σ H Q I h
 refine Compare_chain (thn (ha pins s σ H _ I h) fun v s1 ⟨x,H1,I1,r1,q1⟩=>chain_link (thn (hb pins s1 σ H1 _ I1 q1) fun u s2 ⟨y,H2,I2,r2,q2⟩ =>
  thn (ho pins s2 σ H2 x y v u _ I2 r1 r2 q2) fun d s3 ⟨z,H3,I3,r3,k,e,q3⟩=>?_)) hm
 subst e
 cases r3
 refine wpAny_truthy_bool ?_
 cases k with
 | false=>exact ite_ff ⟨.bl false,H3,I3,rfl,q3⟩
 | true=>exact ite_tt (chain_last (thn (hc pins s3 σ H3 _ I3 q3) fun w' s4 ⟨z',H4,I4,r4,q4⟩=>ho' pins s4 σ H4 y z' u w' Q I4 r2 r4 q4))
theorem pt_chain {op op' : CmpOp} {r r' : R2} (ho : OpR X (compareOp op) r) (ho' : OpR X (compareOp op') r') (ha : PE X a ta) (hb : PE X b tb) (hc : PE X c tc)
  (hm : lastMarks [op,op'] [b,c] = false:=by with_unfolding_all rfl) : PT X (.Compare a [op,op'] [b,c] pos) (tTest (tChain r r' ta tb tc)):=by
 intro pins s σ H Q I h
 refine isTrue_chain (thn (ha pins s σ H _ I h) fun v s1 ⟨x,H1,I1,r1,q1⟩=>test_link (thn (hb pins s1 σ H1 _ I1 q1) fun u s2 ⟨y,H2,I2,r2,q2⟩ =>
  thn (ho pins s2 σ H2 x y v u _ I2 r1 r2 q2) fun d s3 ⟨z,H3,I3,r3,k,e,q3⟩=>?_)) hm
 subst e
 cases r3
 refine wpAny_truthy_bool ?_
 cases k with
 | false =>
  obtain ⟨k',e',q'⟩:=q3
  cases e'
  exact ite_ff ⟨H3,I3,q'⟩
 | true =>
  refine ite_tt (test_last (thn (hc pins s3 σ H3 _ I3 q3) fun w' s4 ⟨z',H4,I4,r4,q4⟩=>thn (ho' pins s4 σ H4 y z' u w' _ I4 r2 r4 q4) fun d' s5 ⟨z2,H5,I5,r5,k2,e2,q5⟩=>?_))
  subst e2
  cases r5
  exact wpAny_truthy_bool ⟨H5,I5,q5⟩
theorem line63 : (sizeLine : Nat) < 2 ^ 63:=by rw [sizeLine_eq]; decide
theorem op_add_str : OpR X (binaryOp .Add) (fun x y H Q=>∃ i j,x = .str i∧y = .str j∧i.length + j.length ≤ sizeLine∧Q (.str (i ++ j)) H):=by
 intro pins s σ H x y v u Q I rx ry h
 obtain ⟨i,j,rfl,rfl,hz,q⟩:=h
 obtain ⟨t,rfl⟩:=rx
 obtain ⟨t',rfl⟩:=ry
 exact add_str (fun t' tk=>⟨.str (i ++ j),H,I.tok _,⟨_,rfl⟩,q⟩) hz
theorem vals1 {x : V} {us : List Value} (r : Vals [x] us) : ∃ u,us = [u]∧RelV x u:=by
 cases r with
 | cons r1 r2=>cases r2; exact ⟨_,rfl,r1⟩
theorem vals2 {x y : V} {us : List Value} (r : Vals [x,y] us) : ∃ u w',us = [u,w']∧RelV x u∧RelV y w':=by
 cases r with
 | cons r1 r2 =>
  cases r2 with
  | cons r3 r4=>cases r4; exact ⟨_,_,rfl,r1,r3⟩
theorem call_str_int : CallR X (.type "str") (fun xs H Q => ∃ i, xs = [.int i] ∧ i.natAbs.log2 < 1920 ∧ Q (.str (toString i)) H) := by
 intro pins s σ H xs us Q I r h
 obtain ⟨i,rfl,hz,q⟩:=h
 obtain ⟨u,rfl,t,rfl⟩:=vals1 r
 exact PySem.P.str_of_int hz ⟨.str _,H,I.tok _,⟨_,rfl⟩,q⟩
end
end L2
namespace L2
open PySem PySem.Spec PyProof.Rows
structure ObjM (h : Heap) (x dx C : Addr) (mA : Str→Option Value) : Prop where
 obj : h.get? x = some (PySem.W.instObj C dx)
 ns : h.Ns1 dx mA
 ne : dx ≠ x
theorem lookIn_ns {h : Heap} {dx : Addr} {mA : Str→Option Value} (n : h.Ns1 dx mA) : ∃ od,h.get? dx = some od∧∀ name,PySem.W.lookIn name od = some (mA name):=by
 obtain ⟨o,es,ep,ho,hd,hk,_,hm⟩:=n
 refine ⟨o,ho,fun name=>?_⟩
 have e:=hm name
 unfold nsFind findBy at e
 rw [← Array.find?_toList] at e
 unfold PySem.W.lookIn
 rw [hd]
 try dsimp only
 split
 ·rename_i y q
  rw [q] at e
  exact congrArg some e
 ·rename_i q
  rw [q] at e
  have a : es.toList.any (·.refKey) = false:=by
   rw [List.any_eq_false]
   intro y hy
   obtain ⟨z,t,hkey⟩:=hk y (Array.mem_toList_iff.mp hy)
   simp [DictEntry.refKey,hkey]
  have a' : ¬ es.toList.any (·.refKey) = true:=by rw [a]; exact Bool.false_ne_true
  rw [if_neg a']
  exact congrArg some e
theorem ObjM.look {h : Heap} {x dx C : Addr} {mA : Str→Option Value} (I : ObjM h x dx C mA) : ∃ od,PySem.W.InstAt h x (PySem.W.instObj C dx) C (some od)∧∀ name,PySem.W.lookIn name od = some (mA name) :=
 let ⟨od,ho,hl⟩:=lookIn_ns I.ns
 ⟨od,⟨I.obj,rfl,rfl,ho⟩,hl⟩
section
variable {prog : Program} {w : World} {A : Around} {E : Value→Shared→Prop} {s : Shared} {K : PySem.W.Frag} {x dx C f : Addr} {mA : Str→Option Value} {name : Str} {v : Value}
theorem get_map {expr : Bool} {Q : Value→Shared→Prop} (X : K.In s.heap) (I : ObjM s.heap x dx C mA) (hg : PySem.W.plainGet K C name = true) (hh : PySem.W.hasDictIn K C = true)
  (ha : PySem.W.findIn K (.ref C) name = some none) (hv : mA name = some v) (hv' : PySem.W.handedIn v = true) (h : Q v { s with toks:=s.toks + 1 }) :
  wpAny (model prog w) A (getAttr (.ref x) name expr) Q E s:=by
 obtain ⟨od,J,hl⟩:=I.look
 exact PySem.W.get_value X J (PySem.W.plainGet_of hg).1 (PySem.W.findObj_own hh ha rfl (by rw [hl,hv])) hv' h
theorem set_map {ns : List Str} {Q : Unit→Shared→Prop} (X : K.In s.heap) (I : ObjM s.heap x dx C mA)
  (hs : PySem.W.findIn K (.ref C) "__setattr__" = some (some (.builtin "object.__setattr__"))) (hp : PySem.W.plainOver K C = true) (ht : PySem.W.takerIn K C name = some none) (hh : PySem.W.hasDictIn K C = true)
  (hw : PySem.Within mA ns) (hsz : ns.length ≤ sizeLine)
  (h : ∀ h',ObjM h' x dx C (fun y=>if y = name then some v else mA y)→Heap.SameBut dx s.heap h'→Q () { s with heap:=h',toks:=s.toks + 2 }) :
  wpAny (model prog w) A (setAttr (.ref x) name v) Q E s:=by
 obtain ⟨od,J,hl⟩:=I.look
 refine PySem.W.set_plain X J hs (PySem.W.osa_open (s:={ s with toks:=s.toks + 1 }) (r:=none) X J hp ht fun b=>?_)
 obtain ⟨cd,hc,hd'⟩:=PySem.W.any_some hh
 have hx : s.heap.get? x = some ⟨.ref C,some dx,.plain,#[]⟩:=I.obj
 refine wpAny_bind (wpAny_pure (wpAny_bind (wpAny_bind (wpAny_loadPart hx (wpAny_bind (PySem.W.Looks.here (s:={ s with toks:=s.toks + 1 }) (PySem.W.looks_clsIn X hc) ?_))))))
 rw [hd']
 refine wpAny_pure (a:=some dx) (wpAny_bind (wpAny_pure (wpAny_bind ?_)))
 refine wpAny_nsSet1 (s:={ s with toks:=s.toks + 1 }) I.ns fun h' hn2 hs2=>?_
 obtain ⟨oD,esD,epD,hoD,hdD,hcD⟩:=hn2.count (PySem.Within.cons name v hw)
 refine wpAny_bind (wpAny_lookBehind hoD (by rw [hdD]; exact pastItsLine_dict (Nat.le_trans hcD (by rw [List.length_cons]; omega))) ?_)
 exact wpAny_pure (h _ ⟨(hs2.2 _ (Ne.symm I.ne)).trans I.obj,hn2,I.ne⟩ hs2)
theorem make_map {R : Result→Shared→Prop} {vs : List Value} {kw : List (Str × Value)} (X : K.In s.heap) (hm : PySem.W.makesIn K C = true)
  (hi : PySem.W.findIn K (.ref C) "__init__" = some (some (.ref f))) (hf : PySem.W.typeIn K (.ref f) = some (.type "function"))
  (h : codeAny (model prog w) (A.under (.builtin "type.__call__" ⟨.ref C :: vs, kw⟩)) (.call (.ref f) ⟨.ref (s.heap.objs.size + 1) :: vs, kw⟩) (PySem.W.InitBack (s.heap.objs.size + 1) R)
   { s with heap:=(s.heap.push PySem.W.emptyDict).push (PySem.W.instObj C s.heap.objs.size) }) :
  codeAny (model prog w) A (.call (.ref C) ⟨vs,kw⟩) R s:=by
 obtain ⟨hh,g,d,t,os⟩:=s
 exact PySem.W.make_core (PySem.W.makes_of X hm) (PySem.W.looks_findIn X hi) (fun self=>PySem.W.bind_fn X self hf) (.inl rfl) h
end
def putF (f : Str) (v : V) : List (Str × V)→List (Str × V)
 | []=>[(f,v)]
 | (g,x) :: r=>if g = f then (g,v) :: r else (g,x) :: putF f v r
theorem lookup_putF (f g : Str) (v : V) : ∀ fs : List (Str × V),(putF f v fs).lookup g = if g = f then some v else fs.lookup g
 | []=>by
  show List.lookup g [(f,v)] = _
  by_cases h : g = f
  ·have hb : (g == f) = true:=beq_iff_eq.mpr h
   simp only [List.lookup,hb,if_pos h]
  ·have hb : (g == f) = false:=beq_eq_false_iff_ne.mpr h
   simp only [List.lookup,hb,if_neg h]
 | (k,x) :: r=>by
  have ih:=lookup_putF f g v r
  rw [show putF f v ((k,x) :: r) = (if k = f then (k,v) :: r else (k,x) :: putF f v r) from rfl]
  by_cases hk : k = f
  ·rw [if_pos hk]
   by_cases h : g = k
   ·have hb : (g == k) = true:=beq_iff_eq.mpr h
    simp only [List.lookup,hb,if_pos (h.trans hk)]
   ·have hb : (g == k) = false:=beq_eq_false_iff_ne.mpr h
    simp only [List.lookup,hb,if_neg (fun e : g = f=>h (e.trans hk.symm))]
  ·rw [if_neg hk]
   by_cases h : g = k
   ·have hb : (g == k) = true:=beq_iff_eq.mpr h
    simp only [List.lookup,hb,if_neg (fun e : g = f=>hk (h.symm.trans e))]
   ·have hb : (g == k) = false:=beq_eq_false_iff_ne.mpr h
    simp only [List.lookup,hb]
    exact ih
theorem keys_putF (f : Str) (v : V) : ∀ fs : List (Str × V),f ∈ (putF f v fs).map (·.1)∧∀ g,g ∈ fs.map (·.1)→g ∈ (putF f v fs).map (·.1)
 | []=>⟨by simp [putF],fun g h=>by simp at h⟩
 | (k,x) :: r=>by
  obtain ⟨i1,i2⟩:=keys_putF f v r
  rw [show putF f v ((k,x) :: r) = (if k = f then (k,v) :: r else (k,x) :: putF f v r) from rfl]
  by_cases hk : k = f
  ·rw [if_pos hk]
   subst hk
   exact ⟨by simp,fun g h=>by simpa using h⟩
  ·rw [if_neg hk]
   refine ⟨?_,fun g h=>?_⟩
   ·rw [List.map_cons]
    exact List.mem_cons_of_mem _ i1
   ·rw [List.map_cons] at h ⊢
    rcases List.mem_cons.mp h with e | e
    ·exact List.mem_cons.mpr (.inl e)
    ·exact List.mem_cons_of_mem _ (i2 g e)
theorem length_putF (f : Str) (v : V) : ∀ fs : List (Str × V),(putF f v fs).length ≤ fs.length + 1
 | []=>by simp [putF]
 | (k,x) :: r=>by
  have ih:=length_putF f v r
  rw [show putF f v ((k,x) :: r) = (if k = f then (k,v) :: r else (k,x) :: putF f v r) from rfl]
  by_cases hk : k = f
  ·rw [if_pos hk,List.length_cons,List.length_cons]; omega
  ·rw [if_neg hk,List.length_cons,List.length_cons]; omega
theorem RelO.some_of {v : V} {o : Option Value} (r : RelO (some v) o) : ∃ u,o = some u∧RelV v u:=by
 cases o with
 | none=>exact (show False from r).elim
 | some u=>exact ⟨u,rfl,r⟩
theorem handed_of {v : V} {u : Value} (r : RelV v u) : PySem.W.handedIn u = true:=by
 cases v with
 | non=>cases (show u = Value.none from r); rfl
 | bl b=>cases (show u = Value.bool b from r); rfl
 | int i=>obtain ⟨t,e⟩:=(show ∃ t,u = Value.int i t from r); cases e; rfl
 | str x=>obtain ⟨t,e⟩:=(show ∃ t,u = Value.str x t from r); cases e; rfl
 | byt b=>obtain ⟨t,e⟩:=(show ∃ t,u = Value.bytes b t from r); cases e; rfl
 | flt b=>obtain ⟨t,e⟩:=(show ∃ t,u = Value.float b t from r); cases e; rfl
 | ref a=>cases (show u = Value.ref a from r); rfl
 | ty n=>cases (show u = Value.type n from r); rfl
section
variable {P : Program} {w : World} {H H' : Hp} {h h' : Heap} {a C dx : Addr} {fs fs' : List (Str × V)}
theorem ins_get (hok : HOk P w H h) (e : H a = some (.ins C dx fs)) : ∃ mA,ObjM h a dx C mA∧(∀ f,RelO (fs.lookup f) (mA f))∧PySem.Within mA (fs.map (·.1))∧fs.length ≤ 1000∧H dx = some (.own a):=by
 obtain ⟨d,z,ne,ob,mA,n,r,q⟩:=(show ObjOk P w H h a (.ins C dx fs) from hok a _ e)
 exact ⟨mA,⟨ob,n,ne⟩,r,q,z,d⟩
end
structure Cls (K : PySem.W.Frag) (C : Addr) : Prop where
 pg : PySem.W.plainGet K C Str.empty = true
 hd : PySem.W.hasDictIn K C = true
 po : PySem.W.plainOver K C = true
 sa : PySem.W.findIn K (.ref C) "__setattr__" = some (some (.builtin "object.__setattr__"))
theorem Cls.get {K : PySem.W.Frag} {C : Addr} (c : Cls K C) (f : Str) : PySem.W.plainGet K C f = true:=c.pg
def NoAttr (K : PySem.W.Frag) (C : Addr) (f : Str) : Prop:=PySem.W.findIn K (.ref C) f = some none
theorem NoAttr.taker {K : PySem.W.Frag} {C : Addr} {f : Str} (n : NoAttr K C f) : PySem.W.takerIn K C f = some none:=by
 unfold PySem.W.takerIn
 rw [show PySem.W.findIn K (.ref C) f = some none from n]
 rfl
section
variable {X : Cx} {pins : List (Addr × Obj)} {σ : St} {H : Hp} {s : Shared} {a C dx : Addr} {fs : List (Str × V)} {f : Str} {v : V} {A : Around} {E : Value→Shared→Prop}
theorem getattr_ok {b : Bool} {Q : Value→Shared→Prop} (I : Inv X pins σ H s) (e : H a = some (.ins C dx fs)) (c : Cls X.K C) (n : NoAttr X.K C f) (l : fs.lookup f = some v)
  (h : ∀ u s',Inv X pins σ H s'→RelV v u→Q u s') : wpAny (model X.prog X.w) A (getAttr (.ref a) f b) Q E s:=by
 obtain ⟨mA,O,r,_,_,_⟩:=ins_get I.hok e
 obtain ⟨u,hu,ru⟩:=RelO.some_of (v:=v) (o:=mA f) (by rw [← l]; exact r f)
 exact get_map I.kIn O (c.get f) c.hd n hu (handed_of ru) (h u _ (I.tok _) ru)
theorem setattr_ok {y : V} {u : Value} {Q : Unit→Shared→Prop} (I : Inv X pins σ H s) (e : H a = some (.ins C dx fs)) (c : Cls X.K C) (n : NoAttr X.K C f) (hl : fs.length < 1000) (ry : RelV y u)
  (h : ∀ s',Inv X pins σ (upd H a (.ins C dx (putF f y fs))) s'→Q () s') : wpAny (model X.prog X.w) A (setAttr (.ref a) f u) Q E s:=by
 obtain ⟨mA,O,r,wi,_,ho⟩:=ins_get I.hok e
 have hz : (fs.map (·.1)).length ≤ sizeLine:=by rw [List.length_map,sizeLine_eq]; omega
 refine set_map I.kIn O c.sa c.po n.taker c.hd wi hz fun h' O' sb=>h _ ?_
 have hd : ∃ o,h'.get? dx = some o:=let ⟨o,_,_,e',_⟩:=O'.ns; ⟨o,e'⟩
 refine I.write (x:=a) (e:=dx) (by rw [e]; exact True.intro) (.inr ho) (fun b q hb z=>(sb.2 b hb).trans z) hd ?_
 refine ⟨by rw [upd_ne O.ne]; exact ho,?_,O.ne,O'.obj,_,O'.ns,fun g=>?_,fun g hg=>?_⟩
 ·have:=length_putF f y fs; omega
 ·show RelO ((putF f y fs).lookup g) (if g = f then some u else mA g)
  rw [lookup_putF]
  by_cases q : g = f
  ·rw [if_pos q,if_pos q]; exact ry
  ·rw [if_neg q,if_neg q]; exact r g
 ·by_cases q : g = f
  ·rw [q]; exact (keys_putF f y fs).1
  ·refine (keys_putF f y fs).2 g (wi g fun z=>hg ?_)
   show (if g = f then some u else mA g) = none
   rw [if_neg q]; exact z
theorem Inv.made (I : Inv X pins σ H s) : Inv X pins σ (upd (upd H s.heap.objs.size (.own (s.heap.objs.size + 1))) (s.heap.objs.size + 1) (.ins C s.heap.objs.size []))
  { s with heap:=(s.heap.push PySem.W.emptyDict).push (PySem.W.instObj C s.heap.objs.size) }:=by
 have e1 : (s.heap.push PySem.W.emptyDict).get? s.heap.objs.size = some PySem.W.emptyDict:=Heap.get?_push_size s.heap rfl
 have e2 : ((s.heap.push PySem.W.emptyDict).push (PySem.W.instObj C s.heap.objs.size)).get? (s.heap.objs.size + 1) = some (PySem.W.instObj C s.heap.objs.size):=by
  have:=Heap.get?_push_size (s.heap.push PySem.W.emptyDict) (o:=PySem.W.instObj C s.heap.objs.size) rfl
  rwa [Heap.size_push] at this
 have e3 : (s.heap.push PySem.W.emptyDict).Ns s.heap.objs.size (fun _=>none):=⟨PySem.W.emptyDict,#[],_,e1,rfl,(fun e he=>absurd he (by simp)),fun _=>rfl⟩
 have I1:=I.laid (a:=s.heap.objs.size) (o:=.own (s.heap.objs.size + 1)) (h':=s.heap.push PySem.W.emptyDict) (t':=s.toks) (fun b u q=>Heap.get?_push_of_some _ q) (Nat.le_refl _) ⟨_,e1⟩
 refine I1.laid (a:=s.heap.objs.size + 1) (o:=.ins C s.heap.objs.size []) (t':=s.toks) (fun b u q=>Heap.get?_push_of_some _ q) (Nat.le_of_eq (Heap.size_push _ _)) ?_
 have ne : s.heap.objs.size ≠ s.heap.objs.size + 1:=Nat.ne_of_lt (Nat.lt_succ_self _)
 refine ⟨by rw [upd_ne ne,upd_same],Nat.zero_le _,ne,e2,fun _=>none,(Heap.Ns1.of_empty e3).at fun o q=>Heap.get?_push_of_some _ q,fun _=>True.intro,fun y hy=>absurd rfl hy⟩
theorem attr_of {prog : Program} {w : World} {env : Env} {e : Expr} {f : Str} {pos : Pos} {s : Shared} {Q : Value→Shared→Prop} (hb : attributeBase e f env (eval e env) = eval e env)
  (h : wpAny (model prog w) A (eval e env) (fun o s₁=>wpAny (model prog w) A (getAttr o f true) Q E s₁) E s) : wpAny (model prog w) A (eval (.Attribute e f pos) env) Q E s :=
 Attribute_any_ h (by rw [arm_eval_Attribute,hb])
end
inductive HasF (K : PySem.W.Frag) (f : Str) (Q : VK) (x : V) (H : Hp) : Prop
 | mk : ∀ a C dx fs v,(x = .ref a)→(H a = some (.ins C dx fs))→(Cls K C)→(NoAttr K C f)→(fs.lookup f = some v)→(Q v H)→HasF K f Q x H
def tFld (K : PySem.W.Frag) (ta : TE) (f : Str) : TE:=fun σ H Q=>ta σ H (HasF K f Q)
def sFld (K : PySem.W.Frag) (ta tv : TE) (f : Str) : TS:=fun D σ H=>tv σ H fun y H1=>ta σ H1 fun x H2=>∃ a C dx fs,x = .ref a∧H2 a = some (.ins C dx fs)∧Cls K C∧NoAttr K C f∧fs.length < 1000 ∧
 D.nx σ (upd H2 a (.ins C dx (putF f y fs)))
section
variable {X : Cx} {o e value : Expr} {f : Str} {pos pos' tpos : Pos} {ta tv : TE}
theorem pe_fld (he : PE X e ta) (hb : attributeBase e f X.env (eval e X.env) = eval e X.env) : PE X (.Attribute e f pos) (tFld X.K ta f):=by
 intro pins s σ H Q I h
 refine attr_of hb (thn (he pins s σ H _ I h) fun u s1 ⟨x,H1,I1,rx,a,C,dx,fs,v,ex,ea,c,n,l,q⟩=>?_)
 subst ex
 obtain rfl : u = Value.ref a:=rx
 exact getattr_ok I1 ea c n l fun u' s2 I2 ru=>⟨v,H1,I2,ru,q⟩
theorem ps_fld (ha : PE X o ta) (hv : PE X value tv) (hs : swapsWith value (some (.Attribute o f pos')) pos.line X.env = pure false) : PS X (.Assign [.Attribute o f pos'] value pos) (sFld X.K ta tv f):=by
 intro pins s σ H D I h
 refine plainObj_wpAny_Assign_Attribute (thn (hv pins s σ H _ I h) fun u s1 ⟨y,H1,I1,ry,q⟩=>thn (ha pins s1 σ H1 _ I1 q) fun ov s2 ⟨x,H2,I2,rx,a,C,dx,fs,ex,ea,c,n,l,q2⟩=>?_) hs
 subst ex
 obtain rfl : ov = Value.ref a:=rx
 exact setattr_ok I2 ea c n l ry fun s3 I3=>⟨σ,_,I3,q2⟩
end
section
variable {X : Cx} {pins : List (Addr × Obj)} {σ : St} {H : Hp} {s : Shared} {A : Around} {E : Value→Shared→Prop} {Q : Value→Shared→Prop} {c : Value} {b : Bool}
inductive TyOf (K : PySem.W.Frag) (H : Hp) : V→Value→Prop where
 | non : TyOf K H .non (.type "NoneType")
 | bl (x : Bool) : TyOf K H (.bl x) (.type "bool")
 | int (i : Int) : TyOf K H (.int i) (.type "int")
 | str (x : Str) : TyOf K H (.str x) (.type "str")
 | flt (x : UInt64) : TyOf K H (.flt x) (.type "float")
 | lst {a : Addr} {xs : List V} (e : H a = some (.lst xs)) : TyOf K H (.ref a) (.type "list")
 | frz {a : Addr} {o : Obj} {xs : List V} (e : H a = some (.frz o (.lst xs))) : TyOf K H (.ref a) (.type "list")
 | tup {a : Addr} {xs : List V} (e : H a = some (.tup xs)) : TyOf K H (.ref a) (.type "tuple")
 | dK {a : Addr} {kvs : List (Key × V)} (e : H a = some (.dK kvs)) : TyOf K H (.ref a) (.type "dict")
 | dT {a : Addr} {kvs : List (List Key × V)} (e : H a = some (.dT kvs)) : TyOf K H (.ref a) (.type "dict")
 | ins {a C dx : Addr} {fs : List (Str × V)} (e : H a = some (.ins C dx fs)) (cl : Cls K C) (ha : PySem.W.findIn K (.ref C) "__class__" = some (some (.builtin "object.__class__")))
   (hn : PySem.W.specialIn K (.builtin "object.__class__") "__get__" = some (some (.builtin "getset_descriptor.__get__"))) (htk : PySem.W.takesIn K (.builtin "object.__class__") = some true)
   (hm : PySem.W.mroIn K C (.type "object") = some true) : TyOf K H (.ref a) (.ref C)
theorem isinst_ok {x : V} {u t : Value} (I : Inv X pins σ H s) (rx : RelV x u) (ty : TyOf X.K H x t) (e : PySem.W.kitOne X.K t c = some b) (h : ∀ tk,Q (.bool b) { s with toks:=tk }) :
  wpAny (model X.prog X.w) A (call (.builtin "isinstance") [u, c]) Q E s := by
 cases ty with
 | non=>cases (show u = Value.none from rx); exact PySem.W.kia_one PySem.W.kitx_none I.kIn True.intro e (fun z=>nomatch z) h
 | bl y=>cases (show u = Value.bool y from rx); exact PySem.W.kia_one PySem.W.kitx_bool I.kIn True.intro e (fun z=>nomatch z) h
 | int i=>obtain ⟨t,q⟩:=(show ∃ t,u = Value.int i t from rx); cases q; exact PySem.W.kia_one PySem.W.kitx_int I.kIn True.intro e (fun z=>nomatch z) h
 | str y=>obtain ⟨t,q⟩:=(show ∃ t,u = Value.str y t from rx); cases q; exact PySem.W.kia_one PySem.W.kitx_str I.kIn True.intro e (fun z=>nomatch z) h
 | flt y=>obtain ⟨t,q⟩:=(show ∃ t,u = Value.float y t from rx); cases q; exact PySem.W.kia_one PySem.W.kitx_float I.kIn True.intro e (fun z=>nomatch z) h
 | @lst a xs ea =>
  cases (show u = Value.ref a from rx)
  obtain ⟨_,_,n,_,h1⟩:=(show ObjOk X.prog X.w H s.heap a (.lst xs) from I.hok a _ ea)
  exact PySem.W.kia_one PySem.W.kitx_list I.kIn ⟨_,h1,rfl⟩ e (fun z=>nomatch z) h
 | @frz a ob xs ea =>
  cases (show u = Value.ref a from rx)
  obtain ⟨_,_,_,n,_,h1⟩:=(show ObjOk X.prog X.w H s.heap a (.frz ob (.lst xs)) from I.hok a _ ea)
  exact PySem.W.kia_one PySem.W.kitx_list I.kIn ⟨_,h1,rfl⟩ e (fun z=>nomatch z) h
 | @tup a xs ea =>
  cases (show u = Value.ref a from rx)
  obtain ⟨_,_,_,p⟩:=(show ObjOk X.prog X.w H s.heap a (.tup xs) from I.hok a _ ea)
  obtain ⟨o,h1,h2,_⟩:=p
  exact PySem.W.kia_one PySem.W.kitx_tuple I.kIn ⟨o,h1,h2⟩ e (fun z=>nomatch z) h
 | @dK a kvs ea =>
  cases (show u = Value.ref a from rx)
  obtain ⟨_,_,vs,_,p⟩:=(show ObjOk X.prog X.w H s.heap a (.dK kvs) from I.hok a _ ea)
  obtain ⟨o,es,ep,h1,h2,_⟩:=p
  exact PySem.W.kia_one PySem.W.kitx_dict I.kIn ⟨o,h1,h2.1⟩ e (fun z=>nomatch z) h
 | @dT a kvs ea =>
  cases (show u = Value.ref a from rx)
  obtain ⟨_,_,xs,_,o,es,ep,h1,h2,_⟩:=(show ObjOk X.prog X.w H s.heap a (.dT kvs) from I.hok a _ ea)
  exact PySem.W.kia_one PySem.W.kitx_dict I.kIn ⟨o,h1,h2.1⟩ e (fun z=>nomatch z) h
 | @ins a C dx fs ea cl ha hn htk hm =>
  cases (show u = Value.ref a from rx)
  obtain ⟨mA,O,_⟩:=ins_get I.hok ea
  obtain ⟨od,J,_⟩:=O.look
  exact PySem.W.kia_one (PySem.W.kitx_own (cl.get _) cl.hd ha hn htk hm) I.kIn J e (fun z=>nomatch z) h
end
end L2
namespace L2
open PySem PySem.Spec PyProof.Rows
structure Room (k : Nat) (A : Around) : Prop where
 hd : A.handled = none
 dp : A.depth + 3 * k + 5 < recursionLimit
 un : A.units + 16 * k + 200 < cLine
theorem Room.mono {j k : Nat} {A : Around} (r : Room k A) (h : j ≤ k) : Room j A:=⟨r.hd,by have:=r.dp; omega,by have:=r.un; omega⟩
theorem Room.deeper {k : Nat} {A : Around} (r : Room (k + 1) A) (env : Env) : Room k (A.deeper env) :=
 ⟨r.hd,by have:=r.dp; show A.depth + 1 + 3 * k + 5 < _; omega,by have:=r.un; show A.units + 3 + 16 * k + 200 < _; omega⟩
theorem Room.in1 {k : Nat} {A : Around} (r : Room (k + 1) A) : Room k A.in1 :=
 ⟨r.hd,by have:=r.dp; show A.depth + 3 * k + 5 < _; omega,by have:=r.un; show A.units + 1 + 16 * k + 200 < _; omega⟩
theorem make_depth {A : Around} {C : Addr} {us : List Value} {kw : List (Str × Value)} : (A.under (.builtin "type.__call__" ⟨.ref C :: us, kw⟩)).depth = A.depth + 1 := by
 first | rfl | simp [Around.under,Code.weight,Code.isCreation,Code.isGuard,Code.isCaller,Code.frames,Code.isFrame,guardIds]
theorem make_units {A : Around} {C : Addr} {us : List Value} {kw : List (Str × Value)} : (A.under (.builtin "type.__call__" ⟨.ref C :: us, kw⟩)).units = A.units + 1 := by
 first | rfl | simp [Around.under,Code.cUnits,Code.frames,Code.isFrame]
theorem Room.make {k : Nat} {A : Around} (r : Room (k + 1) A) (C : Addr) (us : List Value) (kw : List (Str × Value)) : Room k (A.under (.builtin "type.__call__" ⟨.ref C :: us, kw⟩)) :=
 ⟨r.hd,by have:=r.dp; rw [make_depth]; omega,by have:=r.un; rw [make_units]; omega⟩
theorem Room.depth {k : Nat} {A : Around} (r : Room k A) : A.depth < recursionLimit:=by have:=r.dp; omega
theorem Room.units {k : Nat} {A : Around} (r : Room k A) : A.units + 64 < cLine:=by have:=r.un; omega
theorem Room.units0 {k : Nat} {A : Around} (r : Room k A) : A.units < cLine:=by have:=r.un; omega
def tNil : TA:=fun _ H Q=>Q [] H
def tCons (ta : TE) (tr : TA) : TA:=fun σ H Q=>ta σ H fun x H1=>tr σ H1 fun xs H2=>Q (x :: xs) H2
section
variable {X : Cx} {e : Expr} {es : List Expr} {te : TE} {t : TA} {pos : Pos}
theorem pa_nil : PA X [] tNil:=fun _ _ _ _ H Q I h=>Calls.spliced_nil ⟨[],H,I,.nil,h⟩
theorem pa_cons (ha : PE X e te) (hr : PA X es t) (hs : starEach (e :: es) X.env = (false,eval e X.env) :: starEach es X.env:=by rfl) : PA X (e :: es) (tCons te t):=by
 intro pos pins s σ H Q I h
 rw [hs]
 show wpAny _ _ (spliced ((false,eval e X.env) :: backTo pos (starEach es X.env))) _ _ s
 refine Calls.spliced_cons (thn (ha pins s σ H _ I h) fun u s1 ⟨x,H1,I1,r1,q1⟩=>?_)
 exact thn (hr pos pins s1 σ H1 _ I1 q1) fun us s2 ⟨xs,H2,I2,r2,q2⟩=>⟨x :: xs,H2,I2,.cons r1 r2,q2⟩
def tTup (t : TA) : TE:=fun σ H Q=>t σ H fun xs H1=>xs.length ≤ sizeLine∧∀ p,H1 p = none→Q (.ref p) (upd H1 p (.tup xs))
def tLst (t : TA) : TE:=fun σ H Q=>t σ H fun xs H1=>xs.length ≤ sizeLine∧∀ p,H1 p = none→Q (.ref p) (upd H1 p (.lst xs))
theorem pe_tup {x1} (h : PA X es t) : PE X (.Tuple es x1 pos) (tTup t):=by
 intro pins s σ H Q I hq
 refine wpAny_Tuple_spliced (thn (h pos pins s σ H _ I hq) fun us s1 ⟨xs,H1,I1,r,z,q⟩=>⟨by rw [← r.length]; exact z,?_⟩)
 have hf : H1 s1.heap.objs.size = none:=I1.hok.fresh (Nat.le_refl _)
 refine ⟨.ref s1.heap.objs.size,upd H1 s1.heap.objs.size (.tup xs),I1.laid (t':=s1.toks) (fun b u e=>Heap.get?_push_of_some _ e) (Nat.le_refl _) ?_,rfl,q _ hf⟩
 exact ⟨z,us,r,⟨_,Heap.get?_push_size _ rfl,rfl,_,rfl⟩⟩
theorem pe_lst (h : PA X es t) : PE X (.List es pos) (tLst t):=by
 intro pins s σ H Q I hq
 refine wpAny_List_spliced (thn (h pos pins s σ H _ I hq) fun us s1 ⟨xs,H1,I1,r,z,q⟩=>⟨by rw [← r.length]; exact z,?_⟩)
 have hf : H1 s1.heap.objs.size = none:=I1.hok.fresh (Nat.le_refl _)
 refine ⟨.ref s1.heap.objs.size,upd H1 s1.heap.objs.size (.lst xs),I1.laid (t':=s1.toks) (fun b u e=>Heap.get?_push_of_some _ e) (Nat.le_refl _) ?_,rfl,q _ hf⟩
 exact ⟨z,us,0,r,Heap.get?_push_size _ rfl⟩
end
abbrev Sp:=List V→Hp→VK→XK→Prop
abbrev CXT:=List Env→Hp→Shared→XK→Value→Shared→Prop
structure Env0 (P : Program) (w : World) (K : PySem.W.Frag) (mg : Str→Option Value) (base : Heap) (A : Around) (outer : List Env) (s : Shared) (H : Hp) : Prop where
 frames : A.frames = some outer
 mod : Mod K mg base
 bs : ∀ b o,base.get? b = some o→s.heap.get? b = some o∧H b = none
 bsz : base.objs.size ≤ s.heap.objs.size
 funs : s.heap.FunFrames base outer
 frf : ∀ b ∈ frs outer,H b = none
 hok : HOk P w H s.heap
 bare : AllBare s.gens
def CE (outer : List Env) (P : Program) (w : World) (H : Hp) (s : Shared) (Q : VK) (u : Value) (s' : Shared) : Prop :=
 ∃ v H',s'.os = s.os∧AllBare s'.gens∧Un (frs outer) [] H H' s.heap s'.heap∧HOk P w H' s'.heap∧RelV v u∧Q v H'
def CR (CX : CXT) (outer : List Env) (P : Program) (w : World) (H : Hp) (s : Shared) (Q : VK) (E : XK) (r : Result) (s' : Shared) : Prop :=
 match r with
 | .ok (.ret u)=>CE outer P w H s Q u s'
 | .ok _=>False
 | .error e=>CX outer H s E e s'
structure FnOk (P : Program) (w : World) (K : PySem.W.Frag) (mg : Str→Option Value) (base : Heap) (CX : CXT) (k : Nat) (f : Addr) (fd : FuncData) (ps : List Str) (sp : Sp) : Prop where
 len : ∀ vs H Q E,sp vs H Q E→vs.length = ps.length
 run : ∀ (A : Around) (outer : List Env) (s : Shared) (H : Hp) (args : Args) (us : List Value) (vs : List V) (Q : VK) (E : XK),Room k A→Env0 P w K mg base A outer s H→BindsTo s fd args (ps.zip us)→Vals vs us→sp vs H Q E →
  codeAny (model P w) A (.call (.ref f) args) (CR CX outer P w H s Q E) s
theorem FnOk.mono {P : Program} {w : World} {K : PySem.W.Frag} {mg : Str→Option Value} {base : Heap} {CX : CXT} {j k : Nat} {f : Addr} {fd : FuncData} {ps : List Str} {sp : Sp} (F : FnOk P w K mg base CX j f fd ps sp) (h : j ≤ k) :
  FnOk P w K mg base CX k f fd ps sp:=⟨F.len,fun A outer s H args us vs Q E hr=>F.run A outer s H args us vs Q E (hr.mono h)⟩
theorem Env0.make {P : Program} {w : World} {K : PySem.W.Frag} {mg : Str→Option Value} {base : Heap} {A : Around} {outer : List Env} {s : Shared} {H : Hp} (e : Env0 P w K mg base A outer s H) (C : Addr) (us : List Value) (kw : List (Str × Value)) :
  Env0 P w K mg base (A.under (.builtin "type.__call__" ⟨.ref C :: us, kw⟩)) outer s H := ⟨by first | exact e.frames | (simpa [Around.under, Code.envs, Code.isFrame, pushEnvs] using e.frames), e.mod, e.bs, e.bsz, e.funs, e.frf, e.hok, e.bare⟩
theorem Env0.in1 {P : Program} {w : World} {K : PySem.W.Frag} {mg : Str→Option Value} {base : Heap} {A : Around} {outer : List Env} {s : Shared} {H : Hp} (e : Env0 P w K mg base A outer s H) :
  Env0 P w K mg base A.in1 outer s H:=⟨e.frames,e.mod,e.bs,e.bsz,e.funs,e.frf,e.hok,e.bare⟩
section
variable {X : Cx} {pins : List (Addr × Obj)} {σ : St} {H : Hp} {s s' : Shared}
theorem Inv.env0 (I : Inv X pins σ H s) : Env0 X.prog X.w X.K X.mg X.base X.A X.stack s H :=
 ⟨I.ok.frames,I.ok.mod,I.bs,Nat.le_trans I.ok.bsz I.sz,I.stack,I.stkFree,I.hok,I.bare⟩
theorem Inv.after {Q : VK} {u : Value} (I : Inv X pins σ H s) (h : CE X.stack X.prog X.w H s Q u s') : EP X pins σ Q u s':=by
 obtain ⟨v,H',os,bare,un,hok,r,q⟩:=h
 obtain ⟨hh,g,d,t,os'⟩:=s'
 obtain rfl : os' = s.os:=os
 exact ⟨v,H',I.call (h':=hh) (g':=g) (d':=d) (t':=t) (ch:=[]) un hok bare (fun b z=>absurd z (by simp)),r,q⟩
end
def tCall (sp : Sp) (dvs : List V) (E : XK) (t : TA) : TE:=fun σ H Q=>t σ H fun vs H1=>sp (vs ++ dvs) H1 Q E
def tMake (C : Addr) (sp : Sp) (dvs : List V) (E : XK) (t : TA) : TE:=fun σ H Q=>t σ H fun vs H1=>∀ x dx,H1 x = none→H1 dx = none→dx ≠ x →
 sp (.ref x :: (vs ++ dvs)) (upd (upd H1 dx (.own x)) x (.ins C dx [])) (fun v H2=>v = .non∧Q (.ref x) H2) E
def Binds (K : PySem.W.Frag) (fd : FuncData) (ps : List Str) (ds : List Value) : Prop :=
 ∀ (s : Shared) (us : List Value),K.In s.heap→(us ++ ds).length = ps.length→BindsTo s fd ⟨us,[]⟩ (ps.zip (us ++ ds))
theorem Binds.all {K : PySem.W.Frag} {fd : FuncData} {ps : List Str} (h : ∀ us : List Value,us.length = ps.length→bindArgs fd ⟨us,[]⟩ = pure (ps.zip us)) : Binds K fd ps []:=fun s us _ hl=>by
 rw [List.append_nil] at hl ⊢
 exact .of_eq (h us hl)
def Passes (CX : CXT) (X : Cx) (E : XK) : Prop:=∀ (pins : List (Addr × Obj)) (σ : St) (H : Hp) (s : Shared) (e : Value) (s' : Shared),Inv X pins σ H s→CX X.stack H s E e s'→X.xe e s'
section
variable {X : Cx} {CX : CXT} {k : Nat} {f C : Addr} {fd : FuncData} {ps : List Str} {sp : Sp} {dvs : List V} {ds : List Value} {E : XK} {x m : Str} {p pos apos : Pos} {e o : Expr} {es : List Expr} {ta : TE} {t : TA}
theorem run_fn {pins : List (Addr × Obj)} {σ : St} {H : Hp} {s : Shared} {Q : VK} {us : List Value} {vs : List V} (F : FnOk X.prog X.w X.K X.mg X.base CX k f fd ps sp) (hr : Room k X.A) (hb : Binds X.K fd ps ds) (hd : Vals dvs ds) (hx : Passes CX X E)
  (I : Inv X pins σ H s) (r : Vals vs us) (h : sp (vs ++ dvs) H Q E) : wpAny (model X.prog X.w) X.A (call (.ref f) us) (EP X pins σ Q) X.xe s:=by
 have r2 : Vals (vs ++ dvs) (us ++ ds):=r.append hd
 have hl : (us ++ ds).length = ps.length:=by rw [← r2.length]; exact F.len _ _ _ _ h
 refine wpAny_call (codeAny_mono (F.run X.A X.stack s H ⟨us,[]⟩ (us ++ ds) (vs ++ dvs) Q E hr I.env0 (hb s us I.kIn hl) r2 h) fun r s' hq=>?_)
 cases r with
 | error e=>exact hx pins σ H s e s' I hq
 | ok fl =>
  cases fl with
  | ret u=>exact I.after hq
  | next=>exact False.elim hq
  | brk=>exact False.elim hq
  | cont=>exact False.elim hq
theorem pe_call (F : FnOk X.prog X.w X.K X.mg X.base CX k f fd ps sp) (hr : Room k X.A) (hg : Gl X x) (hm : X.mg x = some (.ref f)) (hk : PySem.W.keepIn X.K (.ref f) = true) (hb : Binds X.K fd ps ds) (hd : Vals dvs ds) (hx : Passes CX X E)
  (ha : PA X (e :: es) t) (hdb : (x == ("__debug__" : Str)) = false := by decide) (he : starEach (e :: es) X.env = (false, eval e X.env) :: starEach es X.env := by rfl) (hpl : (backTo pos (starEach es X.env)).any (·.1) = false := by rfl) :
  PE X (.Call (.Name x p) (e :: es) [] pos) (tCall sp dvs E t):=by
 intro pins s σ H Q I h
 refine wpAny_Call_Name_kw (ld_glob I hg hm ?_ hdb)
 refine PySem.W.callWith_K (h₀:=X.base) I.ok.mod.kin hk (thn (ha pos pins s σ H _ I h) fun us s1 ⟨vs,H1,I1,r,q⟩=>⟨I1.kIn,?_⟩) he hpl
 exact run_fn F hr hb hd hx I1 r q
structure Mk (K : PySem.W.Frag) (C f : Addr) : Prop where
 makes : PySem.W.makesIn K C = true
 init : PySem.W.findIn K (.ref C) "__init__" = some (some (.ref f))
 fn : PySem.W.isFn K (.ref f) = true
 kp : PySem.W.keepIn K (.ref C) = true
theorem run_make {pins : List (Addr × Obj)} {σ : St} {H : Hp} {s : Shared} {Q : VK} {us : List Value} {vs : List V} (M : Mk X.K C f) (F : FnOk X.prog X.w X.K X.mg X.base CX k f fd ps sp) (hr : Room (k + 1) X.A) (hb : Binds X.K fd ps ds) (hd : Vals dvs ds)
  (hx : Passes CX X E) (I : Inv X pins σ H s) (r : Vals vs us)
  (h : ∀ x dx,H x = none→H dx = none→dx ≠ x→sp (.ref x :: (vs ++ dvs)) (upd (upd H dx (.own x)) x (.ins C dx [])) (fun v H2=>v = .non∧Q (.ref x) H2) E) :
  wpAny (model X.prog X.w) X.A (call (.ref C) us) (EP X pins σ Q) X.xe s:=by
 have hq:=h (s.heap.objs.size + 1) s.heap.objs.size (I.hok.fresh (Nat.le_succ _)) (I.hok.fresh (Nat.le_refl _)) (Nat.ne_of_lt (Nat.lt_succ_self _))
 have I2:=Inv.made (C:=C) I
 have r2 : Vals (V.ref (s.heap.objs.size + 1) :: (vs ++ dvs)) (Value.ref (s.heap.objs.size + 1) :: (us ++ ds)):=.cons rfl (r.append hd)
 have hl : (Value.ref (s.heap.objs.size + 1) :: us ++ ds).length = ps.length:=by
  have e:=r2.length
  rw [F.len _ _ _ _ hq] at e
  exact e.symm
 refine wpAny_call (make_map (f:=f) I.kIn M.makes M.init (beq_iff_eq.mp M.fn) (codeAny_mono (F.run _ X.stack _ _ ⟨Value.ref (s.heap.objs.size + 1) :: us,[]⟩ (Value.ref (s.heap.objs.size + 1) :: (us ++ ds)) _ _ E (hr.make C us [])
  (I2.env0.make C us []) (hb _ (Value.ref (s.heap.objs.size + 1) :: us) I2.kIn hl) r2 hq) fun r s' hq'=>?_))
 cases r with
 | error e=>exact hx pins σ _ _ e s' I2 hq'
 | ok fl =>
  cases fl with
  | ret u =>
   obtain ⟨v,H',I3,rv,ev,q3⟩:=I2.after hq'
   subst ev
   exact ⟨rv,⟨V.ref (s.heap.objs.size + 1),H',I3,rfl,q3⟩⟩
  | next=>exact False.elim hq'
  | brk=>exact False.elim hq'
  | cont=>exact False.elim hq'
theorem pe_make (M : Mk X.K C f) (F : FnOk X.prog X.w X.K X.mg X.base CX k f fd ps sp) (hr : Room (k + 1) X.A) (hg : Gl X x) (hm : X.mg x = some (.ref C)) (hb : Binds X.K fd ps ds) (hd : Vals dvs ds) (hx : Passes CX X E)
  (ha : PA X (e :: es) t) (hdb : (x == ("__debug__" : Str)) = false := by decide) (he : starEach (e :: es) X.env = (false, eval e X.env) :: starEach es X.env := by rfl) (hpl : (backTo pos (starEach es X.env)).any (·.1) = false := by rfl) :
  PE X (.Call (.Name x p) (e :: es) [] pos) (tMake C sp dvs E t):=by
 intro pins s σ H Q I h
 refine wpAny_Call_Name_kw (ld_glob I hg hm ?_ hdb)
 refine PySem.W.callWith_K (h₀:=X.base) I.ok.mod.kin M.kp (thn (ha pos pins s σ H _ I h) fun us s1 ⟨vs,H1,I1,r,q⟩=>⟨I1.kIn,?_⟩) he hpl
 exact run_make M F hr hb hd hx I1 r q
end
section
variable {X : Cx} {CX : CXT} {k : Nat} {f C : Addr} {fd : FuncData} {ps ks : List Str} {sp : Sp} {E : XK} {x m : Str} {p pos apos kpos : Pos} {e o : Expr} {es : List Expr} {kws : List Keyword} {te ta : TE} {t tk : TA} {nm : Option Str}
variable {g : List Value→List Value→List Value} {gV : List V→List V→List V}
end
structure FnScope (N P : List Str) (sc : Scope) : Prop where
 kind : sc.kind = .function
 co : sc.isCoroutine = false
 gen : sc.isGenerator = false
 nd : N.Nodup
 pre : N.take P.length = P
 par : ∀ x ∈ P,sc.names.lookup x = some .local ∨ sc.names.lookup x = some .cell
 nofree : ∀ y ∈ sc.names,y.2 ≠ .free
theorem bindL_out {kindOf : Str→Option NameKind} {x : Str} : ∀ {binds : List (Str × Value)} {m : Str→Option Value},(∀ v,(x,v) ∉ binds)→bindL kindOf binds m x = m x
 | [],_,_=>rfl
 | (n,v) :: r,m,h=>by
  unfold bindL
  rw [bindL_out fun w hw=>h w (List.mem_cons_of_mem _ hw)]
  split
  ·have : x ≠ n:=by rintro rfl; exact h v List.mem_cons_self
   simp [this]
  ·rfl
theorem bindC_out {kindOf : Str→Option NameKind} {x : Str} : ∀ {binds : List (Str × Value)} {m : Str→Option Value},(∀ v,(x,v) ∉ binds)→bindC kindOf binds m x = m x
 | [],_,_=>rfl
 | (n,v) :: r,m,h=>by
  unfold bindC
  rw [bindC_out fun w hw=>h w (List.mem_cons_of_mem _ hw)]
  split
  ·rfl
  ·have : x ≠ n:=by rintro rfl; exact h v List.mem_cons_self
   simp [this]
theorem bindL_get {kindOf : Str→Option NameKind} {x : Str} {v : Value} : ∀ {P : List Str} {vs : List Value} {i : Nat} {m : Str→Option Value},P.Nodup→P[i]? = some x→vs[i]? = some v→kindOf x = some .local →
  bindL kindOf (P.zip vs) m x = some v
 | [],_,_,_,_,h,_,_=>by simp at h
 | _ :: _,[],_,_,_,_,h,_=>by simp at h
 | p :: P,w :: vs,0,m,nd,h1,h2,hk=>by
  simp at h1 h2; subst h1; subst h2
  show bindL kindOf ((p,w) :: P.zip vs) m p = _
  unfold bindL
  rw [bindL_out fun v hv=>(List.nodup_cons.mp nd).1 (List.of_mem_zip hv).1,if_pos hk]
  simp
 | p :: P,w :: vs,i + 1,m,nd,h1,h2,hk=>by
  show bindL kindOf ((p,w) :: P.zip vs) m x = _
  unfold bindL
  exact bindL_get (i:=i) (List.nodup_cons.mp nd).2 (by simpa using h1) (by simpa using h2) hk
theorem bindC_get {kindOf : Str→Option NameKind} {x : Str} {v : Value} : ∀ {P : List Str} {vs : List Value} {i : Nat} {m : Str→Option Value},P.Nodup→P[i]? = some x→vs[i]? = some v→kindOf x ≠ some .local →
  bindC kindOf (P.zip vs) m x = some v
 | [],_,_,_,_,h,_,_=>by simp at h
 | _ :: _,[],_,_,_,_,h,_=>by simp at h
 | p :: P,w :: vs,0,m,nd,h1,h2,hk=>by
  simp at h1 h2; subst h1; subst h2
  show bindC kindOf ((p,w) :: P.zip vs) m p = _
  unfold bindC
  rw [bindC_out fun v hv=>(List.nodup_cons.mp nd).1 (List.of_mem_zip hv).1,if_neg hk]
  simp
 | p :: P,w :: vs,i + 1,m,nd,h1,h2,hk=>by
  show bindC kindOf ((p,w) :: P.zip vs) m x = _
  unfold bindC
  exact bindC_get (i:=i) (List.nodup_cons.mp nd).2 (by simpa using h1) (by simpa using h2) hk
def start (N : List Str) (vs : List V) : St:=vs.map some ++ List.replicate (N.length - vs.length) none
def cxOf (CX : CXT) (P : Program) (w : World) (K : PySem.W.Frag) (mg : Str→Option Value) (base : Heap) (N : List Str) (qual : Str) (scope : Scope) (f : Addr) (cd : Value) (A : Around) (outer : List Env) (s : Shared) (H : Hp) (E : XK) : Cx where
 prog:=P
 w:=w
 K:=K
 mg:=mg
 base:=base
 A:=A.deeper (envOfC qual scope s.heap.objs.size f cd)
 N:=N
 s₀:=s
 H₀:=H
 env:=envOfC qual scope s.heap.objs.size f cd
 outer:=outer
 stack:=envOfC qual scope s.heap.objs.size f cd :: outer
 ex:=[]
 calm:=true
 fn:=fun _=>true
 pn:=[]
 xe:=fun e s'=>wpAny (model P w) (A.deeper (envOfC qual scope s.heap.objs.size f cd)) (leaving (envOfC qual scope s.heap.objs.size f cd) e) (fun _ s''=>CX outer H s E e s'') (fun e' s''=>CX outer H s E e' s'') s'
theorem cell_has {sc : Scope} {n : Nat} {x : Str} (h : sc.names.lookup x = some .cell) : ∃ c,(cellsFrom n sc.names []).lookup x = some c:=by
 have q:=PySem.W.cellsFrom_some sc.names n [] (.inl h)
 exact Option.isSome_iff_exists.mp q
theorem inv_start {CX : CXT} {P : Program} {w : World} {K : PySem.W.Frag} {mg : Str→Option Value} {base : Heap} {N ps : List Str} {qual : Str} {scope : Scope} {f : Addr} {cd : Value} {A : Around} {outer : List Env} {s s1 : Shared} {H : Hp} {E : XK} {us : List Value} {vs : List V}
  (S : FnScope N ps scope) (hd : A.handled = none) (e0 : Env0 P w K mg base A outer s H) (hl : vs.length = ps.length) (r : Vals vs us)
  (x : InCallC s s.heap.objs.size (bindL (envOfC qual scope s.heap.objs.size f cd).kindOf (ps.zip us) fun _=>none) (cellsFrom (s.heap.objs.size + 1) scope.names []) (bindC (envOfC qual scope s.heap.objs.size f cd).kindOf (ps.zip us) fun _=>none) s1) :
  Inv (cxOf CX P w K mg base N qual scope f cd A outer s H E) [] (start N vs) H s1:=by
 have hpl : ps.length ≤ N.length:=by have:=congrArg List.length S.pre; rw [List.length_take] at this; omega
 obtain ⟨h1,tk,rfl,hk⟩:=x.done
 have noA : ∀ b : Addr,b ∉ (cxOf CX P w K mg base N qual scope f cd A outer s H E).ex:=fun b z=>absurd (show b ∈ ([] : List Addr) from z) (by simp)
 refine ⟨⟨e0.mod,S.kind,rfl,rfl,Nat.le_refl _,fun y z c h1 h2=>?_,fun y hy=>?_,fun y c _ h=>?_,fun _=>hd,Around.frames_deeper e0.frames,.inr ⟨rfl,rfl⟩,fun b z=>absurd z (noA b),e0.bs,e0.bsz,fun b _ _=>noA b,fun b z=>absurd z (noA b),e0.funs,e0.frf⟩,
  rfl,e0.bare,Un.kept hk,⟨_,x.toInCall.ns,fun i y v h1 h2 h3=>?_⟩,fun y c h=>⟨_,x.cell y c h⟩,e0.hok.fresh (Nat.le_refl _),fun y c h=>?_,fun p hp=>absurd (show p ∈ ([] : List (Addr × Obj)) from hp) (by simp),e0.hok.kept hk,?_⟩
 ·exact name_of_addr x.apart (PySem.mem_of_lookup h1) (PySem.mem_of_lookup h2)
 ·have hy : scope.names.lookup y = some .cell ∨ scope.names.lookup y = some .free:=hy
  rcases hy with hy | hy
  ·exact cell_has hy
  ·exact absurd rfl (S.nofree _ (PySem.mem_of_lookup hy))
 ·exact Nat.le_of_lt (x.above y c (PySem.mem_of_lookup h))
 ·have hi : i < vs.length:=by
   unfold start at h2
   by_cases hi : i < vs.length
   ·exact hi
   ·rw [List.getElem?_append_right (by simpa using hi)] at h2
    rw [List.getElem?_replicate] at h2
    split at h2 <;> cases h2
  have ha : vs[i]? = some v:=by
   unfold start at h2
   rw [List.getElem?_append_left (by simpa using hi),List.getElem?_map] at h2
   cases e : vs[i]? with
   | none=>rw [e] at h2; cases h2
   | some a=>rw [e] at h2; cases h2; rfl
  obtain ⟨u,hu,rv⟩:=r.get ha
  have hp : ps[i]? = some y:=by
   rw [← S.pre,List.getElem?_take_of_lt (by omega)]; exact h1
  have ndP : ps.Nodup:=by rw [← S.pre]; exact S.nd.sublist (List.take_sublist _ _)
  refine ⟨u,rv,?_⟩
  rcases S.par y (List.mem_of_getElem? hp) with k | k
  ·exact .inl ⟨k,bindL_get ndP hp hu k⟩
  ·obtain ⟨c,e⟩:=cell_has (n:=s.heap.objs.size + 1) k
   refine .inr ⟨.inl k,c,e,?_⟩
   have q:=x.cell y c e
   rw [bindC_get ndP hp hu (by show scope.names.lookup y ≠ _; rw [k]; decide)] at q
   exact q
 ·exact e0.hok.fresh (Nat.le_of_lt (x.above y c (PySem.mem_of_lookup h)))
 ·unfold start
  show _ = N.length
  rw [List.length_append,List.length_map,List.length_replicate]
  omega
theorem fn_of {CX : CXT} {P : Program} {w : World} {K : PySem.W.Frag} {mg : Str→Option Value} {base : Heap} {k : Nat} {f : Addr} {name qual : Str} {params : Arguments} {body : List Stmt} {scope : Scope} {dV kV doc pm cdv ct oc : Value} {an od : Option Addr}
  {osl : Array (Option Value)} {N ps : List Str} {sp : Sp} (lk : K.lookup f = some ⟨oc,od,.func (PySem.W.fnOf name qual params body scope dV kV doc pm an cdv ct),osl⟩) (hcd : PySem.W.codeIn K cdv qual = true) (S : FnScope N ps scope)
  (len : ∀ vs H Q E,sp vs H Q E→vs.length = ps.length)
  (hbody : ∀ (A : Around) (outer : List Env) (s : Shared) (H : Hp) (vs : List V) (Q : VK) (E : XK),Room k (A.deeper (envOfC qual scope s.heap.objs.size f cdv))→sp vs H Q E →
   ∃ t,PSs (cxOf CX P w K mg base N qual scope f cdv A outer s H E) body t∧t { nx:=fun _ H'=>Q .non H',rt:=Q } (start N vs) H) :
  FnOk P w K mg base CX (k + 1) f (PySem.W.fnOf name qual params body scope dV kV doc pm an cdv ct) ps sp:=by
 refine ⟨len,fun A outer s H args us vs Q E hr e0 hb r hsp=>?_⟩
 have hl:=len _ _ _ _ hsp
 have KX : K.In s.heap:=e0.mod.kin.keeps fun b o e=>(e0.bs b o e).1
 have lim : s.heap.NoLimit:=e0.mod.nolimit.keeps fun b o e=>(e0.bs b o e).1
 have hkind : ∀ y ∈ ps.zip us,scope.names.lookup y.1 = some .local ∨ (scope.names.lookup y.1 = some .cell∧((cellsFrom (s.heap.objs.size + 1) scope.names []).lookup y.1).isSome = true):=fun ⟨n,v⟩ hy=>by
  rcases S.par n (List.of_mem_zip hy).1 with q | q
  ·exact .inl q
  ·exact .inr ⟨q,PySem.W.cellsFrom_some _ _ _ (.inl q)⟩
 refine codeAny_call_function hr.depth (KX _ _ lk) rfl S.co S.gen rfl (PySem.W.codeRec_of KX hcd) (hb _ _ _ _ ?_)
 refine wpAny_newFunctionEnv_cells S.kind hkind fun env he s1 x=>?_
 subst he
 refine ⟨lim.keeps x.toInCall.keep,codeAny_func ?_⟩
 obtain ⟨t,ht,hq⟩:=hbody A outer s H vs Q E (hr.deeper _) hsp
 have I : Inv (cxOf CX P w K mg base N qual scope f cdv A outer s H E) [] (start N vs) H s1:=inv_start S hr.hd e0 hl r x
 refine wpAny_mono (ht [] s1 (start N vs) H _ I hq) (fun fl s' hs=>?_) fun e s' hs=>hs
 have fin : ∀ {σ' : St} {H' : Hp} {v : V} {u : Value},Inv (cxOf CX P w K mg base N qual scope f cdv A outer s H E) [] σ' H' s'→RelV v u→Q v H'→CE outer P w H s Q u s' :=
  fun {σ' H' v u} J rv q=>⟨v,H',J.os,J.bare,J.base,J.hok,rv,q⟩
 cases fl with
 | ret u =>
  obtain ⟨v,σ',H',J,rv,q⟩:=hs
  exact fin J rv q
 | next =>
  obtain ⟨σ',H',J,q⟩:=hs
  exact fin (v:=V.non) (u:=Value.none) J rfl q
 | brk =>
  obtain ⟨_,_,_,q⟩:=hs
  exact False.elim q
 | cont =>
  obtain ⟨_,_,_,q⟩:=hs
  exact False.elim q
end L2
namespace L2
open PySem PySem.Spec PyProof.Rows
section
variable {X : Cx} {x : Str} {p pos : Pos} {e : Expr} {es : List Expr} {t : TA} {id T : String} {r : List V→Hp→VK→Prop}
def tCB (r : List V→Hp→VK→Prop) (t : TA) : TE:=fun σ H Q=>t σ H fun vs H1=>r vs H1 Q
theorem pe_callB (hc : CallR X (.builtin id) r) (hg : Gl X x) (hm : X.mg x = none) (hv : bootBuiltins x = some (.builtin id)) (ha : PA X (e :: es) t) (hn : x ≠ "__name__" := by decide) (hdb : (x == ("__debug__" : Str)) = false := by decide)
  (he : starEach (e :: es) X.env = (false,eval e X.env) :: starEach es X.env:=by rfl) (hpl : (backTo pos (starEach es X.env)).any (·.1) = false:=by rfl) : PE X (.Call (.Name x p) (e :: es) [] pos) (tCB r t):=by
 intro pins s σ H Q I h
 refine wpAny_Call_Name_kw (ld_blt I hg hm hv ?_ hn hdb)
 exact PyProof.Rows.callWith_builtin1 (thn (ha pos pins s σ H _ I h) fun us s1 ⟨vs,H1,I1,r1,q1⟩=>hc pins s1 σ H1 vs us Q I1 r1 q1) he hpl
theorem pe_callTy (hc : CallR X (.type T) r) (hg : Gl X x) (hm : X.mg x = none) (hv : bootBuiltins x = some (.type T)) (ha : PA X (e :: es) t) (hn : x ≠ "__name__" := by decide) (hdb : (x == ("__debug__" : Str)) = false := by decide)
  (he : starEach (e :: es) X.env = (false,eval e X.env) :: starEach es X.env:=by rfl) (hpl : (backTo pos (starEach es X.env)).any (·.1) = false:=by rfl) : PE X (.Call (.Name x p) (e :: es) [] pos) (tCB r t):=by
 intro pins s σ H Q I h
 refine wpAny_Call_Name_kw (ld_blt I hg hm hv ?_ hn hdb)
 exact PyProof.Rows.callWith_type1 (thn (ha pos pins s σ H _ I h) fun us s1 ⟨vs,H1,I1,r1,q1⟩=>hc pins s1 σ H1 vs us Q I1 r1 q1) he hpl
end
end L2
namespace HT
open PySem PyProof.Rows
section
open PySem.SeqAt
open PySem.AutoSeq1 (wpAny_loadPart')
open PySem.MeetsSeq PySem.MeetsSeq2 PySem.MeetsSeq3
end
section
variable {prog : Program} {w : World} {A : Around} {E : Value→Shared→Prop} {s : Shared}
def sIx (n d : Nat) : Option Int→Nat
 | none=>d
 | some v=>if v < 0 then (v + (n : Int)).toNat else min v.toNat n
theorem sIx_none (n d : Nat) : sIx n d none = d:=rfl
theorem sIx_nat (n d k : Nat) : sIx n d (some (k : Int)) = min k n:=by
 show (if (k : Int) < 0 then ((k : Int) + (n : Int)).toNat else min (k : Int).toNat n) = min k n
 rw [if_neg (by omega),Int.toNat_natCast]
end
end HT
namespace L2
open PySem PySem.Spec PyProof.Rows
abbrev TO:=St→Hp→(Option Int→Hp→Prop)→Prop
def PO (X : Cx) (e : Option Expr) (t : TO) : Prop :=
 ∀ (pins : List (Addr × Obj)) (s : Shared) (σ : St) (H : Hp) (Q : Option Int→Hp→Prop),Inv X pins σ H s→t σ H Q →
  wpAny (model X.prog X.w) X.A (evalPart e X.env) (fun u s'=>∃ o H',Inv X pins σ H' s'∧IsPart u o∧Q o H') X.xe s
def tNoPart : TO:=fun _ H Q=>Q none H
inductive IsI (Q : Option Int→Hp→Prop) (x : V) (H : Hp) : Prop
 | mk : ∀ i,(x = .int i)→(Q (some i) H)→IsI Q x H
def tPart (t : TE) : TO:=fun σ H Q=>t σ H (IsI Q)
section
variable {X : Cx} {e : Expr} {te : TE} {lo hi : Option Expr} {tl th : TO} {pos p2 : Pos}
theorem po_none : PO X none tNoPart:=by
 intro pins s σ H Q I h
 rw [evalPart_none]
 exact wpAny_pure ⟨none,H,I,.none,h⟩
theorem po_some (h : PE X e te) : PO X (some e) (tPart te):=by
 intro pins s σ H Q I hw
 rw [evalPart_some]
 refine thn (h pins s σ H _ I hw) fun u s1 ⟨x,H1,I1,r1,q1⟩=>?_
 obtain ⟨i,rfl,q⟩:=q1
 obtain ⟨t,rfl⟩:=r1
 exact ⟨some i,H1,I1,.int i t,q⟩
def SlR (X : Cx) (r : V→Option Int→Option Int→Hp→VK→Prop) : Prop :=
 ∀ (pins : List (Addr × Obj)) (s : Shared) (σ : St) (H : Hp) (x : V) (v vl vu : Value) (lo hi : Option Int) (sl : Addr) (Q : VK),Inv X pins σ H s→RelV x v→s.heap.IsSliceOf sl vl vu .none→IsPart vl lo→IsPart vu hi→r x lo hi H Q →
  ∃ T id, typeLookup (.type T) "__getitem__" = pure (some (.builtin id)) ∧ s.TypeIs v T ∧ wpAny (model X.prog X.w) X.A (getItem v (.ref sl)) (EP X pins σ Q) X.xe s
theorem SlR.or {r r' : V→Option Int→Option Int→Hp→VK→Prop} (h : SlR X r) (h' : SlR X r') : SlR X (fun x lo hi H Q=>r x lo hi H Q ∨ r' x lo hi H Q):=by
 intro pins s σ H x v vl vu lo hi sl Q I rx hs pl pu q
 rcases q with q | q
 ·exact h pins s σ H x v vl vu lo hi sl Q I rx hs pl pu q
 ·exact h' pins s σ H x v vl vu lo hi sl Q I rx hs pl pu q
def tSl (r : V→Option Int→Option Int→Hp→VK→Prop) (te : TE) (tl th : TO) : TE:=fun σ H Q=>te σ H fun x H1=>tl σ H1 fun l H2=>th σ H2 fun u H3=>r x l u H3 Q
theorem pe_slice {r : V→Option Int→Option Int→Hp→VK→Prop} (hr : SlR X r) (he : PE X e te) (hl : PO X lo tl) (hu : PO X hi th) : PE X (.Subscript e (.Slice lo hi none p2) pos) (tSl r te tl th):=by
 intro pins s σ H Q I h
 refine Subscript_ (thn (he pins s σ H _ I h) fun v s1 ⟨x,H1,I1,r1,q1⟩=>?_)
 refine wpAny_Slice (thn (hl pins s1 σ H1 _ I1 q1) fun vl s2 ⟨l,H2,I2,pl,q2⟩=>thn (hu pins s2 σ H2 _ I2 q2) fun vu s3 ⟨u,H3,I3,pu,q3⟩=>?_)
 rw [evalPart_none]
 refine wpAny_pure ?_
 have I4 : Inv X pins σ H3 { s3 with heap := s3.heap.push { cls := .type "slice", data := .fields #[vl, vu, .none] } } := I3.kept (t' := s3.toks) fun b ob q => Heap.get?_push_of_some _ q
 obtain ⟨T, id, hT, ht, hg⟩ := hr pins { s3 with heap := s3.heap.push { cls := .type "slice", data := .fields #[vl, vu, .none] } } σ H3 x v vl vu l u s3.heap.objs.size Q I4 r1 (Heap.IsSliceOf.new ..) pl pu q3
 show wpAny (model X.prog X.w) X.A (subscriptTail e (.Slice lo hi none p2) v (.ref s3.heap.objs.size)) (EP X pins σ Q) X.xe { s3 with heap := s3.heap.push { cls := .type "slice", data := .fields #[vl, vu, .none] } }
 exact tail_any (ops:=[.ref s3.heap.objs.size,v]) ht hT hg (by with_unfolding_all rfl)
def cutV (xs : List V) (lo hi : Option Int) : List V:=(xs.drop (HT.sIx xs.length 0 lo)).take (HT.sIx xs.length xs.length hi - HT.sIx xs.length 0 lo)
theorem cutV_length (xs : List V) (lo hi : Option Int) : (cutV xs lo hi).length ≤ xs.length:=by
 unfold cutV
 rw [List.length_take,List.length_drop]
 omega
end
end L2
namespace L2
open PySem PySem.Spec PyProof.Rows
def ixN (n : Nat) (i : Int) : Option Nat:=if 0 ≤ i then (if i < n then some i.toNat else none) else if -(n : Int) ≤ i then some (i + n).toNat else none
def atI {α : Type} (xs : List α) (i : Int) : Option α:=(ixN xs.length i).bind fun j=>xs[j]?
theorem ixN_seq {n : Nat} {i : Int} {j : Nat} (h : ixN n i = some j) : seqIndex? i n = some j∧j < n∧-(n : Int) ≤ i∧i < n:=by
 unfold ixN at h
 by_cases h0 : 0 ≤ i
 ·rw [if_pos h0] at h
  by_cases h1 : i < n
  ·rw [if_pos h1] at h
   have e : i.toNat = j:=Option.some.inj h
   exact ⟨by rw [seqIndex_of h0 h1,e],by omega,by omega,h1⟩
  ·rw [if_neg h1] at h; cases h
 ·rw [if_neg h0] at h
  by_cases h1 : -(n : Int) ≤ i
  ·rw [if_pos h1] at h
   have e : (i + n).toNat = j:=Option.some.inj h
   exact ⟨by rw [seqIndex_neg (by omega) h1,e],by omega,h1,by omega⟩
  ·rw [if_neg h1] at h; cases h
theorem atI_get {α : Type} {xs : List α} {i : Int} {v : α} (h : atI xs i = some v) : ∃ j,seqIndex? i xs.length = some j∧xs[j]? = some v∧j < xs.length∧-(xs.length : Int) ≤ i∧i < xs.length:=by
 unfold atI at h
 cases e : ixN xs.length i with
 | none=>rw [e] at h; cases h
 | some j =>
  rw [e] at h
  obtain ⟨h1,h2,h3,h4⟩:=ixN_seq e
  exact ⟨j,h1,h,h2,h3,h4⟩
theorem atI_nat {α : Type} {xs : List α} {j : Nat} {v : α} (h : xs[j]? = some v) : atI xs (j : Int) = some v:=by
 have hj : j < xs.length:=(List.getElem?_eq_some_iff.mp h).1
 have e : ixN xs.length (j : Int) = some j:=by
  unfold ixN
  rw [if_pos (by omega),if_pos (by omega)]; simp
 unfold atI; rw [e]; exact h
def PlainIx (b : Expr) : Prop:=∀ o i,subscripted b false o i = operate [o,i] (getItem o i)
def IxR (X : Cx) (r : R2) : Prop :=
 ∀ (value slice : Expr) (pins : List (Addr × Obj)) (s : Shared) (σ : St) (H : Hp) (x y : V) (v u : Value) (Q : VK),Inv X pins σ H s→RelV x v→RelV y u→r x y H Q →
  subscripted slice false v u = operate [v,u] (getItem v u)→wpAny (model X.prog X.w) X.A (subscriptTail value slice v u) (EP X pins σ Q) X.xe s
def MtR (X : Cx) (id : String) (r : V→List V→Hp→VK→Prop) : Prop :=
 ∀ (pins : List (Addr × Obj)) (s : Shared) (σ : St) (H : Hp) (x : V) (xs : List V) (v : Value) (us : List Value) (Q : VK),Inv X pins σ H s→RelV x v→Vals xs us→r x xs H Q →
  wpAny (model X.prog X.w) X.A (call (.builtin id) (v :: us)) (EP X pins σ Q) X.xe s
section
variable {X : Cx} {a b : Expr} {ta tb : TE} {pos : Pos}
theorem IxR.or {r r' : R2} (h : IxR X r) (h' : IxR X r') : IxR X (fun x y H Q=>r x y H Q ∨ r' x y H Q):=by
 intro value slice pins s σ H x y v u Q I rx ry q hs
 rcases q with q | q
 ·exact h value slice pins s σ H x y v u Q I rx ry q hs
 ·exact h' value slice pins s σ H x y v u Q I rx ry q hs
theorem MtR.or {id : String} {r r' : V→List V→Hp→VK→Prop} (h : MtR X id r) (h' : MtR X id r') : MtR X id (fun x xs H Q=>r x xs H Q ∨ r' x xs H Q):=by
 intro pins s σ H x xs v us Q I rx rs q
 rcases q with q | q
 ·exact h pins s σ H x xs v us Q I rx rs q
 ·exact h' pins s σ H x xs v us Q I rx rs q
theorem pe_ix {r : R2} (hr : IxR X r) (ha : PE X a ta) (hb : PE X b tb) (hs : PlainIx b) : PE X (.Subscript a b pos) (tOp r ta tb):=by
 intro pins s σ H Q I h
 exact Subscript_ (binT ha hb I h fun v u s2 x y H2 I2 rx ry q=>hr a b pins s2 σ H2 x y v u Q I2 rx ry q (hs _ _))
inductive rIxL (K : PySem.W.Frag) (x : V) (y : V) (H : Hp) (Q : VK) : Prop
 | mk : ∀ p xs i v,(x = .ref p)→(y = .int i)→(SqL K H p xs)→(atI xs i = some v)→(Q v H)→rIxL K x y H Q
inductive rIxT (K : PySem.W.Frag) (x : V) (y : V) (H : Hp) (Q : VK) : Prop
 | mk : ∀ p xs i v,(x = .ref p)→(y = .int i)→(SqT K H p xs)→(atI xs i = some v)→(Q v H)→rIxT K x y H Q
inductive rIxS (x : V) (y : V) (H : Hp) (Q : VK) : Prop
 | mk : ∀ z i c,(x = .str z)→(y = .int i)→(z.length ≤ sizeLine)→(atI z.cps.toList i = some c)→(Q (.str ⟨#[c]⟩) H)→rIxS x y H Q
theorem ix_list : IxR X (rIxL X.K):=by
 intro value slice pins s σ H x y v u Q I rx ry h hs
 obtain ⟨p,xs,i,z,rfl,rfl,hq,he,q⟩:=h
 cases rx
 obtain ⟨t,rfl⟩:=ry
 obtain ⟨its,r,pl,hz⟩:=I.list hq
 obtain ⟨j,h1,h2,h3,h4,h5⟩:=atI_get he
 obtain ⟨w,ew,rw'⟩:=r.get h2
 have hl:=r.length
 have hn:=line63
 have fin : EP X pins σ Q w s:=⟨z,H,I,rw',q⟩
 by_cases h0 : 0 ≤ i
 ·have hj : i.toNat = j:=by
   rw [seqIndex_of h0 h5] at h1
   exact Option.some.inj h1
  exact item_listR pl.isList h0 (by omega) (by rw [hj]; simpa using ew) fin hs
 ·have hj : (i + (its.toArray.size : Int)).toNat = j:=by
   rw [seqIndex_neg (by omega) h4] at h1
   rw [List.size_toArray,← hl]
   exact Option.some.inj h1
  exact subscriptTail_builtinR (x:=w) pl.isList.typeIs slot_list_getitem.lookup
   (wpAny_getItem_list_neg (Q:=fun r s'=>r = w∧EP X pins σ Q r s') pl.isList (by omega) (by rw [List.size_toArray] <;> omega) (by omega) (by rw [hj]; simpa using ew) ⟨rfl,fin⟩) hs
theorem ix_tup : IxR X (rIxT X.K):=by
 intro value slice pins s σ H x y v u Q I rx ry h hs
 obtain ⟨p,xs,i,z,rfl,rfl,hq,he,q⟩:=h
 cases rx
 obtain ⟨t,rfl⟩:=ry
 obtain ⟨its,r,pl,hz⟩:=I.tuple hq
 obtain ⟨j,h1,h2,h3,h4,h5⟩:=atI_get he
 obtain ⟨w,ew,rw'⟩:=r.get h2
 have hl:=r.length
 have hn:=line63
 have fin : EP X pins σ Q w s:=⟨z,H,I,rw',q⟩
 exact subscriptTail_builtinR (x:=w) pl.typeIs slot_tuple_getitem.lookup
  (getItem_tuple (j:=j) (Q:=fun r s'=>r = w∧EP X pins σ Q r s') pl (by omega) (by omega) (by rw [List.size_toArray,← hl]; exact h1) (by simpa using ew) ⟨rfl,fin⟩) hs
theorem ix_str : IxR X rIxS:=by
 intro value slice pins s σ H x y v u Q I rx ry h hs
 obtain ⟨z,i,c,rfl,rfl,hz,he,q⟩:=h
 obtain ⟨t,rfl⟩:=rx
 obtain ⟨t',rfl⟩:=ry
 obtain ⟨j,h1,h2,h3,h4,h5⟩:=atI_get he
 have hl : z.cps.toList.length = z.length:=by simp [Str.length]
 rw [hl] at h1 h4 h5
 have hn:=line63
 exact tail_any (typeIs_str s z t) slot_str_getitem.lookup (getItem_str (c:=c) (by
  have e1 : decide (i < -(2 ^ 63 : Int)) = false:=decide_eq_false (by omega)
  have e2 : decide (i ≥ 2 ^ 63) = false:=decide_eq_false (by omega)
  rw [e1,e2,Bool.or_false]) (by rw [h1]; simpa using h2) ⟨.str ⟨#[c]⟩,H,I.tok _,⟨_,rfl⟩,q⟩) hs
theorem mapSeq_set (its : List Value) (n j : Nat) (u : Value) : Obj.mapSeq (·.setIfInBounds j u) { cls := .type "list", data := .seq its.toArray n } = { cls := .type "list", data := .seq (its.set j u).toArray n } := by
 simp [Obj.mapSeq]
theorem Inv.lst {pins : List (Addr × Obj)} {σ : St} {H : Hp} {s : Shared} {p : Addr} {xs : List V} (I : Inv X pins σ H s) (h : H p = some (.lst xs)) :
  ∃ (its : List Value) (n : Nat), Vals xs its ∧ s.heap.get? p = some { cls := .type "list", data := .seq its.toArray n } ∧ xs.length ≤ sizeLine := by
 obtain ⟨z,its,n,r,e⟩:=I.hok p _ h
 exact ⟨its,n,r,e,z⟩
theorem Inv.lstUpd {pins : List (Addr × Obj)} {σ : St} {H : Hp} {s : Shared} {p : Addr} {xs ys : List V} {its its' : List Value} {n n' : Nat} {f : Obj→Obj} (I : Inv X pins σ H s) (h : H p = some (.lst xs))
  (ho : s.heap.get? p = some { cls := .type "list", data := .seq its.toArray n }) (hf : f { cls := .type "list", data := .seq its.toArray n } = { cls := .type "list", data := .seq its'.toArray n' }) (r : Vals ys its') (hz : ys.length ≤ sizeLine) (t : Nat) :
  Inv X pins σ (upd H p (.lst ys)) { s with heap:=s.heap.update p f,toks:=t }:=by
 have e : (s.heap.update p f).get? p = some { cls := .type "list", data := .seq its'.toArray n' } := by
  rw [Heap.get?_update_self f ho (by rw [hf] <;> rfl),hf]
 refine I.write (x:=p) (e:=p) (by rw [h]; trivial) (.inl rfl) (fun b u hb q=>(Heap.get?_update_other _ _ (Ne.symm hb)).trans q) ⟨_,e⟩ ?_
 exact ⟨hz,its',n',r,e⟩
inductive rSetL (o : V) (i : V) (v : V) (H : Hp) (Q : (Hp→Prop)) : Prop
 | mk : ∀ p xs k j,(o = .ref p)→(i = .int k)→(H p = some (.lst xs))→(ixN xs.length k = some j)→(Q (upd H p (.lst (xs.set j v))))→rSetL o i v H Q
theorem set_list : PSet X rSetL:=by
 intro pins s σ H o i v ov iv u Q I ro ri rv h
 obtain ⟨p,xs,k,j,rfl,rfl,hp,hj,q⟩:=h
 cases ro
 obtain ⟨t,rfl⟩:=ri
 obtain ⟨its,n,r,ho,hz⟩:=I.lst hp
 obtain ⟨h1,h2,h3,h4⟩:=ixN_seq hj
 have hl:=r.length
 have hn:=line63
 have I' : Inv X pins σ (upd H p (.lst (xs.set j v))) { s with heap:=s.heap.update p (Obj.mapSeq (·.setIfInBounds j u)) } :=
  I.lstUpd hp ho (mapSeq_set its n j u) (r.set rv j) (by rw [List.length_set]; exact hz) s.toks
 by_cases h0 : 0 ≤ k
 ·have hk : k.toNat = j:=by
   rw [seqIndex_of h0 h4] at h1
   exact Option.some.inj h1
  exact PySem.W.ki_setAt ho h0 (by omega) (by rw [List.size_toArray,← hl]; exact h4) (by rw [hk]; exact ⟨_,I',q⟩)
 ·have hk : (k + (its.toArray.size : Int)).toNat = j:=by
   rw [seqIndex_neg (by omega) h3] at h1
   rw [List.size_toArray,← hl]
   exact Option.some.inj h1
  exact PySem.W.ki_setBack ho (by omega) (by rw [List.size_toArray,← hl]; exact h3) (by omega) (by rw [hk]; exact ⟨_,I',q⟩)
theorem slice_bounds (lo hi : Option Int) (n : Nat) : (sliceBounds lo hi none n).1 = ((HT.sIx n 0 lo : Nat) : Int)∧(sliceBounds lo hi none n).2.1 = ((HT.sIx n n hi : Nat) : Int)∧(sliceBounds lo hi none n).2.2 = 1:=by
 refine ⟨?_,?_,rfl⟩
 ·cases lo with
  | none=>simp [sliceBounds,HT.sIx]
  | some i =>
   simp only [sliceBounds,HT.sIx,Option.getD_none,show (1 : Int) > 0 by decide,if_true]
   by_cases h : i < 0
   ·simp only [h,if_true] <;> omega
   ·simp only [h,if_false] <;> omega
 ·cases hi with
  | none=>simp [sliceBounds,HT.sIx]
  | some i =>
   simp only [sliceBounds,HT.sIx,Option.getD_none,show (1 : Int) > 0 by decide,if_true]
   by_cases h : i < 0
   ·simp only [h,if_true] <;> omega
   ·simp only [h,if_false] <;> omega
theorem slicePick_cut (its : List Value) (lo hi : Option Int) : slicePick its.toArray lo hi none = ((its.drop (HT.sIx its.length 0 lo)).take (HT.sIx its.length its.length hi - HT.sIx its.length 0 lo)).toArray:=by
 obtain ⟨h1,h2,h3⟩:=slice_bounds lo hi its.toArray.size
 unfold slicePick
 rw [h1,h2,h3]
 simp only [sliceRange_one,pick_run,List.size_toArray] <;> rfl
inductive rSlL (K : PySem.W.Frag) (x : V) (lo : Option Int) (hi : Option Int) (H : Hp) (Q : VK) : Prop
 | mk : ∀ a xs,(x = .ref a)→(SqL K H a xs)→(∀ p,H p = none→Q (.ref p) (upd H p (.lst (cutV xs lo hi))))→rSlL K x lo hi H Q
theorem sl_list : SlR X (rSlL X.K):=by
 intro pins s σ H x v vl vu lo hi sl Q I rx hs pl pu h
 obtain ⟨a,xs,rfl,hx,q⟩:=h
 cases rx
 obtain ⟨its,r,ht,hz⟩:=I.list hx
 have hlen:=r.length
 refine ⟨"list", _, slot_list_getitem.lookup, ht.isList.typeIs, ?_⟩
 refine wpAny_getItem_list_slice ht.isList hs pl pu .none (by simp) ?_ (by rw [List.size_toArray] <;> omega)
 rw [slicePick_cut,← hlen]
 refine ⟨.ref s.heap.objs.size,_,I.laid (t':=s.toks) (o:=.lst (cutV xs lo hi)) (fun b ob q=>Heap.get?_push_of_some _ q) (Nat.le_refl _) ?_,rfl,q _ (I.hok.fresh (Nat.le_refl _))⟩
 exact ⟨Nat.le_trans (cutV_length xs lo hi) hz,_,0,(r.drop (HT.sIx xs.length 0 lo)).take (HT.sIx xs.length xs.length hi - HT.sIx xs.length 0 lo),Heap.get?_push_size _ rfl⟩
def flatV : V→Bool
 | .non=>true
 | .bl _=>true
 | .int _=>true
 | .str _=>true
 | _=>false
def eqV : V→V→Bool
 | .non,.non=>true
 | .bl a,.bl b=>a == b
 | .bl a,.int b=>(if a then 1 else 0) == b
 | .int a,.bl b=>a == (if b then 1 else 0)
 | .int a,.int b=>a == b
 | .str a,.str b=>a == b
 | _,_=>false
theorem eqAt_V {A : Around} {s : Shared} {y x : V} {u v : Value} (ry : RelV y u) (rx : RelV x v) (fy : flatV y = true) (fx : flatV x = true) : SeqAt.EqAt A s u v (eqV y x):=by
 cases y with
 | non =>
  cases ry
  cases x with
  | non=>cases rx; exact SeqAt.EqAt.same _
  | bl b=>cases rx; exact SeqAt.EqAt.none_bool b
  | int b=>obtain ⟨t,rfl⟩:=rx; exact SeqAt.EqAt.none_int b t
  | str b=>obtain ⟨t,rfl⟩:=rx; exact SeqAt.EqAt.none_str b t
  | _=>exact absurd (show false = true from fx) Bool.false_ne_true
 | bl a =>
  cases ry
  cases x with
  | non=>cases rx; exact SeqAt.EqAt.bool_none a
  | bl b=>cases rx; exact SeqAt.EqAt.bool_bool a b
  | int b=>obtain ⟨t,rfl⟩:=rx; exact SeqAt.EqAt.bool_int a b t
  | str b=>obtain ⟨t,rfl⟩:=rx; exact SeqAt.EqAt.bool_str a b t
  | _=>exact absurd (show false = true from fx) Bool.false_ne_true
 | int a =>
  obtain ⟨t',rfl⟩:=ry
  cases x with
  | non=>cases rx; exact SeqAt.EqAt.int_none a t'
  | bl b=>cases rx; exact SeqAt.EqAt.int_bool a t' b
  | int b=>obtain ⟨t,rfl⟩:=rx; exact SeqAt.EqAt.int_int a t' b t
  | str b=>obtain ⟨t,rfl⟩:=rx; exact SeqAt.EqAt.int_str a t' b t
  | _=>exact absurd (show false = true from fx) Bool.false_ne_true
 | str a =>
  obtain ⟨t',rfl⟩:=ry
  cases x with
  | non=>cases rx; exact SeqAt.EqAt.str_none a t'
  | bl b=>cases rx; exact SeqAt.EqAt.str_bool a t' b
  | int b=>obtain ⟨t,rfl⟩:=rx; exact SeqAt.EqAt.str_int a t' b t
  | str b=>obtain ⟨t,rfl⟩:=rx; exact SeqAt.EqAt.str_str a t' b t
  | _=>exact absurd (show false = true from fx) Bool.false_ne_true
 | _=>exact absurd (show false = true from fy) Bool.false_ne_true
def eqU (x : V) (u : Value) : Bool:=match u with
 | .none=>eqV .non x
 | .bool b=>eqV (.bl b) x
 | .int i _=>eqV (.int i) x
 | .str z _=>eqV (.str z) x
 | _=>false
theorem eqU_of {x y : V} {u : Value} (r : RelV y u) (f : flatV y = true) : eqU x u = eqV y x:=by
 cases y with
 | non=>cases r; rfl
 | bl b=>cases r; rfl
 | int i=>obtain ⟨t,rfl⟩:=r; rfl
 | str z=>obtain ⟨t,rfl⟩:=r; rfl
 | _=>exact absurd (show false = true from f) Bool.false_ne_true
theorem any_eqU {x : V} : ∀ {xs : List V} {us : List Value},Vals xs us→xs.all flatV = true→us.any (eqU x) = xs.any fun y=>eqV y x
 | _,_,.nil,_=>rfl
 | y :: xs,u :: us,.cons r t,f=>by
  rw [List.all_cons,Bool.and_eq_true] at f
  rw [List.any_cons,List.any_cons,eqU_of r f.1,any_eqU t f.2]
theorem mem_eqAt {A : Around} {s : Shared} {x : V} {v : Value} (rx : RelV x v) (fx : flatV x = true) : ∀ {xs : List V} {us : List Value},Vals xs us→xs.all flatV = true→∀ u ∈ us,SeqAt.EqAt A s u v (eqU x u)
 | _,_,.nil,_=>fun u hu=>by cases hu
 | y :: xs,u :: us,.cons r t,f=>fun u' hu=>by
  rw [List.all_cons,Bool.and_eq_true] at f
  rcases List.mem_cons.mp hu with rfl | hu
  ·rw [eqU_of r f.1]; exact eqAt_V r rx f.1 fx
  ·exact mem_eqAt rx fx t f.2 u' hu
def inV (x : V) (xs : List V) : Bool:=xs.any fun y=>eqV y x
inductive rIn (K : PySem.W.Frag) (neg : Bool) (x : V) (y : V) (H : Hp) (Q : VK) : Prop
 | mk : ∀ p xs,(y = .ref p)→((SqL K H p xs ∨ SqT K H p xs))→(flatV x = true)→(xs.all flatV = true)→(Q (.bl (if neg then !inV x xs else inV x xs)) H)→rIn K neg x y H Q
theorem op_in_seq : OpR X (compareOp .In) (rIn X.K false):=by
 intro pins s σ H x y v u Q I rx ry h
 obtain ⟨p,xs,rfl,hq,fx,fs,q⟩:=h
 cases ry
 rcases hq with hq | hq
 ·obtain ⟨its,r,pl,hz⟩:=I.list hq
  refine SeqAt.in_listAt (eqU x) pl.isList (fun w hw=>mem_eqAt rx fx r fs w (by simpa using hw)) ⟨.bl _,H,I,rfl,?_⟩
  rw [show its.toArray.any (eqU x) = its.any (eqU x) by simp,any_eqU r fs]
  exact q
 ·obtain ⟨its,r,pl,hz⟩:=I.tuple hq
  refine SeqAt.in_tupleAt (eqU x) pl (fun w hw=>mem_eqAt rx fx r fs w (by simpa using hw)) ⟨.bl _,H,I,rfl,?_⟩
  rw [show its.toArray.any (eqU x) = its.any (eqU x) by simp,any_eqU r fs]
  exact q
theorem op_notIn_seq : OpR X (compareOp .NotIn) (rIn X.K true):=by
 intro pins s σ H x y v u Q I rx ry h
 obtain ⟨p,xs,rfl,hq,fx,fs,q⟩:=h
 cases ry
 rcases hq with hq | hq
 ·obtain ⟨its,r,pl,hz⟩:=I.list hq
  refine SeqAt.notIn_listAt (eqU x) pl.isList (fun w hw=>mem_eqAt rx fx r fs w (by simpa using hw)) ⟨.bl _,H,I,rfl,?_⟩
  rw [show its.toArray.any (eqU x) = its.any (eqU x) by simp,any_eqU r fs]
  exact q
 ·obtain ⟨its,r,pl,hz⟩:=I.tuple hq
  refine SeqAt.notIn_tupleAt (eqU x) pl (fun w hw=>mem_eqAt rx fx r fs w (by simpa using hw)) ⟨.bl _,H,I,rfl,?_⟩
  rw [show its.toArray.any (eqU x) = its.any (eqU x) by simp,any_eqU r fs]
  exact q
inductive rLen (K : PySem.W.Frag) (xs : List V) (H : Hp) (Q : VK) : Prop
 | mk : ∀ p ys,(xs = [.ref p])→(SqL K H p ys ∨ SqT K H p ys)→(Q (.int ys.length) H)→rLen K xs H Q
theorem call_len_seq : CallR X (.builtin "len") (rLen X.K) := by
 intro pins s σ H xs us Q I r h
 obtain ⟨p,ys,rfl,hq,q⟩:=h
 obtain ⟨u,rfl,rx⟩:=vals1 r
 cases rx
 have hn:=line63
 rcases hq with hq | hq
 ·obtain ⟨its,r',pl,hz⟩:=I.list hq
  have hlen:=r'.length
  exact Calls.call_len_list pl.isList (by simp only [List.size_toArray] <;> omega) ⟨.int ys.length,H,I.tok _,⟨s.toks + 1,by rw [List.size_toArray,hlen]⟩,q⟩
 ·obtain ⟨its,r',pl,hz⟩:=I.tuple hq
  have hlen:=r'.length
  exact len_tuple pl (by simp only [List.size_toArray] <;> omega) ⟨.int ys.length,H,I.tok _,⟨s.toks + 1,by rw [List.size_toArray,hlen]⟩,q⟩
theorem call_len_str : CallR X (.builtin "len") (fun xs H Q => ∃ z, xs = [.str z] ∧ z.length ≤ sizeLine ∧ Q (.int z.length) H) := by
 intro pins s σ H xs us Q I r h
 obtain ⟨z,rfl,hz,q⟩:=h
 obtain ⟨u,rfl,t,rfl⟩:=vals1 r
 have hn:=line63
 exact len_str (by omega) ⟨.int z.length,H,I.tok _,⟨_,rfl⟩,q⟩
theorem CallR.or {f : Value} {r r' : List V→Hp→VK→Prop} (h : CallR X f r) (h' : CallR X f r') : CallR X f (fun xs H Q=>r xs H Q ∨ r' xs H Q):=by
 intro pins s σ H xs us Q I rs q
 rcases q with q | q
 ·exact h pins s σ H xs us Q I rs q
 ·exact h' pins s σ H xs us Q I rs q
inductive rLstOf (K : PySem.W.Frag) (xs : List V) (H : Hp) (Q : VK) : Prop
 | mk : ∀ p ys,(xs = [.ref p])→(SqL K H p ys ∨ SqT K H p ys)→(∀ l,H l = none→Q (.ref l) (upd H l (.lst ys)))→rLstOf K xs H Q
theorem call_list_of : CallR X (.type "list") (rLstOf X.K) := by
 intro pins s σ H xs us Q I r h
 obtain ⟨p,ys,rfl,hq,q⟩:=h
 obtain ⟨u,rfl,rx⟩:=vals1 r
 cases rx
 have fin : ∀ (its : List Value),Vals ys its→ys.length ≤ sizeLine→∀ (h' : Heap) (c' : Nat),(∀ b o',s.heap.get? b = some o'→h'.get? b = some o') →
   h'.get? s.heap.objs.size = some { cls := .type "list", dict := none, data := .seq its.toArray c', slots := #[] } → EP X pins σ Q (.ref s.heap.objs.size) { s with heap := h' } := fun its r' hz h' c' kp e =>
  ⟨.ref s.heap.objs.size,_,I.laid (t':=s.toks) kp (Nat.le_refl _) (show ObjOk X.prog X.w _ h' _ (.lst ys) from ⟨hz,its,c',r',e⟩),rfl,q _ (I.hok.fresh (Nat.le_refl _))⟩
 rcases hq with hq | hq
 ·obtain ⟨its,r',pl,hz⟩:=I.list hq
  have hlen:=r'.length
  obtain ⟨o,ho,hc,n,hd⟩:=pl.isList
  exact call_list_seq p (.inl rfl) ho hc hd (fun h' c' kp e=>fin its r' hz h' c' kp e) (by simp only [List.size_toArray] <;> omega)
 ·obtain ⟨its,r',pl,hz⟩:=I.tuple hq
  have hlen:=r'.length
  obtain ⟨o,ho,hc,n,hd⟩:=pl
  exact call_list_seq p (.inr rfl) ho hc hd (fun h' c' kp e=>fin its r' hz h' c' kp e) (by simp only [List.size_toArray] <;> omega)
def tyV (K : PySem.W.Frag) (T : String) (x : V) (H : Hp) : Prop:=match x with
 | .str _ => T = "str"
 | .int _ => T = "int"
 | .ref p => (T = "list" ∧ ∃ xs, SqL K H p xs) ∨ (T = "tuple" ∧ ∃ o, K.lookup p = some o ∧ o.cls = .type "tuple" ∧ o.dict = none) ∨
   (T = "dict" ∧ ((∃ kvs, H p = some (.dK kvs)) ∨ ∃ kvs, H p = some (.dT kvs))) ∨ (T = "set" ∧ ∃ S n, H p = some (.set S n))
 | _=>False
theorem tyV_is {pins : List (Addr × Obj)} {σ : St} {H : Hp} {s : Shared} {T : String} {x : V} {v : Value} (I : Inv X pins σ H s) (r : RelV x v) (ty : tyV X.K T x H) :
  s.TypeIs v T∧∀ a,v = .ref a→∃ ob,s.heap.get? a = some ob∧ob.dict = none:=by
 cases x with
 | str z =>
  obtain ⟨t,rfl⟩:=r
  cases (show T = "str" from ty)
  exact ⟨typeIs_str s z t,fun _ e=>nomatch e⟩
 | int i =>
  obtain ⟨t,rfl⟩:=r
  cases (show T = "int" from ty)
  exact ⟨typeIs_int s i t,fun _ e=>nomatch e⟩
 | ref p =>
  cases r
  rcases ty with ⟨rfl,xs,hq⟩ | ⟨rfl,o,hk,hc,hd⟩ | ⟨rfl,hk⟩ | ⟨rfl,S,n,hk⟩
  ·obtain ⟨its,_,pl,_⟩:=I.list hq
   refine ⟨pl.isList.typeIs,fun a e=>?_⟩
   cases e
   obtain ⟨o,n,e,c,hd,_⟩:=pl
   exact ⟨o,e,hd⟩
  ·refine ⟨⟨o,I.kIn p o hk,hc⟩,fun a e=>?_⟩
   cases e
   exact ⟨o,I.kIn _ o hk,hd⟩
  ·have z : ∃ o,s.heap.get? p = some o∧o.ExactDict:=by
    rcases hk with ⟨kvs,hk⟩ | ⟨kvs,hk⟩
    ·obtain ⟨_,_,_,_,o,_,_,e,ex,_⟩:=I.hok p _ hk
     exact ⟨o,e,ex⟩
    ·obtain ⟨_,_,_,_,o,_,_,e,ex,_⟩:=I.hok p _ hk
     exact ⟨o,e,ex⟩
   obtain ⟨o,e,ex⟩:=z
   refine ⟨⟨o,e,ex.1⟩,fun a e2=>?_⟩
   cases e2
   exact ⟨o,e,ex.2.1⟩
  ·obtain ⟨o,_,_,_,e,ex,_⟩:=I.hok p _ hk
   refine ⟨⟨o,e,ex.1⟩,fun a e2=>?_⟩
   cases e2
   exact ⟨o,e,ex.2.1⟩
 | _=>exact False.elim ty
def tBM (K : PySem.W.Frag) (T : String) (r : V→List V→Hp→VK→Prop) (to : TE) (t : TA) : TE:=fun σ H Q=>to σ H fun x H1=>tyV K T x H1∧t σ H1 fun xs H2=>r x xs H2 Q
variable {o e : Expr} {es : List Expr} {to : TE} {t : TA} {name : Str} {apos cpos : Pos} {T id : String} {r : V→List V→Hp→VK→Prop}
theorem pe_bm (pa : PlainAttrs T) (slot : Slot T name id) (hty : typeOf (.builtin id) = pure (.type "method_descriptor")) (hm : MtR X id r) (ho : PE X o to) (ha : PA X (e :: es) t)
  (hbase : attributeBase o name X.env (eval o X.env) = eval o X.env:=by rfl)
  (hfew : ((backTo cpos (starEach (e :: es) X.env)).all (fun x=>!x.1) && (backToKw cpos (keywordEach [] X.env)).all (fun x=>x.1.isSome)
   && decide ((e :: es).length + ([] : List Keyword).length + (if ([] : List Keyword).isEmpty then 0 else 1) < 30)) = true:=by rfl)
  (hline : (apos.endLine == cpos.line) = true:=by rfl) (hs : starEach (e :: es) X.env = (false,eval e X.env) :: starEach es X.env:=by rfl) (hplain : (backTo cpos (starEach es X.env)).any (·.1) = false:=by rfl) :
  PE X (.Call (.Attribute o name apos) (e :: es) [] cpos) (tBM X.K T r to t):=by
 intro pins s σ H Q I h
 refine wpAny_Call_method_late hbase hfew hline rfl (thn (ho pins s σ H _ I h) fun v s1 ⟨x,H1,I1,r1,ty,q1⟩=>?_)
 obtain ⟨h1,h2⟩:=tyV_is I1 r1 ty
 refine ⟨T,id,pa,slot,hty,h1,h2,?_⟩
 have hA:=ha cpos pins s1 σ H1 _ I1 q1
 rw [hs] at hA ⊢
 refine Calls.callWith_builtin (by show (false || (backTo cpos (starEach es X.env)).any (·.1)) = false; rw [hplain] <;> rfl) (Calls.evalArgs_plain ?_)
 exact thn hA fun us s2 ⟨vs,H2,I2,r2,q2⟩=>hm pins s2 σ H2 x vs v us Q I2 r1 r2 q2
/- xs.append(e),list.index on a module's tuple .. are MtR facts of 06m -/
end
end L2
namespace L2
open PySem PySem.Spec PyProof.Rows
def MtM (X : Cx) (id : String) (r : V→List V→Hp→VK→Prop) : Prop :=
 ∀ (pins : List (Addr × Obj)) (s : Shared) (σ : St) (H : Hp) (x : V) (xs : List V) (v : Value) (us : List Value) (Q : VK),Inv X pins σ H s→RelV x v→Vals xs us→r x xs H Q →
  wpAny (model X.prog X.w) X.A (call (.builtin id) (v :: us)) (EP X pins σ Q) X.xe s
theorem Vals.one : ∀ {x : V} {us : List Value},Vals [x] us→∃ u,us = [u]∧RelV x u
 | _,_,.cons r .nil=>⟨_,rfl,r⟩
theorem Vals.two : ∀ {x y : V} {us : List Value},Vals [x,y] us→∃ u v,us = [u,v]∧RelV x u∧RelV y v
 | _,_,_,.cons r (.cons q .nil)=>⟨_,_,rfl,r,q⟩
theorem Vals.zero : ∀ {us : List Value},Vals [] us→us = []
 | _,.nil=>rfl
theorem Vals.rep {xs : List V} {us : List Value} (h : Vals xs us) : ∀ k : Nat,Vals (List.replicate k xs).flatten (List.replicate k us).flatten
 | 0=>.nil
 | k + 1=>by
  rw [List.replicate_succ,List.replicate_succ,List.flatten_cons,List.flatten_cons]
  exact Vals.append h (Vals.rep h k)
theorem foldl_rep (its : List Value) : ∀ (k : Nat) (acc : List Value),
  List.foldl (fun x1 x2=>x1 ++ x2) acc.toArray (List.replicate k its.toArray) = (acc ++ (List.replicate k its).flatten).toArray
 | 0,acc=>by simp
 | k + 1,acc=>by
  have e : acc.toArray ++ its.toArray = (acc ++ its).toArray:=by simp
  have e2 : (acc ++ its) ++ (List.replicate k its).flatten = acc ++ (List.replicate (k + 1) its).flatten:=by
   rw [List.replicate_succ,List.flatten_cons,List.append_assoc]
  rw [← e2,← foldl_rep its k (acc ++ its),← e,List.replicate_succ,List.foldl_cons]
section
variable {X : Cx} {pins : List (Addr × Obj)} {σ : St} {H : Hp} {s : Shared} {l b : Addr} {xs ys zs : List V}
theorem Inv.lset {its its' : List Value} {n : Nat} {f : Array Value→Array Value} {t' : Nat} (I : Inv X pins σ H s) (hH : H l = some (.lst xs))
  (e : s.heap.get? l = some { cls := .type "list", data := .seq its.toArray n }) (hf : f its.toArray = its'.toArray) (hv : Vals ys its') (hz : ys.length ≤ sizeLine) :
  Inv X pins σ (upd H l (.lst ys)) { s with heap:=s.heap.update l (Obj.mapSeq f),toks:=t' }:=by
 have q:=PySem.IsL.update e f
 rw [hf] at q
 refine I.write (x:=l) (e:=l) (by rw [hH]; exact trivial) (.inl rfl) (fun b' u hb hu=>(Heap.get?_update_other s.heap (Obj.mapSeq f) (Ne.symm hb)).trans hu) ⟨_,q⟩ ?_
 exact ⟨hz,its',_,hv,q⟩
theorem Inv.lnew {its : List Value} {t' : Nat} (I : Inv X pins σ H s) (hv : Vals ys its) (hz : ys.length ≤ sizeLine) :
  Inv X pins σ (upd H s.heap.objs.size (.lst ys)) { s with heap := s.heap.push { cls := .type "list", data := .seq its.toArray }, toks := t' } :=
 I.laid (fun _ _ q=>Heap.get?_push_of_some _ q) (Nat.le_refl _) ⟨hz,its,0,hv,Heap.get?_push_size _ rfl⟩
theorem Inv.fresh (I : Inv X pins σ H s) : H s.heap.objs.size = none:=I.hok.fresh (Nat.le_refl _)
theorem Inv.lstM (I : Inv X pins σ H s) (hH : H l = some (.lst xs)) : xs.length ≤ sizeLine ∧ ∃ (its : List Value) (n : Nat), Vals xs its ∧ xs.length = its.length ∧ s.heap.get? l = some { cls := .type "list", data := .seq its.toArray n } := by
 obtain ⟨z,its,n,r,e⟩:=I.hok l _ hH
 exact ⟨z,its,n,r,r.length,e⟩
theorem notLongL {n : Nat} (h : n ≤ sizeLine) : Builtin.List.listTooLong n = false:=by
 unfold Builtin.List.listTooLong
 exact decide_eq_false (by omega)
end
section
variable {X : Cx}
inductive rAppend (x : V) (vs : List V) (H : Hp) (Q : VK) : Prop
 | mk : ∀ l xs y,(x = .ref l)→(vs = [y])→(H l = some (.lst xs))→(xs.length < sizeLine)→(Q .non (upd H l (.lst (xs ++ [y]))))→rAppend x vs H Q
theorem mt_append : MtM X "list.append" rAppend := by
 intro pins s σ H x vs v us Q I rx rv h
 obtain ⟨l,xs,y,rfl,rfl,hH,hz,q⟩:=h
 cases rx
 obtain ⟨u,rfl,ru⟩:=rv.one
 obtain ⟨z,its,n,r,hl,e⟩:=I.lstM hH
 refine call_meets F.slot_list_append ⟨_,e,rfl⟩ F.entry_list_append (F.args_list_append_2 _ _) (PySem.list_append l its.toArray n u (by rw [List.size_toArray]; omega)) ⟨e,?_⟩
 refine ⟨.non,_,I.lset (its':=its ++ [u]) hH e (by simp) (r.append (.cons ru .nil)) ?_,rfl,q⟩
 rw [List.length_append,List.length_singleton]
 omega
inductive rExtend (x : V) (vs : List V) (H : Hp) (Q : VK) : Prop
 | mk : ∀ l b xs zs,(x = .ref l)→(vs = [.ref b])→(H l = some (.lst xs))→(H b = some (.lst zs))→(xs.length + zs.length ≤ sizeLine)→(Q .non (upd H l (.lst (xs ++ zs))))→rExtend x vs H Q
theorem mt_extend : MtM X "list.extend" rExtend := by
 intro pins s σ H x vs v us Q I rx rv h
 obtain ⟨l,b,xs,zs,rfl,rfl,hH,hB,hz,q⟩:=h
 cases rx
 obtain ⟨u,rfl,ru⟩:=rv.one
 cases ru
 obtain ⟨z,its,n,r,hl,e⟩:=I.lstM hH
 obtain ⟨z2,its2,n2,r2,hl2,e2⟩:=I.lstM hB
 have hsz : its.toArray.size + its2.toArray.size ≤ sizeLine:=by rw [List.size_toArray,List.size_toArray]; omega
 have hlong : ¬ (!its.toArray.isEmpty && Builtin.List.listTooLong (its.toArray.size + its2.toArray.size)) = true:=by
  rw [notLongL hsz,Bool.and_false]
  exact Bool.false_ne_true
 refine call_meets F.slot_list_extend ⟨_,e,rfl⟩ F.entry_list_extend (F.args_list_extend_2 _ _)
  (AutoSeq1.list_extend_list_list_0 l its.toArray n b its2.toArray n2 hlong (by rw [List.size_toArray]; omega) (by omega)) ⟨e,e2,?_⟩
 refine ⟨.non,_,I.lset (its':=its ++ its2) hH e (by simp) (r.append r2) ?_,rfl,q⟩
 rw [List.length_append]
 omega
inductive rCat (x : V) (y : V) (H : Hp) (Q : VK) : Prop
 | mk : ∀ l b xs zs,(x = .ref l)→(y = .ref b)→(H l = some (.lst xs))→(H b = some (.lst zs))→(xs.length + zs.length ≤ sizeLine)→(∀ p,H p = none→Q (.ref p) (upd H p (.lst (xs ++ zs))))→rCat x y H Q
theorem op_cat : OpR X (binaryOp .Add) rCat:=by
 intro pins s σ H x y v u Q I rx ry h
 obtain ⟨l,b,xs,zs,rfl,rfl,hH,hB,hz,q⟩:=h
 cases rx
 cases ry
 obtain ⟨z,its,n,r,hl,e⟩:=I.lstM hH
 obtain ⟨z2,its2,n2,r2,hl2,e2⟩:=I.lstM hB
 refine PySem.P.add_list e e2 ?_ (by rw [List.size_toArray,List.size_toArray]; omega)
 have ea : its.toArray ++ its2.toArray = (its ++ its2).toArray:=by simp
 rw [ea]
 exact ⟨.ref _,_,I.lnew (t':=s.toks) (r.append r2) (by rw [List.length_append]; omega),rfl,q _ I.fresh⟩
inductive rRep (x : V) (y : V) (H : Hp) (Q : VK) : Prop
 | mk : ∀ l k xs,(x = .ref l)→(y = .int k)→(H l = some (.lst xs))→(-(2 ^ 63) ≤ k)→(k < 2 ^ 63)→(xs.length * k.toNat ≤ sizeLine)→(∀ p,H p = none→Q (.ref p) (upd H p (.lst (List.replicate k.toNat xs).flatten)))→rRep x y H Q
theorem len_rep {α : Type} (xs : List α) (k : Nat) : (List.replicate k xs).flatten.length = k * xs.length:=by
 induction k with
 | zero=>simp
 | succ k ih=>rw [List.replicate_succ,List.flatten_cons,List.length_append,ih,Nat.succ_mul,Nat.add_comm]
theorem op_rep : OpR X (binaryOp .Mult) rRep:=by
 intro pins s σ H x y v u Q I rx ry h
 obtain ⟨l,k,xs,rfl,rfl,hH,h1,h2,hz,q⟩:=h
 cases rx
 obtain ⟨t,rfl⟩:=ry
 obtain ⟨z,its,n,r,hl,e⟩:=I.lstM hH
 have hlen : its.toArray.size * k.toNat ≤ sizeLine:=by rw [List.size_toArray,← hl]; exact hz
 have hcap : ¬ its.toArray.size * k.toNat > (2 ^ 63 - 1) / 8:=by
  have : (sizeLine : Nat) ≤ (2 ^ 63 - 1) / 8:=by decide
  omega
 have hfit : ¬ (!Builtin.List.listFitsIndex k) = true:=by
  rw [fitsIndex_both h1 h2]
  exact Bool.false_ne_true
 have hlong : ¬ Builtin.List.listTooLong (its.toArray.size * k.toNat) = true:=by
  rw [notLongL hlen]
  exact Bool.false_ne_true
 have hnew : List.foldl (fun x1 x2=>x1 ++ x2) #[] (List.replicate (if its.toArray.isEmpty = true then 0 else k.toNat) its.toArray) = (List.replicate k.toNat its).flatten.toArray:=by
  have f0 : ∀ m : Nat,List.foldl (fun x1 x2=>x1 ++ x2) #[] (List.replicate m its.toArray) = (List.replicate m its).flatten.toArray:=fun m=>by
   have:=foldl_rep its m []
   rw [List.nil_append] at this
   exact this
  rw [f0]
  cases its with
  | nil=>simp
  | cons a r'=>rw [if_neg (by simp)]
 refine wpAny_binaryOp_repeat_ref (T := "list") (U := "int") (by decide) ⟨_, e, rfl⟩ (fun s' => typeIs_int s' k t) noFill_list_mul F.fills_int_mul F.slot_int_rmul repeat_list F.slot_int_index.lookup
  (call_meets F.slot_int_rmul (typeIs_int s k t) F.entry_int_rmul (F.args_int_rmul_2 _ _) (int___rmul___int_list k t l its.toArray n)
   ⟨e,rfl,⟨_,e,rfl⟩,call_meets F.slot_list_mul ⟨_,e,rfl⟩ F.entry_list_mul (F.args_list_mul_2 _ _) (AutoListH.list___mul___list_int_3 l its.toArray n k t hfit hcap hlong) ⟨e,?_⟩⟩)
 rw [hnew]
 exact ⟨.ref _,_,I.lnew (t':=s.toks) (r.rep k.toNat) (by rw [len_rep,Nat.mul_comm]; exact hz),rfl,q _ I.fresh⟩
end
section
variable {prog : Program} {w : World} {A : Around} {E : Value→Shared→Prop} {s : Shared}
end
section
variable {X : Cx}
end
end L2
namespace Att
open PySem PySem.W PySem.Calls PyProof.Rows
theorem ints_of_wellAll {P : Params} {h : Heap} : ∀ (ns : List Int) (vs : List Value),WellAll P h vs (ns.map WData.int)→IntsAre vs ns:=by
 intro ns
 induction ns with
 | nil =>
  intro vs w
  rw [List.map_nil] at w
  cases w
  exact .nil
 | cons n ns ih =>
  intro vs w
  rw [List.map_cons] at w
  cases w with
  | cons a b =>
   cases a
   exact .cons _ _ (ih _ b)
theorem script_of {l : OpenLaw} {n : Nat} (hn : l.most = some n) {P : Params} {h : Heap} {args : List WData} {vals : List Value}
  (hpre : l.row.toRowW.claim.pre args = true) (hwl : WellAll P h vals args) :
  ∃ a vs ns, vals = [Value.ref a] ∧ args = [WData.list (ns.map WData.int)] ∧ h.get? a = some { cls := .type "list", data := .seq vs.toArray } ∧ IntsAre vs ns ∧ ns.length ≤ n := by
 have hsh : WShape.hasAll [] args [.list .int] = true:=(pre_splitW hpre).1
 have hc : l.pre.holds [] { args:=args } = true:=(pre_splitW hpre).2
 obtain ⟨d,r,rfl,h1,h2⟩:=hasAllW_cons hsh
 obtain rfl:=hasAllW_nil h2
 obtain ⟨xs,rfl,h3⟩:=hasW_list h1
 obtain ⟨ns,rfl⟩:=items_int h3
 have hlen : ns.length ≤ n:=by
  unfold OpenLaw.pre at hc
  have h4 : (WTm.not (.lt (.lit (.int (n : Int))) (.len (.arg 0)))).holds [] { args:=[.list (ns.map .int)] } = true:=by
   have h4:=(holds_andW hc).1
   rw [hn] at h4
   exact h4
  have h5:=condW_of h4 (w_not (w_lt w_lit (w_len_list (w_arg rfl))))
  rw [List.length_map] at h5
  refine Nat.le_of_not_lt fun q=>?_
  have q' : (n : Int) < ((ns.length : Nat) : Int):=by omega
  first
   | (rw [decide_eq_true q'] at h5; exact absurd h5 (by decide))
   | (simp at h5; omega)
 cases hwl with
 | cons w1 w2 =>
  cases w2
  cases w1 with
  | list ho hall=>exact ⟨_,_,ns,rfl,rfl,ho,ints_of_wellAll ns _ hall,hlen⟩
theorem post_true (l : OpenLaw) (args : List WData) : l.row.toRowW.claim.post args (.bool true) args = true :=
 postW_of (r:=l.row.toRowW) (X:=(true == true))
  (show WShape.has [] (.bool true) .bool = true by first | rfl | decide | simp [WShape.has,WShape.arms,WShape.armsAll])
  (show (WTm.eq .res (.lit (.bool true))).value [] { args:=args,res:=some (.bool true),after:=args } = some (.bool (true == true)) from w_eq_bool (w_res rfl) w_lit) rfl
theorem attach_call {l : OpenLaw} {n : Nat} {q : Program} {loose : List Str} {XP : (Str→Option Value)→Heap→Prop} {YP : World→Heap→Prop} {d : DefRec}
  (hn : l.most = some n) (hdf : d.params.defaults = [])
  (call : ∀ (w : World) (s₀ s₁ : Shared) (mg mb : Str→Option Value) (fa : Addr) (o : Obj) (pm cd doc : Value) (a : Addr) (vs : List Value) (ns : List Int),
   Ground q loose [] XP w s₀ mg mb s₁.heap→YP w s₁.heap →
   s₁.heap.get? fa = some o→o.data = .func (docDef d.name d.params d.body d.scope pm cd doc)→s₁.heap.CodeRec cd d.name→mg d.name = some (.ref fa) →
   s₁.heap.get? a = some { cls := .type "list", data := .seq vs.toArray } → IntsAre vs ns → ns.length ≤ n → s₁.gens = #[] →
   codeAny (model l.prog w) callerA (.call (.ref fa) ⟨[.ref a],[]⟩) (fun r s'=>r = .ok (.ret (.bool true))∧OldK s₁.heap s'.heap∧s'.os = s₁.os∧AllBare s'.gens) s₁) :
  WalkO q loose XP YP l.row.toRowW d [] (fun f vs=>PySem.call f vs):=by
 intro w s₀ s₁ mg mb G Y fa o pm cd doc dV kV ho hd hcd hD hmg hg args vals as hpre hlay hrd hwl hlo
 obtain rfl : dV = .none:=Dflts.none hD hdf
 obtain rfl : kV = .none:=Dflts.noKw hD
 obtain ⟨a,vs,ns,rfl,rfl,hobj,hints,hlen⟩:=script_of hn hpre hwl
 refine enter_call (codeAny_mono (call w s₀ s₁ mg mb fa o pm cd doc a vs ns G Y ho (fd_plain hd) hcd hmg hobj hints hlen hg) fun r s' hq=>?_)
 obtain ⟨rfl,h2,h3,h4⟩:=hq
 exact ⟨.inl ⟨.bool true,.bool true,[],rfl,fun _=>rfl,.bool true,post_true l _,fun _=>⟨List.Pairwise.nil,fun _ hm=>(nomatch hm)⟩⟩,h2,h3,h4⟩
section
variable {prog : Program} {w : World} {A : Around} {E : Value→Shared→Prop} {s : Shared} {K : Frag}
end
end Att
namespace L2
open PySem PySem.Spec PyProof.Rows
theorem vals_ints : ∀ {vs : List Value} {ns : List Int},IntsAre vs ns→Vals (ns.map V.int) vs
 | _,_,.nil=>.nil
 | _,_,.cons n t h=>.cons ⟨t,rfl⟩ (vals_ints h)
def Only (H : Hp) : Prop:=∀ b,H b = none ∨ ∃ o xs,H b = some (.frz o (.lst xs))
theorem law_call {P : Program} {w : World} {K : PySem.W.Frag} {mg mb : Str→Option Value} {CX : CXT} {k : Nat} {fa a : Addr} {fd : FuncData} {x : Str} {sp : Sp} {s₁ : Shared} {vs : List Value} {ns : List Int}
  (KX : K.In s₁.heap) (hns : s₁.heap.Ns mainGlobals mg) (hb : s₁.heap.Ns builtinsNs mb) (hbb : ∀ x : Str, x ≠ "__name__" → mb x = bootBuiltins x) (hlim : s₁.heap.NoLimit) (hg : s₁.gens = #[])
  (ha : s₁.heap.get? a = some { cls := .type "list", data := .seq vs.toArray }) (hi : IntsAre vs ns) (hl : ns.length ≤ sizeLine) (hr : Room k callerA)
  (F : ∀ base : Heap,K.In base→base.Ns mainGlobals mg→FnOk P w K mg base CX k fa fd [x] sp) (hbind : ∀ (s : Shared) (u : Value),BindsTo s fd ⟨[u],[]⟩ [(x,u)])
  (hsp : ∀ H : Hp,Only H→SqL K H a (ns.map V.int)→sp [.ref a] H (fun v _=>v = .bl true) fun _ _ _=>False)
  (hCX : ∀ H e s',CX [] H s₁ (fun _ _ _=>False) e s'→False) :
  codeAny (model P w) callerA (.call (.ref fa) ⟨[.ref a],[]⟩) (fun r s'=>r = .ok (.ret (.bool true))∧OldK s₁.heap s'.heap∧s'.os = s₁.os∧AllBare s'.gens) s₁:=by
 have rv:=vals_ints hi
 have lenV:=hi.length
 have core : ∀ H : Hp,Only H→SqL K H a (ns.map V.int)→HOk P w H s₁.heap→(∀ b,H b ≠ none→b = a)→(H a ≠ none→K.lookup a = none) →
   codeAny (model P w) callerA (.call (.ref fa) ⟨[.ref a],[]⟩) (fun r s'=>r = .ok (.ret (.bool true))∧OldK s₁.heap s'.heap∧s'.os = s₁.os∧AllBare s'.gens) s₁:=by
  intro H hO hS hok hA hK
  have base_of : ∀ {b : Addr} {o : Obj},s₁.heap.get? b = some o→H b = none→(hidT s₁.heap H).get? b = some o:=fun e n=>hidT_get e n
  have noA : ∀ {b : Addr} {o : Obj} {es : Array DictEntry} {ep : Nat},s₁.heap.get? b = some o→o.data = .dict es ep→H b = none:=fun {b o es ep} e d=>by
   cases q : H b with
   | none=>rfl
   | some u =>
    have e' : b = a:=hA b (by rw [q]; simp)
    subst e'
    rw [ha] at e; cases e
    have d' : Data.seq vs.toArray _ = Data.dict es ep:=d
    cases d'
  have nsK : ∀ {b : Addr} {m : Str→Option Value},s₁.heap.Ns b m→(hidT s₁.heap H).Ns b m:=fun {b m} ⟨o,es,ep,e,d,r⟩=>⟨o,es,ep,base_of e (noA e d),d,r⟩
  have hKb : K.In (hidT s₁.heap H):=fun b o e=>base_of (KX b o e) (by
   cases q : H b with
   | none=>rfl
   | some u =>
    have e' : b = a:=hA b (by rw [q]; simp)
    subst e'
    rw [hK (by rw [q]; simp)] at e; cases e)
  have hM : Mod K mg (hidT s₁.heap H):=⟨hKb,nsK hns,⟨mb,nsK hb,hbb⟩,let ⟨mc,h1,h2⟩:=hlim; ⟨mc,nsK h1,h2⟩⟩
  have e0 : Env0 P w K mg (hidT s₁.heap H) callerA [] s₁ H:=⟨rfl,hM,fun b o e=>of_hidT e,Nat.le_of_eq (hidT_size _ _),trivial,fun b hb=>absurd (show b ∈ ([] : List Addr) from hb) (by simp),hok,.of_eq hg⟩
  refine codeAny_mono ((F _ hKb (nsK hns)).run callerA [] s₁ H ⟨[.ref a],[]⟩ [.ref a] [.ref a] _ _ hr e0 (hbind s₁ (.ref a)) (.cons rfl .nil) (hsp H hO hS)) fun r s' h=>?_
  cases r with
  | error e=>exact (hCX H e s' h).elim
  | ok fl =>
   cases fl with
   | next=>exact False.elim h
   | brk=>exact False.elim h
   | cont=>exact False.elim h
   | ret u =>
    obtain ⟨v,H',os,bare,un,hok',r',q⟩:=h
    have q' : v = .bl true:=q
    subst q'
    obtain rfl : u = Value.bool true:=r'
    refine ⟨rfl,OldK.of_keep fun b o e=>?_,os,bare⟩
    cases q : H b with
    | none=>exact un.keep b o e q (by intro z; exact absurd (show b ∈ ([] : List Addr) from z) (by simp)) (by simp)
    | some u =>
     rcases hO b with z | ⟨ob,xs,z⟩
     ·rw [q] at z; cases z
     ·have z2:=un.frzs b ob _ z
      obtain ⟨e1,_⟩:=hok b _ z
      obtain ⟨e2,_⟩:=hok' b _ z2
      rw [e] at e1; cases e1
      exact e2
 cases hk : K.lookup a with
 | some o =>
  have e:=KX a o hk
  rw [ha] at e
  cases e
  refine core (fun _=>none) (fun _=>.inl rfl) (.inr ⟨_,vs.toArray,_,hk,rfl,rfl,rfl,by rw [List.size_toArray,lenV]; exact hl,by simpa using rv⟩) (fun b u z=>by have z' : (none : Option HO) = some u:=z; cases z') (fun b z=>absurd rfl z) fun z=>absurd rfl z
 | none =>
  refine core (fun b => if b = a then some (.frz { cls := .type "list", data := .seq vs.toArray } (.lst (ns.map V.int))) else none) (fun b => ?_) (.inl (.inr ⟨{ cls := .type "list", data := .seq vs.toArray }, if_pos rfl⟩)) (fun b u z => ?_) (fun b z => ?_) fun _ => hk
  ·by_cases hb : b = a
   ·exact .inr ⟨_,_,if_pos hb⟩
   ·exact .inl (if_neg hb)
  ·by_cases hb : b = a
   ·have z':=(if_pos hb).symm.trans z
    cases z'
    subst hb
    exact ⟨ha,by rw [List.length_map]; exact hl,vs,_,rv,ha⟩
   ·have z':=(if_neg hb).symm.trans z
    cases z'
  ·by_cases hb : b = a
   ·exact hb
   ·exact absurd (if_neg hb) z
end L2
namespace L2
open PySem PySem.Spec PyProof.Rows
theorem walk_of {l : PySem.W.OpenLaw} {n k : Nat} {q : Program} {loose : List Str} {XP : (Str→Option Value)→Heap→Prop} {YP : World→Heap→Prop} {d : DefRec} {K : Params→PySem.W.Frag} {CX : World→CXT} {sp : World→Sp} {x : Str}
  (hn : l.most = some n) (hn2 : n ≤ sizeLine) (hdf : d.params.defaults = []) (hr : Room k callerA)
  (hY : ∀ (w : World) (h : Heap),YP w h→(K w.params).In h)
  (F : ∀ (w : World) (mg : Str→Option Value) (fa : Addr) (h : Heap),(K w.params).In h→h.Ns mainGlobals mg→mg d.name = some (.ref fa) →
   ∃ fd : FuncData,(∀ (s : Shared) (u : Value),BindsTo s fd ⟨[u],[]⟩ [(x,u)]) ∧
    ∀ base : Heap,(K w.params).In base→base.Ns mainGlobals mg→FnOk l.prog w (K w.params) mg base (CX w) k fa fd [x] (sp w))
  (hsp : ∀ (w : World) (H : Hp) (a : Addr) (ns : List Int),ns.length ≤ n→Only H→SqL (K w.params) H a (ns.map V.int)→sp w [.ref a] H (fun v _=>v = .bl true) fun _ _ _=>False)
  (hCX : ∀ (w : World) (H : Hp) (s : Shared) (e : Value) (s' : Shared),CX w [] H s (fun _ _ _=>False) e s'→False) :
  PySem.W.WalkO q loose XP YP l.row.toRowW d [] (fun f vs=>PySem.call f vs):=by
 refine Att.attach_call hn hdf fun w s₀ s₁ mg mb fa o pm cd doc a vs ns G Y ho hd hcd hmg hobj hints hlen hg=>?_
 have KX:=hY w _ Y
 obtain ⟨fd,hb,hF⟩:=F w mg fa _ KX G.T.g hmg
 exact law_call KX G.T.g G.T.b G.T.builtins G.T.nolimit hg hobj hints (Nat.le_trans hlen hn2) hr hF hb (fun H hO hS=>hsp w H a ns hlen hO hS) fun H e s'=>hCX w H s₁ e s'
end L2
/- THE LAST THEOREM (shape; LID,My.* are yours):
   My.Adr: a structure of the addresses that your layer names (classes,functions); My.Txt K t: a structure (Prop) of the equations over K;
   My.txt_mk : {K} {implicit addresses ..} (e1 : nsIn K mainGlobals "law" = some (some (.ref f))) (e2 : K.lookup f = some ⟨oc, od, .func (fnOf "law" "law" params body scope dV kV doc pm an cdv ct), sl⟩) (e3 : codeIn K cdv "law" = true) .. : ∃ t, My.Txt K t
(the tactic k_is has no namespace: write k_is) -/
namespace L2
open PySem PySem.Spec PyProof.Rows
def inClass (s : Stmt) (j : Nat) : Stmt:=match s with
 | .ClassDef _ _ _ body _ _ _ _ _ _ _=>body.getD j (.Pass ⟨0,0,0,0⟩)
 | _=>.Pass ⟨0,0,0,0⟩
def defArgs (s : Stmt) : Arguments:=match s with
 | .FunctionDef _ a _ _ _ _ _ _ _ _=>a
 | _=>{ posonlyargs:=[],args:=[],vararg:=none,kwonlyargs:=[],kw_defaults:=[],kwarg:=none,defaults:=[] }
def defBody (s : Stmt) : List Stmt:=match s with
 | .FunctionDef _ _ b _ _ _ _ _ _ _=>b
 | _=>[]
def defScope (s : Stmt) : Scope:=match s with
 | .FunctionDef _ _ _ _ _ _ sc _ _ _=>sc
 | _=>{ kind:=.function,names:=[],isGenerator:=false,isCoroutine:=false }
abbrev CX0 : CXT:=fun _ _ _ _ _ _=>False
abbrev E0 : XK:=fun _ _ _=>False
theorem pass0 {X : Cx} : Passes CX0 X E0:=fun _ _ _ _ _ _ _ h=>h.elim
structure Fun (K : PySem.W.Frag) (x qual : Str) (st : Stmt) (f : Addr) (fd : FuncData) : Prop where
 ex : ∃ (oc : Value) (od : Option Addr) (kV doc pm : Value) (an : Option Addr) (cdv ct : Value) (osl : Array (Option Value)),
  fd = PySem.W.fnOf x qual (defArgs st) (defBody st) (defScope st) .none kV doc pm an cdv ct∧K.lookup f = some ⟨oc,od,.func fd,osl⟩∧PySem.W.codeIn K cdv qual = true
 kp : PySem.W.keepIn K (.ref f) = true
section
variable {P : Program} {w : World} {K : PySem.W.Frag} {mg : Str→Option Value} {base : Heap}
theorem Fun.ok {x qual : Str} {st : Stmt} {f : Addr} {fd : FuncData} {N ps : List Str} {k : Nat} {sp : Sp} (F : Fun K x qual st f fd) (S : FnScope N ps (defScope st)) (len : ∀ vs H Q E,sp vs H Q E→vs.length = ps.length)
  (hbody : ∀ (cdv : Value) (A : Around) (outer : List Env) (s : Shared) (H : Hp) (vs : List V) (Q : VK) (E : XK),Room k (A.deeper (envOfC qual (defScope st) s.heap.objs.size f cdv))→sp vs H Q E →
   ∃ t,PSs (cxOf CX0 P w K mg base N qual (defScope st) f cdv A outer s H E).nox (defBody st) t∧t { nx:=fun _ H'=>Q .non H',rt:=Q } (start N vs) H) : FnOk P w K mg base CX0 (k + 1) f fd ps sp:=by
 obtain ⟨oc,od,kV,doc,pm,an,cdv,ct,osl,rfl,lk,hcd⟩:=F.ex
 refine fn_of lk hcd S len fun A outer s H vs Q E hr hsp=>?_
 obtain ⟨t,h,q⟩:=hbody cdv A outer s H vs Q E hr hsp
 exact ⟨t,h.nox,q⟩
theorem Fun.binds {x qual : Str} {st : Stmt} {f : Addr} {fd : FuncData} {ps : List Str} (F : Fun K x qual st f fd)
  (h : ∀ (kV doc pm : Value) (an : Option Addr) (cdv ct : Value) (us : List Value),us.length = ps.length→bindArgs (PySem.W.fnOf x qual (defArgs st) (defBody st) (defScope st) .none kV doc pm an cdv ct) ⟨us,[]⟩ = pure (ps.zip us)) : Binds K fd ps []:=by
 obtain ⟨oc,od,kV,doc,pm,an,cdv,ct,osl,rfl,lk,hcd⟩:=F.ex
 exact .all (h kV doc pm an cdv ct)
theorem fun_mk {x qual : Str} {st : Stmt} {f : Addr} {oc : Value} {od an : Option Addr} {osl : Array (Option Value)} {kV doc pm cdv ct : Value} (l : K.lookup f = some ⟨oc,od,.func (PySem.W.fnOf x qual (defArgs st) (defBody st) (defScope st) .none kV doc pm an cdv ct),osl⟩)
  (c : PySem.W.codeIn K cdv qual = true) (k : PySem.W.keepIn K (.ref f) = true) : Fun K x qual st f (PySem.W.fnOf x qual (defArgs st) (defBody st) (defScope st) .none kV doc pm an cdv ct):=⟨⟨oc,od,kV,doc,pm,an,cdv,ct,osl,rfl,l,c⟩,k⟩
end
section
variable {X : Cx}
theorem pv (i : Nat) {x : Str} {pos : Pos} (hN : X.N[i]? = some x := by rfl) (hv : Vis X.env.scope x := by first | exact Or.inl rfl | exact Or.inr (Or.inl rfl) | exact Or.inr (Or.inr rfl)) (hd : (x == ("__debug__" : Str)) = false := by decide)
  (hcd : (x == ("__classdict__" : Str)) = false := by decide) : PE X (.Name x pos) (tVar i) := pe_var hN hv hd hcd
end
theorem iteF {A B : Prop} (h : B) : if false = true then A else B:=by
 rw [if_neg Bool.false_ne_true]
 exact h
theorem iteT {A B : Prop} (h : A) : if true = true then A else B:=by
 rw [if_pos rfl]
 exact h
theorem iteNS {c A B : Prop} [Decidable c] (hc : c) (h : B) : if (!decide c) = true then A else B:=by
 rw [decide_eq_true hc]
 exact iteF h
def Same (H H' : Hp) : Prop:=∀ b o,H b = some o→H' b = some o
theorem Same.refl (H : Hp) : Same H H:=fun _ _ h=>h
theorem Same.trans {H H1 H2 : Hp} (a : Same H H1) (b : Same H1 H2) : Same H H2:=fun c o h=>b c o (a c o h)
theorem Same.free {H H' : Hp} (e : Same H H') {l : Addr} (h : H' l = Option.none) : H l = Option.none:=by
 cases q : H l with
 | none=>rfl
 | some o =>
  rw [e l o q] at h
  cases h
theorem Same.seq {K : PySem.W.Frag} {H H' : Hp} {a : Addr} {xs : List V} (e : Same H H') (h : SqL K H a xs) : SqL K H' a xs:=by
 rcases h with (h | ⟨o,h⟩) | h
 ·exact .inl (.inl (e _ _ h))
 ·exact .inl (.inr ⟨o,e _ _ h⟩)
 ·exact .inr h
end L2
namespace L2
open PySem PySem.Spec PyProof.Rows
section
variable {X : Cx} {pins : List (Addr × Obj)} {σ : St} {H : Hp} {s : Shared} {h' : Heap}
theorem Inv.track {p : Addr} {o : HO} (I : Inv X pins σ H s) (f : FpOk X pins H p) (new : ObjOk X.prog X.w (upd H p o) s.heap p o) : Inv X pins σ (upd H p o) s:=by
 obtain ⟨f0,f1,f2,f3,f4,f5⟩:=f
 have nu : ∀ b u,H b = some u→b ≠ p:=fun b u e z=>by rw [z,f0] at e; cases e
 refine I.step (h':=s.heap) (g':=s.gens) (d':=s.drawn) (t':=s.toks) (ch:=[p]) (fun b hb=>?_) (fun b o _ _ _ e _=>e) (fun b o _ _ _ e _=>⟨o.slots,e⟩)
  (fun b o hc _ n=>by rw [upd_ne (fun z=>hc (by simp [z]))]; exact n) (fun b o _ e=>⟨o,e⟩) (fun b xs e=>by rw [upd_ne (nu _ _ e)]; exact e) (fun b o u e=>by rw [upd_ne (nu _ _ e)]; exact e)
  (fun b ps e=>⟨#[],by rw [upd_ne (nu _ _ e),e]; simp⟩) (fun m hm=>hm) (fun b u e=>?_) I.bare
 ·have e : b = p:=by simpa using hb
  subst e
  exact ⟨f3,f1,f4,f5⟩
 ·by_cases hb : b = p
  ·subst hb
   rw [upd_same] at e
   cases e
   exact new
  ·rw [upd_ne hb] at e
   exact (I.hok b u e).stay (fun c v _ q=>q) (fun c q=>by rw [upd_ne (nu _ _ q)]; exact q) fun c xs q=>by rw [upd_ne (nu _ _ q)]; exact q
theorem Inv.turnedL {t' : Nat} {ch : List Addr} (I : Inv X pins σ H s) (k : ∀ b o,b ∉ ch→s.heap.get? b = some o→h'.get? b = some o) (hf : ∀ b ∈ ch,FpOk X pins H b) : Inv X pins σ H { s with heap:=h',toks:=t' }:=by
 have nit : ∀ b u,H b = some u→b ∉ ch:=fun b u e z=>by rw [(hf b z).1] at e; cases e
 refine I.step (g':=s.gens) (d':=s.drawn) (ch:=ch) (fun b hb=>?_) (fun b o _ _ hc e _=>k b o hc e) (fun b o _ _ hc e _=>⟨o.slots,k b o hc e⟩) (fun _ _ _ _ n=>n)
  (fun b o hc e=>⟨o,k b o hc e⟩) (fun _ _ e=>e) (fun _ _ _ e=>e) (fun b ps e=>⟨#[],by rw [e]; simp⟩) (fun m hm=>?_) (fun b u e=>?_) I.bare
 ·obtain ⟨f0,f1,f2,f3,f4,f5⟩:=hf b hb
  exact ⟨f3,f1,f4,f5⟩
 ·obtain ⟨o,es,ep,ho,r⟩:=hm
  exact ⟨o,es,ep,k _ o (fun z=>(hf _ z).2.1 rfl) ho,r⟩
 ·refine (I.hok b u e).stay (fun c v hc q=>k c v ?_ q) (fun _ q=>q) fun _ _ q=>q
  rcases hc with z | z
  ·rw [z]; exact nit b u e
  ·exact nit c _ z
theorem FpOk.mono {H' : Hp} {b : Addr} (f : FpOk X pins H b) (hn : H' b = none) : FpOk X pins H' b:=⟨hn,f.2⟩
end
def closL (env : Env) : List (Str × NameKind)→List (Str × Addr)→List (Str × Addr)
 | [],cs=>cs
 | (n,k) :: r,cs=>if k == .free then (match env.cells.lookup n with | some c=>closL env r ((n,c) :: cs) | none=>closL env r cs) else closL env r cs
theorem closL_sub {env : Env} : ∀ {ns : List (Str × NameKind)} {cs : List (Str × Addr)},(∀ p ∈ cs,env.cells.lookup p.1 = some p.2)→∀ p ∈ closL env ns cs,env.cells.lookup p.1 = some p.2
 | [],_,h=>h
 | (n,k) :: r,cs,h=>by
  unfold closL
  split
  ·split
   ·rename_i c e
    exact closL_sub (ns:=r) fun p hp=>by
     rcases List.mem_cons.mp hp with rfl | hp
     ·exact e
     ·exact h p hp
   ·exact closL_sub (ns:=r) h
  ·exact closL_sub (ns:=r) h
theorem closL_sub0 {env : Env} {ns : List (Str × NameKind)} : ∀ p ∈ closL env ns [],env.cells.lookup p.1 = some p.2:=closL_sub fun p h=>by cases h
theorem closL_mono {env : Env} : ∀ {ns : List (Str × NameKind)} {cs : List (Str × Addr)} {p : Str × Addr},p ∈ cs→p ∈ closL env ns cs
 | [],_,_,h=>h
 | (n,k) :: r,cs,p,h=>by
  unfold closL
  split
  ·split
   ·exact closL_mono (ns:=r) (List.mem_cons_of_mem _ h)
   ·exact closL_mono (ns:=r) h
  ·exact closL_mono (ns:=r) h
theorem closL_mem {env : Env} {x : Str} {c : Addr} (hc : env.cells.lookup x = some c) : ∀ {ns : List (Str × NameKind)} {cs : List (Str × Addr)},(x,NameKind.free) ∈ ns→(x,c) ∈ closL env ns cs
 | [],_,h=>nomatch h
 | (n,k) :: r,cs,h=>by
  unfold closL
  rcases List.mem_cons.mp h with e | h
  ·cases e
   rw [if_pos (by rfl),hc]
   exact closL_mono List.mem_cons_self
  ·split
   ·split
    ·exact closL_mem hc (ns:=r) h
    ·exact closL_mem hc (ns:=r) h
   ·exact closL_mem hc (ns:=r) h
theorem lookup_of_all {cs : List (Str × Addr)} {env : Env} (h : ∀ p ∈ cs,env.cells.lookup p.1 = some p.2) {x : Str} {c : Addr} (e : cs.lookup x = some c) : env.cells.lookup x = some c:=h (x,c) (PySem.mem_of_lookup e)
theorem lookup_of_mem {x : Str} {c : Addr} : ∀ {cs : List (Str × Addr)},(x,c) ∈ cs→∃ c',cs.lookup x = some c'
 | [],h=>nomatch h
 | (n,d) :: r,h=>by
  by_cases e : x = n
  ·subst e
   exact ⟨d,by simp [List.lookup]⟩
  ·have hb : (x == n) = false:=beq_eq_false_iff_ne.mpr e
   rcases List.mem_cons.mp h with z | z
   ·cases z
    exact absurd rfl e
   ·obtain ⟨c',q⟩:=lookup_of_mem z
    exact ⟨c',by simp [List.lookup,hb,q]⟩
theorem closureFor_loop {env : Env} : ∀ (ns : List (Str × NameKind)) (cs : List (Str × Addr)),(∀ x ∈ ns,x.2 = .free→∃ c,env.cells.lookup x.1 = some c) →
  (forIn ns cs fun x r=>(if (x.2 == NameKind.free) = true then (do let c ← cellOf env x.1; pure (ForInStep.yield ((x.1,c) :: r))) else pure (ForInStep.yield r) : Sem (ForInStep (List (Str × Addr))))) = (pure (closL env ns cs) : Sem (List (Str × Addr)))
 | [],cs,_=>rfl
 | (n,k) :: r,cs,h=>by
  have ih:=fun cs=>closureFor_loop r cs fun x hx=>h x (List.mem_cons_of_mem _ hx)
  rw [List.forIn_cons]
  unfold closL
  cases hk : (k == NameKind.free) with
  | false =>
   simp only [Bool.false_eq_true,if_false]
   exact ih cs
  | true =>
   obtain ⟨c,hc⟩:=h (n,k) List.mem_cons_self (by simpa using hk)
   have hc' : env.cells.lookup n = some c:=hc
   simp only [if_true]
   unfold cellOf
   rw [hc']
   exact ih ((n,c) :: cs)
theorem closureFor_eq {scope : Scope} {env : Env} (h : ∀ x ∈ scope.names,x.2 = .free→∃ c,env.cells.lookup x.1 = some c) : closureFor scope env = pure (closL env scope.names []):=by
 have e:=closureFor_loop scope.names [] h
 have e2 : closureFor scope env = (forIn scope.names [] (fun x r=>(if (x.2 == NameKind.free) = true then (do let c ← cellOf env x.1; pure (ForInStep.yield ((x.1,c) :: r))) else pure (ForInStep.yield r) : Sem (ForInStep (List (Str × Addr))))) >>= fun z=>pure z : Sem (List (Str × Addr))):=rfl
 rw [e2,e]
 rfl
end L2
namespace L2
open PySem PySem.Spec PyProof.Rows
structure CompScope (osc : Scope) (N : List Str) (scope : Scope) (N' : List Str) (nt : Nat) (caps : List Nat) : Prop where
 kind : scope.kind = .function
 nocell : ∀ y ∈ scope.names,y.2 ≠ .cell
 names : ∀ y ∈ scope.names,y.2 = .local→scope.names.lookup y.1 = some .local
 frees : ∀ y ∈ scope.names,y.2 = .free→osc.names.lookup y.1 = some .cell ∨ osc.names.lookup y.1 = some .free
 capt : caps.map (fun j=>N[j]?) = (N'.drop nt).map some
 capf : ∀ x ∈ N'.drop nt,scope.names.lookup x = some .free
 len : nt ≤ N'.length
 nd : N'.Nodup
def sgm (nt : Nat) (caps : List Nat) (σ : St) : St:=List.replicate nt none ++ caps.map fun j=>(σ[j]?).getD none
structure Blk where
 C : Addr
 s : Shared
 H : Hp
 fp : List Addr
def cxComp (X : Cx) (N' : List Str) (scope : Scope) (B : Blk) : Cx :=
 { X with N:=N',s₀:=B.s,H₀:=B.H,env:=compEnvC scope (closL X.env scope.names []) B.C X.env,outer:=X.stack,ex:=B.fp,fn:=fun _=>false,xe:=fun _ _=>False }
theorem mem_relabel {scope : Scope} {env : Env} {x : Str} {k : NameKind} (h : (x,k) ∈ (relabel scope env).names) : ∃ k0,(x,k0) ∈ scope.names∧(k = k0 ∨ (k = .cell∧k0 = .free)):=by
 obtain ⟨⟨n,k0⟩,hm,e⟩:=List.mem_map.mp h
 try dsimp only at e
 split at e
 ·rename_i hc
  cases e
  refine ⟨k0,hm,.inr ⟨rfl,?_⟩⟩
  simp only [Bool.and_eq_true,beq_iff_eq] at hc
  exact hc.1.1
 ·cases e
  exact ⟨_,hm,.inl rfl⟩
theorem lookup_relabel_free {env : Env} : ∀ {names : List (Str × NameKind)} {x : Str},names.lookup x = some .free →
  (names.map fun (n,k)=>if (k == NameKind.free && env.scope.kind == .function && env.kindOf n == some .cell) then (n,NameKind.cell) else (n,k)).lookup x = some .cell ∨
  (names.map fun (n,k)=>if (k == NameKind.free && env.scope.kind == .function && env.kindOf n == some .cell) then (n,NameKind.cell) else (n,k)).lookup x = some .free
 | [],_,h=>by simp at h
 | (n,k) :: r,x,h=>by
  have ih:=@lookup_relabel_free env r x
  rw [List.map_cons]
  cases hx : x == n with
  | true =>
   simp only [List.lookup_cons,hx] at h
   cases h
   try dsimp only
   split
   ·left; simp only [List.lookup_cons,hx]
   ·right; simp only [List.lookup_cons,hx]
  | false =>
   simp only [List.lookup_cons,hx] at h
   try dsimp only
   split
   ·simp only [List.lookup_cons,hx]; exact ih h
   ·simp only [List.lookup_cons,hx]; exact ih h
section
variable {X : Cx} {pins : List (Addr × Obj)} {σ : St} {H : Hp} {s₂ : Shared} {scope : Scope} {N' : List Str} {nt : Nat} {caps : List Nat} {fp : List Addr} {C : Addr}
theorem comp_ok (I : Inv X pins σ H s₂) (S : CompScope X.env.scope X.N scope N' nt caps) (f2 : ∀ b ∈ fp,FpOk X pins H b) (hlt : ∀ b ∈ fp,b < s₂.heap.objs.size) (hC : s₂.heap.objs.size ≤ C) :
  (cxComp X N' scope ⟨C,s₂,H,fp⟩).Ok where
 mod:=I.ok.mod
 kind:=S.kind
 glob:=I.ok.glob
 blt:=I.ok.blt
 above:=hC
 inj:=fun x y c h1 h2=>I.ok.inj x y c (lookup_of_all closL_sub0 h1) (lookup_of_all closL_sub0 h2)
 has:=fun x hx=>by
  have hm : ∃ k,(k = NameKind.cell ∨ k = NameKind.free)∧(x,k) ∈ (relabel scope X.env).names:=by
   rcases hx with e | e
   ·exact ⟨_,.inl rfl,PySem.mem_of_lookup e⟩
   ·exact ⟨_,.inr rfl,PySem.mem_of_lookup e⟩
  obtain ⟨k,hk,hm⟩:=hm
  obtain ⟨k0,h0,e⟩:=mem_relabel hm
  have hf : k0 = .free:=by
   rcases e with e | ⟨_,e⟩
   ·rcases hk with z | z
    ·exact absurd (e.symm.trans z) (S.nocell _ h0)
    ·exact e.symm.trans z
   ·exact e
  subst hf
  obtain ⟨c,hc⟩:=I.ok.has x (S.frees _ h0 rfl)
  exact lookup_of_mem (closL_mem hc h0)
 cab:=fun x c h=>absurd (show false = true from h) Bool.false_ne_true
 hd:=I.ok.hd
 frames:=I.ok.frames
 stk:=.inl rfl
 exf:=fun b hb=>⟨Nat.ne_of_lt (Nat.lt_of_lt_of_le (hlt b hb) hC),fun x c e=>(f2 b hb).2.2.2.2.1 x c (lookup_of_all closL_sub0 e)⟩
 bs:=I.bs
 bsz:=Nat.le_trans I.ok.bsz I.sz
 noex:=fun b o e hb=>by
  rcases (f2 b hb).2.2.2.1 with z | z
  ·exact I.ok.noex b o e z
  ·exact absurd (Nat.lt_of_lt_of_le (Heap.lt_size e) (Nat.le_trans I.ok.bsz z)) (Nat.lt_irrefl _)
 exfs:=fun b hb hf=>by
  rcases List.mem_cons.mp (I.stkSub b hf) with e | e
  ·exact (f2 b hb).2.1 e
  ·exact (f2 b hb).2.2.1 e
 funs:=I.stack
 frf:=I.stkFree
theorem inv_comp {h₁ : Heap} {tk : Nat} {m0 : Str→Option Value} (I : Inv X pins σ H s₂) (S : CompScope X.env.scope X.N scope N' nt caps) (f2 : ∀ b ∈ fp,FpOk X pins H b) (hlt : ∀ b ∈ fp,b < s₂.heap.objs.size)
  (hC : s₂.heap.objs.size ≤ C) (hns : h₁.Ns C m0) (old : ∀ b o,s₂.heap.get? b = some o→h₁.get? b = some o) :
  Inv (cxComp X N' scope ⟨C,s₂,H,fp⟩) pins (sgm nt caps σ) H { s₂ with heap:=h₁,toks:=tk }:=by
 have hl:=congrArg List.length S.capt
 rw [List.length_map,List.length_map,List.length_drop] at hl
 have sub : ∀ {x c},(closL X.env scope.names []).lookup x = some c→X.env.cells.lookup x = some c:=fun e=>lookup_of_all closL_sub0 e
 refine ⟨comp_ok I S f2 hlt hC,rfl,I.bare,Un.kept old,⟨m0,hns,fun i x v e1 e2 e3=>?_⟩,fun x c e=>?_,I.hok.fresh hC,fun x c e=>I.freeC x c (sub e),fun p hp=>?_,I.hok.kept old,?_⟩
 ·have e1' : N'[i]? = some x:=e1
  have e2' : (List.replicate nt none ++ caps.map fun j=>(σ[j]?).getD none)[i]? = some (some v):=e2
  have hi : nt ≤ i:=by
   rcases Nat.lt_or_ge i nt with z | z
   ·rw [List.getElem?_append_left (by simpa using z),List.getElem?_replicate,if_pos z] at e2'
    cases e2'
   ·exact z
  rw [List.getElem?_append_right (by simpa using hi),List.length_replicate,List.getElem?_map] at e2'
  cases hj : caps[i - nt]? with
  | none=>rw [hj] at e2'; cases e2'
  | some j =>
   rw [hj] at e2'
   have e3' : (σ[j]?).getD none = some v:=Option.some.inj e2'
   have hσ : σ[j]? = some (some v):=by
    cases q : σ[j]? with
    | none=>rw [q] at e3'; cases e3'
    | some o=>rw [q] at e3'; have z : o = some v:=e3'; rw [z]
   have hd : (N'.drop nt)[i - nt]? = some x:=by rw [List.getElem?_drop,Nat.add_sub_cancel' hi]; exact e1'
   have hN : X.N[j]? = some x:=by
    have q:=congrArg (fun l=>l[i - nt]?) S.capt
    have q : (caps.map fun j=>X.N[j]?)[i - nt]? = ((N'.drop nt).map some)[i - nt]?:=q
    rw [List.getElem?_map,List.getElem?_map,hj,hd] at q
    exact Option.some.inj q
   have hfx:=S.capf x (List.mem_of_getElem? hd)
   have hko:=S.frees (x,.free) (PySem.mem_of_lookup hfx) rfl
   have vis : Vis X.env.scope x:=.inr hko
   obtain ⟨m,hn,hl'⟩:=I.loc
   obtain ⟨u,r,l⟩:=hl' j x v hN hσ vis
   refine ⟨u,r,.inr ⟨?_,?_⟩⟩
   ·exact lookup_relabel_free hfx
   ·rcases l with ⟨k,_⟩ | ⟨_,c,e,z⟩
    ·have k' : X.env.scope.names.lookup x = some .local:=k
     rcases hko with q | q <;> (rw [k'] at q; cases q)
    ·obtain ⟨c',q⟩:=lookup_of_mem (closL_mem e (PySem.mem_of_lookup hfx) (cs:=[]))
     have q2:=sub q
     rw [e] at q2
     cases q2
     obtain ⟨o,ho,hd'⟩:=z
     exact ⟨c,q,o,old _ _ ho,hd'⟩
 ·obtain ⟨v,o,ho,hd'⟩:=I.cell x c (sub e)
  exact ⟨v,o,old _ _ ho,hd'⟩
 ·obtain ⟨a,b,c,d,e⟩:=I.pin p hp
  refine ⟨old _ _ a,b,Nat.ne_of_lt (Nat.lt_of_lt_of_le (Heap.lt_size a) hC),fun hf=>?_,e⟩
  rcases List.mem_cons.mp (I.stkSub p.1 hf) with z | z
  ·exact c z
  ·exact d z
 ·show (List.replicate nt none ++ caps.map fun j=>(σ[j]?).getD none).length = N'.length
  rw [List.length_append,List.length_replicate,List.length_map]
  have:=S.len
  omega
end
def PTs (X : Cx) (ifs : List Expr) (t : TT) : Prop :=
 ∀ (pins : List (Addr × Obj)) (s : Shared) (σ : St) (H : Hp) (Q : Bool→Hp→Prop),Inv X pins σ H s→t σ H Q →
  wpAny (model X.prog X.w) X.A (forIn ifs true fun c r=>if r = true then do let ok ← isTrue c X.env (eval c X.env); pure (ForInStep.yield ok) else pure (ForInStep.yield r)) (TP X pins σ Q) X.xe s
def tTrue : TT:=fun _ H Q=>Q true H
theorem pts_nil {X : Cx} : PTs X [] tTrue:=fun _ _ _ H _ I h=>wpAny_tests_nil ⟨H,I,h⟩
theorem pts_one {X : Cx} {c : Expr} {t : TT} (h : PT X c t) : PTs X [c] t:=fun pins s σ H Q I q=>wpAny_tests_one (h pins s σ H Q I q)
section
variable {prog : Program} {w : World} {A : Around} {R : Result→Shared→Prop} {s : Shared}
theorem codeAny_compLoop_go {elt target iter : Expr} {ifs : List Expr} {scope : Scope} {pos : Pos} {it acc : Value} {env : Env} (I : Nat→Shared→Prop)
  (turn : ∀ n s,I n s→wpAny (model prog w) A (pyNext it) (fun r s₁=>match r with
   | none=>R (.ok .next) s₁
   | some v=>wpAny (model prog w) A (letOwnedTupleGo target it v) (fun _ s₁'=>wpAny (model prog w) A (assign target env v) (fun _ s₂ =>
     wpAny (model prog w) A (forIn ifs true fun c r=>if r = true then do let ok ← isTrue c env (eval c env); pure (ForInStep.yield ok) else pure (ForInStep.yield r)) (fun ok s₃ =>
      if ok = true then wpAny (model prog w) A (eval elt env) (fun x s₄ =>
       wpAny (model prog w) A (call (.builtin "list.append") [acc, x]) (fun _ s₅ => ∃ m, m < n ∧ I m s₅) (notedBy (model prog w) A env fun e s' => R (.error e) s') s₄) (notedBy (model prog w) A env fun e s' => R (.error e) s') s₃
      else ∃ m,m < n∧I m s₃) (notedBy (model prog w) A env fun e s'=>R (.error e) s') s₂) (notedBy (model prog w) A env fun e s'=>R (.error e) s') s₁') (notedBy (model prog w) A env fun e s'=>R (.error e) s') s₁)
   (notedBy (model prog w) A env fun e s'=>R (.error e) s') s)
  (n : Nat) (h : I n s) : codeAny (model prog w) A (.compLoop (.ListComp elt [⟨target,iter,ifs,0⟩] scope pos) 0 it acc env) R s:=by
 refine codeAny_loop rfl I (fun n s hI=>?_) n h
 show wpAny _ A ((compTurn (.ListComp elt [⟨target,iter,ifs,0⟩] scope pos) 0 it acc env).onRaise (fun x=>do noteFrame x env; theTreesLotGoes x)) _ _ s
 refine wpAny_noted ?_
 rw [compTurn_list]
 refine wpAny_bind (wpAny_standAt (wpAny_bind (wpAny_mono (turn n s hI) (fun r s₁ h₁=>?_) fun _ _ h'=>h')))
 cases r with
 | none=>exact wpAny_pure h₁
 | some v =>
  refine wpAny_bind (wpAny_mono h₁ (fun _ s₁' h₁'=>?_) fun _ _ h'=>h')
  refine wpAny_bind (wpAny_mono h₁' (fun _ s₂ h₂=>wpAny_bind (wpAny_mono h₂ (fun ok s₃ h₃=>?_) fun _ _ h'=>h')) fun _ _ h'=>h')
  cases ok with
  | false=>exact wpAny_pure ⟨rfl,h₃⟩
  | true =>
   exact wpAny_bind (wpAny_bind (wpAny_mono h₃ (fun x s₄ h₄=>wpAny_bind (wpAny_mono h₄ (fun _ s₅ h₅=>wpAny_pure (wpAny_pure ⟨rfl,h₅⟩)) fun _ _ h'=>h')) fun _ _ h'=>h'))
end
section
variable {X : Cx} {pins : List (Addr × Obj)} {σ : St} {H : Hp} {s₂ : Shared} {scope : Scope} {N' : List Str} {nt : Nat} {caps : List Nat} {tg elt iter : Expr} {ifs : List Expr} {pos : Pos} {g : Blk→TG} {tt : Blk→TT} {te : Blk→TE}
def CompW (J : It) (g : TG) (tt : TT) (te : TE) (W : Nat→Nat→List V→St→Hp→Prop) (Z : List V→Hp→Prop) : Prop :=
 ∀ i m ys σ' H',W i m ys σ' H'→(J.stop i H'∧Z ys H') ∨ (J.go i H'∧ys.length < sizeLine∧∃ N : List V→St→Hp→Prop,(∀ zs σ2 H2,N zs σ2 H2→∃ m',m' < m∧W (i + 1) m' zs σ2 H2) ∧
  ∀ x H2,J.yld i H' x H2→g x σ' H2 fun σ2 H3=>tt σ2 H3 fun b H4=>if b = true then te σ2 H4 fun y H5=>N (ys ++ [y]) σ2 H5 else N ys σ2 H4)
abbrev lobj (its : List Value) (n : Nat) : Obj := { cls := .type "list", data := .seq its.toArray n }
theorem comp_run {J : It} {it : Addr} {fp : List Addr} {tn : Nat→Heap→Prop} {W : Nat→Nat→List V→St→Hp→Prop} {Z : List V→Hp→Prop} {RR : Value→Addr→Result→Shared→Prop} {E : Value→Shared→Prop}
  (hc : X.calm = true) (S : CompScope X.env.scope X.N scope N' nt caps)
  (hg : ∀ B,PG (cxComp X N' scope B) tg (g B)) (ht : ∀ B,PTs (cxComp X N' scope B) ifs (tt B)) (he : ∀ B,PE (cxComp X N' scope B) elt (te B))
  (I : Inv X pins σ H s₂) (T : Turn X.prog X.w X.K tg J fp it tn) (st : tn 0 s₂.heap) (f2 : ∀ b ∈ fp,FpOk X pins H b) (w0 : ∃ m,W 0 m [] (sgm nt caps σ) H) (turn : ∀ B,CompW J (g B) (tt B) (te B) W Z)
  (hRR : ∀ D C s' ys H',Z ys H'→H' D = none→Inv X pins σ (upd H' D (.lst ys)) s'→FpOk X pins (upd H' D (.lst ys)) C→(∃ m,s'.heap.Ns C m)→RR (.ref D) C (.ok .next) s') :
  wpAny (model X.prog X.w) X.A (newList []) (fun acc s₃=>wpAny (model X.prog X.w) X.A (newFunctionEnv scope X.env.globals (closL X.env scope.names []) [] X.env.qual none .none (some X.env)) (fun cenv s₄ =>
   codeAny (model X.prog X.w) X.A (.compStart (.ListComp elt [⟨tg,iter,ifs,0⟩] scope pos) 0 (.ref it) acc { cenv with scope:=relabel scope X.env }) (RR acc cenv.locals) s₄) E s₃) E s₂:=by
 refine wpAny_newObj_type (wpAny_newFunctionEnv S.nocell (by intro y hy; simp at hy) (fun h₁ hns₁ hsb₁=>?_) S.kind)
 try dsimp only at hns₁ hsb₁ ⊢
 generalize hH2 : s₂.heap.push { cls := .type "list", dict := none, data := .seq ([] : List Value).toArray } = G2 at hns₁ hsb₁ ⊢
 have hCe : G2.objs.size = s₂.heap.objs.size + 1:=by rw [← hH2,Heap.size_push]
 have hDC : s₂.heap.objs.size ≠ G2.objs.size:=by rw [hCe]; exact Nat.ne_of_lt (Nat.lt_succ_self _)
 have hCle : s₂.heap.objs.size ≤ G2.objs.size:=by rw [hCe]; exact Nat.le_succ _
 have hlt : ∀ b ∈ fp,b < s₂.heap.objs.size:=fun b hb=>let ⟨o,e,_⟩:=T.obj 0 _ st b hb; Heap.lt_size e
 have old : ∀ b o,s₂.heap.get? b = some o→h₁.get? b = some o:=fun b o e =>
  hsb₁.extBut b o (Nat.ne_of_lt (Nat.lt_of_lt_of_le (Heap.lt_size e) hCle)) (Heap.get?_push_of_some _ (hH2 ▸ Heap.get?_push_of_some _ e))
 have hacc : h₁.get? s₂.heap.objs.size = some (lobj [] 0):=hsb₁.extBut _ _ hDC (Heap.get?_push_of_some _ (hH2 ▸ Heap.get?_push_size _ rfl))
 generalize hD : s₂.heap.objs.size = D at hacc hDC hCle hCe
 generalize G2.objs.size = C at hns₁ hsb₁ hDC hCle hCe ⊢
 have hlt' : ∀ b ∈ fp,b < D:=fun b hb=>hD ▸ hlt b hb
 have hpl : ∀ p ∈ X.pn ++ pins,p.1 < D:=fun p hp=>hD ▸ Heap.lt_size (I.pin p hp).1
 have hcl : ∀ x c,X.env.cells.lookup x = some c→c < D:=fun x c e=>let ⟨v,q⟩:=I.cell x c e; hD ▸ q.lt
 have hfsl : ∀ b ∈ frs X.stack,b < D:=fun b hb=>by
  rcases List.mem_cons.mp (I.stkSub b hb) with z | z
  ·rw [z,← hD]; exact I.lt
  ·rw [← hD]
   refine Nat.lt_of_not_le fun q=>I.nofs q z
 have fD : ∀ {H' : Hp} {pl : List (Addr × Obj)},H' D = none→(∀ p ∈ X.pn ++ pl,p.1 < D)→FpOk (cxComp X N' scope ⟨C,s₂,H,fp⟩) pl H' D:=fun {H' pl} hn hp =>
  ⟨hn,hDC,fun z=>Nat.lt_irrefl _ (hfsl D z),.inr (by show s₂.heap.objs.size ≤ D; rw [hD]; exact Nat.le_refl _),fun x c e z=>Nat.lt_irrefl D (by have:=hcl x c (lookup_of_all closL_sub0 e); rw [z] at this; exact this),
   fun p q z=>Nat.lt_irrefl D (by have:=hp p q; rw [z] at this; exact this)⟩
 have fI : ∀ {H' : Hp} {n : Nat} {its : List Value},(∀ b ∈ fp,H' b = none)→∀ b ∈ fp,FpOk (cxComp X N' scope ⟨C,s₂,H,fp⟩) (pins ++ [(D,lobj its n)]) H' b:=fun {H' n its} hn b hb=>by
  obtain ⟨g0,g1,g2,g3,g4,g5⟩:=f2 b hb
  refine ⟨hn b hb,Nat.ne_of_lt (Nat.lt_of_lt_of_le (hlt' b hb) hCle),fun z=>?_,.inl hb,fun x c e=>g4 x c (lookup_of_all closL_sub0 e),fun p hp z=>?_⟩
  ·rcases List.mem_cons.mp (I.stkSub b z) with q | q
   ·exact g1 q
   ·exact g2 q
  ·have hp' : p ∈ X.pn ++ (pins ++ [(D,lobj its n)]):=hp
   rw [← List.append_assoc] at hp'
   rcases List.mem_append.mp hp' with q | q
   ·exact g5 p q z
   ·have e : p = (D,lobj its n):=by simpa using q
    rw [e] at z
    have:=hlt' b hb
    rw [← z] at this
    exact Nat.lt_irrefl _ this
 have pinD : ∀ {σ' : St} {H' : Hp} {s' : Shared} {its : List Value} {n : Nat} {pl : List (Addr × Obj)},Inv (cxComp X N' scope ⟨C,s₂,H,fp⟩) (pins ++ pl) σ' H' s'→H' D = none→s'.heap.get? D = some (lobj its n)→Inv (cxComp X N' scope ⟨C,s₂,H,fp⟩) (pins ++ [(D,lobj its n)]) σ' H' s' :=
  fun {σ' H' s' its n pl} J hn ho=>J.pins_of fun p hp=>by
   rcases List.mem_append.mp hp with q | q
   ·exact J.pin p (List.mem_append_right _ (List.mem_append_left _ q))
   ·have e : p = (D,lobj its n):=by simpa using q
    subst e
    exact ⟨ho,hn,hDC,fun z=>Nat.lt_irrefl _ (hfsl D z),fun v z=>by cases z⟩
 have I1 : Inv (cxComp X N' scope ⟨C,s₂,H,fp⟩) (pins ++ [(D,lobj [] 0)]) (sgm nt caps σ) H { s₂ with heap:=h₁,toks:=s₂.toks + ([] : List (Str × Value)).length } :=
  pinD (pl:=[]) (by rw [List.append_nil]; exact inv_comp I S f2 hlt (by rw [hD]; exact hCle) hns₁ old) (I.hok.fresh (by rw [hD]; exact Nat.le_refl _)) hacc
 have st1 : tn 0 h₁:=T.keep 0 _ _ st fun b _ o e=>old b o e
 have loop : ∀ s₃ : Shared,s₃ = { s₂ with heap:=h₁,toks:=s₂.toks + ([] : List (Str × Value)).length } →
   codeAny (model X.prog X.w) X.A (.compLoop (.ListComp elt [⟨tg,iter,ifs,0⟩] scope pos) 0 (.ref it) (.ref D) (cxComp X N' scope ⟨C,s₂,H,fp⟩).env) (RR (.ref D) C) s₃:=by
  rintro s₃ rfl
  obtain ⟨m0,w0⟩:=w0
  refine codeAny_compLoop_go (fun k s'=>∃ i ys σ' H' its n,Inv (cxComp X N' scope ⟨C,s₂,H,fp⟩) (pins ++ [(D,lobj its n)]) σ' H' s'∧Vals ys its∧tn i s'.heap∧(∀ b ∈ fp,H' b = none)∧ys.length ≤ sizeLine∧W i k ys σ' H') ?_ m0
   ⟨0,[],_,H,[],0,I1,.nil,st1,fun b hb=>(f2 b hb).1,Nat.zero_le _,w0⟩
  rintro k s' ⟨i,ys,σ',H',its,n,I',rv,st',fr',hz,w'⟩
  rcases turn ⟨C,s₂,H,fp⟩ i k ys σ' H' w' with ⟨stop,z⟩ | ⟨go,hlen,NN,hNN,step⟩
  ·refine thn (T.done (cxComp X N' scope ⟨C,s₂,H,fp⟩) rfl rfl rfl hc i _ s' σ' H' _ I' (fI fr') st' stop) fun r s1 ⟨hr,J⟩=>?_
   subst hr
   have pd:=J.pin (D,lobj its n) (List.mem_append_right _ (List.mem_append_right _ List.mem_cons_self))
   have hDn : H' D = none:=pd.2.1
   have J0 : Inv X pins σ H' s1:=I.call' (ch:=fp) J.os J.base J.hok J.bare fun b hb=>⟨(f2 b hb).2.2.2.1,(f2 b hb).2.1,(f2 b hb).2.2.2.2.1,(f2 b hb).2.2.2.2.2⟩
   have J1 : Inv X pins σ (upd H' D (.lst ys)) s1:=J0.track (I.fpOk (by rw [hD]; exact Nat.le_refl _) hDn) ⟨hz,its,n,rv,pd.1⟩
   obtain ⟨mC,hnC,_⟩:=J.loc
   exact hRR D C s1 ys H' z hDn J1 (I.fpOk (by rw [hD]; exact hCle) (by rw [upd_ne (Ne.symm hDC)]; exact J.free)) ⟨mC,hnC⟩
  ·refine thn (T.item (cxComp X N' scope ⟨C,s₂,H,fp⟩) rfl rfl rfl hc i _ s' σ' H' _ I' (fI fr') st' go) fun r s1 ⟨u,hr,h1⟩=>?_
   subst hr
   refine thn h1 fun _ s5 ⟨x,H5,I5,r5,y5,st5,fr5⟩=>?_
   have I5':=I5.pinned (fI fr5) (T.obj _ _ st5)
   refine wpAny_mono (hg ⟨C,s₂,H,fp⟩ _ s5 σ' H5 x u _ I5' r5 (step x H5 y5)) (fun _ s6 ⟨σ6,H6,I6,q6⟩=>?_) fun _ _ z=>z.elim
   refine wpAny_mono (ht ⟨C,s₂,H,fp⟩ _ s6 σ6 H6 _ I6 q6) (fun b s7 ⟨H7,I7,q7⟩=>?_) fun _ _ z=>z.elim
   have keepT : ∀ {σ8 : St} {H8 : Hp} {s8 : Shared},Inv (cxComp X N' scope ⟨C,s₂,H,fp⟩) ((pins ++ [(D,lobj its n)]) ++ pinsAt fp s5.heap) σ8 H8 s8→tn (i + 1) s8.heap∧(∀ b ∈ fp,H8 b = none)∧s8.heap.get? D = some (lobj its n)∧H8 D = none:=fun {σ8 H8 s8} I8=>by
    refine ⟨T.keep _ _ _ st5 fun b hb o e=>(I8.pin (b,o) (List.mem_append_right _ (List.mem_append_right _ (mem_pinsAt hb e)))).1,fun b hb=>?_,?_⟩
    ·obtain ⟨o,e,_⟩:=T.obj _ _ st5 b hb
     exact (I8.pin (b,o) (List.mem_append_right _ (List.mem_append_right _ (mem_pinsAt hb e)))).2.1
    ·have pd:=I8.pin (D,lobj its n) (List.mem_append_right _ (List.mem_append_left _ (List.mem_append_right _ List.mem_cons_self)))
     exact ⟨pd.1,pd.2.1⟩
   cases b with
   | false =>
    rw [if_neg Bool.false_ne_true] at q7 ⊢
    obtain ⟨m',hm,w7⟩:=hNN _ _ _ q7
    obtain ⟨t7,f7,_,_⟩:=keepT I7
    exact ⟨m',hm,i + 1,ys,σ6,H7,its,n,I7.unpinned,rv,t7,f7,hz,w7⟩
   | true =>
    rw [if_pos rfl] at q7 ⊢
    refine wpAny_mono (he ⟨C,s₂,H,fp⟩ _ s7 σ6 H7 _ I7 q7) (fun v s8 ⟨y,H8,I8,r8,q8⟩=>?_) fun _ _ z=>z.elim
    obtain ⟨m',hm,w8⟩:=hNN _ _ _ q8
    obtain ⟨t8,f8,o8,n8⟩:=keepT I8
    have hlv:=rv.length
    refine append_at o8 (fun h9 sb9 o9=>?_) (by rw [List.size_toArray,← hlv]; exact hz)
    have I8' : Inv (cxComp X N' scope ⟨C,s₂,H,fp⟩) (pins ++ []) σ6 H8 s8:=by
     rw [List.append_nil]
     exact I8.unpinned.unpinned
    have ep : ((its.toArray.push v)) = (its ++ [v]).toArray:=by simp
    rw [ep] at o9
    have I9 : Inv (cxComp X N' scope ⟨C,s₂,H,fp⟩) (pins ++ []) σ6 H8 { s8 with heap:=h9 } :=
     I8'.turnedL (t':=s8.toks) (ch:=[D]) (fun b o hb e=>sb9.extBut b o (fun z=>hb (by simp [z])) e) (fun b hb=>by
      have e : b = D:=by simpa using hb
      subst e
      exact fD n8 (by rw [List.append_nil]; exact hpl))
    refine ⟨m',hm,i + 1,ys ++ [y],σ6,H8,its ++ [v],n + 1,pinD I9 n8 o9,rv.append (.cons r8 .nil),T.keep _ _ _ t8 fun b hb o e=>sb9.extBut b o (Nat.ne_of_lt (hlt' b hb)) e,f8,?_,w8⟩
    rw [List.length_append,List.length_singleton]
    exact hlen
 exact codeAny_compStart_list (loop _ rfl) (T.self X.A 0 _ _ _ st1 (loop _ rfl))
def tComp (nt : Nat) (caps : List Nat) (wi : TI) (g : Blk→TG) (tt : Blk→TT) (te : Blk→TE) : TE:=fun σ H Q=>wi σ H fun J H1 =>
 ∃ (W : Nat→Nat→List V→St→Hp→Prop),(∃ m,W 0 m [] (sgm nt caps σ) H1)∧∀ B,CompW J (g B) (tt B) (te B) W fun ys H'=>∀ p,H' p = none→Q (.ref p) (upd H' p (.lst ys))
theorem pe_comp {wi : TI} (osc : Scope) (N : List Str) (S : CompScope osc N scope N' nt caps) (hi : PI X tg iter wi)
  (hg : ∀ B,PG (cxComp X N' scope B) tg (g B)) (ht : ∀ B,PTs (cxComp X N' scope B) ifs (tt B)) (he : ∀ B,PE (cxComp X N' scope B) elt (te B))
  (hc : X.calm = true:=by rfl) (hosc : X.env.scope = osc:=by rfl) (hNN : X.N = N:=by rfl) (hs : ∀ x,foldedSetIterable iter X.env x = pure x:=by intro _; rfl) : PE X (.ListComp elt [⟨tg,iter,ifs,0⟩] scope pos) (tComp nt caps wi g tt te):=by
 subst hosc hNN
 intro pins s σ H Q I h
 have hfr : ∀ x ∈ scope.names,x.2 = .free→∃ c,X.env.cells.lookup x.1 = some c:=fun x hx hf=>I.ok.has x.1 (S.frees x hx hf)
 rw [eval_ListComp]
 refine wpAny_comprehension_free (use:=none) rfl hs (closureFor_eq hfr) S.kind S.names (thn (hi pins s σ H _ I h) fun v s1 h1=>thn h1 fun itv s2 h2=>?_)
 obtain ⟨it,fp,tn,J,H2,e,I2,T,st2,f2,W,w0,turn⟩:=h2
 subst e
 refine comp_run (RR:=fun acc C=>compPost (model X.prog X.w) X.A X.xe none (EP X pins σ Q) acc C) hc S hg ht he I2 T st2 f2 w0 turn ?_
 intro D C s' ys H' z hn J' fC ⟨m,hm⟩
 refine ⟨m,hm,fun h'' sb=>⟨.ref D,_,J'.turnedL (t':=s'.toks) (ch:=[C]) (fun b o hb e=>sb.extBut b o (fun z=>hb (by simp [z])) e) (fun b hb=>?_),rfl,z D hn⟩⟩
 have e : b = C:=by simpa using hb
 subst e
 exact fC
theorem ps_setComp {wi : TI} {i : Nat} {y : Str} {py spos : Pos} (osc : Scope) (N : List Str) (S : CompScope osc N scope N' nt caps) (hN : X.N.Nodup) (hiN : X.N[i]? = some y) (hy : X.env.scope.names.lookup y = some .local) (hi : PI X tg iter wi)
  (hg : ∀ B,PG (cxComp X N' scope B) tg (g B)) (ht : ∀ B,PTs (cxComp X N' scope B) ifs (tt B)) (he : ∀ B,PE (cxComp X N' scope B) elt (te B))
  (hsw : swapsWith (.ListComp elt [⟨tg,iter,ifs,0⟩] scope pos) (some (.Name y py)) spos.line X.env = pure true:=by rfl)
  (hc : X.calm = true:=by rfl) (hosc : X.env.scope = osc:=by rfl) (hNN : X.N = N:=by rfl) (hs : ∀ x,foldedSetIterable iter X.env x = pure x:=by intro _; rfl) : PS X (.Assign [.Name y py] (.ListComp elt [⟨tg,iter,ifs,0⟩] scope pos) spos) (tAsg (tComp nt caps wi g tt te) (gName i)):=by
 subst hosc hNN
 intro pins s σ H D0 I h
 have hfr : ∀ x ∈ scope.names,x.2 = .free→∃ c,X.env.cells.lookup x.1 = some c:=fun x hx hf=>I.ok.has x.1 (S.frees x hx hf)
 rw [exec_Assign_Name_used _ _ _ _ hsw]
 refine wpAny_bind (wpAny_standAt (wpAny_bind ?_))
 show wpAny _ _ (do let _ ← comprehension (.ListComp elt [⟨tg,iter,ifs,0⟩] scope pos) scope X.env _ (newList []) false (eval iter X.env) (some (assign (.Name y py) X.env))) _ _ s
 refine wpAny_bind (wpAny_mono (wpAny_comprehension_free (use:=some (assign (.Name y py) X.env)) (Q:=fun _ s'=>SP X pins D0 .next s') rfl hs (closureFor_eq hfr) S.kind S.names
  (thn (hi pins s σ H _ I h) fun v s1 h1=>thn h1 fun itv s2 h2=>?_)) (fun _ s' hq=>wpAny_pure (wpAny_pure hq)) fun _ _ e=>e)
 obtain ⟨it,fp,tn,J,H2,e,I2,T,st2,f2,W,w0,turn⟩:=h2
 subst e
 refine comp_run (RR:=fun acc C=>compPost (model X.prog X.w) X.A X.xe (some (assign (.Name y py) X.env)) (fun _ s'=>SP X pins D0 .next s') acc C) hc S hg ht he I2 T st2 f2 w0 turn ?_
 intro D C s' ys H' z hn J' fC ⟨m,hm⟩
 show wpAny _ _ (assign (.Name y py) X.env (.ref D)) _ _ s'
 refine wpAny_assign_Name (store_ok2 (v:=.ref D) J' hN hiN (.inl hy) rfl (fun s'' J'' ⟨a,sb,ha⟩=>?_) (.inr hy))
 have hCa : C ≠ a:=by
  rcases ha with q | q
  ·rw [q]; exact fC.2.1
  ·exact Ne.symm (fC.2.2.2.2.1 _ _ q)
 refine ⟨m,hm.sameBut sb hCa,fun h'' sb'=>⟨_,_,J''.turnedL (t':=s''.toks) (ch:=[C]) (fun b o hb e=>sb'.extBut b o (fun z=>hb (by simp [z])) e) (fun b hb=>?_),z D hn⟩⟩
 have e : b = C:=by simpa using hb
 subst e
 exact fC
end
section
variable {X : Cx}
end
section
variable {K : PySem.W.Frag} {g : Blk→TG} {tt : Blk→TT} {te : Blk→TE} {Z : List V→Hp→Prop} {σ0 : St} {H1 : Hp}
theorem comp_listP {a : Addr} {xs : List V} (Pv : Nat→List V→St→Hp→Prop) (h0 : Pv 0 [] σ0 H1) (hl : ∀ i ys σ H,i ≤ xs.length→Pv i ys σ H→SqL K H a xs∧ys.length < sizeLine)
  (hs : ∀ B i x ys σ H,xs[i]? = some x→Pv i ys σ H→g B x σ H fun σ2 H3=>tt B σ2 H3 fun b H4=>if b = true then te B σ2 H4 fun y H5=>Pv (i + 1) (ys ++ [y]) σ2 H5 else Pv (i + 1) ys σ2 H4)
  (hd : ∀ ys σ H,Pv xs.length ys σ H→Z ys H) : ∃ W : Nat→Nat→List V→St→Hp→Prop,(∃ m,W 0 m [] σ0 H1)∧∀ B,CompW (Itl K a) (g B) (tt B) (te B) W Z:=by
 refine ⟨fun i m ys σ H=>m = xs.length - i∧i ≤ xs.length∧Pv i ys σ H,⟨xs.length,by simp,Nat.zero_le _,h0⟩,?_⟩
 rintro B i m ys σ H ⟨rfl,hi,p⟩
 obtain ⟨q,hz⟩:=hl i ys σ H hi p
 by_cases hlt : i < xs.length
 ·refine .inr ⟨⟨xs,xs[i],q,by simp [hlt]⟩,hz,Pv (i + 1),fun zs σ' H' p'=>⟨xs.length - (i + 1),by omega,rfl,hlt,p'⟩,fun x H' y=>?_⟩
  obtain ⟨e,y⟩:=y
  subst e
  exact hs B i x ys σ _ (y xs q) p
 ·have e : i = xs.length:=by omega
  subst e
  exact .inl ⟨⟨xs,q,Nat.le_refl _⟩,hd ys σ H p⟩
theorem comp_rangeP {lo : Int} {n : Nat} (Pv : Nat→List V→St→Hp→Prop) (h0 : Pv 0 [] σ0 H1) (hl : ∀ i ys σ H,i ≤ n→Pv i ys σ H→ys.length < sizeLine)
  (hs : ∀ B i ys σ H,i < n→Pv i ys σ H→g B (.int (lo + i)) σ H fun σ2 H3=>tt B σ2 H3 fun b H4=>if b = true then te B σ2 H4 fun y H5=>Pv (i + 1) (ys ++ [y]) σ2 H5 else Pv (i + 1) ys σ2 H4)
  (hd : ∀ ys σ H,Pv n ys σ H→Z ys H) : ∃ W : Nat→Nat→List V→St→Hp→Prop,(∃ m,W 0 m [] σ0 H1)∧∀ B,CompW (Itr lo n) (g B) (tt B) (te B) W Z:=by
 refine ⟨fun i m ys σ H=>m = n - i∧i ≤ n∧Pv i ys σ H,⟨n,by simp,Nat.zero_le _,h0⟩,?_⟩
 rintro B i m ys σ H ⟨rfl,hi,p⟩
 by_cases hlt : i < n
 ·refine .inr ⟨hlt,hl i ys σ H hi p,Pv (i + 1),fun zs σ' H' p'=>⟨n - (i + 1),by omega,rfl,hlt,p'⟩,fun x H' y=>?_⟩
  obtain ⟨e,y⟩:=y
  subst e y
  exact hs B i ys σ _ hlt p
 ·have e : i = n:=by omega
  subst e
  exact .inl ⟨Nat.le_refl _,hd ys σ H p⟩
end
protected theorem Same.upd {H H' : Hp} (e : Same H H') {p : Addr} {o : HO} (h : H' p = none) : Same H (L2.upd H' p o):=fun b u q=>by
 have q':=e b u q
 rw [upd_ne (ne_of_none q' h)]
 exact q'
protected theorem Same.upd' {H H' : Hp} (e : Same H H') {p : Addr} {o : HO} (h : H p = none) : Same H (L2.upd H' p o):=fun b u q=>by
 rw [upd_ne (ne_of_none q h)]
 exact e b u q
theorem comp_range1 {te : Blk→TE} {H1 : Hp} {Z : List V→Hp→Prop} {lo : Int} {n : Nat} {τ : St} (f : Nat→V) (hn : n < sizeLine)
  (hs : ∀ B i H,i < n→Same H1 H→∀ Q' : VK,(∀ H2,Same H H2→Q' (f i) H2)→te B (some (.int (lo + i)) :: τ) H Q')
  (hd : ∀ H2,Same H1 H2→Z ((List.range n).map f) H2) :
  ∃ W : Nat→Nat→List V→St→Hp→Prop,(∃ m,W 0 m [] (none :: τ) H1)∧∀ B : Blk,CompW (Itr lo n) (gName 0) tTrue (te B) W Z:=by
 refine comp_rangeP (g:=fun _=>gName 0) (tt:=fun _=>tTrue) (fun i ys σ H=>(∃ v,σ = v :: τ)∧Same H1 H∧ys = (List.range i).map f) ⟨⟨none,rfl⟩,Same.refl _,rfl⟩ (fun i ys σ H hi ⟨_,_,e⟩=>?_) (fun B i ys σ H hi ⟨⟨v,e⟩,S,ey⟩=>?_) (fun ys σ H ⟨_,S,e⟩=>?_)
 ·rw [e,List.length_map,List.length_range]; omega
 ·subst e
  try dsimp only [gName,tTrue]
  rw [if_pos rfl]
  refine hs B i H hi S _ fun H2 S2=>⟨⟨_,rfl⟩,S.trans S2,?_⟩
  rw [ey,List.range_succ,List.map_append]
  rfl
 ·rw [e]
  exact hd H S
end L2
namespace L2
open PySem PySem.Spec PyProof.Rows
section
variable {X : Cx}
inductive rIsOf (K : PySem.W.Frag) (xs : List V) (H : Hp) (Q : VK) : Prop
 | mk : ∀ x n t b,(xs = [x,.ty n])→(TyOf K H x t)→(PySem.W.kitOne K t (.type n) = some b)→(Q (.bl b) H)→rIsOf K xs H Q
theorem call_isinst : CallR X (.builtin "isinstance") (rIsOf X.K) := by
 intro pins s σ H xs us Q I r h
 obtain ⟨x,n,t,b,e,ty,k,q⟩:=h
 subst e
 obtain ⟨u,v,rfl,r1,r2⟩:=vals2 r
 obtain rfl : v = Value.type n:=r2
 exact isinst_ok I r1 ty k fun tk=>⟨.bl b,H,I.tok tk,rfl,q⟩
inductive rAllOf (K : PySem.W.Frag) (xs : List V) (H : Hp) (Q : VK) : Prop
 | mk : ∀ (a : Addr) (bs : List Bool),(xs = [.ref a])→(SqL K H a (bs.map V.bl))→(Q (.bl (bs.all id)) H)→rAllOf K xs H Q
theorem call_all_list (hc : X.calm = true) : CallR X (.builtin "all") (rAllOf X.K) := by
 intro pins s σ H xs us Q I r h
 obtain ⟨a,bs,e,hq,q⟩:=h
 subst e
 obtain ⟨u,rfl,r1⟩:=vals1 r
 obtain rfl : u = Value.ref a:=r1
 obtain ⟨its,rv,p,hz⟩:=I.list hq
 have hal : a < s.heap.objs.size:=by obtain ⟨o,e,_⟩:=p.isList; exact Heap.lt_size e
 have hl:=rv.length
 rw [List.length_map] at hl
 refine call_all_walk (wpAny_pyIter_list p.isList ⟨s.heap.objs.size,_,_,_,_,_,(fun i=>bs.getD i false),rfl,Walks.list (A:=X.A.in1) (show X.A.in1.handled = none from I.ok.hd hc) _ a (Nat.ne_of_lt hal) its.toArray,⟨⟨_,Heap.get?_push_size _ rfl,rfl,rfl⟩,p.isList.push _⟩,fun i v s' Q' E' hv hQ=>?_,fun h' tk hk=>?_⟩)
 ·have hv' : its[i]? = some v:=by simpa using hv
  have hi : i < bs.length:=by rw [hl]; exact (List.getElem?_eq_some_iff.mp hv').1
  have hx : (bs.map V.bl)[i]? = some (V.bl (bs.getD i false)):=by
   rw [List.getElem?_map,List.getElem?_eq_getElem hi]
   simp [List.getD_eq_getElem?_getD,List.getElem?_eq_getElem hi]
  obtain ⟨u,hu,ru⟩:=rv.get hx
  rw [hv'] at hu
  cases hu
  obtain rfl : v = Value.bool (bs.getD i false):=ru
  exact wpAny_truthy_bool hQ
 ·have es : (List.range its.toArray.size).all (fun i=>bs.getD i false) = bs.all id:=by
   rw [List.size_toArray,← hl]
   rw [Bool.eq_iff_iff,List.all_eq_true,List.all_eq_true]
   constructor
   ·intro z x hx
    obtain ⟨i,hi,rfl⟩:=List.mem_iff_getElem.mp hx
    have:=z i (List.mem_range.mpr hi)
    simpa [List.getD_eq_getElem?_getD,List.getElem?_eq_getElem hi] using this
   ·intro z i hi
    have hi:=List.mem_range.mp hi
    have:=z _ (List.getElem_mem hi)
    simpa [List.getD_eq_getElem?_getD,List.getElem?_eq_getElem hi] using this
  rw [es]
  exact ⟨.bl (bs.all id),H,I.kept fun b o e=>hk b o (fun z=>by have:=List.mem_singleton.mp z; rw [this] at e; exact absurd (Heap.lt_size e) (Nat.lt_irrefl _)) (Heap.get?_push_of_some _ e),rfl,q⟩
end
end L2
namespace L2
open PySem PySem.Spec PyProof.Rows
def compOkB (osc : Scope) (N : List Str) (scope : Scope) (N' : List Str) (nt : Nat) (caps : List Nat) : Bool :=
 decide (scope.kind = .function) && decide (∀ y ∈ scope.names,y.2 ≠ .cell) && decide (∀ y ∈ scope.names,y.2 = .local→scope.names.lookup y.1 = some .local) &&
 decide (∀ y ∈ scope.names,y.2 = .free→osc.names.lookup y.1 = some .cell ∨ osc.names.lookup y.1 = some .free) && decide (caps.map (fun j=>N[j]?) = (N'.drop nt).map some) &&
 decide (∀ x ∈ N'.drop nt,scope.names.lookup x = some .free) && decide (nt ≤ N'.length) && decide N'.Nodup
theorem CompScope.of {osc : Scope} {N : List Str} {scope : Scope} {N' : List Str} {nt : Nat} {caps : List Nat} (h : compOkB osc N scope N' nt caps = true) : CompScope osc N scope N' nt caps:=by
 unfold compOkB at h
 simp only [Bool.and_eq_true,decide_eq_true_eq] at h
 obtain ⟨⟨⟨⟨⟨⟨⟨a,b⟩,c⟩,d⟩,e⟩,f⟩,g⟩,i⟩:=h
 exact ⟨a,b,c,d,e,f,g,i⟩
def Its (lo c : Int) (n : Nat) : It:=⟨fun i _=>i < n,fun i H x H'=>H' = H∧x = .int (lo + i * c),fun i _=>n ≤ i⟩
def nSteps (lo hi c : Int) : Nat:=(if lo < hi then (hi - lo - 1) / c + 1 else 0).toNat
theorem turn_rangeS {P : Program} {w : World} {K : PySem.W.Frag} {tg : Expr} (it : Addr) (lo c : Int) (n : Nat) : Turn P w K tg (Its lo c n) [it] it (fun i h=>IsRangeIter h it (lo + (i : Nat) * c) ((n : Int) - (i : Nat)) c) where
 mem:=by simp
 obj:=fun i h st b hb=>by
  have e : b = it:=by simpa using hb
  subst e
  exact ⟨_,st,fun v z=>by
   have z' : Data.fields _ = Data.cell v:=z
   cases z'⟩
 keep:=fun i h h' st k=>k it (by simp) _ st
 item:=by
  intro X hP hw hK hc i pins s σ H E I hf st hg
  subst hP hw hK
  obtain ⟨f0,f1,f2,f3,f4,f5⟩:=hf it (by simp)
  have W:=Walks.range (prog:=X.prog) (w:=X.w) (I.ok.hd hc) it lo c n
  refine W.item i s _ _ hg st fun v h' tk hv st' kk=>?_
  obtain ⟨t,rfl⟩:=hv
  have I1 : Inv X pins σ H { s with heap:=h',toks:=tk }:=I.turned (fun b o hb e=>kk b o (by simpa using hb) e) f0 f1 f3 f4 f5
  exact ⟨_, rfl, go_of (s := { s with heap := h', toks := tk }) (n := "range_iterator") st' rfl rfl (by decide) ⟨.int (lo + i * c), H, I1, ⟨t, rfl⟩, ⟨rfl, rfl⟩, st', fun b hb => (hf b hb).1⟩⟩
 done:=by
  intro X hP hw hK hc i pins s σ H E I hf st hg
  subst hP hw hK
  obtain ⟨f0,f1,f2,f3,f4,f5⟩:=hf it (by simp)
  exact wpAny_pyNext_range_end (I.ok.hd hc) st (by have : n ≤ i:=hg; omega) fun h' eb=>⟨rfl,I.turned (t':=s.toks) (fun b o hb e=>eb b o hb e) f0 f1 f3 f4 f5⟩
 self:=fun _ _ _ _ _ st h=>wpAny_pyIter_rangeiter st h
theorem steps_le {lo hi c : Int} (h1 : 0 ≤ lo) (h2 : hi < 2 ^ 30) (h3 : 0 < c) : ((nSteps lo hi c : Nat) : Int) ≤ 2 ^ 30∧(lo < hi→((nSteps lo hi c : Nat) : Int) = (hi - lo - 1) / c + 1)∧(¬ lo < hi→nSteps lo hi c = 0):=by
 unfold nSteps
 split
 ·rename_i h
  have q0 : 0 ≤ (hi - lo - 1) / c:=Int.ediv_nonneg (by omega) (by omega)
  have q1 : (hi - lo - 1) / c ≤ hi - lo - 1:=Int.ediv_le_self _ (by omega)
  refine ⟨by omega,fun _=>by omega,fun z=>absurd h z⟩
 ·rename_i h
  refine ⟨by decide,fun z=>absurd z h,fun _=>rfl⟩
theorem small_steps {a b c : Int} (h1 : 0 ≤ a) (h2 : a < 2 ^ 30) (h3 : 0 ≤ b) (h4 : b < 2 ^ 30) (h5 : 0 < c) (h6 : c < 2 ^ 30) : Builtin.Range.small a b c = true:=by
 unfold Builtin.Range.small
 have hs : Builtin.Range.rangeSize a b c = if a < b then (b - a - 1) / c + 1 else 0:=by
  unfold Builtin.Range.rangeSize
  rw [if_pos h5]
 have q : 0 ≤ Builtin.Range.rangeSize a b c∧Builtin.Range.rangeSize a b c ≤ 2 ^ 30:=by
  rw [hs]
  split
  ·have q0 : 0 ≤ (b - a - 1) / c:=Int.ediv_nonneg (by omega) (by omega)
   have q1 : (b - a - 1) / c ≤ b - a - 1:=Int.ediv_le_self _ (by omega)
   omega
  ·omega
 generalize Builtin.Range.rangeSize a b c = z at q
 have hm : z * c ≤ 2 ^ 30 * 2 ^ 30:=Int.mul_le_mul q.2 (by omega) (by omega) (by decide)
 have hm0 : 0 ≤ z * c:=Int.mul_nonneg q.1 (by omega)
 generalize z * c = zc at hm hm0
 simp only [Builtin.Range.rangeFitsLong,Bool.and_eq_true,Bool.or_eq_true,decide_eq_true_eq,beq_iff_eq,if_pos h5]
 first | omega | (split <;> omega) | (refine ⟨?_,?_⟩ <;> omega)
def iRng3 (ta : TA) : TI:=fun σ H R=>ta σ H fun vs H1=>∃ i j c : Int,vs = [.int i,.int j,.int c]∧(0 ≤ i∧i < 2 ^ 30∧0 ≤ j∧j < 2 ^ 30∧0 < c∧c < 2 ^ 30)∧R (Its i c (nSteps i j c)) H1
section
variable {X : Cx} {tg : Expr}
theorem pi_range3 {a b c : Expr} {ta : TA} {p pos : Pos} (hg : Gl X "range") (hm : X.mg "range" = none) (ha : PA X [a, b, c] ta) (hs : starEach [a, b, c] X.env = [(false, eval a X.env), (false, eval b X.env), (false, eval c X.env)] := by rfl)
  (hs2 : starEach [b, c] X.env = [(false, eval b X.env), (false, eval c X.env)] := by rfl) : PI X tg (.Call (.Name "range" p) [a, b, c] [] pos) (iRng3 ta) := by
 intro pins s σ H R I h
 refine Call_ (ld_blt I hg hm boot_range (PyProof.Rows.callWith_type1 (thn (ha pos pins s σ H _ I h) fun us s1 ⟨vs,H1,I1,r1,q1⟩=>?_) (by rw [hs,hs2]) (by rw [hs2]; rfl)))
 obtain ⟨i,j,c,e,⟨q1,q2,q3,q4,q5,q6⟩,q⟩:=q1
 subst e
 cases r1 with
 | cons r rr =>
  cases rr with
  | cons r' rr =>
   cases rr with
   | cons r'' rr =>
    cases rr
    obtain ⟨t,rfl⟩:=r
    obtain ⟨u,rfl⟩:=r'
    obtain ⟨v,rfl⟩:=r''
    refine call_range_3 (by omega) ?_ (.inl (PyProof.noPylong_small (by omega)))
    refine wpAny_pyIter_range (IsRange.new ..) (small_steps q1 q2 q3 q4 q5 q6) ?_
    have I2 : Inv X pins σ H1 { s1 with heap := s1.heap.push { cls := .type "range", data := .fields #[.int i t, .int j u, .int c v] }, toks := s1.toks } := I1.kept fun b o e => Heap.get?_push_of_some _ e
    refine ⟨(s1.heap.push { cls := .type "range", data := .fields #[.int i t, .int j u, .int c v] }).objs.size, [(s1.heap.push { cls := .type "range", data := .fields #[.int i t, .int j u, .int c v] }).objs.size], _, _, H1, rfl,
     I2.kept (t':=s1.toks) fun b o e=>Heap.get?_push_of_some _ e,turn_rangeS _ i c (nSteps i j c),?_,fun b hb=>?_,q⟩
    ·have e1 : i + ((0 : Nat) : Int) * c = i:=by simp
     have e2 : ((nSteps i j c : Nat) : Int) - ((0 : Nat) : Int) = Builtin.Range.rangeSize i j c:=by
      obtain ⟨_,g1,g2⟩:=steps_le (lo:=i) (hi:=j) (c:=c) q1 q4 q5
      unfold Builtin.Range.rangeSize
      rw [if_pos q5]
      split
      ·rename_i z; rw [g1 z]; simp
      ·rename_i z; rw [g2 z]; simp
     show IsRangeIter _ _ (i + ((0 : Nat) : Int) * c) (((nSteps i j c : Nat) : Int) - ((0 : Nat) : Int)) c
     rw [e1,e2]
     exact Heap.get?_push_size _ rfl
    ·have e : b = (s1.heap.push { cls := .type "range", data := .fields #[.int i t, .int j u, .int c v] }).objs.size := by simpa using hb
     subst e
     exact I2.fpOk (Nat.le_refl _) (I2.hok.fresh (Nat.le_refl _))
end
theorem for_rangeS {lo c : Int} {n : Nat} {g : TG} {tb : TS} {D : Ends} {σ : St} {H : Hp} (Pv : Nat→St→Hp→Prop) (h0 : Pv 0 σ H)
  (hs : ∀ i σ H,i < n→Pv i σ H→g (.int (lo + i * c)) σ H fun σ2 H2=>tb { D with nx:=Pv (i + 1),ct:=Pv (i + 1),bk:=D.nx } σ2 H2) (hd : ∀ σ H,Pv n σ H→D.nx σ H) :
  ∃ W : Nat→Nat→St→Hp→Prop,(∃ m,W 0 m σ H)∧∀ i m σ H,W i m σ H →
   ((Its lo c n).stop i H∧D.nx σ H) ∨ ((Its lo c n).go i H∧∃ N : St→Hp→Prop,(∀ σ' H',N σ' H'→∃ m',m' < m∧W (i + 1) m' σ' H')∧∀ x H',(Its lo c n).yld i H x H'→g x σ H' fun σ2 H2=>tb { D with nx:=N,ct:=N,bk:=D.nx } σ2 H2):=by
 refine ⟨fun i m σ H=>m = n - i∧i ≤ n∧Pv i σ H,⟨n,by simp,Nat.zero_le _,h0⟩,?_⟩
 rintro i m σ H ⟨rfl,hi,p⟩
 by_cases hlt : i < n
 ·refine .inr ⟨hlt,Pv (i + 1),fun σ' H' p'=>⟨n - (i + 1),by omega,rfl,hlt,p'⟩,fun x H' y=>?_⟩
  obtain ⟨e,y⟩:=y
  subst e y
  exact hs i σ _ hlt p
 ·have e : i = n:=by omega
  subst e
  exact .inl ⟨Nat.le_refl _,hd σ H p⟩
theorem pg_nameC {X : Cx} {i : Nat} {x : Str} {pos : Pos} (N : List Str) (hN : N.Nodup) (hi : N[i]? = some x) (hx : X.env.scope.names.lookup x = some .local:=by rfl) (hXN : X.N = N:=by rfl) : PG X (.Name x pos) (gName i) :=
 pg_name (by rw [hXN]; exact hN) (by rw [hXN]; exact hi) (.inl hx) (.inr hx)
theorem bt_all : bootBuiltins "all" = some (.builtin "all") := by decide +kernel
theorem bt_len : bootBuiltins "len" = some (.builtin "len") := by decide +kernel
theorem bt_isinstance : bootBuiltins "isinstance" = some (.builtin "isinstance") := by decide +kernel
theorem bt_list : bootBuiltins "list" = some (.type "list") := by decide +kernel
theorem bt_int : bootBuiltins "int" = some (.type "int") := by decide +kernel
theorem bt_str : bootBuiltins "str" = some (.type "str") := by decide +kernel
theorem bt_tuple : bootBuiltins "tuple" = some (.type "tuple") := by decide +kernel
theorem bt_set : bootBuiltins "set" = some (.type "set") := by decide +kernel
end L2
namespace L2
open PySem PySem.Spec PyProof.Rows
abbrev vints (ns : List Int) : List V:=ns.map V.int
theorem iteD {p A B : Prop} [Decidable p] (h1 : p→A) (h2 : ¬ p→B) : if decide p = true then A else B:=by
 by_cases h : p
 ·rw [if_pos (decide_eq_true h)]
  exact h1 h
 ·rw [if_neg (by rw [decide_eq_false h]; exact Bool.false_ne_true)]
  exact h2 h
theorem iteND {p A B : Prop} [Decidable p] (h1 : ¬ p→A) (h2 : p→B) : if (!decide p) = true then A else B:=by
 by_cases h : p
 ·rw [decide_eq_true h]
  exact iteF (h2 h)
 ·rw [decide_eq_false h]
  exact iteT (h1 h)
theorem vint_eq {i j : Int} : (V.int i = V.int j) ↔ i = j:=⟨fun h=>by cases h; rfl,fun h=>by rw [h]⟩
theorem ints_get {ns : List Int} {i : Nat} {x : V} (h : (vints ns)[i]? = some x) : ∃ n,ns[i]? = some n∧x = V.int n:=by
 rw [List.getElem?_map] at h
 cases e : ns[i]? with
 | none=>rw [e] at h; cases h
 | some n=>rw [e] at h; exact ⟨n,rfl,(Option.some.inj h).symm⟩
theorem ints_len (ns : List Int) : (vints ns).length = ns.length:=List.length_map ..
theorem ints_at {ns : List Int} {k : Nat} (h : k < ns.length) : atI (vints ns) (k : Int) = some (V.int (ns[k])):=by
 refine atI_nat ?_
 rw [List.getElem?_map,List.getElem?_eq_getElem h]
 rfl
def Rows (H : Hp) (as : List Addr) (rs : List (List Int)) : Prop:=Paired (fun (a : Addr) (r : List Int)=>H a = some (.lst (vints r))) as rs
theorem Rows.same {H H' : Hp} {as : List Addr} {rs : List (List Int)} (h : Rows H as rs) (S : Same H H') : Rows H' as rs:=Paired.mapP h fun a r e=>S _ _ e
theorem Rows.snoc {H : Hp} {as : List Addr} {rs : List (List Int)} {a : Addr} {r : List Int} (h : Rows H as rs) (e : H a = some (.lst (vints r))) : Rows H (as ++ [a]) (rs ++ [r]):=Paired.snoc h e
theorem Rows.length {H : Hp} {as : List Addr} {rs : List (List Int)} (h : Rows H as rs) : as.length = rs.length:=Paired.length h
theorem Paired.getL {α β : Type} {F : α→β→Prop} : ∀ {l₁ : List α} {l₂ : List β} {i : Nat} {a : α},Paired F l₁ l₂→l₁[i]? = some a→∃ b,l₂[i]? = some b∧F a b
 | _,_,_,_,.nil,e=>by simp at e
 | _,_,0,_,.cons r _,e=>by simp at e; subst e; exact ⟨_,rfl,r⟩
 | _,_,i + 1,a,.cons _ t,e=>by
  obtain ⟨u,h1,h2⟩:=Paired.getL (i:=i) (a:=a) t (by simpa using e)
  exact ⟨u,by simpa using h1,h2⟩
theorem small70 {n : Nat} (h : n ≤ 70) : n < sizeLine:=Nat.lt_of_le_of_lt h (by decide)
end L2
namespace L2
open PySem PySem.Spec PyProof.Rows
theorem at_place {xs : List Int} {z i : Nat} (hx : xs.length = z) (hi : i < z) : atI (vints xs) (0 + (i : Int)) = some (V.int (xs.getD i 0)):=by
 subst hx
 rw [Int.zero_add,ints_at hi]
 simp [List.getD_eq_getElem?_getD,List.getElem?_eq_getElem hi]
end L2
namespace L2
open PySem PySem.Spec PyProof.Rows
def bn (xs ys : List Int) : Bool:=(List.zipWith (fun i j=>decide (i ≤ j)) xs ys).all id
end L2
namespace L2
open PySem PySem.Spec PyProof.Rows
def gcdL (xs : List Int) : Nat:=xs.foldl (fun g x=>Nat.gcd g x.natAbs) 0
theorem gcd_fold_dvd : ∀ (xs : List Int) (g : Nat),xs.foldl (fun g x=>Nat.gcd g x.natAbs) g ∣ g∧∀ x ∈ xs,xs.foldl (fun g x=>Nat.gcd g x.natAbs) g ∣ x.natAbs
 | [],g=>⟨Nat.dvd_refl _,fun x h=>nomatch h⟩
 | y :: xs,g=>by
  obtain ⟨h1,h2⟩:=gcd_fold_dvd xs (Nat.gcd g y.natAbs)
  refine ⟨Nat.dvd_trans h1 (Nat.gcd_dvd_left _ _),fun x hx=>?_⟩
  rcases List.mem_cons.mp hx with rfl | hx
  ·exact Nat.dvd_trans h1 (Nat.gcd_dvd_right _ _)
  ·exact h2 x hx
theorem gcdL_dvd {xs : List Int} {x : Int} (h : x ∈ xs) : gcdL xs ∣ x.natAbs:=(gcd_fold_dvd xs 0).2 x h
theorem vints_snoc (ns : List Int) (n : Int) : vints (ns ++ [n]) = vints ns ++ [V.int n]:=by rw [vints,List.map_append]; rfl
theorem vrefs_snoc (as : List Addr) (a : Addr) : (as ++ [a]).map V.ref = as.map V.ref ++ [V.ref a]:=by rw [List.map_append]; rfl
theorem Rows.lay {H : Hp} {as : List Addr} {rs : List (List Int)} {p : Addr} {o : HO} (R : Rows H as rs) (h : ∀ b ∈ as,b ≠ p) : Rows (upd H p o) as rs:=by
 induction R with
 | nil=>exact .nil
 | cons q _ ih=>exact .cons (by rw [upd_ne (h _ List.mem_cons_self)]; exact q) (ih fun b hb=>h b (List.mem_cons_of_mem _ hb))
theorem Rows.apart {H : Hp} {as : List Addr} {rs : List (List Int)} {p : Addr} (R : Rows H as rs) (h : H p = some (.lst (as.map V.ref))) : ∀ b ∈ as,b ≠ p:=fun b hb z=>by
 subst z
 obtain ⟨k,hk,e1⟩:=List.mem_iff_getElem.mp hb
 obtain ⟨r,_,e2⟩:=Paired.getL R (List.getElem?_eq_some_iff.mpr ⟨hk,e1⟩)
 rw [h] at e2
 have e3 : as.map V.ref = vints r:=by injection (Option.some.inj e2)
 have e4 : (as.map V.ref)[k]? = (vints r)[k]?:=by rw [e3]
 rw [List.getElem?_map,List.getElem?_map,List.getElem?_eq_getElem hk] at e4
 cases q : r[k]? with
 | none=>rw [q] at e4; cases e4
 | some n=>rw [q] at e4; cases e4
theorem Rows.mem {H : Hp} {as : List Addr} {rs : List (List Int)} {b : Addr} (R : Rows H as rs) (hb : b ∈ as) : ∃ r,r ∈ rs∧H b = some (.lst (vints r)):=by
 obtain ⟨k,hk,e1⟩:=List.mem_iff_getElem.mp hb
 obtain ⟨r,h1,e2⟩:=Paired.getL R (List.getElem?_eq_some_iff.mpr ⟨hk,e1⟩)
 exact ⟨r,List.mem_of_getElem? h1,e2⟩
def mx (i j : Int) : Int:=if j > i then j else i
theorem seq_join {t rest : TS} {D : Ends} {σ : St} {H : Hp} (I : St→Hp→Prop) (tl : ∀ σ' H',I σ' H'→rest D σ' H') (hd : ∀ N : St→Hp→Prop,(∀ σ' H',I σ' H'→N σ' H')→t { D with nx:=N } σ H) : tSeq t rest D σ H:=hd _ tl
def lowL (xs : List Int) : List Int:=if gcdL xs = 0 then xs else xs.map fun y=>y / (gcdL xs : Int)
theorem lowL_len (xs : List Int) : (lowL xs).length = xs.length:=by
 unfold lowL
 split
 ·rfl
 ·exact List.length_map ..
theorem low_abs {xs : List Int} {M : Nat} (h : ∀ x ∈ xs,x.natAbs < M) : ∀ x ∈ lowL xs,x.natAbs < M:=fun x hx=>by
 unfold lowL at hx
 split at hx
 ·exact h x hx
 ·obtain ⟨y,hy,rfl⟩:=List.mem_map.mp hx
  exact Nat.lt_of_le_of_lt (Int.natAbs_ediv_le_natAbs _ _) (h y hy)
theorem low_back {xs : List Int} (h0 : gcdL xs ≠ 0) : (lowL xs).map (fun y=>(gcdL xs : Int) * y) = xs:=by
 rw [lowL,if_neg h0,List.map_map]
 refine List.ext_getElem (by simp) fun i h1 h2=>?_
 rw [List.getElem_map]
 exact Int.mul_ediv_cancel' (Int.ofNat_dvd_left.mpr (gcdL_dvd (List.getElem_mem _)))
theorem refs_get {as : List Addr} {i : Nat} {x : V} (h : (as.map V.ref)[i]? = some x) : ∃ b,as[i]? = some b∧x = V.ref b:=by
 rw [List.getElem?_map] at h
 cases e : as[i]? with
 | none=>rw [e] at h; cases h
 | some b=>rw [e] at h; exact ⟨b,rfl,(Option.some.inj h).symm⟩
theorem strs_get {as : List Str} {i : Nat} {x : V} (h : (as.map V.str)[i]? = some x) : ∃ b,as[i]? = some b∧x = V.str b:=by
 rw [List.getElem?_map] at h
 cases e : as[i]? with
 | none=>rw [e] at h; cases h
 | some b=>rw [e] at h; exact ⟨b,rfl,(Option.some.inj h).symm⟩
end L2
namespace L2
open PySem PySem.Spec PyProof.Rows PySem.SeqAt
section
variable {X : Cx} {pins : List (Addr × Obj)} {σ : St} {H : Hp} {s : Shared} {A : Around} {a b : Addr} {xs ys : List Int}
def memR (xs : List Int) (rs : List (List Int)) : Bool:=rs.any fun r=>decide (r = xs)
end
end L2
namespace L2
open PySem PySem.Spec PyProof.Rows
def ix (x : List Int) : List (List Int)→Nat
 | []=>0
 | y :: l=>if y = x then 0 else ix x l + 1
def isOut (R : List Int→List Int→Bool) (all : List (List Int)) (r : List Int) : Bool:=all.all fun o=>decide (o = r) || !R r o
def step (R : List Int→List Int→Bool) (all acc : List (List Int)) (r : List Int) : List (List Int):=if !memR r acc && isOut R all r then acc ++ [r] else acc
section
variable {R : List Int→List Int→Bool} {all : List (List Int)}
end
end L2
namespace L2
open PySem PySem.Spec PyProof.Rows
section
variable {X : Cx} {CX : CXT} {k i : Nat} {f : Addr} {fd : FuncData} {ps : List Str} {sp : Sp} {dvs : List V} {ds : List Value} {E : XK} {x : Str} {p pos : Pos} {e : Expr} {es : List Expr} {t : TA}
def tCallV (i : Nat) (f : Addr) (sp : Sp) (dvs : List V) (E : XK) (t : TA) : TE:=fun σ H Q=>σ[i]? = some (some (.ref f))∧t σ H fun vs H1=>sp (vs ++ dvs) H1 Q E
theorem pe_callV (i : Nat) (F : FnOk X.prog X.w X.K X.mg X.base CX k f fd ps sp) (hr : Room k X.A) (hk : PySem.W.keepIn X.K (.ref f) = true) (hb : Binds X.K fd ps ds) (hd : Vals dvs ds) (hx : Passes CX X E) (ha : PA X (e :: es) t)
  (hN : X.N[i]? = some x := by rfl) (hv : Vis X.env.scope x := by first | exact Or.inl rfl | exact Or.inr (Or.inl rfl) | exact Or.inr (Or.inr rfl)) (hdb : (x == ("__debug__" : Str)) = false := by decide) (hcd : (x == ("__classdict__" : Str)) = false := by decide)
  (he : starEach (e :: es) X.env = (false,eval e X.env) :: starEach es X.env:=by rfl) (hpl : (backTo pos (starEach es X.env)).any (·.1) = false:=by rfl) :
  PE X (.Call (.Name x p) (e :: es) [] pos) (tCallV i f sp dvs E t):=by
 intro pins s σ H Q I h
 obtain ⟨hσ,h⟩:=h
 refine wpAny_Call_Name_kw (thn (pe_var (pos:=p) hN hv hdb hcd pins s σ H (fun v H1=>v = .ref f∧t σ H1 fun vs H2=>sp (vs ++ dvs) H2 Q E) I ⟨_,hσ,rfl,h⟩) fun u s1 ⟨v,H1,I1,r,ev,q⟩=>?_)
 subst ev
 cases r
 refine PySem.W.callWith_K (h₀:=X.base) I1.ok.mod.kin hk (thn (ha pos pins s1 σ H1 _ I1 q) fun us s2 ⟨vs,H2,I2,r2,q2⟩=>⟨I2.kIn,?_⟩) he hpl
 exact run_fn F hr hb hd hx I2 r2 q2
end
end L2
namespace L2
open PySem PySem.Spec PyProof.Rows
def put1 {κ : Type} [DecidableEq κ] (acc : List κ) (x : κ) : List κ:=if x ∈ acc then acc else acc ++ [x]
def metK {κ : Type} [DecidableEq κ] (val : Nat→κ) : Nat→List κ
 | 0=>[]
 | i + 1=>put1 (metK val i) (val i)
theorem metK_le {κ : Type} [DecidableEq κ] (val : Nat→κ) : ∀ i,(metK val i).length ≤ i
 | 0=>Nat.le_refl _
 | i + 1=>by
  have ih:=metK_le val i
  unfold metK put1
  split
  ·omega
  ·rw [List.length_append,List.length_singleton]; omega
theorem metK_mem {κ : Type} [DecidableEq κ] (val : Nat→κ) : ∀ (i : Nat) (x : κ),x ∈ metK val i ↔ ∃ j,j < i∧val j = x
 | 0,x=>⟨fun h=>(by cases h),fun ⟨j,h,_⟩=>absurd h (Nat.not_lt_zero _)⟩
 | i + 1,x=>by
  have ih:=metK_mem val i
  have e : x ∈ metK val (i + 1) ↔ x ∈ metK val i ∨ x = val i:=by
   show x ∈ put1 (metK val i) (val i) ↔ _
   unfold put1
   split
   ·rename_i h
    exact ⟨.inl,fun q=>q.elim id fun z=>z ▸ h⟩
   ·rw [List.mem_append,List.mem_singleton]
  rw [e,ih x]
  constructor
  ·rintro (⟨j,h,e⟩ | e)
   ·exact ⟨j,by omega,e⟩
   ·exact ⟨i,by omega,e.symm⟩
  ·rintro ⟨j,h,e'⟩
   rcases Nat.lt_succ_iff_lt_or_eq.mp h with q | q
   ·exact .inl ⟨j,q,e'⟩
   ·subst q; exact .inr e'.symm
theorem metK_all {κ : Type} [DecidableEq κ] (val : Nat→κ) : ∀ n,(∀ i j,i < n→j < n→val i = val j→i = j)→(metK val n).length = n
 | 0,_=>rfl
 | n + 1,h=>by
  have ih:=metK_all val n fun i j hi hj e=>h i j (by omega) (by omega) e
  have nm : val n ∉ metK val n:=fun q=>by
   obtain ⟨j,hj,e⟩:=(metK_mem val n _).mp q
   have:=h j n (by omega) (by omega) e
   omega
  show (put1 (metK val n) (val n)).length = n + 1
  unfold put1
  rw [if_neg nm,List.length_append,ih]
  rfl
abbrev setO (led : Bool) : Obj := { cls := .type "set", dict := none, data := .set #[] 0 (.fresh 0 0 led) }
section
variable {prog : Program} {w : World} {A : Around} {R : Result→Shared→Prop} {I : Addr} {fp wr : List Addr} {G : Array GenState→Array GenState→Prop} {n : Nat} {P : Nat→Value→Prop} {St : Nat→Shared→Prop}
variable {κ : Type} [DecidableEq κ] {knd : PySem.KeyKind prog w κ}
theorem setOf_as {h : Heap} {a : Addr} {S S' : κ→Bool} {n n' : Nat} (hS : h.SetOf knd a S n) (e : ∀ k,S k = S' k) (en : n = n') : h.SetOf knd a S' n':=by
 have q : S = S':=funext e
 rw [← q,← en]
 exact hS
theorem set_loop (W : WalksS prog w A.in1 I fp wr G n P St) (S : Addr) (hSf : S ∉ fp) (val : Nat→κ) (hval : ∀ i v,P i v→knd.is (val i) v = true∧v.scannable = true) (hb : n + 1 < scanBound) :
  ∀ (k i : Nat) (s : Shared),n - i = k→i ≤ n→St i s→s.heap.SetOf knd S (fun x=>decide (x ∈ metK val i)) (metK val i).length →
   (∀ s',Moved (S :: wr) G s s'→s'.heap.SetOf knd S (fun x=>decide (x ∈ metK val n)) (metK val n).length→R (.ok (.ret .none)) s') →
   codeAny (model prog w) A (.builtin "set.update.loop" ⟨[.ref S, .ref I], []⟩) R s := by
 have nw : S ∉ wr:=fun z=>hSf (W.sub _ z)
 have sub : ∀ b ∈ wr,b ∈ S :: wr:=fun b z=>List.mem_cons_of_mem _ z
 intro k
 induction k with
 | zero =>
  intro i s hk hi st hS fin
  obtain rfl : i = n:=by omega
  refine codeAny_builtin PyProof.Rows.F.entry_set_update_loop ?_
  rw [Around.under_plainId PyProof.Rows.F.plain_set_update_loop _]
  show wpAny _ A.in1 (pyNext (.ref I) >>= _) _ _ s
  refine wpAny_bind (W.done s _ _ st fun s' mv=>?_)
  show wpAny _ A.in1 (ret Value.none) _ _ s'
  obtain ⟨o,es,ep,t,ho,more⟩:=hS
  exact wpAny_pure (fin s' (mv.mono sub) ⟨o,es,ep,t,mv.heap S _ nw ho,more⟩)
 | succ k ih =>
  intro i s hk hi st hS fin
  have lt : i < n:=by omega
  refine codeAny_builtin PyProof.Rows.F.entry_set_update_loop ?_
  rw [Around.under_plainId PyProof.Rows.F.plain_set_update_loop _]
  show wpAny _ A.in1 (pyNext (.ref I) >>= _) _ _ s
  refine wpAny_bind (W.item i s _ _ lt st fun v s' pv st' mv=>?_)
  obtain ⟨kv,sv⟩:=hval i v pv
  have hS1 : s'.heap.SetOf knd S (fun x=>decide (x ∈ metK val i)) (metK val i).length:=by
   obtain ⟨o,es,ep,tb,ho,more⟩:=hS
   exact ⟨o,es,ep,tb,mv.heap S _ nw ho,more⟩
  show wpAny _ A.in1 (holding [v] (setAdd S v) >>= _) _ _ s'
  refine wpAny_bind (wpAny_holding ?_)
  unfold setAdd
  refine wpAny_holding (wpAny_bind (knd.pyHash (k:=val i) kv ?_))
  have room : (metK val i).length + 1 < scanBound:=by have:=metK_le val i; omega
  refine wpAny_setAddHashed_of (knd:=knd) (s:={ s' with toks:=s'.toks + 1 }) kv sv hS1 room fun h' sb hS2=>?_
  have hS3 : h'.SetOf knd S (fun x=>decide (x ∈ metK val (i + 1))) (metK val (i + 1)).length:=by
   refine setOf_as hS2 (fun x=>?_) ?_
   ·show (decide (x ∈ metK val i) || decide (x = val i)) = decide (x ∈ put1 (metK val i) (val i))
    unfold put1
    split
    ·rename_i hm
     by_cases e : x = val i
     ·subst e; simp [hm]
     ·simp [e]
    ·simp
   ·show (if decide (val i ∈ metK val i) = true then _ else _) = (put1 (metK val i) (val i)).length
    unfold put1
    by_cases hm : val i ∈ metK val i
    ·rw [if_pos hm,if_pos (decide_eq_true hm)]
    ·rw [if_neg hm,if_neg (by simp [hm]),List.length_append]; rfl
  refine wpAny_pure ⟨plainId_quiet PyProof.Rows.F.plain_set_update_loop _,ih (i + 1) _ (by omega) lt (W.frame _ s' _ _ st' (Nat.le_succ _) fun b hb o e=>?_) hS3 fun s2 mv2 hS4=>?_⟩
  ·rw [sb.2 b (fun z : b = S=>hSf (z ▸ hb))]; exact e
  ·refine fin s2 (Moved.trans W.gtrans ((mv.mono sub).then_heap (Nat.le_succ _) fun b o hb e=>?_) mv2) hS4
   rw [sb.2 b (fun z : b = S=>hb (z ▸ List.mem_cons_self))]; exact e
end
section
variable {prog : Program} {w : World} {A : Around} {E : Value→Shared→Prop} {s : Shared} {κ : Type} [DecidableEq κ] {knd : PySem.KeyKind prog w κ}
set_option maxHeartbeats 3200000 in
theorem set_from {l : Addr} {items : Array Value} {val : Nat→κ} {Q : Value→Shared→Prop} (hh : A.handled = none) (hl : s.heap.IsList l items) (hval : ∀ i v,items[i]? = some v→knd.is (val i) v = true∧v.scannable = true) (hb : items.size + 1 < scanBound)
  (h : ∀ (h' : Heap) (tk : Nat),h'.SetOf knd s.heap.objs.size (fun x=>decide (x ∈ metK val items.size)) (metK val items.size).length→(∀ b o,b < s.heap.objs.size→s.heap.get? b = some o→h'.get? b = some o) →
   Q (.ref s.heap.objs.size) { s with heap := h', toks := tk }) : wpAny (model prog w) A (call (.type "set") [.ref l]) Q E s := by
 obtain ⟨c,tl,hmro⟩:=PySem.F.called_set.mro
 have hmade:=PySem.F.called_set.made
 have hsub:=PySem.F.called_set.sub
 refine wpAny_call (codeAny_of_tree ?_)
 show wpAny _ _ (callAny (.type "set") _) _ _ _
 refine wpAny_pure ⟨Code.quiet_builtin _ (by decide +kernel),codeAny_builtin PySem.F.entry_type_call ?_⟩
 rw [Around.under_plain (weight_type_call_type "set" [.ref l] []) rfl]
 have g1:=PySem.F.called_set.notType
 have g2:=PySem.F.called_set.canCreate
 have g3:=PySem.F.typeCall_set_1 (.ref l)
 repeat (any_goals (first | assumption | wp_step))
 refine codeAny_mono (code_set_new_1 (.ref l) (E:=E) (Q₁:=fun obj s₁=>∃ led : Bool,obj = .ref s.heap.objs.size∧s₁ = { s with heap:=s.heap.push (setO led) }) fun led=>⟨led,rfl,rfl⟩) fun r s₁ hr=>?_
 cases r with
 | error e=>exact hr
 | ok fl =>
  cases fl with
  | ret obj =>
   obtain ⟨led,rfl,rfl⟩:=hr
   have at0 : (s.heap.push (setO led)).get? s.heap.objs.size = some (setO led):=Heap.get?_push_size _ rfl
   have hT : Shared.TypeIs { s with heap := s.heap.push (setO led) } (.ref s.heap.objs.size) "set" := ⟨_, at0, rfl⟩
   have g4:=PySem.F.called_set.init.lookup
   have g5:=PySem.F.called_set.init.bind (.ref s.heap.objs.size)
   repeat (any_goals (first | assumption | wp_step))
   refine codeAny_mono (codeAny_call_builtin (R:=wants (fun r s₂=>r = .none∧∃ h' tk,s₂ = { s with heap:=h',toks:=tk }∧h'.SetOf knd s.heap.objs.size (fun x=>decide (x ∈ metK val items.size)) (metK val items.size).length ∧
     (∀ b o,b < s.heap.objs.size→s.heap.get? b = some o→h'.get? b = some o)) E) PySem.F.called_set.init.plain PySem.F.entry_set_init (check_set_init_1 hT ?_)) fun r₂ s₂ hr₂=>?_
   ·obtain ⟨⟨ocls,odict,odata,oslots⟩,hol,hcl,nl,hdl⟩:=hl
    simp only at hcl hdl
    subst hcl; subst hdl
    have hol' : (s.heap.push (setO led)).get? l = some { cls := .type "list", dict := odict, data := .seq items nl, slots := oslots } := Heap.get?_push_of_some _ hol
    have k1:=PySem.F.sub_list_set
    have k2:=PySem.F.sub_list_frozenset
    have k3 : (Value.type "list" == Value.type "dict") = false := by decide
    have hl1 : (s.heap.push (setO led)).IsList l items:=⟨_,hol',rfl,nl,rfl⟩
    unfold Builtin.«set.__init__» noKeywords Builtin.Frozenset.updateFrom
    generalize hPI : pyIter = PI
    wp_walk
    subst hPI
    refine wpAny_pyIter_list hl1 (wpAny_bind (wpAny_runValue ?_))
    have ll : l < s.heap.objs.size:=Heap.lt_size hol
    have h3 : A.in1.in1.in1.handled = none:=by simp [hh]
    have nI : l ≠ (s.heap.push (setO led)).objs.size:=by
     rw [Heap.size_push]
     exact Nat.ne_of_lt (Nat.lt_succ_of_lt ll)
    have nS : s.heap.objs.size ∉ [(s.heap.push (setO led)).objs.size,l]:=by
     rw [Heap.size_push,List.mem_cons,List.mem_singleton,not_or]
     exact ⟨Nat.ne_of_lt (Nat.lt_succ_self _),Nat.ne_of_gt ll⟩
    refine set_loop (knd:=knd) ((Walks.list h3 _ l nI items).toS) s.heap.objs.size nS val hval hb (items.size - 0) 0 _ (by omega) (Nat.zero_le _) ⟨⟨_,Heap.get?_push_size _ rfl,rfl,rfl⟩,(hl1.push _)⟩ ?hS0 ?hR
    case hS0 =>
     have at1 : ((s.heap.push (setO led)).push { cls := .type "list_iterator", data := .fields #[.ref l, .int 0 0] }).get? s.heap.objs.size = some (setO led) := Heap.get?_push_of_some _ at0
     exact setOf_as ((PyProof.Rows.setObjOf_fresh (knd:=knd) led).setOf at1 (by unfold scanBound; omega)) (fun _=>by simp [metK]) rfl
    case hR =>
     intro s' mv hS'
     obtain ⟨h',g',d',tk',os'⟩:=s'
     obtain rfl : g' = s.gens:=mv.gens
     obtain rfl : d' = s.drawn:=mv.drawn
     obtain rfl : os' = s.os:=mv.os
     show wpAny _ _ _ _ _ _
     refine wpAny_pure ?_
     show wpAny _ _ (ret Value.none) _ _ _
     refine wpAny_pure ⟨rfl,h',tk',rfl,hS',fun b o hb e=>mv.heap b o ?_ (Heap.get?_push_of_some _ (Heap.get?_push_of_some _ e))⟩
     rw [List.mem_cons,List.mem_singleton,Heap.size_push,not_or]
     exact ⟨Nat.ne_of_lt hb,Nat.ne_of_lt (Nat.lt_succ_of_lt hb)⟩
   ·cases r₂ with
    | error e=>exact hr₂
    | ok fl₂ =>
     cases fl₂ with
     | ret r =>
      obtain ⟨rfl,h',tk,rfl,hS',hk'⟩:=hr₂
      repeat (any_goals (first | assumption | wp_step))
      exact h _ _ hS' hk'
     | _=>exact hr₂.elim
  | _=>exact hr.elim
end
end L2
namespace L2
open PySem PySem.Spec PyProof.Rows
def setHO (P : Program) (w : World) (p : Addr) (n : Nat) : HO:=.ext fun h=>∃ S,h.SetOf (strKind P w) p S n
def metS (ys : List Str) : Nat:=(metK (fun i=>ys.getD i Str.empty) ys.length).length
theorem metS_all {ys : List Str} (h : ys.Nodup) : metS ys = ys.length:=by
 refine metK_all _ _ fun i j hi hj e=>?_
 simp only [List.getD_eq_getElem?_getD,List.getElem?_eq_getElem hi,List.getElem?_eq_getElem hj,Option.getD_some] at e
 exact (List.getElem_inj h).mp e
section
variable {X : Cx}
theorem call_set_strs (hc : X.calm = true) : CallR X (.type "set") (fun xs H Q => ∃ (a : Addr) (ys : List Str), xs = [.ref a] ∧ SqL X.K H a (ys.map V.str) ∧ ys.length ≤ 70 ∧ ∀ p, H p = none → Q (.ref p) (upd H p (setHO X.prog X.w p (metS ys)))) := by
 intro pins s σ H xs us Q I r h
 obtain ⟨a,ys,e,hq,hl,q⟩:=h
 subst e
 obtain ⟨u,rfl,r1⟩:=vals1 r
 obtain rfl : u = Value.ref a:=r1
 obtain ⟨its,rv,p,hz⟩:=I.list hq
 have len:=rv.length
 rw [List.length_map] at len
 refine set_from (knd:=strKind X.prog X.w) (val:=fun i=>ys.getD i Str.empty) (I.ok.hd hc) p.isList (fun i v hv=>?_) (by rw [List.size_toArray,← len]; unfold scanBound; omega) fun h' tk hS hk=>?_
 ·have hv' : its[i]? = some v:=by simpa using hv
  have hi : i < ys.length:=by rw [len]; exact (List.getElem?_eq_some_iff.mp hv').1
  have hx : (ys.map V.str)[i]? = some (V.str (ys.getD i Str.empty)):=by
   rw [List.getElem?_map,List.getElem?_eq_getElem hi]
   simp [List.getD_eq_getElem?_getD,List.getElem?_eq_getElem hi]
  obtain ⟨u,hu,ru⟩:=rv.get hx
  rw [hv'] at hu
  cases hu
  obtain ⟨t,rfl⟩:=ru
  exact ⟨keyIs_str _ t,rfl⟩
 ·have es : its.toArray.size = ys.length:=by rw [List.size_toArray,len]
  rw [es] at hS
  have I1 : Inv X pins σ H { s with heap:=h',toks:=tk }:=I.kept fun b o e=>hk b o (Heap.lt_size e) e
  have I2:=I1.track (o:=setHO X.prog X.w s.heap.objs.size (metS ys)) (I.fpOk (Nat.le_refl _) (I.hok.fresh (Nat.le_refl _))) ⟨⟨_,hS⟩,(by obtain ⟨o,_,_,_,ho,_⟩:=hS; exact ⟨o,ho⟩),fun h1 h2 ⟨S,hS1⟩ k=>(by
   obtain ⟨o,es,ep,t,ho,more⟩:=hS1
   exact ⟨S,o,es,ep,t,k o ho,more⟩)⟩
  exact ⟨.ref s.heap.objs.size,_,I2,rfl,q _ (I.hok.fresh (Nat.le_refl _))⟩
theorem call_len_setS : CallR X (.builtin "len") (fun xs H Q => ∃ (p : Addr) (n : Nat), xs = [.ref p] ∧ H p = some (setHO X.prog X.w p n) ∧ Q (.int n) H) := by
 intro pins s σ H xs us Q I r h
 obtain ⟨p,n,e,hp,q⟩:=h
 subst e
 obtain ⟨u,rfl,r1⟩:=vals1 r
 obtain rfl : u = Value.ref p:=r1
 obtain ⟨⟨S,o,es,ep,t,ho,hex,hd,_,_,hb,hf,hn⟩,_⟩:=I.hok p _ hp
 have hb' : (es.size : Int) < 2 ^ 63:=by unfold scanBound at hb; omega
 refine call_len_set ho hex hd hf hb' ?_
 rw [hn]
 exact ⟨.int n,H,I.tok _,⟨_,rfl⟩,q⟩
def Itx (x : Str) : It:=⟨fun i _=>i < x.cps.size,fun i H v H'=>H' = H∧∃ c,x.cps[i]? = some c∧v = .str ⟨#[c]⟩,fun i _=>x.cps.size ≤ i⟩
theorem turn_str {P : Program} {w : World} {K : PySem.W.Frag} {tg : Expr} (it : Addr) (x : Str) (t : Tok) : Turn P w K tg (Itx x) [it] it (fun i h => i ≤ x.cps.size ∧ h.IsStrIter it "str_ascii_iterator" x t i) where
 mem:=by simp
 obj:=fun i h st b hb=>by
  have e : b = it:=by simpa using hb
  subst e
  obtain ⟨_,o,e,c,d⟩:=st
  exact ⟨o,e,fun v z=>by rw [d] at z; cases z⟩
 keep:=fun i h h' st k=>let ⟨l,o,e,r⟩:=st; ⟨l,o,k it (by simp) o e,r⟩
 item:=by
  intro X hP hw hK hc i pins s σ H E I hf st hg
  subst hP hw hK
  obtain ⟨f0,f1,f2,f3,f4,f5⟩:=hf it (by simp)
  have hi : i < x.cps.size:=hg
  refine (Walks.strAscii (prog:=X.prog) (w:=X.w) (I.ok.hd hc) it x t).item i s _ _ hi st.2 fun v h' tk hv st' kk=>?_
  obtain ⟨c,u,hcx,rfl⟩:=hv
  have I1 : Inv X pins σ H { s with heap:=h',toks:=tk }:=I.turned (fun b o hb e=>kk b o (by simpa using hb) e) f0 f1 f3 f4 f5
  obtain ⟨o,e,c',d⟩:=id st'
  exact ⟨_,rfl,go_of (s:={ s with heap:=h',toks:=tk }) e c' d (by decide) ⟨.str ⟨#[c]⟩,H,I1,⟨_,rfl⟩,⟨rfl,c,hcx,rfl⟩,⟨hi,st'⟩,fun b hb=>(hf b hb).1⟩⟩
 done:=by
  intro X hP hw hK hc i pins s σ H E I hf st hg
  subst hP hw hK
  obtain ⟨f0,f1,f2,f3,f4,f5⟩:=hf it (by simp)
  have hi : x.cps.size ≤ i:=hg
  obtain ⟨hle,st⟩:=st
  have e : i = x.cps.size:=by omega
  subst e
  exact (Walks.strAscii (prog:=X.prog) (w:=X.w) (I.ok.hd hc) it x t).done s _ _ st fun h' tk kk=>⟨rfl,I.turned (fun b o hb e=>kk b o (by simpa using hb) e) f0 f1 f3 f4 f5⟩
 self:=fun _ _ _ _ _ st h=>wpAny_pyIter_striter_ascii st.2 h
def iStr (tl : TE) : TI:=fun σ H R=>tl σ H fun v H1=>∃ x : Str,v = .str x∧x.cps.all (· < 128) = true∧R (Itx x) H1
theorem pi_str {tg l : Expr} {tl : TE} (hl : PE X l tl) : PI X tg l (iStr tl):=by
 intro pins s σ H R I h
 refine thn (hl pins s σ H _ I h) fun v s1 ⟨y,H1,I1,r1,q1⟩=>?_
 obtain ⟨x,e,ha,q⟩:=q1
 subst e
 obtain ⟨t,rfl⟩:=r1
 refine wpAny_pyIter_ascii ha ?_
 refine ⟨s1.heap.objs.size,[s1.heap.objs.size],_,_,H1,rfl,I1.kept (t':=s1.toks) fun b o e=>Heap.get?_push_of_some _ e,turn_str _ x t,⟨Nat.zero_le _,_,Heap.get?_push_size _ rfl,rfl,rfl⟩,fun b hb=>?_,q⟩
 have e : b = s1.heap.objs.size:=by simpa using hb
 subst e
 exact I1.fpOk (Nat.le_refl _) (I1.hok.fresh (Nat.le_refl _))
theorem comp_strP {g : Blk→TG} {tt : Blk→TT} {te : Blk→TE} {Z : List V→Hp→Prop} {σ0 : St} {H1 : Hp} {x : Str} (Pv : Nat→List V→St→Hp→Prop) (h0 : Pv 0 [] σ0 H1) (hl : ∀ i ys σ H,i ≤ x.cps.size→Pv i ys σ H→ys.length < sizeLine)
  (hs : ∀ B i c ys σ H,x.cps[i]? = some c→Pv i ys σ H→g B (.str ⟨#[c]⟩) σ H fun σ2 H3=>tt B σ2 H3 fun b H4=>if b = true then te B σ2 H4 fun y H5=>Pv (i + 1) (ys ++ [y]) σ2 H5 else Pv (i + 1) ys σ2 H4)
  (hd : ∀ ys σ H,Pv x.cps.size ys σ H→Z ys H) : ∃ W : Nat→Nat→List V→St→Hp→Prop,(∃ m,W 0 m [] σ0 H1)∧∀ B,CompW (Itx x) (g B) (tt B) (te B) W Z:=by
 refine ⟨fun i m ys σ H=>m = x.cps.size - i∧i ≤ x.cps.size∧Pv i ys σ H,⟨x.cps.size,by simp,Nat.zero_le _,h0⟩,?_⟩
 rintro B i m ys σ H ⟨rfl,hi,p⟩
 by_cases hlt : i < x.cps.size
 ·refine .inr ⟨hlt,hl i ys σ H hi p,Pv (i + 1),fun zs σ' H' p'=>⟨x.cps.size - (i + 1),by omega,rfl,hlt,p'⟩,fun v H' y=>?_⟩
  obtain ⟨e,c,hc,e2⟩:=y
  subst e e2
  exact hs B i c ys σ _ hc p
 ·have e : i = x.cps.size:=by omega
  subst e
  exact .inl ⟨Nat.le_refl _,hd ys σ H p⟩
theorem op_le_str : OpR X (compareOp .LtE) (fun x y H Q=>∃ i j,x = .str i∧y = .str j∧Q (.bl (!decide (j.cps.toList < i.cps.toList))) H):=by
 intro pins s σ H x y v u Q I rx ry h
 obtain ⟨i,j,rfl,rfl,q⟩:=h
 obtain ⟨t,rfl⟩:=rx
 obtain ⟨t',rfl⟩:=ry
 exact PySem.P.le_str ⟨.bl _,H,I,rfl,q⟩
end
def okSign (c : Nat) : Bool:=decide (97 ≤ c) && decide (c ≤ 122)
def okName (x : Str) : Bool:=decide (1 ≤ x.length) && decide (x.length ≤ 8) && x.cps.toList.all okSign
theorem le_one {c d : Nat} : (!decide (([d] : List Nat) < [c])) = decide (c ≤ d):=by
 have e : ([d] < [c]) ↔ d < c:=by
  constructor
  ·intro h
   cases h with
   | cons h=>cases h
   | rel h=>exact h
  ·exact fun h=>.rel h
 rw [Bool.eq_iff_iff,Bool.not_eq_true',decide_eq_false_iff_not,decide_eq_true_eq,e]
 omega
theorem okName_ascii {x : Str} (h : okName x = true) : x.cps.all (· < 128) = true:=by
 unfold okName at h
 rw [Bool.and_eq_true] at h
 rw [← Array.all_toList,List.all_eq_true]
 intro c hc
 have:=List.all_eq_true.mp h.2 c hc
 unfold okSign at this
 rw [Bool.and_eq_true,decide_eq_true_eq,decide_eq_true_eq] at this
 exact decide_eq_true (by omega)
end L2
namespace L2
open PySem PySem.Spec PyProof.Rows
structure NetV where
 bowls : List Str
 doors : List Str
 takes : List (List Int)
 gives : List (List Int)
 first : List Int
def okBag (n : Nat) (r : List Int) : Prop:=r.length = n∧∀ x ∈ r,0 ≤ x∧x ≤ 1000000000
structure NetV.Ok (N : NetV) : Prop where
 b1 : 1 ≤ N.bowls.length
 b6 : N.bowls.length ≤ 6
 d8 : N.doors.length ≤ 8
 bn : ∀ y ∈ N.bowls,okName y = true
 dn : ∀ y ∈ N.doors,okName y = true
 bd : N.bowls.Nodup
 dd : N.doors.Nodup
 tl : N.takes.length = N.doors.length
 gl : N.gives.length = N.doors.length
 tk : ∀ r ∈ N.takes,okBag N.bowls.length r
 gv : ∀ r ∈ N.gives,okBag N.bowls.length r
 fs : okBag N.bowls.length N.first
abbrev nf1 (b : V) : List (Str × V) := [("bowls", b)]
abbrev nf2 (b d : V) : List (Str × V) := [("bowls", b), ("doors", d)]
abbrev nf3 (b d t : V) : List (Str × V) := [("bowls", b), ("doors", d), ("takes", t)]
abbrev nf4 (b d t g : V) : List (Str × V) := [("bowls", b), ("doors", d), ("takes", t), ("gives", g)]
abbrev nf5 (b d t g f : V) : List (Str × V) := [("bowls", b), ("doors", d), ("takes", t), ("gives", g), ("first", f)]
abbrev netF (b d t g f : Addr) : List (Str × V):=nf5 (.ref b) (.ref d) (.ref t) (.ref g) (.ref f)
abbrev vstrs (ys : List Str) : List V:=ys.map V.str
structure NetIn (C : Addr) (H : Hp) (x dx b d t g f : Addr) (ts gs : List Addr) (N : NetV) : Prop where
 ob : H x = some (.ins C dx (netF b d t g f))
 hb : H b = some (.lst (vstrs N.bowls))
 hd : H d = some (.lst (vstrs N.doors))
 ht : H t = some (.lst (ts.map V.ref))
 tr : Rows H ts N.takes
 hg : H g = some (.lst (gs.map V.ref))
 gr : Rows H gs N.gives
 hf : H f = some (.lst (vints N.first))
theorem NetIn.same {C : Addr} {H H' : Hp} {x dx b d t g f : Addr} {ts gs : List Addr} {N : NetV} (n : NetIn C H x dx b d t g f ts gs N) (S : Same H H') : NetIn C H' x dx b d t g f ts gs N :=
 ⟨S _ _ n.ob,S _ _ n.hb,S _ _ n.hd,S _ _ n.ht,n.tr.same S,S _ _ n.hg,n.gr.same S,S _ _ n.hf⟩
theorem comp_copies {K : PySem.W.Frag} {K' : Blk→PySem.W.Frag} {Z : List V→Hp→Prop} {H1 : Hp} {a : Addr} {as : List Addr} {rs : List (List Int)} {τ : St} (hK : ∀ B,K' B = K) (ha : SqL K H1 a (as.map V.ref)) (R : Rows H1 as rs) (hn : rs.length ≤ 64)
  (hd : ∀ H2 bs,Same H1 H2→Rows H2 bs rs→(∀ b ∈ bs,H1 b = none)→Z (bs.map V.ref) H2) :
  ∃ W : Nat→Nat→List V→St→Hp→Prop,(∃ m,W 0 m [] (none :: τ) H1)∧∀ B : Blk,CompW (Itl K a) (gName 0) tTrue (tCB (rLstOf (K' B)) (tCons (tVar 0) tNil)) W Z:=by
 have hal:=R.length
 refine comp_listP (g:=fun _=>gName 0) (tt:=fun _=>tTrue) (K:=K) (a:=a) (xs:=as.map V.ref) (fun i zs σ H4=>∃ (o : Option V) (bs : List Addr),σ = o :: τ∧Same H1 H4∧zs = bs.map V.ref∧Rows H4 bs (rs.take i)∧bs.length = i∧∀ b ∈ bs,H1 b = none) ⟨none,[],rfl,Same.refl _,rfl,.nil,rfl,(fun b hb=>by cases hb)⟩ ?_ ?_ ?_
 ·rintro i zs σ H4 hi ⟨o,bs,rfl,S,rfl,RB,e,_⟩
  rw [List.length_map] at hi
  refine ⟨S.seq ha,?_⟩
  rw [List.length_map]
  exact small70 (by omega)
 ·rintro B i x zs σ H4 hx ⟨o,bs,rfl,S,rfl,RB,e,fr⟩
  obtain ⟨b,hb1,rfl⟩:=refs_get hx
  obtain ⟨r,hr1,hb⟩:=Paired.getL R hb1
  try dsimp only [gName,tTrue]
  rw [if_pos rfl]
  refine ⟨_,rfl,b,_,rfl,.inl (by rw [hK]; exact SqL.of (S _ _ hb)),fun q nq=>⟨_,bs ++ [q],rfl,S.upd nq,(vrefs_snoc _ _).symm,?_,(by rw [List.length_append,e]; rfl),fun c hc=>?_⟩⟩
  ·rw [List.take_add_one,hr1,Option.toList_some]
   exact (RB.same ((Same.refl H4).upd nq)).snoc upd_same
  ·rcases List.mem_append.mp hc with z | z
   ·exact fr c z
   ·rw [List.mem_singleton.mp z]; exact S.free nq
 ·rintro zs σ H4 ⟨o,bs,rfl,S,rfl,RB,e,fr⟩
  rw [List.length_map,hal,List.take_length] at RB
  exact hd H4 bs S RB fr
theorem all_map_sign (x : Str) : (x.cps.toList.map okSign).all id = x.cps.toList.all okSign:=by
 rw [List.all_map]
 rfl
end L2
namespace L2
open PySem PySem.Spec PyProof.Rows
section
variable {b d t g f : V}
theorem put_n2 : putF "doors" d (nf1 b) = nf2 b d := by
 show (if (("bowls" : Str) = "doors") then _ else (("bowls" : Str), b) :: putF "doors" d []) = _
 rw [if_neg (by decide +kernel)]
 rfl
theorem put_n3 : putF "takes" t (nf2 b d) = nf3 b d t := by
 show (if (("bowls" : Str) = "takes") then _ else (("bowls" : Str), b) :: (if (("doors" : Str) = "takes") then _ else (("doors" : Str), d) :: putF "takes" t [])) = _
 rw [if_neg (by decide +kernel),if_neg (by decide +kernel)]
 rfl
theorem put_n4 : putF "gives" g (nf3 b d t) = nf4 b d t g := by
 show (if (("bowls" : Str) = "gives") then _ else (("bowls" : Str), b) :: (if (("doors" : Str) = "gives") then _ else (("doors" : Str), d) :: (if (("takes" : Str) = "gives") then _ else (("takes" : Str), t) :: putF "gives" g []))) = _
 rw [if_neg (by decide +kernel),if_neg (by decide +kernel),if_neg (by decide +kernel)]
 rfl
theorem put_n5 : putF "first" f (nf4 b d t g) = nf5 b d t g f := by
 show (if (("bowls" : Str) = "first") then _ else (("bowls" : Str), b) :: (if (("doors" : Str) = "first") then _ else (("doors" : Str), d) :: (if (("takes" : Str) = "first") then _ else (("takes" : Str), t) :: (if (("gives" : Str) = "first") then _ else (("gives" : Str), g) :: putF "first" f [])))) = _
 rw [if_neg (by decide +kernel),if_neg (by decide +kernel),if_neg (by decide +kernel),if_neg (by decide +kernel)]
 rfl
end
def But (x : Addr) (H H' : Hp) : Prop:=∀ c u,H c = some u→c ≠ x→H' c = some u
theorem But.trans {x : Addr} {H H1 H2 : Hp} (a : But x H H1) (b : But x H1 H2) : But x H H2:=fun c u e n=>b c u (a c u e n) n
theorem Same.but {x : Addr} {H H' : Hp} (S : Same H H') : But x H H':=fun c u e _=>S c u e
theorem But.step {x q : Addr} {H : Hp} {o o' : HO} (hq : H q = none) : But x H (upd (upd H q o) x o'):=fun c u e n=>by
 rw [upd_ne n,upd_ne (ne_of_none e hq)]
 exact e
theorem But.seq {K : PySem.W.Frag} {x : Addr} {C dx : Addr} {fs : List (Str × V)} {H H' : Hp} {c : Addr} {zs : List V} (k : But x H H') (hx : H x = some (.ins C dx fs)) (h : SqL K H c zs) : SqL K H' c zs:=by
 rcases h with (h | ⟨o,h⟩) | h
 ·exact .inl (.inl (k _ _ h (ne_of h hx (by intro z; cases z))))
 ·exact .inl (.inr ⟨o,k _ _ h (ne_of h hx (by intro z; cases z))⟩)
 ·exact .inr h
theorem But.rows {x : Addr} {C dx : Addr} {fs : List (Str × V)} {H H' : Hp} {as : List Addr} {rs : List (List Int)} (k : But x H H') (hx : H x = some (.ins C dx fs)) (R : Rows H as rs) : Rows H' as rs :=
 Paired.mapP R fun a r e=>k _ _ e (ne_of e hx (by intro z; cases z))
theorem But.free {x : Addr} {C dx : Addr} {fs : List (Str × V)} {H H' : Hp} {q : Addr} {o : HO} (k : But x H H') (hx : H' x = some o) (hq : H' q = none) : H q = none:=by
 cases e : H q with
 | none=>rfl
 | some u =>
  have n : q ≠ x:=Ne.symm (ne_of_none hx hq)
  rw [k q u e n] at hq
  cases hq
end L2
namespace L2
open PySem PySem.Spec PyProof.Rows PySem.Builtin.Str
section
variable {X : Cx}
theorem strs_val : ∀ {ys : List Str} {its : List Value},Vals (vstrs ys) its→∃ l : List (Str × Tok),its = strValues l∧l.map (·.1) = ys
 | [],_,.nil=>⟨[],rfl,rfl⟩
 | y :: ys,_,.cons r rs=>by
  obtain ⟨t,rfl⟩:=r
  obtain ⟨l,rfl,e⟩:=strs_val (ys:=ys) rs
  exact ⟨(y,t) :: l,rfl,by rw [List.map_cons,e]⟩
inductive rJoin (K : PySem.W.Frag) (x : V) (vs : List V) (H : Hp) (Q : VK) : Prop
 | mk : ∀ (sep : Str) (a : Addr) (ys : List Str) (B : Nat),(x = .str sep)→(vs = [.ref a])→(SqL K H a (vstrs ys))→((∀ y ∈ ys,y.length ≤ B))→(ys.length * B + ys.length * sep.length ≤ 16777216)→(Q (.str (Str.join sep ys)) H)→rJoin K x vs H Q
theorem join_le {sep : Str} {B : Nat} : ∀ {ys : List Str},(∀ y ∈ ys,y.length ≤ B)→(Str.join sep ys).length ≤ ys.length * B + ys.length * sep.length
 | [],_=>Nat.zero_le _
 | [y],h=>by
  have:=h y (List.mem_singleton.mpr rfl)
  show y.length ≤ 1 * B + 1 * sep.length
  omega
 | y :: z :: r,h=>by
  have h1:=h y (List.mem_cons_self ..)
  have h2:=join_le (sep:=sep) (B:=B) (ys:=z :: r) fun w hw=>h w (List.mem_cons_of_mem _ hw)
  show (y ++ sep ++ Str.join sep (z :: r)).length ≤ _
  rw [Str.length_append,Str.length_append,List.length_cons,Nat.succ_mul,Nat.succ_mul]
  omega
theorem mt_join : MtM X "str.join" (rJoin X.K) := by
 intro pins s σ H x vs v us Q I rx rv h
 obtain ⟨sep,a,ys,B,rfl,rfl,hy,hB,hz,q⟩:=h
 obtain ⟨t,rfl⟩:=rx
 obtain ⟨u,rfl,ru⟩:=rv.one
 cases ru
 obtain ⟨its,r,pl,hlen⟩:=I.list hy
 obtain ⟨l,rfl,rfl⟩:=strs_val r
 have hf:=StrLaws.joinFits (sep:=sep) hB hz
 refine call_meets F.slot_str_join (typeIs_str _ _ _) F.entry_str_join (F.args_str_join_2 _ _) (meets_str_join_list sep t a l hf) ⟨pl.isList,?_⟩
 have fin : ∀ (tk : Tok) (n : Nat) (z : Str),z = Str.join sep (l.map (·.1))→EP X pins σ Q (.str z tk) { s with toks:=n }:=fun tk n z e=>⟨.str (Str.join sep (l.map (·.1))),H,I.tok _,⟨tk,by rw [e]⟩,q⟩
 have many : ∀ l' : List (Str × Tok),l' = l→(Made.str (glued sep (l'.map (·.1)))).post (fun v s'=>wants (EP X pins σ Q) X.xe (.ok (.ret v)) s') s:=fun l' e=>by
  subst e
  refine ⟨?_,fin _ _ _ (StrLaws.glued_eq_join _ _)⟩
  rw [StrLaws.glued_eq_join]
  have hl:=sizeLine_eq
  exact Nat.le_trans (join_le hB) (by omega)
 match l,fin,many with
 | [],_,many=>exact many [] rfl
 | [p],fin,_=>exact fin p.2 s.toks p.1 rfl
 | p :: p' :: r,_,many=>exact many (p :: p' :: r) rfl
end
def st (l : List Nat) : Str:=⟨l.toArray⟩
abbrev alph : Str := Str.ofString "abcdefghijklmnopqrstuvwxyz"
theorem st_list (l : List Nat) : (st l).cps.toList = l:=rfl
theorem st_inj {l m : List Nat} (h : st l = st m) : l = m:=by
 have:=congrArg (fun x : Str=>x.cps.toList) h
 exact this
theorem st_len (l : List Nat) : (st l).length = l.length:=by simp [st,Str.length]
theorem okName_st {l : List Nat} (h1 : 1 ≤ l.length) (h2 : l.length ≤ 8) (h3 : ∀ c ∈ l,97 ≤ c∧c ≤ 122) : okName (st l) = true:=by
 unfold okName
 rw [st_len,st_list,Bool.and_eq_true,Bool.and_eq_true,decide_eq_true_eq,decide_eq_true_eq,List.all_eq_true]
 refine ⟨⟨h1,h2⟩,fun c hc=>?_⟩
 obtain ⟨a,b⟩:=h3 c hc
 unfold okSign
 simp [a,b]
theorem alph_all : ∀ i : Fin 26,alph.cps.toList[i.val]? = some (97 + i.val):=by decide +kernel
theorem alph_len : alph.length = 26:=by decide +kernel
theorem alph_at {i : Int} (h0 : 0 ≤ i) (h1 : i < 26) : atI alph.cps.toList i = some (97 + i.toNat):=by
 obtain ⟨j,rfl⟩:=Int.eq_ofNat_of_zero_le h0
 exact atI_nat (alph_all ⟨j,by omega⟩)
theorem st_append (a b : List Nat) : st a ++ st b = st (a ++ b):=by
 refine Str.ext' (Array.toList_inj.mp ?_)
 simp [Str.cps_append,st]
theorem inV_strs {x : Str} {ys : List Str} : inV (.str x) (vstrs ys) = decide (x ∈ ys):=by
 unfold inV
 rw [List.any_map,Bool.eq_iff_iff,List.any_eq_true,decide_eq_true_eq]
 constructor
 ·rintro ⟨y,hy,e⟩
  have : y = x:=by simpa [eqV] using e
  exact this ▸ hy
 ·intro h
  exact ⟨x,h,by simp [eqV]⟩
theorem flat_strs (ys : List Str) : (vstrs ys).all flatV = true:=by
 rw [List.all_eq_true]
 intro v hv
 obtain ⟨y,_,rfl⟩:=List.mem_map.mp hv
 rfl
end L2
namespace L2
open PySem PySem.Spec PyProof.Rows
theorem nodup_range_map {α : Type} {f : Nat→α} {n : Nat} (h : ∀ i j,i < n→j < n→f i = f j→i = j) : ((List.range n).map f).Nodup:=by
 refine List.pairwise_map.mpr (List.Pairwise.imp_of_mem ?_ List.nodup_range)
 intro a b ha hb hne e
 exact hne (h a b (List.mem_range.mp ha) (List.mem_range.mp hb) e)
end L2
namespace L2
open PySem PySem.Spec PyProof.Rows
structure InsOk (K : PySem.W.Frag) (C : Addr) : Prop where
 ha : PySem.W.findIn K (.ref C) "__class__" = some (some (.builtin "object.__class__"))
 hn : PySem.W.specialIn K (.builtin "object.__class__") "__get__" = some (some (.builtin "getset_descriptor.__get__"))
 htk : PySem.W.takesIn K (.builtin "object.__class__") = some true
 hm : PySem.W.mroIn K C (.type "object") = some true
theorem InsOk.ty {K : PySem.W.Frag} {C : Addr} (i : InsOk K C) (cl : Cls K C) {H : Hp} {a dx : Addr} {fs : List (Str × V)} (e : H a = some (.ins C dx fs)) : TyOf K H (.ref a) (.ref C):=.ins e cl i.ha i.hn i.htk i.hm
structure PartsIn (H : Hp) (p b d t g f : Addr) (ts gs : List Addr) (N : NetV) : Prop where
 top : H p = some (.lst [.ref b,.ref d,.ref t,.ref g,.ref f])
 hb : H b = some (.lst (vstrs N.bowls))
 hd : H d = some (.lst (vstrs N.doors))
 ht : H t = some (.lst (ts.map V.ref))
 tr : Rows H ts N.takes
 hg : H g = some (.lst (gs.map V.ref))
 gr : Rows H gs N.gives
 hf : H f = some (.lst (vints N.first))
theorem PartsIn.same {H H' : Hp} {p b d t g f : Addr} {ts gs : List Addr} {N : NetV} (n : PartsIn H p b d t g f ts gs N) (S : Same H H') : PartsIn H' p b d t g f ts gs N :=
 ⟨S _ _ n.top,S _ _ n.hb,S _ _ n.hd,S _ _ n.ht,n.tr.same S,S _ _ n.hg,n.gr.same S,S _ _ n.hf⟩
theorem Rows.get : ∀ {H : Hp} {as : List Addr} {rs : List (List Int)} {i : Nat},Rows H as rs→(h : i < rs.length)→∃ a,as[i]? = some a∧H a = some (.lst (vints (rs[i])))
 | _,_,_,0,.cons r _,_=>⟨_,rfl,r⟩
 | H,_,_,i + 1,.cons _ rs,h=>Rows.get (H:=H) (i:=i) rs (Nat.lt_of_succ_lt_succ h)
theorem strs_at {ys : List Str} {k : Nat} (h : k < ys.length) : atI (vstrs ys) (k : Int) = some (V.str (ys[k])):=by
 refine atI_nat ?_
 rw [List.getElem?_map,List.getElem?_eq_getElem h]
 rfl
theorem getD_at {xs : List Int} {k : Nat} (h : k < xs.length) : xs.getD k 0 = xs[k]:=by
 rw [List.getD_eq_getElem?_getD,List.getElem?_eq_getElem h]
 rfl
end L2
namespace L2
open PySem PySem.Spec PyProof.Rows
structure CompScopeC (osc : Scope) (N : List Str) (scope : Scope) (N' : List Str) (nt : Nat) (caps : List Nat) : Prop where
 kind : scope.kind = .function
 cells : ∀ y ∈ scope.names,y.2 = .cell→scope.names.lookup y.1 = some .cell
 names : ∀ y ∈ scope.names,y.2 = .local→scope.names.lookup y.1 = some .local
 frees : ∀ y ∈ scope.names,y.2 = .free→osc.names.lookup y.1 = some .cell ∨ osc.names.lookup y.1 = some .free
 capt : caps.map (fun j=>N[j]?) = (N'.drop nt).map some
 capf : ∀ x ∈ N'.drop nt,scope.names.lookup x = some .free
 len : nt ≤ N'.length
 nd : N'.Nodup
def compOkC (osc : Scope) (N : List Str) (scope : Scope) (N' : List Str) (nt : Nat) (caps : List Nat) : Bool :=
 decide (scope.kind = .function) && decide (∀ y ∈ scope.names,y.2 = .cell→scope.names.lookup y.1 = some .cell) && decide (∀ y ∈ scope.names,y.2 = .local→scope.names.lookup y.1 = some .local) &&
 decide (∀ y ∈ scope.names,y.2 = .free→osc.names.lookup y.1 = some .cell ∨ osc.names.lookup y.1 = some .free) && decide (caps.map (fun j=>N[j]?) = (N'.drop nt).map some) &&
 decide (∀ x ∈ N'.drop nt,scope.names.lookup x = some .free) && decide (nt ≤ N'.length) && decide N'.Nodup
theorem CompScopeC.of {osc : Scope} {N : List Str} {scope : Scope} {N' : List Str} {nt : Nat} {caps : List Nat} (h : compOkC osc N scope N' nt caps = true) : CompScopeC osc N scope N' nt caps:=by
 unfold compOkC at h
 simp only [Bool.and_eq_true,decide_eq_true_eq] at h
 obtain ⟨⟨⟨⟨⟨⟨⟨a,b⟩,c⟩,d⟩,e⟩,f⟩,g⟩,i⟩:=h
 exact ⟨a,b,c,d,e,f,g,i⟩
theorem cf_app : ∀ (names : List (Str × NameKind)) (n : Nat) (acc : List (Str × Addr)),cellsFrom n names acc = cellsFrom n names [] ++ acc
 | [],_,_=>rfl
 | (x,k) :: r,n,acc=>by
  unfold cellsFrom
  split
  ·rw [cf_app r (n + 1) ((x,n) :: acc),cf_app r (n + 1) [(x,n)],List.append_assoc]
   rfl
  ·exact cf_app r n acc
theorem cf_mem : ∀ (names : List (Str × NameKind)) (n : Nat) {x : Str} {c : Addr},(x,c) ∈ cellsFrom n names []→n ≤ c∧(x,NameKind.cell) ∈ names
 | [],_,_,_,h=>nomatch h
 | (y,k) :: r,n,x,c,h=>by
  unfold cellsFrom at h
  split at h
  ·rename_i hk
   rw [cf_app] at h
   rcases List.mem_append.mp h with q | q
   ·obtain ⟨a,b⟩:=cf_mem r (n + 1) q
    exact ⟨by omega,List.mem_cons_of_mem _ b⟩
   ·have e : (x,c) = (y,n):=List.mem_singleton.mp q
    cases e
    rw [show k = NameKind.cell from eq_of_beq hk]
    exact ⟨Nat.le_refl _,List.mem_cons_self ..⟩
  ·obtain ⟨a,b⟩:=cf_mem r n h
   exact ⟨a,List.mem_cons_of_mem _ b⟩
abbrev cellsC (X : Cx) (scope : Scope) (C : Addr) : List (Str × Addr):=cellsFrom (C + 1) scope.names (closL X.env scope.names [])
theorem cells_sub {X : Cx} {scope : Scope} {C : Addr} {x : Str} {c : Addr} (h : (cellsC X scope C).lookup x = some c) : X.env.cells.lookup x = some c ∨ (C + 1 ≤ c∧(cellsFrom (C + 1) scope.names []).lookup x = some c):=by
 unfold cellsC at h
 rw [cf_app,List.lookup_append] at h
 cases q : (cellsFrom (C + 1) scope.names []).lookup x with
 | none =>
  rw [q] at h
  exact .inl (lookup_of_all closL_sub0 h)
 | some c' =>
  rw [q] at h
  cases (show c' = c from Option.some.inj h)
  exact .inr ⟨(cf_mem _ _ (PySem.mem_of_lookup q)).1,rfl⟩
theorem cells_cl {X : Cx} {scope : Scope} {C : Addr} {x : Str} {c : Addr} (h : (x,c) ∈ closL X.env scope.names []) : (x,c) ∈ cellsC X scope C:=by
 unfold cellsC
 rw [cf_app]
 exact List.mem_append_right _ h
def cxCompC (X : Cx) (N' : List Str) (scope : Scope) (B : Blk) : Cx :=
 { X with N:=N',s₀:=B.s,H₀:=B.H,env:=compEnvC scope (cellsC X scope B.C) B.C X.env,outer:=X.stack,ex:=B.fp,fn:=fun x=>decide (scope.names.lookup x = some .cell),xe:=fun _ _=>False }
theorem wpAny_compEnv {M : Model} {A : Around} {E : Value→Shared→Prop} {s : Shared} {scope : Scope} {globals : Addr} {cl : List (Str × Addr)} {qual : Str} {env : Env} {Q : Env→Shared→Prop}
  (hQ : ∀ h',h'.Ns s.heap.objs.size (fun _=>none)→(∀ b o,s.heap.get? b = some o→h'.get? b = some o)→(∀ x c,(x,c) ∈ cellsFrom (s.heap.objs.size + 1) scope.names []→h'.IsCell c none) →
   (cellsFrom (s.heap.objs.size + 1) scope.names []).Pairwise (fun x y=>x.2 ≠ y.2) →
   Q { scope:=scope,locals:=s.heap.objs.size,globals:=globals,cells:=cellsFrom (s.heap.objs.size + 1) scope.names cl,qual:=qual,func:=none,code:=env.code,frame:=env.frame,builtins:=env.builtins } { s with heap:=h' }) :
  wpAny M A (newFunctionEnv scope globals cl [] qual none .none (some env)) Q E s:=by
 simp only [newFunctionEnv,Option.isSome_some,if_true]
 refine wpAny_bind (wpAny_alloc ?_)
 refine wpAny_bind (wpAny_layCells _ (fun name kind cells=>by cases hkc : kind == NameKind.cell <;> simp [hkc]) _ _ _ _ ?_)
 have ok := cellsFrom_ok scope.names (s.heap.push { cls := .type "dict", data := .dict #[] }) (s.heap.objs.size + 1) [] ⟨fun _ _ hm => (nomatch hm), List.Pairwise.nil⟩ (by rw [Heap.size_push]; exact Nat.le_refl _)
 rw [Heap.size_push] at ok
 rw [show ({ s with heap := s.heap.push { cls := .type "dict", data := .dict #[] } } : Shared).heap.objs.size = s.heap.objs.size + 1 from Heap.size_push ..]
 refine wpAny_bind (wpAny_pure (wpAny_pure ?_))
 exact hQ _ ((Heap.Ns.new s.heap (.type "dict")).keeps (pushCells_keeps _ _)) (fun b o e => pushCells_keeps _ _ b o (Heap.get?_push_of_some _ e)) (fun x c h => (ok.empty x c h).1) ok.apart
section
variable {X : Cx} {pins : List (Addr × Obj)} {σ : St} {H : Hp} {s₂ : Shared} {scope : Scope} {N' : List Str} {nt : Nat} {caps : List Nat} {fp : List Addr} {C : Addr}
theorem comp_okC (I : Inv X pins σ H s₂) (S : CompScopeC X.env.scope X.N scope N' nt caps) (f2 : ∀ b ∈ fp,FpOk X pins H b) (hlt : ∀ b ∈ fp,b < s₂.heap.objs.size) (hC : s₂.heap.objs.size ≤ C) (hap : (cellsFrom (C + 1) scope.names []).Pairwise (fun x y=>x.2 ≠ y.2)) :
  (cxCompC X N' scope ⟨C,s₂,H,fp⟩).Ok where
 mod:=I.ok.mod
 kind:=S.kind
 glob:=I.ok.glob
 blt:=I.ok.blt
 above:=hC
 inj:=fun x y c h1 h2=>by
  have lt : ∀ {z : Str},X.env.cells.lookup z = some c→c < s₂.heap.objs.size:=fun e=>let ⟨_,q⟩:=I.cell _ c e; q.lt
  rcases cells_sub h1 with q1 | ⟨q1,p1⟩ <;> rcases cells_sub h2 with q2 | ⟨q2,p2⟩
  ·exact I.ok.inj x y c q1 q2
  ·exact absurd (Nat.lt_of_lt_of_le (lt q1) hC) (Nat.not_lt.mpr (Nat.le_of_succ_le q2))
  ·exact absurd (Nat.lt_of_lt_of_le (lt q2) hC) (Nat.not_lt.mpr (Nat.le_of_succ_le q1))
  ·exact PySem.name_of_addr hap (PySem.mem_of_lookup p1) (PySem.mem_of_lookup p2)
 has:=fun x hx=>by
  have hm : ∃ k,(k = NameKind.cell ∨ k = NameKind.free)∧(x,k) ∈ (relabel scope X.env).names:=by
   rcases hx with e | e
   ·exact ⟨_,.inl rfl,PySem.mem_of_lookup e⟩
   ·exact ⟨_,.inr rfl,PySem.mem_of_lookup e⟩
  obtain ⟨k,hk,hm⟩:=hm
  obtain ⟨k0,h0,e⟩:=mem_relabel hm
  have hf : k0 = .free ∨ k0 = .cell:=by
   rcases e with e | ⟨_,e⟩
   ·rcases hk with z | z
    ·exact .inr (e.symm.trans z)
    ·exact .inl (e.symm.trans z)
   ·exact .inl e
  rcases hf with hf | hf
  ·subst hf
   obtain ⟨c,hc⟩:=I.ok.has x (S.frees _ h0 rfl)
   exact lookup_of_mem (cells_cl (closL_mem hc h0))
  ·subst hf
   exact Option.isSome_iff_exists.mp (PySem.W.cellsFrom_some scope.names (C + 1) _ (.inl (S.cells _ h0 rfl)))
 cab:=fun x c hf h=>by
  have hx : scope.names.lookup x = some .cell:=of_decide_eq_true hf
  have h' : (cellsC X scope C).lookup x = some c:=h
  unfold cellsC at h'
  rw [cf_app,List.lookup_append] at h'
  obtain ⟨c',q⟩:=Option.isSome_iff_exists.mp (PySem.W.cellsFrom_some scope.names (C + 1) [] (.inl hx))
  rw [q] at h'
  cases (show c' = c from Option.some.inj h')
  have:=(cf_mem _ _ (PySem.mem_of_lookup q)).1
  exact Nat.le_trans hC (Nat.le_of_succ_le this)
 hd:=I.ok.hd
 frames:=I.ok.frames
 stk:=.inl rfl
 exf:=fun b hb=>⟨Nat.ne_of_lt (Nat.lt_of_lt_of_le (hlt b hb) hC),fun x c e=>by
  rcases cells_sub e with q | ⟨q,_⟩
  ·exact (f2 b hb).2.2.2.2.1 x c q
  ·exact Nat.ne_of_gt (Nat.lt_of_lt_of_le (Nat.lt_of_lt_of_le (hlt b hb) hC) (Nat.le_of_succ_le q))⟩
 bs:=I.bs
 bsz:=Nat.le_trans I.ok.bsz I.sz
 noex:=fun b o e hb=>by
  rcases (f2 b hb).2.2.2.1 with z | z
  ·exact I.ok.noex b o e z
  ·exact absurd (Nat.lt_of_lt_of_le (Heap.lt_size e) (Nat.le_trans I.ok.bsz z)) (Nat.lt_irrefl _)
 exfs:=fun b hb hf=>by
  rcases List.mem_cons.mp (I.stkSub b hf) with e | e
  ·exact (f2 b hb).2.1 e
  ·exact (f2 b hb).2.2.1 e
 funs:=I.stack
 frf:=I.stkFree
theorem inv_compC {h₁ : Heap} {tk : Nat} {m0 : Str→Option Value} (I : Inv X pins σ H s₂) (S : CompScopeC X.env.scope X.N scope N' nt caps) (f2 : ∀ b ∈ fp,FpOk X pins H b) (hlt : ∀ b ∈ fp,b < s₂.heap.objs.size)
  (hC : s₂.heap.objs.size ≤ C) (hap : (cellsFrom (C + 1) scope.names []).Pairwise (fun x y=>x.2 ≠ y.2)) (hnew : ∀ x c,(x,c) ∈ cellsFrom (C + 1) scope.names []→h₁.IsCell c none) (hns : h₁.Ns C m0) (old : ∀ b o,s₂.heap.get? b = some o→h₁.get? b = some o) :
  Inv (cxCompC X N' scope ⟨C,s₂,H,fp⟩) pins (sgm nt caps σ) H { s₂ with heap:=h₁,toks:=tk }:=by
 have hl:=congrArg List.length S.capt
 rw [List.length_map,List.length_map,List.length_drop] at hl
 have sub : ∀ {x c},(closL X.env scope.names []).lookup x = some c→X.env.cells.lookup x = some c:=fun e=>lookup_of_all closL_sub0 e
 refine ⟨comp_okC I S f2 hlt hC hap,rfl,I.bare,Un.kept old,⟨m0,hns,fun i x v e1 e2 e3=>?_⟩,fun x c e=>?_,I.hok.fresh hC,fun x c e=>(by rcases cells_sub e with q | ⟨q,_⟩; exact I.freeC x c q; exact I.hok.fresh (Nat.le_trans hC (Nat.le_of_succ_le q))),fun p hp=>?_,I.hok.kept old,?_⟩
 ·have e1' : N'[i]? = some x:=e1
  have e2' : (List.replicate nt none ++ caps.map fun j=>(σ[j]?).getD none)[i]? = some (some v):=e2
  have hi : nt ≤ i:=by
   rcases Nat.lt_or_ge i nt with z | z
   ·rw [List.getElem?_append_left (by simpa using z),List.getElem?_replicate,if_pos z] at e2'
    cases e2'
   ·exact z
  rw [List.getElem?_append_right (by simpa using hi),List.length_replicate,List.getElem?_map] at e2'
  cases hj : caps[i - nt]? with
  | none=>rw [hj] at e2'; cases e2'
  | some j =>
   rw [hj] at e2'
   have e3' : (σ[j]?).getD none = some v:=Option.some.inj e2'
   have hσ : σ[j]? = some (some v):=by
    cases q : σ[j]? with
    | none=>rw [q] at e3'; cases e3'
    | some o=>rw [q] at e3'; have z : o = some v:=e3'; rw [z]
   have hd : (N'.drop nt)[i - nt]? = some x:=by rw [List.getElem?_drop,Nat.add_sub_cancel' hi]; exact e1'
   have hN : X.N[j]? = some x:=by
    have q:=congrArg (fun l=>l[i - nt]?) S.capt
    have q : (caps.map fun j=>X.N[j]?)[i - nt]? = ((N'.drop nt).map some)[i - nt]?:=q
    rw [List.getElem?_map,List.getElem?_map,hj,hd] at q
    exact Option.some.inj q
   have hfx:=S.capf x (List.mem_of_getElem? hd)
   have hko:=S.frees (x,.free) (PySem.mem_of_lookup hfx) rfl
   have vis : Vis X.env.scope x:=.inr hko
   obtain ⟨m,hn,hl'⟩:=I.loc
   obtain ⟨u,r,l⟩:=hl' j x v hN hσ vis
   refine ⟨u,r,.inr ⟨?_,?_⟩⟩
   ·exact lookup_relabel_free hfx
   ·rcases l with ⟨k,_⟩ | ⟨_,c,e,z⟩
    ·have k' : X.env.scope.names.lookup x = some .local:=k
     rcases hko with q | q <;> (rw [k'] at q; cases q)
    ·obtain ⟨c',q⟩:=lookup_of_mem (closL_mem e (PySem.mem_of_lookup hfx) (cs:=[]))
     have q2:=sub q
     rw [e] at q2
     cases q2
     obtain ⟨o,ho,hd'⟩:=z
     refine ⟨c,?_,o,old _ _ ho,hd'⟩
     show (cellsC X scope C).lookup x = some c
     unfold cellsC
     rw [cf_app,List.lookup_append]
     cases own : (cellsFrom (C + 1) scope.names []).lookup x with
     | none=>exact q
     | some c' =>
      have z1:=S.cells _ (cf_mem _ _ (PySem.mem_of_lookup own)).2 rfl
      rw [hfx] at z1
      cases z1
 ·rcases cells_sub e with q | ⟨_,q⟩
  ·obtain ⟨v,o,ho,hd'⟩:=I.cell x c q
   exact ⟨v,o,old _ _ ho,hd'⟩
  ·exact ⟨none,hnew x c (PySem.mem_of_lookup q)⟩
 ·obtain ⟨a,b,c,d,e⟩:=I.pin p hp
  refine ⟨old _ _ a,b,Nat.ne_of_lt (Nat.lt_of_lt_of_le (Heap.lt_size a) hC),fun hf=>?_,e⟩
  rcases List.mem_cons.mp (I.stkSub p.1 hf) with z | z
  ·exact c z
  ·exact d z
 ·show (List.replicate nt none ++ caps.map fun j=>(σ[j]?).getD none).length = N'.length
  rw [List.length_append,List.length_replicate,List.length_map]
  have:=S.len
  omega
end
section
variable {X : Cx} {pins : List (Addr × Obj)} {σ : St} {H : Hp} {s₂ : Shared} {scope : Scope} {N' : List Str} {nt : Nat} {caps : List Nat} {tg elt iter : Expr} {ifs : List Expr} {pos : Pos} {g : Blk→TG} {tt : Blk→TT} {te : Blk→TE}
theorem comp_runC {J : It} {it : Addr} {fp : List Addr} {tn : Nat→Heap→Prop} {W : Nat→Nat→List V→St→Hp→Prop} {Z : List V→Hp→Prop} {RR : Value→Addr→Result→Shared→Prop} {E : Value→Shared→Prop}
  (hc : X.calm = true) (S : CompScopeC X.env.scope X.N scope N' nt caps)
  (hg : ∀ B,PG (cxCompC X N' scope B) tg (g B)) (ht : ∀ B,PTs (cxCompC X N' scope B) ifs (tt B)) (he : ∀ B,PE (cxCompC X N' scope B) elt (te B))
  (I : Inv X pins σ H s₂) (T : Turn X.prog X.w X.K tg J fp it tn) (st : tn 0 s₂.heap) (f2 : ∀ b ∈ fp,FpOk X pins H b) (w0 : ∃ m,W 0 m [] (sgm nt caps σ) H) (turn : ∀ B,CompW J (g B) (tt B) (te B) W Z)
  (hRR : ∀ D C s' ys H',Z ys H'→H' D = none→Inv X pins σ (upd H' D (.lst ys)) s'→FpOk X pins (upd H' D (.lst ys)) C→(∃ m,s'.heap.Ns C m)→RR (.ref D) C (.ok .next) s') :
  wpAny (model X.prog X.w) X.A (newList []) (fun acc s₃=>wpAny (model X.prog X.w) X.A (newFunctionEnv scope X.env.globals (closL X.env scope.names []) [] X.env.qual none .none (some X.env)) (fun cenv s₄ =>
   codeAny (model X.prog X.w) X.A (.compStart (.ListComp elt [⟨tg,iter,ifs,0⟩] scope pos) 0 (.ref it) acc { cenv with scope:=relabel scope X.env }) (RR acc cenv.locals) s₄) E s₃) E s₂:=by
 refine wpAny_newObj_type (wpAny_compEnv (fun h₁ hns₁ hk₁ hnew₁ hap₁=>?_))
 try dsimp only at hns₁ hk₁ hnew₁ hap₁ ⊢
 generalize hH2 : s₂.heap.push { cls := .type "list", dict := none, data := .seq ([] : List Value).toArray } = G2 at hns₁ hk₁ hnew₁ hap₁ ⊢
 have hCe : G2.objs.size = s₂.heap.objs.size + 1:=by rw [← hH2,Heap.size_push]
 have hDC : s₂.heap.objs.size ≠ G2.objs.size:=by rw [hCe]; exact Nat.ne_of_lt (Nat.lt_succ_self _)
 have hCle : s₂.heap.objs.size ≤ G2.objs.size:=by rw [hCe]; exact Nat.le_succ _
 have hlt : ∀ b ∈ fp,b < s₂.heap.objs.size:=fun b hb=>let ⟨o,e,_⟩:=T.obj 0 _ st b hb; Heap.lt_size e
 have old : ∀ b o,s₂.heap.get? b = some o→h₁.get? b = some o:=fun b o e=>hk₁ b o (hH2 ▸ Heap.get?_push_of_some _ e)
 have hacc : h₁.get? s₂.heap.objs.size = some (lobj [] 0):=hk₁ _ _ (hH2 ▸ Heap.get?_push_size _ rfl)
 generalize hD : s₂.heap.objs.size = D at hacc hDC hCle hCe
 generalize G2.objs.size = C at hns₁ hnew₁ hap₁ hDC hCle hCe ⊢
 have hlt' : ∀ b ∈ fp,b < D:=fun b hb=>hD ▸ hlt b hb
 have hpl : ∀ p ∈ X.pn ++ pins,p.1 < D:=fun p hp=>hD ▸ Heap.lt_size (I.pin p hp).1
 have hcl : ∀ x c,X.env.cells.lookup x = some c→c < D:=fun x c e=>let ⟨v,q⟩:=I.cell x c e; hD ▸ q.lt
 have hfsl : ∀ b ∈ frs X.stack,b < D:=fun b hb=>by
  rcases List.mem_cons.mp (I.stkSub b hb) with z | z
  ·rw [z,← hD]; exact I.lt
  ·rw [← hD]
   refine Nat.lt_of_not_le fun q=>I.nofs q z
 have fD : ∀ {H' : Hp} {pl : List (Addr × Obj)},H' D = none→(∀ p ∈ X.pn ++ pl,p.1 < D)→FpOk (cxCompC X N' scope ⟨C,s₂,H,fp⟩) pl H' D:=fun {H' pl} hn hp =>
  ⟨hn,hDC,fun z=>Nat.lt_irrefl _ (hfsl D z),.inr (by show s₂.heap.objs.size ≤ D; rw [hD]; exact Nat.le_refl _),fun x c e z=>(by rcases cells_sub e with q | ⟨q,_⟩; (have:=hcl x c q; rw [z] at this; exact Nat.lt_irrefl D this); (rw [z] at q; exact Nat.lt_irrefl D (Nat.lt_of_lt_of_le (Nat.lt_of_le_of_lt hCle (Nat.lt_succ_self C)) q))),
   fun p q z=>Nat.lt_irrefl D (by have:=hp p q; rw [z] at this; exact this)⟩
 have fI : ∀ {H' : Hp} {n : Nat} {its : List Value},(∀ b ∈ fp,H' b = none)→∀ b ∈ fp,FpOk (cxCompC X N' scope ⟨C,s₂,H,fp⟩) (pins ++ [(D,lobj its n)]) H' b:=fun {H' n its} hn b hb=>by
  obtain ⟨g0,g1,g2,g3,g4,g5⟩:=f2 b hb
  refine ⟨hn b hb,Nat.ne_of_lt (Nat.lt_of_lt_of_le (hlt' b hb) hCle),fun z=>?_,.inl hb,fun x c e=>(by rcases cells_sub e with q | ⟨q,_⟩; exact g4 x c q; exact Nat.ne_of_gt (Nat.lt_of_lt_of_le (Nat.lt_of_lt_of_le (hlt' b hb) hCle) (Nat.le_of_succ_le q))),fun p hp z=>?_⟩
  ·rcases List.mem_cons.mp (I.stkSub b z) with q | q
   ·exact g1 q
   ·exact g2 q
  ·have hp' : p ∈ X.pn ++ (pins ++ [(D,lobj its n)]):=hp
   rw [← List.append_assoc] at hp'
   rcases List.mem_append.mp hp' with q | q
   ·exact g5 p q z
   ·have e : p = (D,lobj its n):=by simpa using q
    rw [e] at z
    have:=hlt' b hb
    rw [← z] at this
    exact Nat.lt_irrefl _ this
 have pinD : ∀ {σ' : St} {H' : Hp} {s' : Shared} {its : List Value} {n : Nat} {pl : List (Addr × Obj)},Inv (cxCompC X N' scope ⟨C,s₂,H,fp⟩) (pins ++ pl) σ' H' s'→H' D = none→s'.heap.get? D = some (lobj its n)→Inv (cxCompC X N' scope ⟨C,s₂,H,fp⟩) (pins ++ [(D,lobj its n)]) σ' H' s' :=
  fun {σ' H' s' its n pl} J hn ho=>J.pins_of fun p hp=>by
   rcases List.mem_append.mp hp with q | q
   ·exact J.pin p (List.mem_append_right _ (List.mem_append_left _ q))
   ·have e : p = (D,lobj its n):=by simpa using q
    subst e
    exact ⟨ho,hn,hDC,fun z=>Nat.lt_irrefl _ (hfsl D z),fun v z=>by cases z⟩
 have I1 : Inv (cxCompC X N' scope ⟨C,s₂,H,fp⟩) (pins ++ [(D,lobj [] 0)]) (sgm nt caps σ) H { s₂ with heap:=h₁,toks:=s₂.toks } :=
  pinD (pl:=[]) (by rw [List.append_nil]; exact inv_compC I S f2 hlt (by rw [hD]; exact hCle) hap₁ hnew₁ hns₁ old) (I.hok.fresh (by rw [hD]; exact Nat.le_refl _)) hacc
 have st1 : tn 0 h₁:=T.keep 0 _ _ st fun b _ o e=>old b o e
 have loop : ∀ s₃ : Shared,s₃ = { s₂ with heap:=h₁,toks:=s₂.toks } →
   codeAny (model X.prog X.w) X.A (.compLoop (.ListComp elt [⟨tg,iter,ifs,0⟩] scope pos) 0 (.ref it) (.ref D) (cxCompC X N' scope ⟨C,s₂,H,fp⟩).env) (RR (.ref D) C) s₃:=by
  rintro s₃ rfl
  obtain ⟨m0,w0⟩:=w0
  refine codeAny_compLoop_go (fun k s'=>∃ i ys σ' H' its n,Inv (cxCompC X N' scope ⟨C,s₂,H,fp⟩) (pins ++ [(D,lobj its n)]) σ' H' s'∧Vals ys its∧tn i s'.heap∧(∀ b ∈ fp,H' b = none)∧ys.length ≤ sizeLine∧W i k ys σ' H') ?_ m0
   ⟨0,[],_,H,[],0,I1,.nil,st1,fun b hb=>(f2 b hb).1,Nat.zero_le _,w0⟩
  rintro k s' ⟨i,ys,σ',H',its,n,I',rv,st',fr',hz,w'⟩
  rcases turn ⟨C,s₂,H,fp⟩ i k ys σ' H' w' with ⟨stop,z⟩ | ⟨go,hlen,NN,hNN,step⟩
  ·refine thn (T.done (cxCompC X N' scope ⟨C,s₂,H,fp⟩) rfl rfl rfl hc i _ s' σ' H' _ I' (fI fr') st' stop) fun r s1 ⟨hr,J⟩=>?_
   subst hr
   have pd:=J.pin (D,lobj its n) (List.mem_append_right _ (List.mem_append_right _ List.mem_cons_self))
   have hDn : H' D = none:=pd.2.1
   have J0 : Inv X pins σ H' s1:=I.call' (ch:=fp) J.os J.base J.hok J.bare fun b hb=>⟨(f2 b hb).2.2.2.1,(f2 b hb).2.1,(f2 b hb).2.2.2.2.1,(f2 b hb).2.2.2.2.2⟩
   have J1 : Inv X pins σ (upd H' D (.lst ys)) s1:=J0.track (I.fpOk (by rw [hD]; exact Nat.le_refl _) hDn) ⟨hz,its,n,rv,pd.1⟩
   obtain ⟨mC,hnC,_⟩:=J.loc
   exact hRR D C s1 ys H' z hDn J1 (I.fpOk (by rw [hD]; exact hCle) (by rw [upd_ne (Ne.symm hDC)]; exact J.free)) ⟨mC,hnC⟩
  ·refine thn (T.item (cxCompC X N' scope ⟨C,s₂,H,fp⟩) rfl rfl rfl hc i _ s' σ' H' _ I' (fI fr') st' go) fun r s1 ⟨u,hr,h1⟩=>?_
   subst hr
   refine thn h1 fun _ s5 ⟨x,H5,I5,r5,y5,st5,fr5⟩=>?_
   have I5':=I5.pinned (fI fr5) (T.obj _ _ st5)
   refine wpAny_mono (hg ⟨C,s₂,H,fp⟩ _ s5 σ' H5 x u _ I5' r5 (step x H5 y5)) (fun _ s6 ⟨σ6,H6,I6,q6⟩=>?_) fun _ _ z=>z.elim
   refine wpAny_mono (ht ⟨C,s₂,H,fp⟩ _ s6 σ6 H6 _ I6 q6) (fun b s7 ⟨H7,I7,q7⟩=>?_) fun _ _ z=>z.elim
   have keepT : ∀ {σ8 : St} {H8 : Hp} {s8 : Shared},Inv (cxCompC X N' scope ⟨C,s₂,H,fp⟩) ((pins ++ [(D,lobj its n)]) ++ pinsAt fp s5.heap) σ8 H8 s8→tn (i + 1) s8.heap∧(∀ b ∈ fp,H8 b = none)∧s8.heap.get? D = some (lobj its n)∧H8 D = none:=fun {σ8 H8 s8} I8=>by
    refine ⟨T.keep _ _ _ st5 fun b hb o e=>(I8.pin (b,o) (List.mem_append_right _ (List.mem_append_right _ (mem_pinsAt hb e)))).1,fun b hb=>?_,?_⟩
    ·obtain ⟨o,e,_⟩:=T.obj _ _ st5 b hb
     exact (I8.pin (b,o) (List.mem_append_right _ (List.mem_append_right _ (mem_pinsAt hb e)))).2.1
    ·have pd:=I8.pin (D,lobj its n) (List.mem_append_right _ (List.mem_append_left _ (List.mem_append_right _ List.mem_cons_self)))
     exact ⟨pd.1,pd.2.1⟩
   cases b with
   | false =>
    rw [if_neg Bool.false_ne_true] at q7 ⊢
    obtain ⟨m',hm,w7⟩:=hNN _ _ _ q7
    obtain ⟨t7,f7,_,_⟩:=keepT I7
    exact ⟨m',hm,i + 1,ys,σ6,H7,its,n,I7.unpinned,rv,t7,f7,hz,w7⟩
   | true =>
    rw [if_pos rfl] at q7 ⊢
    refine wpAny_mono (he ⟨C,s₂,H,fp⟩ _ s7 σ6 H7 _ I7 q7) (fun v s8 ⟨y,H8,I8,r8,q8⟩=>?_) fun _ _ z=>z.elim
    obtain ⟨m',hm,w8⟩:=hNN _ _ _ q8
    obtain ⟨t8,f8,o8,n8⟩:=keepT I8
    have hlv:=rv.length
    refine append_at o8 (fun h9 sb9 o9=>?_) (by rw [List.size_toArray,← hlv]; exact hz)
    have I8' : Inv (cxCompC X N' scope ⟨C,s₂,H,fp⟩) (pins ++ []) σ6 H8 s8:=by
     rw [List.append_nil]
     exact I8.unpinned.unpinned
    have ep : ((its.toArray.push v)) = (its ++ [v]).toArray:=by simp
    rw [ep] at o9
    have I9 : Inv (cxCompC X N' scope ⟨C,s₂,H,fp⟩) (pins ++ []) σ6 H8 { s8 with heap:=h9 } :=
     I8'.turnedL (t':=s8.toks) (ch:=[D]) (fun b o hb e=>sb9.extBut b o (fun z=>hb (by simp [z])) e) (fun b hb=>by
      have e : b = D:=by simpa using hb
      subst e
      exact fD n8 (by rw [List.append_nil]; exact hpl))
    refine ⟨m',hm,i + 1,ys ++ [y],σ6,H8,its ++ [v],n + 1,pinD I9 n8 o9,rv.append (.cons r8 .nil),T.keep _ _ _ t8 fun b hb o e=>sb9.extBut b o (Nat.ne_of_lt (hlt' b hb)) e,f8,?_,w8⟩
    rw [List.length_append,List.length_singleton]
    exact hlen
 exact codeAny_compStart_list (loop _ rfl) (T.self X.A 0 _ _ _ st1 (loop _ rfl))
theorem ps_setCompC {wi : TI} {i : Nat} {y : Str} {py spos : Pos} (osc : Scope) (N : List Str) (S : CompScopeC osc N scope N' nt caps) (hN : X.N.Nodup) (hiN : X.N[i]? = some y) (hy : X.env.scope.names.lookup y = some .local) (hi : PI X tg iter wi)
  (hg : ∀ B,PG (cxCompC X N' scope B) tg (g B)) (ht : ∀ B,PTs (cxCompC X N' scope B) ifs (tt B)) (he : ∀ B,PE (cxCompC X N' scope B) elt (te B))
  (hsw : swapsWith (.ListComp elt [⟨tg,iter,ifs,0⟩] scope pos) (some (.Name y py)) spos.line X.env = pure true:=by rfl)
  (hc : X.calm = true:=by rfl) (hosc : X.env.scope = osc:=by rfl) (hNN : X.N = N:=by rfl) (hs : ∀ x,foldedSetIterable iter X.env x = pure x:=by intro _; rfl) : PS X (.Assign [.Name y py] (.ListComp elt [⟨tg,iter,ifs,0⟩] scope pos) spos) (tAsg (tComp nt caps wi g tt te) (gName i)):=by
 subst hosc hNN
 intro pins s σ H D0 I h
 have hfr : ∀ x ∈ scope.names,x.2 = .free→∃ c,X.env.cells.lookup x.1 = some c:=fun x hx hf=>I.ok.has x.1 (S.frees x hx hf)
 rw [exec_Assign_Name_used _ _ _ _ hsw]
 refine wpAny_bind (wpAny_standAt (wpAny_bind ?_))
 show wpAny _ _ (do let _ ← comprehension (.ListComp elt [⟨tg,iter,ifs,0⟩] scope pos) scope X.env _ (newList []) false (eval iter X.env) (some (assign (.Name y py) X.env))) _ _ s
 refine wpAny_bind (wpAny_mono (wpAny_comprehension_free (use:=some (assign (.Name y py) X.env)) (Q:=fun _ s'=>SP X pins D0 .next s') rfl hs (closureFor_eq hfr) S.kind S.names
  (thn (hi pins s σ H _ I h) fun v s1 h1=>thn h1 fun itv s2 h2=>?_)) (fun _ s' hq=>wpAny_pure (wpAny_pure hq)) fun _ _ e=>e)
 obtain ⟨it,fp,tn,J,H2,e,I2,T,st2,f2,W,w0,turn⟩:=h2
 subst e
 refine comp_runC (RR:=fun acc C=>compPost (model X.prog X.w) X.A X.xe (some (assign (.Name y py) X.env)) (fun _ s'=>SP X pins D0 .next s') acc C) hc S hg ht he I2 T st2 f2 w0 turn ?_
 intro D C s' ys H' z hn J' fC ⟨m,hm⟩
 show wpAny _ _ (assign (.Name y py) X.env (.ref D)) _ _ s'
 refine wpAny_assign_Name (store_ok2 (v:=.ref D) J' hN hiN (.inl hy) rfl (fun s'' J'' ⟨a,sb,ha⟩=>?_) (.inr hy))
 have hCa : C ≠ a:=by
  rcases ha with q | q
  ·rw [q]; exact fC.2.1
  ·exact Ne.symm (fC.2.2.2.2.1 _ _ q)
 refine ⟨m,hm.sameBut sb hCa,fun h'' sb'=>⟨_,_,J''.turnedL (t':=s''.toks) (ch:=[C]) (fun b o hb e=>sb'.extBut b o (fun z=>hb (by simp [z])) e) (fun b hb=>?_),z D hn⟩⟩
 have e : b = C:=by simpa using hb
 subst e
 exact fC
end
theorem pg_nameK {X : Cx} {i : Nat} {x : Str} {pos : Pos} (N : List Str) (hN : N.Nodup) (hi : N[i]? = some x) (hx : X.env.scope.names.lookup x = some .cell:=by rfl) (hf : X.fn x = true:=by rfl) (hXN : X.N = N:=by rfl) : PG X (.Name x pos) (gName i) :=
 pg_name (by rw [hXN]; exact hN) (by rw [hXN]; exact hi) (.inr hx) (.inl hf)
end L2
namespace L2
open PySem PySem.Spec PyProof.Rows
def plc (ys : List Str) (y : Str) : Int:=if y ∈ ys then ((ys.findIdx (fun z=>decide (z = y)) : Nat) : Int) else -1
theorem fst_at {ys : List Str} {y : Str} (h : y ∈ ys) : ys[ys.findIdx (fun z=>decide (z = y))]? = some y∧∀ m,m < ys.findIdx (fun z=>decide (z = y))→∀ w,ys[m]? = some w→w ≠ y:=by
 have hl : ys.findIdx (fun z=>decide (z = y)) < ys.length:=List.findIdx_lt_length_of_exists ⟨y,h,by simp⟩
 have e:=List.findIdx_getElem (xs:=ys) (p:=fun z=>decide (z = y)) (w:=hl)
 refine ⟨by rw [List.getElem?_eq_getElem hl,of_decide_eq_true e],fun m hm w hw hwy=>?_⟩
 have:=List.not_of_lt_findIdx hm
 have hml : m < ys.length:=Nat.lt_trans hm hl
 rw [List.getElem?_eq_getElem hml] at hw
 rw [Option.some.inj hw,hwy] at this
 simp at this
theorem plc_at {ys : List Str} {y : Str} {j : Nat} (h : ys[j]? = some y) (hn : ∀ m,m < j→∀ w,ys[m]? = some w→w ≠ y) : plc ys y = (j : Int):=by
 have hm : y ∈ ys:=List.mem_of_getElem? h
 unfold plc
 rw [if_pos hm]
 obtain ⟨a,b⟩:=fst_at hm
 rcases Nat.lt_trichotomy (ys.findIdx (fun z=>decide (z = y))) j with q | q | q
 ·exact absurd rfl (hn _ q _ a)
 ·rw [q]
 ·exact absurd rfl (b _ q _ h)
theorem eqV_str (a b : Str) : eqV (.str a) (.str b) = decide (a = b):=by
 have h:=inV_strs (x:=b) (ys:=[a])
 have h2 : inV (.str b) (vstrs [a]) = eqV (.str a) (.str b):=by
  unfold inV
  simp
 rw [← h2,h]
 simp [eq_comm]
section
variable {X : Cx}
inductive rIndex (x : V) (vs : List V) (H : Hp) (Q : VK) : Prop
 | mk : ∀ (l : Addr) (ys : List Str) (y : Str),(x = .ref l)→(vs = [.str y])→(H l = some (.lst (vstrs ys)))→(y ∈ ys)→(Q (.int (plc ys y)) H)→rIndex x vs H Q
theorem mt_index : MtM X "list.index" rIndex := by
 intro pins s σ H x vs v us Q I rx rv h
 obtain ⟨l,ys,y,rfl,rfl,hH,hy,q⟩:=h
 cases rx
 obtain ⟨u,rfl,ru⟩:=rv.one
 obtain ⟨z,its,n,r,hl,e⟩:=I.lstM hH
 obtain ⟨e1,e2⟩:=fst_at hy
 have hp : plc ys y = ((ys.findIdx (fun z=>decide (z = y)) : Nat) : Int):=by unfold plc; rw [if_pos hy]
 rw [hp] at q
 generalize ys.findIdx (fun z=>decide (z = y)) = j at e1 e2 q
 have hjl : j < ys.length:=(List.getElem?_eq_some_iff.mp e1).1
 have vl : (vstrs ys).length = ys.length:=List.length_map ..
 have hs:=sizeLine_eq
 have hj : j < its.toArray.size:=by rw [List.size_toArray]; omega
 have ev : ∀ m (w : Str),ys[m]? = some w→∃ u',its[m]? = some u'∧eqU (.str y) u' = decide (w = y):=fun m w hm=>by
  obtain ⟨u',h1,h2⟩:=r.get (i:=m) (x:=.str w) (by rw [List.getElem?_map,hm]; rfl)
  exact ⟨u',h1,by rw [eqU_of h2 rfl,eqV_str]⟩
 have hit : eqU (.str y) its.toArray[j] = true:=by
  obtain ⟨u',h1,h2⟩:=ev j y e1
  rw [List.getElem_toArray,(List.getElem?_eq_some_iff.mp h1).2,h2]
  simp
 refine call_meets F.slot_list_index ⟨_,e,rfl⟩ F.entry_list_index (F.args_list_index_2 _ _) (SeqAt.list_indexAt l its.toArray n none #[] u (eqU (.str y)) j hj (by omega) hit fun m hm hmj=>?_) ⟨e,fun w hw=>?_,?_⟩
 ·rw [List.size_toArray] at hm
  have hmy : m < ys.length:=by omega
  obtain ⟨u',h1,h2⟩:=ev m _ (List.getElem?_eq_getElem hmy)
  rw [List.getElem_toArray,(List.getElem?_eq_some_iff.mp h1).2,h2]
  exact decide_eq_false (e2 m hmj _ (List.getElem?_eq_getElem hmy))
 ·exact mem_eqAt ru rfl r (flat_strs ys) w (by simpa using hw)
 ·exact ⟨.int j,H,I.tok _,⟨_,rfl⟩,q⟩
end
end L2
namespace L2
open PySem PySem.Spec PyProof.Rows SeqAt
section
variable {X : Cx} {pins : List (Addr × Obj)} {σ : St} {H : Hp} {s : Shared} {A : Around} {a b : Addr}
theorem rc_true {xs ys : List V} (I : Inv X pins σ H s) (hu : A.units < cLine) (qa : SqL X.K H a xs) (qb : SqL X.K H b ys) (hl : xs.length = ys.length)
  (he : ∀ (j : Nat) (x y : V) (u v : Value),xs[j]? = some x→ys[j]? = some y→RelV x u→RelV y v→EqAt A.in1 s u v true) : RcAt A s (.ref a) (.ref b) true∧RcNeAt A s (.ref a) (.ref b) false:=by
 obtain ⟨its,rv,p,_⟩:=I.list qa
 obtain ⟨its2,rw',p2,_⟩:=I.list qb
 have l1:=rv.length
 have l2:=rw'.length
 have hh : ∀ j (h1 : j < its.toArray.size) (h2 : j < its2.toArray.size),EqAt A.in1 s its.toArray[j] its2.toArray[j] ((fun _=>true) j):=fun j h1 h2=>by
  rw [List.size_toArray] at h1 h2
  obtain ⟨u,hu1,ru⟩:=rv.get (i:=j) (List.getElem?_eq_getElem (by omega))
  obtain ⟨v,hv1,rv2⟩:=rw'.get (i:=j) (List.getElem?_eq_getElem (by omega))
  rw [List.getElem_toArray,List.getElem_toArray,(List.getElem?_eq_some_iff.mp hu1).2,(List.getElem?_eq_some_iff.mp hv1).2]
  exact he j _ _ u v (List.getElem?_eq_getElem (by omega)) (List.getElem?_eq_getElem (by omega)) ru rv2
 have all : ∀ n : Nat,((List.range n).all fun _=>true) = true:=fun n=>by simp
 have q:=RcAt.lists (A:=A) p.isList p2.isList (by simp; omega) hu hh
 have q2:=RcNeAt.lists (A:=A) p.isList p2.isList (by simp; omega) hu hh
 rw [all] at q q2
 exact ⟨q,q2⟩
theorem eq_of_rc (h : RcAt A s (.ref a) (.ref b) true) : EqAt A s (.ref a) (.ref b) true:=by
 by_cases e : a = b
 ·subst e; exact EqAt.same _
 ·exact EqAt.of_refs e h
theorem eq_flat {xs : List V} (I : Inv X pins σ H s) (hu : A.units < cLine) (qa : SqL X.K H a xs) (qb : SqL X.K H b xs) (hf : ∀ x ∈ xs,flatV x = true∧eqV x x = true) : EqAt A s (.ref a) (.ref b) true :=
 eq_of_rc (rc_true I hu qa qb rfl fun j x y u v hx hy ru rv=>by
  rw [hx] at hy
  cases hy
  obtain ⟨f1,f2⟩:=hf x (List.mem_of_getElem? hx)
  have q:=eqAt_V (A:=A.in1) (s:=s) ru rv f1 f1
  rw [f2] at q
  exact q).1
theorem flat_int (ys : List Int) : ∀ x ∈ vints ys,flatV x = true∧eqV x x = true:=fun x hx=>by
 obtain ⟨y,_,rfl⟩:=List.mem_map.mp hx
 exact ⟨rfl,beq_self_eq_true y⟩
theorem in1_units {A : Around} : A.in1.units = A.units + 1:=by
 first | rfl | (simp [Around.in1,Around.units])
end
theorem hu2_of {A : Around} {k : Nat} (hr : Room k A) : A.units + 2 < cLine:=Nat.lt_of_le_of_lt (Nat.add_le_add_left (by decide : 2 ≤ 64) _) hr.units
def ButL (A : List Addr) (H H' : Hp) : Prop:=∀ c u,H c = some u→c ∉ A→H' c = some u
theorem ButL.refl {A : List Addr} {H : Hp} : ButL A H H:=fun _ _ e _=>e
theorem ButL.trans {A : List Addr} {H H1 H2 : Hp} (a : ButL A H H1) (b : ButL A H1 H2) : ButL A H H2:=fun c u e n=>b c u (a c u e n) n
theorem ButL.upd {A : List Addr} {H H' : Hp} (k : ButL A H H') {x : Addr} {o : HO} (hx : x ∈ A) : ButL A H (upd H' x o):=fun c u e n=>by
 have hc : c ≠ x:=fun z=>n (by rw [z]; exact hx)
 rw [upd_ne hc]
 exact k c u e n
theorem ButL.rows {A : List Addr} {H H' : Hp} (k : ButL A H H') : ∀ {as : List Addr} {rs : List (List Int)},Rows H as rs→(∀ a ∈ as,a ∉ A)→Rows H' as rs
 | _,_,.nil,_=>.nil
 | _,_,.cons e r,h=>.cons (k _ _ e (h _ (List.mem_cons_self ..))) (ButL.rows k r fun a ha=>h a (List.mem_cons_of_mem _ ha))
theorem ButL.parts {A : List Addr} {H H' : Hp} {p b d t g f : Addr} {ts gs : List Addr} {N : NetV} (k : ButL A H H') (P : PartsIn H p b d t g f ts gs N) (h : ∀ a ∈ [p,b,d,t,g,f] ++ ts ++ gs,a ∉ A) : PartsIn H' p b d t g f ts gs N:=by
 have m : ∀ a ∈ [p,b,d,t,g,f],a ∉ A:=fun a ha=>h a (List.mem_append_left _ (List.mem_append_left _ ha))
 exact ⟨k _ _ P.top (m _ (by simp)),k _ _ P.hb (m _ (by simp)),k _ _ P.hd (m _ (by simp)),k _ _ P.ht (m _ (by simp)),k.rows P.tr fun a ha=>h a (List.mem_append_left _ (List.mem_append_right _ ha)),k _ _ P.hg (m _ (by simp)),k.rows P.gr fun a ha=>h a (List.mem_append_right _ ha),k _ _ P.hf (m _ (by simp))⟩
theorem ButL.net {A : List Addr} {C : Addr} {H H' : Hp} {x dx b d t g f : Addr} {ts gs : List Addr} {N : NetV} (k : ButL A H H') (P : NetIn C H x dx b d t g f ts gs N) (h : ∀ a ∈ [x,b,d,t,g,f] ++ ts ++ gs,a ∉ A) : NetIn C H' x dx b d t g f ts gs N:=by
 have m : ∀ a ∈ [x,b,d,t,g,f],a ∉ A:=fun a ha=>h a (List.mem_append_left _ (List.mem_append_left _ ha))
 exact ⟨k _ _ P.ob (m _ (by simp)),k _ _ P.hb (m _ (by simp)),k _ _ P.hd (m _ (by simp)),k _ _ P.ht (m _ (by simp)),k.rows P.tr fun a ha=>h a (List.mem_append_left _ (List.mem_append_right _ ha)),k _ _ P.hg (m _ (by simp)),k.rows P.gr fun a ha=>h a (List.mem_append_right _ ha),k _ _ P.hf (m _ (by simp))⟩
theorem Rows.memE {H : Hp} : ∀ {as : List Addr} {rs : List (List Int)},Rows H as rs→∀ a ∈ as,∃ r ∈ rs,H a = some (.lst (vints r))
 | _,_,.nil,a,h=>nomatch h
 | _,_,.cons (b:=r) e R,a,h=>by
  rcases List.mem_cons.mp h with q | q
  ·subst q; exact ⟨r,List.mem_cons_self ..,e⟩
  ·obtain ⟨r',h1,h2⟩:=Rows.memE R a q
   exact ⟨r',List.mem_cons_of_mem _ h1,h2⟩
theorem PartsIn.has {H : Hp} {p b d t g f : Addr} {ts gs : List Addr} {N : NetV} (P : PartsIn H p b d t g f ts gs N) : ∀ a ∈ [p,b,d,t,g,f] ++ ts ++ gs,∃ o,H a = some o:=by
 intro a ha
 rcases List.mem_append.mp ha with ha | ha
 ·rcases List.mem_append.mp ha with ha | ha
  ·simp only [List.mem_cons,List.not_mem_nil,or_false] at ha
   rcases ha with rfl | rfl | rfl | rfl | rfl | rfl
   ·exact ⟨_,P.top⟩
   ·exact ⟨_,P.hb⟩
   ·exact ⟨_,P.hd⟩
   ·exact ⟨_,P.ht⟩
   ·exact ⟨_,P.hg⟩
   ·exact ⟨_,P.hf⟩
  ·obtain ⟨r,_,e⟩:=P.tr.memE a ha; exact ⟨_,e⟩
 ·obtain ⟨r,_,e⟩:=P.gr.memE a ha; exact ⟨_,e⟩
theorem ButL.seq {A : List Addr} {K : PySem.W.Frag} {H H' : Hp} {a : Addr} {xs : List V} (k : ButL A H H') (h : SqL K H a xs) (n : ∀ u,H a = some u→a ∉ A) : SqL K H' a xs:=by
 rcases h with (h | ⟨o,h⟩) | h
 ·exact .inl (.inl (k _ _ h (n _ h)))
 ·exact .inl (.inr ⟨o,k _ _ h (n _ h)⟩)
 ·exact .inr h
def Lsts (H : Hp) (n : Nat) (A : List Addr) : Prop:=∀ a ∈ A,∃ xs,H a = some (.lst xs)∧xs.length ≤ n
theorem Lsts.upd {H : Hp} {n m : Nat} {A : List Addr} (h : Lsts H n A) {x : Addr} {ys : List V} (hl : ys.length ≤ m) (hm : n ≤ m) : Lsts (upd H x (.lst ys)) m A:=fun a ha=>by
 by_cases e : a = x
 ·subst e; exact ⟨ys,upd_same,hl⟩
 ·obtain ⟨xs,h1,h2⟩:=h a ha
  exact ⟨xs,by rw [upd_ne e]; exact h1,Nat.le_trans h2 hm⟩
theorem Lsts.same {H H' : Hp} {n : Nat} {A : List Addr} (h : Lsts H n A) (S : Same H H') : Lsts H' n A:=fun a ha=>let ⟨xs,h1,h2⟩:=h a ha; ⟨xs,S _ _ h1,h2⟩
end L2
namespace L2
open PySem PySem.Spec PyProof.Rows
abbrev TJ:=Str→St→Hp→(Str→Hp→Prop)→Prop
def PJ (X : Cx) (es : List Expr) (t : TJ) : Prop :=
 ∀ (pins : List (Addr × Obj)) (s : Shared) (σ : St) (H : Hp) (acc : Str) (Q : Str→Hp→Prop),Inv X pins σ H s→t acc σ H Q →
  Joins (model X.prog X.w) X.A X.xe (evalEach es X.env) acc (fun out s₁=>out.length ≤ sizeLine∧∃ H',Inv X pins σ H' s₁∧Q out H') s
section
variable {X : Cx} {e : Expr} {es : List Expr} {te : TE} {tr : TJ}
def jNil : TJ:=fun acc _ H Q=>acc.length ≤ sizeLine∧Q acc H
def jStr (x : Str) (tr : TJ) : TJ:=fun acc σ H Q=>(acc ++ x).length ≤ sizeLine∧tr (acc ++ x) σ H Q
def FmtV (v : V) (y : Str) : Prop:=(v = .str y∧y.length ≤ sizeLine) ∨ ∃ i : Int,v = .int i∧i.natAbs.log2 < 1920∧y = toString i
def jVal (te : TE) (tr : TJ) : TJ:=fun acc σ H Q=>te σ H fun v H1=>∃ y,FmtV v y∧(acc ++ y).length ≤ sizeLine∧tr (acc ++ y) σ H1 Q
theorem pj_nil : PJ X [] jNil:=fun _ _ _ H _ _ I h=>⟨h.1,H,I,h.2⟩
theorem pj_str {x : Str} {j pos} (hr : PJ X es tr) : PJ X (.Constant (.str x) j pos :: es) (jStr x tr):=by
 intro pins s σ H acc Q I h
 show wpAny _ _ (eval (.Constant (.str x) j pos) X.env) _ _ s
 refine Calls.Constant_str ⟨x,_,rfl,h.1,?_⟩
 exact hr pins _ σ H (acc ++ x) Q (I.tok _) h.2
theorem pj_val {pos : Pos} (he : PE X e te) (hr : PJ X es tr) : PJ X (.FormattedValue e (-1) none pos :: es) (jVal te tr):=by
 intro pins s σ H acc Q I h
 show wpAny _ _ (eval (.FormattedValue e (-1) none pos) X.env) _ _ s
 refine wpAny_FormattedValue_plain (thn (he pins s σ H _ I h) fun v s1 ⟨x,H1,I1,r1,y,f,hz,q⟩=>?_)
 rcases f with ⟨rfl,hy⟩ | ⟨i,rfl,hi,rfl⟩
 ·obtain ⟨t,rfl⟩:=r1
  exact wpAny_formatField_str ⟨y,_,rfl,hz,hr pins _ σ H1 (acc ++ y) Q I1 q⟩ ⟨y,_,rfl,hz,hr pins _ σ H1 (acc ++ y) Q (I1.tok _) q⟩ hy
 ·obtain ⟨t,rfl⟩:=r1
  exact wpAny_formatField_int hi ⟨_,_,rfl,hz,hr pins _ σ H1 (acc ++ toString i) Q (I1.tok _) q⟩
theorem joins_mono {M : Model} {A : Around} {E : Value→Shared→Prop} : ∀ {parts : List (Sem Value)} {acc : Str} {Q Q' : Str→Shared→Prop} {s : Shared},Joins M A E parts acc Q s→(∀ o s,Q o s→Q' o s)→Joins M A E parts acc Q' s
 | [],_,_,_,_,h,hq=>hq _ _ h
 | _ :: _,_,_,_,_,h,hq=>wpAny_mono h (fun _ _ ⟨y,t,e,hl,hj⟩=>⟨y,t,e,hl,joins_mono hj hq⟩) fun _ _ z=>z
theorem pe_fstr {e1 e2 : Expr} {t : TJ} {pos : Pos} (h : PJ X (e1 :: e2 :: es) t) : PE X (.JoinedStr (e1 :: e2 :: es) pos) (fun σ H Q=>t Str.empty σ H fun y H'=>Q (.str y) H'):=by
 intro pins s σ H Q I q
 refine wpAny_JoinedStr ?_
 have:=h pins s σ H Str.empty (fun y H'=>Q (.str y) H') I q
 refine joins_mono this fun out s1 ⟨hl,H',I',q'⟩=>⟨hl,.str out,H',I'.tok _,⟨_,rfl⟩,q'⟩
end
end L2
namespace L2
open PySem PySem.Spec PyProof.Rows
section
variable {X : Cx}
end
end L2
namespace L2
open PySem PySem.Spec PyProof.Rows SeqAt
abbrev txI (c : Int) : Str:=Str.ofString (toString c)
theorem txI_len {c : Int} (h0 : 0 ≤ c) (h1 : c ≤ 1000000000) : (txI c).length ≤ 11:=by
 have:=int_text_length_le10 (a:=c) (k:=10) (by decide) (by omega)
 rw [PySem.ofString_length]
 exact this
theorem log_small {c : Int} (h0 : 0 ≤ c) (h1 : c ≤ 1000000000) : c.natAbs.log2 < 1920:=by
 by_cases h : c.natAbs = 0
 ·rw [h]; decide
 ·rw [Nat.log2_lt h]
  exact Nat.lt_of_lt_of_le (show c.natAbs < 2 ^ 30 by omega) (Nat.pow_le_pow_right (by decide) (by decide))
def piece (y : Str) (c : Int) : Str := Str.empty ++ txI c ++ Str.ofString " " ++ y
def rowB (y : Str) (c : Int) : Str := Str.empty ++ Str.ofString "bowl " ++ y ++ Str.ofString " " ++ txI c
def rowD (y t g : Str) : Str := Str.empty ++ Str.ofString "door " ++ y ++ Str.ofString " " ++ t ++ Str.ofString " > " ++ g
section
variable {X : Cx}
theorem hu0_of {A : Around} {k : Nat} (hr : Room k A) : A.units < cLine:=hr.units0
inductive rEqE (K : PySem.W.Frag) (x : V) (y : V) (H : Hp) (Q : VK) : Prop
 | mk : ∀ a b xs,(x = .ref a)→(y = .ref b)→(SqL K H a xs)→(SqL K H b [])→(Q (.bl xs.isEmpty) H)→rEqE K x y H Q
theorem op_eqE (hu : X.A.units < cLine) : OpR X (compareOp .Eq) (rEqE X.K):=by
 intro pins s σ H x y v u Q I rx ry h
 obtain ⟨a,b,xs,rfl,rfl,qa,qb,q⟩:=h
 cases rx
 cases ry
 cases xs with
 | nil=>exact (rc_true I hu qa qb rfl fun j x y u v hx=>by simp at hx).1 _ _ _ _ ⟨.bl _,H,I,rfl,q⟩
 | cons x xs =>
  obtain ⟨its,rv,p,_⟩:=I.list qa
  obtain ⟨its2,rw',p2,_⟩:=I.list qb
  have l1:=rv.length
  have l2:=rw'.length
  exact RcAt.lists_lengths p.isList p2.isList (by simp at l1 l2 ⊢; omega) hu _ _ _ _ ⟨.bl _,H,I,rfl,q⟩
end
end L2
namespace L2
open PySem PySem.Spec PyProof.Rows SeqAt
section
variable {X : Cx}
end
section
variable {X : Cx}
end
def sub (xs ys : List Int) : List Int:=List.zipWith (fun i j=>i - j) xs ys
def add (xs ys : List Int) : List Int:=List.zipWith (fun i j=>i + j) xs ys
def hi2 (xs ys : List Int) : List Int:=List.zipWith mx xs ys
theorem sub_len {xs ys : List Int} {z : Nat} (h1 : xs.length = z) (h2 : ys.length = z) : (sub xs ys).length = z:=by unfold sub; rw [List.length_zipWith,h1,h2,Nat.min_self]
theorem zip_at (f : Int→Int→Int) {xs ys : List Int} {i : Nat} (h1 : i < xs.length) (h2 : i < ys.length) : (List.zipWith f xs ys).getD i 0 = f (xs.getD i 0) (ys.getD i 0):=by
 simp [List.getD_eq_getElem?_getD,List.getElem?_zipWith,List.getElem?_eq_getElem h1,List.getElem?_eq_getElem h2]
theorem sub_at {xs ys : List Int} {z i : Nat} (h1 : xs.length = z) (h2 : ys.length = z) (h : i < z) : (sub xs ys).getD i 0 = xs.getD i 0 - ys.getD i 0:=zip_at _ (by omega) (by omega)
def Wd (z : Nat) (rs : List (List Int)) : Prop:=∀ r ∈ rs,r.length = z
theorem getDm {rs : List (List Int)} {d : Nat} (h : d < rs.length) : rs.getD d [] ∈ rs:=by
 rw [List.getD_eq_getElem?_getD,List.getElem?_eq_getElem h]
 exact List.getElem_mem h
theorem Wd.at {z : Nat} {rs : List (List Int)} (w : Wd z rs) {d : Nat} (h : d < rs.length) : (rs.getD d []).length = z:=w _ (getDm h)
def nonneg (b : List Int) : Prop:=∀ x ∈ b,0 ≤ x
def ahead (t g goal : List Int) : List Int:=hi2 t (sub goal (sub g t))
def behind (t g b : List Int) : List Int:=add (sub b t) g
theorem cut_take (xs : List V) (k : Nat) : cutV xs none (some (k : Int)) = xs.take k:=by
 unfold cutV
 rw [HT.sIx_none,HT.sIx_nat,List.drop_zero,Nat.sub_zero]
 by_cases h : k ≤ xs.length
 ·rw [Nat.min_eq_left h]
 ·rw [Nat.min_eq_right (by omega),List.take_of_length_le (Nat.le_refl _),List.take_of_length_le (by omega)]
theorem rep_flat (k : Nat) : (List.replicate k [V.int 0]).flatten = vints (List.replicate k 0):=by
 induction k with
 | zero=>rfl
 | succ k ih=>rw [List.replicate_succ,List.flatten_cons,ih,List.replicate_succ]; rfl
theorem okBag.nn {z : Nat} {r : List Int} (h : okBag z r) : nonneg r:=fun x hx=>(h.2 x hx).1
abbrev zs (ds : List Nat) : List Int:=ds.map fun n : Nat=>(n : Int)
end L2
namespace L2
open PySem PySem.Spec PyProof.Rows
theorem ixN_nat {n i : Nat} (h : i < n) : ixN n (i : Int) = some i:=by
 unfold ixN
 rw [if_pos (by omega),if_pos (by omega),Int.toNat_natCast]
theorem set_ints (ns : List Int) (i : Nat) (v : Int) : (vints ns).set i (V.int v) = vints (ns.set i v):=by rw [vints,vints,List.map_set]
end L2
namespace L2
open PySem PySem.Spec PyProof.Rows
end L2
namespace L2
open PySem PySem.Spec PyProof.Rows SeqAt
section
variable {X : Cx}
theorem pe_or2 {e : Expr} {t u : TE} (h : PE X e t) (h' : PE X e u) : PE X e (fun σ H Q=>t σ H Q ∨ u σ H Q):=fun pins s σ H Q I q=>q.elim (fun q=>h pins s σ H Q I q) (fun q=>h' pins s σ H Q I q)
end
structure PartsT (H : Hp) (p pt pg pu : Addr) (ts gs : List Addr) (z : Nat) (tk gv : List (List Int)) (us : List Int) : Prop where
 top : H p = some (.lst [.int (z : Int),.ref pt,.ref pg,.ref pu])
 ht : H pt = some (.lst (ts.map V.ref))
 tr : Rows H ts tk
 hg : H pg = some (.lst (gs.map V.ref))
 gr : Rows H gs gv
 hu : H pu = some (.lst (vints us))
theorem PartsT.same {H H' : Hp} {p pt pg pu : Addr} {ts gs : List Addr} {z : Nat} {tk gv : List (List Int)} {us : List Int} (P : PartsT H p pt pg pu ts gs z tk gv us) (S : Same H H') : PartsT H' p pt pg pu ts gs z tk gv us :=
 ⟨S _ _ P.top,S _ _ P.ht,P.tr.same S,S _ _ P.hg,P.gr.same S,S _ _ P.hu⟩
theorem at_in {P : Int→Prop} {xs : List Int} {z i : Nat} (hx : xs.length = z) (hi : i < z) (h : ∀ x ∈ xs,P x) : P (xs.getD i 0):=by
 subst hx
 rw [getD_at hi]
 exact h _ (List.getElem_mem hi)
end L2
namespace L2
open PySem PySem.Spec PyProof.Rows
def liesB (beads : List Int) (bs : List Nat) : Bool:=bs.any fun b=>decide (0 < beads.getD b 0)
theorem at_zs {xs : List Int} {b : Nat} (h : b < xs.length) : atI (vints xs) ((b : Nat) : Int) = some (V.int (xs.getD b 0)):=by
 rw [ints_at h,getD_at h]
end L2
namespace L2
open PySem PySem.Spec PyProof.Rows
end L2
namespace L2
open PySem PySem.Spec PyProof.Rows
section
variable {prog : Program} {w : World} {A : Around} {E : Value→Shared→Prop} {s : Shared}
end
section
variable {X : Cx}
end
end L2
namespace L2
open PySem PySem.Spec PyProof.Rows
theorem map_at {f : Int→Int} {xs : List Int} {k : Nat} (h : k < xs.length) : (xs.map f).getD k 0 = f (xs.getD k 0):=by
 rw [List.getD_eq_getElem?_getD,List.getElem?_map,List.getElem?_eq_getElem h,getD_at h]
 rfl
end L2
namespace L2
open PySem PySem.Spec PyProof.Rows
def DK (h h' : Heap) : Prop:=∀ b o,h.get? b = some o→∃ o',h'.get? b = some o'∧o'.cls = o.cls∧o'.dict = o.dict
theorem DK.refl (h : Heap) : DK h h:=fun _ o e=>⟨o,e,rfl,rfl⟩
theorem DK.trans {h1 h2 h3 : Heap} (a : DK h1 h2) (b : DK h2 h3) : DK h1 h3:=fun c o e =>
 let ⟨_,e1,c1,d1⟩:=a c o e
 let ⟨o2,e2,c2,d2⟩:=b c _ e1
 ⟨o2,e2,c2.trans c1,d2.trans d1⟩
structure KD {α : Type} (t : Sem α) : Prop where
 out : ∀ (M : Model) (G : PySem.Ctx) (P : α→Pos→Shared→Prop) (F : Value→Pos→Shared→Prop) (p : Pos) (s : Shared),Sem.wp M G t P F p s→Sem.wp M G t (fun a p' s'=>P a p' s'∧DK s.heap s'.heap) F p s
namespace KD
variable {α β : Type}
theorem ret (a : α) : KD (Pure.pure a : Sem α):=⟨fun _ _ _ _ _ s h=>⟨h,DK.refl s.heap⟩⟩
theorem uns (w : String) : KD (PySem.unsupported w : Sem α):=⟨fun _ _ _ _ _ _ h=>h⟩
theorem andThen {m : Sem α} {f : α→Sem β} (hm : KD m) (hf : ∀ a,KD (f a)) : KD (m >>= f):=⟨fun M G P F p s h=>by
 rw [Sem.wp_bind'] at h ⊢
 refine Sem.wp_mono M G m (fun a p' s' z=>?_) (fun _ _ _ x=>x) p s (hm.out M G _ F p s h)
 exact Sem.wp_mono M G (f a) (fun b p2 s2 y=>⟨y.1,z.2.trans y.2⟩) (fun _ _ _ x=>x) p' s' ((hf a).out M G P F p' s' z.1)⟩
theorem cond {c : Prop} [Decidable c] {t u : Sem α} (ht : KD t) (hu : KD u) : KD (if c then t else u):=by split <;> assumption
theorem ld (a : Addr) : KD (PySem.load a):=⟨fun _ _ _ _ _ s h=>by obtain ⟨o,e,q⟩:=h; exact ⟨o,e,q,DK.refl s.heap⟩⟩
theorem stk : KD PySem.stack:=⟨fun M G P F p s h=>by
 unfold PySem.stack at h ⊢
 rw [Sem.wp_stack] at h ⊢
 exact ⟨h,DK.refl s.heap⟩⟩
theorem new (o : Obj) : KD (PySem.alloc o):=⟨fun M G P F p s h=>⟨h,fun b u e=>⟨u,Heap.get?_push_of_some _ e,rfl,rfl⟩⟩⟩
theorem upd (a : Addr) (f : Obj→Obj) (k : ∀ o,(f o).isFreed = o.isFreed∧(f o).cls = o.cls∧(f o).dict = o.dict) : KD (PySem.update a f):=⟨fun M G P F p s h=>by
 obtain ⟨e,q⟩:=h
 refine ⟨e,q,fun b o hb=>?_⟩
 show ∃ o',(s.heap.update a f).get? b = some o'∧_
 by_cases hba : b = a
 ·subst hba
  exact ⟨f o,Heap.get?_update_self f hb ((k o).1.trans (Heap.get?_some_iff.mp hb).2),(k o).2.1,(k o).2.2⟩
 ·exact ⟨o,(Heap.get?_update_other _ _ (Ne.symm hba)).trans hb,rfl,rfl⟩⟩
theorem fld (v : Value) (i : Nat) : KD (PySem.field v i):=⟨fun _ G P F p s h=>by
 obtain ⟨a,o,vs,x,e,ho,hd,hx,q⟩:=(wp_field_iff G v i P F p s).mp h
 exact (wp_field_iff G v i _ F p s).mpr ⟨a,o,vs,x,e,ho,hd,hx,q,DK.refl s.heap⟩⟩
theorem setFld (v : Value) (i : Nat) (x : Value) : KD (PySem.setField v i x):=⟨fun _ G P F p s h=>by
 obtain ⟨a,o,vs,e,ho,hd,hi,q⟩:=(wp_setField_iff G v i x P F p s).mp h
 refine (wp_setField_iff G v i x _ F p s).mpr ⟨a,o,vs,e,ho,hd,hi,q,fun b ob hb=>?_⟩
 show ∃ o',(s.heap.update a _).get? b = some o'∧_
 by_cases hba : b = a
 ·subst hba
  rw [ho] at hb
  cases hb
  have z:=Heap.get?_update_self (Obj.mapFields (·.setIfInBounds i x)) ho (Obj.isFreed_of_fields (Obj.data_mapFields hd _))
  refine ⟨_,z,Obj.cls_mapFields _ _,?_⟩
  obtain ⟨c,d,dt,sl⟩:=o
  cases dt <;> rfl
 ·exact ⟨ob,(Heap.get?_update_other _ _ (Ne.symm hba)).trans hb,rfl,rfl⟩⟩
theorem any {t : Sem α} (k : KD t) {M : Model} {A : Around} {Q : α→Shared→Prop} {E : Value→Shared→Prop} {s : Shared} (h : wpAny M A t Q E s) : wpAny M A t (fun a s'=>Q a s'∧DK s.heap s'.heap) E s :=
 fun G p hG=>k.out M G _ _ p s (h G p hG)
end KD
theorem kd_import (env : Env) (outer : List Env) : KD (behindIsImport env outer):=by
 unfold behindIsImport
 (repeat' with_reducible first | assumption | exact KD.ret _ | exact KD.uns _ | exact KD.fld _ _ | exact KD.setFld _ _ _ | exact KD.ld _ | exact KD.stk | exact KD.new _ | apply KD.cond | apply KD.andThen | intro _ | split)
theorem kd_caller : KD underTheClaimsCaller:=by
 unfold underTheClaimsCaller
 (repeat' with_reducible first | assumption | exact KD.ret _ | exact KD.uns _ | exact KD.fld _ _ | exact KD.setFld _ _ _ | exact KD.ld _ | exact KD.stk | exact KD.new _ | apply KD.cond | apply KD.andThen | intro _ | split)
theorem kd_back (env : Env) (i : Bool) (l : List Env) : KD (keptBack env i l):=by
 have:=kd_caller
 cases l <;> unfold keptBack <;> (repeat' with_reducible first | assumption | exact KD.ret _ | exact KD.uns _ | exact KD.fld _ _ | exact KD.setFld _ _ _ | exact KD.ld _ | exact KD.stk | exact KD.new _ | apply KD.cond | apply KD.andThen | intro _ | split)
theorem kd_ready : ∀ l : List Env,KD (readyFrames l)
 | []=>KD.ret _
 | env :: outer=>by
  have ih:=kd_ready outer
  have h1:=kd_import env outer
  have h2:=fun i=>kd_back env i outer
  unfold readyFrames
  (repeat' with_reducible first | assumption | exact KD.ret _ | exact KD.uns _ | exact KD.fld _ _ | exact KD.setFld _ _ _ | exact KD.ld _ | exact KD.stk | exact KD.new _ | apply KD.cond | apply KD.andThen | intro _ | split)
  all_goals first | exact h2 _ | exact KD.upd _ _ (fun o=>⟨by obtain ⟨c,d,dt,sl⟩:=o; cases dt <;> rfl,rfl,rfl⟩) | skip
theorem kd_frameObject (l : List Env) : KD (frameObject l):=by
 cases l with
 | nil=>exact KD.ret _
 | cons env outer =>
  have:=kd_ready (env :: outer)
  unfold frameObject
  (repeat' with_reducible first | assumption | exact KD.ret _ | exact KD.uns _ | exact KD.fld _ _ | exact KD.setFld _ _ _ | exact KD.ld _ | exact KD.stk | exact KD.new _ | apply KD.cond | apply KD.andThen | intro _ | split)
theorem kd_frameOf (env : Env) : KD (PySem.frameOf env):=by
 have h1 : KD frameEnvs:=by unfold frameEnvs; (repeat' with_reducible first | assumption | exact KD.ret _ | exact KD.uns _ | exact KD.fld _ _ | exact KD.setFld _ _ _ | exact KD.ld _ | exact KD.stk | exact KD.new _ | apply KD.cond | apply KD.andThen | intro _ | split)
 have h2:=kd_frameObject
 unfold PySem.frameOf
 (repeat' with_reducible first | assumption | exact KD.ret _ | exact KD.uns _ | exact KD.fld _ _ | exact KD.setFld _ _ _ | exact KD.ld _ | exact KD.stk | exact KD.new _ | apply KD.cond | apply KD.andThen | intro _ | split)
 all_goals first | exact h2 _ | skip
theorem kd_place (f : Addr) (b : Bool) : KD (entryPlaceOf f b):=by
 unfold entryPlaceOf
 (repeat' with_reducible first | assumption | exact KD.ret _ | exact KD.uns _ | exact KD.fld _ _ | exact KD.setFld _ _ _ | exact KD.ld _ | exact KD.stk | exact KD.new _ | apply KD.cond | apply KD.andThen | intro _ | split)
theorem kd_newObj (T : String) (vs : Array Value) : KD (newObj (.type T) (.fields vs)):=by
 unfold newObj newObjAsIs
 try dsimp only
 (repeat' with_reducible first | assumption | exact KD.ret _ | exact KD.uns _ | exact KD.fld _ _ | exact KD.setFld _ _ _ | exact KD.ld _ | exact KD.stk | exact KD.new _ | apply KD.cond | apply KD.andThen | intro _ | split)
theorem kd_note (e : Value) (env : Env) : KD (noteFrame e env):=by
 have h1:=kd_frameOf env
 have h2:=kd_place
 unfold noteFrame EntryCells.newEntry newFields
 (repeat' with_reducible first | assumption | exact KD.ret _ | exact KD.uns _ | exact KD.fld _ _ | exact KD.setFld _ _ _ | exact KD.ld _ | exact KD.stk | exact KD.new _ | apply KD.cond | apply KD.andThen | intro _ | split)
 all_goals first | exact h2 _ _ | exact kd_newObj _ _ | skip
theorem kd_flight (e : Value) (f : Option Addr) : KD (setFlight e f):=by
 unfold setFlight
 (repeat' with_reducible first | assumption | exact KD.ret _ | exact KD.uns _ | exact KD.fld _ _ | exact KD.setFld _ _ _ | exact KD.ld _ | exact KD.stk | exact KD.new _ | apply KD.cond | apply KD.andThen | intro _ | split)
theorem kd_leaving (env : Env) (e : Value) : KD (leaving env e):=by
 have h1:=kd_note e env
 have h2:=kd_flight e none
 unfold leaving
 (repeat' with_reducible first | assumption | exact KD.ret _ | exact KD.uns _ | exact KD.fld _ _ | exact KD.setFld _ _ _ | exact KD.ld _ | exact KD.stk | exact KD.new _ | apply KD.cond | apply KD.andThen | intro _ | split)
end L2
namespace L2
open PySem PySem.Spec PyProof.Rows
def Fly (l : List Env) (H : Hp) (h : Heap) (a : Addr) (cls : Value) (dx : Option Addr) (H' : Hp) (h' : Heap) : Prop :=
 ∃ (B : Heap) (a0 : Value),Heap.FlyingW B l a cls a0 h'∧(∀ b o,h.get? b = some o→H b = none→b ∉ frs l→B.get? b = some o)∧(∀ b u o,H' b = some u→h'.get? b = some o→B.get? b = some o)∧∃ oe,h'.get? a = some oe∧oe.dict = dx
def CXF (P : Program) (w : World) : CXT:=fun outer H s E e s' =>
 ∃ (a : Addr) (cls : Value) (dx : Option Addr) (H' : Hp),e = .ref a∧s'.os = s.os∧AllBare s'.gens∧Un (frs outer) [] H H' s.heap s'.heap∧HOk P w H' s'.heap∧H' a = none∧s.heap.get? a = none∧Fly outer H s.heap a cls dx H' s'.heap∧E cls dx H'
theorem ObjOk.has {P : Program} {w : World} {H : Hp} {h : Heap} {a : Addr} {o : HO} (x : ObjOk P w H h a o) : ∃ ob,h.get? a = some ob:=by
 cases o with
 | lst xs=>obtain ⟨_,_,_,_,e⟩:=x; exact ⟨_,e⟩
 | tup xs=>obtain ⟨_,_,_,ob,e,_⟩:=x; exact ⟨_,e⟩
 | dK kvs=>obtain ⟨_,_,_,_,o,_,_,e,_⟩:=x; exact ⟨_,e⟩
 | dT kvs=>obtain ⟨_,_,_,_,o,_,_,e,_⟩:=x; exact ⟨_,e⟩
 | set S n=>obtain ⟨o,_,_,_,e,_⟩:=x; exact ⟨_,e⟩
 | ins C dx fs=>obtain ⟨_,_,_,e,_⟩:=x; exact ⟨_,e⟩
 | own y=>obtain ⟨_,e⟩:=x; exact ⟨_,e⟩
 | xd fs=>obtain ⟨_,⟨_,_,_,e,_⟩,_⟩:=x; exact ⟨_,e⟩
 | rng lo hi=>obtain ⟨_,_,_,e⟩:=x; exact ⟨_,e⟩
 | frz ob u=>obtain ⟨e,_⟩:=x; exact ⟨_,e⟩
 | tbl ps=>exact ⟨_,x⟩
 | met f y=>exact ⟨_,x⟩
 | ext φ=>obtain ⟨_,⟨_,e⟩,_⟩:=x; exact ⟨_,e⟩
section
variable {P : Program} {w : World}
theorem HOk.based {H' : Hp} {h' h'' B : Heap} (ok : HOk P w H' h') (T : ∀ b u o,H' b = some u→h'.get? b = some o→B.get? b = some o) (st : B.StaysIn h'') : HOk P w H' h'':=fun a o e=>by
 refine (ok a o e).stay (fun b u hb q=>?_) (fun _ q=>q) fun _ _ q=>q
 rcases hb with rfl | hb
 ·exact st b u (T b _ u e q)
 ·exact st b u (T b _ u hb q)
theorem Un.flown {l l' : List Env} {H H' : Hp} {h h' h'' B : Heap} {a : Addr} {cls a0 : Value} (u : Un (frs l') [] H H' h h') (F : Heap.FlyingW B l a cls a0 h') (st : B.StaysIn h'') (up : h'.UpToSlots h'') (dk : DK h' h'')
  (old : ∀ b o,h.get? b = some o→H b = none→b ∉ frs l→B.get? b = some o) (sub : ∀ b ∈ frs l',b ∈ frs l) (nw : ∀ b ∈ frs l,b ∉ frs l'→h.get? b = none) : Un (frs l') [] H H' h h'' where
 keep:=fun b o e n hb _=>by
  by_cases hl : b ∈ frs l
  ·rw [nw b hl hb] at e; cases e
  ·exact st b o (old b o e n hl)
 slot:=fun b o e n hb hx=>by
  obtain ⟨sl,e1⟩:=u.slot b o e n hb hx
  obtain ⟨_,ob,ho,nf⟩:=F.2.2.1.mem (sub b hb)
  rw [e1] at ho
  cases ho
  obtain ⟨sl',e2⟩:=up b _ e1 nf
  exact ⟨sl',e2⟩
 free:=u.free
 there:=fun b o e hx=>by
  obtain ⟨o',e1⟩:=u.there b o e hx
  obtain ⟨o2,e2,_⟩:=dk b o' e1
  exact ⟨o2,e2⟩
 tups:=u.tups
 frzs:=u.frzs
 tbls:=u.tbls
variable {K : PySem.W.Frag} {mg : Str→Option Value} {base : Heap} {N : List Str} {qual : Str} {scope : Scope} {f : Addr} {cd : Value} {A : Around} {outer : List Env} {s : Shared} {H : Hp} {E : XK}
theorem frs_cons {env : Env} {l : List Env} {L : Addr} (h : env.frame = some L) : frs (env :: l) = L :: frs l:=by
 unfold frs
 rw [List.filterMap_cons,h]
theorem passF : Passes (CXF P w) (cxOf (CXF P w) P w K mg base N qual scope f cd A outer s H E) E:=by
 intro pins σ H1 s1 e s' I hc
 obtain ⟨a,cls,dx,H',rfl,os,bare,un,hok,na,ha,⟨B,a0,F,b1,b2,oe,he,hd⟩,q⟩:=hc
 have J:=I.call' (H':=H') os un hok bare (fun b z=>absurd z (by simp))
 have eL : (cxOf (CXF P w) P w K mg base N qual scope f cd A outer s H E).env.frame = some s.heap.objs.size:=rfl
 have hfs : frs ((cxOf (CXF P w) P w K mg base N qual scope f cd A outer s H E).stack) = s.heap.objs.size :: frs outer:=frs_cons eL
 show wpAny _ _ (leaving _ (.ref a)) _ _ _
 refine wpAny_mono ((kd_leaving _ _).any (wpAny_leaves_onW (Q:=fun _ s''=>Heap.FlyingW B outer a cls a0 s''.heap∧s'.heap.UpToSlots s''.heap∧s'' = { s' with heap:=s''.heap }) I.ok.frames eL F fun h' F' U=>⟨F',U,rfl⟩)) (fun _ s'' z=>?_) fun _ _ z=>z
 obtain ⟨⟨F',U,es⟩,dk⟩:=z
 obtain ⟨oe',he',_,hd'⟩:=dk a oe he
 have old : ∀ b o,s.heap.get? b = some o→H b = none→b ∉ frs ((cxOf (CXF P w) P w K mg base N qual scope f cd A outer s H E).stack)→B.get? b = some o:=fun b o e n hb=>by
  have hb' : b ∉ frs outer:=fun z=>hb (by rw [hfs]; exact List.mem_cons_of_mem _ z)
  exact b1 b o (I.base.keep b o e n hb' (fun z=>absurd z (by simp [cxOf]))) (I.base.free b o e n (fun z=>absurd z (by simp [cxOf]))) hb
 have nw : ∀ b ∈ frs ((cxOf (CXF P w) P w K mg base N qual scope f cd A outer s H E).stack),b ∉ frs outer→s.heap.get? b = none:=fun b hb nb=>by
  rw [hfs] at hb
  rcases List.mem_cons.mp hb with z | z
  ·rw [z]; exact Heap.get?_none_of_le (Nat.le_refl _)
  ·exact absurd z nb
 have sub : ∀ b ∈ frs outer,b ∈ frs ((cxOf (CXF P w) P w K mg base N qual scope f cd A outer s H E).stack):=fun b hb=>by
  rw [hfs]; exact List.mem_cons_of_mem _ hb
 have na' : s.heap.get? a = none:=by
  cases z : s.heap.get? a with
  | none=>rfl
  | some o=>obtain ⟨o',e'⟩:=I.base.there a o z (fun z=>absurd z (by simp [cxOf])); rw [ha] at e'; cases e'
 refine ⟨a,cls,dx,H',rfl,by rw [es]; exact J.os,by rw [es]; exact bare,J.base.flown F F'.1 U dk old sub nw,hok.based b2 F'.1,na,na',⟨B,a0,F',fun b o e n hb=>?_,fun b u o hu ho=>?_,oe',he',hd'.trans hd⟩,q⟩
 ·by_cases hs : b ∈ frs ((cxOf (CXF P w) P w K mg base N qual scope f cd A outer s H E).stack)
  ·rw [nw b hs hb] at e; cases e
  ·exact old b o e n hs
 ·obtain ⟨ob,hob⟩:=(hok b u hu).has
  have z:=b2 b u ob hu hob
  rw [F'.1 b ob z] at ho
  cases ho
  exact z
end
end L2
namespace L2
open PySem PySem.Spec PyProof.Rows
abbrev excMro : List Value := [.type "ValueError", .type "Exception", .type "BaseException", .type "object"]
def ExcCls (h : Heap) (C : Addr) (bm : List Value) (N : Addr) (mN : Str→Option Value) : Prop :=
 ∃ nm qn bs hdct sn sub ab col dd k0 k1 k2 k3 k5, h.get? C = some (excClassObj nm qn C N bs bm hdct sn sub ab col dd k0 k1 k2 k3 k5 "ValueError.__new__") ∧ h.Ns N mN ∧ OwnTail h excMro bm
def ecIn (K : PySem.W.Frag) (C : Addr) (bm : List Value) : Bool:=match K.lookup C with
 | some ⟨.type "type", _, .cls cd, sl⟩ => (match cd.mro, sl.toList with
  | .ref C' :: tl, [_, _, _, _, some (.builtin n), _] => C' == C && tl == bm && n == "ValueError.__new__" && !cd.hasDel && PySem.W.tailIn K excMro bm && PySem.W.nsOkIn K cd.ns
  | _,_=>false)
 | _=>false
theorem ExcCls.of {K : PySem.W.Frag} {h : Heap} {C : Addr} {bm : List Value} (X : K.In h) (q : ecIn K C bm = true) : ∃ N mN,ExcCls h C bm N mN∧(PySem.W.clsIn K C).map (·.ns) = some N:=by
 unfold ecIn at q
 split at q
 case h_2=>cases q
 case h_1 d cd sl lk =>
  split at q
  case h_2=>cases q
  case h_1 C2 tl a b c d2 n e2 hm hs =>
   simp only [Bool.and_eq_true,beq_iff_eq,Bool.not_eq_true'] at q
   obtain ⟨⟨⟨⟨⟨c1,c2⟩,c3⟩,c4⟩,c5⟩,c6⟩:=q
   subst c1 c2 c3
   obtain ⟨l⟩:=sl
   try dsimp only at hs
   subst hs
   obtain ⟨nm,bs,mro,ns,qn,hd,sn,sub,ab,col,del⟩:=cd
   try dsimp only at hm c4 c6
   subst hm c4
   exact ⟨ns,_,⟨nm,qn,bs,hd,sn,sub,ab,col,d,a,b,c,d2,e2,X _ _ lk,.of_isNs (PySem.W.isNs_of_in X c6),PySem.W.tail_of_in X c5⟩,by unfold PySem.W.clsIn; rw [lk]; rfl⟩
theorem ExcCls.keeps {h h' : Heap} {C : Addr} {bm : List Value} {N : Addr} {mN : Str→Option Value} (x : ExcCls h C bm N mN) (k : ∀ b o,h.get? b = some o→h'.get? b = some o) : ExcCls h' C bm N mN:=by
 obtain ⟨nm,qn,bs,hd,sn,sub,ab,col,dd,k0,k1,k2,k3,k5,e,n,t⟩:=x
 exact ⟨nm,qn,bs,hd,sn,sub,ab,col,dd,k0,k1,k2,k3,k5,k _ _ e,n.keeps k,t.keeps k⟩
structure XPlain (K : PySem.W.Frag) (C : Addr) (bm : List Value) : Prop where
 ec : ecIn K C bm = true
 ni : ((PySem.W.clsIn K C).map (·.ns)).bind (fun N => PySem.W.nsIn K N "__init__") = some none
section
variable {X : Cx} {C : Addr} {bm : List Value} {E : XK}
end
def PX (X : Cx) (ex : Expr) (tx : St→Hp→VK→XK→Prop) : Prop :=
 ∀ (pins : List (Addr × Obj)) (s : Shared) (σ : St) (H : Hp) (Q : VK) (E : XK),Inv X pins σ H s→tx σ H Q E→wpAny (model X.prog X.w) X.A (eval ex X.env) (EP X pins σ Q) (fun e s'=>∃ H1 s1,Inv X pins σ H1 s1∧CXF X.prog X.w X.stack H1 s1 E e s') s
def PB (X : Cx) (body : List Stmt) (tb : Ends→XK→St→Hp→Prop) : Prop :=
 ∀ (pins : List (Addr × Obj)) (s : Shared) (σ : St) (H : Hp) (D : Ends) (E : XK),Inv X pins σ H s→tb D E σ H→wpAny (model X.prog X.w) X.A (execs body X.env) (SP X pins D) (fun e s'=>∃ H1 s1,Inv X pins σ H1 s1∧CXF X.prog X.w X.stack H1 s1 E e s') s
section
variable {X : Cx} {k : Nat} {f : Addr} {fd : FuncData} {ps : List Str} {sp : Sp} {x : Str} {p pos : Pos} {e : Expr} {es : List Expr} {t : TA}
theorem px_call (F : FnOk X.prog X.w X.K X.mg X.base (CXF X.prog X.w) k f fd ps sp) (hr : Room k X.A) (hg : Gl X x) (hm : X.mg x = some (.ref f)) (hk : PySem.W.keepIn X.K (.ref f) = true) (hb : Binds X.K fd ps [])
  (ha : PA X.nox (e :: es) t) (hdb : (x == ("__debug__" : Str)) = false := by decide) (he : starEach (e :: es) X.env = (false, eval e X.env) :: starEach es X.env := by rfl) (hpl : (backTo pos (starEach es X.env)).any (·.1) = false := by rfl) :
  PX X (.Call (.Name x p) (e :: es) [] pos) (fun σ H Q E=>t σ H fun vs H1=>sp vs H1 Q E):=by
 intro pins s σ H Q E I h
 refine wpAny_Call_Name_kw (ld_glob I hg hm ?_ hdb)
 refine PySem.W.callWith_K (h₀:=X.base) I.ok.mod.kin hk (wpAny_mono (ha pos pins s σ H _ (I.wish _) h) (fun us s1 ⟨vs,H1,I1',r,q⟩=>?_) fun _ _ z=>False.elim z) he hpl
 have I1:=I1'.unwish
 refine ⟨I1.kIn,?_⟩
 have hl : us.length = ps.length:=by rw [← r.length]; exact F.len _ _ _ _ q
 have bnd:=hb s1 us I1.kIn (by rw [List.append_nil]; exact hl)
 rw [List.append_nil] at bnd
 refine wpAny_call (codeAny_mono (F.run X.A X.stack s1 H1 ⟨us,[]⟩ us vs Q E hr I1.env0 bnd r q) fun r s' hq=>?_)
 cases r with
 | error e=>exact ⟨H1,s1,I1,hq⟩
 | ok fl =>
  cases fl with
  | ret u=>exact I1.after hq
  | next=>exact False.elim hq
  | brk=>exact False.elim hq
  | cont=>exact False.elim hq
theorem pb_expr {ex : Expr} {tx : St→Hp→VK→XK→Prop} (hx : PX X ex tx) (hs : swapsWith ex none pos.line X.env = pure false:=by rfl) : PB X [.Expr ex pos] (fun D E σ H=>tx σ H (fun _ H1=>D.nx σ H1) E):=by
 intro pins s σ H D E I h
 refine wpAny_execs_cons (thn (wpAny_Expr_any (Q:=fun fl s1=>fl = .next∧SP X pins D .next s1) (thn (hx pins s σ H _ E I h) fun v s1 ⟨y,H1,I1,r1,q1⟩=>⟨rfl,σ,H1,I1,q1⟩) I.quiet hs) fun fl s1 q=>?_)
 obtain ⟨rfl,q⟩:=q
 exact wpAny_execs_nil q
end
end L2
namespace L2
open PySem PySem.Spec PyProof.Rows
abbrev Cx.hold (X : Cx) (e : Addr) (o : Obj) : Cx:={ X with A:=X.A.mark (some (.ref e)),calm:=false,pn:=X.pn ++ [(e,o)],xe:=fun _ _=>False }
section
variable {X : Cx} {pins : List (Addr × Obj)} {σ : St} {H : Hp} {s : Shared} {a : Addr} {o : Obj}
theorem Cx.Ok.hold (ok : X.Ok) (e : Addr) (o : Obj) : (X.hold e o).Ok :=
 ⟨ok.mod,ok.kind,ok.glob,ok.blt,ok.above,ok.inj,ok.has,ok.cab,(fun z=>Bool.noConfusion z),ok.frames,ok.stk,ok.exf,ok.bs,ok.bsz,ok.noex,ok.exfs,ok.funs,ok.frf⟩
theorem Inv.hold (I : Inv X pins σ H s) (h1 : s.heap.get? a = some o) (h2 : H a = none) (h3 : a ≠ X.env.locals) (h4 : a ∉ X.fs) (h5 : ∀ v,o.data ≠ .cell v) : Inv (X.hold a o) pins σ H s:=by
 refine ⟨I.ok.hold a o,I.os,I.bare,I.base,I.loc,I.cell,I.free,I.freeC,fun p hp=>?_,I.hok,I.len⟩
 have hp : p ∈ (X.pn ++ [(a,o)]) ++ pins:=hp
 rcases List.mem_append.mp hp with hp | hp
 ·rcases List.mem_append.mp hp with hp | hp
  ·exact I.pin p (List.mem_append_left _ hp)
  ·cases List.mem_singleton.mp hp
   exact ⟨h1,h2,h3,h4,h5⟩
 ·exact I.pin p (List.mem_append_right _ hp)
theorem Inv.unhold (ok : X.Ok) (I : Inv (X.hold a o) pins σ H s) : Inv X pins σ H s:=by
 refine ⟨ok,I.os,I.bare,I.base,I.loc,I.cell,I.free,I.freeC,fun p hp=>I.pin p ?_,I.hok,I.len⟩
 show p ∈ (X.pn ++ [(a,o)]) ++ pins
 rcases List.mem_append.mp hp with hp | hp
 ·exact List.mem_append_left _ (List.mem_append_left _ hp)
 ·exact List.mem_append_right _ hp
theorem gone_ok {M : Model} {A : Around} {E : Value→Shared→Prop} {i : Nat} {n : Str} {pos : Pos} {Q : Unit→Shared→Prop} (I : Inv X pins σ H s) (hN : X.N.Nodup) (hi : X.N[i]? = some n) (hl : X.env.scope.names.lookup n = some .local)
  (h : ∀ s',Inv X pins (σ.set i none) H s'→Q () s') : wpAny M A (do bindName X.env n .none; unbindBehindTheSuite X.env n pos) Q E s:=by
 have hcls : (X.env.scope.kind == .class || (X.env.scope.kind == .module && X.env.locals != X.env.globals)) = false:=by rw [I.ok.kind]; rfl
 refine wpAny_bind (wpAny_bindName (store_ok I hN hi (.inl hl) (v:=.non) (u:=.none) rfl (fun s1 J=>?_) (.inr hl)))
 unfold unbindBehindTheSuite
 refine wpAny_onRaise ?_
 obtain ⟨m,hn,hlk⟩:=id J.loc
 have hiσ : i < σ.length:=by rw [I.len]; exact (List.getElem?_eq_some_iff.mp hi).1
 obtain ⟨u,_,lk⟩:=hlk i n .non hi (List.getElem?_set_self hiσ) (.inl hl)
 have hv : m n = some u:=by
  rcases lk with ⟨_,z⟩ | ⟨z,_⟩
  ·exact z
  ·have z : X.env.scope.names.lookup n = some .cell ∨ X.env.scope.names.lookup n = some .free:=z
   rw [hl] at z
   rcases z with z | z <;> cases z
 refine wpAny_unbindName_local hl hn hv hcls fun h' u' hn' hs=>?_
 obtain ⟨oL,_,_,hoL,_⟩:=id hn
 have cne:=J.cne
 have old : ∀ b o,X.s₀.heap.get? b = some o→b ≠ X.env.locals:=fun b o e=>Nat.ne_of_lt (Nat.lt_of_lt_of_le (Heap.lt_size e) J.ok.above)
 refine h _ ⟨J.ok,J.os,J.bare,⟨fun b o e n hb hx=>(hs.2 b (old b o e)).trans (J.base.keep b o e n hb hx),fun b o e n hb hx=>?_,J.base.free,fun b o e hx=>?_,J.base.tups,J.base.frzs,J.base.tbls⟩,⟨_,hn',fun j y v' e1 e2 e3=>?_⟩,fun y c e=>?_,J.free,J.freeC,fun p hp=>?_,fun b ob e=>?_,by simpa using I.len⟩
 ·obtain ⟨sl,e1⟩:=J.base.slot b o e n hb hx
  exact ⟨sl,(hs.2 b (old b o e)).trans e1⟩
 ·obtain ⟨o',e1⟩:=J.base.there b o e hx
  exact ⟨o',(hs.2 b (old b o e)).trans e1⟩
 ·by_cases hj : j = i
  ·subst hj
   rw [List.getElem?_set_self hiσ] at e2
   cases e2
  ·rw [List.getElem?_set_ne (Ne.symm hj)] at e2
   obtain ⟨w',r',q⟩:=hlk j y v' e1 (by rw [List.getElem?_set_ne (Ne.symm hj)]; exact e2) e3
   refine ⟨w',r',?_⟩
   rcases q with ⟨k,e⟩ | ⟨k,c,e,z⟩
   ·refine .inl ⟨k,?_⟩
    have ne : y ≠ n:=fun e=>hj (nodup_ix hN e1 (e ▸ hi))
    show (if y = n then u' else m y) = some w'
    rw [if_neg ne]
    exact e
   ·exact .inr ⟨k,c,e,z.sameBut hs (cne y c e)⟩
 ·obtain ⟨w',z⟩:=J.cell y c e
  exact ⟨w',z.sameBut hs (cne y c e)⟩
 ·obtain ⟨e,n,ne,nf,d⟩:=J.pin p hp
  exact ⟨(hs.2 p.1 ne).trans e,n,ne,nf,d⟩
 ·refine (J.hok b ob e).stay (fun c w' hc q=>(hs.2 c ?_).trans q) (fun _ q=>q) fun _ _ q=>q
  rintro rfl
  rcases hc with z | hc
  ·rw [← z,J.free] at e; cases e
  ·rw [J.free] at hc; cases hc
end
theorem exc_matches {M : Model} {A : Around} {E : Value→Shared→Prop} {s : Shared} {e C D : Addr} {oe : Obj} {bm bd : List Value} {N N' : Addr} {mN mN' : Str→Option Value} {Q : Bool→Shared→Prop} (hC : ExcCls s.heap C bm N mN) (hD : ExcCls s.heap D bd N' mN')
  (he : s.heap.get? e = some oe) (hcls : oe.cls = .ref C) (q : Q ((Value.ref C :: bm).contains (.ref D)) s) : wpAny M A (excMatches (.ref e) (.ref D)) Q E s:=by
 obtain ⟨nm,qn,bs,hd,sn,sub,ab,col,dd,k0,k1,k2,k3,k5,e0,n0,t0⟩:=hC
 obtain ⟨nm',qn',bs',hd',sn',sub',ab',col',dd',k0',k1',k2',k3',k5',e0',n0',t0'⟩:=hD
 have hb : (Value.ref D :: bd).contains (.type "BaseException") = true := by rw [List.contains_cons, t0'.hasType PySem.F.excBase_ValueError.hasBase, Bool.or_true]
 have f:=tc_notTuple
 obtain ⟨hp,g,d,t,os⟩:=s
 generalize hr : (Value.ref C :: bm).contains (.ref D) = r at q
 unfold excMatches
 repeat (first | (with_reducible refine wpAny_loadPart_at he ?_; rw [hcls]) | with_reducible refine wpAny_loadPart_at e0' ?_ | (with_reducible refine wpAny_isSubtype_exc e0' ?_; rw [hb]) | (with_reducible refine wpAny_isSubtype_exc e0 ?_; rw [hr]) | wp_step)
 cases r <;> (wp_walk; exact q)
end L2
namespace L2
open PySem PySem.Spec PyProof.Rows
structure XObj (o : Obj) (C : Addr) (dx : Option Addr) : Prop where
 cls : o.cls = .ref C
 dict : o.dict = dx
 no : PySem.W.notCls o = true
structure Caught (K : PySem.W.Frag) (C D : Addr) : Prop where
 w : ∃ bm bd,ecIn K C bm = true∧ecIn K D bd = true∧(Value.ref C :: bm).contains (.ref D) = true
def afterS (D : Ends) (i : Nat) : Ends:={ nx:=fun σ H=>D.nx (σ.set i none) H,rt:=D.rt,bk:=fun σ H=>D.bk (σ.set i none) H,ct:=fun σ H=>D.ct (σ.set i none) H }
def tTryAs (K : PySem.W.Frag) (Dc : Addr) (i : Nat) (tb : Ends→XK→St→Hp→Prop) (th : Addr→Obj→TS) : TS:=fun D σ H =>
 tb D (fun cls dx H'=>∃ C,cls = .ref C∧Caught K C Dc∧∀ e o,H' e = none→XObj o C dx→th e o (afterS D i) (σ.set i (some (.ref e))) H') σ H
section
variable {X : Cx} {body suite : List Stmt} {b₀ : Stmt} {np hp pos : Pos} {cn n : Str} {i : Nat} {Dc : Addr} {tb : Ends→XK→St→Hp→Prop} {th : Addr→Obj→TS}
theorem to_suite {pins : List (Addr × Obj)} {σ : St} {a : Addr} {s' : Shared} {name : Option Str} {Q : Flow→Shared→Prop} {W : Value→Option Addr→Hp→Prop} (hst : X.stack = X.env :: X.outer) (hfr : X.env.frame = some X.env.locals)
  (hg : Gl X cn) (hm : X.mg cn = some (.ref Dc)) (hdb : (cn == ("__debug__" : Str)) = false)
  (z : ∃ H1 s1,Inv X.nox pins σ H1 s1∧CXF X.prog X.w X.nox.stack H1 s1 (fun cls dx H'=>∃ C,cls = .ref C∧Caught X.K C Dc∧W cls dx H') (.ref a) s')
  (k : ∀ (h5 : Heap) (H' : Hp) (C : Addr) (oe : Obj),Inv (X.nox.hold a oe) pins σ H' { s' with heap:=h5 }→H' a = none→oe.cls = .ref C→W (.ref C) oe.dict H' →
   (∀ Q' : Unit→Shared→Prop,(∀ h6 oe6,Inv (X.nox.hold a oe6) pins σ H' { s' with heap:=h6 }→XObj oe6 C oe.dict→Q' () { s' with heap:=h6 })→∀ (A' : Around) (E' : Value→Shared→Prop),wpAny (model X.prog X.w) A' (setFlight (.ref a) none) Q' E' { s' with heap:=h5 }) →
   codeAny (model X.prog X.w) (X.A.mark (some (.ref a))) (.handlers (.ref a) [.ExceptHandler none name (b₀ :: suite) hp] X.env) (fun r s₂=>match r with
     | .ok f=>(match name with
      | none=>Q f s₂
      | some n=>wpAny (model X.prog X.w) X.A (do bindName X.env n .none; unbindBehindTheSuite X.env n hp) (fun _ s₃=>Q f s₃) (fun _ _=>False) s₂)
     | .error x=>cameBackBy (model X.prog X.w) X.A X.env (fun _ _=>False) x s₂) { s' with heap:=h5 }) :
  wpAny (model X.prog X.w) X.A (noteFrame (.ref a) X.env) (fun _ s₂=>wpAny (model X.prog X.w) X.A (setFlight (.ref a) none) (fun _ s₃ =>
   wpAny (model X.prog X.w) X.A (handleBy (.ref a) X.env [.ExceptHandler (some (.Name cn np)) name (b₀ :: suite) hp]) Q (fun _ _=>False) s₃) (fun _ _=>False) s₂) (fun _ _=>False) s':=by
 obtain ⟨H1,s1,I1,a',cls,dx,H',ea,os,bare,un,hok,na,ha,⟨B,a0,F,b1,b2,oe,he,hd⟩,C,rfl,⟨bm,bd,cc,cd,cm⟩,q⟩:=z
 cases ea
 have F : Heap.FlyingW B (X.env :: X.outer) a (.ref C) a0 s'.heap:=hst ▸ F
 have fr : X.A.frames = some (X.env :: X.outer):=hst ▸ I1.ok.frames
 have un : Un (frs (X.env :: X.outer)) [] H1 H' s1.heap s'.heap:=hst ▸ un
 have b1 : ∀ b o,s1.heap.get? b = some o→H1 b = none→b ∉ frs (X.env :: X.outer)→B.get? b = some o:=hst ▸ b1
 have aL : a ≠ X.env.locals:=fun z=>by
  obtain ⟨_,⟨o,_,_,ho,_⟩,_⟩:=I1.loc
  rw [z] at ha
  rw [show s1.heap.get? X.env.locals = some o from ho] at ha
  cases ha
 have aF : a ∉ X.fs:=fun z=>by
  obtain ⟨_,o,ho,_⟩:=I1.funs.mem z
  rw [ha] at ho; cases ho
 have land : ∀ h5,Heap.FlyingW B (X.env :: X.outer) a (.ref C) a0 h5→s'.heap.UpToSlots h5→DK s'.heap h5→∃ oe5,Inv (X.nox.hold a oe5) pins σ H' { s' with heap:=h5 }∧XObj oe5 C dx:=fun h5 F5 U5 K5=>by
  obtain ⟨oe5,he5,c5,d5⟩:=K5 a oe he
  obtain ⟨o',vs,ho',hc',hd',_⟩:=F5.first
  rw [he5] at ho'
  cases ho'
  have u5:=un.flown F F5.1 U5 K5 b1 (fun b hb=>hb) (fun b h1 h2=>absurd h1 h2)
  have J:=I1.call' (s':={ s' with heap:=h5 }) (ch:=[]) os (by show Un (frs X.stack) _ _ _ _ _; rw [hst]; exact u5) (hok.based b2 F5.1) bare (fun b z=>absurd z (by simp))
  exact ⟨oe5,J.hold he5 na aL aF (fun v z=>by rw [hd'] at z; cases z),hc',d5.trans hd,by unfold PySem.W.notCls; rw [hd']⟩
 refine wpAny_mono ((kd_note _ _).any (wpAny_looks_onW (Q:=fun _ s2=>∃ h4,s2 = { s' with heap:=h4 }∧Heap.HeldW B (X.env :: X.outer) a (.ref C) a0 X.env.locals h4∧s'.heap.UpToSlots h4) fr hfr F fun h4 x U=>⟨h4,rfl,x,U⟩)) (fun _ s2 z2=>?_) fun _ _ z=>z
 obtain ⟨⟨h4,rfl,held,U4⟩,dk4⟩:=z2
 refine wpAny_mono ((kd_flight _ _).any (wpAny_landsW (Q:=fun _ s3=>∃ h5,s3 = { s' with heap:=h5 }∧Heap.FlyingW B (X.env :: X.outer) a (.ref C) a0 h5∧h4.UpToSlots h5) held fun h5 x U=>⟨h5,rfl,x,U⟩)) (fun _ s3 z3=>?_) fun _ _ z=>z
 obtain ⟨⟨h5,rfl,F5,U5⟩,dk5⟩:=z3
 have dk : DK s'.heap h5:=dk4.trans dk5
 obtain ⟨oe5,J5,c5,d5,n5⟩:=land h5 F5 (U4.trans U5) dk
 obtain ⟨N,mN,xc,_⟩:=ExcCls.of I1.ok.mod.kin cc
 obtain ⟨N',mN',xd,_⟩:=ExcCls.of I1.ok.mod.kin cd
 have at5:=(J5.pin (a,oe5) (List.mem_append_left _ (List.mem_append_right _ (List.mem_singleton.mpr rfl)))).1
 refine wpAny_handleBy_cons (codeAny_handlers_test (ld_glob J5 hg hm ?_ hdb)) (by intro q; cases q)
 refine exc_matches (xc.keeps J5.bk) (xd.keeps J5.bk) at5 c5 ?_
 rw [cm]
 refine k h5 H' C oe5 J5 na c5 (by rw [d5]; exact q) fun Q' hQ A' E'=>?_
 refine wpAny_mono ((kd_flight _ _).any (lands_againW (Q:=fun _ s3=>∃ h6,s3 = { s' with heap:=h6 }∧Heap.FlyingW B (X.env :: X.outer) a (.ref C) a0 h6∧h5.UpToSlots h6) F5 fun h6 x U=>⟨h6,rfl,x,U⟩)) (fun _ s3 z3=>?_) fun _ _ z=>z
 obtain ⟨⟨h6,rfl,F6,U6⟩,dk6⟩:=z3
 obtain ⟨oe6,J6,c6,d6,n6⟩:=land h6 F6 ((U4.trans U5).trans U6) (dk.trans dk6)
 exact hQ h6 oe6 J6 ⟨c6,d6.trans d5.symm,n6⟩
theorem ps_tryAs (hN : X.N.Nodup) (hg : Gl X cn) (hm : X.mg cn = some (.ref Dc)) (hb : PB X.nox body tb) (hh : ∀ e o,PSs (X.nox.hold e o) (b₀ :: suite) (th e o)) (hi : X.N[i]? = some n:=by rfl) (hl : X.env.scope.names.lookup n = some .local:=by rfl)
  (hst : X.stack = X.env :: X.outer := by rfl) (hfr : X.env.frame = some X.env.locals := by rfl) (hdb : (cn == ("__debug__" : Str)) = false := by decide) :
  PS X.nox (.Try body [.ExceptHandler (some (.Name cn np)) (some n) (b₀ :: suite) hp] [] [] pos) (tTryAs X.K Dc i tb th):=by
 intro pins s σ H D I h
 refine wpAny_Try_except (wpAny_mono (hb pins s σ H D _ I h) (fun fl s1 q=>?_) fun e s' z=>?_)
 ·cases fl with
  | next=>exact wpAny_execs_nil q
  | brk=>exact q
  | cont=>exact q
  | ret u=>exact q
 ·obtain ⟨a,rfl⟩ : ∃ a,e = .ref a:=by obtain ⟨_,_,_,a,_,_,_,ea,_⟩:=z; exact ⟨a,ea⟩
  refine to_suite (X:=X) (pins:=pins) (σ:=σ) (name:=some n) (W:=fun cls dx H'=>∃ C,cls = .ref C∧∀ e o,H' e = none→XObj o C dx→th e o (afterS D i) (σ.set i (some (.ref e))) H') hst hfr hg hm hdb ?_ fun h5 H' C oe J5 na c5 q land=>?_
  ·obtain ⟨H1,s1,I1,a',cls,dx,H',r1,r2,r3,r4,r5,r6,r7,r8,C,rfl,ct,q⟩:=z
   exact ⟨H1,s1,I1,a',_,dx,H',r1,r2,r3,r4,r5,r6,r7,r8,C,rfl,ct,C,rfl,q⟩
  ·obtain ⟨C',e',q⟩:=q
   cases e'
   refine codeAny_handlers_suite_as (land _ (fun h6 oe6 J6 x6=>?_) _ _)
   refine store_ok (X:=X.nox.hold a oe6) J6 hN hi (.inl hl) (v:=.ref a) (u:=.ref a) rfl (fun s7 J7=>?_) (.inr hl)
   refine wpAny_mono (hh a oe6 pins s7 _ H' (afterS D i) J7 (q a oe6 na x6)) (fun fl s8 z=>?_) (fun _ _ z=>False.elim z)
   cases fl with
   | next=>obtain ⟨σ',H2,J8,q8⟩:=z; exact gone_ok (X:=X.nox) (Inv.unhold I.ok J8) hN hi hl fun s9 J9=>⟨_,H2,J9,q8⟩
   | brk=>obtain ⟨σ',H2,J8,q8⟩:=z; exact gone_ok (X:=X.nox) (Inv.unhold I.ok J8) hN hi hl fun s9 J9=>⟨_,H2,J9,q8⟩
   | cont=>obtain ⟨σ',H2,J8,q8⟩:=z; exact gone_ok (X:=X.nox) (Inv.unhold I.ok J8) hN hi hl fun s9 J9=>⟨_,H2,J9,q8⟩
   | ret u=>obtain ⟨v,σ',H2,J8,r8,q8⟩:=z; exact gone_ok (X:=X.nox) (Inv.unhold I.ok J8) hN hi hl fun s9 J9=>⟨v,_,H2,J9,r8,q8⟩
end
end L2
namespace L2
open PySem PySem.Spec PyProof.Rows PySem.W
structure XAttr (K : PySem.W.Frag) (C : Addr) : Prop where
 ga : findIn K (.ref C) "__getattribute__" = some (some (.builtin "BaseException.__getattribute__"))
 gh : findIn K (.ref C) "__getattr__" = some none
 mb : mroIn K C (.type "BaseException") = some true
 mo : mroIn K C (.type "object") = some true
 ca : findIn K (.ref C) "__class__" = some (some (.builtin "object.__class__"))
 cg : specialIn K (.builtin "object.__class__") "__get__" = some (some (.builtin "getset_descriptor.__get__"))
 ck : takesIn K (.builtin "object.__class__") = some true
section
variable {prog : Program} {w : World} {A : Around} {E : Value→Shared→Prop} {s : Shared} {K : PySem.W.Frag} {x C : Addr} {ox : Obj} {od : Option Obj} {name : Str} {tk : Tok}
theorem xa_check {M : Model} {nv : Value} {Q : Unit → Shared → Prop} (X : K.In s.heap) (I : InstAt s.heap x ox C od) (hb : mroIn K C (.type "BaseException") = some true) (hq : Q () s) :
  wpAny M A (checkBuiltinCall "BaseException.__getattribute__" ⟨[.ref x, nv], []⟩) Q E s := by
 have hk : builtinKind "BaseException.__getattribute__" = some .slot := by decide +kernel
 have hs : splitId "BaseException.__getattribute__" = some ("BaseException", "__getattribute__") := by decide +kernel
 have ha:=F.args_bexc_ga (.ref x) nv
 have L : Looks M s.heap (isInstance (.ref x) (.type "BaseException")) true := I.type.andThen (looks_mroIn X hb)
 obtain ⟨h,g,d,t,os⟩:=s
 simp only [checkBuiltinCall,hk,hs]
 refine wpAny_bind (L.at ?_)
 repeat (any_goals (first | assumption | wp_step))
theorem xa_by {fill expr : Bool} {Q : Value→Shared→Prop} (X : K.In s.heap) (I : InstAt s.heap x ox C od) (a : XAttr K C)
  (h : ∀ A',wpAny (model prog w) A' (Builtin.«object.__getattribute__» ⟨[.ref x,.str name tk],[]⟩) (fun fin s'=>match fin with | .done (.ret v)=>wpAny (model prog w) A (handedOut v) Q E s' | _=>False) (fun _ _=>False) s) :
  wpAny (model prog w) A (getAttrBy (.ref x) (.str name tk) fill expr) Q E s:=by
 have L0:=I.type (M:=model prog w)
 have L1:=looks_findIn (M:=model prog w) X a.ga
 have L2 : Looks (model prog w) s.heap (hookBefore (.ref C)) none := looks_hook X (show findIn K (.ref C) "__getattr__" = _ from a.gh)
 obtain ⟨hh,g,d,t,os⟩:=s
 unfold getAttrBy
 refine wpAny_holding (wpAny_bind (L0.at (wpAny_bind (L1.at ?_))))
 have e1 : (onTheHeap (.ref C) && Value.builtin "BaseException.__getattribute__" == .builtin "object.__getattribute__") = false := by
  rw [show (Value.builtin "BaseException.__getattribute__" == Value.builtin "object.__getattribute__") = false from by decide +kernel]; rfl
 show wpAny _ _ (if (onTheHeap (.ref C) && Value.builtin "BaseException.__getattribute__" == .builtin "object.__getattribute__") = true then _ else _) _ _ _
 rw [if_neg (by rw [e1]; exact Bool.false_ne_true)]
 unfold getAttrByItsOwn
 refine wpAny_bind (L2.at (wpAny_bind (wpAny_attempt (wpAny_holding ?_))))
 unfold callGetattribute
 rw [if_neg (by cases expr <;> exact Bool.false_ne_true)]
 unfold boundAndCalled
 refine wpAny_bind (wpAny_of_eq (PySem.F.attr_ValueError.ga.bind (.ref x)) ?_)
 refine wpAny_call (codeAny_call_builtin PySem.F.attr_ValueError.ga.plain F.entry_bexc_ga (xa_check X I a.mb ?_))
 refine wpAny_mono (h _) (fun fin s' z=>?_) fun _ _ z=>False.elim z
 rcases fin with (_ | _ | _ | _) | _ <;> first | exact z | exact z.elim
theorem xa_value {expr : Bool} {v : Value} {Q : Value→Shared→Prop} (X : K.In s.heap) (I : InstAt s.heap x ox C od) (a : XAttr K C) (hf : findObj K C od name = some (.value v)) (hh : handedIn v = true) (hq : Q v { s with toks:=s.toks + 1 }) :
  wpAny (model prog w) A (getAttr (.ref x) name expr) Q E s:=by
 obtain ⟨hp,g,d,t,os⟩:=s
 unfold getAttr
 refine wpAny_bind (wpAny_mkText (xa_by X I a fun A'=>?_))
 have L0:=I.type (M:=model prog w)
 have L1:=looks_find (M:=model prog w) X I hf
 unfold Builtin.«object.__getattribute__»
 refine wpAny_bind (wpAny_pure (wpAny_bind (wpAny_pure (wpAny_bind (L0.at (wpAny_bind (L1.at ?_)))))))
 refine wpAny_pure ?_
 show wpAny _ _ (handedOut v) _ _ _
 rw [handedOut_of hh]
 exact wpAny_pure hq
theorem fo_data {g a : Value} (hc : (clsIn K C).isSome = true) (e1 : findIn K (.ref C) name = some (some a)) (e2 : specialIn K a "__get__" = some (some g)) (e3 : takesIn K a = some true) : findObj K C od name = some (.bind g a) := by
 obtain ⟨cd,z⟩:=Option.isSome_iff_exists.mp hc
 unfold findObj
 rw [z]
 simp [e1,e2,e3]
theorem xa_class {Q : Option Value→Shared→Prop} (hc : (clsIn K C).isSome = true) (X : K.In s.heap) (I : InstAt s.heap x ox C od) (a : XAttr K C) (hq : Q (some (.ref C)) { s with toks:=s.toks + 1 }) :
  wpAny (model prog w) A (getAttr? (.ref x) "__class__") Q E s := by
 obtain ⟨hp,g,d,t,os⟩:=s
 unfold getAttr? getAttrBy?
 refine wpAny_bind (wpAny_mkText (wpAny_bind (wpAny_attempt (xa_by (s:=⟨hp,g,d,t + 1,os⟩) X I a fun A'=>?_))))
 have L0:=I.type (M:=model prog w)
 have L1:=looks_find (M:=model prog w) X I (fo_data (od:=od) hc a.ca a.cg a.ck)
 unfold Builtin.«object.__getattribute__»
 refine wpAny_bind (wpAny_pure (wpAny_bind (wpAny_pure (wpAny_bind (L0.at (wpAny_bind (L1.at ?_)))))))
 refine wpAny_bind (wpAny_holding (wpAny_call (class_get (s:=⟨hp,g,d,t + 1,os⟩) X I a.mo ?_)))
 exact wpAny_pure (wpAny_pure (wpAny_pure hq))
theorem kitx_exc (hc : (clsIn K C).isSome = true) (a : XAttr K C) : KitX K (.ref x) (.ref C) (fun h=>InstAt h x ox C od) where
 ty:=fun _ _ _ I=>I.type
 it:=fun _ _ X _=>by
  unfold clsIn at hc
  split at hc
  case h_2=>cases hc
  case h_1 cd lk =>
   intro A1 Q1 E1 s1 k1 q1
   unfold isType loadHead
   exact wpAny_bind (wpAny_loadPart (k1 _ _ (X _ _ lk)) (wpAny_pure q1))
 ne:=fun h tp dd its n sl X htp=>by
  unfold clsIn at hc
  split at hc
  case h_2=>cases hc
  case h_1 cd lk =>
   refine Bool.eq_false_iff.mpr fun q=>?_
   have e : C = tp:=Value.ref.inj (beq_iff_eq.mp q)
   subst e
   have z:=(X _ _ lk).symm.trans htp
   cases z
 ca:=fun X I k=>xa_class hc X I a k
end
structure XIs (K : PySem.W.Frag) (C : Addr) : Prop where
 cl : (clsIn K C).isSome = true
 at_ : XAttr K C
section
variable {X : Cx} {pins : List (Addr × Obj)} {σ : St} {H : Hp} {s : Shared} {e C : Addr} {o : Obj} {dx : Option Addr}
def XDict (H : Hp) (dx : Option Addr) : Prop:=∀ d,dx = some d→∃ fs,H d = some (.xd fs)
theorem Inv.held (I : Inv X pins σ H s) (hm : (e,o) ∈ X.pn) (x : XObj o C dx) (hd : XDict H dx) : ∃ od,InstAt s.heap e o C od:=by
 have at1:=(I.pin _ (List.mem_append_left _ hm)).1
 cases dx with
 | none=>exact ⟨none,at1,x.cls,x.no,by rw [x.dict]; trivial⟩
 | some d =>
  obtain ⟨fs,hf⟩:=hd d rfl
  obtain ⟨od,ho⟩:=(I.hok d _ hf).has
  exact ⟨some od,at1,x.cls,x.no,by rw [x.dict]; exact ho⟩
theorem vals_refs : ∀ {ds : List Addr} {its : List Value},Vals (ds.map V.ref) its→its = ds.map Value.ref
 | [],_,.nil=>rfl
 | d :: ds,_,.cons a t=>by
  obtain rfl:=(show _ = Value.ref d from a)
  rw [vals_refs t]
  rfl
def clsV : V→Value→Prop:=fun v c=>(∃ n,v = .ty n∧c = .type n) ∨ (∃ D,v = .ref D∧c = .ref D)
theorem call_isX : CallR X (.builtin "isinstance") (fun xs H Q => ∃ (e : Addr) (o : Obj) (C : Addr) (dx : Option Addr) (v : V) (c : Value) (b : Bool), xs = [.ref e, v] ∧ (e, o) ∈ X.pn ∧ XObj o C dx ∧ XDict H dx ∧ XIs X.K C ∧ clsV v c ∧ kitOne X.K (.ref C) c = some b ∧ Q (.bl b) H) := by
 intro pins s σ H xs us Q I r h
 obtain ⟨e,o,C,dx,v,c,b,rfl,hm,xo,xd,xi,cv,k,q⟩:=h
 obtain ⟨u1,u2,rfl,r1,r2⟩:=vals2 r
 obtain rfl : u1 = Value.ref e:=r1
 obtain ⟨od,J⟩:=I.held hm xo xd
 have e2 : u2 = c:=by
  rcases cv with ⟨n,rfl,rfl⟩ | ⟨D,rfl,rfl⟩
  ·exact r2
  ·exact r2
 subst e2
 exact kia_one (kitx_exc (od:=od) (ox:=o) xi.cl xi.at_) I.kIn J k (fun z=>nomatch z) fun tk=>⟨.bl b,H,I.tok tk,rfl,q⟩
theorem call_isXT : CallR X (.builtin "isinstance") (fun xs H Q => ∃ (e : Addr) (o : Obj) (C tp : Addr) (dx : Option Addr) (ds : List Addr) (b : Bool), xs = [.ref e, .ref tp] ∧ H tp = some (.tup (ds.map V.ref)) ∧ (e, o) ∈ X.pn ∧ XObj o C dx ∧ XDict H dx ∧ XIs X.K C ∧ kitAny X.K (.ref C) (ds.map Value.ref) = some b ∧ Q (.bl b) H) := by
 intro pins s σ H xs us Q I r h
 obtain ⟨e,o,C,tp,dx,ds,b,rfl,ht,hm,xo,xd,xi,k,q⟩:=h
 obtain ⟨u1,u2,rfl,r1,r2⟩:=vals2 r
 obtain rfl : u1 = Value.ref e:=r1
 obtain rfl : u2 = Value.ref tp:=r2
 obtain ⟨od,J⟩:=I.held hm xo xd
 obtain ⟨_,its,rv,p⟩:=(show ObjOk X.prog X.w H s.heap tp (.tup (ds.map V.ref)) from I.hok tp _ ht)
 obtain ⟨⟨oc,od2,oda,sl⟩,h1,h2,h3⟩:=p
 have ei : its = ds.map Value.ref:=vals_refs rv
 subst ei
 obtain ⟨n,h3⟩:=h3
 try dsimp only at h2 h3
 subst h2 h3
 exact kia_tup (kitx_exc (od:=od) (ox:=o) xi.cl xi.at_) I.kIn J h1 k (fun z=>nomatch z) fun tk=>⟨.bl b,H,I.tok tk,rfl,q⟩
end
theorem ec_lookup {K : PySem.W.Frag} {C : Addr} {bm : List Value} (q : ecIn K C bm = true) : ∃ d cd sl, K.lookup C = some ⟨.type "type", d, .cls cd, sl⟩ ∧ cd.mro = .ref C :: bm := by
 unfold ecIn at q
 split at q
 case h_2=>cases q
 case h_1 d cd sl lk =>
  split at q
  case h_2=>cases q
  case h_1 C2 tl a b c d2 n e2 hm hs =>
   simp only [Bool.and_eq_true,beq_iff_eq,Bool.not_eq_true'] at q
   obtain ⟨⟨⟨⟨⟨c1,c2⟩,_⟩,_⟩,_⟩,_⟩:=q
   subst c1 c2
   exact ⟨d,cd,sl,lk,hm⟩
theorem ec_cls {K : PySem.W.Frag} {C : Addr} {bm : List Value} (q : ecIn K C bm = true) : (clsIn K C).isSome = true:=by
 obtain ⟨d,cd,sl,lk,_⟩:=ec_lookup q
 unfold clsIn
 rw [lk]
 rfl
theorem ec_mro {K : PySem.W.Frag} {C : Addr} {bm : List Value} (q : ecIn K C bm = true) (v : Value) : mroIn K C v = some ((Value.ref C :: bm).contains v):=by
 obtain ⟨d,cd,sl,lk,hm⟩:=ec_lookup q
 unfold mroIn clsIn
 rw [lk]
 show (if cd.mro.isEmpty then none else some (cd.mro.contains v)) = _
 rw [hm]
 rfl
theorem ec_one {K : PySem.W.Frag} {C D : Addr} {bm bd : List Value} (q : ecIn K C bm = true) (qd : ecIn K D bd = true) : kitOne K (.ref C) (.ref D) = some ((Value.ref C :: bm).contains (.ref D)):=by
 unfold kitOne
 by_cases z : (Value.ref C == Value.ref D) = true
 ·rw [if_pos z,List.contains_cons,show (Value.ref D == Value.ref C) = true from by rw [beq_iff_eq] at z ⊢; exact z.symm]
  rfl
 ·rw [if_neg z]
  unfold kitCls
  obtain ⟨d,cd,sl,lk,_⟩:=ec_lookup qd
  have ty : typeIn K (.ref D) = some (.type "type") := by
   show Option.map (fun x=>x.cls) (K.lookup D) = _
   rw [lk]
   rfl
  show (if ((clsIn K D).isSome && typeIn K (.ref D) == some (.type "type")) = true then subIn K (.ref C) (.ref D) else none) = _
  rw [ec_cls qd,ty]
  exact ec_mro q _
theorem ec_type {K : PySem.W.Frag} {C : Addr} {bm : List Value} (q : ecIn K C bm = true) {T : String} (hT : kitMeta T = true) : kitOne K (.ref C) (.type T) = some ((Value.ref C :: bm).contains (.type T)):=by
 unfold kitOne
 rw [if_neg (by simp)]
 unfold kitCls
 try dsimp only
 rw [if_pos hT]
 exact ec_mro q _
theorem kitMeta_VE : kitMeta "ValueError" = true := by decide +kernel
end L2
namespace L2
open PySem PySem.Spec PyProof.Rows
theorem bt_ValueError : bootBuiltins "ValueError" = some (.type "ValueError") := PyProof.Rows.Boot.«ValueError»
section
variable {P : Program} {w : World} {K : PySem.W.Frag} {mg : Str→Option Value} {base : Heap}
theorem Fun.okF {x qual : Str} {st : Stmt} {f : Addr} {fd : FuncData} {N ps : List Str} {k : Nat} {sp : Sp} (F : Fun K x qual st f fd) (S : FnScope N ps (defScope st)) (len : ∀ vs H Q E,sp vs H Q E→vs.length = ps.length)
  (hb : ∀ (cdv : Value) (A : Around) (outer : List Env) (s : Shared) (H : Hp) (vs : List V) (Q : VK) (E : XK),Room k (A.deeper (envOfC qual (defScope st) s.heap.objs.size f cdv))→sp vs H Q E →
   ∃ t,PSs (cxOf (CXF P w) P w K mg base N qual (defScope st) f cdv A outer s H E) (defBody st) t∧t { nx:=fun _ H'=>Q .non H',rt:=Q } (start N vs) H) : FnOk P w K mg base (CXF P w) (k + 1) f fd ps sp:=by
 obtain ⟨oc,od,kV,doc,pm,an,cdv,ct,osl,rfl,lk,hcd⟩:=F.ex
 exact fn_of lk hcd S len fun A outer s H vs Q E hr hsp=>hb cdv A outer s H vs Q E hr hsp
theorem FnOk.never {k : Nat} {f : Addr} {fd : FuncData} {ps : List Str} {sp : Sp} (F : FnOk P w K mg base (CXF P w) k f fd ps sp) : FnOk P w K mg base CX0 k f fd ps (fun vs H Q _=>sp vs H Q E0):=by
 refine ⟨fun vs H Q E h=>F.len vs H Q E0 h,fun A outer s H args us vs Q E hr he hb r h=>codeAny_mono (F.run A outer s H args us vs Q E0 hr he hb r h) fun r s' q=>?_⟩
 cases r with
 | error e =>
  obtain ⟨_,_,_,_,_,_,_,_,_,_,_,_,z⟩:=q
  exact z
 | ok fl=>cases fl <;> exact q
end
abbrev small (xs : List Int) : Prop:=∀ x ∈ xs,x.natAbs < 10 ^ 60
section
open PySem.W
variable {K : PySem.W.Frag} {C D A : Addr} {bd : List Value}
theorem ec_no (q : ecIn K C (.ref A :: excMro) = true) (qd : ecIn K D bd = true) (h1 : D ≠ C) (h2 : D ≠ A) : kitOne K (.ref C) (.ref D) = some false:=by
 rw [ec_one q qd]
 simp [h1,h2]
theorem ec_up (q : ecIn K C (.ref A :: excMro) = true) (qd : ecIn K A bd = true) : kitOne K (.ref C) (.ref A) = some true:=by
 rw [ec_one q qd]
 simp
theorem ec_VE (q : ecIn K C (.ref A :: excMro) = true) : kitOne K (.ref C) (.type "ValueError") = some true := by
 rw [ec_type q kitMeta_VE]
 simp
theorem caught_self (q : ecIn K C (.ref A :: excMro) = true) : Caught K C C:=⟨_,_,q,q,by simp⟩
end
end L2
namespace L2
open PySem PySem.Spec PyProof.Rows
def xoAt (C t : Addr) (dx : Option Addr) (e : Addr) : Heap→Prop:=fun h=>h.get? e = some { cls:=.ref C,dict:=dx,data:=.fields #[.ref t,.none,.none,.none,.bool false,.none] }
theorem xo_ok {P : Program} {w : World} {H : Hp} {h : Heap} {C t e : Addr} {dx : Option Addr} (x : xoAt C t dx e h) : ObjOk P w H h e (.ext (xoAt C t dx e)):=⟨x,⟨_,x⟩,fun h1 h2 y k=>k _ y⟩
def drop (H : Hp) (e : Addr) : Hp:=fun b=>if b = e then none else H b
theorem drop_self {H : Hp} {e : Addr} : drop H e e = none:=by unfold drop; rw [if_pos rfl]
theorem drop_ne {H : Hp} {e b : Addr} (h : b ≠ e) : drop H e b = H b:=by unfold drop; rw [if_neg h]
theorem HOk.dropped {P : Program} {w : World} {H : Hp} {h : Heap} {e : Addr} {φ : Heap→Prop} (ok : HOk P w H h) (he : H e = some (.ext φ)) : HOk P w (drop H e) h:=fun a o z=>by
 have ne : a ≠ e:=fun q=>by rw [q,drop_self] at z; cases z
 rw [drop_ne ne] at z
 refine (ok a o z).stay (fun _ _ _ q=>q) (fun b q=>?_) fun b xs q=>?_
 ·rw [drop_ne (fun y=>by rw [y,he] at q; cases q)]; exact q
 ·rw [drop_ne (fun y=>by rw [y,he] at q; cases q)]; exact q
section
variable {P : Program} {w : World} {K : PySem.W.Frag} {mg : Str→Option Value} {base : Heap} {N : List Str} {qual : Str} {scope : Scope} {f : Addr} {cd : Value} {A : Around} {outer : List Env} {s : Shared} {H : Hp} {E : XK}
def RaiseOkI (X : Cx) (C : Addr) (E : XK) : Prop:=∀ (pins : List (Addr × Obj)) (σ : St) (H : Hp) (s : Shared) (e t : Addr) (dx : Option Addr),Inv X pins σ H s→H e = some (.ext (xoAt C t dx e))→X.s₀.heap.get? e = none→E (.ref C) dx (drop H e)→X.xe (.ref e) s
theorem raiseFI {C : Addr} : RaiseOkI (cxOf (CXF P w) P w K mg base N qual scope f cd A outer s H E) C E:=by
 intro pins σ H1 s1 e t dx I hx na' q
 have eL : (cxOf (CXF P w) P w K mg base N qual scope f cd A outer s H E).env.frame = some s.heap.objs.size:=rfl
 generalize hl : frs ((cxOf (CXF P w) P w K mg base N qual scope f cd A outer s H E).stack) = fs
 have hfs : fs = s.heap.objs.size :: frs outer:=by rw [← hl]; exact frs_cons eL
 have he : s1.heap.get? e = some { cls:=.ref C,dict:=dx,data:=.fields #[.ref t,.none,.none,.none,.bool false,.none] }:=(show ObjOk P w H1 s1.heap e (.ext (xoAt C t dx e)) from I.hok e _ hx).1
 have FF:=PySem.W.funFrames_hide (as:=e :: fs) I.stack (fun env he a ha=>List.mem_cons_of_mem _ (by rw [← hl]; exact List.mem_filterMap.mpr ⟨env,he,ha⟩))
 have st : (PySem.W.hideAll s1.heap (e :: fs)).StaysIn s1.heap:=fun b o z=>PySem.W.of_hideAll _ z
 have hen : (PySem.W.hideAll s1.heap (e :: fs)).get? e = none:=PySem.W.hideAll_none _ List.mem_cons_self
 show wpAny _ _ (leaving _ (.ref e)) _ _ _
 refine wpAny_mono ((kd_leaving _ _).any (wpAny_leaving_firstW (Q:=fun _ s''=>Heap.LeftW (PySem.W.hideAll s1.heap (e :: fs)) ((cxOf (CXF P w) P w K mg base N qual scope f cd A outer s H E).env :: outer) e (.ref C) (.ref t) s1.heap s''.heap∧s'' = { s1 with heap:=s''.heap }) I.ok.frames FF eL he st hen rfl rfl rfl fun h' L'=>⟨L',rfl⟩)) (fun _ s'' z=>?_) fun _ _ z=>z
 obtain ⟨⟨⟨k1,⟨_,_,k2⟩,k3,U⟩,es⟩,dk⟩:=z
 have F' : Heap.FlyingW (PySem.W.hideAll s1.heap (e :: fs)) outer e (.ref C) (.ref t) s''.heap:=⟨k1,hen,k2,k3⟩
 obtain ⟨oe',he',_,hd'⟩:=dk e _ he
 have exN : ∀ b : Addr,b ∉ (cxOf (CXF P w) P w K mg base N qual scope f cd A outer s H E).ex:=fun b z=>absurd z (by simp [cxOf])
 have kp : ∀ b o,s1.heap.get? b = some o→b ≠ e→b ∉ fs→(PySem.W.hideAll s1.heap (e :: fs)).get? b = some o:=fun b o z n1 n2=>PySem.W.hideAll_get _ z (fun y=>(List.mem_cons.mp y).elim n1 n2)
 have old : ∀ b o,s.heap.get? b = some o→H b = none→b ∉ frs outer→(PySem.W.hideAll s1.heap (e :: fs)).get? b = some o:=fun b o e' n hb=>by
  refine kp b o (I.base.keep b o e' n hb (exN b)) (fun z=>?_) fun z=>?_
  ·rw [z] at e'
   rw [show s.heap.get? e = none from na'] at e'
   cases e'
  ·rw [hfs] at z
   rcases List.mem_cons.mp z with z | z
   ·rw [z] at e'; exact absurd (Heap.lt_size e') (Nat.lt_irrefl _)
   ·exact hb z
 have trk : ∀ b u o,(drop H1 e) b = some u→s1.heap.get? b = some o→(PySem.W.hideAll s1.heap (e :: fs)).get? b = some o:=fun b u o hu ho=>by
  have ne : b ≠ e:=fun z=>by rw [z,drop_self] at hu; cases hu
  refine kp b o ho ne fun z=>?_
  rw [drop_ne ne] at hu
  have:=I.stkFree b (by rw [hl]; exact z)
  rw [this] at hu; cases hu
 have okd:=I.hok.dropped hx
 have trk' : ∀ b u o,(drop H1 e) b = some u→s''.heap.get? b = some o→(PySem.W.hideAll s1.heap (e :: fs)).get? b = some o:=fun b u o hu ho=>by
  obtain ⟨ob,hob⟩:=(okd b u hu).has
  have z:=trk b u ob hu hob
  rw [F'.1 b ob z] at ho
  cases ho
  exact z
 have nx : ∀ b u,H1 b = some u→(∀ φ,u ≠ .ext φ)→b ≠ e:=fun b u z n y=>by rw [y,hx] at z; cases z; exact n _ rfl
 refine ⟨e,.ref C,dx,drop H1 e,rfl,by rw [es]; exact I.os,by rw [es]; exact I.bare,⟨fun b o e' n hb _=>F'.1 b o (old b o e' n hb),fun b o e' n hb hx'=>?_,fun b o e' n hx'=>?_,fun b o e' hx'=>?_,fun b xs z=>?_,fun b o u z=>?_,fun b ps z=>?_⟩,okd.based trk F'.1,drop_self,na',⟨_,_,F',old,trk',oe',he',hd'⟩,q⟩
 ·obtain ⟨sl,e1⟩:=I.base.slot b o e' n hb (exN b)
  obtain ⟨_,ob,ho,nf⟩:=I.stack.mem (b:=b) (by show b ∈ frs _; rw [hl,hfs]; exact List.mem_cons_of_mem _ hb)
  rw [e1] at ho
  cases ho
  obtain ⟨sl',e2⟩:=U b _ e1 nf
  exact ⟨sl',e2⟩
 ·have z:=I.base.free b o e' n (exN b)
  by_cases hb : b = e
  ·rw [hb]; exact drop_self
  ·rw [drop_ne hb]; exact z
 ·obtain ⟨o',e1⟩:=I.base.there b o e' (exN b)
  obtain ⟨o2,e2,_⟩:=dk b o' e1
  exact ⟨o2,e2⟩
 ·have y:=I.base.tups b xs z
  rw [drop_ne (nx b _ y fun φ q=>by cases q)]; exact y
 ·have y:=I.base.frzs b o u z
  rw [drop_ne (nx b _ y fun φ q=>by cases q)]; exact y
 ·obtain ⟨m,y⟩:=I.base.tbls b ps z
  exact ⟨m,by rw [drop_ne (nx b _ y fun φ q=>by cases q)]; exact y⟩
end
end L2
namespace L2
open PySem PySem.Spec PyProof.Rows PySem.W PySem.Builtin PySem.Builtin.ObjectAttr
structure XSet (K : PySem.W.Frag) (C : Addr) : Prop where
 sa : findIn K (.ref C) "__setattr__" = some (some (.builtin "object.__setattr__"))
 hd : hasDictIn K C = true
section
variable {prog : Program} {w : World} {A : Around} {E : Value→Shared→Prop} {K : PySem.W.Frag} {x C B : Addr} {name : Str} {v : Value}
theorem xs_store {h : Heap} {g : Array GenState} {d : Drawn} {t : Nat} {os : OsState} {o : Obj} {vs : Array Value} {tk : Tok} {b : Bool} {Q : Fin→Shared→Prop} (X : K.In h) (hx : h.get? x = some o) (hc : o.cls = .ref C) (hn : o.dict = none) (hv : o.data = .fields vs) (hd : hasDictIn K C = true)
  (q : ∀ h' tk',h'.get? x = some { o with dict:=some h.objs.size }→h'.Ns1 h.objs.size (fun y=>if y = name then some v else none)→(∀ c oc,c ≠ x→h.get? c = some oc→h'.get? c = some oc)→Q (.done (.ret .none)) ⟨h',g,d,tk',os⟩) :
  wpAny (model prog w) A (storeInOwnDict (.ref x) (.ref C) (.str name tk) name v b) Q E ⟨h,g,d,t,os⟩:=by
 obtain ⟨cd,hcd,hdd⟩:=any_some hd
 have hxs : x ≠ h.objs.size:=Nat.ne_of_lt (Heap.lt_size hx)
 obtain ⟨oc,od,dt,sl⟩:=o
 try dsimp only at hc hn hv
 subst hc hn hv
 refine wpAny_bind (wpAny_pure (wpAny_bind (wpAny_bind (wpAny_loadPart hx (wpAny_bind ((looks_clsIn X hcd).here ?_))))))
 rw [hdd]
 have hx1 := Heap.get?_push_of_some ({ cls := .type "dict", data := .dict #[] } : Obj) hx
 refine wpAny_bind (wpAny_alloc' (wpAny_bind (wpAny_update' hx1 ?_)))
 refine wpAny_pure ?_
 generalize eh : ((h.push { cls := .type "dict", data := .dict #[] }).update x fun o => { cls := o.cls, dict := some h.objs.size, data := o.data, slots := o.slots }) = h2
 have g2 : h2.get? h.objs.size = some { cls := .type "dict", data := .dict #[] } := by rw [← eh]; exact (Heap.get?_update_ne _ _ _ _ hxs.symm).trans (Heap.get?_push_at rfl rfl)
 have gx : h2.get? x = some { cls:=.ref C,dict:=some h.objs.size,data:=.fields vs,slots:=sl }:=by rw [← eh]; exact Heap.get?_update_self _ hx1 rfl
 have go : ∀ c oc,c ≠ x→h.get? c = some oc→h2.get? c = some oc:=fun c oc n z=>by rw [← eh]; exact (Heap.get?_update_ne _ _ _ _ n).trans (Heap.get?_push_of_some _ z)
 have nd : h2.Ns h.objs.size (fun _=>none):=⟨_,#[],_,g2,rfl,fun e he=>absurd he (by simp),fun _=>rfl⟩
 show wpAny _ _ (storeInDict h.objs.size (.str name tk) name v) _ _ _
 unfold storeInDict newKeyGuard
 refine wpAny_bind (wpAny_pure (wpAny_bind (wpAny_nsSet1 (Heap.Ns1.of_empty nd) fun h' n' sm=>?_)))
 obtain ⟨oD,esD,epD,o1,o2,o3⟩:=n'.count (Within.cons name v Within.nil)
 refine wpAny_bind (wpAny_lookBehind o1 (by rw [o2]; exact pastItsLine_dict (Nat.le_trans o3 (by rw [List.length_cons,List.length_nil,sizeLine_eq]; omega))) ?_)
 exact wpAny_pure (q h' _ ((sm.2 x hxs).trans gx) n' fun c oc n z=>(sm.2 c (Nat.ne_of_lt (Heap.lt_size z))).trans (go c oc n z))
theorem xs_set {s : Shared} {o : Obj} {vs : Array Value} {bm : List Value} {Q : Unit→Shared→Prop} (X : K.In s.heap) (hx : s.heap.get? x = some o) (hc : o.cls = .ref C) (hn : o.dict = none) (hv : o.data = .fields vs) (ec : ecIn K C (.ref B :: excMro) = true) (a : XSet K C) (na : findIn K (.ref C) name = some none)
  (q : ∀ h' tk',h'.get? x = some { o with dict:=some s.heap.objs.size }→h'.Ns1 s.heap.objs.size (fun y=>if y = name then some v else none)→(∀ c oc,c ≠ x→s.heap.get? c = some oc→h'.get? c = some oc)→Q () { s with heap:=h',toks:=tk' }) :
  wpAny (model prog w) A (setAttr (.ref x) name v) Q E s:=by
 have I : InstAt s.heap x o C none:=⟨hx,hc,by unfold notCls; rw [hv],by rw [hn]; trivial⟩
 obtain ⟨h,g,d,t,os⟩:=s
 refine set_plain X I a.sa ?_
 have SF:=PySem.F.store_object
 have sub : Looks (model prog w) h (isInstance (.ref x) (.type "object")) true := I.type.andThen (looks_mroIn X ((ec_mro ec _).trans (by simp)))
 refine codeAny_call_builtin SF.slot.plain SF.entry (@check_slot (model prog w) _ _ ⟨h, g, d, t + 1, os⟩ "object.__setattr__" "object" "__setattr__" (.ref x) [.str name t, v] [] _ SF.kind SF.split sub (SF.args (.ref x) (.str name t) v) ?_)
 obtain ⟨dd,cd,sl,lk,hm⟩:=ec_lookup ec
 have hcd : clsIn K C = some cd:=by unfold clsIn; rw [lk]
 have L1 : Looks (model prog w) h (mroOf (.ref C)) cd.mro:=(looks_clsIn X hcd).andThen .now
 have L0:=I.type (M:=model prog w)
 have L2:=looks_findIn (M:=model prog w) X na
 try dsimp only at L0 L2
 rw [osa_eq,refuse_eq]
 refine wpAny_bind (wpAny_bind (L0.at (wpAny_bind (L1.at ?_))))
 rw [hm,refuseLoop_ref,refuseLoop_ref,PySem.F.store_ValueError.passes]
 refine wpAny_pure (wpAny_bind (L0.at (wpAny_bind (L2.at (wpAny_bind ?_)))))
 refine wpAny_pure ?_
 exact xs_store X hx hc hn hv a.hd fun h' tk' z1 z2 z3=>q h' tk' z1 z2 z3
end
end L2
namespace L2
open PySem PySem.Spec PyProof.Rows PySem.W
section
variable {X : Cx} {pins : List (Addr × Obj)} {σ : St} {H : Hp} {s : Shared} {e C B t : Addr}
theorem Inv.dictLaid {h' : Heap} {tk : Nat} {f : Str} {y : V} {u : Value} {dx : Addr} (I : Inv X pins σ H s) (he : H e = some (.ext (xoAt C t none e))) (hdx : s.heap.objs.size = dx) (ry : RelV y u) (z1 : xoAt C t (some dx) e h') (z2 : h'.Ns1 dx (fun n=>if n = f then some u else none))
  (z3 : ∀ c oc,c ≠ e→s.heap.get? c = some oc→h'.get? c = some oc) : Inv X pins σ (upd (upd H dx (.xd [(f,y)])) e (.ext (xoAt C t (some dx) e))) { s with heap:=h',toks:=tk }:=by
 subst hdx
 have nd : H s.heap.objs.size = none:=I.hok.fresh (Nat.le_refl _)
 have ned : e ≠ s.heap.objs.size:=fun z=>by rw [← z,he] at nd; cases nd
 have ne : ∀ b u,H b = some u→(∀ φ,u ≠ .ext φ)→b ≠ e:=fun b u z n q=>by rw [q,he] at z; cases z; exact n _ rfl
 have nz : ∀ b u,H b = some u→b ≠ s.heap.objs.size:=fun b u z q=>by rw [q,nd] at z; cases z
 have kp : ∀ b u,H b = some u→(∀ φ,u ≠ .ext φ)→upd (upd H s.heap.objs.size (.xd [(f,y)])) e (.ext (xoAt C t (some s.heap.objs.size) e)) b = some u:=fun b u z n=>by rw [upd_ne (ne b u z n),upd_ne (nz b u z)]; exact z
 have fr : ∀ b o,s.heap.get? b = some o→H b = none→b ≠ e:=fun b o _ n q=>by rw [q,he] at n; cases n
 refine I.un (h':=h') (t':=tk) ⟨fun b o z n _ _=>z3 b o (fr b o z n) z,fun b o z n _ _=>⟨o.slots,z3 b o (fr b o z n) z⟩,fun b o z n _=>?_,fun b o z _=>?_,fun b xs z=>kp b _ z fun φ q=>(by cases q),fun b o u z=>kp b _ z fun φ q=>(by cases q),fun b ps z=>⟨#[],by rw [kp b _ z fun φ q=>(by cases q)]; simp⟩⟩ fun a o z=>?_
 ·rw [upd_ne (fr b o z n),upd_ne (Nat.ne_of_lt (Heap.lt_size z))]; exact n
 ·by_cases hb : b = e
  ·rw [hb]; exact ⟨_,z1⟩
  ·exact ⟨o,z3 b o hb z⟩
 ·by_cases ha : a = e
  ·subst ha
   rw [upd_same] at z
   cases z
   exact xo_ok z1
  ·rw [upd_ne ha] at z
   by_cases hz : a = s.heap.objs.size
   ·subst hz
    rw [upd_same] at z
    cases z
    refine ⟨_,z2,fun n=>?_⟩
    by_cases hn : n = f
    ·subst hn
     simp only [List.lookup,beq_self_eq_true,if_pos rfl]
     exact ry
    ·have : (n == f) = false:=by simpa using hn
     simp only [List.lookup,this,if_neg hn]
     trivial
   ·rw [upd_ne hz] at z
    refine (I.hok a o z).stay (fun b u hb q=>z3 b u ?_ q) (fun b q=>kp b _ q fun φ r=>(by cases r)) fun b xs q=>kp b _ q fun φ r=>(by cases r)
    rcases hb with rfl | hb
    ·exact ha
    ·exact ne b _ hb fun φ r=>(by cases r)
theorem ps_xset {o value : Expr} {f : Str} {ta tv : TE} {pos pos' : Pos} (ha : PE X o ta) (hv : PE X value tv) (hs : swapsWith value (some (.Attribute o f pos')) pos.line X.env = pure false:=by rfl) : PS X (.Assign [.Attribute o f pos'] value pos)
  (fun D σ H=>tv σ H fun y H1=>ta σ H1 fun x H2=>∃ e C B t,x = .ref e∧H2 e = some (.ext (xoAt C t none e))∧ecIn X.K C (.ref B :: excMro) = true∧XSet X.K C∧NoAttr X.K C f∧∀ dx,H2 dx = none→D.nx σ (upd (upd H2 dx (.xd [(f,y)])) e (.ext (xoAt C t (some dx) e)))):=by
 intro pins s σ H D I h
 refine plainObj_wpAny_Assign_Attribute (thn (hv pins s σ H _ I h) fun u s1 hz=>?_) hs
 obtain ⟨y,H1,I1,ry,q⟩:=hz
 refine thn (ha pins s1 σ H1 _ I1 q) fun ov s2 hz=>?_
 obtain ⟨x,H2,I2,rx,e,C,B,t,ex,he,ec,xs,na,q2⟩:=hz
 subst ex
 obtain rfl : ov = Value.ref e:=rx
 have hx:=(show ObjOk X.prog X.w H2 s2.heap e (.ext (xoAt C t none e)) from I2.hok e _ he).1
 refine xs_set (bm:=[]) I2.kIn hx rfl rfl rfl ec xs na fun h' tk' z1 z2 z3=>?_
 exact ⟨σ,_,I2.dictLaid he rfl ry z1 z2 z3,q2 _ (I2.hok.fresh (Nat.le_refl _))⟩
structure XBase (K : PySem.W.Frag) (B : Addr) : Prop where
 ga : specialIn K (.ref B) "__getattribute__" = some (some (.builtin "type.__getattribute__"))
 rd : readsIn K B (.type "type") = true
 fi : findCls K (.ref B) (.type "type") "__init__" = some (.val (.builtin "ValueError.__init__"))
theorem ps_xinit {pl : Sem Bool} {cn : Str} {p ap pos epos : Pos} {e1 e2 : Expr} {ta : TA} (xb : XBase X.K B) (hg : Gl X cn) (hm : X.mg cn = some (.ref B)) (ha : PA X [e1, e2] ta) (hdb : (cn == ("__debug__" : Str)) = false := by decide)
  (hs : swapsWith (.Call (.Attribute (.Name cn p) "__init__" ap) [e1, e2] [] pos) none epos.line X.env = pure false := by rfl)
  (hst : starEach (e1 :: [e2]) X.env = (false,eval e1 X.env) :: starEach [e2] X.env:=by rfl) (hpl : (backTo pos (starEach [e2] X.env)).any (·.1) = false:=by rfl)
  (ht : eval (.Call (.Attribute (.Name cn p) "__init__" ap) [e1, e2] [] pos) X.env = (do
   let ov ← eval (.Name cn p) X.env
   standAt ap.atName
   let (f, first) ← holding [ov] (getMethod ov "__init__" pl)
   callWith pos f first (backTo pos (starEach [e1,e2] X.env)) (backToKw pos (keywordEach [] X.env))):=by rfl) :
  PS X (.Expr (.Call (.Attribute (.Name cn p) "__init__" ap) [e1, e2] [] pos) epos) (fun D σ H => ta σ H fun vs H1 => ∃ e C t w, vs = [.ref e, w] ∧ H1 e = some (.ext (xoAt C t none e)) ∧ ecIn X.K C (.ref B :: excMro) = true ∧ ∀ t', D.nx σ (upd H1 e (.ext (xoAt C t' none e)))) := by
 intro pins s σ H D I h
 refine wpAny_Expr_any (methodCall_KW (pl:=pl) (ld_glob I hg hm ?_ hdb) ht) I.quiet hs
 refine method_cls I.kIn xb.ga (cls_value I.kIn xb.rd xb.fi rfl ?_)
 have I0:=I.tok (s.toks + 1)
 refine PyProof.Rows.callWith_builtin1 (thn (ha pos pins _ σ H _ I0 h) fun us s1 hz=>?_) hst hpl
 obtain ⟨vs,H1,I1,r,e,C,t,w,ev,he,ec,q⟩:=hz
 subst ev
 obtain ⟨u1,u2,rfl,r1,r2⟩:=vals2 r
 obtain rfl : u1 = Value.ref e:=r1
 have hx:=(show ObjOk X.prog X.w H1 s1.heap e (.ext (xoAt C t none e)) from I1.hok e _ he).1
 obtain ⟨N,mN,xc,_⟩:=ExcCls.of I1.ok.mod.kin ec
 obtain ⟨nm,qn,bs,hd,sn,sub,ab,col,dd,k0,k1,k2,k3,k5,e0,n0,t0⟩:=xc.keeps I1.bk
 obtain ⟨hp,g,d,tt,os⟩:=s1
 refine wpAny_call (codeAny_call_builtin PySem.F.excBase_ValueError.init.plain PySem.F.excBase_ValueError.initEntry (wpAny_check_init_subT PySem.F.excBase_ValueError t0 e0 hx rfl ?_))
 wp_walk
 show SP X pins D .next _
 have hxe := Heap.get?_push_of_some ({ cls := .type "tuple", data := .seq #[u2] } : Obj) hx
 have hz:=Heap.get?_update_self (Obj.mapFields (·.setIfInBounds 0 (Value.ref hp.objs.size))) hxe rfl
 refine ⟨σ,_,I1.write (x:=e) (e:=e) (o:=.ext (xoAt C hp.objs.size none e)) (t':=tt) (by rw [he]; trivial) (.inl rfl) (fun b u n z=>(Heap.get?_update_other _ _ (Ne.symm n)).trans (Heap.get?_push_of_some _ z)) ⟨_,hz⟩ (xo_ok hz),q _⟩
structure XInit (K : PySem.W.Frag) (C : Addr) (bm : List Value) (f : Addr) : Prop where
 ec : ecIn K C bm = true
 fi : findIn K (.ref C) "__init__" = some (some (.ref f))
 fn : isFn K (.ref f) = true
 kp : keepIn K (.ref C) = true
theorem xi_call {prog : Program} {w : World} {A : Around} {E : Value→Shared→Prop} {K : PySem.W.Frag} {C fI : Addr} {bm us : List Value} {h : Heap} {g : Array GenState} {d : Drawn} {t : Nat} {os : OsState} {Q : Value→Shared→Prop} (KX : K.In h) (c : XInit K C bm fI) (hl : us.length ≤ sizeLine)
  (q : wpAny (model prog w) (A.under (.builtin "type.__call__" ⟨.ref C :: us, []⟩)) (call (.ref fI) (.ref (h.objs.size + 1) :: us)) (fun r s' => r = .none ∧ Q (.ref (h.objs.size + 1)) s') E
   ⟨(h.push { cls := .type "tuple", data := .seq us.toArray }).push { cls := .ref C, data := .fields #[.ref h.objs.size, .none, .none, .none, .bool false, .none] }, g, d, t, os⟩) :
  wpAny (model prog w) A (call (.ref C) us) Q E ⟨h,g,d,t,os⟩:=by
 have BF:=PySem.F.excBase_ValueError
 obtain ⟨N,mN,xc,_⟩:=ExcCls.of KX c.ec
 obtain ⟨nm,qn,bs,hdd,sn,sub,ab,col,dd,k0,k1,k2,k3,k5,cAt,n0,tl⟩:=xc
 have w1:=tc_lookup
 have w2:=tc_bind (.ref C)
 have w3 : (⟨h, g, d, t, os⟩ : Shared).TypeIs (.ref C) "type" := ⟨_, cAt, rfl⟩
 refine wpAny_call (codeAny_of_tree ?_)
 show wpAny _ _ (callAny (.ref C) _) _ _ _
 repeat (any_goals (first | assumption | with_reducible refine wpAny_loadPart_at cAt ?_ | wp_step))
 refine ⟨rfl,codeAny_call_builtin_at (Code.quiet_builtin _ (by decide +kernel)) entry_typeCall (wpAny_check_type_call_sub cAt ?_)⟩
 repeat (first | with_reducible refine wpAny_loadPart_at cAt ?_ | with_reducible refine wpAny_madeBy_exc cAt ?_ | wp_step)
 refine codeAny_call_builtin_code (Code.quiet_builtin _ BF.quiet) (wpAny_check_new_subT BF tl cAt (codeAny_exc_new_subT BF tl cAt ?_ hl))
 show wpAny _ _ _ _ _ _
 have kp : ∀ b o, h.get? b = some o → ((h.push { cls := .type "tuple", data := .seq us.toArray }).push { cls := .ref C, data := .fields #[.ref h.objs.size, .none, .none, .none, .bool false, .none] }).get? b = some o := fun b o z => Heap.get?_push_of_some _ (Heap.get?_push_of_some _ z)
 have new : ((h.push { cls := .type "tuple", data := .seq us.toArray }).push { cls := .ref C, data := .fields #[.ref h.objs.size, .none, .none, .none, .bool false, .none] }).get? (h.objs.size + 1) = some { cls := .ref C, data := .fields #[.ref h.objs.size, .none, .none, .none, .bool false, .none] } := by heap_get
 have cAt2:=kp _ _ cAt
 have KX2:=KX.keeps kp
 have hself : (Value.ref C :: bm).contains (.ref C) = true:=by simp
 have L1:=looks_findIn (M:=model prog w) KX2 c.fi
 have L2:=bind_fn (M:=model prog w) KX2 (.ref (h.objs.size + 1)) (beq_iff_eq.mp c.fn)
 unfold isInstance
 repeat (first | with_reducible refine wpAny_loadPart_at new ?_ | (with_reducible refine wpAny_isSubtype_exc cAt2 ?_; rw [hself]) | wp_step)
 refine wpAny_isSubtype_exc cAt2 ?_
 rw [hself]
 repeat wp_step
 show wpAny _ _ (typeLookup (.ref C) _) _ _ _
 refine L1.at ?_
 refine wpAny_holding (wpAny_bind (L2.at ?_))
 refine wpAny_bind (wpAny_mono q (fun r s' z=>?_) fun _ _ z=>z)
 obtain ⟨rfl,z⟩:=z
 wp_walk
 exact z
end
end L2
namespace L2
open PySem PySem.Spec PyProof.Rows PySem.W
theorem xr_stmt {M : Model} {A : Around} {E : Value→Shared→Prop} {env : Env} {s : Shared} {x : Sem Value} {Q : Flow→Shared→Prop} (hh : A.handled = none)
  (h : wpAny M A x (fun v s1=>∃ e C t dx bm N mN,v = .ref e∧ExcCls s1.heap C bm N mN∧s1.heap.get? e = some { cls:=.ref C,dict:=dx,data:=.fields #[.ref t,.none,.none,.none,.bool false,.none] }∧E (.ref e) s1) E s) : wpAny M A (raiseStmt env (some x) none) Q E s:=by
 unfold raiseStmt
 refine wpAny_bind (wpAny_mono h (fun v s1 z=>?_) fun _ _ z=>z)
 obtain ⟨e,C,tt,dx,bm,N,mN,rfl,xc,he,q⟩:=z
 obtain ⟨nm,qn,bs,hdd,sn,sub,ab,col,dd,k0,k1,k2,k3,k5,cAt,n0,tl⟩:=xc
 have hb : (Value.ref C :: bm).contains (.type "BaseException") = true := by rw [List.contains_cons, tl.hasType PySem.F.excBase_ValueError.hasBase, Bool.or_true]
 obtain ⟨hp,g,d,tk,os⟩:=s1
 repeat (first | with_reducible refine wpAny_loadPart_at he ?_ | with_reducible refine wpAny_loadPart_at cAt ?_ | (with_reducible refine wpAny_isSubtype_exc cAt ?_; rw [hb]) | wp_step)
 exact wpAny_raiseNew_none hh q
section
variable {X : Cx} {C f : Addr} {bm : List Value} {E : XK} {k : Nat} {fd : FuncData} {ps : List Str} {sp : Sp}
theorem run_xmake {pins : List (Addr × Obj)} {σ : St} {H : Hp} {s : Shared} {Z : Value→Shared→Prop} {us : List Value} {vs : List V} (c : XInit X.K C bm f) (F : FnOk X.prog X.w X.K X.mg X.base CX0 k f fd ps sp) (hr : Room (k + 1) X.A) (hb : Binds X.K fd ps [])
  (I : Inv X pins σ H s) (r : Vals vs us) (hl : vs.length ≤ sizeLine) {W : Addr→Hp→Prop}
  (h : ∀ e t,H e = none→sp (.ref e :: vs) (upd H e (.ext (xoAt C t none e))) (fun v H2=>v = .non∧W e H2) E0)
  (q : ∀ e H2 s2,Inv X pins σ H2 s2→s.heap.objs.size ≤ e→W e H2→Z (.ref e) s2) : wpAny (model X.prog X.w) X.A (call (.ref C) us) Z X.xe s:=by
 have lu : us.length ≤ sizeLine:=by rw [← r.length]; exact hl
 obtain ⟨hp,g,d,tk,os⟩:=s
 refine xi_call I.kIn c lu ?_
 have hq:=h (hp.objs.size + 1) hp.objs.size (I.hok.fresh (Nat.le_succ _))
 have new : xoAt C hp.objs.size none (hp.objs.size + 1) ((hp.push { cls := .type "tuple", data := .seq us.toArray }).push { cls := .ref C, data := .fields #[.ref hp.objs.size, .none, .none, .none, .bool false, .none] }) := by
  unfold xoAt
  heap_get
 have I2:=I.laid (a:=hp.objs.size + 1) (o:=.ext (xoAt C hp.objs.size none (hp.objs.size + 1))) (t':=tk) (fun b u z=>Heap.get?_push_of_some _ (Heap.get?_push_of_some _ z)) (Nat.le_succ _) (xo_ok new)
 have r2 : Vals (V.ref (hp.objs.size + 1) :: vs) (Value.ref (hp.objs.size + 1) :: us):=.cons rfl r
 have hlen : (Value.ref (hp.objs.size + 1) :: us).length = ps.length:=by rw [← r2.length]; exact F.len _ _ _ _ hq
 have bnd:=hb _ (Value.ref (hp.objs.size + 1) :: us) I2.kIn (by rw [List.append_nil]; exact hlen)
 rw [List.append_nil] at bnd
 refine wpAny_call (codeAny_mono (F.run _ X.stack _ _ ⟨Value.ref (hp.objs.size + 1) :: us,[]⟩ _ _ _ E0 (hr.make C us []) (I2.env0.make C us []) bnd r2 hq) fun r s' hq'=>?_)
 cases r with
 | error e=>exact False.elim hq'
 | ok fl =>
  cases fl with
  | ret u =>
   obtain ⟨v,H',I3,rv,ev,q3⟩:=I2.after hq'
   subst ev
   exact ⟨rv,q _ H' s' I3 (Nat.le_succ _) q3⟩
  | next=>exact False.elim hq'
  | brk=>exact False.elim hq'
  | cont=>exact False.elim hq'
def tRaiseI (C : Addr) (sp : Sp) (E : XK) (t : TA) : TS:=fun _ σ H=>t σ H fun vs H1=>vs.length ≤ sizeLine∧∀ e t,H1 e = none→sp (.ref e :: vs) (upd H1 e (.ext (xoAt C t none e))) (fun v H2=>v = .non∧∃ t' dx,H2 e = some (.ext (xoAt C t' dx e))∧E (.ref C) dx (drop H2 e)) E0
theorem ps_raiseI {x : Str} {np cpos pos : Pos} {e : Expr} {es : List Expr} {t : TA} (R : RaiseOkI X C E) (c : XInit X.K C bm f) (F : FnOk X.prog X.w X.K X.mg X.base CX0 k f fd ps sp) (hr : Room (k + 1) X.A) (hg : Gl X x) (hm : X.mg x = some (.ref C)) (hb : Binds X.K fd ps []) (ha : PA X (e :: es) t)
  (hc : X.calm = true := by rfl) (hdb : (x == ("__debug__" : Str)) = false := by decide) (he : starEach (e :: es) X.env = (false, eval e X.env) :: starEach es X.env := by rfl) (hpl : (backTo cpos (starEach es X.env)).any (·.1) = false := by rfl) :
  PS X (.Raise (some (.Call (.Name x np) (e :: es) [] cpos)) none pos) (tRaiseI C sp E t):=by
 intro pins s σ H D I h
 have go : wpAny (model X.prog X.w) X.A (eval (.Call (.Name x np) (e :: es) [] cpos) X.env) (fun v s1=>∃ e C t dx bm N mN,v = .ref e∧ExcCls s1.heap C bm N mN∧s1.heap.get? e = some { cls:=.ref C,dict:=dx,data:=.fields #[.ref t,.none,.none,.none,.bool false,.none] }∧X.xe (.ref e) s1) X.xe s:=by
  refine wpAny_Call_Name_kw (ld_glob I hg hm ?_ hdb)
  refine callWith_K (h₀:=X.base) I.ok.mod.kin c.kp (thn (ha cpos pins s σ H _ I h) fun us s1 ⟨vs,H1,I1,r,hl,q⟩=>⟨I1.kIn,?_⟩) he hpl
  refine run_xmake c F hr hb I1 r hl (W:=fun e H2=>∃ t' dx,H2 e = some (.ext (xoAt C t' dx e))∧E (.ref C) dx (drop H2 e)) q fun e H2 s2 I2 hz ⟨t',dx,hx,qe⟩=>?_
  have hx2:=(show ObjOk X.prog X.w H2 s2.heap e (.ext (xoAt C t' dx e)) from I2.hok e _ hx).1
  obtain ⟨N,mN,xc,_⟩:=ExcCls.of I2.ok.mod.kin c.ec
  exact ⟨e,C,t',dx,bm,N,mN,rfl,xc.keeps I2.bk,hx2,R pins σ H2 s2 e t' dx I2 hx (Heap.get?_none_of_le (Nat.le_trans I1.sz hz)) qe⟩
 rw [arm_exec_Raise]
 first
  | exact wpAny_bind (wpAny_standAt (xr_stmt (I.ok.hd hc) go))
  | exact wpAny_bind (wpAny_standAt (xr_stmt (I.ok.hd hc) (wpAny_bind (wpAny_mono go (fun v s2 z=>wpAny_bind (wpAny_standAt (wpAny_pure z))) fun _ _ z=>z))))
  | (simp only [evalOpt,Option.map]; exact wpAny_bind (wpAny_standAt (xr_stmt (I.ok.hd hc) (wpAny_bind (wpAny_mono go (fun v s2 z=>wpAny_bind (wpAny_standAt (wpAny_pure z))) fun _ _ z=>z)))))
def tXMake (C : Addr) (sp : Sp) (t : TA) : TE:=fun σ H Q=>t σ H fun vs H1=>vs.length ≤ sizeLine∧∀ e t,H1 e = none→sp (.ref e :: vs) (upd H1 e (.ext (xoAt C t none e))) (fun v H2=>v = .non∧Q (.ref e) H2) E0
theorem pe_xmake {x : Str} {np cpos : Pos} {e : Expr} {es : List Expr} {t : TA} (c : XInit X.K C bm f) (F : FnOk X.prog X.w X.K X.mg X.base CX0 k f fd ps sp) (hr : Room (k + 1) X.A) (hg : Gl X x) (hm : X.mg x = some (.ref C)) (hb : Binds X.K fd ps []) (ha : PA X (e :: es) t)
  (hdb : (x == ("__debug__" : Str)) = false := by decide) (he : starEach (e :: es) X.env = (false, eval e X.env) :: starEach es X.env := by rfl) (hpl : (backTo cpos (starEach es X.env)).any (·.1) = false := by rfl) :
  PE X (.Call (.Name x np) (e :: es) [] cpos) (tXMake C sp t):=by
 intro pins s σ H Q I h
 refine wpAny_Call_Name_kw (ld_glob I hg hm ?_ hdb)
 refine callWith_K (h₀:=X.base) I.ok.mod.kin c.kp (thn (ha cpos pins s σ H _ I h) fun us s1 ⟨vs,H1,I1,r,hl,q⟩=>⟨I1.kIn,?_⟩) he hpl
 exact run_xmake c F hr hb I1 r hl (W:=fun e H2=>Q (.ref e) H2) q fun e H2 s2 I2 _ z=>⟨.ref e,H2,I2,rfl,z⟩
theorem xfld_of {pins : List (Addr × Obj)} {σ : St} {H : Hp} {s : Shared} {e : Addr} {o : Obj} {d : Addr} {fs : List (Str × V)} {name : Str} {v : V} {Q : Value→Shared→Prop} {ex : Bool} (I : Inv X pins σ H s) (at1 : s.heap.get? e = some o) (x : XObj o C (some d)) (hd : H d = some (.xd fs)) (hl : fs.lookup name = some v)
  (xi : XIs X.K C) (na : NoAttr X.K C name) (hh : hasDictIn X.K C = true) (vi : ∀ u,RelV v u→handedIn u = true) (q : ∀ u,RelV v u→Q u { s with toks:=s.toks + 1 }) : wpAny (model X.prog X.w) X.A (getAttr (.ref e) name ex) Q X.xe s:=by
 obtain ⟨mA,n1,rl⟩:=(show ObjOk X.prog X.w H s.heap d (.xd fs) from I.hok d _ hd)
 obtain ⟨od,ho,lk⟩:=lookIn_ns n1
 have J : InstAt s.heap e o C (some od):=⟨at1,x.cls,x.no,by rw [x.dict]; exact ho⟩
 have rv:=rl name
 rw [hl] at rv
 cases hm : mA name with
 | none=>rw [hm] at rv; exact False.elim rv
 | some u =>
  rw [hm] at rv
  refine xa_value I.kIn J xi.at_ ?_ (vi u rv) (q u rv)
  obtain ⟨cd,hc,hdd⟩:=any_some hh
  unfold findObj
  rw [hc,show findIn X.K (.ref C) name = some none from na]
  simp [PySem.W.ownOf,hdd,lk,hm]
def okV : V→Prop
 | .int _=>True
 | .str _=>True
 | .bl _=>True
 | _=>False
theorem okV.handed {v : V} (h : okV v) : ∀ u,RelV v u→handedIn u = true:=fun u r=>by
 cases v with
 | int i=>obtain ⟨t,rfl⟩:=r; rfl
 | str i=>obtain ⟨t,rfl⟩:=r; rfl
 | bl i=>cases r; rfl
 | _=>exact False.elim h
theorem pe_xfld {ex : Expr} {ta : TE} {name : Str} {pos : Pos} (he : PE X ex ta) (hb : attributeBase ex name X.env (eval ex X.env) = eval ex X.env) : PE X (.Attribute ex name pos)
  (fun σ H Q=>ta σ H fun x H1=>∃ e o C d fs v,x = .ref e∧(e,o) ∈ X.pn∧XObj o C (some d)∧H1 d = some (.xd fs)∧fs.lookup name = some v∧okV v∧XIs X.K C∧NoAttr X.K C name∧hasDictIn X.K C = true∧Q v H1):=by
 intro pins s σ H Q I h
 refine attr_of hb (thn (he pins s σ H _ I h) fun u s1 hz=>?_)
 obtain ⟨x,H1,I1,rx,e,o,C,d,fs,v,ex,hm,xo,hd,hl,ov,xi,na,hh,q⟩:=hz
 subst ex
 obtain rfl : u = Value.ref e:=rx
 exact xfld_of I1 (I1.pin _ (List.mem_append_left _ hm)).1 xo hd hl xi na hh ov.handed fun u ru=>⟨v,H1,I1.tok _,ru,q⟩
theorem pe_xfldT {ex : Expr} {ta : TE} {name : Str} {pos : Pos} (he : PE X ex ta) (hb : attributeBase ex name X.env (eval ex X.env) = eval ex X.env) : PE X (.Attribute ex name pos)
  (fun σ H Q=>ta σ H fun x H1=>∃ e C t d fs v,x = .ref e∧H1 e = some (.ext (xoAt C t (some d) e))∧H1 d = some (.xd fs)∧fs.lookup name = some v∧okV v∧XIs X.K C∧NoAttr X.K C name∧hasDictIn X.K C = true∧Q v H1):=by
 intro pins s σ H Q I h
 refine attr_of hb (thn (he pins s σ H _ I h) fun u s1 ⟨x,H1,I1,rx,e,C,t,d,fs,v,ex,hx,hd,hl,ov,xi,na,hh,q⟩=>?_)
 subst ex
 obtain rfl : u = Value.ref e:=rx
 have at1:=(show ObjOk X.prog X.w H1 s1.heap e (.ext (xoAt C t (some d) e)) from I1.hok e _ hx).1
 exact xfld_of I1 at1 ⟨rfl,rfl,rfl⟩ hd hl xi na hh ov.handed fun u ru=>⟨v,H1,I1.tok _,ru,q⟩
end
inductive spXI (C : Addr) (f : Str) (vs : List V) (H : Hp) (Q : VK) (z_3 : XK) : Prop
 | mk : ∀ (e t : Addr) (w : Str) (y : V),(vs = [.ref e,.str w,y])→(H e = some (.ext (xoAt C t none e)))→(∀ dx t',H dx = none→Q .non (upd (upd (upd H e (.ext (xoAt C t' none e))) dx (.xd [(f,y)])) e (.ext (xoAt C t' (some dx) e))))→spXI C f vs H Q z_3
theorem xi_flies {C : Addr} {f w : Str} {y : V} {H : Hp} {E : XK} (hE : ∀ (dx : Addr) (H' : Hp),Same H H'→H dx = none→H' dx = some (.xd [(f,y)])→E (.ref C) (some dx) H') : ∀ (e t : Addr),H e = none→spXI C f (.ref e :: [.str w,y]) (upd H e (.ext (xoAt C t none e)))
  (fun v H2=>v = .non∧∃ t' dx,H2 e = some (.ext (xoAt C t' dx e))∧E (.ref C) dx (drop H2 e)) E0:=fun e t ne=>by
 refine ⟨e,t,w,y,rfl,upd_same,fun dx t' nd=>⟨rfl,t',some dx,upd_same,?_⟩⟩
 have ned : dx ≠ e:=fun z=>by rw [z,upd_same] at nd; cases nd
 rw [upd_ne ned] at nd
 refine hE dx _ (fun b o z=>?_) nd ?_
 ·have h1 : b ≠ e:=fun q=>by rw [q,ne] at z; cases z
  have h2 : b ≠ dx:=fun q=>by rw [q,nd] at z; cases z
  rw [drop_ne h1,upd_ne h1,upd_ne h2,upd_ne h1,upd_ne h1]
  exact z
 ·rw [drop_ne ned,upd_ne ned,upd_same]
end L2
namespace L2
open PySem PySem.Spec PyProof.Rows
end L2
namespace L2
open PySem PySem.Spec PyProof.Rows
section
variable {X : Cx}
end
def canB (A B : List (List Int)) (left : List Nat) (b k : Nat) : Bool:=decide (0 < (A.getD k []).getD b 0) && !liesB (B.getD k []) left
def fpIn (A B : List (List Int)) (left : List Nat) (b : Nat) : Option Nat:=(List.range A.length).find? fun k=>canB A B left b k
def fpB (A B : List (List Int)) (left : List Nat) : Option (Nat × Nat):=left.findSome? fun b=>(fpIn A B left b).map fun k=>(b,k)
def Steps (A B : List (List Int)) : List Nat→List (Nat × Nat)→List Nat→Prop
 | l,[],r=>l = r
 | l,p :: ps,r=>fpB A B l = some p∧Steps A B (l.erase p.1) ps r
theorem Steps.snoc {A B : List (List Int)} : ∀ {l : List Nat} {ps : List (Nat × Nat)} {r : List Nat} {p : Nat × Nat},Steps A B l ps r→fpB A B r = some p→Steps A B l (ps ++ [p]) (r.erase p.1)
 | l,[],r,p,h,hp=>by
  have h : l = r:=h
  subst h
  exact ⟨hp,rfl⟩
 | l,q :: ps,r,p,h,hp=>⟨h.1,Steps.snoc h.2 hp⟩
theorem Steps.sub {A B : List (List Int)} : ∀ {l : List Nat} {ps : List (Nat × Nat)} {r : List Nat},Steps A B l ps r→r.Sublist l
 | l,[],r,h=>by
  have h : l = r:=h
  subst h
  exact List.Sublist.refl _
 | l,q :: ps,r,h=>(Steps.sub h.2).trans List.erase_sublist
def Tups (H : Hp) (qs : List Addr) (pp : List (Nat × Nat)) : Prop:=Paired (fun (a : Addr) (p : Nat × Nat)=>H a = some (.tup [.int (p.1 : Int),.int (p.2 : Int)])) qs pp
theorem Tups.same {H H' : Hp} {qs : List Addr} {pp : List (Nat × Nat)} (h : Tups H qs pp) (S : Same H H') : Tups H' qs pp:=Paired.mapP h fun a r e=>S _ _ e
theorem Tups.lay {H : Hp} {qs : List Addr} {pp : List (Nat × Nat)} {l : Addr} {xs ys : List V} (h : Tups H qs pp) (hl : H l = some (.lst xs)) : Tups (upd H l (.lst ys)) qs pp:=Paired.mapP h fun a r e=>by
 rw [upd_ne (ne_of e hl (by intro z; cases z))]
 exact e
theorem Tups.snoc {H : Hp} {qs : List Addr} {pp : List (Nat × Nat)} {a : Addr} {p : Nat × Nat} (h : Tups H qs pp) (e : H a = some (.tup [.int (p.1 : Int),.int (p.2 : Int)])) : Tups H (qs ++ [a]) (pp ++ [p]):=Paired.snoc h e
theorem Tups.length {H : Hp} {qs : List Addr} {pp : List (Nat × Nat)} (h : Tups H qs pp) : qs.length = pp.length:=Paired.length h
end L2
namespace L2
open PySem PySem.Spec PyProof.Rows PySem.SeqAt
section
variable {X : Cx} {pins : List (Addr × Obj)} {σ : St} {H : Hp} {s : Shared} {A : Around} {a b : Addr}
end
end L2
namespace L2
open PySem PySem.Spec PyProof.Rows
section
variable {prog : Program} {w : World} {A : Around} {R : Result→Shared→Prop} {I S : Addr} {fp wr : List Addr} {n : Nat} {P : Nat→Value→Prop} {St : Nat→Heap→Prop}
end
section
variable {X : Cx} {p pos kp : Pos} {e e2 : Expr} {t tk : TA}
end
end L2
namespace L2
open PySem PySem.Spec PyProof.Rows SeqAt
end L2
namespace L2
open PySem PySem.Spec PyProof.Rows SeqAt
structure PlanP (H : Hp) (p pt pg pf : Addr) (ts gs : List Addr) (tk gv : List (List Int)) (fs : List Int) : Prop where
 top : H p = some (.lst [.ref pt,.ref pg,.ref pf])
 ht : H pt = some (.lst (ts.map V.ref))
 tr : Rows H ts tk
 hg : H pg = some (.lst (gs.map V.ref))
 gr : Rows H gs gv
 hf : H pf = some (.lst (vints fs))
theorem PlanP.same {H H' : Hp} {p pt pg pf : Addr} {ts gs : List Addr} {tk gv : List (List Int)} {fs : List Int} (P : PlanP H p pt pg pf ts gs tk gv fs) (S : Same H H') : PlanP H' p pt pg pf ts gs tk gv fs :=
 ⟨S _ _ P.top,S _ _ P.ht,P.tr.same S,S _ _ P.hg,P.gr.same S,S _ _ P.hf⟩
inductive Sides (H : Hp) : List Addr→List (List Int)→List (List Int)→Prop
 | nil : Sides H [] [] []
 | cons {s a b : Addr} {r q : List Int} {ss : List Addr} {tk gv : List (List Int)} : H s = some (.lst [.ref a,.ref b])→H a = some (.lst (vints r))→H b = some (.lst (vints q))→Sides H ss tk gv→Sides H (s :: ss) (r :: tk) (q :: gv)
theorem Sides.same {H H' : Hp} (S : Same H H') : ∀ {ss : List Addr} {tk gv : List (List Int)},Sides H ss tk gv→Sides H' ss tk gv
 | _,_,_,.nil=>.nil
 | _,_,_,.cons h1 h2 h3 h=>.cons (S _ _ h1) (S _ _ h2) (S _ _ h3) (h.same S)
theorem Sides.snoc {H : Hp} {s a b : Addr} {r q : List Int} (h1 : H s = some (.lst [.ref a,.ref b])) (h2 : H a = some (.lst (vints r))) (h3 : H b = some (.lst (vints q))) : ∀ {ss : List Addr} {tk gv : List (List Int)},Sides H ss tk gv→Sides H (ss ++ [s]) (tk ++ [r]) (gv ++ [q])
 | _,_,_,.nil=>.cons h1 h2 h3 .nil
 | _,_,_,.cons k1 k2 k3 h=>.cons k1 k2 k3 (h.snoc h1 h2 h3)
theorem Sides.get {H : Hp} : ∀ {ss : List Addr} {tk gv : List (List Int)} {i : Nat} {s : Addr},Sides H ss tk gv→ss[i]? = some s→∃ a b,H s = some (.lst [.ref a,.ref b])∧H a = some (.lst (vints (tk.getD i [])))∧H b = some (.lst (vints (gv.getD i [])))
 | _,_,_,0,_,.cons h1 h2 h3 _,e=>by cases e; exact ⟨_,_,h1,h2,h3⟩
 | _,_,_,i + 1,_,.cons _ _ _ h,e=>h.get (i:=i) (by simpa using e)
section
variable {X : Cx}
end
end L2
namespace L2
open PySem PySem.Spec PyProof.Rows SeqAt
end L2
namespace L2
open PySem PySem.Spec PyProof.Rows SeqAt
end L2
namespace L2
open PySem PySem.Spec PyProof.Rows SeqAt
end L2
namespace L2
open PySem PySem.Spec PyProof.Rows SeqAt
def big (k : Nat) : Nat:=2 ^ (102 * 2 ^ k - 1)
theorem big_two (k : Nat) : 2 * (big k * big k) = big (k + 1):=by
 unfold big
 have h : 1 ≤ 2 ^ k:=Nat.one_le_two_pow
 rw [← Nat.pow_add,show 2 * 2 ^ (102 * 2 ^ k - 1 + (102 * 2 ^ k - 1)) = 2 ^ (102 * 2 ^ k - 1 + (102 * 2 ^ k - 1) + 1) by rw [Nat.pow_succ 2 (102 * 2 ^ k - 1 + (102 * 2 ^ k - 1)),Nat.mul_comm]]
 congr 1
 rw [Nat.pow_succ]
 omega
theorem big_step {k : Nat} {a b c d : Int} (ha : a.natAbs < big k) (hb : b.natAbs < big k) (hc : c.natAbs < big k) (hd : d.natAbs < big k) : (a * b - c * d).natAbs < big (k + 1):=by
 have h1 : (a * b).natAbs < big k * big k:=by rw [Int.natAbs_mul]; exact Nat.mul_lt_mul'' ha hb
 have h2 : (c * d).natAbs < big k * big k:=by rw [Int.natAbs_mul]; exact Nat.mul_lt_mul'' hc hd
 have:=big_two k
 omega
theorem big_mono {j k : Nat} (h : j ≤ k) : big j ≤ big k:=by
 unfold big
 refine Nat.pow_le_pow_right (by decide) ?_
 have:=Nat.pow_le_pow_right (show 0 < 2 by decide) h
 omega
theorem low_by (xs : List Int) : ∃ g : Int,0 < g∧(gcdL xs ≠ 0→g = (gcdL xs : Int))∧∀ j,xs.getD j 0 = g * (lowL xs).getD j 0:=by
 by_cases h0 : gcdL xs = 0
 ·refine ⟨1,by decide,fun h=>absurd h0 h,fun j=>?_⟩
  rw [lowL,if_pos h0,Int.one_mul]
 ·refine ⟨(gcdL xs : Int),by omega,fun _=>rfl,fun j=>?_⟩
  have hb:=low_back h0
  by_cases hj : j < xs.length
  ·have hl : j < (lowL xs).length:=by rw [lowL_len]; exact hj
   conv=>lhs; rw [← hb]
   rw [map_at hl]
  ·rw [List.getD_eq_getElem?_getD,List.getD_eq_getElem?_getD,List.getElem?_eq_none (by omega),List.getElem?_eq_none (by rw [lowL_len]; omega)]
   simp
def frd (r l : List Int) (p : Nat) : List Int:=lowL (sub (r.map fun y=>l.getD p 0 * y) (l.map fun y=>r.getD p 0 * y))
theorem frd_by {r l : List Int} {z p : Nat} (hr : r.length = z) (hl : l.length = z) : ∃ g : Int,0 < g∧∀ j,j < z→l.getD p 0 * r.getD j 0 - r.getD p 0 * l.getD j 0 = g * (frd r l p).getD j 0:=by
 obtain ⟨g,g0,_,hg⟩:=low_by (sub (r.map fun y=>l.getD p 0 * y) (l.map fun y=>r.getD p 0 * y))
 refine ⟨g,g0,fun j hj=>?_⟩
 have:=hg j
 rw [sub_at (z:=z) (by rw [List.length_map]; exact hr) (by rw [List.length_map]; exact hl) hj,map_at (by omega),map_at (by omega)] at this
 exact this
theorem frd_len {r l : List Int} {z p : Nat} (hr : r.length = z) (hl : l.length = z) : (frd r l p).length = z:=by
 unfold frd
 rw [lowL_len]
 exact sub_len (by rw [List.length_map]; exact hr) (by rw [List.length_map]; exact hl)
def mkS (w n : Nat) (R : List (List Int)) (r : List Int) (b : Nat) : Int:=((List.range n).map fun k=>r.getD (w + k) 0 * (R.getD k []).getD b 0).sum
def Made (w n : Nat) (R : List (List Int)) (r : List Int) : Prop:=∀ b,b < w→r.getD b 0 = mkS w n R r b
theorem mkS_lin (w n : Nat) (R : List (List Int)) {r l f : List Int} {x y g : Int} {b : Nat} (h : ∀ k,k < n→x * r.getD (w + k) 0 - y * l.getD (w + k) 0 = g * f.getD (w + k) 0) : x * mkS w n R r b - y * mkS w n R l b = g * mkS w n R f b:=by
 unfold mkS
 have : ∀ m,m ≤ n→x * ((List.range m).map fun k=>r.getD (w + k) 0 * (R.getD k []).getD b 0).sum - y * ((List.range m).map fun k=>l.getD (w + k) 0 * (R.getD k []).getD b 0).sum = g * ((List.range m).map fun k=>f.getD (w + k) 0 * (R.getD k []).getD b 0).sum:=by
  intro m
  induction m with
  | zero=>intro _; simp
  | succ m ih =>
   intro hm
   have i1:=ih (by omega)
   have i2:=h m (by omega)
   simp only [List.range_succ,List.map_append,List.map_cons,List.map_nil,List.sum_append,List.sum_cons,List.sum_nil,Int.add_zero,Int.mul_add]
   have e1 : x * (r.getD (w + m) 0 * (R.getD m []).getD b 0) - y * (l.getD (w + m) 0 * (R.getD m []).getD b 0) = g * (f.getD (w + m) 0 * (R.getD m []).getD b 0):=by
    rw [← Int.mul_assoc,← Int.mul_assoc,← Int.mul_assoc,← Int.sub_mul,i2]
   omega
 exact this n (Nat.le_refl _)
theorem frd_made {w n : Nat} {R : List (List Int)} {r l : List Int} {p : Nat} (hr : r.length = w + n) (hl : l.length = w + n) (mr : Made w n R r) (ml : Made w n R l) : Made w n R (frd r l p):=fun b hb=>by
 obtain ⟨g,g0,hg⟩:=frd_by (p:=p) hr hl
 have h1:=hg b (by omega)
 have h2:=mkS_lin w n R (b:=b) (x:=l.getD p 0) (y:=r.getD p 0) (r:=r) (l:=l) (f:=frd r l p) (g:=g) fun k hk=>hg (w + k) (by omega)
 rw [mr b hb,ml b hb] at h1
 exact Int.eq_of_mul_eq_mul_left (by omega) (h1.symm.trans h2)
theorem frd_zero {r l : List Int} {z p j : Nat} (hr : r.length = z) (hl : l.length = z) (hj : j < z) (h : l.getD p 0 * r.getD j 0 = r.getD p 0 * l.getD j 0) : (frd r l p).getD j 0 = 0:=by
 obtain ⟨g,g0,hg⟩:=frd_by (p:=p) hr hl
 have h1:=hg j hj
 rw [h,Int.sub_self] at h1
 rcases Int.mul_eq_zero.mp h1.symm with q | q
 ·omega
 ·exact q
theorem frd_pos {r l : List Int} {z p j : Nat} (hr : r.length = z) (hl : l.length = z) (hj : j < z) (h0 : l.getD j 0 = 0) (h1 : 0 < l.getD p 0) (h2 : 0 < r.getD j 0) : 0 < (frd r l p).getD j 0:=by
 obtain ⟨g,g0,hg⟩:=frd_by (p:=p) hr hl
 have h3:=hg j hj
 rw [h0,Int.mul_zero,Int.sub_zero] at h3
 have h4 : 0 < g * (frd r l p).getD j 0:=by rw [← h3]; exact Int.mul_pos h1 h2
 rw [Int.mul_comm] at h4
 exact Int.pos_of_mul_pos_left h4 g0
theorem frd_big {r l : List Int} {z p k : Nat} (hr : r.length = z) (hl : l.length = z) (hp : p < z) (br : ∀ x ∈ r,x.natAbs < big k) (bl : ∀ x ∈ l,x.natAbs < big k) : ∀ x ∈ frd r l p,x.natAbs < big (k + 1):=by
 unfold frd
 refine low_abs fun x hx=>?_
 obtain ⟨j,hj,rfl⟩:=List.mem_iff_getElem.mp hx
 have ls : (sub (r.map fun y=>l.getD p 0 * y) (l.map fun y=>r.getD p 0 * y)).length = z:=sub_len (by rw [List.length_map]; exact hr) (by rw [List.length_map]; exact hl)
 rw [← L2.getD_at hj,sub_at (z:=z) (by rw [List.length_map]; exact hr) (by rw [List.length_map]; exact hl) (by omega),map_at (by omega),map_at (by omega)]
 exact big_step (at_in (P:=fun x=>x.natAbs < big k) hl hp bl) (at_in (P:=fun x=>x.natAbs < big k) hr (by omega) br) (at_in (P:=fun x=>x.natAbs < big k) hr hp br) (at_in (P:=fun x=>x.natAbs < big k) hl (by omega) bl)
def RowOk (w n : Nat) (R : List (List Int)) (k : Nat) (r : List Int) : Prop:=r.length = w + n∧(∀ x ∈ r,x.natAbs < big k)∧Made w n R r
theorem RowOk.mono {w n : Nat} {R : List (List Int)} {j k : Nat} {r : List Int} (h : RowOk w n R j r) (hj : j ≤ k) : RowOk w n R k r:=⟨h.1,fun x hx=>Nat.lt_of_lt_of_le (h.2.1 x hx) (big_mono hj),h.2.2⟩
theorem RowOk.frd {w n : Nat} {R : List (List Int)} {k p : Nat} {r l : List Int} (h : RowOk w n R k r) (hl : RowOk w n R k l) (hp : p < w) : RowOk w n R (k + 1) (frd r l p) :=
 ⟨frd_len h.1 hl.1,frd_big h.1 hl.1 (by omega) h.2.1 hl.2.1,frd_made h.1 hl.1 h.2.2 hl.2.2⟩
def upr (r : List Int) (p : Nat) : List Int:=if r.getD p 0 < 0 then r.map fun y=>-1 * y else r
theorem upr_at {r : List Int} {z p : Nat} (hr : r.length = z) : ∀ j,j < z→(upr r p).getD j 0 = if r.getD p 0 < 0 then -1 * r.getD j 0 else r.getD j 0:=fun j hj=>by
 unfold upr
 split
 ·rw [map_at (by omega)]
 ·rfl
theorem upr_len {r : List Int} {z p : Nat} (hr : r.length = z) : (upr r p).length = z:=by
 unfold upr
 split
 ·rw [List.length_map]; exact hr
 ·exact hr
theorem RowOk.upr {w n : Nat} {R : List (List Int)} {k p : Nat} {r : List Int} (h : RowOk w n R k r) : RowOk w n R k (upr r p):=by
 refine ⟨upr_len h.1,fun x hx=>?_,fun b hb=>?_⟩
 ·unfold L2.upr at hx
  split at hx
  ·obtain ⟨y,hy,rfl⟩:=List.mem_map.mp hx
   have:=h.2.1 y hy
   rw [Int.natAbs_mul]
   show 1 * y.natAbs < _
   omega
  ·exact h.2.1 x hx
 ·rw [upr_at h.1 b (by omega)]
  split
  ·rename_i hn
   have h2:=mkS_lin w n R (b:=b) (x:=-1) (y:=0) (r:=r) (l:=r) (f:=L2.upr r p) (g:=1) fun k hk=>by
    rw [upr_at h.1 (w + k) (by omega),if_pos hn]; omega
   rw [h.2.2 b hb]
   omega
  ·rename_i hn
   have e : L2.upr r p = r:=by unfold L2.upr; rw [if_neg hn]
   rw [e]
   exact h.2.2 b hb
structure InvC (w n : Nat) (R : List (List Int)) (p : Nat) (L : List (List Int)) (S : List (Nat × List Int)) : Prop where
 rl : ∀ r ∈ L,RowOk w n R p r
 rz : ∀ r ∈ L,∀ j,j < p→r.getD j 0 = 0
 sl : ∀ c ∈ S,RowOk w n R p c.2
 sp : ∀ c ∈ S,c.1 < p∧0 < c.2.getD c.1 0∧∀ j,j < c.1→c.2.getD j 0 = 0
 so : ∀ c ∈ S,∀ d ∈ S,d.1 ≠ c.1→c.2.getD d.1 0 = 0
 sg : (S.map Prod.fst).Pairwise (· < ·)
theorem InvC.skip {w n : Nat} {R : List (List Int)} {p : Nat} {L : List (List Int)} {S : List (Nat × List Int)} (h : InvC w n R p L S) (hp : ∀ r ∈ L,r.getD p 0 = 0) : InvC w n R (p + 1) L S :=
 ⟨fun r hr=>(h.rl r hr).mono (Nat.le_succ _),fun r hr j hj=>by
  rcases Nat.lt_succ_iff_lt_or_eq.mp hj with q | q
  ·exact h.rz r hr j q
  ·rw [q]; exact hp r hr,fun c hc=>(h.sl c hc).mono (Nat.le_succ _),fun c hc=>⟨Nat.lt_succ_of_lt (h.sp c hc).1,(h.sp c hc).2⟩,h.so,h.sg⟩
theorem InvC.take {w n : Nat} {R : List (List Int)} {p : Nat} {L L' : List (List Int)} {S : List (Nat × List Int)} {ln : List Int} (h : InvC w n R p L S) (hp : p < w) (hL : ∀ r ∈ L',r ∈ L) (hl : RowOk w n R p ln) (lz : ∀ j,j < p→ln.getD j 0 = 0) (l0 : 0 < ln.getD p 0) :
  InvC w n R (p + 1) (L'.map fun r=>frd r ln p) (S.map (fun c=>(c.1,frd c.2 ln p)) ++ [(p,ln)]):=by
 have ll:=hl.1
 refine ⟨fun r hr=>?_,fun r hr j hj=>?_,fun c hc=>?_,fun c hc=>?_,fun c hc d hd ne=>?_,?_⟩
 ·obtain ⟨y,hy,rfl⟩:=List.mem_map.mp hr
  exact (h.rl y (hL y hy)).frd hl hp
 ·obtain ⟨y,hy,rfl⟩:=List.mem_map.mp hr
  have ry:=(h.rl y (hL y hy)).1
  refine frd_zero ry ll (by omega) ?_
  rcases Nat.lt_succ_iff_lt_or_eq.mp hj with q | q
  ·rw [h.rz y (hL y hy) j q,lz j q,Int.mul_zero,Int.mul_zero]
  ·rw [q,Int.mul_comm]
 ·rcases List.mem_append.mp hc with q | q
  ·obtain ⟨y,hy,rfl⟩:=List.mem_map.mp q
   exact (h.sl y hy).frd hl hp
  ·rw [List.mem_singleton.mp q]; exact hl.mono (Nat.le_succ _)
 ·rcases List.mem_append.mp hc with q | q
  ·obtain ⟨y,hy,rfl⟩:=List.mem_map.mp q
   obtain ⟨s1,s2,s3⟩:=h.sp y hy
   have ly:=(h.sl y hy).1
   refine ⟨by show y.1 < p + 1; omega,frd_pos ly ll (by omega) (lz _ s1) l0 s2,fun j hj=>?_⟩
   have hj : j < y.1:=hj
   refine frd_zero ly ll (by omega) ?_
   rw [s3 j hj,lz j (by omega),Int.mul_zero,Int.mul_zero]
  ·rw [List.mem_singleton.mp q]
   exact ⟨Nat.lt_succ_self _,l0,lz⟩
 ·rcases List.mem_append.mp hc with q | q
  ·obtain ⟨y,hy,rfl⟩:=List.mem_map.mp q
   have ly:=(h.sl y hy).1
   rcases List.mem_append.mp hd with q2 | q2
   ·obtain ⟨y2,hy2,rfl⟩:=List.mem_map.mp q2
    have:=(h.sp y2 hy2).1
    refine frd_zero ly ll (by show y2.1 < w + n; omega) ?_
    show ln.getD p 0 * y.2.getD y2.1 0 = y.2.getD p 0 * ln.getD y2.1 0
    rw [h.so y hy y2 hy2 ne,lz y2.1 this,Int.mul_zero,Int.mul_zero]
   ·rw [List.mem_singleton.mp q2]
    exact frd_zero ly ll (by show p < w + n; omega) (Int.mul_comm _ _)
  ·rw [List.mem_singleton.mp q] at ne ⊢
   rcases List.mem_append.mp hd with q2 | q2
   ·obtain ⟨y2,hy2,rfl⟩:=List.mem_map.mp q2
    exact lz y2.1 (h.sp y2 hy2).1
   ·rw [List.mem_singleton.mp q2] at ne
    exact absurd rfl ne
 ·rw [List.map_append,List.map_map]
  refine List.pairwise_append.mpr ⟨?_,by simp,fun x hx y hy=>?_⟩
  ·exact h.sg
  ·obtain ⟨c,hc,rfl⟩:=List.mem_map.mp hx
   have:=(h.sp c hc).1
   rw [List.mem_singleton.mp hy]
   exact this
end L2
namespace L2
open PySem PySem.Spec PyProof.Rows SeqAt
def LnAt (H : Hp) (p : Addr × Addr) (c : Nat × List Int) : Prop:=H p.1 = some (.tup [.int (c.1 : Int),.ref p.2])∧H p.2 = some (.lst (vints c.2))
def Lns (H : Hp) (ps : List (Addr × Addr)) (S : List (Nat × List Int)) : Prop:=Paired (LnAt H) ps S
theorem LnAt.same {H H' : Hp} {p : Addr × Addr} {c : Nat × List Int} (h : LnAt H p c) (S : Same H H') : LnAt H' p c:=⟨S _ _ h.1,S _ _ h.2⟩
theorem Lns.same {H H' : Hp} {ps : List (Addr × Addr)} {S : List (Nat × List Int)} (h : Lns H ps S) (s : Same H H') : Lns H' ps S:=Paired.mapP h fun _ _ e=>e.same s
theorem Lns.snoc {H : Hp} {ps : List (Addr × Addr)} {S : List (Nat × List Int)} {p : Addr × Addr} {c : Nat × List Int} (h : Lns H ps S) (e : LnAt H p c) : Lns H (ps ++ [p]) (S ++ [c]):=Paired.snoc h e
theorem Lns.length {H : Hp} {ps : List (Addr × Addr)} {S : List (Nat × List Int)} (h : Lns H ps S) : ps.length = S.length:=Paired.length h
theorem ref_int_ne {H : Hp} {p q : Addr} {r : List Int} {ss : List Addr} (h1 : H p = some (.lst (vints r))) (h2 : H q = some (.lst (ss.map V.ref))) (hr : 1 ≤ r.length) : p ≠ q:=fun e=>by
 rw [e,h2] at h1
 injection h1 with h1
 injection h1 with h1
 cases r with
 | nil=>simp at hr
 | cons x r=>cases ss with
  | nil=>cases h1
  | cons s ss=>injection h1 with h1 _; cases h1
theorem Lns.lay {H : Hp} {q : Addr} {ss : List Addr} {o : HO} (h2 : H q = some (.lst (ss.map V.ref))) : ∀ {ps : List (Addr × Addr)} {S : List (Nat × List Int)},Lns H ps S→(∀ c ∈ S,1 ≤ c.2.length)→Lns (upd H q o) ps S
 | _,_,.nil,_=>.nil
 | _,_,.cons (a:=p) (b:=c) e t,hs=>by
  refine .cons ⟨?_,?_⟩ (Lns.lay h2 t fun d hd=>hs d (List.mem_cons_of_mem _ hd))
  ·rw [upd_ne (fun z=>by have e1:=e.1; rw [z,h2] at e1; cases e1)]; exact e.1
  ·rw [upd_ne (ref_int_ne e.2 h2 (hs c List.mem_cons_self))]; exact e.2
def StAt (w : Nat) (H : Hp) (t : Addr × Addr × Addr) (c : Nat × List Int) : Prop:=H t.1 = some (.tup [.int (c.1 : Int),.ref t.2.1,.ref t.2.2])∧H t.2.1 = some (.lst (vints (lowL (c.2.take w))))∧H t.2.2 = some (.lst (vints (c.2.drop w)))
def Sts (w : Nat) (H : Hp) (ts : List (Addr × Addr × Addr)) (S : List (Nat × List Int)) : Prop:=Paired (StAt w H) ts S
theorem StAt.same {w : Nat} {H H' : Hp} {t : Addr × Addr × Addr} {c : Nat × List Int} (h : StAt w H t c) (S : Same H H') : StAt w H' t c:=⟨S _ _ h.1,S _ _ h.2.1,S _ _ h.2.2⟩
theorem Sts.same {w : Nat} {H H' : Hp} {ts : List (Addr × Addr × Addr)} {S : List (Nat × List Int)} (h : Sts w H ts S) (s : Same H H') : Sts w H' ts S:=Paired.mapP h fun _ _ e=>e.same s
end L2
namespace L2
open PySem PySem.Spec PyProof.Rows SeqAt
end L2
namespace L2
end L2
namespace L2
open PySem PySem.Spec PyProof.Rows SeqAt
end L2
namespace L2
open PySem PySem.Spec PyProof.Rows SeqAt
end L2
namespace L2
open PySem PySem.Spec PyProof.Rows SeqAt
def bg (b k : Nat) : Nat:=2 ^ ((b + 1) * 2 ^ k - 1)
theorem bg_two (b k : Nat) : 2 * (bg b k * bg b k) = bg b (k + 1):=by
 unfold bg
 have h : 1 ≤ (b + 1) * 2 ^ k:=Nat.mul_pos (by omega) Nat.one_le_two_pow
 have e : ∀ m,2 * 2 ^ m = 2 ^ (m + 1):=fun m=>by rw [Nat.pow_succ,Nat.mul_comm]
 rw [← Nat.pow_add,e]
 congr 1
 rw [Nat.pow_succ 2 k,← Nat.mul_assoc]
 omega
theorem bg_step {b k : Nat} {x y u v : Int} (hx : x.natAbs < bg b k) (hy : y.natAbs < bg b k) (hu : u.natAbs < bg b k) (hv : v.natAbs < bg b k) : (x * y - u * v).natAbs < bg b (k + 1):=by
 have h1 : (x * y).natAbs < bg b k * bg b k:=by rw [Int.natAbs_mul]; exact Nat.mul_lt_mul'' hx hy
 have h2 : (u * v).natAbs < bg b k * bg b k:=by rw [Int.natAbs_mul]; exact Nat.mul_lt_mul'' hu hv
 have:=bg_two b k
 omega
theorem bx_mono {b j k : Nat} (h : j ≤ k) : (b + 1) * 2 ^ j ≤ (b + 1) * 2 ^ k:=Nat.mul_le_mul_left _ (Nat.pow_le_pow_right (by decide) h)
theorem bg_mono {b j k : Nat} (h : j ≤ k) : bg b j ≤ bg b k:=by
 unfold bg
 refine Nat.pow_le_pow_right (by decide) ?_
 have:=bx_mono (b:=b) h
 omega
theorem frd_bg {b : Nat} {r l : List Int} {z p k : Nat} (hr : r.length = z) (hl : l.length = z) (hp : p < z) (br : ∀ x ∈ r,x.natAbs < bg b k) (bl : ∀ x ∈ l,x.natAbs < bg b k) : ∀ x ∈ frd r l p,x.natAbs < bg b (k + 1):=by
 unfold frd
 refine low_abs fun x hx=>?_
 obtain ⟨j,hj,rfl⟩:=List.mem_iff_getElem.mp hx
 have l1 : (r.map fun y=>l.getD p 0 * y).length = z:=by rw [List.length_map]; exact hr
 have l2 : (l.map fun y=>r.getD p 0 * y).length = z:=by rw [List.length_map]; exact hl
 have hjz : j < z:=by rw [sub_len l1 l2] at hj; exact hj
 rw [← L2.getD_at hj,sub_at l1 l2 hjz,map_at (by omega),map_at (by omega)]
 exact bg_step (at_in (P:=fun x=>x.natAbs < bg b k) hl hp bl) (at_in (P:=fun x=>x.natAbs < bg b k) hr hjz br) (at_in (P:=fun x=>x.natAbs < bg b k) hr hp br) (at_in (P:=fun x=>x.natAbs < bg b k) hl hjz bl)
def RowB (b w n : Nat) (R : List (List Int)) (k : Nat) (r : List Int) : Prop:=r.length = w + n∧(∀ x ∈ r,x.natAbs < bg b k)∧Made w n R r
theorem RowB.mono {b w n : Nat} {R : List (List Int)} {j k : Nat} {r : List Int} (h : RowB b w n R j r) (hj : j ≤ k) : RowB b w n R k r:=⟨h.1,fun x hx=>Nat.lt_of_lt_of_le (h.2.1 x hx) (bg_mono hj),h.2.2⟩
theorem RowB.frd {b w n : Nat} {R : List (List Int)} {k p : Nat} {r l : List Int} (h : RowB b w n R k r) (hl : RowB b w n R k l) (hp : p < w) : RowB b w n R (k + 1) (frd r l p) :=
 ⟨frd_len h.1 hl.1,frd_bg h.1 hl.1 (by omega) h.2.1 hl.2.1,frd_made h.1 hl.1 h.2.2 hl.2.2⟩
theorem upr_made {w n : Nat} {R : List (List Int)} {p : Nat} {r : List Int} (hr : r.length = w + n) (h : Made w n R r) : Made w n R (upr r p):=fun b hb=>by
 rw [upr_at hr b (by omega)]
 split
 ·rename_i hn
  have h2:=mkS_lin w n R (b:=b) (x:=-1) (y:=0) (r:=r) (l:=r) (f:=upr r p) (g:=1) fun k hk=>by
   rw [upr_at hr (w + k) (by omega),if_pos hn]; omega
  rw [h b hb]
  omega
 ·rename_i hn
  have e : upr r p = r:=by unfold upr; rw [if_neg hn]
  rw [e]
  exact h b hb
theorem RowB.upr {b w n : Nat} {R : List (List Int)} {k p : Nat} {r : List Int} (h : RowB b w n R k r) : RowB b w n R k (upr r p):=by
 refine ⟨upr_len h.1,fun x hx=>?_,upr_made h.1 h.2.2⟩
 unfold L2.upr at hx
 split at hx
 ·obtain ⟨y,hy,rfl⟩:=List.mem_map.mp hx
  have:=h.2.1 y hy
  rw [Int.natAbs_mul]
  show 1 * y.natAbs < _
  omega
 ·exact h.2.1 x hx
def dotW (w : Nat) (y r : List Int) : Int:=((List.range w).map fun j=>y.getD j 0 * r.getD j 0).sum
theorem dot_lin {w : Nat} {y r l f : List Int} {x u g : Int} (h : ∀ k,k < w→x * r.getD k 0 - u * l.getD k 0 = g * f.getD k 0) : x * dotW w y r - u * dotW w y l = g * dotW w y f:=by
 unfold dotW
 have : ∀ m,m ≤ w→x * ((List.range m).map fun k=>y.getD k 0 * r.getD k 0).sum - u * ((List.range m).map fun k=>y.getD k 0 * l.getD k 0).sum = g * ((List.range m).map fun k=>y.getD k 0 * f.getD k 0).sum:=by
  intro m
  induction m with
  | zero=>intro _; simp
  | succ m ih =>
   intro hm
   have i1:=ih (by omega)
   have i2:=h m (by omega)
   simp only [List.range_succ,List.map_append,List.map_cons,List.map_nil,List.sum_append,List.sum_cons,List.sum_nil,Int.add_zero,Int.mul_add]
   have e1 : x * (y.getD m 0 * r.getD m 0) - u * (y.getD m 0 * l.getD m 0) = g * (y.getD m 0 * f.getD m 0):=by
    rw [Int.mul_left_comm x,Int.mul_left_comm u,Int.mul_left_comm g,← Int.mul_sub,i2]
   omega
 exact this w (Nat.le_refl _)
structure InvB (b w n : Nat) (R : List (List Int)) (p : Nat) (L : List (List Int)) (S : List (Nat × List Int)) : Prop where
 rl : ∀ r ∈ L,RowB b w n R p r
 rz : ∀ r ∈ L,∀ j,j < p→r.getD j 0 = 0
 sl : ∀ c ∈ S,RowB b w n R p c.2
 sp : ∀ c ∈ S,c.1 < p∧0 < c.2.getD c.1 0∧∀ j,j < c.1→c.2.getD j 0 = 0
 so : ∀ c ∈ S,∀ d ∈ S,d.1 ≠ c.1→c.2.getD d.1 0 = 0
 sg : (S.map Prod.fst).Pairwise (· < ·)
 an : ∀ y : List Int,(∀ r ∈ L,dotW w y r = 0)→(∀ c ∈ S,dotW w y c.2 = 0)→∀ r ∈ R,dotW w y r = 0
theorem InvB.skip {b w n : Nat} {R : List (List Int)} {p : Nat} {L : List (List Int)} {S : List (Nat × List Int)} (h : InvB b w n R p L S) (hp : ∀ r ∈ L,r.getD p 0 = 0) : InvB b w n R (p + 1) L S :=
 ⟨fun r hr=>(h.rl r hr).mono (Nat.le_succ _),fun r hr j hj=>by
  rcases Nat.lt_succ_iff_lt_or_eq.mp hj with q | q
  ·exact h.rz r hr j q
  ·rw [q]; exact hp r hr,fun c hc=>(h.sl c hc).mono (Nat.le_succ _),fun c hc=>⟨Nat.lt_succ_of_lt (h.sp c hc).1,(h.sp c hc).2⟩,h.so,h.sg,h.an⟩
theorem dot_of_frd {w z p : Nat} {y r l : List Int} (hr : r.length = z) (hl : l.length = z) (hz : w ≤ z) (l0 : 0 < l.getD p 0) (h1 : dotW w y l = 0) (h2 : dotW w y (frd r l p) = 0) : dotW w y r = 0:=by
 obtain ⟨g,_,hg⟩:=frd_by (p:=p) hr hl
 have h3:=dot_lin (w:=w) (y:=y) (r:=r) (l:=l) (f:=frd r l p) (x:=l.getD p 0) (u:=r.getD p 0) (g:=g) fun k hk=>hg k (by omega)
 rw [h1,h2,Int.mul_zero,Int.mul_zero,Int.sub_zero] at h3
 rcases Int.mul_eq_zero.mp h3 with e | e
 ·omega
 ·exact e
theorem dot_upr {w z p : Nat} {y r : List Int} (hr : r.length = z) (hz : w ≤ z) (h : dotW w y (upr r p) = 0) : dotW w y r = 0:=by
 by_cases hn : r.getD p 0 < 0
 ·have h3:=dot_lin (w:=w) (y:=y) (r:=r) (l:=r) (f:=upr r p) (x:=-1) (u:=0) (g:=1) fun k hk=>by rw [upr_at hr k (by omega),if_pos hn]; omega
  omega
 ·have e : upr r p = r:=by unfold upr; rw [if_neg hn]
  rw [e] at h
  exact h
theorem InvB.take {b w n : Nat} {R : List (List Int)} {p : Nat} {L L' : List (List Int)} {S : List (Nat × List Int)} {r0 ln : List Int} (h : InvB b w n R p L S) (hp : p < w) (hL : ∀ r ∈ L',r ∈ L) (hL2 : ∀ r ∈ L,r ∈ L' ∨ r = r0) (hr0 : r0.length = w + n) (eln : ln = L2.upr r0 p) (hl : RowB b w n R p ln) (lz : ∀ j,j < p→ln.getD j 0 = 0) (l0 : 0 < ln.getD p 0) :
  InvB b w n R (p + 1) (L'.map fun r=>L2.frd r ln p) (S.map (fun c=>(c.1,L2.frd c.2 ln p)) ++ [(p,ln)]):=by
 have ll:=hl.1
 refine ⟨fun r hr=>?_,fun r hr j hj=>?_,fun c hc=>?_,fun c hc=>?_,fun c hc d hd ne=>?_,?_,fun y h1 h2=>?_⟩
 ·obtain ⟨y,hy,rfl⟩:=List.mem_map.mp hr
  exact (h.rl y (hL y hy)).frd hl hp
 ·obtain ⟨y,hy,rfl⟩:=List.mem_map.mp hr
  have ry:=(h.rl y (hL y hy)).1
  refine frd_zero ry ll (by omega) ?_
  rcases Nat.lt_succ_iff_lt_or_eq.mp hj with q | q
  ·rw [h.rz y (hL y hy) j q,lz j q,Int.mul_zero,Int.mul_zero]
  ·rw [q,Int.mul_comm]
 ·rcases List.mem_append.mp hc with q | q
  ·obtain ⟨y,hy,rfl⟩:=List.mem_map.mp q
   exact (h.sl y hy).frd hl hp
  ·rw [List.mem_singleton.mp q]; exact hl.mono (Nat.le_succ _)
 ·rcases List.mem_append.mp hc with q | q
  ·obtain ⟨y,hy,rfl⟩:=List.mem_map.mp q
   obtain ⟨s1,s2,s3⟩:=h.sp y hy
   have ly:=(h.sl y hy).1
   refine ⟨by show y.1 < p + 1; omega,frd_pos ly ll (by omega) (lz _ s1) l0 s2,fun j hj=>?_⟩
   have hj : j < y.1:=hj
   refine frd_zero ly ll (by omega) ?_
   rw [s3 j hj,lz j (by omega),Int.mul_zero,Int.mul_zero]
  ·rw [List.mem_singleton.mp q]
   exact ⟨Nat.lt_succ_self _,l0,lz⟩
 ·rcases List.mem_append.mp hc with q | q
  ·obtain ⟨y,hy,rfl⟩:=List.mem_map.mp q
   have ly:=(h.sl y hy).1
   rcases List.mem_append.mp hd with q2 | q2
   ·obtain ⟨y2,hy2,rfl⟩:=List.mem_map.mp q2
    have:=(h.sp y2 hy2).1
    refine frd_zero ly ll (by show y2.1 < w + n; omega) ?_
    show ln.getD p 0 * y.2.getD y2.1 0 = y.2.getD p 0 * ln.getD y2.1 0
    rw [h.so y hy y2 hy2 ne,lz y2.1 this,Int.mul_zero,Int.mul_zero]
   ·rw [List.mem_singleton.mp q2]
    exact frd_zero ly ll (by show p < w + n; omega) (Int.mul_comm _ _)
  ·rw [List.mem_singleton.mp q] at ne ⊢
   rcases List.mem_append.mp hd with q2 | q2
   ·obtain ⟨y2,hy2,rfl⟩:=List.mem_map.mp q2
    exact lz y2.1 (h.sp y2 hy2).1
   ·rw [List.mem_singleton.mp q2] at ne
    exact absurd rfl ne
 ·rw [List.map_append,List.map_map]
  refine List.pairwise_append.mpr ⟨h.sg,by simp,fun x hx y hy=>?_⟩
  obtain ⟨c,hc,rfl⟩:=List.mem_map.mp hx
  rw [List.mem_singleton.mp hy]
  exact (h.sp c hc).1
 ·have k0 : dotW w y ln = 0:=h2 (p,ln) (List.mem_append_right _ (List.mem_singleton.mpr rfl))
  have kr0 : dotW w y r0 = 0:=dot_upr hr0 (by omega) (eln ▸ k0)
  refine h.an y (fun r hr=>?_) (fun c hc=>?_)
  ·rcases hL2 r hr with q | q
   ·exact dot_of_frd (h.rl r hr).1 ll (by omega) l0 k0 (h1 _ (List.mem_map.mpr ⟨r,q,rfl⟩))
   ·rw [q]; exact kr0
  ·exact dot_of_frd (h.sl c hc).1 ll (by omega) l0 k0 (h2 (c.1,L2.frd c.2 ln p) (List.mem_append_left _ (List.mem_map.mpr ⟨c,hc,rfl⟩)))
end L2
namespace L2
open PySem PySem.Spec PyProof.Rows SeqAt
end L2
namespace L2
open PySem PySem.Spec PyProof.Rows SeqAt
end L2
namespace L2
end L2
namespace L2
open PySem PySem.Spec PyProof.Rows SeqAt
section
variable {X : Cx}
end
end L2
namespace L2
open PySem PySem.Spec PyProof.Rows SeqAt
end L2
namespace L2
open PySem PySem.Spec PyProof.Rows SeqAt
end L2
namespace L2
open PySem PySem.Spec PyProof.Rows SeqAt
end L2
namespace L2
open PySem PySem.Spec PyProof.Rows SeqAt
end L2
namespace L2
open PySem PySem.Spec PyProof.Rows SeqAt
section
variable {X : Cx} {e ek : Expr} {te : TE} {tk : TO} {pos p2 : Pos}
end
end L2
namespace L2
open PySem PySem.Spec PyProof.Rows SeqAt
end L2
namespace L2
open PySem PySem.Spec PyProof.Rows
abbrev sg (c : Nat) : Str:=⟨#[c]⟩
def spl (c : Nat) (z : Str) : List Str:=Txt.split z (sg c)
theorem spl_join (c : Nat) (z : Str) : Str.join (sg c) (spl c z) = z:=StrLaws.join_split z (sg c)
theorem spl_free (c : Nat) (z : Str) : ∀ p ∈ spl c z,c ∉ p.cps.toList:=StrLaws.split_free z c
theorem join_cons2 (s x y : Str) (r : List Str) : Str.join s (x :: y :: r) = x ++ s ++ Str.join s (y :: r):=rfl
theorem join_len (c : Nat) : ∀ (x : Str) (r : List Str),(Str.join (sg c) (x :: r)).length = ((x :: r).map Str.length).sum + r.length
 | x,[]=>by
  show x.length = x.length + 0 + 0
  omega
 | x,y :: r=>by
  rw [join_cons2,Str.length_append,Str.length_append,join_len c y r,List.map_cons (a:=x),List.sum_cons,List.length_cons]
  have : (sg c).length = 1:=rfl
  omega
theorem spl_ne (c : Nat) (z : Str) : spl c z ≠ []:=by
 unfold spl Txt.split
 split
 ·exact fun h=>nomatch h
 ·split
  ·exact fun h=>nomatch h
  ·rw [StrLaws.partsBetween_eq]
   cases Builtin.Str.occurrences z (sg c) 0 z.length (z.length + 1) with
   | nil=>exact fun h=>nomatch h
   | cons a r=>exact fun h=>nomatch h
theorem spl_len (c : Nat) (z : Str) : (spl c z).length ≤ z.length + 1:=by
 cases e : spl c z with
 | nil=>exact absurd e (spl_ne c z)
 | cons x r =>
  have h:=join_len c x r
  rw [← e,spl_join] at h
  rw [List.length_cons]
  omega
theorem sum_mem : ∀ {l : List Nat} {n : Nat},n ∈ l→n ≤ l.sum
 | a :: l,n,h=>by
  rw [List.sum_cons]
  rcases List.mem_cons.mp h with q | q
  ·omega
  ·have:=sum_mem q; omega
theorem spl_part (c : Nat) (z : Str) : ∀ p ∈ spl c z,p.length ≤ z.length:=fun p hp=>by
 cases e : spl c z with
 | nil=>exact absurd e (spl_ne c z)
 | cons x r =>
  have h:=join_len c x r
  rw [← e,spl_join] at h
  have:=sum_mem (List.mem_map.mpr ⟨p,hp,rfl⟩ : p.length ∈ (spl c z).map Str.length)
  omega
theorem cut_first {c : Nat} : ∀ {a b x y : List Nat},c ∉ a→c ∉ b→a ++ c :: x = b ++ c :: y→a = b∧x = y
 | [],[],x,y,_,_,h=>⟨rfl,(List.cons.inj h).2⟩
 | [],q :: b,x,y,_,h2,h=>by
  have:=(List.cons.inj h).1
  exact absurd (this ▸ List.mem_cons_self ..) h2
 | p :: a,[],x,y,h1,_,h=>by
  have:=(List.cons.inj h).1
  exact absurd (this ▸ List.mem_cons_self ..) h1
 | p :: a,q :: b,x,y,h1,h2,h=>by
  obtain ⟨e1,e2⟩:=List.cons.inj h
  obtain ⟨i1,i2⟩:=cut_first (fun m=>h1 (List.mem_cons_of_mem _ m)) (fun m=>h2 (List.mem_cons_of_mem _ m)) e2
  exact ⟨by rw [e1,i1],i2⟩
theorem str_list {x y : Str} (h : x.cps.toList = y.cps.toList) : x = y:=by
 obtain ⟨a⟩:=x
 obtain ⟨b⟩:=y
 congr 1
 exact Array.toList_inj.mp h
theorem app_list (x y : Str) : (x ++ y).cps.toList = x.cps.toList ++ y.cps.toList:=by rw [Str.cps_append,Array.toList_append]
theorem join2_list (c : Nat) (x y : Str) (r : List Str) : (Str.join (sg c) (x :: y :: r)).cps.toList = x.cps.toList ++ c :: (Str.join (sg c) (y :: r)).cps.toList:=by
 rw [join_cons2,app_list,app_list,List.append_assoc]
 rfl
theorem join_inj {c : Nat} : ∀ {xs ys : List Str},xs ≠ []→ys ≠ []→(∀ x ∈ xs,c ∉ x.cps.toList)→(∀ y ∈ ys,c ∉ y.cps.toList)→Str.join (sg c) xs = Str.join (sg c) ys→xs = ys
 | [],_,h,_,_,_,_=>absurd rfl h
 | _ :: _,[],_,h,_,_,_=>absurd rfl h
 | [x],[y],_,_,_,_,h=>by
  have h : x = y:=h
  rw [h]
 | [x],y :: z :: r,_,_,h1,_,h=>by
  have e:=congrArg (fun s : Str=>s.cps.toList) h
  have e : x.cps.toList = _:=e
  rw [join2_list] at e
  exact absurd (by rw [e]; simp) (h1 x (List.mem_cons_self ..))
 | x :: w :: q,[y],_,_,_,h2,h=>by
  have e:=congrArg (fun s : Str=>s.cps.toList) h
  have e : _ = y.cps.toList:=e
  rw [join2_list] at e
  exact absurd (by rw [← e]; simp) (h2 y (List.mem_cons_self ..))
 | x :: w :: q,y :: z :: r,_,_,h1,h2,h=>by
  have e:=congrArg (fun s : Str=>s.cps.toList) h
  have e : (Str.join (sg c) (x :: w :: q)).cps.toList = (Str.join (sg c) (y :: z :: r)).cps.toList:=e
  rw [join2_list,join2_list] at e
  obtain ⟨e1,e2⟩:=cut_first (h1 x (List.mem_cons_self ..)) (h2 y (List.mem_cons_self ..)) e
  have ih : w :: q = z :: r:=join_inj (fun z=>List.cons_ne_nil _ _ z) (fun z=>List.cons_ne_nil _ _ z) (fun s hs=>h1 s (List.mem_cons_of_mem _ hs)) (fun s hs=>h2 s (List.mem_cons_of_mem _ hs)) (str_list e2)
  rw [str_list e1,ih]
theorem spl_of {c : Nat} {xs : List Str} (h : xs ≠ []) (hf : ∀ x ∈ xs,c ∉ x.cps.toList) : spl c (Str.join (sg c) xs) = xs :=
 join_inj (spl_ne _ _) h (spl_free _ _) hf (spl_join _ _)
section
variable {X : Cx}
theorem strs_vals : ∀ (k : Nat) (ys : List Str),Vals (vstrs ys) (strsFrom k ys)
 | _,[]=>.nil
 | k,y :: ys=>.cons ⟨k,rfl⟩ (strs_vals (k + 1) ys)
inductive rSplit (c : Nat) (x : V) (vs : List V) (H : Hp) (Q : VK) : Prop
 | mk : ∀ z : Str,(x = .str z)→(vs = [.str (sg c)])→(z.length ≤ 1000000)→(∀ p,H p = none→Q (.ref p) (upd H p (.lst (vstrs (spl c z)))))→rSplit c x vs H Q
theorem mt_split (c : Nat) : MtM X "str.split" (rSplit c) := by
 intro pins s σ H x vs v us Q I rx rv h
 obtain ⟨z,rfl,rfl,hz,q⟩:=h
 obtain ⟨t,rfl⟩:=rx
 obtain ⟨u,rfl,ru⟩:=rv.one
 obtain ⟨t',rfl⟩:=ru
 have hl:=spl_len c z
 have hs:=sizeLine_eq
 have fin : ∀ (h' : Heap) (n m : Nat) (its : List Value), Vals (vstrs (spl c z)) its → h' = s.heap.push { cls := .type "list", data := .seq its.toArray } → EP X pins σ Q (.ref s.heap.objs.size) { s with heap := h', toks := n } := fun h' n m its r e => by
  subst e
  refine ⟨.ref s.heap.objs.size,_,I.laid (t':=n) (o:=.lst (vstrs (spl c z))) (fun b ob q=>Heap.get?_push_of_some _ q) (Nat.le_refl _) ⟨by rw [List.length_map]; omega,its,0,r,Heap.get?_push_size _ rfl⟩,rfl,q _ (I.hok.fresh (Nat.le_refl _))⟩
 have self : spl c z = [z] → EP X pins σ Q (.ref s.heap.objs.size) { s with heap := s.heap.push { cls := .type "list", data := .seq [Value.str z t].toArray } } := fun e => fin _ s.toks 0 _ (by rw [e]; exact .cons ⟨t, rfl⟩ .nil) rfl
 cases h1 : (decide (z.length < (sg c).length) || decide (Builtin.Str.strKind z < Builtin.Str.strKind (sg c))) with
 | true =>
  refine call_meets F.slot_str_split (typeIs_str _ _ _) F.entry_str_split (F.args_str_split_2 _ _) (meets_str_split_cannot_occur z (sg c) t t' h1) ?_
  exact self (by unfold spl Txt.split; rw [if_pos h1])
 | false =>
  cases h2 : (Builtin.Str.occurrences z (sg c) 0 z.length (z.length + 1)).isEmpty with
  | true =>
   refine call_meets F.slot_str_split (typeIs_str _ _ _) F.entry_str_split (F.args_str_split_2 _ _) (meets_str_split_not_found z (sg c) t t' h1 rfl h2) ?_
   exact self (by unfold spl Txt.split; rw [if_neg (by rw [h1]; decide),if_pos h2])
  | false =>
   have e : spl c z = Builtin.Str.partsBetween z (Builtin.Str.occurrences z (sg c) 0 z.length (z.length + 1)) (sg c).length:=by unfold spl Txt.split; rw [if_neg (by rw [h1]; decide),if_neg (by rw [h2]; decide)]
   refine call_meets F.slot_str_split (typeIs_str _ _ _) F.entry_str_split (F.args_str_split_2 _ _) (meets_str_split_sep z (sg c) t t' h1 rfl h2 (by omega) (by rw [← e]; omega)) ?_
   exact fin _ _ 0 _ (by rw [e]; exact strs_vals _ _) rfl
def hasHead (c : Nat) (z : Str) : Bool:=z.cps.toList.head? == some c
inductive rStarts (c : Nat) (x : V) (vs : List V) (H : Hp) (Q : VK) : Prop
 | mk : ∀ z : Str,(x = .str z)→(vs = [.str (sg c)])→(Q (.bl (hasHead c z)) H)→rStarts c x vs H Q
theorem starts_head (c : Nat) (z : Str) : (decide (0 + (sg c).length ≤ z.length) && Builtin.Str.subAt z (sg c) 0) = hasHead c z:=by
 have h:=StrLaws.subAt_one z c 0
 unfold hasHead
 rw [List.head?_eq_getElem?,Bool.eq_iff_iff,Bool.and_eq_true,decide_eq_true_eq,beq_iff_eq]
 exact h
theorem mt_startswith (c : Nat) : MtM X "str.startswith" (rStarts c) := by
 intro pins s σ H x vs v us Q I rx rv h
 obtain ⟨z,rfl,rfl,q⟩:=h
 obtain ⟨t,rfl⟩:=rx
 obtain ⟨u,rfl,ru⟩:=rv.one
 obtain ⟨t',rfl⟩:=ru
 refine call_gives F.slot_str_startswith (typeIs_str _ _ _) F.entry_str_startswith (F.args_str_startswith_2 _ _) (gives_str_startswith z (sg c) t t') ?_
 rw [← starts_head] at q
 exact ⟨.bl _,H,I.tok _,rfl,q⟩
def allDig (z : Str) : Prop:=∀ c ∈ z.cps.toList,48 ≤ c∧c ≤ 57
def numOf (z : Str) : Nat:=z.cps.toList.foldl (fun acc c=>acc * 10 + (c - 48)) 0
theorem call_intT : CallR X (.type "int") (fun xs H Q => ∃ z : Str, xs = [.str z] ∧ allDig z ∧ z.cps.toList ≠ [] ∧ z.length ≤ 200 ∧ Q (.int ((numOf z : Nat) : Int)) H) := by
 intro pins s σ H xs us Q I r h
 obtain ⟨z,rfl,hd,h0,hl,q⟩:=h
 obtain ⟨u,rfl,t,rfl⟩:=vals1 r
 refine PySem.W.KIN.call_text (PySem.intText_digits hd h0 (by omega)) (by omega) ⟨.int _,H,I.tok _,⟨_,rfl⟩,q⟩
end
end L2
namespace L2
open PySem PySem.Spec PyProof.Rows PySem.Calls
open AutoSeq1 (wpAny_loadPart')
def startOne (t : Tok) : List (Str × Value) := [(Str.ofString "start", Value.int 1 t)]
theorem enumS_type (a : Value) (t : Tok) : checkTypeCall "enumerate" ⟨[a], startOne t⟩ = pure () := by kernel_rfl
theorem enumS_new (a : Value) (t : Tok) : checkBuiltinCall "enumerate.__new__" ⟨[.type "enumerate", a], startOne t⟩ = pure () := by kernel_rfl
theorem enumS_init (a b : Value) (t : Tok) : argsOk "object.__init__" ⟨[a, b], startOne t⟩ := by
 unfold argsOk
 rw [signature?_of (id := "object.__init__") (n := "__tini__".toList) (o := "tcejbo".toList) (by kernel_rfl) F.owner_object]
 kernel_rfl
def enumH (hp : Heap) (l : Addr) : Heap := (hp.push { cls := .type "list_iterator", data := .fields #[.ref l, .int 0 0] }).push { cls := .type "enumerate", data := .fields #[.none, .bool false, .ref hp.objs.size, rawInt 1, .none, .none] }
theorem enumS_meets (l : Addr) (t : Tok) (items : Array Value) (n : Nat) (dct : Option Addr) (sl : Array (Option Value)) :
  Meets (Builtin.«enumerate.__new__» ⟨[.type "enumerate", .ref l], startOne t⟩) (fun _ R s => s.heap.get? l = some ⟨.type "list", dct, .seq items n, sl⟩ ∧ R (.ok (.ret (.ref (s.heap.objs.size + 1)))) { s with heap := enumH s.heap l }) := by
 refine Meets.of_wp fun prog w A R s h=>?_
 obtain ⟨hp,g,d,tk,os⟩:=s
 obtain ⟨hl,h⟩:=h
 have hsub:=sub_enumerate
 have hL : Heap.IsList hp l items:=⟨_,hl,rfl,n,rfl⟩
 have hz : (hp.push { cls := .type "list_iterator", data := .fields #[.ref l, .int 0 0] }).objs.size = hp.objs.size + 1 := Heap.size_push ..
 have h : R (.ok (.ret (.ref (hp.push { cls := .type "list_iterator", data := .fields #[.ref l, .int 0 0] }).objs.size))) ⟨enumH hp l, g, d, tk, os⟩ := by rw [hz]; exact h
 wp_walk using wpAny_loadPart' hl
 refine wpAny_stack_any fun st=>wpAny_pure ?_
 split
 ·rename_i c _ _ _ _ _
  cases (c == Value.type "enumerate") <;> wp_walk using wpAny_loadPart' hl, wpAny_pyIter_list hL
  all_goals exact ⟨_,rfl,h⟩
 ·wp_walk using wpAny_loadPart' hl,wpAny_pyIter_list hL
  all_goals exact ⟨_,rfl,h⟩
theorem enumS_object (o a : Value) (t : Tok) : Meets (Builtin.«object.__init__» ⟨[o, a], startOne t⟩) (fun _ R s => s.TypeIs o "enumerate" ∧ R (.ok (.ret .none)) s) := by
 refine Meets.of_wp fun prog w A R s hs=>?_
 obtain ⟨hT,hq⟩:=hs
 have hl:=F.called_enumerate.init.lookup
 have hm:=F.called_enumerate.made
 have hne : (some "enumerate.__new__" != some "object.__new__") = true := by decide
 repeat (any_goals (first | assumption | wp_step))
 exact ⟨_,rfl,hq⟩
theorem enumS_call {prog : Program} {w : World} {A : Around} {E : Value→Shared→Prop} {s : Shared} {l : Addr} {t : Tok} {items : Array Value} {n : Nat} {dct : Option Addr} {sl : Array (Option Value)} {Q : Value→Shared→Prop}
  (hl : s.heap.get? l = some ⟨.type "list", dct, .seq items n, sl⟩) (h : Q (.ref (s.heap.objs.size + 1)) { s with heap := enumH s.heap l }) : wpAny (model prog w) A (call (.type "enumerate") [.ref l] (startOne t)) Q E s := by
 have ft:=F.called_enumerate
 obtain ⟨c,tl,hmro⟩:=ft.mro
 have hmade:=ft.made
 have hsub:=ft.sub
 have hct:=enumS_type (.ref l) t
 refine wpAny_call (codeAny_of_tree ?_)
 show wpAny _ _ (callAny (.type "enumerate") _) _ _ _
 refine wpAny_pure ⟨Code.quiet_builtin _ (by decide +kernel),codeAny_builtin F.entry_type_call ?_⟩
 rw [Around.under_plain (weight_type_call_type "enumerate" [.ref l] (startOne t)) (units_type_call_type "enumerate" [.ref l] (startOne t))]
 have h1:=ft.notType
 have h2:=ft.canCreate
 repeat (any_goals (first | assumption | wp_step))
 refine codeAny_mono (codeAny_call_builtin ft.plain F.entry_enumerate_new (wpAny_of_eq (enumS_new (.ref l) t) (enumS_meets l t items n dct sl prog w A.in1 (wants (fun o s₁=>o = .ref (s.heap.objs.size + 1)∧s₁ = { s with heap:=enumH s.heap l }) (fun _ _=>False)) s ⟨hl,rfl,rfl⟩))) fun r s₁ hr=>?_
 match r,hr with
 | .error e,hr=>exact hr.elim
 | .ok (.ret o),hr =>
  obtain ⟨rfl,rfl⟩:=hr
  have hT : Shared.TypeIs { s with heap := enumH s.heap l } (.ref (s.heap.objs.size + 1)) "enumerate" := ⟨_, by rw [← Heap.size_push s.heap { cls := .type "list_iterator", data := .fields #[.ref l, .int 0 0] }]; exact Heap.get?_push_size _ rfl, rfl⟩
  have hli:=ft.init.lookup
  have hbi:=ft.init.bind (.ref (s.heap.objs.size + 1))
  repeat (any_goals (first | assumption | wp_step))
  refine codeAny_mono (codeAny_call_builtin ft.init.plain F.entry_object_init (ft.init.check _ _ _ _ _ _ _ _ hT (enumS_init _ _ t) (enumS_object _ (.ref l) t prog w A.in1 (wants (fun o s₂=>o = .none∧s₂ = { s with heap:=enumH s.heap l }) (fun _ _=>False)) _ ⟨hT,rfl,rfl⟩))) fun r₂ s₂ hr₂=>?_
  match r₂,hr₂ with
  | .error e,hr₂=>exact hr₂.elim
  | .ok (.ret o),hr₂ =>
   obtain ⟨rfl,rfl⟩:=hr₂
   repeat (any_goals (first | assumption | wp_step))
end L2
namespace L2
open PySem PySem.Spec PyProof.Rows
theorem draws_shift {prog : Program} {w : World} {A : Around} {it : Addr} {fp : List Addr} {n : Nat} {P : Nat→Value→Prop} {St : Nat→Heap→Prop} (D : Draws prog w A it fp n P St) : Draws prog w A it fp (n + 1) (fun i x=>P (i - 1) x) (fun i h=>1 ≤ i∧St (i - 1) h) where
 live:=fun i h st=>D.live _ _ st.2
 frame:=fun i h h' st k=>⟨st.1,D.frame _ _ _ st.2 k⟩
 item:=fun i s Q E hi st hQ=>D.item (i - 1) s Q E (by have:=st.1; omega) st.2 fun x h' tk p q r=>hQ x h' tk p ⟨by omega,by rw [Nat.add_sub_cancel]; rwa [Nat.sub_add_cancel st.1] at q⟩ r
 done:=fun s Q E st hE=>D.done s Q E (by have:=st.2; rwa [Nat.add_sub_cancel] at this) hE
theorem Draws.list0 {prog : Program} {w : World} {A : Around} (hh : A.handled = none) (it l : Addr) (hne : l ≠ it) (items : Array Value) {i : Nat} :
  Draws prog w A it [it,l] 0 (fun _ _=>True) (fun _ h=>h.IsListIter it l i∧h.IsList l items∧items[i]? = none) where
 live:=fun _ _ st=>let ⟨o,ho,_⟩:=st.1; ⟨o,ho⟩
 frame:=fun _ _ _ st hk=>⟨st.1.at fun o e=>hk it (by simp) o e,st.2.1.at fun o e=>hk l (by simp) o e,st.2.2⟩
 item:=fun i s Q E hi st hQ=>absurd hi (Nat.not_lt_zero _)
 done:=fun s Q E st hE=>wpAny_nextOf_list_end hh st.1 st.2.1 st.2.2 hE
def IteS (K : PySem.W.Frag) (a : Addr) : It where
 go i H:=∃ xs x,SqL K H a xs∧xs[i]? = some x
 yld i H v H':=∃ p x,H p = none∧v = .ref p∧H' = upd H p (.tup [.int ((i + 1 : Nat) : Int),x])∧∀ xs,SqL K H a xs→xs[i]? = some x
 stop i H:=∃ xs,SqL K H a xs∧xs.length ≤ i
theorem turn_enumS {P : Program} {w : World} {K : PySem.W.Frag} {elts : List Expr} {kx} {tpos : Pos} {e it a : Addr} (hne : e ≠ it) : Turn P w K (.Tuple elts kx tpos) (IteS K a) [e,it] e
  (fun i h=>(∃ old,IsEnum h e it ((i + 1 : Nat) : Int) old)∧h.IsListIter it a i) where
 mem:=by simp
 obj:=fun i h st c hc=>by
  obtain ⟨⟨old,he⟩,⟨o1,e1,_,d1⟩⟩:=st
  simp only [List.mem_cons,List.not_mem_nil,or_false] at hc
  rcases hc with rfl | rfl
  ·exact ⟨_,he,fun v q=>by cases q⟩
  ·exact ⟨_,e1,fun v q=>by rw [d1] at q; cases q⟩
 keep:=fun i h h' st k=>by
  obtain ⟨⟨old,he⟩,h1⟩:=st
  exact ⟨⟨old,k e (by simp) _ he⟩,h1.at fun o q=>k it (by simp) o q⟩
 item:=by
  intro X hP hw hK hc i pins s σ H E I hf st hg
  subst hP hw hK
  obtain ⟨xs,x,qa,hx⟩:=hg
  obtain ⟨its1,rv1,p1,z1⟩:=I.list qa
  obtain ⟨u1,hu1,ru1⟩:=rv1.get hx
  obtain ⟨⟨old,he⟩,h1⟩:=st
  have la:=p1.isList
  have nai : a ≠ it:=fun q=>by
   obtain ⟨o1,e1,c1,_⟩:=h1
   obtain ⟨o2,e2,c2,_⟩:=la
   rw [q,e1] at e2
   cases e2
   rw [c1] at c2
   exact absurd (Value.type.inj c2) (by decide)
  have nae : e ≠ a:=fun q=>by
   obtain ⟨o2,e2,c2,_⟩:=la
   rw [← q,he] at e2
   cases e2
   exact absurd (Value.type.inj c2) (by decide)
  have D:=draws_shift (Draws.list (prog:=X.prog) (w:=X.w) (A:=X.A.in1) (I.ok.hd hc) it a nai its1.toArray)
  have hil : i < its1.length:=(List.getElem?_eq_some_iff.mp hu1).1
  refine wpAny_pyNext_enum_itemD D he ⟨by omega,by rw [Nat.add_sub_cancel]; exact ⟨h1,la⟩⟩ (by simp; omega) hne (by simp [nae,hne]) fun y h' tk hy a1 a2 a3 a4 hk=>?_
  have ey : y = u1:=by
   have hy : its1.toArray[i + 1 - 1]? = some y:=hy
   rw [Nat.add_sub_cancel] at hy
   have h2 : its1.toArray[i]? = some u1:=by simpa using hu1
   exact Option.some.inj (hy.symm.trans h2)
  subst ey
  have a2' : h'.IsListIter it a (i + 1):=by
   have:=a2.2.1
   rwa [Nat.add_sub_cancel] at this
  refine ⟨_,rfl,wpAny_letOwnedTupleGo_enum a1 fun h'' he'' sb=>?_⟩
  have elt:=Heap.lt_size he
  have pz : s.heap.objs.size ≠ e:=Nat.ne_of_gt elt
  have hfr:=I.hok.fresh (Nat.le_refl s.heap.objs.size)
  have I1 : Inv X pins σ H { s with heap:=h'',toks:=tk + 1 }:=I.turnedL (t':=tk + 1) (ch:=[e,it]) (fun c o hb q=>by
   simp only [List.mem_cons,List.not_mem_nil,or_false,not_or] at hb
   exact sb.extBut c o hb.1 (hk c o hb.1 hb.2 q)) (fun c hb=>hf c hb)
  have hp : h''.get? s.heap.objs.size = some { cls := .type "tuple", data := .seq #[.int ((i + 1 : Nat) : Int) tk, y] } := sb.extBut _ _ pz a3
  have I2 : Inv X pins σ (upd H s.heap.objs.size (.tup [.int ((i + 1 : Nat) : Int),x])) { s with heap:=h'',toks:=tk + 1 }:=I1.track (I.fpOk (Nat.le_refl _) hfr) ⟨by show 2 ≤ sizeLine; decide,[.int ((i + 1 : Nat) : Int) tk,y],.cons ⟨_,rfl⟩ (.cons ru1 .nil),⟨_,hp,rfl,_,rfl⟩⟩
  refine ⟨.ref s.heap.objs.size,_,I2,rfl,⟨_,x,hfr,rfl,rfl,fun xs' q=>by rw [I.list_inj q qa]; exact hx⟩,⟨⟨_,he''⟩,a2'.extBut sb.extBut (Ne.symm hne)⟩,fun c hb=>?_⟩
  rw [upd_ne (fun q=>?_)]
  ·exact (hf c hb).1
  ·have hlt : c < s.heap.objs.size:=by
    obtain ⟨o1,e1,_⟩:=h1
    simp only [List.mem_cons,List.not_mem_nil,or_false] at hb
    rcases hb with rfl | rfl
    ·exact Heap.lt_size he
    ·exact Heap.lt_size e1
   rw [q] at hlt
   exact Nat.lt_irrefl _ hlt
 done:=by
  intro X hP hw hK hc i pins s σ H E I hf st hg
  subst hP hw hK
  obtain ⟨xs,qa,hend⟩:=hg
  obtain ⟨its1,rv1,p1,z1⟩:=I.list qa
  obtain ⟨⟨old,he⟩,h1⟩:=st
  have l1:=rv1.length
  have la:=p1.isList
  have nai : a ≠ it:=fun q=>by
   obtain ⟨o1,e1,c1,_⟩:=h1
   obtain ⟨o2,e2,c2,_⟩:=la
   rw [q,e1] at e2
   cases e2
   rw [c1] at c2
   exact absurd (Value.type.inj c2) (by decide)
  refine wpAny_pyNext_enum_endD (Draws.list0 (prog:=X.prog) (w:=X.w) (A:=X.A.in1) (I.ok.hd hc) it a nai its1.toArray) he ⟨h1,la,by simp; omega⟩ fun h' hk=>⟨rfl,?_⟩
  exact I.turnedL (t':=s.toks) (ch:=[it]) (fun c o hb q=>hk c o (fun z=>hb (by simp [z])) q) (fun c hb=>hf c (by
   have z : c = it:=by simpa using hb
   rw [z]; simp))
 self:=fun _ _ _ _ _ st h=>let ⟨⟨_,he⟩,_⟩:=st; wpAny_pyIter_enum he h
section
variable {M : Model} {A : Around} {E : Value→Shared→Prop} {s : Shared}
theorem typeKw {pos : Pos} {T : String} {args : List (Bool × Sem Value)} {kws : List (Option Str × Sem Value)} {Q : Value→Shared→Prop} (hp : args.any (·.1) = false) (hk : kws.any (·.1.isNone) = false)
  (h : wpAny M A (evalArgs (.type T) true args kws) (fun a s1=>wpAny M A (call (.type T) ([] ++ a.pos) a.kw) Q E s1) E s) : wpAny M A (callWith pos (.type T) [] args kws) Q E s:=by
 unfold callWith
 apply wpAny_bind
 apply wpAny_holding
 refine wpAny_mono h (fun a s1 q=>?_) fun _ _ z=>z
 apply wpAny_bind
 apply wpAny_standAt
 simp only [hp,hk,Bool.or_false]
 apply wpAny_bind
 apply wpAny_pure
 apply wpAny_bind
 refine wpAny_mono q (fun r s2 q2=>?_) fun _ _ z=>z
 apply wpAny_bind
 exact wpAny_holding (wpAny_point (wpAny_pure q2))
end
section
variable {X : Cx}
def iEnumS (K : PySem.W.Frag) (ta : TA) : TI:=fun σ H R=>ta σ H fun vs H1=>∃ a xs,vs = [.ref a]∧SqL K H1 a xs∧R (IteS K a) H1
theorem pi_enumS {ea ev : Expr} {ta : TA} {elts : List Expr} {kx} {tpos p kp pos : Pos} (hg : Gl X "enumerate") (hm : X.mg "enumerate" = none) (ha : PA X [ea] ta) (hv : PE X ev (tC (V.int 1))) (hs : starEach [ea] X.env = [(false, eval ea X.env)] := by rfl) :
  PI X (.Tuple elts kx tpos) (.Call (.Name "enumerate" p) [ea] [⟨some (Str.ofString "start"), ev, kp⟩] pos) (iEnumS X.K ta) := by
 intro pins s σ H R I h
 have he : eval (.Call (.Name "enumerate" p) [ea] [⟨some (Str.ofString "start"), ev, kp⟩] pos) X.env = (do callWith pos (← eval (.Name "enumerate" p) X.env) [] (backTo pos (starEach [ea] X.env)) (backToKw pos (keywordEach [⟨some (Str.ofString "start"), ev, kp⟩] X.env))) := rfl
 rw [he]
 apply wpAny_bind
 refine ld_blt I hg hm (by rfl : bootBuiltins "enumerate" = some (.type "enumerate")) ?_
 refine typeKw (by rw [hs]; rfl) rfl (evalArgs_kw2 rfl (thn (ha pos pins s σ H _ I h) fun us s1 ⟨vs,H1,I1,r1,q1⟩=>?_) (by rw [hs]; rfl))
 obtain ⟨a,xs,e,qa,q⟩:=q1
 subst e
 cases r1 with
 | cons r rr =>
  cases rr
  cases r
  refine kwAll_cons (thn (hv pins s1 σ H1 (fun v H2=>v = .int 1∧H2 = H1) I1 ⟨rfl,rfl⟩) fun u s2 ⟨v,H2,I2,ru,ev,eH⟩=>kwAll_nil ?_)
  subst ev
  subst eH
  obtain ⟨t,rfl⟩:=ru
  obtain ⟨its1,rv1,p1,z1⟩:=I2.list qa
  obtain ⟨⟨c,dct,dt,sl⟩,hl,hc,n,hd⟩:=p1.isList
  have hc : c = .type "list" := hc
  have hd : dt = .seq its1.toArray n:=hd
  subst hc
  subst hd
  have sz := Heap.size_push s2.heap { cls := .type "list_iterator", data := .fields #[.ref a, .int 0 0] }
  have he : IsEnum (enumH s2.heap a) (s2.heap.objs.size + 1) s2.heap.objs.size ((0 + 1 : Nat) : Int) .none:=by
   unfold IsEnum enumH
   rw [← sz]
   exact Heap.get?_push_size _ rfl
  have hit : (enumH s2.heap a).IsListIter s2.heap.objs.size a 0:=⟨_,Heap.get?_push_of_some _ (Heap.get?_push_size _ rfl),rfl,rfl⟩
  have hk : ∀ b o,s2.heap.get? b = some o→(enumH s2.heap a).get? b = some o:=fun b o q=>Heap.get?_push_of_some _ (Heap.get?_push_of_some _ q)
  refine enumS_call (t:=t) hl (wpAny_pyIter_enum he ?_)
  refine ⟨s2.heap.objs.size + 1,[s2.heap.objs.size + 1,s2.heap.objs.size],_,_,H2,rfl,I2.kept (t':=s2.toks) hk,turn_enumS (Nat.ne_of_gt (Nat.lt_succ_self _)),⟨⟨_,he⟩,hit⟩,fun c hb=>?_,q⟩
  have hle : s2.heap.objs.size ≤ c:=by
   simp only [List.mem_cons,List.not_mem_nil,or_false] at hb
   rcases hb with q | q
   ·rw [q]; exact Nat.le_add_right _ _
   ·rw [q]; exact Nat.le_refl _
  exact I2.fpOk hle (I2.hok.fresh hle)
end
theorem for_enumS {K : PySem.W.Frag} {g : TG} {a : Addr} {xs : List V} {tb : TS} {D : Ends} {σ : St} {H : Hp} (Pv : Nat→St→Hp→Prop) (h0 : Pv 0 σ H) (hl : ∀ i σ H,i ≤ xs.length→Pv i σ H→SqL K H a xs)
  (hs : ∀ i x p σ H,xs[i]? = some x→Pv i σ H→H p = none→g (.ref p) σ (upd H p (.tup [.int ((i + 1 : Nat) : Int),x])) fun σ2 H2=>tb { D with nx:=Pv (i + 1),ct:=Pv (i + 1),bk:=D.nx } σ2 H2) (hd : ∀ σ H,Pv xs.length σ H→D.nx σ H) :
  ∃ W : Nat→Nat→St→Hp→Prop,(∃ m,W 0 m σ H)∧∀ i m σ H,W i m σ H →
   ((IteS K a).stop i H∧D.nx σ H) ∨ ((IteS K a).go i H∧∃ N : St→Hp→Prop,(∀ σ' H',N σ' H'→∃ m',m' < m∧W (i + 1) m' σ' H')∧∀ x H',(IteS K a).yld i H x H'→g x σ H' fun σ2 H2=>tb { D with nx:=N,ct:=N,bk:=D.nx } σ2 H2):=by
 refine ⟨fun i m σ H=>m = xs.length - i∧i ≤ xs.length∧Pv i σ H,⟨xs.length,by simp,Nat.zero_le _,h0⟩,?_⟩
 rintro i m σ H ⟨rfl,hi,p⟩
 have qa:=hl i σ H hi p
 by_cases hlt : i < xs.length
 ·refine .inr ⟨⟨xs,xs[i],qa,by simp [hlt]⟩,Pv (i + 1),fun σ' H' p'=>⟨xs.length - (i + 1),by omega,rfl,hlt,p'⟩,fun v H' y=>?_⟩
  obtain ⟨q,x,hq,e1,e2,hx⟩:=y
  subst e1 e2
  exact hs i x q σ H (hx xs qa) p hq
 ·have e : i = xs.length:=by omega
  subst e
  exact .inl ⟨⟨xs,qa,Nat.le_refl _⟩,hd σ H p⟩
end L2
namespace L2
open PySem PySem.Spec PyProof.Rows
abbrev wBowl : Str := Str.ofString "bowl"
abbrev wDoor : Str := Str.ofString "door"
abbrev wPlus : Str := Str.ofString "+"
abbrev wDash : Str := Str.ofString "-"
abbrev wThen : Str := Str.ofString ">"
abbrev wNone : Str := Str.ofString ""
abbrev wZero : Str := Str.ofString "0"
def okT (x : Str) : Prop:=∀ c ∈ x.cps.toList,c < 128∧c ≠ 10
theorem okT_app {x y : Str} (h1 : okT x) (h2 : okT y) : okT (x ++ y):=fun c hc=>by
 rw [app_list] at hc
 rcases List.mem_append.mp hc with h | h
 ·exact h1 c h
 ·exact h2 c h
theorem okT_ascii {x : Str} (h : okT x) : x.cps.all (· < 128) = true:=by
 rw [← Array.all_toList]
 exact List.all_eq_true.mpr fun c hc=>decide_eq_true (h c hc).1
theorem join_mem {c : Nat} : ∀ {xs : List Str} {x : Str},x ∈ xs→∀ d ∈ x.cps.toList,d ∈ (Str.join (sg c) xs).cps.toList
 | [y],x,h,d,hd=>by
  rw [List.mem_singleton.mp h] at hd
  exact hd
 | y :: z :: r,x,h,d,hd=>by
  rw [join2_list]
  rcases List.mem_cons.mp h with e | e
  ·rw [e] at hd
   exact List.mem_append_left _ hd
  ·exact List.mem_append_right _ (List.mem_cons_of_mem _ (join_mem e d hd))
theorem okT_spl {x : Str} {c : Nat} (h : okT x) : ∀ p ∈ spl c x,okT p:=fun p hp d hd=>by
 have:=join_mem (c:=c) hp d hd
 rw [spl_join] at this
 exact h d this
def idleF (r : Str) : Bool:=decide (r = wNone) || hasHead 35 r
def digB (w : Str) : Bool:=w.cps.toList.all fun c=>decide (48 ≤ c) && decide (c ≤ 57)
def cntF (fig : Nat) (w : Str) : Option Nat:=if (1 ≤ w.length∧w.length ≤ fig)∧digB w = true∧¬ (hasHead 48 w = true∧w ≠ wZero) then some (numOf w) else none
def beadsF (w : Str) : Option Nat:=match cntF 10 w with
 | none=>none
 | some n=>if 1000000000 < n then none else some n
theorem dig_all {w : Str} (h : digB w = true) : allDig w:=fun c hc=>by
 have:=List.all_eq_true.mp h c hc
 rw [Bool.and_eq_true,decide_eq_true_eq,decide_eq_true_eq] at this
 exact this
theorem beads_le {w : Str} {n : Nat} (h : beadsF w = some n) : n ≤ 1000000000:=by
 unfold beadsF at h
 cases e : cntF 10 w with
 | none=>rw [e] at h; cases h
 | some m =>
  rw [e] at h
  try dsimp only at h
  split at h
  ·cases h
  ·cases h; omega
def partL (bowls : List Str) : List Int→List Str→Option (List Int)
 | bag,[]=>some bag
 | bag,a :: b :: c :: ws=>match beadsF a with
  | none=>none
  | some n=>if n = 0 ∨ plc bowls b = -1 ∨ 0 < bag.getD (plc bowls b).toNat 0 ∨ c ≠ wPlus then none else partL bowls (bag.set (plc bowls b).toNat (n : Int)) ws
 | _,_=>none
def partF (bowls ws : List Str) : Option (List Int):=if ws = [wDash] then some (List.replicate bowls.length 0) else if (ws.length + 1) % 3 ≠ 0 then none else partL bowls (List.replicate bowls.length 0) (ws ++ [wPlus])
abbrev DV:=NetV
def dv0 : NetV:=⟨[],[],[],[],[]⟩
def mayF (w : Str) (ys : List Str) (n : Nat) : Bool:=okName w && !decide (w ∈ ys) && decide (ys.length < n)
def takeB (D : DV) (ws : List Str) : Option DV:=if ws.length = 2∧mayF (ws.getD 0 wNone) D.bowls 6 = true then (match beadsF (ws.getD 1 wNone) with
 | none=>none
 | some n=>some { D with bowls:=D.bowls ++ [ws.getD 0 wNone],first:=D.first ++ [(n : Int)] }) else none
def takeD (D : DV) (ws : List Str) : Option DV:=if wThen ∈ ws∧mayF (ws.getD 0 wNone) D.doors 8 = true then (match partF D.bowls ((ws.take (plc ws wThen).toNat).drop 1),partF D.bowls (ws.drop ((plc ws wThen).toNat + 1)) with
 | some t,some g=>some { D with doors:=D.doors ++ [ws.getD 0 wNone],takes:=D.takes ++ [t],gives:=D.gives ++ [g] }
 | _,_=>none) else none
def takeR (D : DV) (ws : List Str) : Option DV:=if ws.getD 0 wNone = wBowl then takeB D (ws.drop 1) else if ws.getD 0 wNone = wDoor then takeD D (ws.drop 1) else none
def rdF : DV→Nat→List Str→Sum Nat DV
 | D,_,[]=>.inr D
 | D,k,r :: rs=>if idleF r = true then rdF D (k + 1) rs else match takeR D (spl 32 r) with
  | none=>.inl k
  | some D'=>rdF D' (k + 1) rs
theorem rd_idle {D : DV} {k : Nat} {r : Str} {rs : List Str} (h : idleF r = true) : rdF D k (r :: rs) = rdF D (k + 1) rs:=by
 show (if idleF r = true then _ else _) = _
 rw [if_pos h]
theorem rd_no {D : DV} {k : Nat} {r : Str} {rs : List Str} (h : idleF r = false) (e : takeR D (spl 32 r) = none) : rdF D k (r :: rs) = .inl k:=by
 show (if idleF r = true then _ else _) = _
 rw [if_neg (by rw [h]; decide),e]
theorem rd_go {D D' : DV} {k : Nat} {r : Str} {rs : List Str} (h : idleF r = false) (e : takeR D (spl 32 r) = some D') : rdF D k (r :: rs) = rdF D' (k + 1) rs:=by
 show (if idleF r = true then _ else _) = _
 rw [if_neg (by rw [h]; decide),e]
def bagIn (n : Nat) (r : List Int) : Prop:=r.length ≤ n∧∀ x ∈ r,0 ≤ x∧x ≤ 1000000000
structure DOk (D : DV) : Prop where
 b6 : D.bowls.length ≤ 6
 d8 : D.doors.length ≤ 8
 bn : ∀ y ∈ D.bowls,okName y = true
 dn : ∀ y ∈ D.doors,okName y = true
 bd : D.bowls.Nodup
 dd : D.doors.Nodup
 fl : D.first.length = D.bowls.length
 fb : ∀ x ∈ D.first,0 ≤ x∧x ≤ 1000000000
 tl : D.takes.length = D.doors.length
 gl : D.gives.length = D.doors.length
 tk : ∀ r ∈ D.takes,bagIn D.bowls.length r
 gv : ∀ r ∈ D.gives,bagIn D.bowls.length r
theorem DOk.nil : DOk dv0:=⟨by decide,by decide,fun _ h=>(nomatch h),fun _ h=>(nomatch h),List.nodup_nil,List.nodup_nil,rfl,fun _ h=>(nomatch h),rfl,rfl,fun _ h=>(nomatch h),fun _ h=>(nomatch h)⟩
theorem may_of {w : Str} {ys : List Str} {n : Nat} (h : mayF w ys n = true) : okName w = true∧w ∉ ys∧ys.length < n:=by
 unfold mayF at h
 rw [Bool.and_eq_true,Bool.and_eq_true,decide_eq_true_eq] at h
 exact ⟨h.1.1,fun z=>(by have:=h.1.2; rw [decide_eq_true z] at this; cases this),h.2⟩
theorem nodup_end {α : Type} {l : List α} {a : α} (h : l.Nodup) (n : a ∉ l) : (l ++ [a]).Nodup:=by
 rw [List.nodup_append]
 refine ⟨h,List.nodup_cons.mpr ⟨fun z=>(nomatch z),List.nodup_nil⟩,fun x hx y hy=>?_⟩
 rw [List.mem_singleton.mp hy]
 exact fun z=>n (z ▸ hx)
theorem mem_end {α : Type} {P : α→Prop} {l : List α} {a : α} (h : ∀ x ∈ l,P x) (ha : P a) : ∀ x ∈ l ++ [a],P x:=fun x hx=>by
 rcases List.mem_append.mp hx with q | q
 ·exact h x q
 ·rw [List.mem_singleton.mp q]; exact ha
theorem set_in {P : Int→Prop} {l : List Int} {i : Nat} {a : Int} (h : ∀ x ∈ l,P x) (ha : P a) : ∀ x ∈ l.set i a,P x:=fun x hx=>by
 rcases List.mem_or_eq_of_mem_set hx with q | q
 ·exact h x q
 ·rw [q]; exact ha
theorem partL_ok {bowls : List Str} : ∀ (ws : List Str) (bag t : List Int),(∀ x ∈ bag,0 ≤ x∧x ≤ 1000000000)→partL bowls bag ws = some t→t.length = bag.length∧∀ x ∈ t,0 ≤ x∧x ≤ 1000000000
 | [],bag,t,h,e=>by cases e; exact ⟨rfl,h⟩
 | [_],_,_,_,e=>by cases e
 | [_,_],_,_,_,e=>by cases e
 | a :: b :: c :: ws,bag,t,h,e=>by
  unfold partL at e
  cases q : beadsF a with
  | none=>rw [q] at e; cases e
  | some n =>
   rw [q] at e
   try dsimp only at e
   split at e
   ·cases e
   ·have hn:=beads_le q
    obtain ⟨i1,i2⟩:=partL_ok ws _ t (set_in (P:=fun x=>0 ≤ x∧x ≤ 1000000000) h ⟨by omega,by omega⟩) e
    rw [List.length_set] at i1
    exact ⟨i1,i2⟩
theorem rep_in {z : Nat} : ∀ x ∈ List.replicate z (0 : Int),0 ≤ x∧x ≤ 1000000000:=fun x hx=>by rw [(List.mem_replicate.mp hx).2]; decide
theorem partF_ok {bowls ws : List Str} {t : List Int} (e : partF bowls ws = some t) : t.length = bowls.length∧∀ x ∈ t,0 ≤ x∧x ≤ 1000000000:=by
 unfold partF at e
 split at e
 ·cases e; exact ⟨List.length_replicate,rep_in⟩
 ·split at e
  ·cases e
  ·obtain ⟨i1,i2⟩:=partL_ok _ _ t rep_in e
   rw [List.length_replicate] at i1
   exact ⟨i1,i2⟩
theorem DOk.take {D D' : DV} {ws : List Str} (d : DOk D) (e : takeR D ws = some D') : DOk D':=by
 unfold takeR at e
 split at e
 ·unfold takeB at e
  split at e
  ·rename_i h
   obtain ⟨m1,m2,m3⟩:=may_of h.2
   cases q : beadsF ((ws.drop 1).getD 1 wNone) with
   | none=>rw [q] at e; cases e
   | some n =>
    rw [q] at e
    cases e
    have hn:=beads_le q
    have lb : ∀ r : List Int,bagIn D.bowls.length r→bagIn (D.bowls ++ [(ws.drop 1).getD 0 wNone]).length r:=fun r hr=>⟨by rw [List.length_append]; have:=hr.1; omega,hr.2⟩
    exact ⟨by show List.length (_ ++ _) ≤ 6; rw [List.length_append,List.length_singleton]; omega,d.d8,mem_end d.bn m1,d.dn,nodup_end d.bd m2,d.dd,by show List.length (_ ++ _) = List.length (_ ++ _); rw [List.length_append,List.length_append,d.fl]; rfl,mem_end d.fb ⟨by omega,by omega⟩,d.tl,d.gl,fun r hr=>lb r (d.tk r hr),fun r hr=>lb r (d.gv r hr)⟩
  ·cases e
 ·split at e
  ·unfold takeD at e
   split at e
   ·rename_i h
    obtain ⟨m1,m2,m3⟩:=may_of h.2
    cases q1 : partF D.bowls (((ws.drop 1).take (plc (ws.drop 1) wThen).toNat).drop 1) with
    | none=>rw [q1] at e; cases e
    | some t =>
     cases q2 : partF D.bowls ((ws.drop 1).drop ((plc (ws.drop 1) wThen).toNat + 1)) with
     | none=>rw [q1,q2] at e; cases e
     | some g =>
      rw [q1,q2] at e
      cases e
      obtain ⟨t1,t2⟩:=partF_ok q1
      obtain ⟨g1,g2⟩:=partF_ok q2
      exact ⟨d.b6,by show List.length (_ ++ _) ≤ 8; rw [List.length_append,List.length_singleton]; omega,d.bn,mem_end d.dn m1,d.bd,nodup_end d.dd m2,d.fl,d.fb,by show List.length (_ ++ _) = List.length (_ ++ _); rw [List.length_append,List.length_append,d.tl]; rfl,by show List.length (_ ++ _) = List.length (_ ++ _); rw [List.length_append,List.length_append,d.gl]; rfl,mem_end d.tk ⟨Nat.le_of_eq t1,t2⟩,mem_end d.gv ⟨Nat.le_of_eq g1,g2⟩⟩
   ·cases e
  ·cases e
def wid (z : Nat) (r : List Int) : List Int:=r ++ List.replicate (z - r.length) 0
def netD (D : DV) : NetV:=⟨D.bowls,D.doors,D.takes.map (wid D.bowls.length),D.gives.map (wid D.bowls.length),D.first⟩
theorem wid_ok {z : Nat} {r : List Int} (h : bagIn z r) : okBag z (wid z r):=by
 unfold wid
 refine ⟨by rw [List.length_append,List.length_replicate]; have:=h.1; omega,fun x hx=>?_⟩
 rcases List.mem_append.mp hx with q | q
 ·exact h.2 x q
 ·exact rep_in x q
theorem DOk.net {D : DV} (d : DOk D) (h : D.bowls ≠ []) : (netD D).Ok:=by
 have b1 : 1 ≤ D.bowls.length:=List.length_pos_iff.mpr h
 refine ⟨b1,d.b6,d.d8,d.bn,d.dn,d.bd,d.dd,?_,?_,fun r hr=>?_,fun r hr=>?_,⟨d.fl,d.fb⟩⟩
 ·show (D.takes.map _).length = _; rw [List.length_map]; exact d.tl
 ·show (D.gives.map _).length = _; rw [List.length_map]; exact d.gl
 ·obtain ⟨q,hq,rfl⟩:=List.mem_map.mp hr
  exact wid_ok (d.tk q hq)
 ·obtain ⟨q,hq,rfl⟩:=List.mem_map.mp hr
  exact wid_ok (d.gv q hq)
structure D5 (b d t g f : Addr) : Prop where
 bd : b ≠ d
 bt : b ≠ t
 bg : b ≠ g
 bf : b ≠ f
 dt : d ≠ t
 dg : d ≠ g
 df : d ≠ f
 tg : t ≠ g
 tf : t ≠ f
 gf : g ≠ f
structure O5 (b d t g f q : Addr) : Prop where
 b : q ≠ b
 d : q ≠ d
 t : q ≠ t
 g : q ≠ g
 f : q ≠ f
def SameX (b d t g f : Addr) (H H' : Hp) : Prop:=∀ q o,H q = some o→O5 b d t g f q→H' q = some o
theorem SameX.refl (b d t g f : Addr) (H : Hp) : SameX b d t g f H H:=fun _ _ e _=>e
theorem SameX.trans {b d t g f : Addr} {H H1 H2 : Hp} (h : SameX b d t g f H H1) (k : SameX b d t g f H1 H2) : SameX b d t g f H H2:=fun q o e n=>k q o (h q o e n) n
theorem SameX.of {b d t g f : Addr} {H H' : Hp} (S : Same H H') : SameX b d t g f H H':=fun q o e _=>S q o e
structure DIn (C : Addr) (H : Hp) (y dy b d t g f : Addr) (ts gs : List Addr) (D : NetV) : Prop where
 n : NetIn C H y dy b d t g f ts gs D
 v : D5 b d t g f
 ot : ∀ q ∈ ts,O5 b d t g f q
 og : ∀ q ∈ gs,O5 b d t g f q
section
variable {C : Addr} {H H' : Hp} {y dy b d t g f q : Addr} {ts gs : List Addr} {D : NetV} {o : HO}
theorem DIn.same (n : DIn C H y dy b d t g f ts gs D) (S : Same H H') : DIn C H' y dy b d t g f ts gs D:=⟨n.n.same S,n.v,n.ot,n.og⟩
theorem DIn.yl (n : DIn C H y dy b d t g f ts gs D) {xs : List V} (h : H q = some (.lst xs)) : y ≠ q:=ne_of n.n.ob h (by intro z; cases z)
theorem rows_lay {as : List Addr} {rs : List (List Int)} (R : Rows H as rs) (h : ∀ a ∈ as,a ≠ q) : Rows (upd H q o) as rs:=Rows.lay R h
theorem DIn.putF (n : DIn C H y dy b d t g f ts gs D) (x : Int) : DIn C (upd H f (.lst (vints D.first ++ [V.int x]))) y dy b d t g f ts gs { D with first:=D.first ++ [x] }∧SameX b d t g f H (upd H f (.lst (vints D.first ++ [V.int x]))):=by
 have v:=n.v
 refine ⟨⟨⟨by rw [upd_ne (n.yl n.n.hf)]; exact n.n.ob,by rw [upd_ne v.bf]; exact n.n.hb,by rw [upd_ne v.df]; exact n.n.hd,by rw [upd_ne v.tf]; exact n.n.ht,rows_lay n.n.tr fun a ha=>(n.ot a ha).f,by rw [upd_ne v.gf]; exact n.n.hg,rows_lay n.n.gr fun a ha=>(n.og a ha).f,by rw [upd_same]; show _ = some (HO.lst (vints (D.first ++ [x]))); rw [vints_snoc]⟩,v,n.ot,n.og⟩,fun q o e k=>by rw [upd_ne k.f]; exact e⟩
theorem DIn.out (n : DIn C H y dy b d t g f ts gs D) (h : H q = none) : O5 b d t g f q:=⟨Ne.symm (ne_of_none n.n.hb h),Ne.symm (ne_of_none n.n.hd h),Ne.symm (ne_of_none n.n.ht h),Ne.symm (ne_of_none n.n.hg h),Ne.symm (ne_of_none n.n.hf h)⟩
end
end L2
namespace L2
open PySem PySem.Spec PyProof.Rows PySem.SeqAt
theorem all_eq_ss {l h : List Str} (hl : l.length = h.length) : (List.range l.length).all (fun j=>eqV ((vstrs l).getD j .non) ((vstrs h).getD j .non)) = decide (l = h):=by
 rw [Bool.eq_iff_iff,List.all_eq_true,decide_eq_true_eq]
 constructor
 ·intro z
  refine List.ext_getElem hl fun i h1 h2=>?_
  have q:=z i (List.mem_range.mpr h1)
  simp only [vstrs,List.getD_eq_getElem?_getD,List.getElem?_map,List.getElem?_eq_getElem h1,List.getElem?_eq_getElem h2,Option.map_some,Option.getD_some,eqV_str,decide_eq_true_eq] at q
  exact q
 ·rintro rfl i hi
  have h1:=List.mem_range.mp hi
  simp only [vstrs,List.getD_eq_getElem?_getD,List.getElem?_map,List.getElem?_eq_getElem h1,Option.map_some,Option.getD_some,eqV_str,decide_true]
section
variable {X : Cx} {pins : List (Addr × Obj)} {σ : St} {H : Hp} {s : Shared} {A : Around} {a b : Addr} {l h : List Str}
theorem ss_eqAt {its its2 : List Value} (rv : Vals (vstrs l) its) (rw' : Vals (vstrs h) its2) : ∀ j (h1 : j < its.toArray.size) (h2 : j < its2.toArray.size),EqAt A s its.toArray[j] its2.toArray[j] (eqV ((vstrs l).getD j .non) ((vstrs h).getD j .non)):=by
 intro j h1 h2
 have l1:=rv.length
 have l2:=rw'.length
 have k1 : j < (vstrs l).length:=by rw [l1]; simpa using h1
 have k2 : j < (vstrs h).length:=by rw [l2]; simpa using h2
 obtain ⟨u,hu,ru⟩:=rv.get (List.getElem?_eq_getElem k1)
 obtain ⟨v,hv,rv2⟩:=rw'.get (List.getElem?_eq_getElem k2)
 have g1 : its.toArray[j] = u:=by simpa using (List.getElem?_eq_some_iff.mp hu).2
 have g2 : its2.toArray[j] = v:=by simpa using (List.getElem?_eq_some_iff.mp hv).2
 rw [g1,g2]
 have f : ∀ {q : List Str} (k : j < (vstrs q).length),flatV (vstrs q)[j] = true∧(vstrs q).getD j .non = (vstrs q)[j]:=fun {q} k=>by
  refine ⟨?_,?_⟩
  ·simp only [vstrs,List.getElem_map]; rfl
  ·rw [List.getD_eq_getElem?_getD,List.getElem?_eq_getElem k]; rfl
 rw [(f k1).2,(f k2).2]
 exact eqAt_V ru rv2 (f k1).1 (f k2).1
theorem rc_ss (I : Inv X pins σ H s) (hu : A.units < cLine) (qa : SqL X.K H a (vstrs l)) (qb : SqL X.K H b (vstrs h)) : RcAt A s (.ref a) (.ref b) (decide (l = h)):=by
 obtain ⟨its,rv,p,_⟩:=I.list qa
 obtain ⟨its2,rw',p2,_⟩:=I.list qb
 have l1:=rv.length
 have l2:=rw'.length
 rw [List.length_map] at l1 l2
 by_cases e : l.length = h.length
 ·have q:=RcAt.lists (A:=A) p.isList p2.isList (by simp; omega) hu (ss_eqAt rv rw')
  have e2 : its.toArray.size = l.length:=by simp; omega
  rw [e2,all_eq_ss e] at q
  exact q
 ·rw [decide_eq_false fun z=>e (by rw [z])]
  exact RcAt.lists_lengths p.isList p2.isList (by simp; omega) hu
inductive rEqSs (K : PySem.W.Frag) (x : V) (y : V) (H : Hp) (Q : VK) : Prop
 | mk : ∀ a b l h,(x = .ref a)→(y = .ref b)→(SqL K H a (vstrs l))→(SqL K H b (vstrs h))→(Q (.bl (decide (l = h))) H)→rEqSs K x y H Q
theorem op_eqSs (hu : X.A.units < cLine) : OpR X (compareOp .Eq) (rEqSs X.K):=by
 intro pins s σ H x y v u Q I rx ry h
 obtain ⟨a,b,l,h,rfl,rfl,qa,qb,q⟩:=h
 cases rx
 cases ry
 exact rc_ss I hu qa qb _ _ _ _ ⟨.bl _,H,I,rfl,q⟩
end
theorem plc_nat {ys : List Str} {y : Str} (h : plc ys y ≠ -1) : ∃ j : Nat,j < ys.length∧plc ys y = (j : Int):=by
 unfold plc at h ⊢
 by_cases m : y ∈ ys
 ·rw [if_pos m]
  exact ⟨_,List.findIdx_lt_length_of_exists ⟨y,m,by simp⟩,rfl⟩
 ·rw [if_neg m] at h
  exact absurd rfl h
theorem cut_fr (xs : List V) (k : Nat) : cutV xs (some (k : Int)) none = xs.drop k:=by
 unfold cutV
 rw [HT.sIx_none,HT.sIx_nat]
 by_cases h : k ≤ xs.length
 ·rw [Nat.min_eq_left h,List.take_of_length_le (by rw [List.length_drop]; omega)]
 ·rw [Nat.min_eq_right (by omega),List.drop_eq_nil_of_le (Nat.le_refl _),List.drop_eq_nil_of_le (by omega),List.take_nil]
theorem strs_drop (ws : List Str) (k : Nat) : (vstrs ws).drop k = vstrs (ws.drop k):=(List.map_drop ..).symm
end L2
namespace L2
open PySem PySem.Spec PyProof.Rows PySem.SeqAt
structure TxB (B : Nat) (x : Str) : Prop where
 ok : okT x
 le : x.length ≤ B
theorem TxB.mono {A B : Nat} {x : Str} (h : TxB A x) (hb : A ≤ B) : TxB B x:=⟨h.ok,Nat.le_trans h.le hb⟩
theorem TxB.app {A B : Nat} {x y : Str} (h : TxB A x) (k : TxB B y) : TxB (A + B) (x ++ y):=⟨okT_app h.ok k.ok,by rw [Str.length_append]; have:=h.le; have:=k.le; omega⟩
theorem num_tx {n : Int} (h0 : 0 ≤ n) (h1 : n < 10 ^ 10) : TxB 10 (toString n : Str):=by
 refine ⟨fun c hc=>?_,PySem.W.KT.len_num h0 h1⟩
 obtain ⟨m,rfl⟩:=Int.eq_ofNat_of_zero_le h0
 have hc : c ∈ (PySem.Str.ofString (toString ((m : Nat) : Int))).cps.toList:=hc
 rw [PySem.W.KIN.signs_num] at hc
 obtain ⟨ch,hch,e⟩:=List.mem_map.mp hc
 have r:=PyProof.Rows.digit_range (Nat.isDigit_of_mem_toDigits (by decide) (by decide) hch)
 rw [← e]
 have r : 48 ≤ ch.toNat∧ch.toNat ≤ 57:=r
 omega
theorem em_in {a m : Int} (h : 0 < m) : 0 ≤ a % m∧a % m < m:=⟨Int.emod_nonneg _ (by omega),Int.emod_lt_of_pos _ h⟩
theorem join_tx {s : Str} {A B : Nat} (hs : TxB A s) : ∀ {ys : List Str},(∀ y ∈ ys,TxB B y)→TxB (ys.length * (B + A)) (Str.join s ys)
 | [],_=>⟨fun c hc=>absurd hc (by show c ∉ ([] : List Nat); exact List.not_mem_nil),Nat.zero_le _⟩
 | [y],h=>(h y (List.mem_singleton.mpr rfl)).mono (by show B ≤ 1 * (B + A); omega)
 | y :: z :: r,h=>by
  have ih:=join_tx hs (ys:=z :: r) fun w hw=>h w (List.mem_cons_of_mem _ hw)
  refine (((h y (List.mem_cons_self ..)).app hs).app ih).mono ?_
  rw [List.length_cons (a:=y),Nat.succ_mul]
  omega
instance (B : Nat) (x : Str) : Decidable (TxB B x):=decidable_of_iff ((∀ c ∈ x.cps.toList,c < 128∧c ≠ 10)∧x.length ≤ B) ⟨fun h=>⟨h.1,h.2⟩,fun h=>⟨h.ok,h.le⟩⟩
def RowP (w : Str) : Prop:=TxB 30 w ∨ (TxB 420 w∧w.cps.toList.head? ≠ some 98)
theorem RowP.tx {w : Str} (h : RowP w) : TxB 420 w:=by
 rcases h with h | h
 ·exact h.mono (by decide)
 ·exact h.1
theorem strs_end (ws : List Str) (w : Str) : vstrs ws ++ [V.str w] = vstrs (ws ++ [w]):=by
 show List.map _ _ ++ _ = List.map _ (_ ++ _)
 rw [List.map_append]
 rfl
end L2
namespace L2
open PySem PySem.Spec PyProof.Rows PySem.SeqAt
section
variable {X : Cx} {pins : List (Addr × Obj)} {σ : St} {H : Hp} {s : Shared} {A : Around} {a b : Addr} {l h : List Str}
end
end L2
namespace L2
open PySem PySem.Spec PyProof.Rows PySem.SeqAt
theorem digs_head (m : Nat) : 0 < m→(Nat.toDigits 10 m).head? ≠ some '0':=by
 induction m using Nat.strongRecOn with
 | _ m ih =>
  intro h
  by_cases h10 : m < 10
  ·rw [Nat.toDigits_of_lt_base h10]
   have : ∀ m,m < 10→0 < m→(Nat.digitChar m) ≠ '0':=by decide
   intro z
   exact this m h10 h (Option.some.inj z)
  ·have hm : m % 10 < 10:=Nat.mod_lt m (by decide)
   have t:=Nat.toDigits_append_toDigits (b:=10) (n:=m / 10) (d:=m % 10) (by decide) (by omega) hm
   rw [Nat.div_add_mod] at t
   rw [← t]
   have i:=ih (m / 10) (by omega) (by omega)
   cases q : Nat.toDigits 10 (m / 10) with
   | nil =>
    have:=toDigits_len_ge 10 (m / 10)
    rw [q] at this
    exact absurd this (by decide)
   | cons a l =>
    rw [q] at i
    exact i
theorem beads_txI (n : Nat) (h : n ≤ 1000000000) : beadsF (txI (n : Int)) = some n:=by
 have es:=PySem.W.KIN.signs_num n
 have es : (txI (n : Int)).cps.toList = (Nat.toDigits 10 n).map Char.toNat:=es
 have ln:=PySem.W.KT.len_num (n:=(n : Int)) (by omega) (by omega)
 have lc : (txI (n : Int)).cps.toList.length = (txI (n : Int)).length:=Array.length_toList
 have ge:=toDigits_len_ge 10 n
 have l1 : 1 ≤ (txI (n : Int)).length:=by
  rw [← lc,es,List.length_map]
  exact ge
 have hd : digB (txI (n : Int)) = true:=by
  unfold digB
  rw [es]
  refine List.all_eq_true.mpr fun c hc=>?_
  obtain ⟨ch,hch,e⟩:=List.mem_map.mp hc
  have r:=PyProof.Rows.digit_range (Nat.isDigit_of_mem_toDigits (by decide) (by decide) hch)
  have r : 48 ≤ ch.toNat∧ch.toNat ≤ 57:=r
  rw [← e,decide_eq_true r.1,decide_eq_true r.2]
  rfl
 have hz : ¬ (hasHead 48 (txI (n : Int)) = true∧txI (n : Int) ≠ wZero):=by
  rintro ⟨z1,z2⟩
  unfold hasHead at z1
  rw [es] at z1
  have z1:=beq_iff_eq.mp z1
  by_cases n0 : n = 0
  ·subst n0
   exact z2 rfl
  ·have hh:=digs_head n (by omega)
   cases q : Nat.toDigits 10 n with
   | nil=>rw [q] at z1; cases z1
   | cons a l =>
    rw [q] at z1 hh
    have z1 : a.toNat = 48:=Option.some.inj z1
    have : a = '0':=Char.toNat_inj.mp z1
    exact hh (by rw [this]; rfl)
 have hv : numOf (txI (n : Int)) = n:=by
  unfold numOf
  rw [es]
  exact PySem.W.KIN.val_back n
 have ec : cntF 10 (txI (n : Int)) = some n:=by
  unfold cntF
  rw [if_pos ⟨⟨l1,ln⟩,hd,hz⟩,hv]
 unfold beadsF
 rw [ec]
 try dsimp only
 rw [if_neg (by omega)]
def pwL : List (Str × Int)→List Str
 | []=>[]
 | [p]=>[txI p.2,p.1]
 | p :: q :: r=>txI p.2 :: p.1 :: wPlus :: pwL (q :: r)
def flat3 (ps : List (Str × Int)) : List Str:=(ps.map fun p=>[txI p.2,p.1,wPlus]).flatten
theorem flat3_cons (p : Str × Int) (ps : List (Str × Int)) : flat3 (p :: ps) = txI p.2 :: p.1 :: wPlus :: flat3 ps:=rfl
theorem pw_flat : ∀ {ps : List (Str × Int)},ps ≠ []→pwL ps ++ [wPlus] = flat3 ps
 | [],h=>absurd rfl h
 | [p],_=>rfl
 | p :: q :: r,_=>by
  have ih:=pw_flat (ps:=q :: r) (fun z=>List.cons_ne_nil _ _ z)
  rw [flat3_cons,← ih]
  rfl
theorem pw_len : ∀ {ps : List (Str × Int)},ps ≠ []→(pwL ps).length + 1 = 3 * ps.length
 | [],h=>absurd rfl h
 | [p],_=>rfl
 | p :: q :: r,_=>by
  have ih:=pw_len (ps:=q :: r) (fun z=>List.cons_ne_nil _ _ z)
  show (pwL (q :: r)).length + 3 + 1 = 3 * ((q :: r).length + 1)
  omega
theorem pw_ne {ps : List (Str × Int)} (h : ps ≠ []) : pwL ps ≠ []:=fun z=>by
 have:=pw_len h
 rw [z] at this
 have h1 : 1 ≤ ps.length:=List.length_pos_iff.mpr h
 simp at this
 omega
theorem join_pw : ∀ {ps : List (Str × Int)}, ps ≠ [] → Str.join (Str.ofString " + ") (ps.map fun p => piece p.1 p.2) = Str.join (sg 32) (pwL ps)
 | [],h=>absurd rfl h
 | [p],_=>by
  show piece p.1 p.2 = txI p.2 ++ sg 32 ++ p.1
  refine str_list ?_
  unfold piece
  rw [app_list,app_list,app_list,app_list,app_list]
  rfl
 | p :: q :: r,_=>by
  have ih:=join_pw (ps:=q :: r) (fun z=>List.cons_ne_nil _ _ z)
  have e1 : Str.join (Str.ofString " + ") ((p :: q :: r).map fun p => piece p.1 p.2) = piece p.1 p.2 ++ Str.ofString " + " ++ Str.join (Str.ofString " + ") ((q :: r).map fun p => piece p.1 p.2) := rfl
  have e2 : Str.join (sg 32) (pwL (p :: q :: r)) = txI p.2 ++ sg 32 ++ (p.1 ++ sg 32 ++ (wPlus ++ sg 32 ++ Str.join (sg 32) (pwL (q :: r)))):=by
   cases h : pwL (q :: r) with
   | nil=>exact absurd h (pw_ne fun z=>List.cons_ne_nil _ _ z)
   | cons a l =>
    show Str.join (sg 32) (txI p.2 :: p.1 :: wPlus :: pwL (q :: r)) = _
    rw [h]
    rfl
  rw [e1,e2,ih]
  refine str_list ?_
  unfold piece
  simp only [app_list,List.append_assoc]
  rfl
theorem plc_nodup {ys : List Str} {k : Nat} (nd : ys.Nodup) (h : k < ys.length) : plc ys ys[k] = (k : Int):=by
 refine plc_at (List.getElem?_eq_getElem h) fun m hm w hw e=>?_
 have hm' : m < ys.length:=by omega
 rw [List.getElem?_eq_getElem hm'] at hw
 have hw:=Option.some.inj hw
 rw [← hw] at e
 exact List.pairwise_iff_getElem.mp nd m k hm' h hm e
theorem name_free {y : Str} (h : okName y = true) : ∀ c ∈ y.cps.toList,97 ≤ c∧c ≤ 122:=fun c hc=>by
 unfold okName at h
 rw [Bool.and_eq_true,Bool.and_eq_true] at h
 have:=List.all_eq_true.mp h.2 c hc
 unfold okSign at this
 rw [Bool.and_eq_true,decide_eq_true_eq,decide_eq_true_eq] at this
 exact this
theorem num_free {n : Int} (h0 : 0 ≤ n) : ∀ c ∈ (txI n).cps.toList,48 ≤ c∧c ≤ 57:=fun c hc=>by
 obtain ⟨m,rfl⟩:=Int.eq_ofNat_of_zero_le h0
 have hc : c ∈ (PySem.Str.ofString (toString ((m : Nat) : Int))).cps.toList:=hc
 rw [PySem.W.KIN.signs_num] at hc
 obtain ⟨ch,hch,e⟩:=List.mem_map.mp hc
 have r:=PyProof.Rows.digit_range (Nat.isDigit_of_mem_toDigits (by decide) (by decide) hch)
 rw [← e]
 exact r
def wFree (w : Str) : Prop:=∀ c ∈ w.cps.toList,c ≠ 32∧c ≠ 10∧c ≠ 62∧c < 128
theorem wFree_name {y : Str} (h : okName y = true) : wFree y:=fun c hc=>by have:=name_free h c hc; omega
theorem wFree_num {n : Int} (h0 : 0 ≤ n) : wFree (txI n):=fun c hc=>by have:=num_free h0 c hc; omega
theorem wFree_plus : wFree wPlus:=fun c hc=>by
 have : c ∈ [43]:=hc
 rw [List.mem_singleton.mp this]; decide
theorem wFree_dash : wFree wDash:=fun c hc=>by
 have : c ∈ [45]:=hc
 rw [List.mem_singleton.mp this]; decide
theorem pwL_free : ∀ {ps : List (Str × Int)},(∀ p ∈ ps,wFree p.1∧0 ≤ p.2)→∀ w ∈ pwL ps,wFree w
 | [],_,w,h=>by cases h
 | [p],hp,w,h=>by
  obtain ⟨k1,k2⟩:=hp p (List.mem_singleton.mpr rfl)
  have h : w ∈ [txI p.2,p.1]:=h
  rcases List.mem_cons.mp h with e | e
  ·rw [e]; exact wFree_num k2
  ·rw [List.mem_singleton.mp e]; exact k1
 | p :: q :: r,hp,w,h=>by
  obtain ⟨k1,k2⟩:=hp p (List.mem_cons_self ..)
  have h : w ∈ txI p.2 :: p.1 :: wPlus :: pwL (q :: r):=h
  rcases List.mem_cons.mp h with e | e
  ·rw [e]; exact wFree_num k2
  ·rcases List.mem_cons.mp e with e | e
   ·rw [e]; exact k1
   ·rcases List.mem_cons.mp e with e | e
    ·rw [e]; exact wFree_plus
    ·exact pwL_free (fun x hx=>hp x (List.mem_cons_of_mem _ hx)) w e
theorem join_app2 (c : Nat) : ∀ {xs ys : List Str},xs ≠ []→ys ≠ []→Str.join (sg c) (xs ++ ys) = Str.join (sg c) xs ++ sg c ++ Str.join (sg c) ys
 | [],_,h,_=>absurd rfl h
 | [x],y :: ys,_,_=>rfl
 | [x],[],_,h=>absurd rfl h
 | x :: z :: xs,ys,_,h=>by
  have ih:=join_app2 c (xs:=z :: xs) (ys:=ys) (fun q=>List.cons_ne_nil _ _ q) h
  show x ++ sg c ++ Str.join (sg c) (z :: xs ++ ys) = x ++ sg c ++ Str.join (sg c) (z :: xs) ++ sg c ++ Str.join (sg c) ys
  rw [ih]
  refine str_list ?_
  simp only [app_list,List.append_assoc]
theorem rowB_join (y : Str) (c : Int) : rowB y c = Str.join (sg 32) [wBowl,y,txI c]:=by
 refine str_list ?_
 show (Str.empty ++ Str.ofString "bowl " ++ y ++ Str.ofString " " ++ txI c).cps.toList = (wBowl ++ sg 32 ++ (y ++ sg 32 ++ txI c)).cps.toList
 simp only [app_list,List.append_assoc]
 rfl
theorem rowD_join (y : Str) {T G : List Str} (hT : T ≠ []) (hG : G ≠ []) : rowD y (Str.join (sg 32) T) (Str.join (sg 32) G) = Str.join (sg 32) ([wDoor,y] ++ (T ++ ([wThen] ++ G))):=by
 rw [join_app2 32 (xs:=[wDoor,y]) (ys:=T ++ ([wThen] ++ G)) (by simp) (by simp [hT]),join_app2 32 (xs:=T) (ys:=[wThen] ++ G) hT (by simp),join_app2 32 (xs:=[wThen]) (ys:=G) (by simp) hG]
 refine str_list ?_
 show (Str.empty ++ Str.ofString "door " ++ y ++ Str.ofString " " ++ Str.join (sg 32) T ++ Str.ofString " > " ++ Str.join (sg 32) G).cps.toList = (wDoor ++ sg 32 ++ y ++ sg 32 ++ (Str.join (sg 32) T ++ sg 32 ++ (wThen ++ sg 32 ++ Str.join (sg 32) G))).cps.toList
 simp only [app_list,List.append_assoc]
 rfl
theorem wFree_ne {w : Str} (h : wFree w) : w ≠ wThen:=fun e=>by
 rw [e] at h
 exact (h 62 (by decide)).2.2.1 rfl
theorem take_then {T G : List Str} {y : Str} (hy : wFree y) (hT : ∀ w ∈ T,wFree w) : plc (y :: (T ++ ([wThen] ++ G))) wThen = ((T.length + 1 : Nat) : Int):=by
 refine plc_at ?_ fun m hm w hw e=>?_
 ·rw [List.getElem?_cons_succ,List.getElem?_append_right (Nat.le_refl _),Nat.sub_self]
  rfl
 ·cases m with
  | zero =>
   have : y = w:=Option.some.inj hw
   rw [← this] at e
   exact wFree_ne hy e
  | succ m =>
   rw [List.getElem?_cons_succ,List.getElem?_append_left (by omega)] at hw
   exact wFree_ne (hT w (List.mem_of_getElem? hw)) e
theorem takeB_back {D : NetV} {y : Str} {c : Int} (ok : okName y = true) (nin : y ∉ D.bowls) (l6 : D.bowls.length < 6) (h0 : 0 ≤ c) (h1 : c ≤ 1000000000) : takeR D (spl 32 (rowB y c)) = some { D with bowls:=D.bowls ++ [y],first:=D.first ++ [c] }:=by
 rw [rowB_join,spl_of (by simp)]
 ·have e0 : takeR D [wBowl,y,txI c] = takeB D [y,txI c]:=rfl
  rw [e0]
  unfold takeB
  have hm : mayF ([y,txI c].getD 0 wNone) D.bowls 6 = true:=by
   show mayF y D.bowls 6 = true
   unfold mayF
   rw [ok,decide_eq_false nin,decide_eq_true l6]
   rfl
  obtain ⟨m,rfl⟩:=Int.eq_ofNat_of_zero_le h0
  have hb:=beads_txI m (by omega)
  rw [if_pos ⟨rfl,hm⟩]
  show (match beadsF (txI (m : Int)) with | none=>none | some n=>some { D with bowls:=D.bowls ++ [y],first:=D.first ++ [(n : Int)] }) = _
  rw [hb]
 ·intro w hw
  rcases List.mem_cons.mp hw with h | h
  ·rw [h]; decide
  ·rcases List.mem_cons.mp h with h | h
   ·rw [h]; exact fun z=>(wFree_name ok 32 z).1 rfl
   ·rw [List.mem_singleton.mp h]; exact fun z=>(wFree_num h0 32 z).1 rfl
theorem busy_row {x : Str} {a b : Nat} {l : List Nat} (h : x.cps.toList = a :: l) (ha : a ≠ 35) : idleF x = false:=by
 unfold idleF hasHead
 rw [h,Bool.or_eq_false_iff]
 refine ⟨decide_eq_false fun z=>?_,?_⟩
 ·rw [z] at h; cases h
 ·rw [List.head?_cons]
  exact beq_false_of_ne fun z=>ha (Option.some.inj z)
theorem take_end {α : Type} {l : List α} {i : Nat} {z : α} (h : i < l.length) : l.take i ++ [l.getD i z] = l.take (i + 1):=by
 rw [List.take_add_one,List.getElem?_eq_getElem h,List.getD_eq_getElem?_getD,List.getElem?_eq_getElem h]
 rfl
theorem getD_in {α : Type} {l : List α} {i : Nat} {z : α} (h : i < l.length) : l.getD i z ∈ l:=by
 rw [List.getD_eq_getElem?_getD,List.getElem?_eq_getElem h]
 exact List.getElem_mem h
theorem not_before {l : List Str} {i : Nat} {z : Str} (nd : l.Nodup) (h : i < l.length) : l.getD i z ∉ l.take i:=fun m=>by
 rw [List.getD_eq_getElem?_getD,List.getElem?_eq_getElem h] at m
 obtain ⟨j,hj,e⟩:=List.mem_iff_getElem.mp m
 rw [List.length_take] at hj
 rw [List.getElem_take] at e
 exact List.pairwise_iff_getElem.mp nd j i (by omega) h (by omega) e
theorem rowB_head (y : Str) (c : Int) : ∃ l,(rowB y c).cps.toList = 98 :: l:=⟨_,by
 rw [rowB_join,join2_list]
 rfl⟩
theorem rowD_head (y t g : Str) : ∃ l, (rowD y t g).cps.toList = 100 :: l := ⟨[111, 111, 114, 32] ++ (y.cps.toList ++ (Str.ofString " ").cps.toList ++ t.cps.toList ++ (Str.ofString " > ").cps.toList ++ g.cps.toList), by
 unfold rowD
 rw [app_list,app_list,app_list,app_list,app_list,app_list]
 show [] ++ [100,111,111,114,32] ++ _ ++ _ ++ _ ++ _ ++ _ = _
 simp⟩
theorem name_tx {y : Str} (h : okName y = true) : TxB 8 y:=by
 refine ⟨fun c hc=>by have:=name_free h c hc; omega,?_⟩
 unfold okName at h
 rw [Bool.and_eq_true,Bool.and_eq_true,decide_eq_true_eq,decide_eq_true_eq] at h
 exact h.1.2
theorem piece_tx {y : Str} {c : Int} (hy : TxB 8 y) (h0 : 0 ≤ c) (h1 : c ≤ 1000000000) : TxB 19 (piece y c):=by
 have e : TxB 0 Str.empty:=⟨fun c hc=>absurd hc (by show c ∉ ([] : List Nat); exact List.not_mem_nil),Nat.le_refl _⟩
 have t1 : TxB 1 (Str.ofString " ") := by decide +kernel
 exact (((e.app (num_tx h0 (by omega))).app t1).app hy).mono (by decide)
end L2
namespace L2
open PySem PySem.Spec PyProof.Rows PySem.SeqAt
def pat (n c b k : Nat) : Nat:=if b = 1 then n - 1 - (k + c) % n else (k + c) % n
def prm (n c b : Nat) : List Nat:=(List.range n).map (pat n c b)
theorem prm_fin : ∀ (n : Fin 7) (c : Fin 6) (b : Fin 2),0 < n.val→(prm n.val c.val b.val).Nodup∧(List.range n.val).all (fun j=>(prm n.val c.val b.val).contains j) = true∧(prm n.val c.val b.val).all (fun i=>decide (i < n.val)) = true:=by decide +kernel
theorem prm_mod (n c b : Nat) : prm n c b = prm n (c % n) b:=by
 unfold prm
 refine List.map_congr_left fun k _=>?_
 unfold pat
 rw [Nat.add_mod_mod]
theorem prm_ok {n c b : Nat} (h0 : 0 < n) (h6 : n ≤ 6) (hb : b < 2) : (prm n c b).Nodup∧(∀ j,j < n→j ∈ prm n c b)∧∀ i ∈ prm n c b,i < n:=by
 rw [prm_mod]
 have hc:=Nat.mod_lt c h0
 obtain ⟨h1,h2,h3⟩:=prm_fin ⟨n,by omega⟩ ⟨c % n,by omega⟩ ⟨b,hb⟩ h0
 refine ⟨h1,fun j hj=>?_,fun i hi=>?_⟩
 ·have:=List.all_eq_true.mp h2 j (List.mem_range.mpr hj)
  exact List.contains_iff_mem.mp this
 ·have:=List.all_eq_true.mp h3 i hi
  exact of_decide_eq_true this
theorem getD_set (l : List Int) (i j : Nat) (v : Int) (h : i < l.length) : (l.set i v).getD j 0 = if j = i then v else l.getD j 0:=by
 rw [List.getD_eq_getElem?_getD,List.getD_eq_getElem?_getD,List.getElem?_set]
 by_cases e : i = j
 ·subst e; simp [h]
 ·rw [if_neg e,if_neg (fun z=>e z.symm)]
def knw (kn : Nat) (r : List Int) : List Int:=(List.range r.length).map fun i=>r.getD i 0 * (if i < kn then 1 else 0)
theorem knw_len (kn : Nat) (r : List Int) : (knw kn r).length = r.length:=by unfold knw; rw [List.length_map,List.length_range]
theorem knw_at (kn : Nat) (r : List Int) (i : Nat) : (knw kn r).getD i 0 = if i < kn then r.getD i 0 else 0:=by
 unfold knw
 rw [List.getD_eq_getElem?_getD,List.getElem?_map]
 by_cases h : i < r.length
 ·rw [List.getElem?_range h]
  show r.getD i 0 * _ = _
  split
  ·rw [Int.mul_one]
  ·rw [Int.mul_zero]
 ·rw [List.getElem?_eq_none (by rw [List.length_range]; omega)]
  show (0 : Int) = _
  rw [List.getD_eq_getElem?_getD,List.getElem?_eq_none (by omega)]
  split <;> rfl
theorem wid_knw {kn : Nat} {r : List Int} (h : kn ≤ r.length) : wid r.length ((knw kn r).take kn) = knw kn r:=by
 have kl:=knw_len kn r
 have tl : ((knw kn r).take kn).length = kn:=by rw [List.length_take,kl]; omega
 unfold wid
 rw [tl]
 refine List.ext_getElem ?_ fun i h1 h2=>?_
 ·rw [List.length_append,List.length_replicate,tl,kl]
  omega
 ·have e2 : (knw kn r)[i] = (knw kn r).getD i 0:=by rw [List.getD_eq_getElem?_getD,List.getElem?_eq_getElem h2]; rfl
  rw [e2,knw_at]
  by_cases hi : i < kn
  ·rw [if_pos hi,List.getElem_append_left (by omega),List.getElem_take,e2,knw_at,if_pos hi]
  ·rw [if_neg hi,List.getElem_append_right (by omega),List.getElem_replicate]
theorem getD_le {α : Type} {P : α→Prop} {l : List α} {z : α} (h : ∀ x ∈ l,P x) (hz : P z) (i : Nat) : P (l.getD i z):=by
 rw [List.getD_eq_getElem?_getD]
 cases e : l[i]? with
 | none=>exact hz
 | some x=>exact h x (List.mem_of_getElem? e)
theorem set_take {α : Type} {l : List α} {i : Nat} {v : α} (h : i < l.length) : (l.set i v).take (i + 1) = l.take i ++ [v]:=by
 rw [List.take_add_one,List.getElem?_set_self h,List.take_set_of_le (Nat.le_refl _)]
 rfl
theorem knw_ok {kn z : Nat} {r : List Int} (h : okBag z r) : okBag z (knw kn r):=by
 refine ⟨by rw [knw_len]; exact h.1,fun x hx=>?_⟩
 obtain ⟨i,hi,rfl⟩:=List.mem_iff_getElem.mp hx
 have e : (knw kn r)[i] = (knw kn r).getD i 0:=by rw [List.getD_eq_getElem?_getD,List.getElem?_eq_getElem hi]; rfl
 rw [e,knw_at]
 split
 ·exact getD_le (P:=fun x : Int=>0 ≤ x∧x ≤ 1000000000) (z:=0) h.2 (by decide) i
 ·decide
def pps (ys : List Str) (r : List Int) (ix : List Nat) : List (Str × Int):=(ix.filter fun i=>decide (0 < r.getD i 0)).map fun i=>(ys.getD i Str.empty,r.getD i 0)
def qps (ys : List Str) (r : List Int) (ix : List Nat) : List Str:=(pps ys r ix).map fun p=>piece p.1 p.2
def qtx (ys : List Str) (r : List Int) (ix : List Nat) : Str := if qps ys r ix = [] then wDash else Str.join (Str.ofString " + ") (qps ys r ix)
def qwd (ys : List Str) (r : List Int) (ix : List Nat) : List Str:=if pps ys r ix = [] then [wDash] else pwL (pps ys r ix)
theorem qwd_ne (ys : List Str) (r : List Int) (ix : List Nat) : qwd ys r ix ≠ []:=by
 unfold qwd
 split
 ·exact fun z=>List.cons_ne_nil _ _ z
 ·rename_i h; exact pw_ne h
theorem qtx_qwd (ys : List Str) (r : List Int) (ix : List Nat) : qtx ys r ix = Str.join (sg 32) (qwd ys r ix):=by
 unfold qtx qwd qps
 by_cases h : pps ys r ix = []
 ·rw [if_pos h,if_pos (by rw [h]; rfl)]
  rfl
 ·rw [if_neg h,if_neg (fun z=>h (List.map_eq_nil_iff.mp z)),join_pw h]
theorem pps_mem {ys : List Str} {r : List Int} {ix : List Nat} {p : Str × Int} (hi : ∀ i ∈ ix,i < ys.length) (h : p ∈ pps ys r ix) : p.1 ∈ ys∧∃ i,p.2 = r.getD i 0:=by
 unfold pps at h
 obtain ⟨i,h1,rfl⟩:=List.mem_map.mp h
 exact ⟨getD_in (hi i (List.mem_filter.mp h1).1),i,rfl⟩
theorem qwd_free {ys : List Str} {r : List Int} {ix : List Nat} (hi : ∀ i ∈ ix,i < ys.length) (hy : ∀ y ∈ ys,okName y = true) (hr : ∀ c ∈ r,0 ≤ c∧c ≤ 1000000000) : ∀ w ∈ qwd ys r ix,wFree w:=by
 unfold qwd
 split
 ·intro w h
  rw [List.mem_singleton.mp h]; exact wFree_dash
 ·refine pwL_free fun p hp=>?_
  obtain ⟨h1,i,h2⟩:=pps_mem hi hp
  exact ⟨wFree_name (hy _ h1),by rw [h2]; exact (getD_le (P:=fun x : Int=>0 ≤ x∧x ≤ 1000000000) (z:=0) hr (by decide) i).1⟩
theorem qps_le (ys : List Str) (r : List Int) (ix : List Nat) : (qps ys r ix).length ≤ ix.length:=by
 unfold qps pps
 rw [List.length_map,List.length_map]
 exact List.length_filter_le ..
theorem qps_tx {ys : List Str} {r : List Int} {ix : List Nat} (hi : ∀ i ∈ ix,i < ys.length) (hy : ∀ y ∈ ys,okName y = true) (hr : ∀ c ∈ r,0 ≤ c∧c ≤ 1000000000) : ∀ p ∈ qps ys r ix,TxB 19 p:=fun p hp=>by
 obtain ⟨q,hq,rfl⟩:=List.mem_map.mp hp
 obtain ⟨h1,i,h2⟩:=pps_mem hi hq
 have:=getD_le (P:=fun x : Int=>0 ≤ x∧x ≤ 1000000000) (z:=0) hr (by decide) i
 exact piece_tx (name_tx (hy _ h1)) (by rw [h2]; exact this.1) (by rw [h2]; exact this.2)
theorem qtx_tx {ys : List Str} {r : List Int} {ix : List Nat} (hi : ∀ i ∈ ix,i < ys.length) (hl : ix.length ≤ 6) (hy : ∀ y ∈ ys,okName y = true) (hr : ∀ c ∈ r,0 ≤ c∧c ≤ 1000000000) : TxB 132 (qtx ys r ix):=by
 unfold qtx
 split
 ·exact ⟨by unfold okT; decide +kernel,by decide +kernel⟩
 ·have h := join_tx (s := Str.ofString " + ") (A := 3) (B := 19) ⟨by unfold okT; decide +kernel, by decide +kernel⟩ (qps_tx hi hy hr)
  refine h.mono ?_
  have:=qps_le ys r ix
  omega
theorem partL_ix {ys zs : List Str} {r : List Int} (nd : ys.Nodup) (hz : ∀ i (h : i < ys.length),zs.getD i Str.empty = ys[i]) (hr : ∀ c ∈ r,0 ≤ c∧c ≤ 1000000000) (h0 : ∀ i,ys.length ≤ i→r.getD i 0 = 0) : ∀ (ix : List Nat) (bag : List Int),ix.Nodup→bag.length = ys.length→(∀ i ∈ ix,bag.getD i 0 = 0)→∃ t,partL ys bag (flat3 (pps zs r ix)) = some t∧t.length = ys.length∧∀ j,t.getD j 0 = if j ∈ ix then r.getD j 0 else bag.getD j 0
 | [],bag,_,hl,_=>⟨bag,rfl,hl,fun j=>by rw [if_neg List.not_mem_nil]⟩
 | i :: ix,bag,hn,hl,hb=>by
  obtain ⟨n1,n2⟩:=List.nodup_cons.mp hn
  obtain ⟨c0,c1⟩:=getD_le (P:=fun x : Int=>0 ≤ x∧x ≤ 1000000000) (z:=0) hr (by decide) i
  have b0:=hb i (List.mem_cons_self ..)
  by_cases h : 0 < r.getD i 0
  ·have hi : i < ys.length:=by
    refine Classical.byContradiction fun q=>?_
    rw [h0 i (by omega)] at h
    exact absurd h (by decide)
   have hib : i < bag.length:=by omega
   obtain ⟨m,hm⟩:=Int.eq_ofNat_of_zero_le c0
   have hb':=beads_txI m (by omega)
   rw [← hm] at hb'
   obtain ⟨t,e,tl,tt⟩:=partL_ix nd hz hr h0 ix (bag.set i (m : Int)) n2 (by rw [List.length_set]; exact hl) (fun j hj=>by
    rw [getD_set _ _ _ _ hib,if_neg (fun (z : j = i)=>n1 (z ▸ hj))]
    exact hb j (List.mem_cons_of_mem _ hj))
   refine ⟨t,?_,tl,fun j=>?_⟩
   ·have ep : pps zs r (i :: ix) = (zs.getD i Str.empty,r.getD i 0) :: pps zs r ix:=by
     unfold pps
     rw [List.filter_cons_of_pos (by simpa using h),List.map_cons]
    rw [ep,flat3_cons]
    show (match beadsF (txI (r.getD i 0)) with | none=>none | some n'=>if n' = 0 ∨ plc ys (zs.getD i Str.empty) = -1 ∨ (0 : Int) < bag.getD (plc ys (zs.getD i Str.empty)).toNat 0 ∨ wPlus ≠ wPlus then none else partL ys (bag.set (plc ys (zs.getD i Str.empty)).toNat (n' : Int)) (flat3 (pps zs r ix))) = some t
    rw [hb',hz i hi,plc_nodup nd hi,Int.toNat_natCast]
    try dsimp only
    have no4 : ¬ (m = 0 ∨ (i : Int) = -1 ∨ (0 : Int) < bag.getD i 0 ∨ wPlus ≠ wPlus):=by
     rw [b0]
     rintro (q | q | q | q)
     ·omega
     ·omega
     ·exact absurd q (by decide)
     ·exact q rfl
    rw [if_neg no4]
    exact e
   ·rw [tt j,getD_set _ _ _ _ hib]
    by_cases hj : j ∈ ix
    ·rw [if_pos hj,if_pos (List.mem_cons_of_mem _ hj)]
    ·rw [if_neg hj]
     by_cases ej : j = i
     ·rw [if_pos ej,if_pos (by rw [ej]; exact List.mem_cons_self ..),ej,hm]
     ·rw [if_neg ej,if_neg (fun z=>(List.mem_cons.mp z).elim ej hj)]
  ·have e0 : r.getD i 0 = 0:=by omega
   obtain ⟨t,e,tl,tt⟩:=partL_ix nd hz hr h0 ix bag n2 hl (fun j hj=>hb j (List.mem_cons_of_mem _ hj))
   refine ⟨t,?_,tl,fun j=>?_⟩
   ·have ep : pps zs r (i :: ix) = pps zs r ix:=by
     unfold pps
     rw [List.filter_cons_of_neg (by simpa using h)]
    rw [ep]
    exact e
   ·rw [tt j]
    by_cases hj : j ∈ ix
    ·rw [if_pos hj,if_pos (List.mem_cons_of_mem _ hj)]
    ·rw [if_neg hj]
     by_cases ej : j = i
     ·rw [if_pos (by rw [ej]; exact List.mem_cons_self ..),ej,e0,b0]
     ·rw [if_neg (fun z=>(List.mem_cons.mp z).elim ej hj)]
theorem partF_ix {ys zs : List Str} {r : List Int} {ix : List Nat} (nd : ys.Nodup) (hz : ∀ i (h : i < ys.length),zs.getD i Str.empty = ys[i]) (hr : ∀ c ∈ r,0 ≤ c∧c ≤ 1000000000) (h0 : ∀ i,ys.length ≤ i→r.getD i 0 = 0) (hl : ys.length ≤ r.length) (hn : ix.Nodup) (hx : ∀ j,j < ys.length→j ∈ ix) : partF ys (qwd zs r ix) = some (r.take ys.length):=by
 have rg : ∀ j,(List.replicate ys.length (0 : Int)).getD j 0 = 0:=fun j=>getD_le (P:=fun x : Int=>x = 0) (z:=0) (fun x hx=>(List.mem_replicate.mp hx).2) rfl j
 obtain ⟨t,key,tl,tt⟩:=partL_ix nd hz hr h0 ix (List.replicate ys.length 0) hn List.length_replicate (fun i _=>rg i)
 have et : t = r.take ys.length:=by
  refine List.ext_getElem (by rw [List.length_take]; omega) fun j h1 h2=>?_
  have hj : j < ys.length:=by omega
  have e:=tt j
  rw [if_pos (hx j hj),List.getD_eq_getElem?_getD,List.getElem?_eq_getElem h1,List.getD_eq_getElem?_getD,List.getElem?_eq_getElem (show j < r.length by omega)] at e
  rw [List.getElem_take]
  exact e
 rw [et] at key
 unfold partF qwd
 by_cases h : pps zs r ix = []
 ·rw [if_pos h,if_pos rfl]
  rw [h] at key
  exact key
 ·have pl:=pw_len h
  rw [if_neg h,if_neg (fun z=>by have:=congrArg List.length z; have h1 : 1 ≤ (pps zs r ix).length:=List.length_pos_iff.mpr h; simp at this; omega),if_neg (by omega),pw_flat h]
  exact key
theorem takeD_w {D : NetV} {y : Str} {T G : List Str} {t g : List Int} (ok : okName y = true) (nin : y ∉ D.doors) (l8 : D.doors.length < 8) (nT : T ≠ []) (nG : G ≠ []) (fT : ∀ w ∈ T,wFree w) (fG : ∀ w ∈ G,wFree w) (pT : partF D.bowls T = some t) (pG : partF D.bowls G = some g) :
  takeR D (spl 32 (rowD y (Str.join (sg 32) T) (Str.join (sg 32) G))) = some { D with doors:=D.doors ++ [y],takes:=D.takes ++ [t],gives:=D.gives ++ [g] }:=by
 have fy:=wFree_name ok
 rw [rowD_join y nT nG,spl_of (by simp)]
 ·have e0 : takeR D ([wDoor,y] ++ (T ++ ([wThen] ++ G))) = takeD D (y :: (T ++ ([wThen] ++ G))):=rfl
  rw [e0]
  unfold takeD
  have hm : mayF ((y :: (T ++ ([wThen] ++ G))).getD 0 wNone) D.doors 8 = true:=by
   show mayF y D.doors 8 = true
   unfold mayF
   rw [ok,decide_eq_false nin,decide_eq_true l8]
   rfl
  rw [if_pos ⟨by simp,hm⟩,take_then fy fT,Int.toNat_natCast]
  have e1 : ((y :: (T ++ ([wThen] ++ G))).take (T.length + 1)).drop 1 = T:=by
   rw [List.take_succ_cons,List.drop_succ_cons,List.drop_zero,List.take_left]
  have e2 : (y :: (T ++ ([wThen] ++ G))).drop (T.length + 1 + 1) = G:=by
   rw [List.drop_succ_cons,← List.append_assoc,List.drop_left' (by rw [List.length_append]; rfl)]
  rw [e1,e2,pT,pG]
  rfl
 ·intro w hw
  have : wFree w ∨ w = wDoor ∨ w = wThen:=by
   rcases List.mem_append.mp hw with h | h
   ·rcases List.mem_cons.mp h with h | h
    ·exact .inr (.inl h)
    ·rw [List.mem_singleton.mp h]; exact .inl fy
   ·rcases List.mem_append.mp h with h | h
    ·exact .inl (fT w h)
    ·rcases List.mem_append.mp h with h | h
     ·exact .inr (.inr (List.mem_singleton.mp h))
     ·exact .inl (fG w h)
  rcases this with h | h | h
  ·exact fun z=>(h 32 z).1 rfl
  ·rw [h]; decide
  ·rw [h]; decide
theorem rd_app : ∀ (rs rest : List Str) (D D' : NetV) (k : Nat),rdF D k rs = .inr D'→rdF D k (rs ++ rest) = rdF D' (k + rs.length) rest
 | [],rest,D,D',k,e=>by
  have : D = D':=Sum.inr.inj e
  rw [this]
  rfl
 | r :: rs,rest,D,D',k,e=>by
  have ek : k + (r :: rs).length = k + 1 + rs.length:=by rw [List.length_cons]; omega
  rw [List.cons_append,ek]
  cases h : idleF r with
  | true =>
   rw [rd_idle h] at e ⊢
   exact rd_app rs rest D D' (k + 1) e
  | false =>
   cases q : takeR D (spl 32 r) with
   | none=>rw [rd_no h q] at e; cases e
   | some D1 =>
    rw [rd_go h q] at e ⊢
    exact rd_app rs rest D1 D' (k + 1) e
structure Upto (N : NetV) (tk gv : List (List Int)) (rows : List Str) (kn mn : Nat) (D : NetV) : Prop where
 rd : rdF dv0 1 rows = .inr D
 b : D.bowls = N.bowls.take kn
 d : D.doors = N.doors.take mn
 f : D.first = N.first.take kn
 t : D.takes.map (wid N.bowls.length) = tk.take mn
 g : D.gives.map (wid N.bowls.length) = gv.take mn
 tl : tk.length = N.doors.length
 gl : gv.length = N.doors.length
 to : ∀ r ∈ tk,okBag N.bowls.length r
 go : ∀ r ∈ gv,okBag N.bowls.length r
 tx : ∀ r ∈ rows,TxB 420 r
 k1 : kn ≤ N.bowls.length
 m1 : mn ≤ N.doors.length
theorem Upto.nil {N : NetV} (ok : N.Ok) : Upto N N.takes N.gives [] 0 0 dv0:=⟨rfl,by rw [List.take_zero]; rfl,by rw [List.take_zero]; rfl,by rw [List.take_zero]; rfl,by rw [List.take_zero]; rfl,by rw [List.take_zero]; rfl,ok.tl,ok.gl,ok.tk,ok.gv,fun _ h=>(nomatch h),Nat.zero_le _,Nat.zero_le _⟩
theorem Upto.bowl {N D : NetV} {tk gv : List (List Int)} {rows : List Str} {kn mn : Nat} (ok : N.Ok) (u : Upto N tk gv rows kn mn D) (h : kn < N.bowls.length) : ∃ D',Upto N tk gv (rows ++ [rowB (N.bowls.getD kn Str.empty) (N.first.getD kn 0)]) (kn + 1) mn D':=by
 have b6:=ok.b6
 have hf : kn < N.first.length:=by rw [ok.fs.1]; exact h
 obtain ⟨c0,c1⟩:=ok.fs.2 _ (getD_in (z:=0) hf)
 have hy:=ok.bn _ (getD_in (z:=Str.empty) h)
 obtain ⟨l,e⟩:=rowB_head (N.bowls.getD kn Str.empty) (N.first.getD kn 0)
 have tb:=takeB_back (D:=D) hy (by rw [u.b]; exact not_before ok.bd h) (by rw [u.b,List.length_take]; omega) c0 c1
 have e0 : TxB 0 Str.empty:=⟨fun c hc=>absurd hc (by show c ∉ ([] : List Nat); exact List.not_mem_nil),Nat.le_refl _⟩
 have t1 : TxB 1 (Str.ofString " ") := ⟨by unfold okT; decide +kernel, by decide +kernel⟩
 have t5 : TxB 5 (Str.ofString "bowl ") := ⟨by unfold okT; decide +kernel, by decide +kernel⟩
 refine ⟨{ D with bowls:=D.bowls ++ [N.bowls.getD kn Str.empty],first:=D.first ++ [N.first.getD kn 0] },?_,?_,u.d,?_,u.t,u.g,u.tl,u.gl,u.to,u.go,mem_end u.tx ?_,h,u.m1⟩
 ·rw [rd_app rows _ dv0 D 1 u.rd,rd_go (busy_row (b:=0) e (by decide)) tb]
  rfl
 ·show D.bowls ++ _ = _
  rw [u.b,take_end h]
 ·show D.first ++ _ = _
  rw [u.f,take_end hf]
 ·exact ((((e0.app t5).app (name_tx hy)).app t1).app (num_tx c0 (by omega))).mono (by decide)
theorem Upto.door {N D : NetV} {tk gv : List (List Int)} {rows : List Str} {kn mn : Nat} (ok : N.Ok) (u : Upto N tk gv rows kn mn D) (h : mn < N.doors.length) {c1 b1 c2 b2 : Nat} (hb1 : b1 < 2) (hb2 : b2 < 2) :
  ∃ D',Upto N (tk.set mn (knw kn (tk.getD mn []))) (gv.set mn (knw kn (gv.getD mn []))) (rows ++ [rowD (N.doors.getD mn Str.empty) (qtx N.bowls (knw kn (tk.getD mn [])) (prm N.bowls.length c1 b1)) (qtx N.bowls (knw kn (gv.getD mn [])) (prm N.bowls.length c2 b2))]) kn (mn + 1) D':=by
 have b1':=ok.b1
 have b6:=ok.b6
 have d8:=ok.d8
 have utl:=u.tl
 have ugl:=u.gl
 have ht : mn < tk.length:=by omega
 have hg : mn < gv.length:=by omega
 have ot:=u.to _ (getD_in (z:=[]) ht)
 have og:=u.go _ (getD_in (z:=[]) hg)
 generalize tk.getD mn [] = rt at ot
 generalize gv.getD mn [] = rg at og
 have okt:=knw_ok (kn:=kn) ot
 have okg:=knw_ok (kn:=kn) og
 have hy:=ok.dn _ (getD_in (z:=Str.empty) h)
 obtain ⟨x1,x2,x3⟩:=prm_ok (n:=N.bowls.length) (c:=c1) b1' b6 hb1
 obtain ⟨y1,y2,y3⟩:=prm_ok (n:=N.bowls.length) (c:=c2) b1' b6 hb2
 have pl1 : (prm N.bowls.length c1 b1).length ≤ 6:=by unfold prm; rw [List.length_map,List.length_range]; exact b6
 have pl2 : (prm N.bowls.length c2 b2).length ≤ 6:=by unfold prm; rw [List.length_map,List.length_range]; exact b6
 have bl : D.bowls.length = kn:=by rw [u.b,List.length_take]; have:=u.k1; omega
 have bnd : D.bowls.Nodup:=by rw [u.b]; exact ok.bd.sublist (List.take_sublist ..)
 have bz : ∀ i (h : i < D.bowls.length),N.bowls.getD i Str.empty = D.bowls[i]:=fun i hi=>by
  have hi' : i < N.bowls.length:=by have:=u.k1; omega
  have e : (N.bowls.take kn)[i]? = D.bowls[i]?:=by rw [u.b]
  rw [List.getElem?_eq_getElem hi,List.getElem?_take_of_lt (by omega),List.getElem?_eq_getElem hi'] at e
  rw [List.getD_eq_getElem?_getD,List.getElem?_eq_getElem hi']
  exact Option.some.inj e
 have zr : ∀ (r : List Int) i,D.bowls.length ≤ i→(knw kn r).getD i 0 = 0:=fun r i hi=>by rw [knw_at,if_neg (by omega)]
 have k1:=u.k1
 have pT:=partF_ix (ix:=prm N.bowls.length c1 b1) bnd bz okt.2 (zr rt) (by rw [okt.1]; omega) x1 (fun j hj=>x2 j (by omega))
 have pG:=partF_ix (ix:=prm N.bowls.length c2 b2) bnd bz okg.2 (zr rg) (by rw [okg.1]; omega) y1 (fun j hj=>y2 j (by omega))
 have td:=takeD_w (D:=D) hy (by rw [u.d]; exact not_before ok.dd h) (by rw [u.d,List.length_take]; omega) (qwd_ne _ _ _) (qwd_ne _ _ _) (qwd_free x3 ok.bn okt.2) (qwd_free y3 ok.bn okg.2) pT pG
 rw [← qtx_qwd,← qtx_qwd,bl] at td
 obtain ⟨l,e⟩:=rowD_head (N.doors.getD mn Str.empty) (qtx N.bowls (knw kn rt) (prm N.bowls.length c1 b1)) (qtx N.bowls (knw kn rg) (prm N.bowls.length c2 b2))
 have e0 : TxB 0 Str.empty:=⟨fun c hc=>absurd hc (by show c ∉ ([] : List Nat); exact List.not_mem_nil),Nat.le_refl _⟩
 have t1 : TxB 1 (Str.ofString " ") := ⟨by unfold okT; decide +kernel, by decide +kernel⟩
 have t3 : TxB 3 (Str.ofString " > ") := ⟨by unfold okT; decide +kernel, by decide +kernel⟩
 have t5 : TxB 5 (Str.ofString "door ") := ⟨by unfold okT; decide +kernel, by decide +kernel⟩
 have xt:=qtx_tx (r:=knw kn rt) x3 pl1 ok.bn okt.2
 have xg:=qtx_tx (r:=knw kn rg) y3 pl2 ok.bn okg.2
 have wt : wid N.bowls.length ((knw kn rt).take kn) = knw kn rt:=by
  have:=wid_knw (kn:=kn) (r:=rt) (by rw [ot.1]; exact u.k1)
  rwa [ot.1] at this
 have wg : wid N.bowls.length ((knw kn rg).take kn) = knw kn rg:=by
  have:=wid_knw (kn:=kn) (r:=rg) (by rw [og.1]; exact u.k1)
  rwa [og.1] at this
 refine ⟨{ D with doors:=D.doors ++ [N.doors.getD mn Str.empty],takes:=D.takes ++ [(knw kn rt).take kn],gives:=D.gives ++ [(knw kn rg).take kn] },?_,u.b,?_,u.f,?_,?_,by rw [List.length_set]; exact u.tl,by rw [List.length_set]; exact u.gl,fun r hr=>?_,fun r hr=>?_,mem_end u.tx ?_,u.k1,h⟩
 ·rw [rd_app rows _ dv0 D 1 u.rd,rd_go (busy_row (b:=0) e (by decide)) td]
  rfl
 ·show D.doors ++ _ = _
  rw [u.d,take_end h]
 ·show (D.takes ++ _).map _ = _
  rw [List.map_append,u.t,set_take ht,List.map_singleton,wt]
 ·show (D.gives ++ _).map _ = _
  rw [List.map_append,u.g,set_take hg,List.map_singleton,wg]
 ·rcases List.mem_or_eq_of_mem_set hr with q | q
  ·exact u.to r q
  ·rw [q]; exact okt
 ·rcases List.mem_or_eq_of_mem_set hr with q | q
  ·exact u.go r q
  ·rw [q]; exact okg
 ·exact ((((((e0.app t5).app (name_tx hy)).app t1).app xt).app t3).app xg).mono (by decide)
theorem Upto.net {N D : NetV} {tk gv : List (List Int)} {rows : List Str} (u : Upto N tk gv rows N.bowls.length N.doors.length D) : netD D = ⟨N.bowls,N.doors,tk,gv,N.first.take N.bowls.length⟩:=by
 have utl:=u.tl
 have ugl:=u.gl
 unfold netD
 have bl : D.bowls.length = N.bowls.length:=by rw [u.b,List.length_take,Nat.min_self]
 rw [bl,u.t,u.g,u.b,u.d,u.f,List.take_of_length_le (Nat.le_refl _),List.take_of_length_le (Nat.le_refl _),List.take_of_length_le (show tk.length ≤ N.doors.length by omega),List.take_of_length_le (show gv.length ≤ N.doors.length by omega)]
theorem strs_atD {ys : List Str} {k : Nat} (h : k < ys.length) : atI (vstrs ys) (k : Int) = some (V.str (ys.getD k Str.empty)):=by
 rw [strs_at h,List.getD_eq_getElem?_getD,List.getElem?_eq_getElem h]
 rfl
theorem or_by {t u : TT} {σ : St} {H : Hp} {K : Bool→Hp→Prop} {p q : Prop} [Decidable p] [Decidable q] (ht : ∀ K' : Bool→Hp→Prop,K' (decide p) H→t σ H K') (hu : ∀ K' : Bool→Hp→Prop,K' (decide q) H→u σ H K') (hk : K (decide (p ∨ q)) H) : tOr t u σ H K:=by
 unfold tOr
 refine ht _ ?_
 by_cases h : p
 ·rw [decide_eq_true (show p ∨ q from .inl h)] at hk
  show if decide p = true then _ else _
  rw [if_pos (decide_eq_true h)]
  exact hk
 ·show if decide p = true then _ else _
  rw [if_neg (by simpa using h)]
  refine hu _ ?_
  have e : decide (p ∨ q) = decide q:=by
   by_cases hq : q
   ·rw [decide_eq_true hq,decide_eq_true (show p ∨ q from .inr hq)]
   ·rw [decide_eq_false hq,decide_eq_false (fun z=>z.elim h hq)]
  rw [← e]
  exact hk
theorem and_by {t u : TT} {σ : St} {H : Hp} {K : Bool→Hp→Prop} {p q : Prop} [Decidable p] [Decidable q] (ht : ∀ K' : Bool→Hp→Prop,K' (decide p) H→t σ H K') (hu : p→∀ K' : Bool→Hp→Prop,K' (decide q) H→u σ H K') (hk : K (decide (p∧q)) H) : tAnd t u σ H K:=by
 unfold tAnd
 refine ht _ ?_
 by_cases h : p
 ·show if decide p = true then _ else _
  rw [if_pos (decide_eq_true h)]
  refine hu h _ ?_
  have e : decide (p∧q) = decide q:=by
   by_cases hq : q
   ·rw [decide_eq_true hq,decide_eq_true (show p∧q from ⟨h,hq⟩)]
   ·rw [decide_eq_false hq,decide_eq_false (fun z=>hq z.2)]
  rw [← e]
  exact hk
 ·show if decide p = true then _ else _
  rw [if_neg (by simpa using h)]
  rw [decide_eq_false (fun z : p∧q=>h z.1)] at hk
  exact hk
theorem Rows.off {H : Hp} {as : List Addr} {rs : List (List Int)} {q : Addr} {xs : List V} (R : Rows H as rs) (hn : ∀ r ∈ rs,r ≠ []) (h : H q = some (.lst xs)) (hx : ∀ n l,xs ≠ V.int n :: l) : ∀ a ∈ as,a ≠ q:=fun a ha z=>by
 obtain ⟨r,hr,e⟩:=Rows.memE R a ha
 rw [z,h] at e
 have e : xs = vints r:=HO.lst.inj (Option.some.inj e)
 cases r with
 | nil=>exact hn [] hr rfl
 | cons n l=>exact hx n (vints l) e
theorem strs_off (ys : List Str) : ∀ n l,vstrs ys ≠ V.int n :: l:=fun n l e=>by
 cases ys with
 | nil=>cases e
 | cons y ys=>exact absurd (List.cons.inj e).1 (fun z=>by cases z)
theorem refs_off (ys : List Addr) : ∀ n l,ys.map V.ref ≠ V.int n :: l:=fun n l e=>by
 cases ys with
 | nil=>cases e
 | cons y ys=>exact absurd (List.cons.inj e).1 (fun z=>by cases z)
theorem PartsIn.putQ {H : Hp} {p b d t g f q : Addr} {ts gs : List Addr} {N : NetV} {rows : List Str} {o : HO} (P : PartsIn H p b d t g f ts gs N) (hq : H q = some (.lst (vstrs rows))) (ne : ∀ a ∈ [p,b,d,t,g,f],a ≠ q) (tn : ∀ r ∈ N.takes,r ≠ []) (gn : ∀ r ∈ N.gives,r ≠ []) : PartsIn (upd H q o) p b d t g f ts gs N:=by
 have off1:=Rows.off P.tr tn hq (strs_off rows)
 have off2:=Rows.off P.gr gn hq (strs_off rows)
 exact ⟨by rw [upd_ne (ne p (by simp))]; exact P.top,by rw [upd_ne (ne b (by simp))]; exact P.hb,by rw [upd_ne (ne d (by simp))]; exact P.hd,by rw [upd_ne (ne t (by simp))]; exact P.ht,Rows.lay P.tr off1,by rw [upd_ne (ne g (by simp))]; exact P.hg,Rows.lay P.gr off2,by rw [upd_ne (ne f (by simp))]; exact P.hf⟩
def RwI (H : Hp) (p b d t g f q : Addr) (N : NetV) (kn mn : Nat) (rows : List Str) (H2 : Hp) : Prop:=∃ (ts gs : List Addr) (tk gv : List (List Int)) (D : NetV),ButL [t,g] H H2∧H2 q = some (.lst (vstrs rows))∧PartsIn H2 p b d t g f ts gs ⟨N.bowls,N.doors,tk,gv,N.first⟩∧Upto N tk gv rows kn mn D
theorem Upto.ne {N D : NetV} {tk gv : List (List Int)} {rows : List Str} {kn mn : Nat} (ok : N.Ok) (u : Upto N tk gv rows kn mn D) : (∀ r ∈ tk,r ≠ [])∧∀ r ∈ gv,r ≠ []:=by
 have b1:=ok.b1
 refine ⟨fun r hr z=>?_,fun r hr z=>?_⟩
 ·have:=(u.to r hr).1
  rw [z,List.length_nil] at this
  omega
 ·have:=(u.go r hr).1
  rw [z,List.length_nil] at this
  omega
theorem RwI.fin {H H5 : Hp} {p b d t g f q : Addr} {ts0 gs0 ts gs : List Addr} {N D : NetV} {tk gv : List (List Int)} {rows : List Str} {x : Str} {kn mn : Nat} (ok : N.Ok) (P0 : PartsIn H p b d t g f ts0 gs0 N) (nq : H q = none) (k : ButL [t,g] H H5) (hq : H5 q = some (.lst (vstrs rows))) (P : PartsIn H5 p b d t g f ts gs ⟨N.bowls,N.doors,tk,gv,N.first⟩) (u : Upto N tk gv (rows ++ [x]) kn mn D) : RwI H p b d t g f q N kn mn (rows ++ [x]) (upd H5 q (.lst (vstrs rows ++ [V.str x]))):=by
 obtain ⟨tn,gn⟩:=u.ne ok
 have ne : ∀ a ∈ [p,b,d,t,g,f],a ≠ q:=fun a ha=>by
  simp only [List.mem_cons,List.not_mem_nil,or_false] at ha
  rcases ha with rfl | rfl | rfl | rfl | rfl | rfl
  ·exact ne_of_none P0.top nq
  ·exact ne_of_none P0.hb nq
  ·exact ne_of_none P0.hd nq
  ·exact ne_of_none P0.ht nq
  ·exact ne_of_none P0.hg nq
  ·exact ne_of_none P0.hf nq
 refine ⟨ts,gs,tk,gv,D,fun c o e n=>?_,by rw [upd_same,strs_end],P.putQ hq ne tn gn,u⟩
 rw [upd_ne (ne_of_none e nq)]
 exact k c o e n
end L2
namespace L2
open PySem PySem.Spec PyProof.Rows PySem.SeqAt
theorem drop_three {ws : List Str} {k : Nat} (h : k + 2 ≤ ws.length) : (ws ++ [wPlus]).drop k = ws.getD k wNone :: ws.getD (k + 1) wNone :: (ws ++ [wPlus]).getD (k + 2) wNone :: (ws ++ [wPlus]).drop (k + 3):=by
 have l : (ws ++ [wPlus]).length = ws.length + 1:=by rw [List.length_append]; rfl
 rw [List.drop_eq_getElem_cons (show k < (ws ++ [wPlus]).length by omega),List.drop_eq_getElem_cons (show k + 1 < (ws ++ [wPlus]).length by omega),List.drop_eq_getElem_cons (show k + 1 + 1 < (ws ++ [wPlus]).length by omega)]
 rw [List.getElem_append_left (show k < ws.length by omega),List.getElem_append_left (show k + 1 < ws.length by omega)]
 have g : ∀ (l : List Str) (i : Nat) (h : i < l.length),l.getD i wNone = l[i]:=fun l i h=>by rw [List.getD_eq_getElem?_getD,List.getElem?_eq_getElem h]; rfl
 rw [g ws k (by omega),g ws (k + 1) (by omega),g (ws ++ [wPlus]) (k + 2) (by omega)]
def PKey (bowls ws : List Str) (bag : List Int) (j : Nat) : Prop:=(ws.length + 1) % 3 = 0→partF bowls ws = partL bowls bag ((ws ++ [wPlus]).drop (3 * j))
theorem PKey.nil {bowls ws : List Str} (nd : ws ≠ [wDash]) : PKey bowls ws (List.replicate bowls.length 0) 0:=fun h=>by
 unfold partF
 rw [if_neg nd,if_neg (by omega)]
 rfl
theorem PKey.no {bowls ws : List Str} {bag : List Int} {j : Nat} (K : PKey bowls ws bag j) (nd : ws ≠ [wDash]) (hl : 3 * j + 2 ≤ ws.length) (bad : beadsF (ws.getD (3 * j) wNone) = none ∨ beadsF (ws.getD (3 * j) wNone) = some 0 ∨ plc bowls (ws.getD (3 * j + 1) wNone) = -1 ∨ 0 < bag.getD (plc bowls (ws.getD (3 * j + 1) wNone)).toNat 0 ∨ (ws ++ [wPlus]).getD (3 * j + 2) wNone ≠ wPlus) : partF bowls ws = none:=by
 by_cases h3 : (ws.length + 1) % 3 = 0
 ·rw [K h3,drop_three hl]
  show (match beadsF (ws.getD (3 * j) wNone) with | none=>none | some n=>if n = 0 ∨ plc bowls (ws.getD (3 * j + 1) wNone) = -1 ∨ 0 < bag.getD (plc bowls (ws.getD (3 * j + 1) wNone)).toNat 0 ∨ (ws ++ [wPlus]).getD (3 * j + 2) wNone ≠ wPlus then none else partL bowls (bag.set (plc bowls (ws.getD (3 * j + 1) wNone)).toNat (n : Int)) ((ws ++ [wPlus]).drop (3 * j + 3))) = none
  rcases bad with q | q | q
  ·rw [q]
  ·rw [q]
   try dsimp only
   rw [if_pos (.inl rfl)]
  ·cases e : beadsF (ws.getD (3 * j) wNone) with
   | none=>rfl
   | some n =>
    try dsimp only
    rw [if_pos (.inr q)]
 ·unfold partF
  rw [if_neg nd,if_pos h3]
theorem PKey.yes {bowls ws : List Str} {bag : List Int} {j m : Nat} (K : PKey bowls ws bag j) (hl : 3 * j + 2 ≤ ws.length) (h1 : beadsF (ws.getD (3 * j) wNone) = some m) (h2 : m ≠ 0) (h3 : plc bowls (ws.getD (3 * j + 1) wNone) ≠ -1) (h4 : ¬ 0 < bag.getD (plc bowls (ws.getD (3 * j + 1) wNone)).toNat 0) (h5 : (ws ++ [wPlus]).getD (3 * j + 2) wNone = wPlus) : PKey bowls ws (bag.set (plc bowls (ws.getD (3 * j + 1) wNone)).toNat (m : Int)) (j + 1):=fun h=>by
 rw [K h,drop_three hl]
 show (match beadsF (ws.getD (3 * j) wNone) with | none=>none | some n=>if n = 0 ∨ plc bowls (ws.getD (3 * j + 1) wNone) = -1 ∨ 0 < bag.getD (plc bowls (ws.getD (3 * j + 1) wNone)).toNat 0 ∨ (ws ++ [wPlus]).getD (3 * j + 2) wNone ≠ wPlus then none else partL bowls (bag.set (plc bowls (ws.getD (3 * j + 1) wNone)).toNat (n : Int)) ((ws ++ [wPlus]).drop (3 * j + 3))) = _
 rw [h1]
 try dsimp only
 rw [if_neg (fun q=>q.elim h2 fun q=>q.elim h3 fun q=>q.elim h4 fun q=>q h5)]
 rfl
theorem PKey.fin {bowls ws : List Str} {bag : List Int} {j : Nat} (K : PKey bowls ws bag (j + 1)) (hl : ws.length = 3 * j + 2) : partF bowls ws = some bag:=by
 rw [K (by omega),List.drop_eq_nil_of_le (by rw [List.length_append]; show ws.length + 1 ≤ _; omega)]
 rfl
end L2
namespace L2
open PySem PySem.Spec PyProof.Rows PySem.SeqAt
structure BadR (D : NetV) (r : Str) : Prop where
 busy : idleF r = false
 no : takeR D (spl 32 r) = none
 tx : TxB 420 r
theorem BadR.rd {D : NetV} {r : Str} (b : BadR D r) {pre rest : List Str} (h : rdF dv0 1 pre = .inr D) : rdF dv0 1 (pre ++ r :: rest) = .inl (pre.length + 1):=by
 rw [rd_app pre _ dv0 D 1 h,rd_no b.busy b.no]
 congr 1
 omega
structure OkW (w : Str) : Prop where
 tx : TxB 12 w
 fr : 32 ∉ w.cps.toList
 nt : w ≠ wThen
theorem OkW.name {y : Str} (h : okName y = true) : OkW y:=⟨(name_tx h).mono (by decide),fun z=>(wFree_name h 32 z).1 rfl,wFree_ne (wFree_name h)⟩
theorem OkW.num {n : Int} (h0 : 0 ≤ n) (h1 : n < 10 ^ 10) : OkW (txI n):=⟨(num_tx h0 h1).mono (by decide),fun z=>(wFree_num h0 32 z).1 rfl,wFree_ne (wFree_num h0)⟩
theorem OkW.lit {w : Str} (h : (w.cps.toList.all (fun c=>decide (c < 128) && decide (c ≠ 10) && decide (c ≠ 32)) && decide (w.length ≤ 12) && decide (w ≠ wThen)) = true) : OkW w:=by
 rw [Bool.and_eq_true,Bool.and_eq_true,decide_eq_true_eq,decide_eq_true_eq] at h
 obtain ⟨⟨h1,h2⟩,h3⟩:=h
 have k : ∀ c ∈ w.cps.toList,(c < 128∧c ≠ 10)∧c ≠ 32:=fun c hc=>by
  have:=List.all_eq_true.mp h1 c hc
  rw [Bool.and_eq_true,Bool.and_eq_true,decide_eq_true_eq,decide_eq_true_eq,decide_eq_true_eq] at this
  exact this
 exact ⟨⟨fun c hc=>(k c hc).1,h2⟩,fun z=>(k 32 z).2 rfl,h3⟩
end L2
namespace L2
open PySem PySem.Spec PyProof.Rows PySem.SeqAt
theorem nd_two {a b : Str} {ws : List Str} : a :: b :: ws ≠ [wDash]:=fun z=>by
 have:=congrArg List.length z
 simp at this
theorem set_pos {bowls : List Str} {b : Str} {bag : List Int} {n : Nat} (hk : plc bowls b ≠ -1) (n0 : 0 < n) (bl : bag.length = bowls.length) : 0 < (bag.set (plc bowls b).toNat (n : Int)).getD (plc bowls b).toNat 0:=by
 obtain ⟨j,hj,e⟩:=plc_nat hk
 rw [e,Int.toNat_natCast,getD_set _ _ _ _ (by omega),if_pos rfl]
 omega
theorem set_keep {bowls : List Str} {b : Str} {bag : List Int} {n j : Nat} (hk : plc bowls b ≠ -1) (n0 : 0 < n) (bl : bag.length = bowls.length) (h : 0 < bag.getD j 0) : 0 < (bag.set (plc bowls b).toNat (n : Int)).getD j 0:=by
 obtain ⟨i,hi,e⟩:=plc_nat hk
 rw [e,Int.toNat_natCast,getD_set _ _ _ _ (by omega)]
 split
 ·omega
 ·exact h
theorem plc_out {ys : List Str} {y : Str} (h : y ∉ ys) : plc ys y = -1:=by
 unfold plc
 rw [if_neg h]
theorem join_two (s x y : Str) (r : List Str) : Str.join s (x :: y :: r) = x ++ s ++ Str.join s (y :: r):=rfl
theorem join_one (s x : Str) : Str.join s [x] = x:=rfl
abbrev w1 : Str := Str.ofString "1"
end L2
namespace L2
open PySem PySem.Spec PyProof.Rows
end L2
namespace L2
open PySem PySem.Spec PyProof.Rows
end L2
namespace L2
open PySem PySem.Spec PyProof.Rows
end L2
namespace L2
open PySem PySem.Spec PyProof.Rows
end L2
namespace L2
open PySem PySem.Spec PyProof.Rows
end L2
namespace L2
open PySem PySem.Spec PyProof.Rows
end L2
namespace L2
open PySem PySem.Spec PyProof.Rows
end L2
namespace L2
open PySem PySem.Spec PyProof.Rows
end L2
namespace L2
open PySem PySem.Spec PyProof.Rows
end L2
namespace L2
open PySem PySem.Spec PyProof.Rows
end L2
namespace L2
open PySem PySem.Spec PyProof.Rows
section
variable {κ : Type} [DecidableEq κ]
def valV (kvs : List (κ × V)) (k : κ) : Option V:=(kvs.find? fun kv=>decide (kv.1 = k)).map (·.2)
def putK (kvs : List (κ × V)) (k : κ) (v : V) : List (κ × V) :=
 if (kvs.any fun kv=>decide (kv.1 = k)) = true then kvs.map (fun kv=>if kv.1 = k then (kv.1,v) else kv) else kvs ++ [(k,v)]
theorem valV_pos {p : κ × V} {r : List (κ × V)} {k : κ} (e : p.1 = k) : valV (p :: r) k = some p.2:=by simp [valV,List.find?_cons,e]
theorem valV_neg {p : κ × V} {r : List (κ × V)} {k : κ} (e : ¬ p.1 = k) : valV (p :: r) k = valV r k:=by simp [valV,List.find?_cons,e]
theorem valV_any (k : κ) : ∀ kvs : List (κ × V),(kvs.any fun kv=>decide (kv.1 = k)) = (valV kvs k).isSome
 | []=>rfl
 | p :: r=>by
  rw [List.any_cons]
  by_cases e : p.1 = k
  ·simp only [valV_pos e,decide_eq_true e,Bool.true_or,Option.isSome_some]
  ·rw [valV_neg e,decide_eq_false e,Bool.false_or]; exact valV_any k r
theorem RelO.isSome_eq {o : Option V} {u : Option Value} (r : RelO o u) : o.isSome = u.isSome:=by
 cases o with
 | none=>cases u with
  | none=>rfl
  | some _=>exact (show False from r).elim
 | some _=>cases u with
  | none=>exact (show False from r).elim
  | some _=>rfl
theorem RelO.getD {o : Option V} {u : Option Value} {d : V} {d' : Value} (r : RelO o u) (rd : RelV d d') : RelV (o.getD d) (u.getD d'):=by
 cases o with
 | none=>cases u with
  | none=>exact rd
  | some _=>exact (show False from r).elim
 | some _=>cases u with
  | none=>exact (show False from r).elim
  | some _=>exact r
theorem KV.val {kvs : List (κ × V)} {vs : List (κ × Value)} (r : KV kvs vs) (k : κ) : RelO (valV kvs k) (valueAt vs k):=by
 unfold KV at r
 induction r with
 | nil=>exact True.intro
 | @cons p q ps qs h t ih =>
  obtain ⟨h1,h2⟩:=h
  by_cases e : p.1 = k
  ·have e' : q.1 = k:=h1.symm.trans e
   have b : valueAt (q :: qs) k = some q.2:=by simp [valueAt,List.find?_cons,e']
   rw [valV_pos e,b]; exact h2
  ·have e' : ¬ q.1 = k:=fun z=>e (h1.trans z)
   have b : valueAt (q :: qs) k = valueAt qs k:=by simp [valueAt,List.find?_cons,e']
   rw [valV_neg e,b]; exact ih
theorem KV.any {kvs : List (κ × V)} {vs : List (κ × Value)} (r : KV kvs vs) (k : κ) : (kvs.any fun kv=>decide (kv.1 = k)) = vs.any fun kv=>decide (kv.1 = k):=by
 unfold KV at r
 induction r with
 | nil=>rfl
 | cons h t ih=>rw [List.any_cons,List.any_cons,ih,h.1]
theorem KV.repl {kvs : List (κ × V)} {vs : List (κ × Value)} (r : KV kvs vs) (k : κ) {y : V} {u : Value} (ry : RelV y u) :
  KV (kvs.map fun kv=>if kv.1 = k then (kv.1,y) else kv) (vs.map fun kv=>if kv.1 = k then (kv.1,u) else kv):=by
 unfold KV at r ⊢
 induction r with
 | nil=>exact .nil
 | @cons p q ps qs h t ih =>
  rw [List.map_cons,List.map_cons]
  refine .cons ?_ ih
  obtain ⟨h1,h2⟩:=h
  by_cases e : p.1 = k
  ·rw [if_pos e,if_pos (h1.symm.trans e)]; exact ⟨h1,ry⟩
  ·rw [if_neg e,if_neg (fun z=>e (h1.trans z))]; exact ⟨h1,h2⟩
theorem KV.put {kvs : List (κ × V)} {vs : List (κ × Value)} (r : KV kvs vs) (k : κ) {y : V} {u : Value} (ry : RelV y u) : KV (putK kvs k y) (stored vs k u):=by
 unfold putK stored
 rw [r.any k]
 by_cases e : (vs.any fun kv=>decide (kv.1 = k)) = true
 ·rw [if_pos e,if_pos e]; exact r.repl k ry
 ·rw [if_neg e,if_neg e]; exact Paired.snoc r ⟨rfl,ry⟩
theorem KV.keys {kvs : List (κ × V)} {vs : List (κ × Value)} (r : KV kvs vs) : kvs.map (·.1) = vs.map (·.1):=by
 unfold KV at r
 induction r with
 | nil=>rfl
 | cons h t ih=>rw [List.map_cons,List.map_cons,ih,h.1]
theorem KV.length {kvs : List (κ × V)} {vs : List (κ × Value)} (r : KV kvs vs) : kvs.length = vs.length:=Paired.length r
end
abbrev KT (H : Hp) : List (List Key × V)→List (List Key × Addr × Value)→Prop:=Paired fun p q=>p.1 = q.1∧H q.2.1 = some (.tup (p.1.map kV))∧RelV p.2 q.2.2
theorem KT.val {H : Hp} {kvs : List (List Key × V)} {xs : List (List Key × Addr × Value)} (r : KT H kvs xs) (k : List Key) : RelO (valV kvs k) ((atKey xs k).map (·.2)):=by
 induction r with
 | nil=>exact True.intro
 | @cons p q ps qs h t ih =>
  obtain ⟨h1,_,h2⟩:=h
  by_cases e : p.1 = k
  ·have e' : q.1 = k:=h1.symm.trans e
   have b : atKey (q :: qs) k = some q.2:=by simp [atKey,List.find?_cons,e']
   rw [valV_pos e,b]; exact h2
  ·have e' : ¬ q.1 = k:=fun z=>e (h1.trans z)
   have b : atKey (q :: qs) k = atKey qs k:=by simp [atKey,List.find?_cons,e']
   rw [valV_neg e,b]; exact ih
theorem KT.repl {H : Hp} {kvs : List (List Key × V)} {xs : List (List Key × Addr × Value)} (r : KT H kvs xs) (k : List Key) {y : V} {u : Value} (ry : RelV y u) :
  KT H (kvs.map fun kv=>if kv.1 = k then (kv.1,y) else kv) (xs.map (putAt k u)):=by
 induction r with
 | nil=>exact .nil
 | @cons p q ps qs h t ih =>
  rw [List.map_cons,List.map_cons]
  refine .cons ?_ ih
  obtain ⟨h1,h2,h3⟩:=h
  unfold putAt
  by_cases e : p.1 = k
  ·rw [if_pos e,if_pos (h1.symm.trans e)]; exact ⟨h1,h2,ry⟩
  ·rw [if_neg e,if_neg (fun z=>e (h1.trans z))]; exact ⟨h1,h2,h3⟩
theorem KT.put {H : Hp} {kvs : List (List Key × V)} {xs : List (List Key × Addr × Value)} (r : KT H kvs xs) (k : List Key) {b : Addr} {y : V} {u : Value} (hb : H b = some (.tup (k.map kV))) (ry : RelV y u) :
  KT H (putK kvs k y) (storedH xs k b u):=by
 have e : (kvs.any fun kv=>decide (kv.1 = k)) = (atKey xs k).isSome:=by
  rw [valV_any,(r.val k).isSome_eq,Option.isSome_map]
 unfold putK storedH
 rw [e]
 by_cases q : (atKey xs k).isSome = true
 ·rw [if_pos q,if_pos q]; exact r.repl k ry
 ·rw [if_neg q,if_neg q]; exact Paired.snoc r ⟨rfl,hb,ry⟩
theorem KT.keeps {H H' : Hp} {kvs : List (List Key × V)} {xs : List (List Key × Addr × Value)} (r : KT H kvs xs) (ht : ∀ b ys,H b = some (.tup ys)→H' b = some (.tup ys)) : KT H' kvs xs :=
 Paired.mapP r fun _ _ z=>⟨z.1,ht _ _ z.2.1,z.2.2⟩
section
variable {P : Program} {w : World} {H : Hp} {h : Heap} {a : Addr}
end
def DGet (H : Hp) (a : Addr) (y : V) (r : Option V) : Prop :=
 (∃ kvs k,Rd H a (.dK kvs)∧y = kV k∧r = valV kvs k) ∨ ∃ kvs k b,Rd H a (.dT kvs)∧y = .ref b∧H b = some (.tup (k.map kV))∧r = valV kvs k
def DPut (H : Hp) (a : Addr) (y v : V) (H' : Hp) : Prop :=
 (∃ kvs k,H a = some (.dK kvs)∧y = kV k∧kvs.length < sizeLine∧H' = upd H a (.dK (putK kvs k v))) ∨
 ∃ kvs k b,H a = some (.dT kvs)∧y = .ref b∧H b = some (.tup (k.map kV))∧kvs.length < sizeLine∧H' = upd H a (.dT (putK kvs k v))
theorem DGet.k {H : Hp} {a : Addr} {kvs : List (Key × V)} {k : Key} (e : H a = some (.dK kvs)) : DGet H a (kV k) (valV kvs k):=.inl ⟨kvs,k,.inl e,rfl,rfl⟩
theorem DGet.t {H : Hp} {a b : Addr} {kvs : List (List Key × V)} {k : List Key} (e : H a = some (.dT kvs)) (eb : H b = some (.tup (k.map kV))) : DGet H a (.ref b) (valV kvs k):=.inr ⟨kvs,k,b,.inl e,rfl,eb,rfl⟩
theorem DPut.k {H : Hp} {a : Addr} {kvs : List (Key × V)} {k : Key} {v : V} (e : H a = some (.dK kvs)) (hl : kvs.length < sizeLine) : DPut H a (kV k) v (upd H a (.dK (putK kvs k v))):=.inl ⟨kvs,k,e,rfl,hl,rfl⟩
theorem DPut.t {H : Hp} {a b : Addr} {kvs : List (List Key × V)} {k : List Key} {v : V} (e : H a = some (.dT kvs)) (eb : H b = some (.tup (k.map kV))) (hl : kvs.length < sizeLine) :
  DPut H a (.ref b) v (upd H a (.dT (putK kvs k v))):=.inr ⟨kvs,k,b,e,rfl,eb,hl,rfl⟩
section
variable {X : Cx} {pins : List (Addr × Obj)} {σ : St} {H : Hp} {s : Shared} {a : Addr} {y v : V} {u r : Value} {o : Option V} {A : Around} {E : Value→Shared→Prop}
theorem Inv.big (I : Inv X pins σ H s) : sysModules < s.heap.objs.size:=by
 have h : mainGlobals < s.heap.objs.size:=(I.mod.glob.keeps I.bk).lt
 exact Nat.lt_trans (by decide) h
end
def NoSl (i : Expr) : Prop:=∀ ov iv,subscripted i false ov iv = operate [ov,iv] (getItem ov iv)
theorem subD_of {prog : Program} {w : World} {A : Around} {E : Value→Shared→Prop} {s : Shared} {env : Env} {value slice : Expr} {pos : Pos} {T id : String} {Q : Value→Shared→Prop}
  (hl : typeLookup (.type T) "__getitem__" = pure (some (.builtin id))) (hs : NoSl slice)
  (h : wpAny (model prog w) A (eval value env) (fun o s₁=>wpAny (model prog w) A (eval slice env) (fun i s₂=>s₂.TypeIs o T∧wpAny (model prog w) A (getItem o i) Q E s₂) E s₁) E s) :
  wpAny (model prog w) A (eval (.Subscript value slice pos) env) Q E s:=by
 refine Subscript_ (wpAny_mono h (fun o s₁ h₁=>wpAny_mono h₁ (fun i s₂ h₂=>?_) fun _ _ x=>x) fun _ _ x=>x)
 obtain ⟨hT,h₂⟩:=h₂
 unfold subscriptTail
 refine wpAny_bind ?_
 rw [getitemInPython_of_ne hT.not_modules]
 refine wpAny_bind (wpAny_specialOf hT hl ?_)
 have fin : wpAny (model prog w) A (subscripted slice false o i) (fun r s₃=>wpAny (model prog w) A (letTemporaryGo value o r >>= fun _=>pure r) Q E s₃) E s₂:=by
  rw [hs o i]
  exact wpAny_operating (wpAny_mono h₂ (fun r s₃ h₃=>wpAny_bind (wpAny_letTemporaryGo (wpAny_pure h₃))) fun _ _ x=>x)
 first
  | exact wpAny_pure (wpAny_bind fin)
  | exact wpAny_bind (wpAny_pure (wpAny_bind fin))
  | exact wpAny_bind fin
section
variable {X : Cx} {o i e value : Expr} {pos pos' tpos : Pos} {td ty tv : TE}
end
section
variable {X : Cx} {pos : Pos}
end
section
variable {X : Cx} {pins : List (Addr × Obj)} {σ : St} {H : Hp} {s : Shared} {a : Addr} {y d : V} {u r : Value} {o : Option V} {A : Around} {E : Value→Shared→Prop}
end
section
variable {X : Cx} {o e f : Expr} {apos cpos : Pos} {td ty tx : TE}
end
end L2
namespace Att
open PySem PySem.W PySem.Calls PyProof.Rows
end Att
namespace L2
open PySem PySem.Spec PyProof.Rows
end L2
namespace L2
open PySem PySem.Spec PyProof.Rows
end L2
/- THE LAST THEOREM (shape; LID,My.* are yours):
   My.Adr: a structure of the addresses that your layer names (classes,functions); My.Txt K t: a structure (Prop) of the equations over K;
   My.txt_mk : {K} {implicit addresses ..} (e1 : nsIn K mainGlobals "law" = some (some (.ref f))) (e2 : K.lookup f = some ⟨oc, od, .func (fnOf "law" "law" params body scope dV kV doc pm an cdv ct), sl⟩) (e3 : codeIn K cdv "law" = true) .. : ∃ t, My.Txt K t
(the tactic k_is has no namespace: write k_is) -/
namespace L2
open PySem PySem.Spec PyProof.Rows
end L2
namespace L2
open PySem PySem.Spec PyProof.Rows
structure DctK (w : World) (K : PySem.W.Frag) (a : Addr) (kfs : List (Str × Addr)) : Prop where
 ob : ∃ o es ep,K.lookup a = some o∧o.ExactDict∧o.data = .dict es ep∧Paired (fun (e : DictEntry) (p : Str × Addr)=>(∃ t,e.key = .str p.1 t)∧e.val = .ref p.2∧e.hash = keyH w (.inr p.1)) es.toList kfs
 nd : (kfs.map (·.1)).Nodup
 ns : (a == sysModules) = false
def kvOf (kfs : List (Str × Addr)) : List (Key × Value):=kfs.map fun p=>((Sum.inr p.1 : Key),Value.ref p.2)
def atF (kfs : List (Str × Addr)) (k : Str) : Option Addr:=(kfs.find? fun p=>decide (p.1 = k)).map (·.2)
theorem valueAt_kv (k : Str) : ∀ kfs : List (Str × Addr),valueAt (kvOf kfs) (Sum.inr k : Key) = (atF kfs k).map Value.ref
 | []=>rfl
 | p :: r=>by
  have ih:=valueAt_kv k r
  unfold valueAt kvOf atF at ih ⊢
  rw [List.map_cons,List.find?_cons,List.find?_cons]
  by_cases e : p.1 = k
  ·have e1 : decide ((Sum.inr p.1 : Key) = Sum.inr k) = true:=decide_eq_true (by rw [e])
   simp only [e1,decide_eq_true e]
   rfl
  ·have e1 : decide ((Sum.inr p.1 : Key) = Sum.inr k) = false:=decide_eq_false (fun z=>e (Sum.inr.inj z))
   simp only [e1,decide_eq_false e]
   exact ih
theorem DctK.dict {P : Program} {w : World} {K : PySem.W.Frag} {a : Addr} {kfs : List (Str × Addr)} (d : DctK w K a kfs) {h : Heap} (X : K.In h) : h.DictOf (mixKind P w) a (kvOf kfs):=by
 obtain ⟨o,es,ep,hk,ex,ed,pr⟩:=d.ob
 have keys : ∀ {l : List DictEntry} {m : List (Str × Addr)},Paired (fun (e : DictEntry) (p : Str × Addr)=>(∃ t,e.key = .str p.1 t)∧e.val = .ref p.2∧e.hash = keyH w (.inr p.1)) l m→(∀ e ∈ l,∃ k,(mixKind P w).is k e.key = true∧e.hash = (mixKind P w).hash k)∧Pairs (mixKind P w) l (kvOf m):=by
  intro l m q
  induction q with
  | nil=>exact ⟨fun e h=>(nomatch h),.nil⟩
  | @cons e p es ps h t ih =>
   obtain ⟨⟨t',h1⟩,h2,h3⟩:=h
   have i : (mixKind P w).is (Sum.inr p.1) e.key = true:=by rw [h1]; exact mixKind_str P w p.1 t'
   refine ⟨fun e' h'=>?_,.cons i h2 ih.2⟩
   rcases List.mem_cons.mp h' with z | z
   ·rw [z]; exact ⟨Sum.inr p.1,i,h3⟩
   ·exact ih.1 e' z
 obtain ⟨k1,k2⟩:=keys pr
 refine ⟨o,es,ep,X a o hk,ex,ed,fun e he=>k1 e (Array.mem_toList_iff.mpr he),k2,?_⟩
 have : (kvOf kfs).map (·.1) = (kfs.map (·.1)).map fun s=>(Sum.inr s : Key):=by
  unfold kvOf
  rw [List.map_map,List.map_map]
  rfl
 rw [this]
 exact List.Pairwise.map _ (fun x y h z=>h (Sum.inr.inj z)) d.nd
section
variable {X : Cx} {a f : Addr} {kfs : List (Str × Addr)}
def rGIn (a : Addr) (kfs : List (Str × Addr)) : R2:=fun x y H Q=>∃ k : Str,x = .str k∧y = .ref a∧Q (.bl (atF kfs k).isSome) H
theorem op_gin (d : DctK X.w X.K a kfs) : OpR X (compareOp .In) (rGIn a kfs):=by
 intro pins s σ H x y v u Q I rx ry h
 obtain ⟨k,rfl,rfl,q⟩:=h
 obtain ⟨t,rfl⟩:=rx
 cases ry
 refine wpAny_in_of (mixKind_str X.prog X.w k t) d.ns (d.dict I.kIn).mapOf ?_
 rw [valueAt_kv,Option.isSome_map]
 exact ⟨.bl _,H,I.tok _,rfl,q⟩
theorem arm_eval_Call_Sub (o i : Expr) (p : Pos) (args : List Expr) (keywords : List Keyword) (pos : Pos) (env : Env) : eval (.Call (.Subscript o i p) args keywords pos) env = (do
  callWith pos (← eval (.Subscript o i p) env) [] (backTo pos (starEach args env)) (backToKw pos (keywordEach keywords env))):=rfl
def tCallD (a : Addr) (kfs : List (Str × Addr)) (f : Addr) (sp : Sp) (dvs : List V) (E : XK) (td ti : TE) (t : TA) : TE:=fun σ H Q=>td σ H fun x H1=>ti σ H1 fun y H2=>∃ k : Str,x = .ref a∧y = .str k∧atF kfs k = some f∧t σ H2 fun vs H3=>sp (vs ++ dvs) H3 Q E
theorem pe_callD {CX : CXT} {k : Nat} {fd : FuncData} {ps : List Str} {sp : Sp} {ds : List Value} {dvs : List V} {E : XK} {o i e : Expr} {es : List Expr} {p1 pos : Pos} {td ti : TE} {t : TA} (d : DctK X.w X.K a kfs) (F : FnOk X.prog X.w X.K X.mg X.base CX k f fd ps sp) (hr : Room k X.A) (hk : PySem.W.keepIn X.K (.ref f) = true) (hb : Binds X.K fd ps ds) (hd : Vals dvs ds) (hx : Passes CX X E) (ho : PE X o td) (hi : PE X i ti) (hs : NoSl i) (ha : PA X (e :: es) t)
  (he : starEach (e :: es) X.env = (false,eval e X.env) :: starEach es X.env:=by rfl) (hpl : (backTo pos (starEach es X.env)).any (·.1) = false:=by rfl) :
  PE X (.Call (.Subscript o i p1) (e :: es) [] pos) (tCallD a kfs f sp dvs E td ti t):=by
 intro pins s σ H Q I h
 rw [arm_eval_Call_Sub]
 refine wpAny_bind (subD_of PySem.F.slot_dict_getitem.lookup hs (thn (ho pins s σ H _ I h) fun u s1 ⟨x,H1,I1,rx,q1⟩=>thn (hi pins s1 σ H1 _ I1 q1) fun iv s2 ⟨y,H2,I2,ry,k',ex,ey,ef,q2⟩=>?_))
 subst ex ey
 cases rx
 obtain ⟨t',rfl⟩:=ry
 have dd:=d.dict (P:=X.prog) I2.kIn
 refine ⟨dd.typeIs,wpAny_getItem_of (mixKind_str X.prog X.w k' t') dd.mapOf (by rw [valueAt_kv,ef]; rfl) ?_⟩
 refine PySem.W.callWith_K (h₀:=X.base) I2.ok.mod.kin hk (thn (ha pos pins _ σ H2 _ (I2.tok _) q2) fun us s3 ⟨vs,H3,I3,r3,q3⟩=>⟨I3.kIn,?_⟩) he hpl
 exact run_fn F hr hb hd hx I3 r3 q3
end
end L2
namespace L2
open PySem PySem.Spec PyProof.Rows PySem.SeqAt
def cntA (w : Str) : Option Nat:=cntF 200 w
def askL (bowls : List Str) : List Int→List Str→Option (List Int)
 | bag,[]=>some bag
 | bag,a :: b :: c :: ws=>match cntA a with
  | none=>none
  | some n=>if n = 0 ∨ plc bowls b = -1 ∨ 0 < bag.getD (plc bowls b).toNat 0 ∨ c ≠ wPlus then none else askL bowls (bag.set (plc bowls b).toNat (n : Int)) ws
 | _,_=>none
def askF (bowls ws : List Str) : Option (List Int):=if ws = [wDash] then some (List.replicate bowls.length 0) else if (ws.length + 1) % 3 ≠ 0 then none else askL bowls (List.replicate bowls.length 0) (ws ++ [wPlus])
theorem txI_le {n : Int} (h0 : 0 ≤ n) (h1 : n < 10 ^ 200) : (txI n).length ≤ 200:=PyProof.Rows.toString_length_le h0 (by decide) h1
theorem cntA_txI (n : Nat) (h : (n : Int) < 10 ^ 200) : cntA (txI (n : Int)) = some n:=by
 have es:=PySem.W.KIN.signs_num n
 have es : (txI (n : Int)).cps.toList = (Nat.toDigits 10 n).map Char.toNat:=es
 have ln:=txI_le (n:=(n : Int)) (by omega) h
 have lc : (txI (n : Int)).cps.toList.length = (txI (n : Int)).length:=Array.length_toList
 have ge:=toDigits_len_ge 10 n
 have l1 : 1 ≤ (txI (n : Int)).length:=by
  rw [← lc,es,List.length_map]
  exact ge
 have hd : digB (txI (n : Int)) = true:=by
  unfold digB
  rw [es]
  refine List.all_eq_true.mpr fun c hc=>?_
  obtain ⟨ch,hch,e⟩:=List.mem_map.mp hc
  have r:=PyProof.Rows.digit_range (Nat.isDigit_of_mem_toDigits (by decide) (by decide) hch)
  have r : 48 ≤ ch.toNat∧ch.toNat ≤ 57:=r
  rw [← e,decide_eq_true r.1,decide_eq_true r.2]
  rfl
 have hz : ¬ (hasHead 48 (txI (n : Int)) = true∧txI (n : Int) ≠ wZero):=by
  rintro ⟨z1,z2⟩
  unfold hasHead at z1
  rw [es] at z1
  have z1:=beq_iff_eq.mp z1
  by_cases n0 : n = 0
  ·subst n0
   exact z2 rfl
  ·have hh:=digs_head n (by omega)
   cases q : Nat.toDigits 10 n with
   | nil=>rw [q] at z1; cases z1
   | cons a l =>
    rw [q] at z1 hh
    have z1 : a.toNat = 48:=Option.some.inj z1
    have : a = '0':=Char.toNat_inj.mp z1
    exact hh (by rw [this]; rfl)
 have hv : numOf (txI (n : Int)) = n:=by
  unfold numOf
  rw [es]
  exact PySem.W.KIN.val_back n
 unfold cntA cntF
 rw [if_pos ⟨⟨l1,ln⟩,hd,hz⟩,hv]
abbrev bigB (x : Int) : Prop:=0 ≤ x∧x < 10 ^ 200
end L2
namespace L2
open PySem PySem.Spec PyProof.Rows PySem.SeqAt
inductive AskV where
 | beads (k : Str) (r : List Int)
 | place (k : Str) (i : Nat)
 | bare (k : Str)
def AskV.kind : AskV→Str
 | .beads k _=>k
 | .place k _=>k
 | .bare k=>k
def AskIn (H : Hp) (a : Addr) : AskV→Prop
 | .beads k r=>∃ l,H a = some (.tup [.str k,.ref l])∧H l = some (.lst (vints r))
 | .place k i=>H a = some (.tup [.str k,.int (i : Int)])
 | .bare k=>H a = some (.tup [.str k])
theorem AskIn.same {H H' : Hp} {a : Addr} : ∀ {v : AskV},AskIn H a v→Same H H'→AskIn H' a v
 | .beads _ _,⟨l,h1,h2⟩,S=>⟨l,S _ _ h1,S _ _ h2⟩
 | .place _ _,h,S=>S _ _ h
 | .bare _,h,S=>S _ _ h
section
variable {X : Cx} {pins : List (Addr × Obj)} {σ : St} {H : Hp} {s : Shared} {A : Around} {a b : Addr}
theorem rcTu_true {xs ys : List V} (I : Inv X pins σ H s) (hu : A.units < cLine) (qa : SqT X.K H a xs) (qb : SqT X.K H b ys) (hl : xs.length = ys.length)
  (he : ∀ (j : Nat) (x y : V) (u v : Value),xs[j]? = some x→ys[j]? = some y→RelV x u→RelV y v→EqAt A.in1 s u v true) : RcAt A s (.ref a) (.ref b) true∧RcNeAt A s (.ref a) (.ref b) false:=by
 obtain ⟨its,rv,p,_⟩:=I.tuple qa
 obtain ⟨its2,rw',p2,_⟩:=I.tuple qb
 have l1:=rv.length
 have l2:=rw'.length
 have hh : ∀ j (h1 : j < its.toArray.size) (h2 : j < its2.toArray.size),EqAt A.in1 s its.toArray[j] its2.toArray[j] ((fun _=>true) j):=fun j h1 h2=>by
  rw [List.size_toArray] at h1 h2
  obtain ⟨u,hu1,ru⟩:=rv.get (i:=j) (List.getElem?_eq_getElem (by omega))
  obtain ⟨v,hv1,rv2⟩:=rw'.get (i:=j) (List.getElem?_eq_getElem (by omega))
  rw [List.getElem_toArray,List.getElem_toArray,(List.getElem?_eq_some_iff.mp hu1).2,(List.getElem?_eq_some_iff.mp hv1).2]
  exact he j _ _ u v (List.getElem?_eq_getElem (by omega)) (List.getElem?_eq_getElem (by omega)) ru rv2
 have all : ∀ n : Nat,((List.range n).all fun _=>true) = true:=fun n=>by simp
 have q:=RcAt.tuples (A:=A) p p2 hu hh
 have q2:=RcNeAt.tuples (A:=A) p p2 hu hh
 have es : (its.toArray.size == its2.toArray.size) = true:=by rw [List.size_toArray,List.size_toArray]; exact beq_iff_eq.mpr (by omega)
 rw [all,es] at q q2
 exact ⟨q,q2⟩
theorem ask_rc {v : AskV} (I : Inv X pins σ H s) (hu : A.units + 1 < cLine) (ha : AskIn H a v) (hb : AskIn H b v) : RcAt A s (.ref a) (.ref b) true∧RcNeAt A s (.ref a) (.ref b) false:=by
 have hu0 : A.units < cLine:=by omega
 cases v with
 | beads k r =>
  obtain ⟨l,h1,h2⟩:=ha
  obtain ⟨l',h1',h2'⟩:=hb
  refine rcTu_true I hu0 (SqT.of h1) (SqT.of h1') rfl fun j x y u v hx hy ru rv=>?_
  match j,hx,hy with
  | 0,hx,hy =>
   cases hx; cases hy
   have:=eqAt_V (A:=A.in1) (s:=s) ru rv rfl rfl
   simpa [eqV] using this
  | 1,hx,hy =>
   cases hx; cases hy
   cases ru; cases rv
   exact eq_flat I (by rw [in1_units]; exact hu) (SqL.of h2) (SqL.of h2') (flat_int r)
 | place k i =>
  have ha : H a = some (.tup [.str k,.int (i : Int)]):=ha
  have hb : H b = some (.tup [.str k,.int (i : Int)]):=hb
  refine rcTu_true I hu0 (SqT.of ha) (SqT.of hb) rfl fun j x y u v hx hy ru rv=>?_
  match j,hx,hy with
  | 0,hx,hy =>
   cases hx; cases hy
   have:=eqAt_V (A:=A.in1) (s:=s) ru rv rfl rfl
   simpa [eqV] using this
  | 1,hx,hy =>
   cases hx; cases hy
   have:=eqAt_V (A:=A.in1) (s:=s) ru rv rfl rfl
   simpa [eqV] using this
 | bare k =>
  have ha : H a = some (.tup [.str k]):=ha
  have hb : H b = some (.tup [.str k]):=hb
  refine rcTu_true I hu0 (SqT.of ha) (SqT.of hb) rfl fun j x y u v hx hy ru rv=>?_
  match j,hx,hy with
  | 0,hx,hy =>
   cases hx; cases hy
   have:=eqAt_V (A:=A.in1) (s:=s) ru rv rfl rfl
   simpa [eqV] using this
end
section
variable {X : Cx}
def CPowB (i j : Int) : Prop:=0 ≤ j∧(Builtin.Int.intBits i : Int) * j ≤ 2 ^ 27
theorem op_powB : OpR X (binaryOp .Pow) (rI CPowB fun i j=>.int (i ^ j.toNat)):=opI fun _ _ _ _ _ _ _ hc q=>pow_int hc.1 hc.2 q
inductive rMulS (x : V) (y : V) (H : Hp) (Q : VK) : Prop
 | mk : ∀ (c : Nat) (n : Int),(x = .str ⟨#[c]⟩)→(y = .int n)→(0 ≤ n)→(n ≤ 100)→(Q (.str (st (List.replicate n.toNat c))) H)→rMulS x y H Q
theorem fold_rep (c : Nat) : ∀ (m : Nat) (acc : Array Nat),((List.replicate m (#[c] : Array Nat)).foldl (· ++ ·) acc).toList = acc.toList ++ List.replicate m c
 | 0,acc=>by simp
 | m + 1,acc=>by
  rw [List.replicate_succ,List.foldl_cons,fold_rep c m,List.replicate_succ,Array.toList_append,List.append_assoc]
  rfl
theorem mul_one {c : Nat} {n : Int} (h0 : 0 ≤ n) : Txt.mul ⟨#[c]⟩ n = st (List.replicate n.toNat c):=by
 unfold Txt.mul
 by_cases h1 : n < 1
 ·have : n = 0:=by omega
  subst this
  rfl
 ·rw [if_neg h1]
  split
  ·rename_i h
   have : n = 1:=by
    rw [Bool.or_eq_true] at h
    rcases h with h | h
    ·exact beq_iff_eq.mp h
    ·cases h
   subst this
   rfl
  ·refine str_list ?_
   show ((List.replicate n.toNat (#[c] : Array Nat)).foldl (· ++ ·) #[]).toList = List.replicate n.toNat c
   rw [fold_rep]
   rfl
theorem op_mulS : OpR X (binaryOp .Mult) rMulS:=by
 intro pins s σ H x y v u Q I rx ry h
 obtain ⟨c,n,rfl,rfl,n0,n1,q⟩:=h
 obtain ⟨t,rfl⟩:=rx
 obtain ⟨t',rfl⟩:=ry
 have l1 : (⟨#[c]⟩ : Str).length = 1:=rfl
 refine SB.mul ⟨?_,fun h1 _=>?_,fun _ _=>?_⟩ fun t'' k=>?_
 ·rw [decide_eq_false (by omega),decide_eq_false (by omega)]; rfl
 ·rw [l1]
  have : (2 ^ 63 - 1 : Int) / n ≥ 1:=by
   rw [ge_iff_le,Int.le_ediv_iff_mul_le (by omega)]
   omega
  omega
 ·rw [l1]
  have sz:=sizeLine_eq
  unfold Builtin.Str.tooLong
  simp only [decide_eq_false_iff_not]
  omega
 ·rw [mul_one n0]
  exact ⟨.str _,H,I.tok _,⟨_,rfl⟩,q⟩
end
abbrev wMost : Str := Str.ofString "most"
abbrev wEver : Str := Str.ofString "ever"
abbrev wStick : Str := Str.ofString "stick"
abbrev wCover : Str := Str.ofString "cover"
abbrev wReach : Str := Str.ofString "reach"
end L2
namespace L2
open PySem PySem.Spec PyProof.Rows PySem.SeqAt
def GoodAsk (N : NetV) : AskV→Prop
 | .beads k r=>(k = wCover ∨ k = wReach)∧r.length = N.bowls.length∧∀ c ∈ r,bigB c
 | .place k i=>(k = wMost∧i < N.bowls.length) ∨ (k = wEver∧i < N.doors.length)
 | .bare k=>k = wStick
theorem join_cons {c : Nat} {k : Str} {us : List Str} (h : us ≠ []) : Str.join (sg c) (k :: us) = k ++ sg c ++ Str.join (sg c) us:=by
 cases us with
 | nil=>exact absurd rfl h
 | cons u us=>rfl
theorem lit_free {k : Str} (h : k ∈ [wMost,wEver,wStick,wCover,wReach]) : wFree k∧k.length ≤ 5:=by
 have : ∀ w ∈ [wMost,wEver,wStick,wCover,wReach],(w.cps.toList.all fun c=>decide (c ≠ 32) && decide (c ≠ 10) && decide (c ≠ 62) && decide (c < 128)) = true∧w.length ≤ 5:=by decide +kernel
 obtain ⟨h1,h2⟩:=this k h
 refine ⟨fun c hc=>?_,h2⟩
 have:=List.all_eq_true.mp h1 c hc
 rw [Bool.and_eq_true,Bool.and_eq_true,Bool.and_eq_true,decide_eq_true_eq,decide_eq_true_eq,decide_eq_true_eq,decide_eq_true_eq] at this
 exact ⟨this.1.1.1,this.1.1.2,this.1.2,this.2⟩
def FullIx (n : Nat) (ix : List Nat) : Prop:=ix.Nodup∧(∀ i ∈ ix,i < n)∧∀ j,j < n→j ∈ ix
theorem FullIx.to (n : Nat) : FullIx n (List.range n):=⟨List.nodup_range,fun i hi=>List.mem_range.mp hi,fun j hj=>List.mem_range.mpr hj⟩
theorem atF5 {p q r t : Addr} : atF [(wCover,p),(wReach,p),(wMost,q),(wStick,r),(wEver,t)] wCover = some p∧atF [(wCover,p),(wReach,p),(wMost,q),(wStick,r),(wEver,t)] wReach = some p∧atF [(wCover,p),(wReach,p),(wMost,q),(wStick,r),(wEver,t)] wMost = some q∧atF [(wCover,p),(wReach,p),(wMost,q),(wStick,r),(wEver,t)] wStick = some r∧atF [(wCover,p),(wReach,p),(wMost,q),(wStick,r),(wEver,t)] wEver = some t:=by
 have n : wCover ≠ wReach∧wCover ≠ wMost∧wReach ≠ wMost∧wCover ≠ wStick∧wReach ≠ wStick∧wMost ≠ wStick∧wCover ≠ wEver∧wReach ≠ wEver∧wMost ≠ wEver∧wStick ≠ wEver:=by decide +kernel
 unfold atF
 refine ⟨?_,?_,?_,?_,?_⟩ <;> simp [List.find?_cons,n]
theorem log_big {c : Int} (h : bigB c) : c.natAbs.log2 < 1920:=by
 obtain ⟨h0,h1⟩:=h
 by_cases z : c.natAbs = 0
 ·rw [z]; decide
 ·rw [Nat.log2_lt z]
  have : c.natAbs < 10 ^ 200:=by omega
  exact Nat.lt_trans this (by decide +kernel)
end L2
namespace L2
open PySem PySem.Spec PyProof.Rows PySem.SeqAt
def w8 : List Str := [Str.ofString "by", Str.ofString "run", Str.ofString "trap", Str.ofString "none", Str.ofString "weight", Str.ofString "fence", Str.ofString "stick", Str.ofString "cover"]
theorem w8_ok : ∀ i : Fin 8,okName (w8.getD i.val Str.empty) = true:=by decide +kernel
theorem w8_inj : ∀ i j : Fin 8,w8.getD i.val Str.empty = w8.getD j.val Str.empty→i = j:=by decide +kernel
theorem w8_at {i : Int} (h0 : 0 ≤ i) (h1 : i < 8) : atI (vstrs w8) i = some (V.str (w8.getD i.toNat Str.empty)):=by
 obtain ⟨n,rfl⟩:=Int.eq_ofNat_of_zero_le h0
 rw [Int.toNat_natCast]
 exact strs_atD (show n < 8 by omega)
theorem rep_ok {n c : Nat} (h1 : 1 ≤ n) (h8 : n ≤ 8) (h : 97 ≤ c∧c ≤ 122) : okName (st (List.replicate n c)) = true:=okName_st (by rw [List.length_replicate]; exact h1) (by rw [List.length_replicate]; exact h8) fun x hx=>by rw [(List.mem_replicate.mp hx).2]; exact h
theorem rep_len {n m c : Nat} (h : st (List.replicate n c) = st (List.replicate m c)) : n = m:=by
 have:=congrArg List.length (st_inj h)
 rwa [List.length_replicate,List.length_replicate] at this
def midW (t f c : Nat) : List Nat:=List.replicate t f ++ [c] ++ List.replicate (7 - t) f
theorem midW_ok {t f c : Nat} (ht : t ≤ 7) (hf : 97 ≤ f∧f ≤ 122) (hc : 97 ≤ c∧c ≤ 122) : okName (st (midW t f c)) = true:=by
 have l : (midW t f c).length = 8:=by
  unfold midW
  rw [List.length_append,List.length_append,List.length_replicate,List.length_replicate]
  show t + 1 + (7 - t) = 8
  omega
 refine okName_st (by omega) (by omega) fun x hx=>?_
 unfold midW at hx
 rcases List.mem_append.mp hx with z | z
 ·rcases List.mem_append.mp z with z | z
  ·rw [(List.mem_replicate.mp z).2]; exact hf
  ·rw [List.mem_singleton.mp z]; exact hc
 ·rw [(List.mem_replicate.mp z).2]; exact hf
theorem midW_inj {t f c c' : Nat} (h : st (midW t f c) = st (midW t f c')) : c = c':=by
 have e:=st_inj h
 unfold midW at e
 rw [List.append_assoc,List.append_assoc] at e
 exact (List.cons.inj (List.append_cancel_left e)).1
theorem AskIn.lay {N : NetV} {H : Hp} {a p : Addr} {ps : List Addr} {o : HO} (ok : N.Ok) : ∀ {v : AskV},AskIn H a v→GoodAsk N v→H p = some (.lst (ps.map V.ref))→AskIn (upd H p o) a v
 | .beads k r,⟨l,h1,h2⟩,g,hp=>by
  have n1 : a ≠ p:=fun z=>by rw [z,hp] at h1; cases h1
  have n2 : l ≠ p:=fun z=>by
   rw [z,hp] at h2
   have e : ps.map V.ref = vints r:=HO.lst.inj (Option.some.inj h2)
   have b1:=ok.b1
   have g2:=g.2.1
   cases r with
   | nil=>simp at g2; omega
   | cons c r=>exact refs_off ps c (vints r) e
  exact ⟨l,by rw [upd_ne n1]; exact h1,by rw [upd_ne n2]; exact h2⟩
 | .place k i,h,_,hp=>by
  have h : H a = some (.tup [.str k,.int (i : Int)]):=h
  have n1 : a ≠ p:=fun z=>by rw [z,hp] at h; cases h
  show upd H p o a = _
  rw [upd_ne n1]; exact h
 | .bare k,h,_,hp=>by
  have h : H a = some (.tup [.str k]):=h
  have n1 : a ≠ p:=fun z=>by rw [z,hp] at h; cases h
  show upd H p o a = _
  rw [upd_ne n1]; exact h
def KeptOk (N : NetV) (H : Hp) (pk : Addr) (ps : List Addr) : Prop:=∀ q ∈ ps,q ≠ pk∧∃ (f a : Addr) (v : AskV),H q = some (.lst [.ref f,.ref a])∧AskIn H f v∧AskIn H a v∧GoodAsk N v
theorem KeptOk.same {N : NetV} {H H' : Hp} {pk : Addr} {ps : List Addr} (k : KeptOk N H pk ps) (S : Same H H') : KeptOk N H' pk ps:=fun q hq=>by
 obtain ⟨n,f,a,v,h1,h2,h3,h4⟩:=k q hq
 exact ⟨n,f,a,v,S _ _ h1,h2.same S,h3.same S,h4⟩
theorem KeptOk.put {N : NetV} {H : Hp} {pk qq f a : Addr} {ps : List Addr} {v : AskV} (ok : N.Ok) (k : KeptOk N H pk ps) (hk : H pk = some (.lst (ps.map V.ref))) (n : qq ≠ pk) (h1 : H qq = some (.lst [.ref f,.ref a])) (h2 : AskIn H f v) (h3 : AskIn H a v) (h4 : GoodAsk N v) : KeptOk N (upd H pk (.lst (ps.map V.ref ++ [V.ref qq]))) pk (ps ++ [qq]):=by
 refine mem_end (fun q hq=>?_) ⟨n,f,a,v,by rw [upd_ne n]; exact h1,h2.lay ok h4 hk,h3.lay ok h4 hk,h4⟩
 obtain ⟨n',f',a',v',e1,e2,e3,e4⟩:=k q hq
 exact ⟨n',f',a',v',by rw [upd_ne n']; exact e1,e2.lay ok e4 hk,e3.lay ok e4 hk,e4⟩
end L2
namespace L2
open PySem PySem.Spec PyProof.Rows PySem.SeqAt
def askR (N : NetV) : List Str→Option AskV
 | []=>none
 | k :: us=>if k = wCover ∨ k = wReach then (askF N.bowls us).map (AskV.beads k)
  else if k = wMost then (if us.length = 1∧us.getD 0 wNone ∈ N.bowls then some (.place k (plc N.bowls (us.getD 0 wNone)).toNat) else none)
  else if k = wEver then (if us.length = 1∧us.getD 0 wNone ∈ N.doors then some (.place k (plc N.doors (us.getD 0 wNone)).toNat) else none)
  else if k = wStick∧us = [] then some (.bare k) else none
theorem askR_cons (N : NetV) (k : Str) (us : List Str) : askR N (k :: us) = if k = wCover ∨ k = wReach then (askF N.bowls us).map (AskV.beads k)
  else if k = wMost then (if us.length = 1∧us.getD 0 wNone ∈ N.bowls then some (.place k (plc N.bowls (us.getD 0 wNone)).toNat) else none)
  else if k = wEver then (if us.length = 1∧us.getD 0 wNone ∈ N.doors then some (.place k (plc N.doors (us.getD 0 wNone)).toNat) else none)
  else if k = wStick∧us = [] then some (.bare k) else none:=rfl
theorem af_of {bowls ws : List Str} (nd : ws ≠ [wDash]) (h : askL bowls (List.replicate bowls.length 0) (ws ++ [wPlus]) = none) : askF bowls ws = none:=by
 unfold askF
 rw [if_neg nd]
 split
 ·rfl
 ·exact h
theorem af_len {bowls ws : List Str} (nd : ws ≠ [wDash]) (h : (ws.length + 1) % 3 ≠ 0) : askF bowls ws = none:=by
 unfold askF
 rw [if_neg nd,if_pos h]
theorem al_step {bowls : List Str} {bag : List Int} {a b c : Str} {ws : List Str} (h : ∀ n : Nat,cntA a = some n→0 < n→plc bowls b ≠ -1→¬ 0 < bag.getD (plc bowls b).toNat 0→c = wPlus→askL bowls (bag.set (plc bowls b).toNat (n : Int)) ws = none) : askL bowls bag (a :: b :: c :: ws) = none:=by
 show (match cntA a with | none=>none | some n=>if n = 0 ∨ plc bowls b = -1 ∨ 0 < bag.getD (plc bowls b).toNat 0 ∨ c ≠ wPlus then none else askL bowls (bag.set (plc bowls b).toNat (n : Int)) ws) = none
 cases e : cntA a with
 | none=>rfl
 | some n =>
  try dsimp only
  split
  ·rfl
  ·rename_i q
   exact h n e (Nat.pos_of_ne_zero fun z=>q (.inl z)) (fun z=>q (.inr (.inl z))) (fun z=>q (.inr (.inr (.inl z)))) (Classical.byContradiction fun z=>q (.inr (.inr (.inr z))))
theorem af_first {bowls : List Str} {a b : Str} {ws : List Str} (h : cntA a = none ∨ cntA a = some 0 ∨ b ∉ bowls) : askF bowls (a :: b :: ws) = none:=by
 have fin : ∀ (c : Str) (rest : List Str),askL bowls (List.replicate bowls.length 0) (a :: b :: c :: rest) = none:=fun c rest=>al_step fun n e n0 hk _ _=>by
  rcases h with h | h | h
  ·rw [h] at e; cases e
  ·rw [h] at e; cases e; exact absurd n0 (by decide)
  ·exact absurd (plc_out h) hk
 refine af_of nd_two ?_
 cases ws with
 | nil=>exact fin wPlus []
 | cons c ws=>exact fin c (ws ++ [wPlus])
theorem cnt_name {y : Str} (h : okName y = true) : cntA y = none:=by
 unfold cntA cntF
 rw [if_neg]
 rintro ⟨⟨l1,_⟩,hd,_⟩
 cases e : y.cps.toList with
 | nil =>
  have : y.cps.toList.length = y.length:=Array.length_toList
  rw [e] at this
  simp at this
  omega
 | cons c l =>
  have hc : c ∈ y.cps.toList:=by rw [e]; exact List.mem_cons_self ..
  have k1:=name_free h c hc
  have k2:=dig_all hd c hc
  omega
structure OkV (w : Str) : Prop where
 tx : TxB 220 w
 fr : 32 ∉ w.cps.toList
theorem OkV.of {w : Str} (h : OkW w) : OkV w:=⟨h.tx.mono (by decide),h.fr⟩
theorem OkV.num {n : Int} (h : bigB n) : OkV (txI n):=⟨⟨fun c hc=>by have:=num_free h.1 c hc; omega,Nat.le_trans (txI_le h.1 h.2) (by decide)⟩,fun z=>(wFree_num h.1 32 z).1 rfl⟩
theorem ov_nil : ∀ w ∈ ([] : List Str),OkV w:=fun _ h=>(nomatch h)
theorem ov_cons {a : Str} {l : List Str} (h : OkV a) (t : ∀ w ∈ l,OkV w) : ∀ w ∈ a :: l,OkV w:=fun w hw=>by
 rcases List.mem_cons.mp hw with e | e
 ·rw [e]; exact h
 ·exact t w e
structure BadA (N : NetV) (r : Str) : Prop where
 busy : idleF r = false
 no : askR N (spl 32 r) = none
 tx : TxB 4000 r
 wd : ∀ w ∈ spl 32 r,w.length ≤ 1000
theorem abad {N : NetV} {r k : Str} {us : List Str} (e : r = Str.join (sg 32) (k :: us)) (hw : ∀ w ∈ k :: us,OkV w) (hl : us.length ≤ 14) (hb : idleF r = false) (no : askR N (k :: us) = none) : BadA N r:=by
 subst e
 refine ⟨hb,by rw [spl_of (by simp) fun w h=>(hw w h).fr]; exact no,?_,fun w h=>by rw [spl_of (by simp) fun w h=>(hw w h).fr] at h; exact Nat.le_trans (hw w h).tx.le (by decide)⟩
 have h:=join_tx (s:=sg 32) (A:=1) (B:=220) ⟨by unfold okT; decide +kernel,by decide +kernel⟩ fun w h=>(hw w h).tx
 refine h.mono ?_
 rw [List.length_cons]
 omega
theorem ask_beads {N : NetV} {k : Str} {us : List Str} (hk : k = wCover ∨ k = wReach) (h : askF N.bowls us = none) : askR N (k :: us) = none:=by
 rw [askR_cons,if_pos hk,h]
 rfl
theorem busy_of {r : Str} {c : Nat} {l : List Nat} (h : r.cps.toList = c :: l) (hc : c ≠ 35) : idleF r = false:=busy_row (b:=0) h hc
def neverPA (us : List Str) : Bool:=!decide (us = [wDash]) && (decide ((us.length + 1) % 3 ≠ 0) || (match cntA (us.getD 0 wNone) with | none=>true | some n=>decide (n = 0)))
def neverA (ws : List Str) : Bool:=match ws with
 | []=>true
 | k :: us=>if k = wCover ∨ k = wReach then neverPA us else if k = wMost ∨ k = wEver then !(decide (us.length = 1) && okName (us.getD 0 wNone)) else if k = wStick then !decide (us = []) else true
theorem neverPA_no {bowls us : List Str} (h : neverPA us = true) : askF bowls us = none:=by
 unfold neverPA at h
 rw [Bool.and_eq_true,Bool.or_eq_true,decide_eq_true_eq] at h
 obtain ⟨h1,h2⟩:=h
 have nd : us ≠ [wDash]:=fun z=>by rw [decide_eq_true z] at h1; exact absurd h1 (by decide)
 by_cases h3 : (us.length + 1) % 3 = 0
 ·match us,h2,h3,nd with
  | [],_,h3,_=>exact absurd h3 (by decide)
  | [_],_,h3,_=>exact absurd h3 (by simp)
  | a :: b :: ws,h2,h3,nd =>
   refine af_first ?_
   rcases h2 with h2 | h2
   ·exact absurd h3 h2
   ·have h2 : (match cntA a with | none=>true | some n=>decide (n = 0)) = true:=h2
    cases e : cntA a with
    | none=>exact .inl rfl
    | some n =>
     rw [e] at h2
     have h2 : n = 0:=of_decide_eq_true h2
     rw [h2]
     exact .inr (.inl rfl)
 ·exact af_len nd h3
theorem neverA_no {N : NetV} (ok : N.Ok) {ws : List Str} (h : neverA ws = true) : askR N ws = none:=by
 cases ws with
 | nil=>rfl
 | cons k us =>
  have h : (if k = wCover ∨ k = wReach then neverPA us else if k = wMost ∨ k = wEver then !(decide (us.length = 1) && okName (us.getD 0 wNone)) else if k = wStick then !decide (us = []) else true) = true:=h
  rw [askR_cons]
  split
  ·rename_i e
   rw [if_pos e] at h
   rw [neverPA_no h]
   rfl
  ·rename_i e
   rw [if_neg e] at h
   have no : ∀ {ys : List Str},(∀ y ∈ ys,okName y = true)→(!(decide (us.length = 1) && okName (us.getD 0 wNone))) = true→¬ (us.length = 1∧us.getD 0 wNone ∈ ys):=fun hy h z=>by
    rw [decide_eq_true z.1,hy _ z.2] at h
    exact absurd h (by decide)
   split
   ·rename_i e2
    rw [if_pos (.inl e2)] at h
    rw [if_neg (no ok.bn h)]
   ·rename_i e2
    split
    ·rename_i e3
     rw [if_pos (.inr e3)] at h
     rw [if_neg (no ok.dn h)]
    ·rename_i e3
     rw [if_neg (fun z=>z.elim e2 e3)] at h
     rw [if_neg]
     rintro ⟨z1,z2⟩
     rw [if_pos z1,decide_eq_true z2] at h
     exact absurd h (by decide)
def litA : List Str := [Str.ofString "most", Str.ofString "cover", Str.ofString "cover ", Str.ofString "reach", Str.ofString "reach ", Str.ofString " cover -", Str.ofString "cover - ", Str.ofString "cover  -", Str.ofString "cover - -", Str.ofString "Cover -", Str.ofString "covers -", Str.ofString "reach\t-", Str.ofString "most ", Str.ofString "ever", Str.ofString "stick ", Str.ofString "sticks", Str.ofString " ", Str.ofString "\t", Str.ofString " # stick", Str.ofString "\t# stick"]
theorem litA_all : litA.all (fun r=>!idleF r && neverA (spl 32 r) && r.cps.toList.all (fun c=>decide (c < 128) && decide (c ≠ 10)) && decide (r.length ≤ 1000)) = true:=by decide +kernel
theorem litA_bad {N : NetV} (ok : N.Ok) : ∀ r ∈ litA,BadA N r:=fun r hr=>by
 have:=List.all_eq_true.mp litA_all r hr
 rw [Bool.and_eq_true,Bool.and_eq_true,Bool.and_eq_true,decide_eq_true_eq] at this
 obtain ⟨⟨⟨h1,h2⟩,h3⟩,h4⟩:=this
 refine ⟨by simpa using h1,neverA_no ok h2,⟨fun c hc=>?_,Nat.le_trans h4 (by decide)⟩,fun w hw=>Nat.le_trans (spl_part 32 r w hw) h4⟩
 have:=List.all_eq_true.mp h3 c hc
 rw [Bool.and_eq_true,decide_eq_true_eq,decide_eq_true_eq] at this
 exact this
theorem atF5n {p q r t : Addr} {k : Str} (h1 : ¬ (k = wCover ∨ k = wReach)) (h2 : k ≠ wMost) (h3 : k ≠ wEver) (h4 : k ≠ wStick) : atF [(wCover,p),(wReach,p),(wMost,q),(wStick,r),(wEver,t)] k = none:=by
 have e1 : ¬ wCover = k:=fun z=>h1 (.inl z.symm)
 have e2 : ¬ wReach = k:=fun z=>h1 (.inr z.symm)
 have e3 : ¬ wMost = k:=fun z=>h2 z.symm
 have e4 : ¬ wStick = k:=fun z=>h4 z.symm
 have e5 : ¬ wEver = k:=fun z=>h3 z.symm
 unfold atF
 simp [List.find?_cons,e1,e2,e3,e4,e5]
def asksF (N : NetV) : Nat→List Str→Sum Nat (List AskV)
 | _,[]=>.inr []
 | k,r :: rs=>if idleF r = true then asksF N (k + 1) rs else match askR N (spl 32 r) with
  | none=>.inl k
  | some v=>match asksF N (k + 1) rs with
   | .inl m=>.inl m
   | .inr vs=>.inr (v :: vs)
end L2
namespace L2
open PySem PySem.Spec PyProof.Rows PySem.SeqAt
abbrev wXy : Str := Str.ofString "xyzzy"
abbrev w2 : Str := Str.ofString "2"
theorem w8_xy : ∀ i : Fin 8,w8.getD i.val Str.empty ≠ wXy:=by decide +kernel
theorem rep_xy {n c : Nat} (h : st (List.replicate n c) = wXy) : False:=by
 have e : List.replicate n c = [120,121,122,122,121]:=by
  have:=congrArg (fun x : Str=>x.cps.toList) h
  exact this
 have k : ∀ x ∈ ([120,121,122,122,121] : List Nat),x = c:=by rw [← e]; exact fun x hx=>(List.mem_replicate.mp hx).2
 have h1:=k 120 (by decide)
 have h2:=k 121 (by decide)
 omega
theorem midW_xy {t f c : Nat} (ht : t ≤ 7) (h : st (midW t f c) = wXy) : False:=by
 have e : (midW t f c).length = 5:=by
  have:=congrArg Str.length h
  rw [st_len] at this
  exact this
 unfold midW at e
 rw [List.length_append,List.length_append,List.length_replicate,List.length_replicate] at e
 have e : t + 1 + (7 - t) = 5:=e
 omega
def ones : Str:=st (List.replicate 201 49)
theorem ones_len : ones.length = 201:=by unfold ones; rw [st_len,List.length_replicate]
theorem ones_cnt : cntA ones = none:=by
 unfold cntA cntF
 rw [if_neg]
 rintro ⟨⟨_,h⟩,_⟩
 rw [ones_len] at h
 exact absurd h (by decide)
theorem ones_ok : OkV ones:=by
 have k : ∀ c ∈ ones.cps.toList,c = 49:=fun c hc=>(List.mem_replicate.mp (show c ∈ List.replicate 201 49 from hc)).2
 exact ⟨⟨fun c hc=>by rw [k c hc]; decide,by rw [ones_len]; decide⟩,fun z=>absurd (k 32 z) (by decide)⟩
def BusyH (x : Str) : Prop:=∃ c l,x.cps.toList = c :: l∧c ≠ 35
theorem busyH_app {x y : Str} (h : BusyH x) : BusyH (x ++ y):=by
 obtain ⟨c,l,e,n⟩:=h
 exact ⟨c,l ++ y.cps.toList,by rw [app_list,e]; rfl,n⟩
theorem idle_of {x : Str} (h : BusyH x) : idleF x = false:=by
 obtain ⟨c,l,e,n⟩:=h
 exact busy_of e n
def symA (M A B C EB DA : Str) : List Str :=
 [Str.ofString "cover -1 " ++ A,
   Str.ofString "cover 0 " ++ A,
   Str.ofString "reach 0" ++ (M ++ Str.ofString " " ++ A),
   Str.ofString "cover +" ++ (M ++ Str.ofString " " ++ A),
   Str.ofString "cover " ++ (M ++ Str.ofString " " ++ A) ++ Str.ofString " +",
   Str.ofString "cover + " ++ (M ++ Str.ofString " " ++ A),
   Str.ofString "reach " ++ (M ++ Str.ofString " " ++ A) ++ Str.ofString " + " ++ (M ++ Str.ofString " " ++ A),
   Str.ofString "cover " ++ (M ++ Str.ofString " " ++ A) ++ Str.ofString " " ++ (M ++ Str.ofString " " ++ A),
   Str.ofString "reach " ++ (M ++ Str.ofString " " ++ A) ++ Str.ofString " - " ++ (M ++ Str.ofString " " ++ A),
   Str.ofString "cover  " ++ (M ++ Str.ofString " " ++ A),
   Str.ofString "cover " ++ (M ++ Str.ofString " " ++ A) ++ Str.ofString " ",
   Str.ofString "cover " ++ M ++ Str.ofString "  " ++ A,
   Str.ofString "reach " ++ A ++ Str.ofString " " ++ M,
   Str.ofString "cover " ++ M,
   Str.ofString "cover " ++ A,
   Str.ofString "reach " ++ M ++ Str.ofString " xyzzy",
   Str.ofString "COVER " ++ (M ++ Str.ofString " " ++ A),
   Str.ofString "most xyzzy",
   Str.ofString "most " ++ A ++ Str.ofString " " ++ A,
   Str.ofString "most " ++ M,
   Str.ofString "ever xyzzy",
   Str.ofString "stick " ++ A,
   Str.ofString "ever " ++ EB,
   Str.ofString "most " ++ DA,
   Str.ofString "cover " ++ ones ++ Str.ofString " " ++ A,
   Str.ofString "reach 1_0 " ++ A,
   Str.ofString "cover 1\t" ++ A,
   Str.ofString "cover " ++ (M ++ Str.ofString " " ++ A) ++ Str.ofString " + 0 " ++ B,
   Str.ofString "reach " ++ (M ++ Str.ofString " " ++ A) ++ Str.ofString " + 01 " ++ B,
   Str.ofString "cover " ++ (M ++ Str.ofString " " ++ A) ++ Str.ofString " + 1 xyzzy",
   Str.ofString "cover " ++ (M ++ Str.ofString " " ++ A) ++ Str.ofString " + 1 " ++ B ++ Str.ofString " - 1 " ++ C,
   Str.ofString "reach " ++ (M ++ Str.ofString " " ++ A) ++ Str.ofString " + 2 " ++ B ++ Str.ofString " + 1 " ++ A,
   Str.ofString "cover " ++ (M ++ Str.ofString " " ++ A) ++ Str.ofString " + 1 " ++ B ++ Str.ofString " + " ++ ones ++ Str.ofString " " ++ C]
theorem symA_bad {N : NetV} (ok : N.Ok) {m : Nat} {A B C EB DA : Str} (m1 : 1 ≤ m) (m9 : (m : Int) < 10 ^ 10) (okA : okName A = true) (okB : okName B = true) (okC : okName C = true) (okE : okName EB = true) (okD : okName DA = true) (xb : wXy ∉ N.bowls) (xd : wXy ∉ N.doors) (ebd : EB ∉ N.doors) (dab : DA ∉ N.bowls) : ∀ r ∈ symA (txI (m : Int)) A B C EB DA,BadA N r:=fun r hr=>by
 have bigM : bigB (m : Int):=⟨by omega,Int.lt_trans m9 (by decide)⟩
 have mdig : ∀ c ∈ (txI (m : Int)).cps.toList,48 ≤ c∧c ≤ 57:=num_free (by omega)
 have mlen : 1 ≤ (txI (m : Int)).length∧(txI (m : Int)).length ≤ 200:=by
  refine ⟨?_,txI_le bigM.1 bigM.2⟩
  have h:=cntA_txI m bigM.2
  unfold cntA cntF at h
  split at h
  ·rename_i q; exact q.1.1
  ·cases h
 generalize txI (m : Int) = M at hr mdig mlen
 have m:=(⟨⟨fun c hc=>by have:=mdig c hc; omega,Nat.le_trans mlen.2 (by decide)⟩,fun z=>by have:=mdig 32 z; omega⟩ : OkV M)
 have a:=OkV.of (OkW.name okA)
 have b:=OkV.of (OkW.name okB)
 have c:=OkV.of (OkW.name okC)
 have eb:=OkV.of (OkW.name okE)
 have da:=OkV.of (OkW.name okD)
 have oo:=ones_ok
 have pl : OkV wPlus:=OkV.of (OkW.lit (by decide +kernel))
 have ds : OkV wDash:=OkV.of (OkW.lit (by decide +kernel))
 have z0 : OkV wZero:=OkV.of (OkW.lit (by decide +kernel))
 have nn : OkV wNone:=OkV.of (OkW.lit (by decide +kernel))
 have xy : OkV wXy:=OkV.of (OkW.lit (by decide +kernel))
 have o1 : OkV w1:=OkV.of (OkW.lit (by decide +kernel))
 have o2 : OkV w2:=OkV.of (OkW.lit (by decide +kernel))
 have pre : ∀ {x y : Str},OkV y→y.length ≤ 200→(x.cps.toList.all (fun c=>decide (c < 128) && decide (c ≠ 10) && decide (c ≠ 32)) && decide (x.length ≤ 5)) = true→OkV (x ++ y):=fun {x y} hy ly hx=>by
  rw [Bool.and_eq_true,decide_eq_true_eq] at hx
  have k : ∀ c ∈ x.cps.toList,(c < 128∧c ≠ 10)∧c ≠ 32:=fun c hc=>by
   have:=List.all_eq_true.mp hx.1 c hc
   rw [Bool.and_eq_true,Bool.and_eq_true,decide_eq_true_eq,decide_eq_true_eq,decide_eq_true_eq] at this
   exact this
  refine ⟨⟨okT_app (fun c hc=>(k c hc).1) hy.tx.ok,by rw [Str.length_append]; omega⟩,fun z=>?_⟩
  rw [app_list] at z
  rcases List.mem_append.mp z with q | q
  ·exact (k 32 q).2 rfl
  ·exact hy.fr q
 have a8:=(name_tx okA).le
 have zm : OkV (wZero ++ M):=pre m mlen.2 (by decide +kernel)
 have pm : OkV (wPlus ++ M):=pre m mlen.2 (by decide +kernel)
 have ta : OkV (Str.ofString "1\t" ++ A) := pre a (by omega) (by decide +kernel)
 have cO:=ones_cnt
 have c0 : cntA (wZero ++ M) = none:=by
  unfold cntA cntF
  rw [if_neg]
  rintro ⟨_,_,z⟩
  refine z ⟨?_,fun e=>?_⟩
  ·unfold hasHead
   rw [app_list]
   rfl
  ·have:=congrArg Str.length e
   rw [Str.length_append] at this
   have l : wZero.length = 1:=by decide
   omega
 have cp : cntA (wPlus ++ M) = none:=by
  unfold cntA cntF
  rw [if_neg]
  rintro ⟨_,h,_⟩
  have:=dig_all h 43 (by rw [app_list]; exact List.mem_append_left _ (by decide))
  omega
 have mD : M ≠ wDash:=fun z=>by
  have:=mdig 45 (by rw [z]; decide)
  omega
 have aD : A ≠ wDash:=fun z=>by
  have:=name_free okA 45 (by rw [z]; decide)
  omega
 have tD : Str.ofString "1\t" ++ A ≠ wDash := fun z => by
  have:=congrArg Str.length z
  rw [Str.length_append] at this
  have l1 : (Str.ofString "1\t").length = 2 := by decide
  have l2 : wDash.length = 1:=by decide
  omega
 have mb : M ∉ N.bowls:=fun z=>by
  have k:=name_free (ok.bn M z)
  cases e : M.cps.toList with
  | nil =>
   have : M.cps.toList.length = M.length:=Array.length_toList
   rw [e] at this
   simp at this
   omega
  | cons d l =>
   have hd : d ∈ M.cps.toList:=by rw [e]; exact List.mem_cons_self ..
   have:=k d hd
   have:=mdig d hd
   omega
 have bad2 : ∀ {x y : Str},cntA x = none ∨ cntA x = some 0 ∨ y ∉ N.bowls→askF N.bowls [M,A,wPlus,x,y] = none:=fun {x y} h=>af_of nd_two (al_step (ws:=[x,y,wPlus]) fun n e n0 hk hb _=>al_step fun l e2 l0 hk2 _ _=>by
  rcases h with h | h | h
  ·rw [h] at e2; cases e2
  ·rw [h] at e2; cases e2; exact absurd l0 (by decide)
  ·exact absurd (plc_out h) hk2)
 have rep2 : ∀ x y : Str,askF N.bowls [x,A,wPlus,y,A] = none:=fun x y=>af_of nd_two (al_step (ws:=[y,A,wPlus]) fun n e n0 hk hb _=>al_step fun l e2 l0 hk2 hb2 _=>absurd (set_pos hk n0 List.length_replicate) hb2)
 have other : ∀ {k : Str} {us : List Str},k ≠ wCover∧k ≠ wReach→k ≠ wMost→k ≠ wEver→k ≠ wStick→askR N (k :: us) = none:=fun h1 h2 h3 h4=>by
  rw [askR_cons,if_neg (fun z=>z.elim h1.1 h1.2),if_neg h2,if_neg h3,if_neg (fun z=>h4 z.1)]
 have nm : ¬ (wMost = wCover ∨ wMost = wReach):=by decide
 have ne : ¬ (wEver = wCover ∨ wEver = wReach):=by decide
 have ns : ¬ (wStick = wCover ∨ wStick = wReach):=by decide
 have most1 : ∀ {y : Str},y ∉ N.bowls→askR N [wMost,y] = none:=fun h=>by rw [askR_cons,if_neg nm,if_pos rfl,if_neg (fun z=>h z.2)]
 have most2 : ∀ {us : List Str},us.length = 2→askR N (wMost :: us) = none:=fun h=>by rw [askR_cons,if_neg nm,if_pos rfl,if_neg (fun z=>by have:=z.1; omega)]
 have ever1 : ∀ {y : Str},y ∉ N.doors→askR N [wEver,y] = none:=fun h=>by rw [askR_cons,if_neg ne,if_neg (by decide),if_pos rfl,if_neg (fun z=>h z.2)]
 have stick1 : ∀ {us : List Str},us.length = 1→askR N (wStick :: us) = none:=fun h=>by rw [askR_cons,if_neg ns,if_neg (by decide),if_neg (by decide),if_neg (fun z=>by rw [z.2] at h; cases h)]
 unfold symA at hr
 simp only [List.mem_cons,List.not_mem_nil,or_false] at hr
 rcases hr with rfl | rfl | rfl | rfl | rfl | rfl | rfl | rfl | rfl | rfl | rfl | rfl | rfl | rfl | rfl | rfl | rfl | rfl | rfl | rfl | rfl | rfl | rfl | rfl | rfl | rfl | rfl | rfl | rfl | rfl | rfl | rfl | rfl
 ·exact abad (k := wCover) (us := [(Str.ofString "-1"), A]) (by refine str_list ?_; simp only [join_two, join_one, app_list, List.append_assoc]; rfl) (ov_cons (OkV.of (OkW.lit (by decide +kernel))) (ov_cons (OkV.of (OkW.lit (by decide +kernel))) (ov_cons a ov_nil))) (by simp) (idle_of (by repeat (first | refine busyH_app ?_ | exact ⟨_, _, rfl, by decide⟩))) (ask_beads (.inl rfl) (af_first (.inl (by decide +kernel))))
 ·exact abad (k:=wCover) (us:=[wZero,A]) (by refine str_list ?_; simp only [join_two,join_one,app_list,List.append_assoc]; rfl) (ov_cons (OkV.of (OkW.lit (by decide +kernel))) (ov_cons z0 (ov_cons a ov_nil))) (by simp) (idle_of (by repeat (first | refine busyH_app ?_ | exact ⟨_,_,rfl,by decide⟩))) (ask_beads (.inl rfl) (af_first (.inr (.inl (by decide +kernel)))))
 ·exact abad (k:=wReach) (us:=[(wZero ++ M),A]) (by refine str_list ?_; simp only [join_two,join_one,app_list,List.append_assoc]; rfl) (ov_cons (OkV.of (OkW.lit (by decide +kernel))) (ov_cons zm (ov_cons a ov_nil))) (by simp) (idle_of (by repeat (first | refine busyH_app ?_ | exact ⟨_,_,rfl,by decide⟩))) (ask_beads (.inr rfl) (af_first (.inl c0)))
 ·exact abad (k:=wCover) (us:=[(wPlus ++ M),A]) (by refine str_list ?_; simp only [join_two,join_one,app_list,List.append_assoc]; rfl) (ov_cons (OkV.of (OkW.lit (by decide +kernel))) (ov_cons pm (ov_cons a ov_nil))) (by simp) (idle_of (by repeat (first | refine busyH_app ?_ | exact ⟨_,_,rfl,by decide⟩))) (ask_beads (.inl rfl) (af_first (.inl cp)))
 ·exact abad (k:=wCover) (us:=[M,A,wPlus]) (by refine str_list ?_; simp only [join_two,join_one,app_list,List.append_assoc]; rfl) (ov_cons (OkV.of (OkW.lit (by decide +kernel))) (ov_cons m (ov_cons a (ov_cons pl ov_nil)))) (by simp) (idle_of (by repeat (first | refine busyH_app ?_ | exact ⟨_,_,rfl,by decide⟩))) (ask_beads (.inl rfl) (af_len nd_two (by simp)))
 ·exact abad (k:=wCover) (us:=[wPlus,M,A]) (by refine str_list ?_; simp only [join_two,join_one,app_list,List.append_assoc]; rfl) (ov_cons (OkV.of (OkW.lit (by decide +kernel))) (ov_cons pl (ov_cons m (ov_cons a ov_nil)))) (by simp) (idle_of (by repeat (first | refine busyH_app ?_ | exact ⟨_,_,rfl,by decide⟩))) (ask_beads (.inl rfl) (af_len nd_two (by simp)))
 ·exact abad (k:=wReach) (us:=[M,A,wPlus,M,A]) (by refine str_list ?_; simp only [join_two,join_one,app_list,List.append_assoc]; rfl) (ov_cons (OkV.of (OkW.lit (by decide +kernel))) (ov_cons m (ov_cons a (ov_cons pl (ov_cons m (ov_cons a ov_nil)))))) (by simp) (idle_of (by repeat (first | refine busyH_app ?_ | exact ⟨_,_,rfl,by decide⟩))) (ask_beads (.inr rfl) (rep2 M M))
 ·exact abad (k:=wCover) (us:=[M,A,M,A]) (by refine str_list ?_; simp only [join_two,join_one,app_list,List.append_assoc]; rfl) (ov_cons (OkV.of (OkW.lit (by decide +kernel))) (ov_cons m (ov_cons a (ov_cons m (ov_cons a ov_nil))))) (by simp) (idle_of (by repeat (first | refine busyH_app ?_ | exact ⟨_,_,rfl,by decide⟩))) (ask_beads (.inl rfl) (af_len nd_two (by simp)))
 ·exact abad (k:=wReach) (us:=[M,A,wDash,M,A]) (by refine str_list ?_; simp only [join_two,join_one,app_list,List.append_assoc]; rfl) (ov_cons (OkV.of (OkW.lit (by decide +kernel))) (ov_cons m (ov_cons a (ov_cons ds (ov_cons m (ov_cons a ov_nil)))))) (by simp) (idle_of (by repeat (first | refine busyH_app ?_ | exact ⟨_,_,rfl,by decide⟩))) (ask_beads (.inr rfl) (af_of nd_two (al_step (ws:=[M,A,wPlus]) fun _ _ _ _ _ z=>absurd z (by decide))))
 ·exact abad (k:=wCover) (us:=[wNone,M,A]) (by refine str_list ?_; simp only [join_two,join_one,app_list,List.append_assoc]; rfl) (ov_cons (OkV.of (OkW.lit (by decide +kernel))) (ov_cons nn (ov_cons m (ov_cons a ov_nil)))) (by simp) (idle_of (by repeat (first | refine busyH_app ?_ | exact ⟨_,_,rfl,by decide⟩))) (ask_beads (.inl rfl) (af_len nd_two (by simp)))
 ·exact abad (k:=wCover) (us:=[M,A,wNone]) (by refine str_list ?_; simp only [join_two,join_one,app_list,List.append_assoc]; rfl) (ov_cons (OkV.of (OkW.lit (by decide +kernel))) (ov_cons m (ov_cons a (ov_cons nn ov_nil)))) (by simp) (idle_of (by repeat (first | refine busyH_app ?_ | exact ⟨_,_,rfl,by decide⟩))) (ask_beads (.inl rfl) (af_len nd_two (by simp)))
 ·exact abad (k:=wCover) (us:=[M,wNone,A]) (by refine str_list ?_; simp only [join_two,join_one,app_list,List.append_assoc]; rfl) (ov_cons (OkV.of (OkW.lit (by decide +kernel))) (ov_cons m (ov_cons nn (ov_cons a ov_nil)))) (by simp) (idle_of (by repeat (first | refine busyH_app ?_ | exact ⟨_,_,rfl,by decide⟩))) (ask_beads (.inl rfl) (af_len nd_two (by simp)))
 ·exact abad (k:=wReach) (us:=[A,M]) (by refine str_list ?_; simp only [join_two,join_one,app_list,List.append_assoc]; rfl) (ov_cons (OkV.of (OkW.lit (by decide +kernel))) (ov_cons a (ov_cons m ov_nil))) (by simp) (idle_of (by repeat (first | refine busyH_app ?_ | exact ⟨_,_,rfl,by decide⟩))) (ask_beads (.inr rfl) (af_first (.inl (cnt_name okA))))
 ·exact abad (k:=wCover) (us:=[M]) (by refine str_list ?_; simp only [join_two,join_one,app_list,List.append_assoc]; rfl) (ov_cons (OkV.of (OkW.lit (by decide +kernel))) (ov_cons m ov_nil)) (by simp) (idle_of (by repeat (first | refine busyH_app ?_ | exact ⟨_,_,rfl,by decide⟩))) (ask_beads (.inl rfl) (af_len (fun z=>mD (List.cons.inj z).1) (by simp)))
 ·exact abad (k:=wCover) (us:=[A]) (by refine str_list ?_; simp only [join_two,join_one,app_list,List.append_assoc]; rfl) (ov_cons (OkV.of (OkW.lit (by decide +kernel))) (ov_cons a ov_nil)) (by simp) (idle_of (by repeat (first | refine busyH_app ?_ | exact ⟨_,_,rfl,by decide⟩))) (ask_beads (.inl rfl) (af_len (fun z=>aD (List.cons.inj z).1) (by simp)))
 ·exact abad (k:=wReach) (us:=[M,wXy]) (by refine str_list ?_; simp only [join_two,join_one,app_list,List.append_assoc]; rfl) (ov_cons (OkV.of (OkW.lit (by decide +kernel))) (ov_cons m (ov_cons xy ov_nil))) (by simp) (idle_of (by repeat (first | refine busyH_app ?_ | exact ⟨_,_,rfl,by decide⟩))) (ask_beads (.inr rfl) (af_first (.inr (.inr xb))))
 ·exact abad (k := (Str.ofString "COVER")) (us := [M, A]) (by refine str_list ?_; simp only [join_two, join_one, app_list, List.append_assoc]; rfl) (ov_cons (OkV.of (OkW.lit (by decide +kernel))) (ov_cons m (ov_cons a ov_nil))) (by simp) (idle_of (by repeat (first | refine busyH_app ?_ | exact ⟨_, _, rfl, by decide⟩))) (other (by decide) (by decide) (by decide) (by decide))
 ·exact abad (k:=wMost) (us:=[wXy]) (by refine str_list ?_; simp only [join_two,join_one,app_list,List.append_assoc]; rfl) (ov_cons (OkV.of (OkW.lit (by decide +kernel))) (ov_cons xy ov_nil)) (by simp) (idle_of (by repeat (first | refine busyH_app ?_ | exact ⟨_,_,rfl,by decide⟩))) (most1 xb)
 ·exact abad (k:=wMost) (us:=[A,A]) (by refine str_list ?_; simp only [join_two,join_one,app_list,List.append_assoc]; rfl) (ov_cons (OkV.of (OkW.lit (by decide +kernel))) (ov_cons a (ov_cons a ov_nil))) (by simp) (idle_of (by repeat (first | refine busyH_app ?_ | exact ⟨_,_,rfl,by decide⟩))) (most2 rfl)
 ·exact abad (k:=wMost) (us:=[M]) (by refine str_list ?_; simp only [join_two,join_one,app_list,List.append_assoc]; rfl) (ov_cons (OkV.of (OkW.lit (by decide +kernel))) (ov_cons m ov_nil)) (by simp) (idle_of (by repeat (first | refine busyH_app ?_ | exact ⟨_,_,rfl,by decide⟩))) (most1 mb)
 ·exact abad (k:=wEver) (us:=[wXy]) (by refine str_list ?_; simp only [join_two,join_one,app_list,List.append_assoc]; rfl) (ov_cons (OkV.of (OkW.lit (by decide +kernel))) (ov_cons xy ov_nil)) (by simp) (idle_of (by repeat (first | refine busyH_app ?_ | exact ⟨_,_,rfl,by decide⟩))) (ever1 xd)
 ·exact abad (k:=wStick) (us:=[A]) (by refine str_list ?_; simp only [join_two,join_one,app_list,List.append_assoc]; rfl) (ov_cons (OkV.of (OkW.lit (by decide +kernel))) (ov_cons a ov_nil)) (by simp) (idle_of (by repeat (first | refine busyH_app ?_ | exact ⟨_,_,rfl,by decide⟩))) (stick1 rfl)
 ·exact abad (k:=wEver) (us:=[EB]) (by refine str_list ?_; simp only [join_two,join_one,app_list,List.append_assoc]; rfl) (ov_cons (OkV.of (OkW.lit (by decide +kernel))) (ov_cons eb ov_nil)) (by simp) (idle_of (by repeat (first | refine busyH_app ?_ | exact ⟨_,_,rfl,by decide⟩))) (ever1 ebd)
 ·exact abad (k:=wMost) (us:=[DA]) (by refine str_list ?_; simp only [join_two,join_one,app_list,List.append_assoc]; rfl) (ov_cons (OkV.of (OkW.lit (by decide +kernel))) (ov_cons da ov_nil)) (by simp) (idle_of (by repeat (first | refine busyH_app ?_ | exact ⟨_,_,rfl,by decide⟩))) (most1 dab)
 ·exact abad (k:=wCover) (us:=[ones,A]) (by refine str_list ?_; simp only [join_two,join_one,app_list,List.append_assoc]; rfl) (ov_cons (OkV.of (OkW.lit (by decide +kernel))) (ov_cons oo (ov_cons a ov_nil))) (by simp) (idle_of (by repeat (first | refine busyH_app ?_ | exact ⟨_,_,rfl,by decide⟩))) (ask_beads (.inl rfl) (af_first (.inl cO)))
 ·exact abad (k := wReach) (us := [(Str.ofString "1_0"), A]) (by refine str_list ?_; simp only [join_two, join_one, app_list, List.append_assoc]; rfl) (ov_cons (OkV.of (OkW.lit (by decide +kernel))) (ov_cons (OkV.of (OkW.lit (by decide +kernel))) (ov_cons a ov_nil))) (by simp) (idle_of (by repeat (first | refine busyH_app ?_ | exact ⟨_, _, rfl, by decide⟩))) (ask_beads (.inr rfl) (af_first (.inl (by decide +kernel))))
 ·exact abad (k := wCover) (us := [(Str.ofString "1\t" ++ A)]) (by refine str_list ?_; simp only [join_two, join_one, app_list, List.append_assoc]; rfl) (ov_cons (OkV.of (OkW.lit (by decide +kernel))) (ov_cons ta ov_nil)) (by simp) (idle_of (by repeat (first | refine busyH_app ?_ | exact ⟨_, _, rfl, by decide⟩))) (ask_beads (.inl rfl) (af_len (fun z => tD (List.cons.inj z).1) (by simp)))
 ·exact abad (k:=wCover) (us:=[M,A,wPlus,wZero,B]) (by refine str_list ?_; simp only [join_two,join_one,app_list,List.append_assoc]; rfl) (ov_cons (OkV.of (OkW.lit (by decide +kernel))) (ov_cons m (ov_cons a (ov_cons pl (ov_cons z0 (ov_cons b ov_nil)))))) (by simp) (idle_of (by repeat (first | refine busyH_app ?_ | exact ⟨_,_,rfl,by decide⟩))) (ask_beads (.inl rfl) (bad2 (.inr (.inl (by decide +kernel)))))
 ·exact abad (k := wReach) (us := [M, A, wPlus, (Str.ofString "01"), B]) (by refine str_list ?_; simp only [join_two, join_one, app_list, List.append_assoc]; rfl) (ov_cons (OkV.of (OkW.lit (by decide +kernel))) (ov_cons m (ov_cons a (ov_cons pl (ov_cons (OkV.of (OkW.lit (by decide +kernel))) (ov_cons b ov_nil)))))) (by simp) (idle_of (by repeat (first | refine busyH_app ?_ | exact ⟨_, _, rfl, by decide⟩))) (ask_beads (.inr rfl) (bad2 (.inl (by decide +kernel))))
 ·exact abad (k:=wCover) (us:=[M,A,wPlus,w1,wXy]) (by refine str_list ?_; simp only [join_two,join_one,app_list,List.append_assoc]; rfl) (ov_cons (OkV.of (OkW.lit (by decide +kernel))) (ov_cons m (ov_cons a (ov_cons pl (ov_cons o1 (ov_cons xy ov_nil)))))) (by simp) (idle_of (by repeat (first | refine busyH_app ?_ | exact ⟨_,_,rfl,by decide⟩))) (ask_beads (.inl rfl) (bad2 (.inr (.inr xb))))
 ·exact abad (k:=wCover) (us:=[M,A,wPlus,w1,B,wDash,w1,C]) (by refine str_list ?_; simp only [join_two,join_one,app_list,List.append_assoc]; rfl) (ov_cons (OkV.of (OkW.lit (by decide +kernel))) (ov_cons m (ov_cons a (ov_cons pl (ov_cons o1 (ov_cons b (ov_cons ds (ov_cons o1 (ov_cons c ov_nil))))))))) (by simp) (idle_of (by repeat (first | refine busyH_app ?_ | exact ⟨_,_,rfl,by decide⟩))) (ask_beads (.inl rfl) (af_of nd_two (al_step (ws:=[w1,B,wDash,w1,C,wPlus]) fun _ _ _ _ _ _=>al_step (ws:=[w1,C,wPlus]) fun _ _ _ _ _ z=>absurd z (by decide))))
 ·exact abad (k:=wReach) (us:=[M,A,wPlus,w2,B,wPlus,w1,A]) (by refine str_list ?_; simp only [join_two,join_one,app_list,List.append_assoc]; rfl) (ov_cons (OkV.of (OkW.lit (by decide +kernel))) (ov_cons m (ov_cons a (ov_cons pl (ov_cons o2 (ov_cons b (ov_cons pl (ov_cons o1 (ov_cons a ov_nil))))))))) (by simp) (idle_of (by repeat (first | refine busyH_app ?_ | exact ⟨_,_,rfl,by decide⟩))) (ask_beads (.inr rfl) (af_of nd_two (al_step (ws:=[w2,B,wPlus,w1,A,wPlus]) fun n _ n0 hk _ _=>al_step (ws:=[w1,A,wPlus]) fun m _ m0 hk2 _ _=>al_step fun _ _ _ _ hb _=>absurd (set_keep hk2 m0 (by rw [List.length_set]; exact List.length_replicate) (set_pos hk n0 List.length_replicate)) hb)))
 ·exact abad (k:=wCover) (us:=[M,A,wPlus,w1,B,wPlus,ones,C]) (by refine str_list ?_; simp only [join_two,join_one,app_list,List.append_assoc]; rfl) (ov_cons (OkV.of (OkW.lit (by decide +kernel))) (ov_cons m (ov_cons a (ov_cons pl (ov_cons o1 (ov_cons b (ov_cons pl (ov_cons oo (ov_cons c ov_nil))))))))) (by simp) (idle_of (by repeat (first | refine busyH_app ?_ | exact ⟨_,_,rfl,by decide⟩))) (ask_beads (.inl rfl) (af_of nd_two (al_step (ws:=[w1,B,wPlus,ones,C,wPlus]) fun _ _ _ _ _ _=>al_step (ws:=[ones,C,wPlus]) fun _ _ _ _ _ _=>al_step fun _ e _ _ _ _=>by rw [cO] at e; cases e)))
end L2
namespace L2
open PySem PySem.Spec PyProof.Rows PySem.SeqAt
def toldG (M A B C EB DA : Str) : List (List Str) := [[Str.ofString "most", Str.ofString "cover", Str.ofString "cover ", Str.ofString "reach", Str.ofString "reach ", Str.ofString " cover -", Str.ofString "cover - ", Str.ofString "cover  -", Str.ofString "cover - -"],
 [Str.ofString "cover -1 " ++ A, Str.ofString "cover 0 " ++ A, Str.ofString "reach 0" ++ (M ++ Str.ofString " " ++ A), Str.ofString "cover +" ++ (M ++ Str.ofString " " ++ A)],
 [Str.ofString "cover " ++ (M ++ Str.ofString " " ++ A) ++ Str.ofString " +", Str.ofString "cover + " ++ (M ++ Str.ofString " " ++ A), Str.ofString "reach " ++ (M ++ Str.ofString " " ++ A) ++ Str.ofString " + " ++ (M ++ Str.ofString " " ++ A)],
 [Str.ofString "cover " ++ (M ++ Str.ofString " " ++ A) ++ Str.ofString " " ++ (M ++ Str.ofString " " ++ A), Str.ofString "reach " ++ (M ++ Str.ofString " " ++ A) ++ Str.ofString " - " ++ (M ++ Str.ofString " " ++ A), Str.ofString "cover  " ++ (M ++ Str.ofString " " ++ A)],
 [Str.ofString "cover " ++ (M ++ Str.ofString " " ++ A) ++ Str.ofString " ", Str.ofString "cover " ++ M ++ Str.ofString "  " ++ A, Str.ofString "reach " ++ A ++ Str.ofString " " ++ M],
 [Str.ofString "cover " ++ M, Str.ofString "cover " ++ A, Str.ofString "reach " ++ M ++ Str.ofString " xyzzy", Str.ofString "Cover -"],
 [Str.ofString "COVER " ++ (M ++ Str.ofString " " ++ A), Str.ofString "covers -", Str.ofString "reach\t-", Str.ofString "most ", Str.ofString "most xyzzy"],
 [Str.ofString "most " ++ A ++ Str.ofString " " ++ A, Str.ofString "most " ++ M, Str.ofString "ever", Str.ofString "ever xyzzy", Str.ofString "stick " ++ A],
 [Str.ofString "ever " ++ EB, Str.ofString "most " ++ DA, Str.ofString "stick ", Str.ofString "sticks"],
 [Str.ofString "cover " ++ ones ++ Str.ofString " " ++ A, Str.ofString "reach 1_0 " ++ A, Str.ofString "cover 1\t" ++ A, Str.ofString " ", Str.ofString "\t", Str.ofString " # stick"],
 [Str.ofString "cover " ++ (M ++ Str.ofString " " ++ A) ++ Str.ofString " + 0 " ++ B, Str.ofString "reach " ++ (M ++ Str.ofString " " ++ A) ++ Str.ofString " + 01 " ++ B],
 [Str.ofString "cover " ++ (M ++ Str.ofString " " ++ A) ++ Str.ofString " + 1 xyzzy", Str.ofString "\t# stick"],
 [Str.ofString "cover " ++ (M ++ Str.ofString " " ++ A) ++ Str.ofString " + 1 " ++ B ++ Str.ofString " - 1 " ++ C],
 [Str.ofString "reach " ++ (M ++ Str.ofString " " ++ A) ++ Str.ofString " + 2 " ++ B ++ Str.ofString " + 1 " ++ A],
 [Str.ofString "cover " ++ (M ++ Str.ofString " " ++ A) ++ Str.ofString " + 1 " ++ B ++ Str.ofString " + " ++ ones ++ Str.ofString " " ++ C]]
theorem told_bad {N : NetV} (ok : N.Ok) {m : Nat} {A B C EB DA : Str} (m1 : 1 ≤ m) (m9 : (m : Int) < 10 ^ 10) (okA : okName A = true) (okB : okName B = true) (okC : okName C = true) (okE : okName EB = true) (okD : okName DA = true) (xb : wXy ∉ N.bowls) (xd : wXy ∉ N.doors) (ebd : EB ∉ N.doors) (dab : DA ∉ N.bowls) : ∀ r ∈ (toldG (txI (m : Int)) A B C EB DA).flatten,BadA N r:=fun r hr=>by
 have sy:=symA_bad ok m1 m9 okA okB okC okE okD xb xd ebd dab
 have li:=litA_bad ok
 obtain ⟨g,hg,hr⟩:=List.mem_flatten.mp hr
 unfold toldG at hg
 generalize txI (m : Int) = M at sy hg
 simp only [List.mem_cons,List.not_mem_nil,or_false] at hg
 rcases hg with rfl | rfl | rfl | rfl | rfl | rfl | rfl | rfl | rfl | rfl | rfl | rfl | rfl | rfl | rfl <;> simp only [List.mem_cons,List.not_mem_nil,or_false] at hr
 ·rcases hr with rfl | rfl | rfl | rfl | rfl | rfl | rfl | rfl | rfl
  ·exact li _ (List.mem_of_getElem? (i:=0) rfl)
  ·exact li _ (List.mem_of_getElem? (i:=1) rfl)
  ·exact li _ (List.mem_of_getElem? (i:=2) rfl)
  ·exact li _ (List.mem_of_getElem? (i:=3) rfl)
  ·exact li _ (List.mem_of_getElem? (i:=4) rfl)
  ·exact li _ (List.mem_of_getElem? (i:=5) rfl)
  ·exact li _ (List.mem_of_getElem? (i:=6) rfl)
  ·exact li _ (List.mem_of_getElem? (i:=7) rfl)
  ·exact li _ (List.mem_of_getElem? (i:=8) rfl)
 ·rcases hr with rfl | rfl | rfl | rfl
  ·exact sy _ (List.mem_of_getElem? (i:=0) rfl)
  ·exact sy _ (List.mem_of_getElem? (i:=1) rfl)
  ·exact sy _ (List.mem_of_getElem? (i:=2) rfl)
  ·exact sy _ (List.mem_of_getElem? (i:=3) rfl)
 ·rcases hr with rfl | rfl | rfl
  ·exact sy _ (List.mem_of_getElem? (i:=4) rfl)
  ·exact sy _ (List.mem_of_getElem? (i:=5) rfl)
  ·exact sy _ (List.mem_of_getElem? (i:=6) rfl)
 ·rcases hr with rfl | rfl | rfl
  ·exact sy _ (List.mem_of_getElem? (i:=7) rfl)
  ·exact sy _ (List.mem_of_getElem? (i:=8) rfl)
  ·exact sy _ (List.mem_of_getElem? (i:=9) rfl)
 ·rcases hr with rfl | rfl | rfl
  ·exact sy _ (List.mem_of_getElem? (i:=10) rfl)
  ·exact sy _ (List.mem_of_getElem? (i:=11) rfl)
  ·exact sy _ (List.mem_of_getElem? (i:=12) rfl)
 ·rcases hr with rfl | rfl | rfl | rfl
  ·exact sy _ (List.mem_of_getElem? (i:=13) rfl)
  ·exact sy _ (List.mem_of_getElem? (i:=14) rfl)
  ·exact sy _ (List.mem_of_getElem? (i:=15) rfl)
  ·exact li _ (List.mem_of_getElem? (i:=9) rfl)
 ·rcases hr with rfl | rfl | rfl | rfl | rfl
  ·exact sy _ (List.mem_of_getElem? (i:=16) rfl)
  ·exact li _ (List.mem_of_getElem? (i:=10) rfl)
  ·exact li _ (List.mem_of_getElem? (i:=11) rfl)
  ·exact li _ (List.mem_of_getElem? (i:=12) rfl)
  ·exact sy _ (List.mem_of_getElem? (i:=17) rfl)
 ·rcases hr with rfl | rfl | rfl | rfl | rfl
  ·exact sy _ (List.mem_of_getElem? (i:=18) rfl)
  ·exact sy _ (List.mem_of_getElem? (i:=19) rfl)
  ·exact li _ (List.mem_of_getElem? (i:=13) rfl)
  ·exact sy _ (List.mem_of_getElem? (i:=20) rfl)
  ·exact sy _ (List.mem_of_getElem? (i:=21) rfl)
 ·rcases hr with rfl | rfl | rfl | rfl
  ·exact sy _ (List.mem_of_getElem? (i:=22) rfl)
  ·exact sy _ (List.mem_of_getElem? (i:=23) rfl)
  ·exact li _ (List.mem_of_getElem? (i:=14) rfl)
  ·exact li _ (List.mem_of_getElem? (i:=15) rfl)
 ·rcases hr with rfl | rfl | rfl | rfl | rfl | rfl
  ·exact sy _ (List.mem_of_getElem? (i:=24) rfl)
  ·exact sy _ (List.mem_of_getElem? (i:=25) rfl)
  ·exact sy _ (List.mem_of_getElem? (i:=26) rfl)
  ·exact li _ (List.mem_of_getElem? (i:=16) rfl)
  ·exact li _ (List.mem_of_getElem? (i:=17) rfl)
  ·exact li _ (List.mem_of_getElem? (i:=18) rfl)
 ·rcases hr with rfl | rfl
  ·exact sy _ (List.mem_of_getElem? (i:=27) rfl)
  ·exact sy _ (List.mem_of_getElem? (i:=28) rfl)
 ·rcases hr with rfl | rfl
  ·exact sy _ (List.mem_of_getElem? (i:=29) rfl)
  ·exact li _ (List.mem_of_getElem? (i:=19) rfl)
 ·subst hr
  exact sy _ (List.mem_of_getElem? (i:=30) rfl)
 ·subst hr
  exact sy _ (List.mem_of_getElem? (i:=31) rfl)
 ·subst hr
  exact sy _ (List.mem_of_getElem? (i:=32) rfl)
theorem toldG_len (M A B C EB DA : Str) : (toldG M A B C EB DA).flatten.length = 53:=rfl
theorem apl {x y : Str} {a b : Nat} (hx : x.length ≤ a) (hy : y.length ≤ b) : (x ++ y).length ≤ a + b:=by
 rw [Str.length_append]
 exact Nat.add_le_add hx hy
theorem flat_nx {gs : List (List Str)} {i : Nat} (h : i < gs.length) : vstrs (gs.take (i + 1)).flatten = vstrs (gs.take i).flatten ++ vstrs (gs.getD i []):=by
 rw [List.take_add_one,List.getElem?_eq_getElem h,Option.toList_some,List.flatten_append,List.getD_eq_getElem?_getD,List.getElem?_eq_getElem h]
 show List.map _ (_ ++ (_ ++ [])) = List.map _ _ ++ List.map _ _
 rw [List.append_nil,List.map_append]
 rfl
section
variable {X : Cx}
def rMulT : R2:=fun x y H Q=>x = .str ⟨#[49]⟩∧y = .int 201∧Q (.str ones) H
theorem op_mulT : OpR X (binaryOp .Mult) rMulT:=by
 intro pins s σ H x y v u Q I rx ry h
 obtain ⟨rfl,rfl,q⟩:=h
 obtain ⟨t,rfl⟩:=rx
 obtain ⟨t',rfl⟩:=ry
 refine SB.mul ⟨by decide,fun h1 _=>by decide,fun _ _=>by decide⟩ fun t'' k=>?_
 rw [mul_one (by decide)]
 exact ⟨.str _,H,I.tok _,⟨_,rfl⟩,q⟩
end
end L2
namespace L2
open PySem PySem.Spec PyProof.Rows PySem.SeqAt
def RichA : AskV→Prop
 | .beads _ r=>r ≠ []
 | .place _ _=>True
 | .bare _=>True
theorem AskIn.layR {H : Hp} {a p : Addr} {ps : List Addr} {o : HO} : ∀ {v : AskV},AskIn H a v→RichA v→H p = some (.lst (ps.map V.ref))→AskIn (upd H p o) a v
 | .beads k r,⟨l,h1,h2⟩,g,hp=>by
  have n1 : a ≠ p:=fun z=>by rw [z,hp] at h1; cases h1
  have n2 : l ≠ p:=fun z=>by
   rw [z,hp] at h2
   have e : ps.map V.ref = vints r:=HO.lst.inj (Option.some.inj h2)
   have g : r ≠ []:=g
   cases r with
   | nil=>exact g rfl
   | cons c r=>exact refs_off ps c (vints r) e
  exact ⟨l,by rw [upd_ne n1]; exact h1,by rw [upd_ne n2]; exact h2⟩
 | .place k i,h,_,hp=>by
  have h : H a = some (.tup [.str k,.int (i : Int)]):=h
  have n1 : a ≠ p:=fun z=>by rw [z,hp] at h; cases h
  show upd H p o a = _
  rw [upd_ne n1]; exact h
 | .bare k,h,_,hp=>by
  have h : H a = some (.tup [.str k]):=h
  have n1 : a ≠ p:=fun z=>by rw [z,hp] at h; cases h
  show upd H p o a = _
  rw [upd_ne n1]; exact h
theorem asksP_same {H H' : Hp} {as : List Addr} {vs : List AskV} (P : Paired (AskIn H) as vs) (S : Same H H') : Paired (AskIn H') as vs:=Paired.mapP P fun _ _ h=>h.same S
theorem asksP_lay {H : Hp} {p : Addr} {ps : List Addr} {o : HO} : ∀ {as : List Addr} {vs : List AskV},Paired (AskIn H) as vs→(∀ v ∈ vs,RichA v)→H p = some (.lst (ps.map V.ref))→Paired (AskIn (upd H p o)) as vs
 | _,_,.nil,_,_=>.nil
 | _,_,.cons h t,r,hp=>.cons (h.layR (r _ (List.mem_cons_self ..)) hp) (asksP_lay t (fun v hv=>r v (List.mem_cons_of_mem _ hv)) hp)
theorem askL_len {bowls : List Str} : ∀ (n : Nat) (ws : List Str) (bag r : List Int),ws.length ≤ n→askL bowls bag ws = some r→r.length = bag.length
 | 0,ws,bag,r,hn,h=>by
  cases ws with
  | nil=>cases h; rfl
  | cons a b=>simp at hn
 | n + 1,ws,bag,r,hn,h=>by
  match ws,hn,h with
  | [],_,h=>cases h; rfl
  | [_],_,h=>cases h
  | [_,_],_,h=>cases h
  | a :: b :: c :: ws,hn,h =>
   have h : (match cntA a with | none=>none | some n=>if n = 0 ∨ plc bowls b = -1 ∨ 0 < bag.getD (plc bowls b).toNat 0 ∨ c ≠ wPlus then none else askL bowls (bag.set (plc bowls b).toNat (n : Int)) ws) = some r:=h
   cases e : cntA a with
   | none=>rw [e] at h; cases h
   | some m =>
    rw [e] at h
    try dsimp only at h
    split at h
    ·cases h
    ·have:=askL_len n ws _ r (by simp at hn; omega) h
     rwa [List.length_set] at this
theorem askF_len {bowls ws : List Str} {r : List Int} (h : askF bowls ws = some r) : r.length = bowls.length:=by
 unfold askF at h
 split at h
 ·cases h; simp
 ·split at h
  ·cases h
  ·have:=askL_len _ _ _ _ (Nat.le_refl _) h
   rwa [List.length_replicate] at this
theorem askR_rich {N : NetV} (ok : N.Ok) {ws : List Str} {v : AskV} (h : askR N ws = some v) : RichA v:=by
 cases ws with
 | nil=>cases h
 | cons k us =>
  rw [askR_cons] at h
  split at h
  ·cases e : askF N.bowls us with
   | none=>rw [e] at h; cases h
   | some r =>
    rw [e] at h
    cases h
    have l:=askF_len e
    have b1:=ok.b1
    show r ≠ []
    intro z
    rw [z] at l
    simp at l
    omega
  ·split at h
   ·split at h
    ·cases h; trivial
    ·cases h
   ·split at h
    ·split at h
     ·cases h; trivial
     ·cases h
    ·split at h
     ·cases h; trivial
     ·cases h
theorem asks_idle {N : NetV} {k : Nat} {r : Str} {rs : List Str} (h : idleF r = true) : asksF N k (r :: rs) = asksF N (k + 1) rs:=by
 show (if idleF r = true then _ else _) = _
 rw [if_pos h]
theorem asks_no {N : NetV} {k : Nat} {r : Str} {rs : List Str} (h : idleF r = false) (e : askR N (spl 32 r) = none) : asksF N k (r :: rs) = .inl k:=by
 show (if idleF r = true then _ else _) = _
 rw [if_neg (by rw [h]; decide),e]
def addA (vs : List AskV) : Sum Nat (List AskV)→Sum Nat (List AskV)
 | .inl m=>.inl m
 | .inr ws=>.inr (vs ++ ws)
theorem asks_go {N : NetV} {k : Nat} {r : Str} {rs : List Str} {v : AskV} (h : idleF r = false) (e : askR N (spl 32 r) = some v) : asksF N k (r :: rs) = addA [v] (asksF N (k + 1) rs):=by
 show (if idleF r = true then _ else _) = _
 rw [if_neg (by rw [h]; decide),e]
 show (match asksF N (k + 1) rs with | .inl m=>Sum.inl m | .inr vs=>.inr (v :: vs)) = _
 cases asksF N (k + 1) rs <;> rfl
theorem addA_nil (z : Sum Nat (List AskV)) : addA [] z = z:=by cases z <;> rfl
theorem addA_add (xs ys : List AskV) (z : Sum Nat (List AskV)) : addA xs (addA ys z) = addA (xs ++ ys) z:=by
 cases z with
 | inl m=>rfl
 | inr w=>show Sum.inr _ = Sum.inr _; rw [List.append_assoc]
theorem told8 (M A B C EB DA EB' DA' : Str) : (toldG M A B C EB DA).take 8 = (toldG M A B C EB' DA').take 8:=by
 unfold toldG
 simp only [List.take_succ_cons,List.take_zero]
inductive rNeAskL (x : V) (y : V) (H : Hp) (Q : VK) : Prop
 | mk : ∀ (a b : Addr) (as bs : List Addr) (vs : List AskV),(x = .ref a)→(y = .ref b)→(H a = some (.lst (as.map V.ref)))→(H b = some (.lst (bs.map V.ref)))→(Paired (AskIn H) as vs)→(Paired (AskIn H) bs vs)→(Q (.bl false) H)→rNeAskL x y H Q
theorem op_neAskL {X : Cx} (hu : X.A.units + 2 < cLine) : OpR X (compareOp .NotEq) rNeAskL:=by
 intro pins s σ H x y v u Q I rx ry h
 obtain ⟨a,b,as,bs,vs,rfl,rfl,qa,qb,pa,pb,q⟩:=h
 cases rx
 cases ry
 have la:=pa.length
 have lb:=pb.length
 refine (rc_true I (by omega) (SqL.of qa) (SqL.of qb) (by rw [List.length_map,List.length_map]; omega) fun j x y u v hx hy ru rv=>?_).2 _ _ _ _ ⟨.bl _,H,I,rfl,q⟩
 obtain ⟨p1,hp1,rfl⟩:=refs_get hx
 obtain ⟨p2,hp2,rfl⟩:=refs_get hy
 obtain ⟨v1,hv1,h1⟩:=Paired.getL pa hp1
 obtain ⟨v2,hv2,h2⟩:=Paired.getL pb hp2
 rw [hv1] at hv2
 cases hv2
 cases ru
 cases rv
 exact eq_of_rc (ask_rc I (by rw [in1_units]; omega) h1 h2).1
end L2
namespace L2
open PySem PySem.Spec PyProof.Rows PySem.SeqAt
theorem pow_60 : (Builtin.Int.intBits 10 : Int) * 60 ≤ 2 ^ 27:=by decide +kernel
structure RowA (N : NetV) (r : Str) (vs : List AskV) : Prop where
 tx : TxB 4000 r
 wd : ∀ w ∈ spl 32 r,w.length ≤ 1000
 is : (idleF r = true∧vs = []) ∨ ∃ v,idleF r = false∧askR N (spl 32 r) = some v∧vs = [v]
theorem rowA_of {N : NetV} {k : Str} {us : List Str} {v : AskV} (hk : k ∈ [wMost,wEver,wStick,wCover,wReach]) (hw : ∀ w ∈ us,OkV w) (hl : us.length ≤ 14) (no : askR N (k :: us) = some v) : RowA N (Str.join (sg 32) (k :: us)) [v]:=by
 have hk1:=lit_free hk
 have kb : ∀ w ∈ [wMost,wEver,wStick,wCover,wReach],∃ a l,w.cps.toList = a :: l∧a ≠ 35:=by
  intro w hw
  simp only [List.mem_cons,List.not_mem_nil,or_false] at hw
  rcases hw with rfl | rfl | rfl | rfl | rfl
  ·exact ⟨109,[111,115,116],by decide +kernel,by decide⟩
  ·exact ⟨101,[118,101,114],by decide +kernel,by decide⟩
  ·exact ⟨115,[116,105,99,107],by decide +kernel,by decide⟩
  ·exact ⟨99,[111,118,101,114],by decide +kernel,by decide⟩
  ·exact ⟨114,[101,97,99,104],by decide +kernel,by decide⟩
 have ov : ∀ w ∈ k :: us,OkV w:=ov_cons ⟨⟨fun c hc=>by have:=hk1.1 c hc; exact ⟨this.2.2.2,this.2.1⟩,Nat.le_trans hk1.2 (by decide)⟩,fun z=>(hk1.1 32 z).1 rfl⟩ hw
 refine ⟨?_,fun w h=>by rw [spl_of (by simp) fun w h=>(ov w h).fr] at h; exact Nat.le_trans (ov w h).tx.le (by decide),.inr ⟨v,?_,by rw [spl_of (by simp) fun w h=>(ov w h).fr]; exact no,rfl⟩⟩
 ·have h:=join_tx (s:=sg 32) (A:=1) (B:=220) ⟨by unfold okT; decide +kernel,by decide +kernel⟩ fun w h=>(ov w h).tx
  refine h.mono ?_
  rw [List.length_cons]
  omega
 ·obtain ⟨a,l,e,ha⟩:=kb k hk
  cases us with
  | nil=>exact busy_of (show (Str.join (sg 32) [k]).cps.toList = a :: l from e) ha
  | cons u us =>
   rw [join_cons (by simp)]
   refine busy_of (c:=a) (l:=l ++ ((sg 32).cps.toList ++ (Str.join (sg 32) (u :: us)).cps.toList)) ?_ ha
   rw [app_list,app_list,e,List.append_assoc]
   rfl
theorem ov_name {y : Str} (h : okName y = true) : OkV y:=⟨⟨(name_tx h).ok,Nat.le_trans (name_tx h).le (by decide)⟩,fun z=>(wFree_name h 32 z).1 rfl⟩
theorem rowA_beads {N : NetV} (ok : N.Ok) {k : Str} (hk : k = wCover ∨ k = wReach) {m i : Nat} (m1 : 1 ≤ m) (mb : bigB (m : Int)) (hi : i < N.bowls.length) : RowA N (k ++ Str.ofString " " ++ txI (m : Int) ++ Str.ofString " " ++ N.bowls.getD i Str.empty) [.beads k ((List.replicate N.bowls.length 0).set i (m : Int))] := by
 have eg : N.bowls.getD i Str.empty = N.bowls[i]:=by rw [List.getD_eq_getElem?_getD,List.getElem?_eq_getElem hi]; rfl
 have hp : plc N.bowls (N.bowls.getD i Str.empty) = (i : Int):=by rw [eg]; exact plc_nodup ok.bd hi
 have hc:=cntA_txI m mb.2
 have oy:=ov_name (ok.bn _ (getD_in (z:=Str.empty) hi))
 generalize N.bowls.getD i Str.empty = y at hp oy
 have e : k ++ Str.ofString " " ++ txI (m : Int) ++ Str.ofString " " ++ y = Str.join (sg 32) (k :: [txI (m : Int), y]) := by
  rw [join_cons (by simp),join_cons (by simp)]
  refine str_list ?_
  simp only [app_list,List.append_assoc]
  rfl
 rw [e]
 refine rowA_of (by rcases hk with h | h <;> rw [h] <;> simp) (ov_cons (OkV.num mb) (ov_cons oy ov_nil)) (by show 2 ≤ 14; decide) ?_
 rw [askR_cons,if_pos hk]
 have ea : askF N.bowls [txI (m : Int),y] = some ((List.replicate N.bowls.length 0).set i (m : Int)):=by
  unfold askF
  rw [if_neg nd_two,if_neg (by show ¬ (2 + 1) % 3 ≠ 0; decide)]
  show (match cntA (txI (m : Int)) with | none=>none | some n=>if n = 0 ∨ plc N.bowls y = -1 ∨ (0 : Int) < (List.replicate N.bowls.length (0 : Int)).getD (plc N.bowls y).toNat 0 ∨ wPlus ≠ wPlus then none else askL N.bowls ((List.replicate N.bowls.length 0).set (plc N.bowls y).toNat (n : Int)) []) = _
  rw [hc]
  try dsimp only
  rw [hp,Int.toNat_natCast,if_neg]
  ·rfl
  ·rintro (z | z | z | z)
   ·omega
   ·omega
   ·rw [List.getD_eq_getElem?_getD,List.getElem?_replicate] at z
    split at z <;> simp at z
   ·exact z rfl
 rw [ea]
 rfl
theorem rowA_dash {N : NetV} {k : Str} (hk : k = wCover ∨ k = wReach) : RowA N (k ++ Str.ofString " -") [.beads k (List.replicate N.bowls.length 0)] := by
 have e : k ++ Str.ofString " -" = Str.join (sg 32) (k :: [wDash]) := by
  rcases hk with h | h <;> rw [h] <;> decide +kernel
 rw [e]
 refine rowA_of (by rcases hk with h | h <;> rw [h] <;> simp) (ov_cons ⟨⟨by unfold okT; decide +kernel,by decide +kernel⟩,by decide +kernel⟩ ov_nil) (by decide) ?_
 rw [askR_cons,if_pos hk]
 unfold askF
 rw [if_pos rfl]
 rfl
theorem rowA_most {N : NetV} (ok : N.Ok) {i : Nat} (hi : i < N.bowls.length) : RowA N (Str.ofString "most " ++ N.bowls.getD i Str.empty) [.place wMost i] := by
 have eg : N.bowls.getD i Str.empty = N.bowls[i]:=by rw [List.getD_eq_getElem?_getD,List.getElem?_eq_getElem hi]; rfl
 have hp : plc N.bowls (N.bowls.getD i Str.empty) = (i : Int):=by rw [eg]; exact plc_nodup ok.bd hi
 have hin:=getD_in (z:=Str.empty) hi
 generalize N.bowls.getD i Str.empty = y at hp hin
 have e : Str.ofString "most " ++ y = Str.join (sg 32) (wMost :: [y]) := by
  rw [join_cons (by simp)]
  refine str_list ?_
  simp only [app_list,List.append_assoc]
  rfl
 rw [e]
 refine rowA_of (by simp) (ov_cons (ov_name (ok.bn _ hin)) ov_nil) (by show 1 ≤ 14; decide) ?_
 rw [askR_cons,if_neg (by decide),if_pos rfl,if_pos ⟨rfl,hin⟩]
 show some (AskV.place wMost (plc N.bowls y).toNat) = _
 rw [hp,Int.toNat_natCast]
theorem rowA_ever {N : NetV} (ok : N.Ok) {i : Nat} (hi : i < N.doors.length) : RowA N (Str.ofString "ever " ++ N.doors.getD i Str.empty) [.place wEver i] := by
 have eg : N.doors.getD i Str.empty = N.doors[i]:=by rw [List.getD_eq_getElem?_getD,List.getElem?_eq_getElem hi]; rfl
 have hp : plc N.doors (N.doors.getD i Str.empty) = (i : Int):=by rw [eg]; exact plc_nodup ok.dd hi
 have hin:=getD_in (z:=Str.empty) hi
 generalize N.doors.getD i Str.empty = y at hp hin
 have e : Str.ofString "ever " ++ y = Str.join (sg 32) (wEver :: [y]) := by
  rw [join_cons (by simp)]
  refine str_list ?_
  simp only [app_list,List.append_assoc]
  rfl
 rw [e]
 refine rowA_of (by simp) (ov_cons (ov_name (ok.dn _ hin)) ov_nil) (by show 1 ≤ 14; decide) ?_
 rw [askR_cons,if_neg (by decide),if_neg (by decide),if_pos rfl,if_pos ⟨rfl,hin⟩]
 show some (AskV.place wEver (plc N.doors y).toNat) = _
 rw [hp,Int.toNat_natCast]
theorem rowA_stick {N : NetV} : RowA N (Str.ofString "stick") [.bare wStick] := by
 have e : Str.ofString "stick" = Str.join (sg 32) (wStick :: []) := by decide +kernel
 rw [e]
 refine rowA_of (by simp) ov_nil (by decide) ?_
 rw [askR_cons,if_neg (by decide),if_neg (by decide),if_neg (by decide),if_pos ⟨rfl,rfl⟩]
def idleL : List Str := [Str.ofString "", Str.ofString "#", Str.ofString "# stick", Str.ofString "#cover 0"]
theorem idleL_all : idleL.all (fun r=>idleF r && r.cps.toList.all (fun c=>decide (c < 128) && decide (c ≠ 10)) && decide (r.length ≤ 1000)) = true:=by decide +kernel
theorem rowA_idle {N : NetV} {r : Str} (h : r ∈ idleL) : RowA N r []:=by
 have:=List.all_eq_true.mp idleL_all r h
 rw [Bool.and_eq_true,Bool.and_eq_true,decide_eq_true_eq] at this
 obtain ⟨⟨h1,h2⟩,h3⟩:=this
 refine ⟨⟨fun c hc=>?_,Nat.le_trans h3 (by decide)⟩,fun w hw=>Nat.le_trans (spl_part 32 r w hw) h3,.inl ⟨h1,rfl⟩⟩
 have:=List.all_eq_true.mp h2 c hc
 rw [Bool.and_eq_true,decide_eq_true_eq,decide_eq_true_eq] at this
 exact this
theorem RowA.rich {N : NetV} (ok : N.Ok) {r : Str} {vs : List AskV} (h : RowA N r vs) : ∀ v ∈ vs,RichA v:=fun v hv=>by
 rcases h.is with ⟨_,e⟩ | ⟨w,_,e1,e⟩
 ·rw [e] at hv; cases hv
 ·rw [e] at hv
  rw [List.mem_singleton.mp hv]
  exact askR_rich ok e1
theorem asks_rows {N : NetV} : ∀ {rows : List Str} {vss : List (List AskV)} (k : Nat) (tl : List Str),Paired (RowA N) rows vss→asksF N k (rows ++ tl) = addA vss.flatten (asksF N (k + rows.length) tl)
 | _,_,k,tl,.nil=>by rw [List.nil_append,List.flatten_nil,addA_nil]; rfl
 | _,_,k,tl,.cons (l₁:=rs) (l₂:=vss) (a:=r) (b:=vs) h t=>by
  have ih:=asks_rows (k + 1) tl t
  rw [List.cons_append,List.flatten_cons,← addA_add,List.length_cons,show k + (rs.length + 1) = k + 1 + rs.length by omega,← ih]
  rcases h.is with ⟨e1,e2⟩ | ⟨v,e1,e2,e3⟩
  ·rw [asks_idle e1,e2,addA_nil]
  ·rw [asks_go e1 e2,e3]
end L2
namespace L2
open PySem PySem.Spec PyProof.Rows PySem.SeqAt
section
variable {X : Cx} {c : Expr} {a b : List Stmt} {pos : Pos} {tc : TT} {ta tb : Ends→XK→St→Hp→Prop}
theorem pb_if (hc : PT X.nox c tc) (ha : PB X a ta) (hb : PB X b tb) : PB X [.If c a b pos] (fun D E σ H=>tc σ H fun d H1=>if d = true then ta D E σ H1 else tb D E σ H1):=by
 intro pins s σ H D E I h
 refine wpAny_execs_cons (wpAny_mono (Q:=SP X pins D) (wpAny_If (wpAny_mono (Q:=TP X.nox pins σ fun d H1=>if d = true then ta D E σ H1 else tb D E σ H1) (hc pins s σ H _ (I.wish _) h) (fun d s1 q=>?_) fun _ _ z=>False.elim z)) (fun fl s1 q=>?_) fun _ _ z=>z)
 ·obtain ⟨H1,I1,q1⟩:=q
  cases d with
  | true=>exact ha pins s1 σ H1 D E I1.unwish q1
  | false=>exact hb pins s1 σ H1 D E I1.unwish q1
 ·cases fl with
  | next=>exact wpAny_execs_nil q
  | ret v=>exact q
  | brk=>exact q
  | cont=>exact q
end
theorem kit_sixA {K : PySem.W.Frag} {t a b c d e f : Value} (h1 : PySem.W.kitOne K t a = some false) (h2 : PySem.W.kitOne K t b = some false) (h3 : PySem.W.kitOne K t c = some false) (h4 : PySem.W.kitOne K t d = some false) (h5 : PySem.W.kitOne K t e = some false) (h6 : PySem.W.kitOne K t f = some false) : PySem.W.kitAny K t [a,b,c,d,e,f] = some false:=by
 simp only [PySem.W.kitAny,h1,h2,h3,h4,h5,h6]
end L2
namespace L2
open PySem PySem.Spec PyProof.Rows PySem.SeqAt
theorem AskIn.layS {H : Hp} {a p : Addr} {ys : List Str} {o : HO} : ∀ {v : AskV},AskIn H a v→RichA v→H p = some (.lst (vstrs ys))→AskIn (upd H p o) a v
 | .beads k r,⟨l,h1,h2⟩,g,hp=>by
  have n1 : a ≠ p:=fun z=>by rw [z,hp] at h1; cases h1
  have n2 : l ≠ p:=fun z=>by
   rw [z,hp] at h2
   have e : vstrs ys = vints r:=HO.lst.inj (Option.some.inj h2)
   have g : r ≠ []:=g
   cases r with
   | nil=>exact g rfl
   | cons c r =>
    cases ys with
    | nil=>cases e
    | cons y ys=>exact absurd (List.cons.inj e).1 (fun z=>by cases z)
  exact ⟨l,by rw [upd_ne n1]; exact h1,by rw [upd_ne n2]; exact h2⟩
 | .place k i,h,_,hp=>by
  have h : H a = some (.tup [.str k,.int (i : Int)]):=h
  have n1 : a ≠ p:=fun z=>by rw [z,hp] at h; cases h
  show upd H p o a = _
  rw [upd_ne n1]; exact h
 | .bare k,h,_,hp=>by
  have h : H a = some (.tup [.str k]):=h
  have n1 : a ≠ p:=fun z=>by rw [z,hp] at h; cases h
  show upd H p o a = _
  rw [upd_ne n1]; exact h
theorem asksP_layS {H : Hp} {p : Addr} {ys : List Str} {o : HO} : ∀ {as : List Addr} {vs : List AskV},Paired (AskIn H) as vs→(∀ v ∈ vs,RichA v)→H p = some (.lst (vstrs ys))→Paired (AskIn (upd H p o)) as vs
 | _,_,.nil,_,_=>.nil
 | _,_,.cons h t,r,hp=>.cons (h.layS (r _ (List.mem_cons_self ..)) hp) (asksP_layS t (fun v hv=>r v (List.mem_cons_of_mem _ hv)) hp)
theorem rows_rich {N : NetV} (ok : N.Ok) : ∀ {R : List Str} {vss : List (List AskV)},Paired (RowA N) R vss→∀ v ∈ vss.flatten,RichA v
 | _,_,.nil,v,hv=>(nomatch hv)
 | _,_,.cons h t,v,hv=>by
  rw [List.flatten_cons] at hv
  rcases List.mem_append.mp hv with z | z
  ·exact h.rich ok v z
  ·exact rows_rich ok t v z
theorem paired_app {α β : Type} {F : α→β→Prop} : ∀ {l : List α} {m : List β} {l' : List α} {m' : List β},Paired F l m→Paired F l' m'→Paired F (l ++ l') (m ++ m')
 | _,_,_,_,.nil,h=>h
 | _,_,_,_,.cons r t,h=>.cons r (paired_app t h)
structure LoopA (N : NetV) (H : Hp) (pr pa : Addr) (bb : Nat) (RS : List Str) (as : List Addr) : Prop where
 hr : H pr = some (.lst (vstrs RS))
 ha : H pa = some (.lst (as.map V.ref))
 tx : ∀ r ∈ RS,TxB 4000 r∧∀ w ∈ spl 32 r,w.length ≤ 1000
 ex : ∃ (R0 R1 : List Str) (vss : List (List AskV)),RS = R0 ++ R1∧Paired (RowA N) R0 vss∧Paired (AskIn H) as vss.flatten∧((bb = 0∧R1 = []) ∨ ∃ r T,R1 = r :: T∧BadA N r∧bb = R0.length + 1)
theorem LoopA.same {N : NetV} {H H' : Hp} {pr pa : Addr} {bb : Nat} {RS : List Str} {as : List Addr} (L : LoopA N H pr pa bb RS as) (S : Same H H') : LoopA N H' pr pa bb RS as:=by
 obtain ⟨h1,h2,h3,R0,R1,vss,e1,e2,e3,e4⟩:=L
 exact ⟨S _ _ h1,S _ _ h2,h3,R0,R1,vss,e1,e2,asksP_same e3 S,e4⟩
theorem LoopA.bad {N : NetV} (ok : N.Ok) {H : Hp} {pr pa : Addr} {bb : Nat} {RS : List Str} {as : List Addr} {r : Str} (L : LoopA N H pr pa bb RS as) (np : pr ≠ pa) (hb : BadA N r) : LoopA N (upd H pr (.lst (vstrs (RS ++ [r])))) pr pa (if bb = 0 then RS.length + 1 else bb) (RS ++ [r]) as:=by
 obtain ⟨h1,h2,h3,R0,R1,vss,e1,e2,e3,e4⟩:=L
 refine ⟨upd_same,by rw [upd_ne (Ne.symm np)]; exact h2,mem_end h3 ⟨hb.tx,hb.wd⟩,R0,R1 ++ [r],vss,by rw [e1,List.append_assoc],e2,asksP_layS e3 (rows_rich ok e2) h1,.inr ?_⟩
 rcases e4 with ⟨z,e⟩ | ⟨r0,T,e,b0,z⟩
 ·exact ⟨r,[],by rw [e]; rfl,hb,by rw [if_pos z,e1,e,List.append_nil]⟩
 ·exact ⟨r0,T ++ [r],by rw [e]; rfl,b0,by rw [if_neg (by omega)]; exact z⟩
theorem LoopA.late {N : NetV} (ok : N.Ok) {H : Hp} {pr pa : Addr} {bb : Nat} {RS : List Str} {as : List Addr} {r : Str} {vs : List AskV} (L : LoopA N H pr pa bb RS as) (np : pr ≠ pa) (hb : RowA N r vs) (b0 : bb ≠ 0) : LoopA N (upd H pr (.lst (vstrs (RS ++ [r])))) pr pa bb (RS ++ [r]) as:=by
 obtain ⟨h1,h2,h3,R0,R1,vss,e1,e2,e3,e4⟩:=L
 refine ⟨upd_same,by rw [upd_ne (Ne.symm np)]; exact h2,mem_end h3 ⟨hb.tx,hb.wd⟩,R0,R1 ++ [r],vss,by rw [e1,List.append_assoc],e2,asksP_layS e3 (rows_rich ok e2) h1,.inr ?_⟩
 rcases e4 with ⟨z,e⟩ | ⟨r0,T,e,b0,z⟩
 ·exact absurd z b0
 ·exact ⟨r0,T ++ [r],by rw [e]; rfl,b0,z⟩
theorem LoopA.tell {N : NetV} (ok : N.Ok) {H : Hp} {pr pa : Addr} {RS : List Str} {as as' : List Addr} {r : Str} {vs : List AskV} (L : LoopA N H pr pa 0 RS as) (np : pr ≠ pa) (hb : RowA N r vs) (h' : Paired (AskIn H) as' vs) : LoopA N (upd (upd H pr (.lst (vstrs (RS ++ [r])))) pa (.lst ((as ++ as').map V.ref))) pr pa 0 (RS ++ [r]) (as ++ as'):=by
 obtain ⟨h1,h2,h3,R0,R1,vss,e1,e2,e3,e4⟩:=L
 have rr:=rows_rich ok e2
 have h2' : upd H pr (.lst (vstrs (RS ++ [r]))) pa = some (.lst (as.map V.ref)):=by rw [upd_ne (Ne.symm np)]; exact h2
 have q1:=asksP_lay (o:=.lst ((as ++ as').map V.ref)) (asksP_layS (o:=.lst (vstrs (RS ++ [r]))) e3 rr h1) rr h2'
 have q2:=asksP_lay (o:=.lst ((as ++ as').map V.ref)) (asksP_layS (o:=.lst (vstrs (RS ++ [r]))) h' (hb.rich ok) h1) (hb.rich ok) h2'
 rcases e4 with ⟨z,e⟩ | ⟨r0,T,e,b0,z⟩
 ·refine ⟨by rw [upd_ne np]; exact upd_same,upd_same,mem_end h3 ⟨hb.tx,hb.wd⟩,RS ++ [r],[],vss ++ [vs],by rw [List.append_nil],?_,?_,.inl ⟨rfl,rfl⟩⟩
  ·rw [e1,e,List.append_nil]; exact Paired.snoc e2 hb
  ·rw [List.flatten_append,List.flatten_cons,List.flatten_nil,List.append_nil]
   exact paired_app q1 q2
 ·exact absurd z (by omega)
theorem rows_text {RS : List Str} (tx : ∀ r ∈ RS,TxB 4000 r∧∀ w ∈ spl 32 r,w.length ≤ 1000) (hl : RS.length ≤ 63) : (Str.join (sg 10) RS).length ≤ 1000000∧(∀ r ∈ spl 10 (Str.join (sg 10) RS),r.length ≤ 100000∧okT r∧∀ w ∈ spl 32 r,w.length ≤ 1000)∧(spl 10 (Str.join (sg 10) RS)).length ≤ 70∧∀ (N : NetV) (k : Nat),asksF N k (spl 10 (Str.join (sg 10) RS)) = asksF N k RS:=by
 cases RS with
 | nil =>
  have e : spl 10 (Str.join (sg 10) []) = [wNone]:=by decide +kernel
  refine ⟨by decide +kernel,?_,by rw [e]; decide,fun N k=>?_⟩
  ·rw [e]
   intro r hr
   rw [List.mem_singleton.mp hr]
   exact ⟨by decide +kernel,by unfold okT; decide +kernel,by decide +kernel⟩
  ·rw [e,asks_idle (by decide +kernel)]
   rfl
 | cons r0 rs =>
  have e : spl 10 (Str.join (sg 10) (r0 :: rs)) = r0 :: rs:=spl_of (by simp) fun w h z=>((tx w h).1.ok 10 z).2 rfl
  refine ⟨?_,?_,by rw [e]; omega,fun N k=>by rw [e]⟩
  ·have h:=join_le (sep:=sg 10) (ys:=r0 :: rs) (B:=4000) fun r hr=>(tx r hr).1.le
   have o : (sg 10).length = 1:=by decide +kernel
   rw [o] at h
   refine Nat.le_trans h ?_
   have : (r0 :: rs).length * (4000 + 1) ≤ 63 * 4001:=Nat.mul_le_mul_right _ hl
   omega
  ·rw [e]
   exact fun r hr=>⟨Nat.le_trans (tx r hr).1.le (by decide),(tx r hr).1.ok,(tx r hr).2⟩
end L2
theorem PySem.W.Fast.tw10130397260557410427 : True:=trivial
theorem PySem.W.Fast.tw11445774700314550666 : True:=trivial
theorem PySem.W.Fast.tw1158208896689412500 : True:=trivial
theorem PySem.W.Fast.tw11653756072402080934 : True:=trivial
theorem PySem.W.Fast.tw11667636793669258938 : True:=trivial
theorem PySem.W.Fast.tw12058896908818971811 : True:=trivial
theorem PySem.W.Fast.tw12820164539370351939 : True:=trivial
theorem PySem.W.Fast.tw14684569559355740632 : True:=trivial
theorem PySem.W.Fast.tw15112665925606099567 : True:=trivial
theorem PySem.W.Fast.tw15489788576533711786 : True:=trivial
theorem PySem.W.Fast.tw1582327698880052409 : True:=trivial
theorem PySem.W.Fast.tw15932664215359164851 : True:=trivial
theorem PySem.W.Fast.tw16319311025715951927 : True:=trivial
theorem PySem.W.Fast.tw16471053052114674892 : True:=trivial
theorem PySem.W.Fast.tw17936945435802681441 : True:=trivial
theorem PySem.W.Fast.tw17986320726789637141 : True:=trivial
theorem PySem.W.Fast.tw17988743416668246907 : True:=trivial
theorem PySem.W.Fast.tw18102608402689761352 : True:=trivial
theorem PySem.W.Fast.tw3570683684037253269 : True:=trivial
theorem PySem.W.Fast.tw3663420233176908036 : True:=trivial
theorem PySem.W.Fast.tw4929499405211733280 : True:=trivial
theorem PySem.W.Fast.tw574519915060171417 : True:=trivial
theorem PySem.W.Fast.tw6094460640632779466 : True:=trivial
theorem PySem.W.Fast.tw6137466146922980456 : True:=trivial
theorem PySem.W.Fast.tw6672356089296599705 : True:=trivial
theorem PySem.W.Fast.tw7061369674361921265 : True:=trivial
theorem PySem.W.Fast.tw7717379740825738327 : True:=trivial
theorem PySem.W.Fast.tw8275884647257351992 : True:=trivial
theorem PySem.W.Fast.tw9311122510219948253 : True:=trivial
namespace Law
open PySem L2
def top (i : Nat) : Stmt:=PySem.Challenge.pw_beadhall_k79_texts_of_asks.main.body.getD i (.Pass ⟨0,0,0,0⟩)
abbrev s_is_name : Stmt:=top 17
abbrev s_refuse_bad_names : Stmt:=top 16
abbrev s_refuse_bad_bags : Stmt:=top 18
abbrev s_Net_init : Stmt:=inClass (top 15) 0
abbrev s_law_mixed : Stmt:=top 39
abbrev s_law_names : Stmt:=top 40
abbrev s_law_named_net : Stmt:=top 41
abbrev s_law_bowl_alone : Stmt:=top 43
abbrev s_law_door_alone : Stmt:=top 42
abbrev s_law_bad_rows : Stmt:=top 44
abbrev s_law_beads_row : Stmt:=top 45
abbrev s_law_row : Stmt:=top 46
abbrev s_read_count : Stmt:=top 24
abbrev s_read_ask_count : Stmt:=top 32
abbrev s_place_of : Stmt:=top 21
abbrev s_read_part : Stmt:=top 25
abbrev s_read_beads_ask : Stmt:=top 31
abbrev s_placed_ask : Stmt:=top 35
abbrev s_bowl_at : Stmt:=top 19
abbrev s_read_bowl_ask : Stmt:=top 33
abbrev s_read_bare_ask : Stmt:=top 36
abbrev s_door_at : Stmt:=top 20
abbrev s_read_door_ask : Stmt:=top 34
abbrev s_BadAsk_init : Stmt:=inClass (top 7) 0
abbrev s_ask_of_row : Stmt:=top 30
abbrev s_read_ask : Stmt:=top 28
abbrev s_is_idle : Stmt:=top 23
abbrev s_read_asks : Stmt:=top 29
abbrev s_law_refusal : Stmt:=top 47
abbrev s_law : Stmt:=top 48
inductive sp_is_name (K : PySem.W.Frag) (vs : List V) (H : Hp) (Q : VK) (z_3 : XK) : Prop
 | mk : ∀ (x : Str),(vs = [.str x])→(x.cps.all (· < 128) = true)→(x.length ≤ 1000)→(∀ H',Same H H'→Q (.bl (okName x)) H')→sp_is_name K vs H Q z_3
inductive sp_refuse_bad_names (K : PySem.W.Frag) (vs : List V) (H : Hp) (Q : VK) (z_3 : XK) : Prop
 | mk : ∀ (a : Addr) (ys : List Str) (lo hi : Int),(vs = [.ref a,.int lo,.int hi])→(SqL K H a (vstrs ys))→(lo ≤ ys.length)→(ys.length ≤ hi)→(ys.length ≤ 60)→((∀ y ∈ ys,okName y = true))→(ys.Nodup)→(∀ H',Same H H'→Q .non H')→sp_refuse_bad_names K vs H Q z_3
inductive sp_refuse_bad_bags (K : PySem.W.Frag) (vs : List V) (H : Hp) (Q : VK) (z_3 : XK) : Prop
 | mk : ∀ (a : Addr) (as : List Addr) (rs : List (List Int)) (n : Nat),(vs = [.ref a,.int rs.length,.int n])→(SqL K H a (as.map V.ref))→(Rows H as rs)→((∀ r ∈ rs,okBag n r))→(Q .non H)→sp_refuse_bad_bags K vs H Q z_3
inductive sp_Net_init (C : Addr) (K : PySem.W.Frag) (vs : List V) (H : Hp) (Q : VK) (z_3 : XK) : Prop
 | mk : ∀ (x dx pb pd pt pg pf : Addr) (ts gs : List Addr) (N : NetV),(vs = [.ref x,.ref pb,.ref pd,.ref pt,.ref pg,.ref pf])→(H x = some (.ins C dx []))→(N.Ok)→(SqL K H pb (vstrs N.bowls))→(SqL K H pd (vstrs N.doors))→(SqL K H pt (ts.map V.ref))→(Rows H ts N.takes)→(SqL K H pg (gs.map V.ref))→(Rows H gs N.gives)→(H pf = some (.lst (vints N.first)))→(∀ (b d t g f : Addr) (ts' gs' : List Addr) (H' : Hp),(∀ a ∈ [b,d,t,g,f] ++ ts' ++ gs',H a = none)→(∀ q o,H q = some o→q ≠ x→H' q = some o)→NetIn C H' x dx b d t g f ts' gs' N→Q .non H')→sp_Net_init C K vs H Q z_3
inductive sp_law_mixed (K : PySem.W.Frag) (vs : List V) (H : Hp) (Q : VK) (z_3 : XK) : Prop
 | mk : ∀ (a : Addr) (ns : List Int) (k : Nat),(vs = [.ref a,.int k])→(SqL K H a (vints ns))→(ns.length ≤ 63)→(k < 1000)→(∀ n : Int,0 ≤ n→n < 2147483647→Q (.int n) H)→sp_law_mixed K vs H Q z_3
inductive sp_law_names (K : PySem.W.Frag) (vs : List V) (H : Hp) (Q : VK) (z_3 : XK) : Prop
 | mk : ∀ (a : Addr) (ns : List Int) (k m : Nat),(vs = [.ref a,.int k,.int m])→(SqL K H a (vints ns))→(ns.length ≤ 63)→(k < 500)→(m ≤ 8)→(∀ (p : Addr) (ys : List Str) (H' : Hp),H p = none→Same H H'→H' p = some (.lst (vstrs ys))→ys.length = m→(∀ y ∈ ys,okName y = true)→ys.Nodup→wXy ∉ ys→Q (.ref p) H')→sp_law_names K vs H Q z_3
inductive sp_law_named_net (C : Addr) (K : PySem.W.Frag) (vs : List V) (H : Hp) (Q : VK) (z_3 : XK) : Prop
 | mk : ∀ (a : Addr) (ns : List Int),(vs = [.ref a])→(SqL K H a (vints ns))→(ns.length ≤ 63)→(∀ (x dx b d t g f : Addr) (ts gs : List Addr) (N : NetV) (H' : Hp),Same H H'→NetIn C H' x dx b d t g f ts gs N→N.Ok→wXy ∉ N.bowls→wXy ∉ N.doors→Q (.ref x) H')→sp_law_named_net C K vs H Q z_3
inductive sp_law_bowl_alone (C : Addr) (K : PySem.W.Frag) (vs : List V) (H : Hp) (Q : VK) (z_3 : XK) : Prop
 | mk : ∀ (x dx b d t g f : Addr) (ts gs : List Addr) (N : NetV),(vs = [.ref x])→(NetIn C H x dx b d t g f ts gs N)→(N.Ok)→(wXy ∉ N.doors)→(∀ (y : Str) (H' : Hp),okName y = true→y ∉ N.doors→Same H H'→Q (.str y) H')→sp_law_bowl_alone C K vs H Q z_3
inductive sp_law_door_alone (C : Addr) (K : PySem.W.Frag) (vs : List V) (H : Hp) (Q : VK) (z_3 : XK) : Prop
 | mk : ∀ (x dx b d t g f : Addr) (ts gs : List Addr) (N : NetV),(vs = [.ref x])→(NetIn C H x dx b d t g f ts gs N)→(N.Ok)→(wXy ∉ N.bowls)→(∀ (y : Str) (H' : Hp),okName y = true→y ∉ N.bowls→Same H H'→Q (.str y) H')→sp_law_door_alone C K vs H Q z_3
inductive sp_law_bad_rows (C : Addr) (K : PySem.W.Frag) (vs : List V) (H : Hp) (Q : VK) (z_3 : XK) : Prop
 | mk : ∀ (x dx b d t g f : Addr) (ts gs : List Addr) (N : NetV) (c : Int),(vs = [.ref x,.int c])→(NetIn C H x dx b d t g f ts gs N)→(N.Ok)→(wXy ∉ N.bowls)→(wXy ∉ N.doors)→(∀ (q : Addr) (l : List Str) (H' : Hp),Same H H'→H' q = some (.lst (vstrs l))→l.length = 53→(∀ r ∈ l,BadA N r)→Q (.ref q) H')→sp_law_bad_rows C K vs H Q z_3
inductive sp_law_beads_row (C : Addr) (K : PySem.W.Frag) (vs : List V) (H : Hp) (Q : VK) (z_3 : XK) : Prop
 | mk : ∀ (x dx b d t g f : Addr) (ts gs : List Addr) (N : NetV) (w : Int) (k m : Nat),(vs = [.ref x,.int w,.int (k : Int),.int (m : Int)])→(NetIn C H x dx b d t g f ts gs N)→(N.Ok)→((w = 0 ∨ w = 1))→(k < N.bowls.length)→(bigB (m : Int))→(∀ (r : Str) (v : AskV) (p l a : Addr) (H' : Hp),Same H H'→H l = none→H' p = some (.tup [.str r,.ref l])→H' l = some (.lst [.ref a])→AskIn H' a v→RowA N r [v]→Q (.ref p) H')→sp_law_beads_row C K vs H Q z_3
inductive sp_law_row (C : Addr) (K : PySem.W.Frag) (vs : List V) (H : Hp) (Q : VK) (z_3 : XK) : Prop
 | mk : ∀ (x dx b d t g f : Addr) (ts gs : List Addr) (N : NetV) (c : Int),(vs = [.ref x,.int c])→(NetIn C H x dx b d t g f ts gs N)→(N.Ok)→(wXy ∉ N.bowls)→(wXy ∉ N.doors)→((∀ (r : Str) (p : Addr) (H' : Hp),Same H H'→H' p = some (.tup [.str r,.non])→BadA N r→Q (.ref p) H'))→((∀ (r : Str) (vs' : List AskV) (p l : Addr) (as : List Addr) (H' : Hp),Same H H'→H l = none→H' p = some (.tup [.str r,.ref l])→H' l = some (.lst (as.map V.ref))→Paired (AskIn H') as vs'→RowA N r vs'→Q (.ref p) H'))→sp_law_row C K vs H Q z_3
inductive sp_read_count (K : PySem.W.Frag) (vs : List V) (H : Hp) (Q : VK) (z_3 : XK) : Prop
 | mk : ∀ (w : Str) (n : Nat),(vs = [.str w,.int n])→(okT w)→(w.length ≤ 1000)→(n ≤ 200)→(∀ H',Same H H'→Q (match cntF n w with | none=>.non | some c=>.int ((c : Nat) : Int)) H')→sp_read_count K vs H Q z_3
inductive sp_read_ask_count (K : PySem.W.Frag) (vs : List V) (H : Hp) (Q : VK) (z_3 : XK) : Prop
 | mk : ∀ (w : Str),(vs = [.str w])→(okT w)→(w.length ≤ 1000)→(∀ H',Same H H'→Q (match cntA w with | none=>.non | some c=>.int ((c : Nat) : Int)) H')→sp_read_ask_count K vs H Q z_3
inductive sp_place_of (K : PySem.W.Frag) (vs : List V) (H : Hp) (Q : VK) (z_3 : XK) : Prop
 | mk : ∀ (l : Addr) (ys : List Str) (y : Str),(vs = [.ref l,.str y])→(H l = some (.lst (vstrs ys)))→(Q (.int (plc ys y)) H)→sp_place_of K vs H Q z_3
inductive sp_read_part (fr : Addr) (K : PySem.W.Frag) (vs : List V) (H : Hp) (Q : VK) (z_3 : XK) : Prop
 | mk : ∀ (pb pw : Addr) (bowls ws : List Str),(vs = [.ref pb,.ref pw,.ref fr])→(H pb = some (.lst (vstrs bowls)))→(H pw = some (.lst (vstrs ws)))→((∀ w ∈ ws,okT w∧w.length ≤ 1000))→(ws.length ≤ 1000000)→(bowls.length ≤ 6)→((askF bowls ws = none→∀ H',Same H H'→Q .non H'))→((∀ t,askF bowls ws = some t→∀ (q : Addr) (H' : Hp),H q = none→Same H H'→H' q = some (.lst (vints t))→Q (.ref q) H'))→sp_read_part fr K vs H Q z_3
inductive sp_read_beads_ask (C fr : Addr) (K : PySem.W.Frag) (vs : List V) (H : Hp) (Q : VK) (z_3 : XK) : Prop
 | mk : ∀ (x dx b d t g f pw : Addr) (ts gs : List Addr) (N : NetV) (k : Str) (ws : List Str),(vs = [.ref x,.str k,.ref pw])→(NetIn C H x dx b d t g f ts gs N)→(N.Ok)→(H pw = some (.lst (vstrs ws)))→((∀ w ∈ ws,okT w∧w.length ≤ 1000))→(ws.length ≤ 1000000)→((askF N.bowls ws = none→∀ H',Same H H'→Q .non H'))→((∀ r,askF N.bowls ws = some r→∀ (a : Addr) (H' : Hp),Same H H'→AskIn H' a (.beads k r)→Q (.ref a) H'))→sp_read_beads_ask C fr K vs H Q z_3
inductive sp_placed_ask (K : PySem.W.Frag) (vs : List V) (H : Hp) (Q : VK) (z_3 : XK) : Prop
 | mk : ∀ (k : Str) (i : Int),(vs = [.str k,.int i])→((i = -1→∀ H',Same H H'→Q .non H'))→((i ≠ -1→∀ (a : Addr) (H' : Hp),Same H H'→H' a = some (.tup [.str k,.int i])→Q (.ref a) H'))→sp_placed_ask K vs H Q z_3
inductive sp_bowl_at (C : Addr) (K : PySem.W.Frag) (vs : List V) (H : Hp) (Q : VK) (z_3 : XK) : Prop
 | mk : ∀ (x dx b d t g f : Addr) (ts gs : List Addr) (N : NetV) (y : Str),(vs = [.ref x,.str y])→(NetIn C H x dx b d t g f ts gs N)→(Q (.int (plc N.bowls y)) H)→sp_bowl_at C K vs H Q z_3
inductive sp_read_bowl_ask (C : Addr) (K : PySem.W.Frag) (vs : List V) (H : Hp) (Q : VK) (z_3 : XK) : Prop
 | mk : ∀ (x dx b d t g f pw : Addr) (ts gs : List Addr) (N : NetV) (k : Str) (us : List Str),(vs = [.ref x,.str k,.ref pw])→(NetIn C H x dx b d t g f ts gs N)→(H pw = some (.lst (vstrs us)))→((¬ (us.length = 1∧us.getD 0 wNone ∈ N.bowls)→∀ H',Same H H'→Q .non H'))→((us.length = 1∧us.getD 0 wNone ∈ N.bowls→∀ (a : Addr) (H' : Hp),Same H H'→AskIn H' a (.place k (plc N.bowls (us.getD 0 wNone)).toNat)→Q (.ref a) H'))→sp_read_bowl_ask C K vs H Q z_3
inductive sp_read_bare_ask (K : PySem.W.Frag) (vs : List V) (H : Hp) (Q : VK) (z_3 : XK) : Prop
 | mk : ∀ (v : V) (pw : Addr) (k : Str) (us : List Str),(vs = [v,.str k,.ref pw])→(H pw = some (.lst (vstrs us)))→((us ≠ []→∀ H',Same H H'→Q .non H'))→((us = []→∀ (a : Addr) (H' : Hp),Same H H'→AskIn H' a (.bare k)→Q (.ref a) H'))→sp_read_bare_ask K vs H Q z_3
inductive sp_door_at (C : Addr) (K : PySem.W.Frag) (vs : List V) (H : Hp) (Q : VK) (z_3 : XK) : Prop
 | mk : ∀ (x dx b d t g f : Addr) (ts gs : List Addr) (N : NetV) (y : Str),(vs = [.ref x,.str y])→(NetIn C H x dx b d t g f ts gs N)→(Q (.int (plc N.doors y)) H)→sp_door_at C K vs H Q z_3
inductive sp_read_door_ask (C : Addr) (K : PySem.W.Frag) (vs : List V) (H : Hp) (Q : VK) (z_3 : XK) : Prop
 | mk : ∀ (x dx b d t g f pw : Addr) (ts gs : List Addr) (N : NetV) (k : Str) (us : List Str),(vs = [.ref x,.str k,.ref pw])→(NetIn C H x dx b d t g f ts gs N)→(H pw = some (.lst (vstrs us)))→((¬ (us.length = 1∧us.getD 0 wNone ∈ N.doors)→∀ H',Same H H'→Q .non H'))→((us.length = 1∧us.getD 0 wNone ∈ N.doors→∀ (a : Addr) (H' : Hp),Same H H'→AskIn H' a (.place k (plc N.doors (us.getD 0 wNone)).toNat)→Q (.ref a) H'))→sp_read_door_ask C K vs H Q z_3
def sp_BadAsk_init (C : Addr) (K : PySem.W.Frag) : Sp := spXI C "row"
inductive sp_ask_of_row (C G : Addr) (K : PySem.W.Frag) (vs : List V) (H : Hp) (Q : VK) (E : XK) : Prop
 | mk : ∀ (x dx b d t g f : Addr) (ts gs : List Addr) (N : NetV) (r : Str) (m : Nat), (vs = [.ref x, .str r, .int (m : Int)]) → (NetIn C H x dx b d t g f ts gs N) → (N.Ok) → (r.length ≤ 100000) → (m ≤ 1000000) → ((∀ w ∈ spl 32 r, okT w ∧ w.length ≤ 1000)) → ((∀ v, askR N (spl 32 r) = some v → ∀ (a : Addr) (H' : Hp), Same H H' → AskIn H' a v → Q (.ref a) H')) → ((askR N (spl 32 r) = none → ∀ (e : Addr) (H' : Hp), Same H H' → H e = none → H' e = some (.xd [("row", .int (m : Int))]) → E (.ref G) (some e) H')) → sp_ask_of_row C G K vs H Q E
inductive sp_read_ask (C G : Addr) (K : PySem.W.Frag) (vs : List V) (H : Hp) (Q : VK) (E : XK) : Prop
 | mk : ∀ (x dx b d t g f : Addr) (ts gs : List Addr) (N : NetV) (r : Str), (vs = [.ref x, .str r]) → (NetIn C H x dx b d t g f ts gs N) → (N.Ok) → (r.length ≤ 100000) → ((∀ w ∈ spl 32 r, okT w ∧ w.length ≤ 1000)) → ((∀ v, askR N (spl 32 r) = some v → ∀ (a : Addr) (H' : Hp), Same H H' → AskIn H' a v → Q (.ref a) H')) → ((askR N (spl 32 r) = none → ∀ (e : Addr) (H' : Hp), Same H H' → H e = none → H' e = some (.xd [("row", .int 1)]) → E (.ref G) (some e) H')) → sp_read_ask C G K vs H Q E
inductive sp_is_idle (K : PySem.W.Frag) (vs : List V) (H : Hp) (Q : VK) (z_3 : XK) : Prop
 | mk : ∀ (r : Str),(vs = [.str r])→(Q (.bl (idleF r)) H)→sp_is_idle K vs H Q z_3
inductive sp_read_asks (C G : Addr) (K : PySem.W.Frag) (vs : List V) (H : Hp) (Q : VK) (E : XK) : Prop
 | mk : ∀ (x dx b d t g f : Addr) (ts gs : List Addr) (N : NetV) (z : Str), (vs = [.ref x, .str z]) → (NetIn C H x dx b d t g f ts gs N) → (N.Ok) → (z.length ≤ 1000000) → ((∀ r ∈ spl 10 z, r.length ≤ 100000 ∧ okT r ∧ ∀ w ∈ spl 32 r, w.length ≤ 1000)) → ((spl 10 z).length ≤ 70) → ((∀ vs', asksF N 1 (spl 10 z) = .inr vs' → ∀ (q : Addr) (as : List Addr) (H' : Hp), Same H H' → H' q = some (.lst (as.map V.ref)) → Paired (AskIn H') as vs' → Q (.ref q) H')) → ((∀ m : Nat, asksF N 1 (spl 10 z) = .inl m → ∀ (e : Addr) (H' : Hp), Same H H' → H e = none → H' e = some (.xd [("row", .int (m : Int))]) → E (.ref G) (some e) H')) → sp_read_asks C G K vs H Q E
inductive sp_law_refusal (C : Addr) (K : PySem.W.Frag) (vs : List V) (H : Hp) (Q : VK) (z_3 : XK) : Prop
 | mk : ∀ (x dx b d t g f : Addr) (ts gs : List Addr) (N : NetV) (z : Str) (sg : Bool) (m : Nat),(vs = [.ref x,.str z,.bl sg])→(NetIn C H x dx b d t g f ts gs N)→(N.Ok)→((sg = true→z.length ≤ 100000∧(∀ w ∈ spl 32 z,okT w∧w.length ≤ 1000)∧askR N (spl 32 z) = none∧m = 1))→((sg = false→z.length ≤ 1000000∧(∀ r ∈ spl 10 z,r.length ≤ 100000∧okT r∧∀ w ∈ spl 32 r,w.length ≤ 1000)∧(spl 10 z).length ≤ 70∧asksF N 1 (spl 10 z) = .inl m))→(∀ H',Same H H'→Q (.int (m : Int)) H')→sp_law_refusal C K vs H Q z_3
inductive sp_law (K : PySem.W.Frag) (vs : List V) (H : Hp) (Q : VK) (z_3 : XK) : Prop
 | mk : ∀ (a : Addr) (ns : List Int),(vs = [.ref a])→(SqL K H a (vints ns))→(ns.length ≤ 63)→(∀ H',Q (.bl true) H')→sp_law K vs H Q z_3
theorem kx1 (CX : CXT) (P : Program) (w : World) (K : PySem.W.Frag) (mg : Str→Option Value) (base : Heap) (N : List Str) (q : Str) (sc : Scope) (f : Addr) (cd : Value) (A : Around) (outer : List Env) (s : Shared) (H : Hp) (E : XK) : (cxOf CX P w K mg base N q sc f cd A outer s H E).K = K:=rfl
theorem kx2 (X : Cx) (N : List Str) (sc : Scope) (B : Blk) : (cxComp X N sc B).K = X.K:=rfl
theorem kx3 (X : Cx) (N : List Str) (sc : Scope) (B : Blk) : (cxCompC X N sc B).K = X.K:=rfl
set_option genInjectivity false in
set_option genSizeOf false in
structure Adr where
 f_is_name : Addr
 f_refuse_bad_names : Addr
 f_refuse_bad_bags : Addr
 f_Net_init : Addr
 f_law_mixed : Addr
 f_law_names : Addr
 f_law_named_net : Addr
 f_law_bowl_alone : Addr
 f_law_door_alone : Addr
 f_law_bad_rows : Addr
 f_law_beads_row : Addr
 f_law_row : Addr
 f_read_count : Addr
 f_read_ask_count : Addr
 f_place_of : Addr
 f_read_part : Addr
 f_read_beads_ask : Addr
 f_placed_ask : Addr
 f_bowl_at : Addr
 f_read_bowl_ask : Addr
 f_read_bare_ask : Addr
 f_door_at : Addr
 f_read_door_ask : Addr
 f_BadAsk_init : Addr
 f_ask_of_row : Addr
 f_read_ask : Addr
 f_is_idle : Addr
 f_read_asks : Addr
 f_law_refusal : Addr
 f_law : Addr
 C_Net : Addr
 C_HallError : Addr
 C_BadAsk : Addr
 C_BadNet : Addr
 C_BadPaper : Addr
 C_BadText : Addr
 C_NoGo : Addr
 C_TooWide : Addr
 C_Unlike : Addr
 D_READERS : Addr
set_option genInjectivity false in
set_option genSizeOf false in
structure Fds where
 d_is_name : FuncData
 d_refuse_bad_names : FuncData
 d_refuse_bad_bags : FuncData
 d_Net_init : FuncData
 d_law_mixed : FuncData
 d_law_names : FuncData
 d_law_named_net : FuncData
 d_law_bowl_alone : FuncData
 d_law_door_alone : FuncData
 d_law_bad_rows : FuncData
 d_law_beads_row : FuncData
 d_law_row : FuncData
 d_read_count : FuncData
 d_read_ask_count : FuncData
 d_place_of : FuncData
 d_read_part : FuncData
 d_read_beads_ask : FuncData
 d_placed_ask : FuncData
 d_bowl_at : FuncData
 d_read_bowl_ask : FuncData
 d_read_bare_ask : FuncData
 d_door_at : FuncData
 d_read_door_ask : FuncData
 d_BadAsk_init : FuncData
 d_ask_of_row : FuncData
 d_read_ask : FuncData
 d_is_idle : FuncData
 d_read_asks : FuncData
 d_law_refusal : FuncData
 d_law : FuncData
structure Txt (w : World) (K : PySem.W.Frag) (mg : Str→Option Value) (AR : Adr) (FR : Fds) : Prop where
 F_is_name : Fun K "is_name" "is_name" s_is_name AR.f_is_name FR.d_is_name
 m_is_name : mg "is_name" = some (.ref AR.f_is_name)
 b_is_name : Binds K FR.d_is_name ["word"] []
 F_refuse_bad_names : Fun K "refuse_bad_names" "refuse_bad_names" s_refuse_bad_names AR.f_refuse_bad_names FR.d_refuse_bad_names
 m_refuse_bad_names : mg "refuse_bad_names" = some (.ref AR.f_refuse_bad_names)
 b_refuse_bad_names : Binds K FR.d_refuse_bad_names ["names", "least", "most"] []
 F_refuse_bad_bags : Fun K "refuse_bad_bags" "refuse_bad_bags" s_refuse_bad_bags AR.f_refuse_bad_bags FR.d_refuse_bad_bags
 m_refuse_bad_bags : mg "refuse_bad_bags" = some (.ref AR.f_refuse_bad_bags)
 b_refuse_bad_bags : Binds K FR.d_refuse_bad_bags ["bags", "many", "width"] []
 F_Net_init : Fun K "__init__" "Net.__init__" s_Net_init AR.f_Net_init FR.d_Net_init
 b_Net_init : Binds K FR.d_Net_init ["self", "bowls", "doors", "takes", "gives", "first"] []
 F_law_mixed : Fun K "_law_mixed" "_law_mixed" s_law_mixed AR.f_law_mixed FR.d_law_mixed
 m_law_mixed : mg "_law_mixed" = some (.ref AR.f_law_mixed)
 b_law_mixed : Binds K FR.d_law_mixed ["script", "k"] []
 F_law_names : Fun K "_law_names" "_law_names" s_law_names AR.f_law_names FR.d_law_names
 m_law_names : mg "_law_names" = some (.ref AR.f_law_names)
 b_law_names : Binds K FR.d_law_names ["script", "k", "many"] []
 F_law_named_net : Fun K "_law_named_net" "_law_named_net" s_law_named_net AR.f_law_named_net FR.d_law_named_net
 m_law_named_net : mg "_law_named_net" = some (.ref AR.f_law_named_net)
 b_law_named_net : Binds K FR.d_law_named_net ["script"] []
 F_law_bowl_alone : Fun K "_law_bowl_alone" "_law_bowl_alone" s_law_bowl_alone AR.f_law_bowl_alone FR.d_law_bowl_alone
 m_law_bowl_alone : mg "_law_bowl_alone" = some (.ref AR.f_law_bowl_alone)
 b_law_bowl_alone : Binds K FR.d_law_bowl_alone ["net"] []
 F_law_door_alone : Fun K "_law_door_alone" "_law_door_alone" s_law_door_alone AR.f_law_door_alone FR.d_law_door_alone
 m_law_door_alone : mg "_law_door_alone" = some (.ref AR.f_law_door_alone)
 b_law_door_alone : Binds K FR.d_law_door_alone ["net"] []
 F_law_bad_rows : Fun K "_law_bad_rows" "_law_bad_rows" s_law_bad_rows AR.f_law_bad_rows FR.d_law_bad_rows
 m_law_bad_rows : mg "_law_bad_rows" = some (.ref AR.f_law_bad_rows)
 b_law_bad_rows : Binds K FR.d_law_bad_rows ["net", "cell"] []
 F_law_beads_row : Fun K "_law_beads_row" "_law_beads_row" s_law_beads_row AR.f_law_beads_row FR.d_law_beads_row
 m_law_beads_row : mg "_law_beads_row" = some (.ref AR.f_law_beads_row)
 b_law_beads_row : Binds K FR.d_law_beads_row ["net", "way", "bowl", "many"] []
 F_law_row : Fun K "_law_row" "_law_row" s_law_row AR.f_law_row FR.d_law_row
 m_law_row : mg "_law_row" = some (.ref AR.f_law_row)
 b_law_row : Binds K FR.d_law_row ["net", "cell"] []
 F_read_count : Fun K "read_count" "read_count" s_read_count AR.f_read_count FR.d_read_count
 m_read_count : mg "read_count" = some (.ref AR.f_read_count)
 b_read_count : Binds K FR.d_read_count ["word", "figures"] []
 F_read_ask_count : Fun K "read_ask_count" "read_ask_count" s_read_ask_count AR.f_read_ask_count FR.d_read_ask_count
 m_read_ask_count : mg "read_ask_count" = some (.ref AR.f_read_ask_count)
 b_read_ask_count : Binds K FR.d_read_ask_count ["word"] []
 F_place_of : Fun K "place_of" "place_of" s_place_of AR.f_place_of FR.d_place_of
 m_place_of : mg "place_of" = some (.ref AR.f_place_of)
 b_place_of : Binds K FR.d_place_of ["names", "name"] []
 F_read_part : Fun K "read_part" "read_part" s_read_part AR.f_read_part FR.d_read_part
 m_read_part : mg "read_part" = some (.ref AR.f_read_part)
 b_read_part : Binds K FR.d_read_part ["bowls", "words", "read"] []
 F_read_beads_ask : Fun K "read_beads_ask" "read_beads_ask" s_read_beads_ask AR.f_read_beads_ask FR.d_read_beads_ask
 m_read_beads_ask : mg "read_beads_ask" = some (.ref AR.f_read_beads_ask)
 b_read_beads_ask : Binds K FR.d_read_beads_ask ["net", "kind", "words"] []
 F_placed_ask : Fun K "placed_ask" "placed_ask" s_placed_ask AR.f_placed_ask FR.d_placed_ask
 m_placed_ask : mg "placed_ask" = some (.ref AR.f_placed_ask)
 b_placed_ask : Binds K FR.d_placed_ask ["kind", "place"] []
 F_bowl_at : Fun K "bowl_at" "bowl_at" s_bowl_at AR.f_bowl_at FR.d_bowl_at
 m_bowl_at : mg "bowl_at" = some (.ref AR.f_bowl_at)
 b_bowl_at : Binds K FR.d_bowl_at ["net", "name"] []
 F_read_bowl_ask : Fun K "read_bowl_ask" "read_bowl_ask" s_read_bowl_ask AR.f_read_bowl_ask FR.d_read_bowl_ask
 m_read_bowl_ask : mg "read_bowl_ask" = some (.ref AR.f_read_bowl_ask)
 b_read_bowl_ask : Binds K FR.d_read_bowl_ask ["net", "kind", "words"] []
 F_read_bare_ask : Fun K "read_bare_ask" "read_bare_ask" s_read_bare_ask AR.f_read_bare_ask FR.d_read_bare_ask
 m_read_bare_ask : mg "read_bare_ask" = some (.ref AR.f_read_bare_ask)
 b_read_bare_ask : Binds K FR.d_read_bare_ask ["net", "kind", "words"] []
 F_door_at : Fun K "door_at" "door_at" s_door_at AR.f_door_at FR.d_door_at
 m_door_at : mg "door_at" = some (.ref AR.f_door_at)
 b_door_at : Binds K FR.d_door_at ["net", "name"] []
 F_read_door_ask : Fun K "read_door_ask" "read_door_ask" s_read_door_ask AR.f_read_door_ask FR.d_read_door_ask
 m_read_door_ask : mg "read_door_ask" = some (.ref AR.f_read_door_ask)
 b_read_door_ask : Binds K FR.d_read_door_ask ["net", "kind", "words"] []
 F_BadAsk_init : Fun K "__init__" "BadAsk.__init__" s_BadAsk_init AR.f_BadAsk_init FR.d_BadAsk_init
 b_BadAsk_init : Binds K FR.d_BadAsk_init ["self", "words", "row"] []
 F_ask_of_row : Fun K "ask_of_row" "ask_of_row" s_ask_of_row AR.f_ask_of_row FR.d_ask_of_row
 m_ask_of_row : mg "ask_of_row" = some (.ref AR.f_ask_of_row)
 b_ask_of_row : Binds K FR.d_ask_of_row ["net", "row", "number"] []
 F_read_ask : Fun K "read_ask" "read_ask" s_read_ask AR.f_read_ask FR.d_read_ask
 m_read_ask : mg "read_ask" = some (.ref AR.f_read_ask)
 b_read_ask : Binds K FR.d_read_ask ["net", "row"] []
 F_is_idle : Fun K "is_idle" "is_idle" s_is_idle AR.f_is_idle FR.d_is_idle
 m_is_idle : mg "is_idle" = some (.ref AR.f_is_idle)
 b_is_idle : Binds K FR.d_is_idle ["row"] []
 F_read_asks : Fun K "read_asks" "read_asks" s_read_asks AR.f_read_asks FR.d_read_asks
 m_read_asks : mg "read_asks" = some (.ref AR.f_read_asks)
 b_read_asks : Binds K FR.d_read_asks ["net", "text"] []
 F_law_refusal : Fun K "_law_refusal" "_law_refusal" s_law_refusal AR.f_law_refusal FR.d_law_refusal
 m_law_refusal : mg "_law_refusal" = some (.ref AR.f_law_refusal)
 b_law_refusal : Binds K FR.d_law_refusal ["net", "text", "single"] []
 F_law : Fun K "law" "law" s_law AR.f_law FR.d_law
 m_law : mg "law" = some (.ref AR.f_law)
 b_law : Binds K FR.d_law ["script"] []
 z_len : mg "len" = none
 z_all : mg "all" = none
 z_set : mg "set" = none
 z_list : mg "list" = none
 z_range : mg "range" = none
 z_str : mg "str" = none
 z_int : mg "int" = none
 z_enumerate : mg "enumerate" = none
 z_isinstance : mg "isinstance" = none
 z_ValueError : mg "ValueError" = none
 z_tuple : mg "tuple" = none
 cl_Net : Cls K AR.C_Net
 mC_Net : mg "Net" = some (.ref AR.C_Net)
 mk_Net : Mk K AR.C_Net AR.f_Net_init
 n_Net_bowls : NoAttr K AR.C_Net "bowls"
 n_Net_doors : NoAttr K AR.C_Net "doors"
 n_Net_takes : NoAttr K AR.C_Net "takes"
 n_Net_gives : NoAttr K AR.C_Net "gives"
 n_Net_first : NoAttr K AR.C_Net "first"
 mC_HallError : mg "HallError" = some (.ref AR.C_HallError)
 ec_HallError : ecIn K AR.C_HallError excMro = true
 xp_HallError : XPlain K AR.C_HallError excMro
 mC_BadAsk : mg "BadAsk" = some (.ref AR.C_BadAsk)
 ec_BadAsk : ecIn K AR.C_BadAsk (.ref AR.C_HallError :: excMro) = true
 xi_BadAsk : XIs K AR.C_BadAsk
 xs_BadAsk : XSet K AR.C_BadAsk
 xn_BadAsk : XInit K AR.C_BadAsk (.ref AR.C_HallError :: excMro) AR.f_BadAsk_init
 xa_BadAsk_row : NoAttr K AR.C_BadAsk "row"
 mC_BadNet : mg "BadNet" = some (.ref AR.C_BadNet)
 ec_BadNet : ecIn K AR.C_BadNet (.ref AR.C_HallError :: excMro) = true
 xp_BadNet : XPlain K AR.C_BadNet (.ref AR.C_HallError :: excMro)
 mC_BadPaper : mg "BadPaper" = some (.ref AR.C_BadPaper)
 ec_BadPaper : ecIn K AR.C_BadPaper (.ref AR.C_HallError :: excMro) = true
 xs_BadPaper : XSet K AR.C_BadPaper
 mC_BadText : mg "BadText" = some (.ref AR.C_BadText)
 ec_BadText : ecIn K AR.C_BadText (.ref AR.C_HallError :: excMro) = true
 xs_BadText : XSet K AR.C_BadText
 mC_NoGo : mg "NoGo" = some (.ref AR.C_NoGo)
 ec_NoGo : ecIn K AR.C_NoGo (.ref AR.C_HallError :: excMro) = true
 xs_NoGo : XSet K AR.C_NoGo
 mC_TooWide : mg "TooWide" = some (.ref AR.C_TooWide)
 ec_TooWide : ecIn K AR.C_TooWide (.ref AR.C_HallError :: excMro) = true
 xp_TooWide : XPlain K AR.C_TooWide (.ref AR.C_HallError :: excMro)
 mC_Unlike : mg "Unlike" = some (.ref AR.C_Unlike)
 ec_Unlike : ecIn K AR.C_Unlike (.ref AR.C_HallError :: excMro) = true
 xp_Unlike : XPlain K AR.C_Unlike (.ref AR.C_HallError :: excMro)
 xb_HallError : XBase K AR.C_HallError
 ne_BadNet_HallError : AR.C_BadNet ≠ AR.C_HallError
 ne_BadNet_BadAsk : AR.C_BadNet ≠ AR.C_BadAsk
 ne_BadPaper_HallError : AR.C_BadPaper ≠ AR.C_HallError
 ne_BadPaper_BadAsk : AR.C_BadPaper ≠ AR.C_BadAsk
 ne_BadText_HallError : AR.C_BadText ≠ AR.C_HallError
 ne_BadText_BadAsk : AR.C_BadText ≠ AR.C_BadAsk
 ne_NoGo_HallError : AR.C_NoGo ≠ AR.C_HallError
 ne_NoGo_BadAsk : AR.C_NoGo ≠ AR.C_BadAsk
 ne_TooWide_HallError : AR.C_TooWide ≠ AR.C_HallError
 ne_TooWide_BadAsk : AR.C_TooWide ≠ AR.C_BadAsk
 ne_Unlike_HallError : AR.C_Unlike ≠ AR.C_HallError
 ne_Unlike_BadAsk : AR.C_Unlike ≠ AR.C_BadAsk
 mD_READERS : mg "READERS" = some (.ref AR.D_READERS)
 dk_READERS : DctK w K AR.D_READERS [(Str.ofString "cover", AR.f_read_beads_ask), (Str.ofString "reach", AR.f_read_beads_ask), (Str.ofString "most", AR.f_read_bowl_ask), (Str.ofString "stick", AR.f_read_bare_ask), (Str.ofString "ever", AR.f_read_door_ask)]
 c_MOST_SIGNS : ∃ t, mg "MOST_SIGNS" = some (.int 8 t)
 c_MOST_BEADS : ∃ t, mg "MOST_BEADS" = some (.int 1000000000 t)
 c_LEAST_BOWLS : ∃ t, mg "LEAST_BOWLS" = some (.int 1 t)
 c_MOST_BOWLS : ∃ t, mg "MOST_BOWLS" = some (.int 6 t)
 c_MOST_DOORS : ∃ t, mg "MOST_DOORS" = some (.int 8 t)
 c_MOST_FIGURES : ∃ t, mg "MOST_FIGURES" = some (.int 200 t)
section
variable {P : Program} {w : World} {K : PySem.W.Frag} {mg : Str→Option Value} {base : Heap} {AR : Adr} {FR : Fds}
theorem sc_is_name : FnScope ["word"] ["word"] (defScope s_is_name) := ⟨rfl, rfl, rfl, by decide +kernel, rfl, by decide +kernel, by decide +kernel⟩
set_option maxHeartbeats 4000000 in
theorem ok_is_name (T : Txt w K mg AR FR) : FnOk P w K mg base CX0 1 AR.f_is_name FR.d_is_name ["word"] (sp_is_name K) := by
 obtain ⟨_,cc_MOST_SIGNS⟩:=T.c_MOST_SIGNS
 refine T.F_is_name.ok sc_is_name (fun vs H Q E h=>?_) (fun cdv A outer s H vs Q E hr h=>?_)
 ·obtain ⟨x,rfl,hx,hz,hQ⟩:=h
  rfl
 ·obtain ⟨x,rfl,hx,hz,hQ⟩:=h
  refine ⟨_, (pss_one (ps_ret (pe_and (pe_chain op_le op_le pe_int (pe_callB call_len_str (by rfl) T.z_len bt_len (pa_cons (pv 0) pa_nil)) (pe_glob (v := .int 8) (by rfl) cc_MOST_SIGNS ⟨_, rfl⟩)) (pe_one (pe_callB (call_all_list rfl) (by rfl) T.z_all bt_all (pa_cons (pe_comp (N' := ["sign"]) (nt := 1) (caps := []) _ _ (CompScope.of (by kernel_rfl)) (pi_str (pv 0)) (fun _ => (pg_nameC (i := 0) ["sign"] (by decide +kernel) (by rfl))) (fun _ => pts_nil) (fun _ => (pe_chain op_le_str op_le_str pe_str (pv 0) pe_str))) pa_nil)))))), ?_⟩
  try dsimp only [kx1,kx2,kx3,Cx.nox,Cx.wish]
  have hcs : x.cps.size = x.length:=rfl
  refine ⟨_,rfl,x,rfl,Nat.le_trans hz (by decide),_,_,rfl,rfl,_,rfl,?_⟩
  have key : ∀ (k : Bool) (H' : Hp),Same H H'→okName x = k→Q (.bl k) H':=fun k H' S e=>e ▸ hQ H' S
  refine iteD (fun h1=>?_) (fun h1=>?_)
  ·refine ⟨_,_,rfl,rfl,_,rfl,?_⟩
   refine iteD (fun h8=>?_) (fun h8=>?_)
   ·refine ⟨_,rfl,x,rfl,hx,?_⟩
    refine comp_strP (fun i zs σ H2=>(∃ v,σ = [v])∧Same H H2∧zs = ((x.cps.toList.take i).map okSign).map V.bl) ⟨⟨none,rfl⟩,Same.refl _,rfl⟩ ?_ ?_ ?_
    ·rintro i zs σ H2 hi ⟨_,S,rfl⟩
     rw [List.length_map,List.length_map,List.length_take]
     exact small70 (by omega)
    ·rintro B i c zs σ H2 hc ⟨⟨v,rfl⟩,S,rfl⟩
     try dsimp only [gName,tTrue]
     rw [if_pos rfl]
     have hc' : x.cps.toList[i]? = some c:=by simpa using hc
     have fin : ∀ k : Bool,okSign c = k→(((x.cps.toList.take i).map okSign).map V.bl ++ [V.bl k]) = ((x.cps.toList.take (i + 1)).map okSign).map V.bl:=fun k e=>by
      rw [List.take_add_one,hc',Option.toList_some,List.map_append,List.map_append,← e]
      rfl
     refine ⟨_,rfl,_,_,rfl,rfl,_,rfl,?_⟩
     have ea : (!decide ((⟨#[c]⟩ : Str).cps.toList < (Str.ofString "a").cps.toList)) = decide (97 ≤ c) := le_one
     have ez : (!decide ((Str.ofString "z").cps.toList < (⟨#[c]⟩ : Str).cps.toList)) = decide (c ≤ 122) := le_one
     rw [ea]
     refine iteD (fun g1=>?_) (fun g1=>?_)
     ·refine ⟨_,_,rfl,rfl,⟨_,rfl⟩,S,?_⟩
      rw [ez]
      exact fin _ (by unfold okSign; simp [g1])
     ·exact ⟨⟨_,rfl⟩,S,fin _ (by unfold okSign; simp [g1])⟩
    ·rintro zs σ H2 ⟨_,S,rfl⟩ p hp
     rw [← Array.length_toList,List.take_length]
     refine ⟨p,_,rfl,SqL.of upd_same,key _ _ (S.upd hp) ?_⟩
     rw [all_map_sign]
     unfold okName
     simp [show 1 ≤ x.length by omega,show x.length ≤ 8 by omega]
   ·refine key _ _ (Same.refl _) ?_
    unfold okName
    simp [show ¬ x.length ≤ 8 by omega]
  ·refine ⟨_,rfl,?_⟩
   refine iteF (key _ _ (Same.refl _) ?_)
   unfold okName
   simp [show ¬ 1 ≤ x.length by omega]
theorem sc_refuse_bad_names : FnScope ["names", "least", "most", "name"] ["names", "least", "most"] (defScope s_refuse_bad_names) := ⟨rfl, rfl, rfl, by decide +kernel, rfl, by decide +kernel, by decide +kernel⟩
set_option maxHeartbeats 4000000 in
theorem ok_refuse_bad_names (T : Txt w K mg AR FR) : FnOk P w K mg base CX0 2 AR.f_refuse_bad_names FR.d_refuse_bad_names ["names", "least", "most"] (sp_refuse_bad_names K) := by
 have G_is_name : FnOk P w K mg base CX0 1 AR.f_is_name FR.d_is_name _ (sp_is_name K):=ok_is_name T
 refine T.F_refuse_bad_names.ok sc_refuse_bad_names (fun vs H Q E h=>?_) (fun cdv A outer s H vs Q E hr h=>?_)
 ·obtain ⟨a,ys,lo,hi,rfl,ha,h1,h2,h6,hn,hd,hQ⟩:=h
  rfl
 ·obtain ⟨a,ys,lo,hi,rfl,ha,h1,h2,h6,hn,hd,hQ⟩:=h
  refine ⟨_,(pss_cons (ps_if (pt_not (pt_chain op_le op_le (pv 1) (pe_callB call_len_seq (by rfl) T.z_len bt_len (pa_cons (pv 0) pa_nil)) (pv 2))) (pss_one ps_never) pss_nil)
   (pss_cons (ps_for PassesOwn.never rfl (pi_list (pv 0)) (pg_name (i:=3) sc_refuse_bad_names.nd (by rfl) (Or.inl rfl))
   (pss_one (ps_if (pt_not (pt_val (pe_call G_is_name (hr.mono (by decide)) (by rfl) T.m_is_name T.F_is_name.kp T.b_is_name .nil pass0 (pa_cons (pv 3) pa_nil)))) (pss_one ps_never) pss_nil)))
   (pss_one (ps_if (pt_cmpR op_ne (pe_callB call_len_setS (by rfl) T.z_len bt_len (pa_cons (pe_callTy (call_set_strs rfl) (by rfl) T.z_set bt_set (pa_cons (pv 0) pa_nil)) pa_nil)) (pe_callB call_len_seq (by rfl) T.z_len bt_len (pa_cons (pv 0) pa_nil)) (nomark _)) (pss_one ps_never) pss_nil)))),?_⟩
  try dsimp only [kx1,kx2,kx3,Cx.nox,Cx.wish]
  have hL : (vstrs ys).length = ys.length:=List.length_map ..
  refine ⟨_,rfl,_,rfl,a,_,rfl,.inl ha,_,_,rfl,rfl,_,rfl,?_⟩
  refine iteD (fun _=>?_) (fun g=>absurd (by rw [hL]; omega) g)
  refine ⟨_,rfl,_,_,rfl,rfl,_,rfl,?_⟩
  refine iteND (fun g=>absurd (by rw [hL]; omega) g) (fun _=>?_)
  refine ⟨_,rfl,a,rfl,⟨_,ha⟩,for_list (K:=K) (a:=a) (xs:=vstrs ys) (fun i σ H2=>∃ o,σ = [some (.ref a),some (.int lo),some (.int hi),o]∧Same H H2) ⟨none,rfl,Same.refl _⟩ (fun i σ H2 _ hp4=>by obtain ⟨_,_,S⟩:=hp4; exact S.seq ha) ?_ ?_⟩
  ·rintro i x σ H2 hx ⟨o,rfl,S⟩
   obtain ⟨y,hy,rfl⟩:=strs_get hx
   have ok:=hn y (List.mem_of_getElem? hy)
   have ol : y.length ≤ 8:=by
    unfold okName at ok
    rw [Bool.and_eq_true,Bool.and_eq_true,decide_eq_true_eq,decide_eq_true_eq] at ok
    exact ok.1.2
   refine ⟨_,rfl,y,rfl,okName_ascii ok,by omega,fun H3 S3=>⟨_,rfl,?_⟩⟩
   rw [ok]
   refine iteF ?_
   exact ⟨_,rfl,S.trans S3⟩
  ·rintro σ H2 ⟨o,rfl,S⟩
   refine ⟨_,rfl,a,ys,rfl,S.seq ha,by omega,fun p hp=>?_⟩
   refine ⟨p,_,rfl,upd_same,_,rfl,a,_,rfl,.inl ((S.upd hp).seq ha),rfl,_,rfl,?_⟩
   refine iteNS (by rw [metS_all hd,hL]) ?_
   exact hQ _ (S.upd hp)
theorem sc_refuse_bad_bags : FnScope ["bags", "many", "width", "bag", "number"] ["bags", "many", "width"] (defScope s_refuse_bad_bags) := ⟨rfl, rfl, rfl, by decide +kernel, rfl, by decide +kernel, by decide +kernel⟩
set_option maxHeartbeats 4000000 in
theorem ok_refuse_bad_bags (T : Txt w K mg AR FR) : FnOk P w K mg base CX0 1 AR.f_refuse_bad_bags FR.d_refuse_bad_bags ["bags", "many", "width"] (sp_refuse_bad_bags K) := by
 obtain ⟨_,cc_MOST_BEADS⟩:=T.c_MOST_BEADS
 refine T.F_refuse_bad_bags.ok sc_refuse_bad_bags (fun vs H Q E h=>?_) (fun cdv A outer s H vs Q E hr h=>?_)
 ·obtain ⟨a,as,rs,n,rfl,ha,R,ok,hQ⟩:=h
  rfl
 ·obtain ⟨a,as,rs,n,rfl,ha,R,ok,hQ⟩:=h
  refine ⟨_,(pss_cons (ps_if (pt_cmpR op_ne (pe_callB call_len_seq (by rfl) T.z_len bt_len (pa_cons (pv 0) pa_nil)) (pv 1) (nomark _)) (pss_one ps_never) pss_nil)
   (pss_one (ps_for PassesOwn.never rfl (pi_list (pv 0)) (pg_name (i:=3) sc_refuse_bad_bags.nd (by rfl) (Or.inl rfl))
   (pss_cons (ps_if (pt_cmpR op_ne (pe_callB call_len_seq (by rfl) T.z_len bt_len (pa_cons (pv 3) pa_nil)) (pv 2) (nomark _)) (pss_one ps_never) pss_nil)
   (pss_one (ps_for PassesOwn.never rfl (pi_list (pv 3)) (pg_name (i:=4) sc_refuse_bad_bags.nd (by rfl) (Or.inl rfl))
   (pss_one (ps_if (pt_not (pt_chain op_le op_le pe_int (pv 4) (pe_glob (v:=.int 1000000000) (by rfl) cc_MOST_BEADS ⟨_,rfl⟩))) (pss_one ps_never) pss_nil)))))))),?_⟩
  try dsimp only [kx1,kx2,kx3,Cx.nox,Cx.wish]
  have hal:=R.length
  refine ⟨_,rfl,a,_,rfl,.inl ha,_,rfl,rfl,_,rfl,?_⟩
  refine iteNS (by rw [List.length_map,hal]) ?_
  refine ⟨_,rfl,a,rfl,⟨_,ha⟩,for_list (K:=K) (a:=a) (xs:=as.map V.ref) (fun i σ H2=>∃ o3 o4,σ = [some (.ref a),some (.int rs.length),some (.int n),o3,o4]∧H2 = H) ⟨none,none,rfl,rfl⟩ (fun i σ H2 _ hp4=>by obtain ⟨_,_,_,e⟩:=hp4; exact e ▸ ha) ?_ ?_⟩
  ·rintro i x σ H2 hx ⟨o3,o4,rfl,rfl⟩
   obtain ⟨b,hb1,rfl⟩:=refs_get hx
   obtain ⟨r,hr1,hb⟩:=Paired.getL R hb1
   obtain ⟨hrl,hrb⟩:=ok r (List.mem_of_getElem? hr1)
   refine ⟨_,rfl,b,_,rfl,.inl (SqL.of hb),_,rfl,rfl,_,rfl,?_⟩
   refine iteNS (by rw [ints_len,hrl]) ?_
   refine ⟨_,rfl,b,rfl,⟨_,SqL.of hb⟩,for_list (K:=K) (a:=b) (xs:=vints r) (fun i' σ H3=>∃ o4,σ = [some (.ref a),some (.int rs.length),some (.int n),some (.ref b),o4]∧H3 = H2) ⟨_,rfl,rfl⟩ (fun i σ H3 _ hp4=>by obtain ⟨_,_,e⟩:=hp4; exact e ▸ SqL.of hb) ?_ ?_⟩
   ·rintro i' y σ H3 hy ⟨o,rfl,rfl⟩
    obtain ⟨m,hm,rfl⟩:=ints_get hy
    obtain ⟨g1,g2⟩:=hrb m (List.mem_of_getElem? hm)
    refine ⟨_,rfl,_,_,rfl,rfl,_,rfl,?_⟩
    refine iteD (fun _=>?_) (fun g=>absurd g1 g)
    refine ⟨_,_,rfl,rfl,_,rfl,?_⟩
    refine iteND (fun g=>absurd g2 g) (fun _=>?_)
    exact ⟨_,rfl,rfl⟩
   ·rintro σ H3 ⟨o,rfl,rfl⟩
    exact ⟨_,_,rfl,rfl⟩
  ·rintro σ H2 ⟨o3,o4,rfl,rfl⟩
   exact hQ
theorem sc_Net_init : FnScope ["self", "bowls", "doors", "takes", "gives", "first"] ["self", "bowls", "doors", "takes", "gives", "first"] (defScope s_Net_init) := ⟨rfl, rfl, rfl, by decide +kernel, rfl, by decide +kernel, by decide +kernel⟩
set_option maxHeartbeats 4000000 in
theorem ok_Net_init (T : Txt w K mg AR FR) : FnOk P w K mg base CX0 3 AR.f_Net_init FR.d_Net_init ["self", "bowls", "doors", "takes", "gives", "first"] (sp_Net_init AR.C_Net K) := by
 obtain ⟨_,cc_LEAST_BOWLS⟩:=T.c_LEAST_BOWLS
 obtain ⟨_,cc_MOST_BOWLS⟩:=T.c_MOST_BOWLS
 obtain ⟨_,cc_MOST_DOORS⟩:=T.c_MOST_DOORS
 have G_refuse_bad_names : FnOk P w K mg base CX0 2 AR.f_refuse_bad_names FR.d_refuse_bad_names _ (sp_refuse_bad_names K):=ok_refuse_bad_names T
 have G_refuse_bad_bags : FnOk P w K mg base CX0 1 AR.f_refuse_bad_bags FR.d_refuse_bad_bags _ (sp_refuse_bad_bags K):=ok_refuse_bad_bags T
 refine T.F_Net_init.ok sc_Net_init (fun vs H Q E h=>?_) (fun cdv A outer s H vs Q E hr h=>?_)
 ·obtain ⟨x,dx,pb,pd,pt,pg,pf,ts,gs,N,rfl,hx,ok,hb,hd,ht,tr,hg,gr,hf,hQ⟩:=h
  rfl
 ·obtain ⟨x,dx,pb,pd,pt,pg,pf,ts,gs,N,rfl,hx,ok,hb,hd,ht,tr,hg,gr,hf,hQ⟩:=h
  refine ⟨_,(pss_cons (ps_expr (pe_call G_refuse_bad_names (hr.mono (by decide)) (by rfl) T.m_refuse_bad_names T.F_refuse_bad_names.kp T.b_refuse_bad_names .nil pass0 (pa_cons (pv 1) (pa_cons (pe_glob (v:=.int 1) (by rfl) cc_LEAST_BOWLS ⟨_,rfl⟩) (pa_cons (pe_glob (v:=.int 6) (by rfl) cc_MOST_BOWLS ⟨_,rfl⟩) pa_nil)))))
   (pss_cons (ps_expr (pe_call G_refuse_bad_names (hr.mono (by decide)) (by rfl) T.m_refuse_bad_names T.F_refuse_bad_names.kp T.b_refuse_bad_names .nil pass0 (pa_cons (pv 2) (pa_cons pe_int (pa_cons (pe_glob (v:=.int 8) (by rfl) cc_MOST_DOORS ⟨_,rfl⟩) pa_nil)))))
   (pss_cons (ps_expr (pe_call G_refuse_bad_bags (hr.mono (by decide)) (by rfl) T.m_refuse_bad_bags T.F_refuse_bad_bags.kp T.b_refuse_bad_bags .nil pass0 (pa_cons (pv 3) (pa_cons (pe_callB call_len_seq (by rfl) T.z_len bt_len (pa_cons (pv 2) pa_nil)) (pa_cons (pe_callB call_len_seq (by rfl) T.z_len bt_len (pa_cons (pv 1) pa_nil)) pa_nil)))))
   (pss_cons (ps_expr (pe_call G_refuse_bad_bags (hr.mono (by decide)) (by rfl) T.m_refuse_bad_bags T.F_refuse_bad_bags.kp T.b_refuse_bad_bags .nil pass0 (pa_cons (pv 4) (pa_cons (pe_callB call_len_seq (by rfl) T.z_len bt_len (pa_cons (pv 2) pa_nil)) (pa_cons (pe_callB call_len_seq (by rfl) T.z_len bt_len (pa_cons (pv 1) pa_nil)) pa_nil)))))
   (pss_cons (ps_expr (pe_call G_refuse_bad_bags (hr.mono (by decide)) (by rfl) T.m_refuse_bad_bags T.F_refuse_bad_bags.kp T.b_refuse_bad_bags .nil pass0 (pa_cons (pe_lst (pa_cons (pv 5) pa_nil)) (pa_cons pe_int (pa_cons (pe_callB call_len_seq (by rfl) T.z_len bt_len (pa_cons (pv 1) pa_nil)) pa_nil)))))
   (pss_cons (ps_fld (pv 0) (pe_callTy call_list_of (by rfl) T.z_list bt_list (pa_cons (pv 1) pa_nil)) rfl)
   (pss_cons (ps_fld (pv 0) (pe_callTy call_list_of (by rfl) T.z_list bt_list (pa_cons (pv 2) pa_nil)) rfl)
   (pss_cons (ps_fld (pv 0) (pe_comp (N' := ["bag"]) (nt := 1) (caps := []) _ _ (CompScope.of (by kernel_rfl)) (pi_list (pv 3)) (fun _ => (pg_nameC (i := 0) ["bag"] (by decide +kernel) (by rfl))) (fun _ => pts_nil) (fun _ => (pe_callTy call_list_of (by rfl) T.z_list bt_list (pa_cons (pv 0) pa_nil)))) rfl)
   (pss_cons (ps_fld (pv 0) (pe_comp (N' := ["bag"]) (nt := 1) (caps := []) _ _ (CompScope.of (by kernel_rfl)) (pi_list (pv 4)) (fun _ => (pg_nameC (i := 0) ["bag"] (by decide +kernel) (by rfl))) (fun _ => pts_nil) (fun _ => (pe_callTy call_list_of (by rfl) T.z_list bt_list (pa_cons (pv 0) pa_nil)))) rfl)
   (pss_one (ps_fld (pv 0) (pe_callTy call_list_of (by rfl) T.z_list bt_list (pa_cons (pv 5) pa_nil)) rfl))))))))))),?_⟩
  try dsimp only [kx1,kx2,kx3,Cx.nox,Cx.wish]
  have tl:=tr.length
  have gl:=gr.length
  have lb : (vstrs N.bowls).length = N.bowls.length:=List.length_map ..
  have ld : (vstrs N.doors).length = N.doors.length:=List.length_map ..
  refine ⟨_,rfl,pb,N.bowls,1,6,rfl,hb,by have:=ok.b1; omega,by have:=ok.b6; omega,by have:=ok.b6; omega,ok.bn,ok.bd,fun H1 S1=>?_⟩
  refine ⟨_,rfl,pd,N.doors,0,8,rfl,S1.seq hd,by omega,by have:=ok.d8; omega,by have:=ok.d8; omega,ok.dn,ok.dd,fun H2 S2=>?_⟩
  have S12:=S1.trans S2
  refine ⟨_,rfl,_,rfl,pd,_,rfl,.inl (S12.seq hd),_,rfl,pb,_,rfl,.inl (S12.seq hb),pt,ts,N.takes,N.bowls.length,by rw [ld,lb,ok.tl]; rfl,S12.seq ht,tr.same S12,ok.tk,?_⟩
  refine ⟨_,rfl,_,rfl,pd,_,rfl,.inl (S12.seq hd),_,rfl,pb,_,rfl,.inl (S12.seq hb),pg,gs,N.gives,N.bowls.length,by rw [ld,lb,ok.gl]; rfl,S12.seq hg,gr.same S12,ok.gv,?_⟩
  refine ⟨_,rfl,by show 1 ≤ sizeLine; decide,fun q0 m0=>?_⟩
  have U0:=S12.upd m0 (o:=.lst [V.ref pf])
  refine ⟨_,rfl,pb,_,rfl,.inl (U0.seq hb),q0,[pf],[N.first],N.bowls.length,by rw [lb]; rfl,SqL.of upd_same,.cons (U0 _ _ hf) .nil,(fun r hr=>by rw [List.mem_singleton.mp hr]; exact ok.fs),?_⟩
  generalize upd H2 q0 (.lst [V.ref pf]) = H3 at U0
  have x3:=U0 _ _ hx
  have k3 : But x H H3:=U0.but
  refine ⟨_,rfl,pb,_,rfl,.inl (U0.seq hb),fun b nb=>?_⟩
  have nxb : x ≠ b:=ne_of_none x3 nb
  refine ⟨_,rfl,x,AR.C_Net,dx,[],rfl,by rw [upd_ne nxb]; exact x3,T.cl_Net,T.n_Net_bowls,by show 0 < 1000; decide,?_⟩
  have k4 : But x H3 _:=But.step (x:=x) (o:=.lst (vstrs N.bowls)) (o':=.ins AR.C_Net dx (nf1 (.ref b))) nb
  have x4:=upd_same (H:=upd H3 b (.lst (vstrs N.bowls))) (a:=x) (o:=.ins AR.C_Net dx (nf1 (.ref b)))
  have b4 : upd (upd H3 b (.lst (vstrs N.bowls))) x (.ins AR.C_Net dx (nf1 (.ref b))) b = some (.lst (vstrs N.bowls)):=by rw [upd_ne (Ne.symm nxb),upd_same]
  generalize hH4 : upd (upd H3 b (.lst (vstrs N.bowls))) x (.ins AR.C_Net dx (nf1 (.ref b))) = H4 at k4 x4 b4
  have a4:=k3.trans k4
  refine ⟨_, rfl, pd, _, rfl, .inl (by rw [show upd (upd H3 b (.lst (vstrs N.bowls))) x (.ins AR.C_Net dx (putF "bowls" (V.ref b) [])) = H4 from hH4]; exact a4.seq hx hd), ?_⟩
  rw [show upd (upd H3 b (.lst (vstrs N.bowls))) x (.ins AR.C_Net dx (putF "bowls" (V.ref b) [])) = H4 from hH4]
  intro d nd
  have nxd : x ≠ d:=ne_of_none x4 nd
  refine ⟨_,rfl,x,AR.C_Net,dx,_,rfl,by rw [upd_ne nxd]; exact x4,T.cl_Net,T.n_Net_doors,by show 1 < 1000; decide,?_⟩
  rw [put_n2]
  have k5 : But x H4 _:=But.step (x:=x) (o:=.lst (vstrs N.doors)) (o':=.ins AR.C_Net dx (nf2 (.ref b) (.ref d))) nd
  have x5:=upd_same (H:=upd H4 d (.lst (vstrs N.doors))) (a:=x) (o:=.ins AR.C_Net dx (nf2 (.ref b) (.ref d)))
  have d5 : upd (upd H4 d (.lst (vstrs N.doors))) x (.ins AR.C_Net dx (nf2 (.ref b) (.ref d))) d = some (.lst (vstrs N.doors)):=by rw [upd_ne (Ne.symm nxd),upd_same]
  have b5:=k5 _ _ b4 (Ne.symm nxb)
  generalize upd (upd H4 d (.lst (vstrs N.doors))) x (.ins AR.C_Net dx (nf2 (.ref b) (.ref d))) = H5 at k5 x5 d5 b5 ⊢
  have a5:=a4.trans k5
  refine ⟨_,rfl,pt,rfl,⟨_,a5.seq hx ht⟩,?_⟩
  refine comp_copies (K:=K) (τ:=[]) (fun _=>rfl) (a5.seq hx ht) (a5.rows hx tr) (by have:=ok.tl; have:=ok.d8; omega) fun H6 ts' S6 R6 f6 t nt=>?_
  have x6:=S6 _ _ x5
  have nxt : x ≠ t:=ne_of_none x6 nt
  refine ⟨_,rfl,x,AR.C_Net,dx,_,rfl,by rw [upd_ne nxt]; exact x6,T.cl_Net,T.n_Net_takes,by show 2 < 1000; decide,?_⟩
  rw [put_n3]
  have k7 : But x H6 _:=But.step (x:=x) (o:=.lst (ts'.map V.ref)) (o':=.ins AR.C_Net dx (nf3 (.ref b) (.ref d) (.ref t))) nt
  have x7:=upd_same (H:=upd H6 t (.lst (ts'.map V.ref))) (a:=x) (o:=.ins AR.C_Net dx (nf3 (.ref b) (.ref d) (.ref t)))
  have t7 : upd (upd H6 t (.lst (ts'.map V.ref))) x (.ins AR.C_Net dx (nf3 (.ref b) (.ref d) (.ref t))) t = some (.lst (ts'.map V.ref)):=by rw [upd_ne (Ne.symm nxt),upd_same]
  have b7:=k7 _ _ (S6 _ _ b5) (Ne.symm nxb)
  have d7:=k7 _ _ (S6 _ _ d5) (Ne.symm nxd)
  have r7:=k7.rows x6 R6
  generalize upd (upd H6 t (.lst (ts'.map V.ref))) x (.ins AR.C_Net dx (nf3 (.ref b) (.ref d) (.ref t))) = H7 at k7 x7 t7 b7 d7 r7 ⊢
  have a7:=a5.trans (S6.but.trans k7)
  refine ⟨_,rfl,pg,rfl,⟨_,a7.seq hx hg⟩,?_⟩
  refine comp_copies (K:=K) (τ:=[]) (fun _=>rfl) (a7.seq hx hg) (a7.rows hx gr) (by have:=ok.gl; have:=ok.d8; omega) fun H8 gs' S8 R8 f8 g ng=>?_
  have x8:=S8 _ _ x7
  have nxg : x ≠ g:=ne_of_none x8 ng
  refine ⟨_,rfl,x,AR.C_Net,dx,_,rfl,by rw [upd_ne nxg]; exact x8,T.cl_Net,T.n_Net_gives,by show 3 < 1000; decide,?_⟩
  rw [put_n4]
  have k9 : But x H8 _:=But.step (x:=x) (o:=.lst (gs'.map V.ref)) (o':=.ins AR.C_Net dx (nf4 (.ref b) (.ref d) (.ref t) (.ref g))) ng
  have x9:=upd_same (H:=upd H8 g (.lst (gs'.map V.ref))) (a:=x) (o:=.ins AR.C_Net dx (nf4 (.ref b) (.ref d) (.ref t) (.ref g)))
  have g9 : upd (upd H8 g (.lst (gs'.map V.ref))) x (.ins AR.C_Net dx (nf4 (.ref b) (.ref d) (.ref t) (.ref g))) g = some (.lst (gs'.map V.ref)):=by rw [upd_ne (Ne.symm nxg),upd_same]
  have b9:=k9 _ _ (S8 _ _ b7) (Ne.symm nxb)
  have d9:=k9 _ _ (S8 _ _ d7) (Ne.symm nxd)
  have t9:=k9 _ _ (S8 _ _ t7) (Ne.symm nxt)
  have r9:=k9.rows x8 (r7.same S8)
  have q9:=k9.rows x8 R8
  generalize upd (upd H8 g (.lst (gs'.map V.ref))) x (.ins AR.C_Net dx (nf4 (.ref b) (.ref d) (.ref t) (.ref g))) = H9 at k9 x9 g9 b9 d9 t9 r9 q9 ⊢
  have a9:=a7.trans (S8.but.trans k9)
  refine ⟨_,rfl,pf,_,rfl,.inl (a9.seq hx (SqL.of hf)),fun f nf=>?_⟩
  have nxf : x ≠ f:=ne_of_none x9 nf
  refine ⟨_,rfl,x,AR.C_Net,dx,_,rfl,by rw [upd_ne nxf]; exact x9,T.cl_Net,T.n_Net_first,by show 4 < 1000; decide,?_⟩
  rw [put_n5]
  have k10 : But x H9 _:=But.step (x:=x) (o:=.lst (vints N.first)) (o':=.ins AR.C_Net dx (netF b d t g f)) nf
  have free : ∀ {Ha : Hp} {q : Addr} {o : HO},But x H Ha→Ha x = some o→Ha q = none→H q = none:=fun k e n=>k.free (C:=AR.C_Net) (dx:=dx) (fs:=[]) e n
  refine hQ b d t g f ts' gs' _ (fun a ha=>?_) (fun q o e n=>k10 _ _ (a9 _ _ e n) n) ⟨upd_same,k10 _ _ b9 (Ne.symm nxb),k10 _ _ d9 (Ne.symm nxd),k10 _ _ t9 (Ne.symm nxt),k10.rows x9 r9,k10 _ _ g9 (Ne.symm nxg),k10.rows x9 q9,by rw [upd_ne (Ne.symm nxf),upd_same]⟩
  rcases List.mem_append.mp ha with ha | ha
  ·rcases List.mem_append.mp ha with ha | ha
   ·simp only [List.mem_cons,List.not_mem_nil,or_false] at ha
    rcases ha with rfl | rfl | rfl | rfl | rfl
    ·exact free k3 x3 nb
    ·exact free a4 x4 nd
    ·exact free (a5.trans S6.but) x6 nt
    ·exact free (a7.trans S8.but) x8 ng
    ·exact free a9 x9 nf
   ·exact free a5 x5 (f6 a ha)
  ·exact free a7 x7 (f8 a ha)
theorem sc_law_mixed : FnScope ["script", "k", "cell"] ["script", "k"] (defScope s_law_mixed) := ⟨rfl, rfl, rfl, by decide +kernel, rfl, by decide +kernel, by decide +kernel⟩
set_option maxHeartbeats 4000000 in
theorem ok_law_mixed (T : Txt w K mg AR FR) : FnOk P w K mg base CX0 1 AR.f_law_mixed FR.d_law_mixed ["script", "k"] (sp_law_mixed K) := by
 refine T.F_law_mixed.ok sc_law_mixed (fun vs H Q E h=>?_) (fun cdv A outer s H vs Q E hr h=>?_)
 ·obtain ⟨a,ns,k,rfl,hS,h63,k1,hQ⟩:=h
  rfl
 ·obtain ⟨a,ns,k,rfl,hS,h63,k1,hQ⟩:=h
  refine ⟨_,(pss_cons (ps_set (i:=2) sc_law_mixed.nd rfl (Or.inl rfl) pe_int)
   (pss_cons (ps_if (pt_cmpR op_gt (pe_callB call_len_seq (by rfl) T.z_len bt_len (pa_cons (pv 0) pa_nil)) pe_int (nomark _)) (pss_one (ps_set (i:=2) sc_law_mixed.nd rfl (Or.inl rfl) (pe_op op_mod (pe_ix ix_list (pv 0) (pe_op op_mod (pv 1) (pe_callB call_len_seq (by rfl) T.z_len bt_len (pa_cons (pv 0) pa_nil))) (fun _ _=>rfl)) pe_int))) pss_nil)
   (pss_one (ps_ret (pe_op op_mod (pe_op op_mul (pe_op op_add (pe_op op_add (pv 2) (pe_op op_mul pe_int (pv 1))) pe_int) (pe_op op_add pe_int (pe_op op_mul (pe_op op_mul pe_int (pv 1)) (pv 1)))) pe_int))))),?_⟩
  try dsimp only [kx1,kx2,kx3,Cx.nox,Cx.wish]
  have vl : (vints ns).length = ns.length:=ints_len ns
  try dsimp only [tNext]
  refine seq_join (fun σ' H'=>σ' = [some (.ref a),some (.int k),some (.int 0)]∧H = H') ?_ (fun N hN=>hN _ _ ⟨rfl,rfl⟩)
  rintro _ _ ⟨rfl,rfl⟩
  refine seq_join (fun σ' H'=>∃ c : Int,σ' = [some (.ref a),some (.int k),some (.int c)]∧H' = H∧0 ≤ c∧c < 2147483647) ?_ ?_
  ·rintro _ _ ⟨c,rfl,rfl,c0,c1⟩
   refine ⟨_,rfl,_,rfl,_,_,rfl,rfl,.inl ⟨by decide,by decide⟩,_,_,rfl,rfl,_,_,rfl,rfl,_,rfl,_,_,rfl,rfl,.inl ⟨by decide,by decide⟩,_,rfl,_,_,rfl,rfl,.inr ⟨by omega,by omega⟩,_,_,rfl,rfl,_,_,rfl,rfl,.inl ⟨by omega,by omega⟩,_,_,rfl,rfl,(by show (0 : Int) < 2147483647; decide),?_⟩
   exact hQ _ (Int.emod_nonneg _ (by decide)) (Int.emod_lt_of_pos _ (by decide))
  intro N hN
  refine ⟨_,rfl,a,_,rfl,.inl hS,_,_,rfl,rfl,_,rfl,?_⟩
  rw [vl]
  refine iteD (fun h=>?_) (fun _=>hN _ _ ⟨0,rfl,rfl,by decide,by decide⟩)
  have h : (0 : Int) < ns.length:=h
  obtain ⟨i,hi⟩:=Int.eq_ofNat_of_zero_le (Int.emod_nonneg (k : Int) (show (ns.length : Int) ≠ 0 by omega))
  have hi2:=Int.emod_lt_of_pos (k : Int) h
  have il : i < ns.length:=by omega
  refine ⟨_,rfl,_,rfl,_,rfl,a,_,rfl,.inl hS,_,_,rfl,rfl,by show (0 : Int) < _; rw [vl]; exact h,?_⟩
  rw [vl]
  try dsimp only
  rw [hi]
  refine ⟨a,_,_,_,rfl,rfl,hS,at_zs il,_,_,rfl,rfl,(by show (0 : Int) < 2147483647; decide),hN _ _ ⟨_,rfl,rfl,Int.emod_nonneg _ (by decide),Int.emod_lt_of_pos _ (by decide)⟩⟩
theorem sc_law_names : FnScope ["script", "k", "many", "way", "turn", "words", "letters", "start", "fill"] ["script", "k", "many"] (defScope s_law_names) := ⟨rfl, rfl, rfl, by decide +kernel, rfl, by decide +kernel, by decide +kernel⟩
set_option maxHeartbeats 4000000 in
theorem ok_law_names (T : Txt w K mg AR FR) : FnOk P w K mg base CX0 2 AR.f_law_names FR.d_law_names ["script", "k", "many"] (sp_law_names K) := by
 have G_law_mixed : FnOk P w K mg base CX0 1 AR.f_law_mixed FR.d_law_mixed _ (sp_law_mixed K):=ok_law_mixed T
 refine T.F_law_names.ok sc_law_names (fun vs H Q E h=>?_) (fun cdv A outer s H vs Q E hr h=>?_)
 ·obtain ⟨a,ns,k,m,rfl,hS,h63,k5,m8,hQ⟩:=h
  rfl
 ·obtain ⟨a,ns,k,m,rfl,hS,h63,k5,m8,hQ⟩:=h
  refine ⟨_,(pss_cons (ps_set (i:=3) sc_law_names.nd rfl (Or.inl rfl) (pe_op op_mod (pe_op op_fdiv (pe_call G_law_mixed (hr.mono (by decide)) (by rfl) T.m_law_mixed T.F_law_mixed.kp T.b_law_mixed .nil pass0 (pa_cons (pv 0) (pa_cons (pv 1) pa_nil))) pe_int) pe_int))
   (pss_cons (ps_set (i:=4) sc_law_names.nd rfl (Or.inr rfl) (pe_op op_mod (pe_op op_fdiv (pe_call G_law_mixed (hr.mono (by decide)) (by rfl) T.m_law_mixed T.F_law_mixed.kp T.b_law_mixed .nil pass0 (pa_cons (pv 0) (pa_cons (pe_op op_add (pv 1) pe_int) pa_nil))) pe_int) pe_int))
   (pss_cons (ps_set (i:=5) sc_law_names.nd rfl (Or.inr rfl) (pe_lst (pa_cons pe_str (pa_cons pe_str (pa_cons pe_str (pa_cons pe_str (pa_cons pe_str (pa_cons pe_str (pa_cons pe_str (pa_cons pe_str pa_nil))))))))))
   (pss_cons (ps_set (i:=6) sc_law_names.nd rfl (Or.inr rfl) pe_str)
   (pss_cons (ps_set (i:=7) sc_law_names.nd rfl (Or.inr rfl) (pe_op op_mod (pe_op op_fdiv (pe_call G_law_mixed (hr.mono (by decide)) (by rfl) T.m_law_mixed T.F_law_mixed.kp T.b_law_mixed .nil pass0 (pa_cons (pv 0) (pa_cons (pe_op op_add (pv 1) pe_int) pa_nil))) pe_int) pe_int))
   (pss_cons (ps_if (pt_cmpR op_eq (pv 3) pe_int (nomark _)) (pss_one (ps_ret (pe_comp (N' := ["j", "words", "turn"]) (nt := 1) (caps := [5, 4]) _ _ (CompScope.of (by kernel_rfl)) (pi_range1 (by rfl) T.z_range (pa_cons (pv 2) pa_nil)) (fun _ => (pg_nameC (i := 0) ["j", "words", "turn"] (by decide +kernel) (by rfl))) (fun _ => pts_nil) (fun _ => (pe_ix ix_list (pv 1) (pe_op op_mod (pe_op op_add (pv 2) (pv 0)) pe_int) (fun _ _ => rfl)))))) pss_nil)
   (pss_cons (ps_if (pt_cmpR op_eq (pv 3) pe_int (nomark _)) (pss_one (ps_ret (pe_comp (N' := ["j", "letters", "start", "turn"]) (nt := 1) (caps := [6, 7, 4]) _ _ (CompScope.of (by kernel_rfl)) (pi_range1 (by rfl) T.z_range (pa_cons (pv 2) pa_nil)) (fun _ => (pg_nameC (i := 0) ["j", "letters", "start", "turn"] (by decide +kernel) (by rfl))) (fun _ => pts_nil) (fun _ => (pe_op op_mulS (pe_ix ix_str (pv 1) (pv 2) (fun _ _ => rfl)) (pe_op op_add pe_int (pe_op op_mod (pe_op op_add (pv 3) (pe_op op_mul pe_int (pv 0))) pe_int))))))) pss_nil)
   (pss_cons (ps_set (i:=8) sc_law_names.nd rfl (Or.inr rfl) (pe_ix ix_str (pv 6) (pe_op op_mod (pe_op op_fdiv (pe_call G_law_mixed (hr.mono (by decide)) (by rfl) T.m_law_mixed T.F_law_mixed.kp T.b_law_mixed .nil pass0 (pa_cons (pv 0) (pa_cons (pe_op op_add (pv 1) pe_int) pa_nil))) pe_int) pe_int) (fun _ _=>rfl)))
   (pss_one (ps_ret (pe_comp (N' := ["j", "fill", "turn", "letters", "start"]) (nt := 1) (caps := [8, 4, 6, 7]) _ _ (CompScope.of (by kernel_rfl)) (pi_range1 (by rfl) T.z_range (pa_cons (pv 2) pa_nil)) (fun _ => (pg_nameC (i := 0) ["j", "fill", "turn", "letters", "start"] (by decide +kernel) (by rfl))) (fun _ => pts_nil) (fun _ => (pe_op op_add_str (pe_op op_add_str (pe_op op_mulS (pv 1) (pv 2)) (pe_ix ix_str (pv 3) (pe_op op_mod (pe_op op_add (pv 4) (pe_op op_mul pe_int (pv 0))) pe_int) (fun _ _ => rfl))) (pe_op op_mulS (pv 1) (pe_op op_sub pe_int (pv 2)))))))))))))))), ?_⟩
  try dsimp only [kx1,kx2,kx3,Cx.nox,Cx.wish]
  have sz:=sizeLine_eq
  refine ⟨_,rfl,_,rfl,a,ns,k,rfl,hS,h63,by omega,fun n1 _ _=>?_⟩
  refine ⟨_,_,rfl,rfl,⟨by decide,by decide⟩,_,_,rfl,rfl,(by show (0 : Int) < 3; decide),?_⟩
  refine ⟨_,rfl,_,rfl,_,_,rfl,rfl,a,ns,k + 1,rfl,hS,h63,by omega,fun n2 _ _=>?_⟩
  refine ⟨_,_,rfl,rfl,⟨by decide,by decide⟩,_,_,rfl,rfl,(by show (0 : Int) < 8; decide),?_⟩
  refine ⟨by show 8 ≤ sizeLine; decide,fun pw npw=>?_⟩
  have U1:=(Same.refl H).upd npw (o:=.lst (vstrs w8))
  have g1:=upd_same (H:=H) (a:=pw) (o:=.lst (vstrs w8))
  generalize hG : upd H pw _ = H1
  have U1 : Same H H1:=by rw [← hG]; exact U1
  have g1 : H1 pw = some (.lst (vstrs w8)):=by rw [← hG]; exact g1
  clear hG
  refine ⟨_,rfl,_,rfl,_,_,rfl,rfl,a,ns,k + 2,rfl,U1.seq hS,h63,by omega,fun n3 _ _=>?_⟩
  refine ⟨_,_,rfl,rfl,⟨by decide,by decide⟩,_,_,rfl,rfl,(by show (0 : Int) < 26; decide),?_⟩
  obtain ⟨t0,t8⟩:=em_in (a:=n2 / 5) (m:=8) (by decide)
  obtain ⟨s0,s26⟩:=em_in (a:=n3 / 7) (m:=26) (by decide)
  try dsimp only [tNext]
  generalize n2 / 5 % 8 = t at t0 t8 ⊢
  generalize n3 / 7 % 26 = st' at s0 s26 ⊢
  generalize n1 / 3 % 3 = way
  refine ⟨_,rfl,rfl,_,rfl,?_⟩
  refine iteD (fun _=>?_) (fun _=>?_)
  ·refine ⟨_,rfl,_,rfl,by omega,by omega,?_⟩
   refine comp_range1 (τ:=[some (.ref pw),some (.int t)]) (fun i=>V.str (w8.getD ((t + (0 + (i : Int))) % 8).toNat Str.empty)) (small70 (by omega)) (fun B i H3 hi S3 Q' hq=>?_) ?_
   ·obtain ⟨q1,q2⟩:=em_in (a:=t + (0 + (i : Int))) (m:=8) (by decide)
    refine ⟨_,rfl,_,rfl,_,rfl,_,_,rfl,rfl,_,_,rfl,rfl,(by show (0 : Int) < 8; decide),pw,_,_,_,rfl,rfl,SqL.of (S3 _ _ g1),w8_at q1 q2,?_⟩
    exact hq H3 (Same.refl _)
   ·intro H3 S3 q nq
    rw [Int.toNat_natCast]
    have q1 : ∀ i : Nat,0 ≤ (t + (0 + (i : Int))) % 8:=fun i=>Int.emod_nonneg _ (by decide)
    have q2 : ∀ i : Nat,(t + (0 + (i : Int))) % 8 < 8:=fun i=>Int.emod_lt_of_pos _ (by decide)
    refine hQ q ((List.range m).map fun (i : Nat)=>w8.getD ((t + (0 + (i : Int))) % 8).toNat Str.empty) _ ((U1.trans S3).free nq) ((U1.trans S3).upd nq) ?_ (by rw [List.length_map,List.length_range]) ?_ (nodup_range_map fun i j hi hj e=>?_) (fun z=>?_)
    ·rw [upd_same]
     show _ = some (HO.lst (((List.range m).map fun (i : Nat)=>w8.getD ((t + (0 + (i : Int))) % 8).toNat Str.empty).map V.str))
     rw [List.map_map]
     rfl
    ·intro y hy
     obtain ⟨i,hi,rfl⟩:=List.mem_map.mp hy
     have:=q1 i
     have:=q2 i
     exact w8_ok ⟨((t + (0 + (i : Int))) % 8).toNat,by omega⟩
    ·have a1:=q1 i
     have a2:=q2 i
     have a3:=q1 j
     have a4:=q2 j
     have e2:=congrArg Fin.val (w8_inj ⟨((t + (0 + (i : Int))) % 8).toNat,by omega⟩ ⟨((t + (0 + (j : Int))) % 8).toNat,by omega⟩ e)
     have e2 : ((t + (0 + (i : Int))) % 8).toNat = ((t + (0 + (j : Int))) % 8).toNat:=e2
     omega
    ·obtain ⟨i,hi,e⟩:=List.mem_map.mp z
     have:=q1 i
     have:=q2 i
     exact w8_xy ⟨((t + (0 + (i : Int))) % 8).toNat,by omega⟩ e
  try dsimp only [tNext]
  refine ⟨_,rfl,rfl,_,rfl,?_⟩
  refine iteD (fun _=>?_) (fun _=>?_)
  ·refine ⟨_,rfl,_,rfl,by omega,by omega,?_⟩
   refine comp_range1 (τ:=[some (.str alph),some (.int st'),some (.int t)]) (fun i=>V.str (st (List.replicate (1 + (t + 3 * (0 + (i : Int))) % 8).toNat (97 + st'.toNat)))) (small70 (by omega)) (fun B i H3 hi S3 Q' hq=>?_) ?_
   ·obtain ⟨q1,q2⟩:=em_in (a:=t + 3 * (0 + (i : Int))) (m:=8) (by decide)
    refine ⟨_,rfl,_,rfl,alph,_,_,rfl,rfl,by rw [alph_len,sizeLine_eq]; decide,alph_at s0 s26,_,rfl,_,rfl,_,_,rfl,rfl,.inl ⟨by decide,by decide⟩,_,_,rfl,rfl,_,_,rfl,rfl,(by show (0 : Int) < 8; decide),_,_,rfl,rfl,_,_,rfl,rfl,by show 0 ≤ 1 + (t + 3 * (0 + (i : Int))) % 8; omega,by show 1 + (t + 3 * (0 + (i : Int))) % 8 ≤ 100; omega,?_⟩
    exact hq H3 (Same.refl _)
   ·intro H3 S3 q nq
    rw [Int.toNat_natCast]
    have q1 : ∀ i : Nat,0 ≤ (t + 3 * (0 + (i : Int))) % 8:=fun i=>Int.emod_nonneg _ (by decide)
    have q2 : ∀ i : Nat,(t + 3 * (0 + (i : Int))) % 8 < 8:=fun i=>Int.emod_lt_of_pos _ (by decide)
    refine hQ q ((List.range m).map fun (i : Nat)=>st (List.replicate (1 + (t + 3 * (0 + (i : Int))) % 8).toNat (97 + st'.toNat))) _ ((U1.trans S3).free nq) ((U1.trans S3).upd nq) ?_ (by rw [List.length_map,List.length_range]) ?_ (nodup_range_map fun i j hi hj e=>?_) (fun z=>?_)
    ·rw [upd_same]
     show _ = some (HO.lst (((List.range m).map fun (i : Nat)=>st (List.replicate (1 + (t + 3 * (0 + (i : Int))) % 8).toNat (97 + st'.toNat))).map V.str))
     rw [List.map_map]
     rfl
    ·intro y hy
     obtain ⟨i,hi,rfl⟩:=List.mem_map.mp hy
     have:=q1 i
     have:=q2 i
     exact rep_ok (by omega) (by omega) ⟨by omega,by omega⟩
    ·have a1:=q1 i
     have a3:=q1 j
     have e2:=rep_len e
     omega
    ·obtain ⟨i,hi,e⟩:=List.mem_map.mp z
     exact rep_xy e
  obtain ⟨fc,fc1,fc2,hfc⟩ : ∃ fc : Nat,97 ≤ fc∧fc ≤ 122∧True:=⟨97,by decide,by decide,trivial⟩
  refine ⟨_,rfl,_,rfl,_,rfl,_,_,rfl,rfl,a,ns,k + 3,rfl,U1.seq hS,h63,by omega,fun n4 _ _=>?_⟩
  obtain ⟨f0,f26⟩:=em_in (a:=n4 / 11) (m:=26) (by decide)
  refine ⟨_,_,rfl,rfl,⟨by decide,by decide⟩,_,_,rfl,rfl,(by show (0 : Int) < 26; decide),alph,_,_,rfl,rfl,by rw [alph_len,sizeLine_eq]; decide,alph_at f0 f26,?_⟩
  clear hfc fc1 fc2 fc
  generalize n4 / 11 % 26 = f at f0 f26
  have hf : 97 ≤ 97 + f.toNat∧97 + f.toNat ≤ 122:=⟨by omega,by omega⟩
  generalize 97 + f.toNat = fc at hf
  try dsimp only [tNext]
  refine ⟨_,rfl,_,rfl,by omega,by omega,?_⟩
  have q1 : ∀ i : Nat,0 ≤ (st' + 5 * (0 + (i : Int))) % 26:=fun i=>Int.emod_nonneg _ (by decide)
  have q2 : ∀ i : Nat,(st' + 5 * (0 + (i : Int))) % 26 < 26:=fun i=>Int.emod_lt_of_pos _ (by decide)
  refine comp_range1 (τ:=[some (.str ⟨#[fc]⟩),some (.int t),some (.str alph),some (.int st')]) (fun i=>V.str (st (midW t.toNat fc (97 + ((st' + 5 * (0 + (i : Int))) % 26).toNat)))) (small70 (by omega)) (fun B i H3 hi S3 Q' hq=>?_) ?_
  ·have z1 : (st (List.replicate t.toNat fc)).length ≤ 8:=by rw [st_len,List.length_replicate]; omega
   have z2 : (st (List.replicate (7 - t).toNat fc)).length ≤ 8:=by rw [st_len,List.length_replicate]; omega
   refine ⟨_,rfl,_,rfl,_,_,rfl,rfl,t0,by omega,_,rfl,_,rfl,_,rfl,_,_,rfl,rfl,.inl ⟨by decide,by decide⟩,_,_,rfl,rfl,_,_,rfl,rfl,(by show (0 : Int) < 26; decide),alph,_,_,rfl,rfl,by rw [alph_len,sizeLine_eq]; decide,alph_at (q1 i) (q2 i),_,_,rfl,rfl,?_,_,rfl,_,rfl,_,_,rfl,rfl,_,_,rfl,rfl,by show 0 ≤ 7 - t; omega,by show 7 - t ≤ 100; omega,_,_,rfl,rfl,?_,?_⟩
   ·show _ + 1 ≤ sizeLine
    omega
   ·rw [Str.length_append]
    show _ + 1 + _ ≤ sizeLine
    have z2 : (st (List.replicate ((fun i j=>i - j) 7 t : Int).toNat fc)).length ≤ 8:=z2
    omega
   ·have h:=hq H3 (Same.refl _)
    have e : st (List.replicate t.toNat fc) ++ (⟨#[97 + ((st' + 5 * (0 + (i : Int))) % 26).toNat]⟩ : Str) ++ st (List.replicate (7 - t).toNat fc) = st (midW t.toNat fc (97 + ((st' + 5 * (0 + (i : Int))) % 26).toNat)):=by
     rw [show (⟨#[97 + ((st' + 5 * (0 + (i : Int))) % 26).toNat]⟩ : Str) = st [97 + ((st' + 5 * (0 + (i : Int))) % 26).toNat] from rfl,st_append,st_append,show (7 - t).toNat = 7 - t.toNat by omega]
     rfl
    rw [← e] at h
    exact h
  ·intro H3 S3 q nq
   rw [Int.toNat_natCast]
   refine hQ q ((List.range m).map fun (i : Nat)=>st (midW t.toNat fc (97 + ((st' + 5 * (0 + (i : Int))) % 26).toNat))) _ ((U1.trans S3).free nq) ((U1.trans S3).upd nq) ?_ (by rw [List.length_map,List.length_range]) ?_ (nodup_range_map fun i j hi hj e=>?_) (fun z=>?_)
   ·rw [upd_same]
    show _ = some (HO.lst (((List.range m).map fun (i : Nat)=>st (midW t.toNat fc (97 + ((st' + 5 * (0 + (i : Int))) % 26).toNat))).map V.str))
    rw [List.map_map]
    rfl
   ·intro y hy
    obtain ⟨i,hi,rfl⟩:=List.mem_map.mp hy
    have:=q1 i
    have:=q2 i
    exact midW_ok (by omega) hf ⟨by omega,by omega⟩
   ·have a1:=q1 i
    have a3:=q1 j
    have e2:=midW_inj e
    omega
   ·obtain ⟨i,hi,e⟩:=List.mem_map.mp z
    exact midW_xy (by omega) e
theorem sc_law_named_net : FnScope ["script", "size", "many", "bowls", "doors", "takes", "gives", "first"] ["script"] (defScope s_law_named_net) := ⟨rfl, rfl, rfl, by decide +kernel, rfl, by decide +kernel, by decide +kernel⟩
set_option maxHeartbeats 4000000 in
theorem ok_law_named_net (T : Txt w K mg AR FR) : FnOk P w K mg base CX0 5 AR.f_law_named_net FR.d_law_named_net ["script"] (sp_law_named_net AR.C_Net K) := by
 have G_Net_init : FnOk P w K mg base CX0 3 AR.f_Net_init FR.d_Net_init _ (sp_Net_init AR.C_Net K):=ok_Net_init T
 have G_law_mixed : FnOk P w K mg base CX0 1 AR.f_law_mixed FR.d_law_mixed _ (sp_law_mixed K):=ok_law_mixed T
 have G_law_names : FnOk P w K mg base CX0 2 AR.f_law_names FR.d_law_names _ (sp_law_names K):=ok_law_names T
 refine T.F_law_named_net.ok sc_law_named_net (fun vs H Q E h=>?_) (fun cdv A outer s H vs Q E hr h=>?_)
 ·obtain ⟨a,ns,rfl,hS,h63,hQ⟩:=h
  rfl
 ·obtain ⟨a,ns,rfl,hS,h63,hQ⟩:=h
  refine ⟨_,(pss_cons (ps_set (i:=1) sc_law_named_net.nd rfl (Or.inr rfl) (pe_op op_add pe_int (pe_op op_mod (pe_op op_fdiv (pe_call G_law_mixed (hr.mono (by decide)) (by rfl) T.m_law_mixed T.F_law_mixed.kp T.b_law_mixed .nil pass0 (pa_cons (pv 0) (pa_cons pe_int pa_nil))) pe_int) pe_int)))
   (pss_cons (ps_set (i:=2) sc_law_named_net.nd rfl (Or.inl rfl) (pe_op op_mod (pe_op op_fdiv (pe_call G_law_mixed (hr.mono (by decide)) (by rfl) T.m_law_mixed T.F_law_mixed.kp T.b_law_mixed .nil pass0 (pa_cons (pv 0) (pa_cons pe_int pa_nil))) pe_int) pe_int))
   (pss_cons (ps_set (i:=3) sc_law_named_net.nd rfl (Or.inl rfl) (pe_call G_law_names (hr.mono (by decide)) (by rfl) T.m_law_names T.F_law_names.kp T.b_law_names .nil pass0 (pa_cons (pv 0) (pa_cons pe_int (pa_cons (pv 1) pa_nil)))))
   (pss_cons (ps_set (i:=4) sc_law_named_net.nd rfl (Or.inl rfl) (pe_call G_law_names (hr.mono (by decide)) (by rfl) T.m_law_names T.F_law_names.kp T.b_law_names .nil pass0 (pa_cons (pv 0) (pa_cons pe_int (pa_cons (pv 2) pa_nil)))))
   (pss_cons (ps_setCompC (i := 5) (N' := ["d", "size", "script"]) (nt := 1) (caps := [1, 0]) _ _ (CompScopeC.of (by kernel_rfl)) sc_law_named_net.nd rfl rfl (pi_range1 (by rfl) T.z_range (pa_cons (pv 2) pa_nil)) (fun _ => (pg_nameK (i := 0) ["d", "size", "script"] (by decide +kernel) (by rfl))) (fun _ => pts_nil) (fun _ => (pe_comp (N' := ["b", "script", "d"]) (nt := 1) (caps := [2, 0]) _ _ (CompScope.of (by kernel_rfl)) (pi_range1 (by rfl) T.z_range (pa_cons (pv 1) pa_nil)) (fun _ => (pg_nameC (i := 0) ["b", "script", "d"] (by decide +kernel) (by rfl))) (fun _ => pts_nil) (fun _ => (pe_op op_mod (pe_op op_fdiv (pe_call G_law_mixed (hr.mono (by decide)) (by rfl) T.m_law_mixed T.F_law_mixed.kp T.b_law_mixed .nil pass0 (pa_cons (pv 1) (pa_cons (pe_op op_add (pe_op op_add pe_int (pe_op op_mul pe_int (pv 2))) (pv 0)) pa_nil))) pe_int) pe_int)))))
   (pss_cons (ps_setCompC (i := 6) (N' := ["d", "size", "script"]) (nt := 1) (caps := [1, 0]) _ _ (CompScopeC.of (by kernel_rfl)) sc_law_named_net.nd rfl rfl (pi_range1 (by rfl) T.z_range (pa_cons (pv 2) pa_nil)) (fun _ => (pg_nameK (i := 0) ["d", "size", "script"] (by decide +kernel) (by rfl))) (fun _ => pts_nil) (fun _ => (pe_comp (N' := ["b", "script", "d"]) (nt := 1) (caps := [2, 0]) _ _ (CompScope.of (by kernel_rfl)) (pi_range1 (by rfl) T.z_range (pa_cons (pv 1) pa_nil)) (fun _ => (pg_nameC (i := 0) ["b", "script", "d"] (by decide +kernel) (by rfl))) (fun _ => pts_nil) (fun _ => (pe_op op_mod (pe_op op_fdiv (pe_call G_law_mixed (hr.mono (by decide)) (by rfl) T.m_law_mixed T.F_law_mixed.kp T.b_law_mixed .nil pass0 (pa_cons (pv 1) (pa_cons (pe_op op_add (pe_op op_add pe_int (pe_op op_mul pe_int (pv 2))) (pv 0)) pa_nil))) pe_int) pe_int)))))
   (pss_cons (ps_setComp (i := 7) (N' := ["b", "script"]) (nt := 1) (caps := [0]) _ _ (CompScope.of (by kernel_rfl)) sc_law_named_net.nd rfl rfl (pi_range1 (by rfl) T.z_range (pa_cons (pv 1) pa_nil)) (fun _ => (pg_nameC (i := 0) ["b", "script"] (by decide +kernel) (by rfl))) (fun _ => pts_nil) (fun _ => (pe_op op_mod (pe_op op_fdiv (pe_call G_law_mixed (hr.mono (by decide)) (by rfl) T.m_law_mixed T.F_law_mixed.kp T.b_law_mixed .nil pass0 (pa_cons (pv 1) (pa_cons (pe_op op_add pe_int (pv 0)) pa_nil))) pe_int) pe_int)))
   (pss_one (ps_ret (pe_make T.mk_Net G_Net_init (hr.mono (by decide)) (by rfl) T.mC_Net T.b_Net_init .nil pass0 (pa_cons (pv 3) (pa_cons (pv 4) (pa_cons (pv 5) (pa_cons (pv 6) (pa_cons (pv 7) pa_nil))))))))))))))),?_⟩
  try dsimp only [kx1,kx2,kx3,Cx.nox,Cx.wish]
  refine ⟨_,rfl,a,ns,0,rfl,hS,h63,by decide,fun n1 _ _=>?_⟩
  obtain ⟨z0,z6⟩:=em_in (a:=n1 / 3) (m:=6) (by decide)
  obtain ⟨sz,hsz⟩:=Int.eq_ofNat_of_zero_le (show 0 ≤ 1 + n1 / 3 % 6 by omega)
  refine ⟨_,_,rfl,rfl,⟨by decide,by decide⟩,_,_,rfl,rfl,(by show (0 : Int) < 6; decide),_,_,rfl,rfl,?_⟩
  refine ⟨_,rfl,a,ns,1,rfl,hS,h63,by decide,fun n2 _ _=>?_⟩
  obtain ⟨y0,y9⟩:=em_in (a:=n2 / 5) (m:=9) (by decide)
  obtain ⟨mn,hmn⟩:=Int.eq_ofNat_of_zero_le y0
  refine ⟨_,_,rfl,rfl,⟨by decide,by decide⟩,_,_,rfl,rfl,(by show (0 : Int) < 9; decide),?_⟩
  have s1 : 1 ≤ sz:=by omega
  have s6 : sz ≤ 6:=by omega
  have m8 : mn ≤ 8:=by omega
  try dsimp only [tNext]
  rw [hsz,hmn]
  clear hsz hmn z0 z6 y0 y9
  refine ⟨_,rfl,_,rfl,a,ns,150,sz,rfl,hS,h63,by decide,by omega,fun pb bs H1 nb S1 hb lb okb ndb xyb=>?_⟩
  refine ⟨_,rfl,_,rfl,a,ns,160,mn,rfl,S1.seq hS,h63,by decide,m8,fun pd ds H2 nd S2 hd ld okd ndd xyd=>?_⟩
  have S12:=S1.trans S2
  refine ⟨_,rfl,_,rfl,by omega,by omega,?_⟩
  rw [Int.toNat_natCast]
  refine comp_rangeP (fun i zs σ H3=>∃ (v : Option V) (as : List Addr) (rs : List (List Int)),σ = [v,some (.int sz),some (.ref a)]∧Same H2 H3∧zs = as.map V.ref∧Rows H3 as rs∧rs.length = i∧∀ r ∈ rs,okBag sz r) ⟨none,[],[],rfl,Same.refl _,rfl,.nil,rfl,fun r hr=>(nomatch hr)⟩ ?_ ?_ ?_
  ·rintro i zs σ H3 hi ⟨v,as,rs,rfl,S,rfl,R,e,okr⟩
   have:=R.length
   rw [List.length_map]
   exact small70 (by omega)
  ·rintro B i zs σ H3 hi ⟨v,as,rs,rfl,S,rfl,R,e,okr⟩
   try dsimp only [gName,tTrue]
   rw [if_pos rfl]
   refine ⟨_,rfl,_,rfl,by omega,by omega,?_⟩
   rw [Int.toNat_natCast]
   refine comp_rangeP (fun j zs σ H4=>∃ (v : Option V) (xs : List Int),σ = [v,some (.ref a),some (.int (0 + (i : Int)))]∧H4 = H3∧zs = vints xs∧xs.length = j∧∀ x ∈ xs,0 ≤ x∧x ≤ 1000000000) ⟨none,[],rfl,rfl,rfl,rfl,fun r hr=>(nomatch hr)⟩ ?_ ?_ ?_
   ·rintro j zs σ H4 hj ⟨v,xs,rfl,rfl,rfl,e',ok'⟩
    rw [ints_len]
    exact small70 (by omega)
   ·rintro B' j zs σ H4 hj ⟨v,xs,rfl,rfl,rfl,e',ok'⟩
    try dsimp only [gName,tTrue]
    rw [if_pos rfl]
    refine ⟨_,rfl,_,rfl,_,_,rfl,rfl,.inl ⟨by decide,by decide⟩,_,_,rfl,rfl,_,rfl,_,_,rfl,rfl,a,ns,2 + 7 * i + j,by rw [show ((2 + 7 * i + j : Nat) : Int) = 2 + 7 * (0 + (i : Int)) + (0 + (j : Int)) by omega]; rfl,(S12.trans S).seq hS,h63,by omega,fun n3 _ _=>?_⟩
    obtain ⟨w0,w3⟩:=em_in (a:=n3 / 3) (m:=3) (by decide)
    refine ⟨_,_,rfl,rfl,⟨by decide,by decide⟩,_,_,rfl,rfl,(by show (0 : Int) < 3; decide),?_⟩
    exact ⟨_,xs ++ [n3 / 3 % 3],rfl,rfl,(vints_snoc _ _).symm,by rw [List.length_append,e']; rfl,mem_end ok' ⟨w0,by omega⟩⟩
   ·rintro zs σ H4 ⟨v,xs,rfl,rfl,rfl,e',ok'⟩ q nq
    exact ⟨_,as ++ [q],rs ++ [xs],rfl,S.upd nq,(vrefs_snoc _ _).symm,(R.same ((Same.refl H4).upd nq)).snoc upd_same,by rw [List.length_append,e]; rfl,mem_end okr ⟨e',ok'⟩⟩
  rintro zs σ H3 ⟨v,ts,tk,rfl,S3,rfl,tr,tl,tok⟩ pt npt
  have W4:=(Same.refl H3).upd npt (o:=.lst (ts.map V.ref))
  have ht:=upd_same (H:=H3) (a:=pt) (o:=.lst (ts.map V.ref))
  have tr4:=tr.same W4
  generalize upd H3 pt (.lst (ts.map V.ref)) = H4 at W4 ht tr4 ⊢
  have S24:=S3.trans W4
  refine ⟨_,rfl,_,rfl,by omega,by omega,?_⟩
  rw [Int.toNat_natCast]
  refine comp_rangeP (fun i zs σ H5=>∃ (v : Option V) (as : List Addr) (rs : List (List Int)),σ = [v,some (.int sz),some (.ref a)]∧Same H4 H5∧zs = as.map V.ref∧Rows H5 as rs∧rs.length = i∧∀ r ∈ rs,okBag sz r) ⟨none,[],[],rfl,Same.refl _,rfl,.nil,rfl,fun r hr=>(nomatch hr)⟩ ?_ ?_ ?_
  ·rintro i zs σ H5 hi ⟨v,as,rs,rfl,S,rfl,R,e,okr⟩
   have:=R.length
   rw [List.length_map]
   exact small70 (by omega)
  ·rintro B i zs σ H5 hi ⟨v,as,rs,rfl,S,rfl,R,e,okr⟩
   try dsimp only [gName,tTrue]
   rw [if_pos rfl]
   refine ⟨_,rfl,_,rfl,by omega,by omega,?_⟩
   rw [Int.toNat_natCast]
   refine comp_rangeP (fun j zs σ H6=>∃ (v : Option V) (xs : List Int),σ = [v,some (.ref a),some (.int (0 + (i : Int)))]∧H6 = H5∧zs = vints xs∧xs.length = j∧∀ x ∈ xs,0 ≤ x∧x ≤ 1000000000) ⟨none,[],rfl,rfl,rfl,rfl,fun r hr=>(nomatch hr)⟩ ?_ ?_ ?_
   ·rintro j zs σ H6 hj ⟨v,xs,rfl,rfl,rfl,e',ok'⟩
    rw [ints_len]
    exact small70 (by omega)
   ·rintro B' j zs σ H6 hj ⟨v,xs,rfl,rfl,rfl,e',ok'⟩
    try dsimp only [gName,tTrue]
    rw [if_pos rfl]
    refine ⟨_,rfl,_,rfl,_,_,rfl,rfl,.inl ⟨by decide,by decide⟩,_,_,rfl,rfl,_,rfl,_,_,rfl,rfl,a,ns,5 + 9 * i + j,by rw [show ((5 + 9 * i + j : Nat) : Int) = 5 + 9 * (0 + (i : Int)) + (0 + (j : Int)) by omega]; rfl,(S12.trans (S24.trans S)).seq hS,h63,by omega,fun n3 _ _=>?_⟩
    obtain ⟨w0,w3⟩:=em_in (a:=n3 / 5) (m:=3) (by decide)
    refine ⟨_,_,rfl,rfl,⟨by decide,by decide⟩,_,_,rfl,rfl,(by show (0 : Int) < 3; decide),?_⟩
    exact ⟨_,xs ++ [n3 / 5 % 3],rfl,rfl,(vints_snoc _ _).symm,by rw [List.length_append,e']; rfl,mem_end ok' ⟨w0,by omega⟩⟩
   ·rintro zs σ H6 ⟨v,xs,rfl,rfl,rfl,e',ok'⟩ q nq
    exact ⟨_,as ++ [q],rs ++ [xs],rfl,S.upd nq,(vrefs_snoc _ _).symm,(R.same ((Same.refl H6).upd nq)).snoc upd_same,by rw [List.length_append,e]; rfl,mem_end okr ⟨e',ok'⟩⟩
  rintro zs σ H5 ⟨v',gs,gv,rfl,S5,rfl,gr,gl,gok⟩ pg npg
  have W6:=(Same.refl H5).upd npg (o:=.lst (gs.map V.ref))
  have hg:=upd_same (H:=H5) (a:=pg) (o:=.lst (gs.map V.ref))
  have gr6:=gr.same W6
  generalize upd H5 pg (.lst (gs.map V.ref)) = H6 at W6 hg gr6 ⊢
  have S46:=S5.trans W6
  refine ⟨_,rfl,_,rfl,by omega,by omega,?_⟩
  rw [Int.toNat_natCast]
  refine comp_rangeP (fun j zs σ H7=>∃ (v : Option V) (xs : List Int),σ = [v,some (.ref a)]∧H7 = H6∧zs = vints xs∧xs.length = j∧∀ x ∈ xs,0 ≤ x∧x ≤ 1000000000) ⟨none,[],rfl,rfl,rfl,rfl,fun r hr=>(nomatch hr)⟩ ?_ ?_ ?_
  ·rintro j zs σ H7 hj ⟨v,xs,rfl,rfl,rfl,e',ok'⟩
   rw [ints_len]
   exact small70 (by omega)
  ·rintro B' j zs σ H7 hj ⟨v,xs,rfl,rfl,rfl,e',ok'⟩
   try dsimp only [gName,tTrue]
   rw [if_pos rfl]
   refine ⟨_,rfl,_,rfl,_,_,rfl,rfl,a,ns,90 + j,by rw [show ((90 + j : Nat) : Int) = 90 + (0 + (j : Int)) by omega]; rfl,(S12.trans (S24.trans S46)).seq hS,h63,by omega,fun n3 _ _=>?_⟩
   obtain ⟨w0,w3⟩:=em_in (a:=n3 / 7) (m:=4) (by decide)
   refine ⟨_,_,rfl,rfl,⟨by decide,by decide⟩,_,_,rfl,rfl,(by show (0 : Int) < 4; decide),?_⟩
   exact ⟨_,xs ++ [n3 / 7 % 4],rfl,rfl,(vints_snoc _ _).symm,by rw [List.length_append,e']; rfl,mem_end ok' ⟨w0,by omega⟩⟩
  rintro zs σ H7 ⟨v'',fs,rfl,rfl,rfl,fl,fok⟩ pf npf
  have W8:=(Same.refl H7).upd npf (o:=.lst (vints fs))
  have hf:=upd_same (H:=H7) (a:=pf) (o:=.lst (vints fs))
  generalize upd H7 pf (.lst (vints fs)) = H8 at W8 hf ⊢
  have S28:=S24.trans (S46.trans W8)
  have ok : NetV.Ok ⟨bs,ds,tk,gv,fs⟩:=⟨by show 1 ≤ bs.length; omega,by show bs.length ≤ 6; omega,by show ds.length ≤ 8; omega,okb,okd,ndb,ndd,by show tk.length = ds.length; omega,by show gv.length = ds.length; omega,by show ∀ r ∈ tk,okBag bs.length r; rw [lb]; exact tok,by show ∀ r ∈ gv,okBag bs.length r; rw [lb]; exact gok,by show okBag bs.length fs; rw [lb]; exact ⟨fl,fok⟩⟩
  refine ⟨_,rfl,_,rfl,_,rfl,_,rfl,_,rfl,?_⟩
  intro x dx nx ndx ne
  have nx' : upd H8 dx (.own x) x = none:=by rw [upd_ne (Ne.symm ne)]; exact nx
  have U:=((Same.refl H8).upd ndx (o:=.own x)).upd nx' (o:=.ins AR.C_Net dx [])
  have b8:=U _ _ (S28 _ _ (S2 _ _ hb))
  have d8':=U _ _ (S28 _ _ hd)
  have t8:=U _ _ ((S46.trans W8) _ _ ht)
  have g8:=U _ _ (W8 _ _ hg)
  refine ⟨x,dx,pb,pd,pt,pg,pf,ts,gs,⟨bs,ds,tk,gv,fs⟩,rfl,upd_same,ok,SqL.of b8,SqL.of d8',SqL.of t8,(tr4.same (S46.trans W8)).same U,SqL.of g8,(gr6.same W8).same U,U _ _ hf,fun b2 d2 t2 g2 f2 ts2 gs2 H9 fr kp NI=>⟨rfl,?_⟩⟩
  exact hQ x dx b2 d2 t2 g2 f2 ts2 gs2 _ H9 ((S12.trans S28).trans fun q o e=>kp q o (U q o e) (ne_of_none e nx)) NI ok xyb xyd
theorem sc_law_bowl_alone : FnScope ["net", "alone"] ["net"] (defScope s_law_bowl_alone) := ⟨rfl, rfl, rfl, by decide +kernel, rfl, by decide +kernel, by decide +kernel⟩
set_option maxHeartbeats 4000000 in
theorem ok_law_bowl_alone (T : Txt w K mg AR FR) : FnOk P w K mg base CX0 5 AR.f_law_bowl_alone FR.d_law_bowl_alone ["net"] (sp_law_bowl_alone AR.C_Net K) := by
 have G_Net_init : FnOk P w K mg base CX0 3 AR.f_Net_init FR.d_Net_init _ (sp_Net_init AR.C_Net K):=ok_Net_init T
 refine T.F_law_bowl_alone.ok sc_law_bowl_alone (fun vs H Q E h=>?_) (fun cdv A outer s H vs Q E hr h=>?_)
 ·obtain ⟨x,dx,b,d,t,g,f,ts,gs,N,rfl,n,ok,xy,hQ⟩:=h
  rfl
 ·obtain ⟨x,dx,b,d,t,g,f,ts,gs,N,rfl,n,ok,xy,hQ⟩:=h
  refine ⟨_, (pss_cons (ps_setComp (i := 1) (N' := ["name", "net"]) (nt := 1) (caps := [0]) _ _ (CompScope.of (by kernel_rfl)) sc_law_bowl_alone.nd rfl rfl (pi_list (pe_fld (pv 0) rfl)) (fun _ => (pg_nameC (i := 0) ["name", "net"] (by decide +kernel) (by rfl))) (fun _ => (pts_one (pt_cmpR op_notIn_seq (pv 0) (pe_fld (pv 1) rfl) (by with_unfolding_all rfl)))) (fun _ => (pv 0)))
   (pss_one (ps_ret (pe_ix ix_list (pe_op op_cat (pv 1) (pe_lst (pa_cons pe_str pa_nil))) pe_int (fun _ _=>rfl))))),?_⟩
  try dsimp only [kx1,kx2,kx3,Cx.nox,Cx.wish]
  have b6:=ok.b6
  have vl : ∀ ys : List Str,(vstrs ys).length = ys.length:=fun ys=>List.length_map ..
  have lf : ∀ i,((N.bowls.take i).filter fun y=>!decide (y ∈ N.doors)).length ≤ 6:=fun i=>by
   have h2:=List.length_filter_le (fun y=>!decide (y ∈ N.doors)) (N.bowls.take i)
   rw [List.length_take] at h2
   omega
  refine ⟨_,rfl,x,_,dx,_,_,rfl,n.ob,T.cl_Net,T.n_Net_bowls,rfl,b,rfl,⟨_,SqL.of n.hb⟩,?_⟩
  refine comp_listP (K:=K) (a:=b) (xs:=vstrs N.bowls) (fun i ys σ H5=>∃ (o : Option V),σ = [o,some (.ref x)]∧H5 = H∧ys = vstrs ((N.bowls.take i).filter fun y=>!decide (y ∈ N.doors))) ⟨none,rfl,rfl,rfl⟩ ?_ ?_ ?_
  ·rintro i ys σ H5 hi ⟨o,rfl,rfl,rfl⟩
   refine ⟨SqL.of n.hb,?_⟩
   rw [vl]
   exact small70 (by have:=lf i; omega)
  ·rintro B i v ys σ H5 hv ⟨o,rfl,rfl,rfl⟩
   obtain ⟨y,hy,rfl⟩:=strs_get hv
   have et : N.bowls.take (i + 1) = N.bowls.take i ++ [y]:=by rw [List.take_add_one,hy]; rfl
   try dsimp only [gName]
   refine ⟨_,rfl,_,rfl,x,_,dx,_,_,rfl,n.ob,T.cl_Net,T.n_Net_doors,rfl,d,_,rfl,.inl (SqL.of n.hd),rfl,flat_strs N.doors,_,rfl,?_⟩
   show if (!inV (.str y) (vstrs N.doors)) = true then _ else _
   rw [inV_strs]
   refine iteND (fun h=>?_) (fun h=>?_)
   ·refine ⟨_,rfl,_,rfl,rfl,?_⟩
    rw [et,List.filter_append,List.filter_cons_of_pos (by rw [decide_eq_false h]; rfl)]
    exact strs_end _ _
   ·refine ⟨_,rfl,rfl,?_⟩
    rw [et,List.filter_append,List.filter_cons_of_neg (by rw [decide_eq_true h]; decide),List.filter_nil,List.append_nil]
  rintro ys σ H5 ⟨o,rfl,rfl,rfl⟩ p np
  have lm : ∀ y ∈ (N.bowls.take (vstrs N.bowls).length).filter fun y=>!decide (y ∈ N.doors),okName y = true∧y ∉ N.doors:=fun y hy=>by
   obtain ⟨h1,h2⟩:=List.mem_filter.mp hy
   refine ⟨ok.bn y (List.mem_of_mem_take h1),fun z=>?_⟩
   rw [decide_eq_true z] at h2
   cases h2
  have l6:=lf (vstrs N.bowls).length
  generalize (N.bowls.take (vstrs N.bowls).length).filter (fun y=>!decide (y ∈ N.doors)) = al at lm l6
  have U1:=(Same.refl H5).upd np (o:=.lst (vstrs al))
  have g1:=upd_same (H:=H5) (a:=p) (o:=.lst (vstrs al))
  generalize upd H5 p (.lst (vstrs al)) = H6 at U1 g1 ⊢
  refine ⟨_,rfl,by show 1 ≤ sizeLine; decide,fun q nq=>?_⟩
  have U2:=(Same.refl H6).upd nq (o:=.lst [V.str wXy])
  refine ⟨p,q,_,_,rfl,rfl,U2 _ _ g1,upd_same,by rw [vl]; exact Nat.le_of_lt (small70 (by show al.length + 1 ≤ 70; omega)),fun l nl=>?_⟩
  have U3:=U2.upd nl (o:=.lst (vstrs al ++ [V.str wXy]))
  cases al with
  | nil=>exact ⟨l,_,_,_,rfl,rfl,SqL.of upd_same,atI_nat (j:=0) rfl,hQ wXy _ (by decide +kernel) xy (U1.trans U3)⟩
  | cons y al=>exact ⟨l,_,_,_,rfl,rfl,SqL.of upd_same,atI_nat (j:=0) rfl,hQ y _ (lm y (List.mem_cons_self ..)).1 (lm y (List.mem_cons_self ..)).2 (U1.trans U3)⟩
theorem sc_law_door_alone : FnScope ["net", "alone"] ["net"] (defScope s_law_door_alone) := ⟨rfl, rfl, rfl, by decide +kernel, rfl, by decide +kernel, by decide +kernel⟩
set_option maxHeartbeats 4000000 in
theorem ok_law_door_alone (T : Txt w K mg AR FR) : FnOk P w K mg base CX0 5 AR.f_law_door_alone FR.d_law_door_alone ["net"] (sp_law_door_alone AR.C_Net K) := by
 have G_Net_init : FnOk P w K mg base CX0 3 AR.f_Net_init FR.d_Net_init _ (sp_Net_init AR.C_Net K):=ok_Net_init T
 refine T.F_law_door_alone.ok sc_law_door_alone (fun vs H Q E h=>?_) (fun cdv A outer s H vs Q E hr h=>?_)
 ·obtain ⟨x,dx,b,d,t,g,f,ts,gs,N,rfl,n,ok,xy,hQ⟩:=h
  rfl
 ·obtain ⟨x,dx,b,d,t,g,f,ts,gs,N,rfl,n,ok,xy,hQ⟩:=h
  refine ⟨_, (pss_cons (ps_setComp (i := 1) (N' := ["name", "net"]) (nt := 1) (caps := [0]) _ _ (CompScope.of (by kernel_rfl)) sc_law_door_alone.nd rfl rfl (pi_list (pe_fld (pv 0) rfl)) (fun _ => (pg_nameC (i := 0) ["name", "net"] (by decide +kernel) (by rfl))) (fun _ => (pts_one (pt_cmpR op_notIn_seq (pv 0) (pe_fld (pv 1) rfl) (by with_unfolding_all rfl)))) (fun _ => (pv 0)))
   (pss_one (ps_ret (pe_ix ix_list (pe_op op_cat (pv 1) (pe_lst (pa_cons pe_str pa_nil))) pe_int (fun _ _=>rfl))))),?_⟩
  try dsimp only [kx1,kx2,kx3,Cx.nox,Cx.wish]
  have b6:=ok.d8
  have vl : ∀ ys : List Str,(vstrs ys).length = ys.length:=fun ys=>List.length_map ..
  have lf : ∀ i,((N.doors.take i).filter fun y=>!decide (y ∈ N.bowls)).length ≤ 8:=fun i=>by
   have h2:=List.length_filter_le (fun y=>!decide (y ∈ N.bowls)) (N.doors.take i)
   rw [List.length_take] at h2
   omega
  refine ⟨_,rfl,x,_,dx,_,_,rfl,n.ob,T.cl_Net,T.n_Net_doors,rfl,d,rfl,⟨_,SqL.of n.hd⟩,?_⟩
  refine comp_listP (K:=K) (a:=d) (xs:=vstrs N.doors) (fun i ys σ H5=>∃ (o : Option V),σ = [o,some (.ref x)]∧H5 = H∧ys = vstrs ((N.doors.take i).filter fun y=>!decide (y ∈ N.bowls))) ⟨none,rfl,rfl,rfl⟩ ?_ ?_ ?_
  ·rintro i ys σ H5 hi ⟨o,rfl,rfl,rfl⟩
   refine ⟨SqL.of n.hd,?_⟩
   rw [vl]
   exact small70 (by have:=lf i; omega)
  ·rintro B i v ys σ H5 hv ⟨o,rfl,rfl,rfl⟩
   obtain ⟨y,hy,rfl⟩:=strs_get hv
   have et : N.doors.take (i + 1) = N.doors.take i ++ [y]:=by rw [List.take_add_one,hy]; rfl
   try dsimp only [gName]
   refine ⟨_,rfl,_,rfl,x,_,dx,_,_,rfl,n.ob,T.cl_Net,T.n_Net_bowls,rfl,b,_,rfl,.inl (SqL.of n.hb),rfl,flat_strs N.bowls,_,rfl,?_⟩
   show if (!inV (.str y) (vstrs N.bowls)) = true then _ else _
   rw [inV_strs]
   refine iteND (fun h=>?_) (fun h=>?_)
   ·refine ⟨_,rfl,_,rfl,rfl,?_⟩
    rw [et,List.filter_append,List.filter_cons_of_pos (by rw [decide_eq_false h]; rfl)]
    exact strs_end _ _
   ·refine ⟨_,rfl,rfl,?_⟩
    rw [et,List.filter_append,List.filter_cons_of_neg (by rw [decide_eq_true h]; decide),List.filter_nil,List.append_nil]
  rintro ys σ H5 ⟨o,rfl,rfl,rfl⟩ p np
  have lm : ∀ y ∈ (N.doors.take (vstrs N.doors).length).filter fun y=>!decide (y ∈ N.bowls),okName y = true∧y ∉ N.bowls:=fun y hy=>by
   obtain ⟨h1,h2⟩:=List.mem_filter.mp hy
   refine ⟨ok.dn y (List.mem_of_mem_take h1),fun z=>?_⟩
   rw [decide_eq_true z] at h2
   cases h2
  have l6:=lf (vstrs N.doors).length
  generalize (N.doors.take (vstrs N.doors).length).filter (fun y=>!decide (y ∈ N.bowls)) = al at lm l6
  have U1:=(Same.refl H5).upd np (o:=.lst (vstrs al))
  have g1:=upd_same (H:=H5) (a:=p) (o:=.lst (vstrs al))
  generalize upd H5 p (.lst (vstrs al)) = H6 at U1 g1 ⊢
  refine ⟨_,rfl,by show 1 ≤ sizeLine; decide,fun q nq=>?_⟩
  have U2:=(Same.refl H6).upd nq (o:=.lst [V.str wXy])
  refine ⟨p,q,_,_,rfl,rfl,U2 _ _ g1,upd_same,by rw [vl]; exact Nat.le_of_lt (small70 (by show al.length + 1 ≤ 70; omega)),fun l nl=>?_⟩
  have U3:=U2.upd nl (o:=.lst (vstrs al ++ [V.str wXy]))
  cases al with
  | nil=>exact ⟨l,_,_,_,rfl,rfl,SqL.of upd_same,atI_nat (j:=0) rfl,hQ wXy _ (by decide +kernel) xy (U1.trans U3)⟩
  | cons y al=>exact ⟨l,_,_,_,rfl,rfl,SqL.of upd_same,atI_nat (j:=0) rfl,hQ y _ (lm y (List.mem_cons_self ..)).1 (lm y (List.mem_cons_self ..)).2 (U1.trans U3)⟩
theorem sc_law_bad_rows : FnScope ["net", "cell", "name", "many", "piece", "told", "later", "third"] ["net", "cell"] (defScope s_law_bad_rows) := ⟨rfl, rfl, rfl, by decide +kernel, rfl, by decide +kernel, by decide +kernel⟩
set_option maxHeartbeats 4000000 in
theorem ok_law_bad_rows (T : Txt w K mg AR FR) : FnOk P w K mg base CX0 6 AR.f_law_bad_rows FR.d_law_bad_rows ["net", "cell"] (sp_law_bad_rows AR.C_Net K) := by
 have G_Net_init : FnOk P w K mg base CX0 3 AR.f_Net_init FR.d_Net_init _ (sp_Net_init AR.C_Net K):=ok_Net_init T
 have G_law_bowl_alone : FnOk P w K mg base CX0 5 AR.f_law_bowl_alone FR.d_law_bowl_alone _ (sp_law_bowl_alone AR.C_Net K):=ok_law_bowl_alone T
 have G_law_door_alone : FnOk P w K mg base CX0 5 AR.f_law_door_alone FR.d_law_door_alone _ (sp_law_door_alone AR.C_Net K):=ok_law_door_alone T
 refine T.F_law_bad_rows.ok sc_law_bad_rows (fun vs H Q E h=>?_) (fun cdv A outer s H vs Q E hr h=>?_)
 ·obtain ⟨x,dx,b,d,t,g,f,ts,gs,N,c,rfl,n,ok,xb,xd,hQ⟩:=h
  rfl
 ·obtain ⟨x,dx,b,d,t,g,f,ts,gs,N,c,rfl,n,ok,xb,xd,hQ⟩:=h
  refine ⟨_,(pss_cons (ps_set (i:=2) sc_law_bad_rows.nd rfl (Or.inl rfl) (pe_ix ix_list (pe_fld (pv 0) rfl) (pe_op op_mod (pe_op op_fdiv (pv 1) pe_int) (pe_callB call_len_seq (by rfl) T.z_len bt_len (pa_cons (pe_fld (pv 0) rfl) pa_nil))) (fun _ _=>rfl)))
   (pss_cons (ps_set (i:=3) sc_law_bad_rows.nd rfl (Or.inl rfl) (pe_callTy call_str_int (by rfl) T.z_str bt_str (pa_cons (pe_op op_add pe_int (pe_op op_mod (pe_op op_fdiv (pv 1) pe_int) pe_int)) pa_nil)))
   (pss_cons (ps_set (i:=4) sc_law_bad_rows.nd rfl (Or.inl rfl) (pe_op op_add_str (pe_op op_add_str (pv 3) pe_str) (pv 2)))
   (pss_cons (ps_set (i:=5) sc_law_bad_rows.nd rfl (Or.inl rfl) (pe_lst (pa_cons pe_str (pa_cons pe_str (pa_cons pe_str (pa_cons pe_str (pa_cons pe_str (pa_cons pe_str (pa_cons pe_str (pa_cons pe_str (pa_cons pe_str pa_nil)))))))))))
   (pss_cons (ps_set (i:=5) sc_law_bad_rows.nd rfl (Or.inl rfl) (pe_op op_cat (pv 5) (pe_lst (pa_cons (pe_op op_add_str pe_str (pv 2)) (pa_cons (pe_op op_add_str pe_str (pv 2)) (pa_cons (pe_op op_add_str pe_str (pv 4)) (pa_cons (pe_op op_add_str pe_str (pv 4)) pa_nil)))))))
   (pss_cons (ps_set (i:=5) sc_law_bad_rows.nd rfl (Or.inl rfl) (pe_op op_cat (pv 5) (pe_lst (pa_cons (pe_op op_add_str (pe_op op_add_str pe_str (pv 4)) pe_str) (pa_cons (pe_op op_add_str pe_str (pv 4)) (pa_cons (pe_op op_add_str (pe_op op_add_str (pe_op op_add_str pe_str (pv 4)) pe_str) (pv 4)) pa_nil))))))
   (pss_cons (ps_set (i:=5) sc_law_bad_rows.nd rfl (Or.inl rfl) (pe_op op_cat (pv 5) (pe_lst (pa_cons (pe_op op_add_str (pe_op op_add_str (pe_op op_add_str pe_str (pv 4)) pe_str) (pv 4)) (pa_cons (pe_op op_add_str (pe_op op_add_str (pe_op op_add_str pe_str (pv 4)) pe_str) (pv 4)) (pa_cons (pe_op op_add_str pe_str (pv 4)) pa_nil))))))
   (pss_cons (ps_set (i:=5) sc_law_bad_rows.nd rfl (Or.inl rfl) (pe_op op_cat (pv 5) (pe_lst (pa_cons (pe_op op_add_str (pe_op op_add_str pe_str (pv 4)) pe_str) (pa_cons (pe_op op_add_str (pe_op op_add_str (pe_op op_add_str pe_str (pv 3)) pe_str) (pv 2)) (pa_cons (pe_op op_add_str (pe_op op_add_str (pe_op op_add_str pe_str (pv 2)) pe_str) (pv 3)) pa_nil))))))
   (pss_cons (ps_set (i:=5) sc_law_bad_rows.nd rfl (Or.inl rfl) (pe_op op_cat (pv 5) (pe_lst (pa_cons (pe_op op_add_str pe_str (pv 3)) (pa_cons (pe_op op_add_str pe_str (pv 2)) (pa_cons (pe_op op_add_str (pe_op op_add_str pe_str (pv 3)) pe_str) (pa_cons pe_str pa_nil)))))))
   (pss_cons (ps_set (i:=5) sc_law_bad_rows.nd rfl (Or.inl rfl) (pe_op op_cat (pv 5) (pe_lst (pa_cons (pe_op op_add_str pe_str (pv 4)) (pa_cons pe_str (pa_cons pe_str (pa_cons pe_str (pa_cons pe_str pa_nil))))))))
   (pss_cons (ps_set (i:=5) sc_law_bad_rows.nd rfl (Or.inl rfl) (pe_op op_cat (pv 5) (pe_lst (pa_cons (pe_op op_add_str (pe_op op_add_str (pe_op op_add_str pe_str (pv 2)) pe_str) (pv 2)) (pa_cons (pe_op op_add_str pe_str (pv 3)) (pa_cons pe_str (pa_cons pe_str (pa_cons (pe_op op_add_str pe_str (pv 2)) pa_nil))))))))
   (pss_cons (ps_set (i:=5) sc_law_bad_rows.nd rfl (Or.inl rfl) (pe_op op_cat (pv 5) (pe_lst (pa_cons (pe_op op_add_str pe_str (pe_call G_law_bowl_alone (hr.mono (by decide)) (by rfl) T.m_law_bowl_alone T.F_law_bowl_alone.kp T.b_law_bowl_alone .nil pass0 (pa_cons (pv 0) pa_nil))) (pa_cons (pe_op op_add_str pe_str (pe_call G_law_door_alone (hr.mono (by decide)) (by rfl) T.m_law_door_alone T.F_law_door_alone.kp T.b_law_door_alone .nil pass0 (pa_cons (pv 0) pa_nil))) (pa_cons pe_str (pa_cons pe_str pa_nil)))))))
   (pss_cons (ps_set (i:=5) sc_law_bad_rows.nd rfl (Or.inl rfl) (pe_op op_cat (pv 5) (pe_lst (pa_cons (pe_op op_add_str (pe_op op_add_str (pe_op op_add_str pe_str (pe_op op_mulT pe_str pe_int)) pe_str) (pv 2)) (pa_cons (pe_op op_add_str pe_str (pv 2)) (pa_cons (pe_op op_add_str pe_str (pv 2)) (pa_cons pe_str (pa_cons pe_str (pa_cons pe_str pa_nil)))))))))
   (pss_cons (ps_set (i:=6) sc_law_bad_rows.nd rfl (Or.inl rfl) (pe_ix ix_list (pe_fld (pv 0) rfl) (pe_op op_mod (pe_op op_add (pe_op op_fdiv (pv 1) pe_int) pe_int) (pe_callB call_len_seq (by rfl) T.z_len bt_len (pa_cons (pe_fld (pv 0) rfl) pa_nil))) (fun _ _=>rfl)))
   (pss_cons (ps_set (i:=7) sc_law_bad_rows.nd rfl (Or.inl rfl) (pe_ix ix_list (pe_fld (pv 0) rfl) (pe_op op_mod (pe_op op_add (pe_op op_fdiv (pv 1) pe_int) pe_int) (pe_callB call_len_seq (by rfl) T.z_len bt_len (pa_cons (pe_fld (pv 0) rfl) pa_nil))) (fun _ _=>rfl)))
   (pss_cons (ps_set (i:=5) sc_law_bad_rows.nd rfl (Or.inl rfl) (pe_op op_cat (pv 5) (pe_lst (pa_cons (pe_op op_add_str (pe_op op_add_str (pe_op op_add_str pe_str (pv 4)) pe_str) (pv 6)) (pa_cons (pe_op op_add_str (pe_op op_add_str (pe_op op_add_str pe_str (pv 4)) pe_str) (pv 6)) pa_nil)))))
   (pss_cons (ps_set (i:=5) sc_law_bad_rows.nd rfl (Or.inl rfl) (pe_op op_cat (pv 5) (pe_lst (pa_cons (pe_op op_add_str (pe_op op_add_str pe_str (pv 4)) pe_str) (pa_cons pe_str pa_nil)))))
   (pss_cons (ps_set (i:=5) sc_law_bad_rows.nd rfl (Or.inl rfl) (pe_op op_cat (pv 5) (pe_lst (pa_cons (pe_op op_add_str (pe_op op_add_str (pe_op op_add_str (pe_op op_add_str (pe_op op_add_str pe_str (pv 4)) pe_str) (pv 6)) pe_str) (pv 7)) pa_nil))))
   (pss_cons (ps_set (i:=5) sc_law_bad_rows.nd rfl (Or.inl rfl) (pe_op op_cat (pv 5) (pe_lst (pa_cons (pe_op op_add_str (pe_op op_add_str (pe_op op_add_str (pe_op op_add_str (pe_op op_add_str pe_str (pv 4)) pe_str) (pv 6)) pe_str) (pv 2)) pa_nil))))
   (pss_one (ps_ret (pe_op op_cat (pv 5) (pe_lst (pa_cons (pe_op op_add_str (pe_op op_add_str (pe_op op_add_str (pe_op op_add_str (pe_op op_add_str (pe_op op_add_str (pe_op op_add_str pe_str (pv 4)) pe_str) (pv 6)) pe_str) (pe_op op_mulT pe_str pe_int)) pe_str) (pv 7)) pa_nil)))))))))))))))))))))))),?_⟩
  try dsimp only [kx1,kx2,kx3,Cx.nox,Cx.wish]
  have b1:=ok.b1
  have b6:=ok.b6
  have hsz:=sizeLine_eq
  have vl : (vstrs N.bowls).length = N.bowls.length:=List.length_map ..
  have lp : (0 : Int) < ((vstrs N.bowls).length : Int):=by rw [vl]; omega
  have pick : ∀ e : Int,∃ y : Str,okName y = true∧atI (vstrs N.bowls) (e % ((vstrs N.bowls).length : Int)) = some (.str y):=fun e=>by
   obtain ⟨z0,z1⟩:=em_in (a:=e) lp
   obtain ⟨k,hk⟩:=Int.eq_ofNat_of_zero_le z0
   rw [hk]
   have kl : k < N.bowls.length:=by rw [hk,vl] at z1; omega
   exact ⟨_,ok.bn _ (getD_in (z:=Str.empty) kl),strs_atD kl⟩
  obtain ⟨A,okA,aA⟩:=pick (c / 42)
  obtain ⟨B,okB,aB⟩:=pick (c / 42 + 1)
  obtain ⟨C,okC,aC⟩:=pick (c / 42 + 2)
  clear pick
  have hA:=(name_tx okA).le
  have hB:=(name_tx okB).le
  have hC:=(name_tx okC).le
  refine ⟨_,rfl,x,_,dx,_,_,rfl,n.ob,T.cl_Net,T.n_Net_bowls,rfl,_,rfl,_,_,rfl,rfl,⟨by decide,by decide⟩,_,rfl,x,_,dx,_,_,rfl,n.ob,T.cl_Net,T.n_Net_bowls,rfl,b,_,rfl,.inl (SqL.of n.hb),_,_,rfl,rfl,lp,b,_,_,_,rfl,rfl,SqL.of n.hb,aA,?_⟩
  obtain ⟨z0,z1⟩:=em_in (a:=c / 252) (m:=1000000000) (by decide)
  obtain ⟨m,hm⟩:=Int.eq_ofNat_of_zero_le (show 0 ≤ 1 + c / 252 % 1000000000 by omega)
  have m1 : 1 ≤ m:=by omega
  have m9 : (m : Int) < 10 ^ 10:=by omega
  refine ⟨_,rfl,_,_,rfl,rfl,⟨by decide,by decide⟩,_,_,rfl,rfl,(by show (0 : Int) < 1000000000; decide),_,_,rfl,rfl,_,rfl,log_small (by omega) (by omega),?_⟩
  have hM : (txI (m : Int)).length ≤ 11:=txI_len (by omega) (by omega)
  have l1 : (Str.ofString " ").length = 1 := by decide +kernel
  have eM : txI (1 + c / 252 % 1000000000) = txI (m : Int):=congrArg txI hm
  change gName 3 (.str (txI (1 + c / 252 % 1000000000))) [some (.ref x),some (.int c),some (.str A),none,none,none,none,none] _ _
  rw [eM]
  refine ⟨_, rfl, _, _, rfl, rfl, (show (txI (m : Int)).length + (Str.ofString " ").length ≤ sizeLine by omega), _, rfl, _, _, rfl, rfl, (by rw [Str.length_append]; omega), ?_⟩
  change gName 4 _ [some (.ref x),some (.int c),some (.str A),some (.str (txI (m : Int))),none,none,none,none] _ _
  have hP : (txI (m : Int) ++ Str.ofString " " ++ A).length ≤ 20 := by
   rw [Str.length_append,Str.length_append]
   have : (Str.ofString " ").length = 1 := by decide +kernel
   omega
  have bad:=fun EB DA okE okD ebd dab=>told_bad ok (A:=A) (B:=B) (C:=C) (EB:=EB) (DA:=DA) m1 m9 okA okB okC okE okD xb xd ebd dab
  have tl:=toldG_len (txI (m : Int)) A B C
  generalize txI (m : Int) = M at hM hP bad tl ⊢
  have S1:=Same.refl H
  refine ⟨by show 9 ≤ sizeLine; decide,fun q0 m0=>?_⟩
  change gName 5 _ [some (.ref x), some (.int c), some (.str A), some (.str M), some (.str (M ++ Str.ofString " " ++ A)), none, none, none] _ _
  generalize hK0 : upd H q0 _ = G1
  have g0 : G1 q0 = some (.lst (vstrs ((toldG M A B C wNone wNone).take 1).flatten)):=by rw [← hK0]; exact upd_same
  have TG1 : Same H G1:=by rw [← hK0]; exact S1.upd m0
  clear hK0
  refine ⟨_, rfl, _, rfl, _, _, rfl, rfl, Nat.le_trans (Nat.add_le_add (show (Str.ofString "cover -1 ").length ≤ 9 by decide +kernel) hA) (by decide), _, rfl, _, _, rfl, rfl, Nat.le_trans (Nat.add_le_add (show (Str.ofString "cover 0 ").length ≤ 8 by decide +kernel) hA) (by decide), _, rfl, _, _, rfl, rfl, Nat.le_trans (Nat.add_le_add (show (Str.ofString "reach 0").length ≤ 7 by decide +kernel) hP) (by decide), _, rfl, _, _, rfl, rfl, Nat.le_trans (Nat.add_le_add (show (Str.ofString "cover +").length ≤ 7 by decide +kernel) hP) (by decide), by show 4 ≤ sizeLine; decide, fun q1 m1 => ?_⟩
  generalize hK1 : upd G1 q1 _ = G2
  have k1 : G2 q1 = some (.lst (vstrs ((toldG M A B C wNone wNone).getD 1 []))):=by rw [← hK1]; exact upd_same
  have V1 : Same G1 G2:=by rw [← hK1]; exact (Same.refl G1).upd m1
  refine ⟨q0,q1,_,_,rfl,rfl,V1 _ _ g0,k1,by show 13 ≤ sizeLine; decide,fun p1 n1=>?_⟩
  change gName 5 _ [some (.ref x), some (.int c), some (.str A), some (.str M), some (.str (M ++ Str.ofString " " ++ A)), some (.ref q0), none, none] _ _
  generalize hL1 : upd G2 p1 _ = G3
  have g1 : G3 p1 = some (.lst (vstrs ((toldG M A B C wNone wNone).take 2).flatten)):=by rw [← hL1,upd_same,flat_nx (i:=1) (by show 1 < 15; decide)]
  have TG3 : Same H G3:=by rw [← hL1]; exact (TG1.trans V1).upd n1
  clear hK1 hL1
  refine ⟨_, rfl, _, rfl, _, _, rfl, rfl, Nat.le_trans (Nat.add_le_add (show (Str.ofString "cover ").length ≤ 6 by decide +kernel) hP) (by decide), _, _, rfl, rfl, Nat.le_trans (Nat.add_le_add (apl (show (Str.ofString "cover ").length ≤ 6 by decide +kernel) hP) (show (Str.ofString " +").length ≤ 2 by decide +kernel)) (by decide), _, rfl, _, _, rfl, rfl, Nat.le_trans (Nat.add_le_add (show (Str.ofString "cover + ").length ≤ 8 by decide +kernel) hP) (by decide), _, rfl, _, _, rfl, rfl, Nat.le_trans (Nat.add_le_add (show (Str.ofString "reach ").length ≤ 6 by decide +kernel) hP) (by decide), _, _, rfl, rfl, Nat.le_trans (Nat.add_le_add (apl (show (Str.ofString "reach ").length ≤ 6 by decide +kernel) hP) (show (Str.ofString " + ").length ≤ 3 by decide +kernel)) (by decide), _, rfl, _, _, rfl, rfl, Nat.le_trans (Nat.add_le_add (apl (apl (show (Str.ofString "reach ").length ≤ 6 by decide +kernel) hP) (show (Str.ofString " + ").length ≤ 3 by decide +kernel)) hP) (by decide), by show 3 ≤ sizeLine; decide, fun q2 m2 => ?_⟩
  generalize hK2 : upd G3 q2 _ = G4
  have k2 : G4 q2 = some (.lst (vstrs ((toldG M A B C wNone wNone).getD 2 []))):=by rw [← hK2]; exact upd_same
  have V2 : Same G3 G4:=by rw [← hK2]; exact (Same.refl G3).upd m2
  refine ⟨p1,q2,_,_,rfl,rfl,V2 _ _ g1,k2,by show 16 ≤ sizeLine; decide,fun p2 n2=>?_⟩
  change gName 5 _ [some (.ref x), some (.int c), some (.str A), some (.str M), some (.str (M ++ Str.ofString " " ++ A)), some (.ref p1), none, none] _ _
  generalize hL2 : upd G4 p2 _ = G5
  have g2 : G5 p2 = some (.lst (vstrs ((toldG M A B C wNone wNone).take 3).flatten)):=by rw [← hL2,upd_same,flat_nx (i:=2) (by show 2 < 15; decide)]
  have TG5 : Same H G5:=by rw [← hL2]; exact (TG3.trans V2).upd n2
  clear hK2 hL2
  refine ⟨_, rfl, _, rfl, _, _, rfl, rfl, Nat.le_trans (Nat.add_le_add (show (Str.ofString "cover ").length ≤ 6 by decide +kernel) hP) (by decide), _, _, rfl, rfl, Nat.le_trans (Nat.add_le_add (apl (show (Str.ofString "cover ").length ≤ 6 by decide +kernel) hP) (show (Str.ofString " ").length ≤ 1 by decide +kernel)) (by decide), _, rfl, _, _, rfl, rfl, Nat.le_trans (Nat.add_le_add (apl (apl (show (Str.ofString "cover ").length ≤ 6 by decide +kernel) hP) (show (Str.ofString " ").length ≤ 1 by decide +kernel)) hP) (by decide), _, rfl, _, _, rfl, rfl, Nat.le_trans (Nat.add_le_add (show (Str.ofString "reach ").length ≤ 6 by decide +kernel) hP) (by decide), _, _, rfl, rfl, Nat.le_trans (Nat.add_le_add (apl (show (Str.ofString "reach ").length ≤ 6 by decide +kernel) hP) (show (Str.ofString " - ").length ≤ 3 by decide +kernel)) (by decide), _, rfl, _, _, rfl, rfl, Nat.le_trans (Nat.add_le_add (apl (apl (show (Str.ofString "reach ").length ≤ 6 by decide +kernel) hP) (show (Str.ofString " - ").length ≤ 3 by decide +kernel)) hP) (by decide), _, rfl, _, _, rfl, rfl, Nat.le_trans (Nat.add_le_add (show (Str.ofString "cover  ").length ≤ 7 by decide +kernel) hP) (by decide), by show 3 ≤ sizeLine; decide, fun q3 m3 => ?_⟩
  generalize hK3 : upd G5 q3 _ = G6
  have k3 : G6 q3 = some (.lst (vstrs ((toldG M A B C wNone wNone).getD 3 []))):=by rw [← hK3]; exact upd_same
  have V3 : Same G5 G6:=by rw [← hK3]; exact (Same.refl G5).upd m3
  refine ⟨p2,q3,_,_,rfl,rfl,V3 _ _ g2,k3,by show 19 ≤ sizeLine; decide,fun p3 n3=>?_⟩
  change gName 5 _ [some (.ref x), some (.int c), some (.str A), some (.str M), some (.str (M ++ Str.ofString " " ++ A)), some (.ref p2), none, none] _ _
  generalize hL3 : upd G6 p3 _ = G7
  have g3 : G7 p3 = some (.lst (vstrs ((toldG M A B C wNone wNone).take 4).flatten)):=by rw [← hL3,upd_same,flat_nx (i:=3) (by show 3 < 15; decide)]
  have TG7 : Same H G7:=by rw [← hL3]; exact (TG5.trans V3).upd n3
  clear hK3 hL3
  refine ⟨_, rfl, _, rfl, _, _, rfl, rfl, Nat.le_trans (Nat.add_le_add (show (Str.ofString "cover ").length ≤ 6 by decide +kernel) hP) (by decide), _, _, rfl, rfl, Nat.le_trans (Nat.add_le_add (apl (show (Str.ofString "cover ").length ≤ 6 by decide +kernel) hP) (show (Str.ofString " ").length ≤ 1 by decide +kernel)) (by decide), _, rfl, _, _, rfl, rfl, Nat.le_trans (Nat.add_le_add (show (Str.ofString "cover ").length ≤ 6 by decide +kernel) hM) (by decide), _, _, rfl, rfl, Nat.le_trans (Nat.add_le_add (apl (show (Str.ofString "cover ").length ≤ 6 by decide +kernel) hM) (show (Str.ofString "  ").length ≤ 2 by decide +kernel)) (by decide), _, rfl, _, _, rfl, rfl, Nat.le_trans (Nat.add_le_add (apl (apl (show (Str.ofString "cover ").length ≤ 6 by decide +kernel) hM) (show (Str.ofString "  ").length ≤ 2 by decide +kernel)) hA) (by decide), _, rfl, _, _, rfl, rfl, Nat.le_trans (Nat.add_le_add (show (Str.ofString "reach ").length ≤ 6 by decide +kernel) hA) (by decide), _, _, rfl, rfl, Nat.le_trans (Nat.add_le_add (apl (show (Str.ofString "reach ").length ≤ 6 by decide +kernel) hA) (show (Str.ofString " ").length ≤ 1 by decide +kernel)) (by decide), _, rfl, _, _, rfl, rfl, Nat.le_trans (Nat.add_le_add (apl (apl (show (Str.ofString "reach ").length ≤ 6 by decide +kernel) hA) (show (Str.ofString " ").length ≤ 1 by decide +kernel)) hM) (by decide), by show 3 ≤ sizeLine; decide, fun q4 m4 => ?_⟩
  generalize hK4 : upd G7 q4 _ = G8
  have k4 : G8 q4 = some (.lst (vstrs ((toldG M A B C wNone wNone).getD 4 []))):=by rw [← hK4]; exact upd_same
  have V4 : Same G7 G8:=by rw [← hK4]; exact (Same.refl G7).upd m4
  refine ⟨p3,q4,_,_,rfl,rfl,V4 _ _ g3,k4,by show 22 ≤ sizeLine; decide,fun p4 n4=>?_⟩
  change gName 5 _ [some (.ref x), some (.int c), some (.str A), some (.str M), some (.str (M ++ Str.ofString " " ++ A)), some (.ref p3), none, none] _ _
  generalize hL4 : upd G8 p4 _ = G9
  have g4 : G9 p4 = some (.lst (vstrs ((toldG M A B C wNone wNone).take 5).flatten)):=by rw [← hL4,upd_same,flat_nx (i:=4) (by show 4 < 15; decide)]
  have TG9 : Same H G9:=by rw [← hL4]; exact (TG7.trans V4).upd n4
  clear hK4 hL4
  refine ⟨_, rfl, _, rfl, _, _, rfl, rfl, Nat.le_trans (Nat.add_le_add (show (Str.ofString "cover ").length ≤ 6 by decide +kernel) hM) (by decide), _, rfl, _, _, rfl, rfl, Nat.le_trans (Nat.add_le_add (show (Str.ofString "cover ").length ≤ 6 by decide +kernel) hA) (by decide), _, rfl, _, _, rfl, rfl, Nat.le_trans (Nat.add_le_add (show (Str.ofString "reach ").length ≤ 6 by decide +kernel) hM) (by decide), _, _, rfl, rfl, Nat.le_trans (Nat.add_le_add (apl (show (Str.ofString "reach ").length ≤ 6 by decide +kernel) hM) (show (Str.ofString " xyzzy").length ≤ 6 by decide +kernel)) (by decide), by show 4 ≤ sizeLine; decide, fun q5 m5 => ?_⟩
  generalize hK5 : upd G9 q5 _ = G10
  have k5 : G10 q5 = some (.lst (vstrs ((toldG M A B C wNone wNone).getD 5 []))):=by rw [← hK5]; exact upd_same
  have V5 : Same G9 G10:=by rw [← hK5]; exact (Same.refl G9).upd m5
  refine ⟨p4,q5,_,_,rfl,rfl,V5 _ _ g4,k5,by show 26 ≤ sizeLine; decide,fun p5 n5=>?_⟩
  change gName 5 _ [some (.ref x), some (.int c), some (.str A), some (.str M), some (.str (M ++ Str.ofString " " ++ A)), some (.ref p4), none, none] _ _
  generalize hL5 : upd G10 p5 _ = G11
  have g5 : G11 p5 = some (.lst (vstrs ((toldG M A B C wNone wNone).take 6).flatten)):=by rw [← hL5,upd_same,flat_nx (i:=5) (by show 5 < 15; decide)]
  have TG11 : Same H G11:=by rw [← hL5]; exact (TG9.trans V5).upd n5
  clear hK5 hL5
  refine ⟨_, rfl, _, rfl, _, _, rfl, rfl, Nat.le_trans (Nat.add_le_add (show (Str.ofString "COVER ").length ≤ 6 by decide +kernel) hP) (by decide), by show 5 ≤ sizeLine; decide, fun q6 m6 => ?_⟩
  generalize hK6 : upd G11 q6 _ = G12
  have k6 : G12 q6 = some (.lst (vstrs ((toldG M A B C wNone wNone).getD 6 []))):=by rw [← hK6]; exact upd_same
  have V6 : Same G11 G12:=by rw [← hK6]; exact (Same.refl G11).upd m6
  refine ⟨p5,q6,_,_,rfl,rfl,V6 _ _ g5,k6,by show 31 ≤ sizeLine; decide,fun p6 n6=>?_⟩
  change gName 5 _ [some (.ref x), some (.int c), some (.str A), some (.str M), some (.str (M ++ Str.ofString " " ++ A)), some (.ref p5), none, none] _ _
  generalize hL6 : upd G12 p6 _ = G13
  have g6 : G13 p6 = some (.lst (vstrs ((toldG M A B C wNone wNone).take 7).flatten)):=by rw [← hL6,upd_same,flat_nx (i:=6) (by show 6 < 15; decide)]
  have TG13 : Same H G13:=by rw [← hL6]; exact (TG11.trans V6).upd n6
  clear hK6 hL6
  refine ⟨_, rfl, _, rfl, _, _, rfl, rfl, Nat.le_trans (Nat.add_le_add (show (Str.ofString "most ").length ≤ 5 by decide +kernel) hA) (by decide), _, _, rfl, rfl, Nat.le_trans (Nat.add_le_add (apl (show (Str.ofString "most ").length ≤ 5 by decide +kernel) hA) (show (Str.ofString " ").length ≤ 1 by decide +kernel)) (by decide), _, rfl, _, _, rfl, rfl, Nat.le_trans (Nat.add_le_add (apl (apl (show (Str.ofString "most ").length ≤ 5 by decide +kernel) hA) (show (Str.ofString " ").length ≤ 1 by decide +kernel)) hA) (by decide), _, rfl, _, _, rfl, rfl, Nat.le_trans (Nat.add_le_add (show (Str.ofString "most ").length ≤ 5 by decide +kernel) hM) (by decide), _, rfl, _, _, rfl, rfl, Nat.le_trans (Nat.add_le_add (show (Str.ofString "stick ").length ≤ 6 by decide +kernel) hA) (by decide), by show 5 ≤ sizeLine; decide, fun q7 m7 => ?_⟩
  generalize hK7 : upd G13 q7 _ = G14
  have k7 : G14 q7 = some (.lst (vstrs ((toldG M A B C wNone wNone).getD 7 []))):=by rw [← hK7]; exact upd_same
  have V7 : Same G13 G14:=by rw [← hK7]; exact (Same.refl G13).upd m7
  refine ⟨p6,q7,_,_,rfl,rfl,V7 _ _ g6,k7,by show 36 ≤ sizeLine; decide,fun p7 n7=>?_⟩
  change gName 5 _ [some (.ref x), some (.int c), some (.str A), some (.str M), some (.str (M ++ Str.ofString " " ++ A)), some (.ref p6), none, none] _ _
  generalize hL7 : upd G14 p7 _ = G15
  have g7 : G15 p7 = some (.lst (vstrs ((toldG M A B C wNone wNone).take 8).flatten)):=by rw [← hL7,upd_same,flat_nx (i:=7) (by show 7 < 15; decide)]
  have TG15 : Same H G15:=by rw [← hL7]; exact (TG13.trans V7).upd n7
  clear hK7 hL7
  refine ⟨_,rfl,_,rfl,x,dx,b,d,t,g,f,ts,gs,N,rfl,n.same TG15,ok,xd,fun EB G16 okEB outEB SG16=>?_⟩
  have TG16:=TG15.trans SG16
  have hEB:=(name_tx okEB).le
  have g7G16:=SG16 _ _ g7
  refine ⟨_, _, rfl, rfl, Nat.le_trans (Nat.add_le_add (show (Str.ofString "ever ").length ≤ 5 by decide +kernel) hEB) (by decide), _, rfl, x, dx, b, d, t, g, f, ts, gs, N, rfl, n.same TG16, ok, xb, fun DA G17 okDA outDA SG17 => ?_⟩
  have TG17:=TG16.trans SG17
  have hDA:=(name_tx okDA).le
  have g7G17 : G17 p7 = some (.lst (vstrs ((toldG M A B C EB DA).take 8).flatten)):=by rw [told8 M A B C EB DA wNone wNone]; exact SG17 _ _ g7G16
  refine ⟨_, _, rfl, rfl, Nat.le_trans (Nat.add_le_add (show (Str.ofString "most ").length ≤ 5 by decide +kernel) hDA) (by decide), by show 4 ≤ sizeLine; decide, fun q8 m8 => ?_⟩
  generalize hK8 : upd G17 q8 _ = G18
  have k8 : G18 q8 = some (.lst (vstrs ((toldG M A B C EB DA).getD 8 []))):=by rw [← hK8]; exact upd_same
  have V8 : Same G17 G18:=by rw [← hK8]; exact (Same.refl G17).upd m8
  refine ⟨p7,q8,_,_,rfl,rfl,V8 _ _ g7G17,k8,by show 40 ≤ sizeLine; decide,fun p8 n8=>?_⟩
  change gName 5 _ [some (.ref x), some (.int c), some (.str A), some (.str M), some (.str (M ++ Str.ofString " " ++ A)), some (.ref p7), none, none] _ _
  generalize hL8 : upd G18 p8 _ = G19
  have g8 : G19 p8 = some (.lst (vstrs ((toldG M A B C EB DA).take 9).flatten)):=by rw [← hL8,upd_same,flat_nx (i:=8) (by show 8 < 15; decide)]
  have TG19 : Same H G19:=by rw [← hL8]; exact (TG17.trans V8).upd n8
  clear hK8 hL8
  refine ⟨_, rfl, rfl, rfl, _, _, rfl, rfl, Nat.le_trans (Nat.add_le_add (show (Str.ofString "cover ").length ≤ 6 by decide +kernel) (show ones.length ≤ 201 by rw [ones_len]; decide)) (by decide), _, _, rfl, rfl, Nat.le_trans (Nat.add_le_add (apl (show (Str.ofString "cover ").length ≤ 6 by decide +kernel) (show ones.length ≤ 201 by rw [ones_len]; decide)) (show (Str.ofString " ").length ≤ 1 by decide +kernel)) (by decide), _, rfl, _, _, rfl, rfl, Nat.le_trans (Nat.add_le_add (apl (apl (show (Str.ofString "cover ").length ≤ 6 by decide +kernel) (show ones.length ≤ 201 by rw [ones_len]; decide)) (show (Str.ofString " ").length ≤ 1 by decide +kernel)) hA) (by decide), _, rfl, _, _, rfl, rfl, Nat.le_trans (Nat.add_le_add (show (Str.ofString "reach 1_0 ").length ≤ 10 by decide +kernel) hA) (by decide), _, rfl, _, _, rfl, rfl, Nat.le_trans (Nat.add_le_add (show (Str.ofString "cover 1\t").length ≤ 8 by decide +kernel) hA) (by decide), by show 6 ≤ sizeLine; decide, fun q9 m9 => ?_⟩
  generalize hK9 : upd G19 q9 _ = G20
  have k9 : G20 q9 = some (.lst (vstrs ((toldG M A B C EB DA).getD 9 []))):=by rw [← hK9]; exact upd_same
  have V9 : Same G19 G20:=by rw [← hK9]; exact (Same.refl G19).upd m9
  refine ⟨p8,q9,_,_,rfl,rfl,V9 _ _ g8,k9,by show 46 ≤ sizeLine; decide,fun p9 n9=>?_⟩
  change gName 5 _ [some (.ref x), some (.int c), some (.str A), some (.str M), some (.str (M ++ Str.ofString " " ++ A)), some (.ref p8), none, none] _ _
  generalize hL9 : upd G20 p9 _ = G21
  have g9 : G21 p9 = some (.lst (vstrs ((toldG M A B C EB DA).take 10).flatten)):=by rw [← hL9,upd_same,flat_nx (i:=9) (by show 9 < 15; decide)]
  have TG21 : Same H G21:=by rw [← hL9]; exact (TG19.trans V9).upd n9
  clear hK9 hL9
  have nL:=n.same TG21
  refine ⟨_,rfl,x,_,dx,_,_,rfl,nL.ob,T.cl_Net,T.n_Net_bowls,rfl,_,rfl,_,_,rfl,rfl,⟨by decide,by decide⟩,_,_,rfl,rfl,_,rfl,x,_,dx,_,_,rfl,nL.ob,T.cl_Net,T.n_Net_bowls,rfl,b,_,rfl,.inl (SqL.of nL.hb),_,_,rfl,rfl,lp,b,_,_,_,rfl,rfl,SqL.of nL.hb,aB,?_⟩
  change gName 6 _ [some (.ref x), some (.int c), some (.str A), some (.str M), some (.str (M ++ Str.ofString " " ++ A)), some (.ref p9), none, none] _ _
  refine ⟨_,rfl,x,_,dx,_,_,rfl,nL.ob,T.cl_Net,T.n_Net_bowls,rfl,_,rfl,_,_,rfl,rfl,⟨by decide,by decide⟩,_,_,rfl,rfl,_,rfl,x,_,dx,_,_,rfl,nL.ob,T.cl_Net,T.n_Net_bowls,rfl,b,_,rfl,.inl (SqL.of nL.hb),_,_,rfl,rfl,lp,b,_,_,_,rfl,rfl,SqL.of nL.hb,aC,?_⟩
  change gName 7 _ [some (.ref x), some (.int c), some (.str A), some (.str M), some (.str (M ++ Str.ofString " " ++ A)), some (.ref p9), some (.str B), none] _ _
  refine ⟨_, rfl, _, rfl, _, _, rfl, rfl, Nat.le_trans (Nat.add_le_add (show (Str.ofString "cover ").length ≤ 6 by decide +kernel) hP) (by decide), _, _, rfl, rfl, Nat.le_trans (Nat.add_le_add (apl (show (Str.ofString "cover ").length ≤ 6 by decide +kernel) hP) (show (Str.ofString " + 0 ").length ≤ 5 by decide +kernel)) (by decide), _, rfl, _, _, rfl, rfl, Nat.le_trans (Nat.add_le_add (apl (apl (show (Str.ofString "cover ").length ≤ 6 by decide +kernel) hP) (show (Str.ofString " + 0 ").length ≤ 5 by decide +kernel)) hB) (by decide), _, rfl, _, _, rfl, rfl, Nat.le_trans (Nat.add_le_add (show (Str.ofString "reach ").length ≤ 6 by decide +kernel) hP) (by decide), _, _, rfl, rfl, Nat.le_trans (Nat.add_le_add (apl (show (Str.ofString "reach ").length ≤ 6 by decide +kernel) hP) (show (Str.ofString " + 01 ").length ≤ 6 by decide +kernel)) (by decide), _, rfl, _, _, rfl, rfl, Nat.le_trans (Nat.add_le_add (apl (apl (show (Str.ofString "reach ").length ≤ 6 by decide +kernel) hP) (show (Str.ofString " + 01 ").length ≤ 6 by decide +kernel)) hB) (by decide), by show 2 ≤ sizeLine; decide, fun q10 m10 => ?_⟩
  generalize hK10 : upd G21 q10 _ = G22
  have k10 : G22 q10 = some (.lst (vstrs ((toldG M A B C EB DA).getD 10 []))):=by rw [← hK10]; exact upd_same
  have V10 : Same G21 G22:=by rw [← hK10]; exact (Same.refl G21).upd m10
  refine ⟨p9,q10,_,_,rfl,rfl,V10 _ _ g9,k10,by show 48 ≤ sizeLine; decide,fun p10 n10=>?_⟩
  change gName 5 _ [some (.ref x), some (.int c), some (.str A), some (.str M), some (.str (M ++ Str.ofString " " ++ A)), some (.ref p9), some (.str B), some (.str C)] _ _
  generalize hL10 : upd G22 p10 _ = G23
  have g10 : G23 p10 = some (.lst (vstrs ((toldG M A B C EB DA).take 11).flatten)):=by rw [← hL10,upd_same,flat_nx (i:=10) (by show 10 < 15; decide)]
  have TG23 : Same H G23:=by rw [← hL10]; exact (TG21.trans V10).upd n10
  clear hK10 hL10
  refine ⟨_, rfl, _, rfl, _, _, rfl, rfl, Nat.le_trans (Nat.add_le_add (show (Str.ofString "cover ").length ≤ 6 by decide +kernel) hP) (by decide), _, _, rfl, rfl, Nat.le_trans (Nat.add_le_add (apl (show (Str.ofString "cover ").length ≤ 6 by decide +kernel) hP) (show (Str.ofString " + 1 xyzzy").length ≤ 10 by decide +kernel)) (by decide), by show 2 ≤ sizeLine; decide, fun q11 m11 => ?_⟩
  generalize hK11 : upd G23 q11 _ = G24
  have k11 : G24 q11 = some (.lst (vstrs ((toldG M A B C EB DA).getD 11 []))):=by rw [← hK11]; exact upd_same
  have V11 : Same G23 G24:=by rw [← hK11]; exact (Same.refl G23).upd m11
  refine ⟨p10,q11,_,_,rfl,rfl,V11 _ _ g10,k11,by show 50 ≤ sizeLine; decide,fun p11 n11=>?_⟩
  change gName 5 _ [some (.ref x), some (.int c), some (.str A), some (.str M), some (.str (M ++ Str.ofString " " ++ A)), some (.ref p10), some (.str B), some (.str C)] _ _
  generalize hL11 : upd G24 p11 _ = G25
  have g11 : G25 p11 = some (.lst (vstrs ((toldG M A B C EB DA).take 12).flatten)):=by rw [← hL11,upd_same,flat_nx (i:=11) (by show 11 < 15; decide)]
  have TG25 : Same H G25:=by rw [← hL11]; exact (TG23.trans V11).upd n11
  clear hK11 hL11
  refine ⟨_, rfl, _, rfl, _, _, rfl, rfl, Nat.le_trans (Nat.add_le_add (show (Str.ofString "cover ").length ≤ 6 by decide +kernel) hP) (by decide), _, _, rfl, rfl, Nat.le_trans (Nat.add_le_add (apl (show (Str.ofString "cover ").length ≤ 6 by decide +kernel) hP) (show (Str.ofString " + 1 ").length ≤ 5 by decide +kernel)) (by decide), _, rfl, _, _, rfl, rfl, Nat.le_trans (Nat.add_le_add (apl (apl (show (Str.ofString "cover ").length ≤ 6 by decide +kernel) hP) (show (Str.ofString " + 1 ").length ≤ 5 by decide +kernel)) hB) (by decide), _, _, rfl, rfl, Nat.le_trans (Nat.add_le_add (apl (apl (apl (show (Str.ofString "cover ").length ≤ 6 by decide +kernel) hP) (show (Str.ofString " + 1 ").length ≤ 5 by decide +kernel)) hB) (show (Str.ofString " - 1 ").length ≤ 5 by decide +kernel)) (by decide), _, rfl, _, _, rfl, rfl, Nat.le_trans (Nat.add_le_add (apl (apl (apl (apl (show (Str.ofString "cover ").length ≤ 6 by decide +kernel) hP) (show (Str.ofString " + 1 ").length ≤ 5 by decide +kernel)) hB) (show (Str.ofString " - 1 ").length ≤ 5 by decide +kernel)) hC) (by decide), by show 1 ≤ sizeLine; decide, fun q12 m12 => ?_⟩
  generalize hK12 : upd G25 q12 _ = G26
  have k12 : G26 q12 = some (.lst (vstrs ((toldG M A B C EB DA).getD 12 []))):=by rw [← hK12]; exact upd_same
  have V12 : Same G25 G26:=by rw [← hK12]; exact (Same.refl G25).upd m12
  refine ⟨p11,q12,_,_,rfl,rfl,V12 _ _ g11,k12,by show 51 ≤ sizeLine; decide,fun p12 n12=>?_⟩
  change gName 5 _ [some (.ref x), some (.int c), some (.str A), some (.str M), some (.str (M ++ Str.ofString " " ++ A)), some (.ref p11), some (.str B), some (.str C)] _ _
  generalize hL12 : upd G26 p12 _ = G27
  have g12 : G27 p12 = some (.lst (vstrs ((toldG M A B C EB DA).take 13).flatten)):=by rw [← hL12,upd_same,flat_nx (i:=12) (by show 12 < 15; decide)]
  have TG27 : Same H G27:=by rw [← hL12]; exact (TG25.trans V12).upd n12
  clear hK12 hL12
  refine ⟨_, rfl, _, rfl, _, _, rfl, rfl, Nat.le_trans (Nat.add_le_add (show (Str.ofString "reach ").length ≤ 6 by decide +kernel) hP) (by decide), _, _, rfl, rfl, Nat.le_trans (Nat.add_le_add (apl (show (Str.ofString "reach ").length ≤ 6 by decide +kernel) hP) (show (Str.ofString " + 2 ").length ≤ 5 by decide +kernel)) (by decide), _, rfl, _, _, rfl, rfl, Nat.le_trans (Nat.add_le_add (apl (apl (show (Str.ofString "reach ").length ≤ 6 by decide +kernel) hP) (show (Str.ofString " + 2 ").length ≤ 5 by decide +kernel)) hB) (by decide), _, _, rfl, rfl, Nat.le_trans (Nat.add_le_add (apl (apl (apl (show (Str.ofString "reach ").length ≤ 6 by decide +kernel) hP) (show (Str.ofString " + 2 ").length ≤ 5 by decide +kernel)) hB) (show (Str.ofString " + 1 ").length ≤ 5 by decide +kernel)) (by decide), _, rfl, _, _, rfl, rfl, Nat.le_trans (Nat.add_le_add (apl (apl (apl (apl (show (Str.ofString "reach ").length ≤ 6 by decide +kernel) hP) (show (Str.ofString " + 2 ").length ≤ 5 by decide +kernel)) hB) (show (Str.ofString " + 1 ").length ≤ 5 by decide +kernel)) hA) (by decide), by show 1 ≤ sizeLine; decide, fun q13 m13 => ?_⟩
  generalize hK13 : upd G27 q13 _ = G28
  have k13 : G28 q13 = some (.lst (vstrs ((toldG M A B C EB DA).getD 13 []))):=by rw [← hK13]; exact upd_same
  have V13 : Same G27 G28:=by rw [← hK13]; exact (Same.refl G27).upd m13
  refine ⟨p12,q13,_,_,rfl,rfl,V13 _ _ g12,k13,by show 52 ≤ sizeLine; decide,fun p13 n13=>?_⟩
  change gName 5 _ [some (.ref x), some (.int c), some (.str A), some (.str M), some (.str (M ++ Str.ofString " " ++ A)), some (.ref p12), some (.str B), some (.str C)] _ _
  generalize hL13 : upd G28 p13 _ = G29
  have g13 : G29 p13 = some (.lst (vstrs ((toldG M A B C EB DA).take 14).flatten)):=by rw [← hL13,upd_same,flat_nx (i:=13) (by show 13 < 15; decide)]
  have TG29 : Same H G29:=by rw [← hL13]; exact (TG27.trans V13).upd n13
  clear hK13 hL13
  refine ⟨_, rfl, _, rfl, _, _, rfl, rfl, Nat.le_trans (Nat.add_le_add (show (Str.ofString "cover ").length ≤ 6 by decide +kernel) hP) (by decide), _, _, rfl, rfl, Nat.le_trans (Nat.add_le_add (apl (show (Str.ofString "cover ").length ≤ 6 by decide +kernel) hP) (show (Str.ofString " + 1 ").length ≤ 5 by decide +kernel)) (by decide), _, rfl, _, _, rfl, rfl, Nat.le_trans (Nat.add_le_add (apl (apl (show (Str.ofString "cover ").length ≤ 6 by decide +kernel) hP) (show (Str.ofString " + 1 ").length ≤ 5 by decide +kernel)) hB) (by decide), _, _, rfl, rfl, Nat.le_trans (Nat.add_le_add (apl (apl (apl (show (Str.ofString "cover ").length ≤ 6 by decide +kernel) hP) (show (Str.ofString " + 1 ").length ≤ 5 by decide +kernel)) hB) (show (Str.ofString " + ").length ≤ 3 by decide +kernel)) (by decide), rfl, rfl, _, _, rfl, rfl, Nat.le_trans (Nat.add_le_add (apl (apl (apl (apl (show (Str.ofString "cover ").length ≤ 6 by decide +kernel) hP) (show (Str.ofString " + 1 ").length ≤ 5 by decide +kernel)) hB) (show (Str.ofString " + ").length ≤ 3 by decide +kernel)) (show ones.length ≤ 201 by rw [ones_len]; decide)) (by decide), _, _, rfl, rfl, Nat.le_trans (Nat.add_le_add (apl (apl (apl (apl (apl (show (Str.ofString "cover ").length ≤ 6 by decide +kernel) hP) (show (Str.ofString " + 1 ").length ≤ 5 by decide +kernel)) hB) (show (Str.ofString " + ").length ≤ 3 by decide +kernel)) (show ones.length ≤ 201 by rw [ones_len]; decide)) (show (Str.ofString " ").length ≤ 1 by decide +kernel)) (by decide), _, rfl, _, _, rfl, rfl, Nat.le_trans (Nat.add_le_add (apl (apl (apl (apl (apl (apl (show (Str.ofString "cover ").length ≤ 6 by decide +kernel) hP) (show (Str.ofString " + 1 ").length ≤ 5 by decide +kernel)) hB) (show (Str.ofString " + ").length ≤ 3 by decide +kernel)) (show ones.length ≤ 201 by rw [ones_len]; decide)) (show (Str.ofString " ").length ≤ 1 by decide +kernel)) hC) (by decide), by show 1 ≤ sizeLine; decide, fun q14 m14 => ?_⟩
  generalize hK14 : upd G29 q14 _ = G30
  have k14 : G30 q14 = some (.lst (vstrs ((toldG M A B C EB DA).getD 14 []))):=by rw [← hK14]; exact upd_same
  have V14 : Same G29 G30:=by rw [← hK14]; exact (Same.refl G29).upd m14
  refine ⟨p13,q14,_,_,rfl,rfl,V14 _ _ g13,k14,by show 53 ≤ sizeLine; decide,fun p14 n14=>?_⟩
  generalize hL14 : upd G30 p14 _ = G31
  have g14 : G31 p14 = some (.lst (vstrs ((toldG M A B C EB DA).take 15).flatten)):=by rw [← hL14,upd_same,flat_nx (i:=14) (by show 14 < 15; decide)]
  have TG31 : Same H G31:=by rw [← hL14]; exact (TG29.trans V14).upd n14
  clear hK14 hL14
  have eT : ((toldG M A B C EB DA).take 15) = toldG M A B C EB DA:=rfl
  rw [eT] at g14
  exact hQ p14 _ G31 TG31 g14 (tl EB DA) (bad EB DA okEB okDA outEB outDA)
theorem sc_law_beads_row : FnScope ["net", "way", "bowl", "many", "beads", "head"] ["net", "way", "bowl", "many"] (defScope s_law_beads_row) := ⟨rfl, rfl, rfl, by decide +kernel, rfl, by decide +kernel, by decide +kernel⟩
set_option maxHeartbeats 4000000 in
theorem ok_law_beads_row (T : Txt w K mg AR FR) : FnOk P w K mg base CX0 5 AR.f_law_beads_row FR.d_law_beads_row ["net", "way", "bowl", "many"] (sp_law_beads_row AR.C_Net K) := by
 have G_Net_init : FnOk P w K mg base CX0 3 AR.f_Net_init FR.d_Net_init _ (sp_Net_init AR.C_Net K):=ok_Net_init T
 refine T.F_law_beads_row.ok sc_law_beads_row (fun vs H Q E h=>?_) (fun cdv A outer s H vs Q E hr h=>?_)
 ·obtain ⟨x,dx,b,d,t,g,f,ts,gs,N,w,k,m,rfl,n,ok,hw,hk,mb,hQ⟩:=h
  rfl
 ·obtain ⟨x,dx,b,d,t,g,f,ts,gs,N,w,k,m,rfl,n,ok,hw,hk,mb,hQ⟩:=h
  refine ⟨_,(pss_cons (ps_set (i:=4) sc_law_beads_row.nd rfl (Or.inl rfl) (pe_op op_rep (pe_lst (pa_cons pe_int pa_nil)) (pe_callB call_len_seq (by rfl) T.z_len bt_len (pa_cons (pe_fld (pv 0) rfl) pa_nil))))
   (pss_cons (ps_asg (pv 3) (pg_sub (pv 4) (pv 2) set_list))
   (pss_cons (ps_set (i:=5) sc_law_beads_row.nd rfl (Or.inl rfl) (pe_ix ix_list (pe_lst (pa_cons pe_str (pa_cons pe_str pa_nil))) (pv 1) (fun _ _=>rfl)))
   (pss_cons (ps_if (pt_cmpR op_eq (pv 3) pe_int (nomark _)) (pss_one (ps_ret (pe_tup (pa_cons (pe_op op_add_str (pv 5) pe_str) (pa_cons (pe_lst (pa_cons (pe_tup (pa_cons (pv 5) (pa_cons (pv 4) pa_nil))) pa_nil)) pa_nil))))) pss_nil)
   (pss_one (ps_ret (pe_tup (pa_cons (pe_op op_add_str (pe_op op_add_str (pe_op op_add_str (pe_op op_add_str (pv 5) pe_str) (pe_callTy call_str_int (by rfl) T.z_str bt_str (pa_cons (pv 3) pa_nil))) pe_str) (pe_ix ix_list (pe_fld (pv 0) rfl) (pv 2) (fun _ _=>rfl))) (pa_cons (pe_lst (pa_cons (pe_tup (pa_cons (pv 5) (pa_cons (pv 4) pa_nil))) pa_nil)) pa_nil))))))))),?_⟩
  try dsimp only [kx1,kx2,kx3,Cx.nox,Cx.wish]
  have hs:=sizeLine_eq
  have b6:=ok.b6
  have vl : (vstrs N.bowls).length = N.bowls.length:=List.length_map ..
  refine ⟨by decide,fun l0 nl0=>?_⟩
  have U1:=(Same.refl H).upd nl0 (o:=.lst [V.int 0])
  have n1:=n.same U1
  refine ⟨_,rfl,x,_,dx,_,_,rfl,n1.ob,T.cl_Net,T.n_Net_bowls,rfl,b,_,rfl,.inl (SqL.of n1.hb),?_⟩
  refine ⟨l0,_,_,rfl,rfl,upd_same,by rw [vl]; omega,by rw [vl]; omega,by rw [vl]; show 1 * N.bowls.length ≤ _; exact Nat.le_of_lt (small70 (by omega)),fun p0 np0=>?_⟩
  rw [vl,Int.toNat_natCast,rep_flat]
  have U2:=U1.upd np0 (o:=.lst (vints (List.replicate N.bowls.length 0)))
  have e0:=upd_same (H:=upd H l0 (.lst [V.int 0])) (a:=p0) (o:=.lst (vints (List.replicate N.bowls.length 0)))
  have f0 : H p0 = none:=U1.free np0
  generalize upd (upd H l0 (.lst [V.int 0])) p0 (.lst (vints (List.replicate N.bowls.length 0))) = H1 at U2 e0 ⊢
  refine ⟨_,rfl,_,rfl,_,rfl,p0,_,_,k,rfl,rfl,e0,ixN_nat (by rw [ints_len,List.length_replicate]; omega),?_⟩
  rw [set_ints]
  have U3:=U2.upd' f0 (o:=.lst (vints ((List.replicate N.bowls.length 0).set k (m : Int))))
  have g3:=upd_same (H:=H1) (a:=p0) (o:=.lst (vints ((List.replicate N.bowls.length 0).set k (m : Int))))
  generalize upd H1 p0 (.lst (vints ((List.replicate N.bowls.length 0).set k (m : Int)))) = H2 at U3 g3 ⊢
  refine ⟨by show 2 ≤ sizeLine; decide,fun ph nph=>?_⟩
  have W4 := (Same.refl H2).upd nph (o := .lst [V.str (Str.ofString "cover"), V.str (Str.ofString "reach")])
  have g4 := upd_same (H := H2) (a := ph) (o := .lst [V.str (Str.ofString "cover"), V.str (Str.ofString "reach")])
  generalize upd H2 ph (.lst [V.str (Str.ofString "cover"), V.str (Str.ofString "reach")]) = H3 at W4 g4 ⊢
  have U4:=U3.trans W4
  have g5:=W4 _ _ g3
  have n3:=n.same U4
  obtain ⟨hd, ea, hh, hl⟩ : ∃ hd : Str, atI [V.str (Str.ofString "cover"), V.str (Str.ofString "reach")] w = some (.str hd) ∧ (hd = wCover ∨ hd = wReach) ∧ hd.length ≤ 5 := by
   rcases hw with e | e
   ·rw [e]; exact ⟨wCover,rfl,.inl rfl,by decide +kernel⟩
   ·rw [e]; exact ⟨wReach,rfl,.inr rfl,by decide +kernel⟩
  refine ⟨_,rfl,ph,_,_,_,rfl,rfl,SqL.of g4,ea,?_⟩
  refine ⟨_,rfl,rfl,_,rfl,?_⟩
  have l2 : (Str.ofString " -").length = 2 := by decide +kernel
  have l1 : (Str.ofString " ").length = 1 := by decide +kernel
  have fin : ∀ (r : Str),RowA N r [.beads hd ((List.replicate N.bowls.length 0).set k (m : Int))]→∀ a,H3 a = none→∀ l,upd H3 a (.tup [V.str hd,V.ref p0]) l = none→∀ p,upd (upd H3 a (.tup [V.str hd,V.ref p0])) l (.lst [V.ref a]) p = none→Q (.ref p) (upd (upd (upd H3 a (.tup [V.str hd,V.ref p0])) l (.lst [V.ref a])) p (.tup [V.str r,V.ref l])):=fun r hr a na l nl p np=>by
   have A1:=(Same.refl H3).upd na (o:=.tup [V.str hd,V.ref p0])
   have q1:=upd_same (H:=H3) (a:=a) (o:=.tup [V.str hd,V.ref p0])
   generalize upd H3 a (.tup [V.str hd,V.ref p0]) = G1 at A1 q1 nl np ⊢
   have A2:=(Same.refl G1).upd nl (o:=.lst [V.ref a])
   have q2:=upd_same (H:=G1) (a:=l) (o:=.lst [V.ref a])
   generalize upd G1 l (.lst [V.ref a]) = G2 at A2 q2 np ⊢
   have A3:=(Same.refl G2).upd np (o:=.tup [V.str r,V.ref l])
   exact hQ r (.beads hd ((List.replicate N.bowls.length 0).set k (m : Int))) p l a _ (U4.trans (A1.trans (A2.trans A3))) (U4.free (A1.free nl)) upd_same (A3 _ _ q2) ⟨p0,A3 _ _ (A2 _ _ q1),A3 _ _ (A2 _ _ (A1 _ _ g5))⟩ hr
  refine iteD (fun z=>?_) (fun z=>?_)
  ·have z : m = 0:=by
    have : (m : Int) = 0:=vint_eq.mp z
    omega
   have e : (List.replicate N.bowls.length (0 : Int)).set k (m : Int) = List.replicate N.bowls.length 0:=by
    rw [z]
    refine List.ext_getElem? fun j=>?_
    rw [List.getElem?_set]
    split
    ·rename_i q
     rw [← q,List.length_replicate,if_pos hk,List.getElem?_replicate,if_pos hk]
     rfl
    ·rfl
   refine ⟨_,rfl,_,_,rfl,rfl,(by omega),_,rfl,_,rfl,by show 2 ≤ sizeLine; decide,fun a na=>⟨by show 1 ≤ sizeLine; decide,fun l nl=>⟨by show 2 ≤ sizeLine; decide,fun p np=>?_⟩⟩⟩
   exact fin _ (by rw [e]; exact rowA_dash hh) a na l nl p np
  ·have m1 : 1 ≤ m:=Nat.pos_of_ne_zero fun q=>z (by rw [q]; rfl)
   have tl:=txI_le mb.1 mb.2
   have y8:=(name_tx (ok.bn _ (getD_in (z:=Str.empty) hk))).le
   refine ⟨_,rfl,_,_,rfl,rfl,(by omega),_,rfl,_,rfl,log_big mb,_,_,rfl,rfl,(by rw [Str.length_append]; show hd.length + _ + (txI (m : Int)).length ≤ _; omega),_,_,rfl,rfl,(by rw [Str.length_append,Str.length_append]; show hd.length + _ + (txI (m : Int)).length + _ ≤ _; omega),?_⟩
   refine ⟨_,rfl,x,_,dx,_,_,rfl,n3.ob,T.cl_Net,T.n_Net_bowls,rfl,_,rfl,b,_,_,_,rfl,rfl,SqL.of n3.hb,strs_atD hk,_,_,rfl,rfl,(by rw [Str.length_append,Str.length_append,Str.length_append]; show hd.length + _ + (txI (m : Int)).length + _ + _ ≤ _; omega),_,rfl,_,rfl,by show 2 ≤ sizeLine; decide,fun a na=>⟨by show 1 ≤ sizeLine; decide,fun l nl=>⟨by show 2 ≤ sizeLine; decide,fun p np=>?_⟩⟩⟩
   exact fin _ (rowA_beads ok hh m1 mb hk) a na l nl p np
theorem sc_law_row : FnScope ["net", "cell", "rest", "bowl", "way", "bad", "door"] ["net", "cell"] (defScope s_law_row) := ⟨rfl, rfl, rfl, by decide +kernel, rfl, by decide +kernel, by decide +kernel⟩
set_option maxHeartbeats 4000000 in
theorem ok_law_row (T : Txt w K mg AR FR) : FnOk P w K mg base CX0 7 AR.f_law_row FR.d_law_row ["net", "cell"] (sp_law_row AR.C_Net K) := by
 have G_Net_init : FnOk P w K mg base CX0 3 AR.f_Net_init FR.d_Net_init _ (sp_Net_init AR.C_Net K):=ok_Net_init T
 have G_law_bad_rows : FnOk P w K mg base CX0 6 AR.f_law_bad_rows FR.d_law_bad_rows _ (sp_law_bad_rows AR.C_Net K):=ok_law_bad_rows T
 have G_law_beads_row : FnOk P w K mg base CX0 5 AR.f_law_beads_row FR.d_law_beads_row _ (sp_law_beads_row AR.C_Net K):=ok_law_beads_row T
 refine T.F_law_row.ok sc_law_row (fun vs H Q E h=>?_) (fun cdv A outer s H vs Q E hr h=>?_)
 ·obtain ⟨x,dx,b,d,t,g,f,ts,gs,N,c,rfl,n,ok,xb,xd,hB,hG⟩:=h
  rfl
 ·obtain ⟨x,dx,b,d,t,g,f,ts,gs,N,c,rfl,n,ok,xb,xd,hB,hG⟩:=h
  refine ⟨_,(pss_cons (ps_set (i:=2) sc_law_row.nd rfl (Or.inl rfl) (pe_op op_fdiv (pv 1) pe_int))
   (pss_cons (ps_set (i:=3) sc_law_row.nd rfl (Or.inl rfl) (pe_op op_mod (pe_op op_fdiv (pv 2) pe_int) (pe_callB call_len_seq (by rfl) T.z_len bt_len (pa_cons (pe_fld (pv 0) rfl) pa_nil))))
   (pss_cons (ps_set (i:=4) sc_law_row.nd rfl (Or.inl rfl) (pe_op op_mod (pv 1) pe_int))
   (pss_cons (ps_if (pt_cmpR op_eq (pv 4) pe_int (nomark _)) (pss_cons (ps_set (i:=5) sc_law_row.nd rfl (Or.inl rfl) (pe_call G_law_bad_rows (hr.mono (by decide)) (by rfl) T.m_law_bad_rows T.F_law_bad_rows.kp T.b_law_bad_rows .nil pass0 (pa_cons (pv 0) (pa_cons (pv 2) pa_nil))))
   (pss_one (ps_ret (pe_tup (pa_cons (pe_ix ix_list (pv 5) (pe_op op_mod (pv 2) (pe_callB call_len_seq (by rfl) T.z_len bt_len (pa_cons (pv 5) pa_nil))) (fun _ _=>rfl)) (pa_cons pe_non pa_nil)))))) pss_nil)
   (pss_cons (ps_if (pt_cmpR op_eq (pv 4) pe_int (nomark _)) (pss_one (ps_ret (pe_tup (pa_cons (pe_ix ix_list (pe_lst (pa_cons pe_str (pa_cons pe_str (pa_cons pe_str (pa_cons pe_str pa_nil))))) (pe_op op_mod (pv 2) pe_int) (fun _ _=>rfl)) (pa_cons (pe_lst pa_nil) pa_nil))))) pss_nil)
   (pss_cons (ps_if (pt_cmpR op_lt (pv 4) pe_int (nomark _)) (pss_one (ps_ret (pe_call G_law_beads_row (hr.mono (by decide)) (by rfl) T.m_law_beads_row T.F_law_beads_row.kp T.b_law_beads_row .nil pass0 (pa_cons (pv 0) (pa_cons (pe_op op_sub (pv 4) pe_int) (pa_cons (pv 3) (pa_cons (pe_op op_add pe_int (pe_op op_mod (pe_op op_fdiv (pv 2) pe_int) (pe_op op_powB pe_int pe_int))) pa_nil))))))) pss_nil)
   (pss_cons (ps_if (pt_cmpR op_eq (pv 4) pe_int (nomark _)) (pss_one (ps_ret (pe_call G_law_beads_row (hr.mono (by decide)) (by rfl) T.m_law_beads_row T.F_law_beads_row.kp T.b_law_beads_row .nil pass0 (pa_cons (pv 0) (pa_cons (pe_op op_mod (pv 2) pe_int) (pa_cons (pv 3) (pa_cons pe_int pa_nil))))))) pss_nil)
   (pss_cons (ps_if (PW.pt (pw_or (pt_cmpR op_eq (pv 4) pe_int (nomark _)) (pw_or1 (PW.pt (pw_and (pt_cmpR op_eq (pv 4) pe_int (nomark _)) (pw_and1 (pt_cmpR op_eq (pe_callB call_len_seq (by rfl) T.z_len bt_len (pa_cons (pe_fld (pv 0) rfl) pa_nil)) pe_int (nomark _)))))))) (pss_one (ps_ret (pe_tup (pa_cons pe_str (pa_cons (pe_lst (pa_cons (pe_tup (pa_cons pe_str pa_nil)) pa_nil)) pa_nil))))) pss_nil)
   (pss_cons (ps_if (pt_cmpR op_lt (pv 4) pe_int (nomark _)) (pss_one (ps_ret (pe_tup (pa_cons (pe_op op_add_str pe_str (pe_ix ix_list (pe_fld (pv 0) rfl) (pv 3) (fun _ _=>rfl))) (pa_cons (pe_lst (pa_cons (pe_tup (pa_cons pe_str (pa_cons (pv 3) pa_nil))) pa_nil)) pa_nil))))) pss_nil)
   (pss_cons (ps_set (i:=6) sc_law_row.nd rfl (Or.inl rfl) (pe_op op_mod (pv 2) (pe_callB call_len_seq (by rfl) T.z_len bt_len (pa_cons (pe_fld (pv 0) rfl) pa_nil))))
   (pss_one (ps_ret (pe_tup (pa_cons (pe_op op_add_str pe_str (pe_ix ix_list (pe_fld (pv 0) rfl) (pv 6) (fun _ _=>rfl))) (pa_cons (pe_lst (pa_cons (pe_tup (pa_cons pe_str (pa_cons (pv 6) pa_nil))) pa_nil)) pa_nil))))))))))))))),?_⟩
  try dsimp only [kx1,kx2,kx3,Cx.nox,Cx.wish]
  have hs:=sizeLine_eq
  have b1:=ok.b1
  have b6:=ok.b6
  have vl : (vstrs N.bowls).length = N.bowls.length:=List.length_map ..
  have vd : (vstrs N.doors).length = N.doors.length:=List.length_map ..
  have lp : (0 : Int) < ((vstrs N.bowls).length : Int):=by rw [vl]; omega
  refine ⟨_,rfl,_,_,rfl,rfl,⟨by decide,by decide⟩,?_⟩
  change gName 2 (.int (c / 9)) [some (.ref x),some (.int c),none,none,none,none,none] _ _
  refine ⟨_,rfl,_,_,rfl,rfl,⟨by decide,by decide⟩,_,rfl,x,_,dx,_,_,rfl,n.ob,T.cl_Net,T.n_Net_bowls,rfl,b,_,rfl,.inl (SqL.of n.hb),_,_,rfl,rfl,lp,?_⟩
  change gName 3 (.int (c / 9 / 5 % ((vstrs N.bowls).length : Int))) [some (.ref x),some (.int c),some (.int (c / 9)),none,none,none,none] _ _
  obtain ⟨k,hk,kl⟩ : ∃ k : Nat,c / 9 / 5 % ((vstrs N.bowls).length : Int) = (k : Int)∧k < N.bowls.length:=by
   obtain ⟨z0,z1⟩:=em_in (a:=c / 9 / 5) lp
   obtain ⟨k,hk⟩:=Int.eq_ofNat_of_zero_le z0
   rw [hk,vl] at z1
   exact ⟨k,hk,by omega⟩
  rw [hk]
  clear hk
  refine ⟨_,rfl,_,_,rfl,rfl,(by show (0 : Int) < 9; decide),?_⟩
  obtain ⟨w0,w9⟩:=em_in (a:=c) (m:=9) (by decide)
  change gName 4 (.int (c % 9)) [some (.ref x),some (.int c),some (.int (c / 9)),some (.int (k : Int)),none,none,none] _ _
  generalize c % 9 = wy at w0 w9 ⊢
  generalize c / 9 = rs
  have beads : ∀ (r : Str) (v : AskV) (p l a : Addr) (H' : Hp),Same H H'→H l = none→H' p = some (.tup [.str r,.ref l])→H' l = some (.lst [.ref a])→AskIn H' a v→RowA N r [v]→Q (.ref p) H':=fun r v p l a H' S h0 h1 h2 h3 h4=>hG r [v] p l [a] H' S h0 h1 h2 (.cons h3 .nil) h4
  refine ⟨_,rfl,rfl,_,rfl,?_⟩
  refine iteD (fun z=>?_) (fun z=>?_)
  ·refine ⟨_,rfl,_,rfl,x,dx,b,d,t,g,f,ts,gs,N,rs,rfl,n,ok,xb,xd,fun q l H1 S1 hq l53 bad=>?_⟩
   change gName 5 (.ref q) [some (.ref x),some (.int c),some (.int rs),some (.int (k : Int)),some (.int wy),none,none] _ _
   have ll : (vstrs l).length = 53:=by rw [show (vstrs l).length = l.length from List.length_map ..]; exact l53
   have lp2 : (0 : Int) < ((vstrs l).length : Int):=by rw [ll]; decide
   obtain ⟨r,hr',ar⟩ : ∃ r ∈ l,atI (vstrs l) (rs % ((vstrs l).length : Int)) = some (.str r):=by
    obtain ⟨z0,z1⟩:=em_in (a:=rs) lp2
    obtain ⟨j,hj⟩:=Int.eq_ofNat_of_zero_le z0
    rw [hj] at z1 ⊢
    have jl : j < l.length:=by rw [ll] at z1; omega
    exact ⟨_,getD_in (z:=Str.empty) jl,strs_atD jl⟩
   refine ⟨_,rfl,_,rfl,_,rfl,q,_,rfl,.inl (SqL.of hq),_,_,rfl,rfl,lp2,q,_,_,_,rfl,rfl,SqL.of hq,ar,by show 2 ≤ sizeLine; decide,fun p np=>?_⟩
   exact hB r p _ (S1.upd np) upd_same (bad r hr')
  refine ⟨_,rfl,rfl,_,rfl,?_⟩
  refine iteD (fun z=>?_) (fun z2=>?_)
  ·refine ⟨by show 4 ≤ sizeLine; decide,fun q nq=>?_⟩
   have U1:=(Same.refl H).upd nq (o:=.lst (vstrs idleL))
   have g1:=upd_same (H:=H) (a:=q) (o:=.lst (vstrs idleL))
   obtain ⟨r,hr',ar⟩ : ∃ r ∈ idleL,atI (vstrs idleL) (rs % 4) = some (.str r):=by
    obtain ⟨z0,z1⟩:=em_in (a:=rs) (m:=4) (by decide)
    obtain ⟨j,hj⟩:=Int.eq_ofNat_of_zero_le z0
    rw [hj] at z1 ⊢
    have jl : j < idleL.length:=by show j < 4; omega
    exact ⟨_,getD_in (z:=Str.empty) jl,strs_atD jl⟩
   refine ⟨_,rfl,_,_,rfl,rfl,(by show (0 : Int) < 4; decide),q,_,_,_,rfl,rfl,SqL.of g1,ar,by show 0 ≤ sizeLine; decide,fun l nl=>?_⟩
   have U2:=U1.upd nl (o:=.lst [])
   have g2:=upd_same (H:=upd H q (.lst (vstrs idleL))) (a:=l) (o:=.lst [])
   refine ⟨by show 2 ≤ sizeLine; decide,fun p np=>?_⟩
   exact hG r [] p l [] _ (U2.upd np) (U1.free nl) upd_same ((Same.refl _).upd np _ _ g2) .nil (rowA_idle hr')
  have y8:=(name_tx (ok.bn _ (getD_in (z:=Str.empty) kl))).le
  refine ⟨_,rfl,_,_,rfl,rfl,_,rfl,?_⟩
  refine iteD (fun z3=>?_) (fun z3=>?_)
  ·have z3 : wy < 4:=z3
   have z1 : ¬ wy = 0:=fun q=>z (by rw [q])
   have z2 : ¬ wy = 1:=fun q=>z2 (by rw [q])
   obtain ⟨m0,m1⟩:=em_in (a:=rs / 30) (m:=(10 : Int) ^ 60) (by decide)
   obtain ⟨m,hm⟩:=Int.eq_ofNat_of_zero_le (show 0 ≤ 1 + rs / 30 % (10 : Int) ^ 60 by omega)
   refine ⟨_,rfl,_,rfl,_,_,rfl,rfl,_,rfl,_,rfl,_,_,rfl,rfl,⟨by decide,by decide⟩,_,_,rfl,rfl,⟨by decide,pow_60⟩,_,_,rfl,rfl,(by show (0 : Int) < (10 : Int) ^ 60; decide),_,_,rfl,rfl,x,dx,b,d,t,g,f,ts,gs,N,wy - 2,k,m,(by show [V.ref x,V.int (wy - 2),V.int (k : Int),V.int (1 + rs / 30 % (10 : Int) ^ 60)] = _; rw [hm]),n,ok,by omega,kl,⟨by omega,?_⟩,beads⟩
   show (m : Int) < 10 ^ 200
   rw [← hm]
   exact Int.lt_of_lt_of_le (show 1 + rs / 30 % (10 : Int) ^ 60 < (10 : Int) ^ 60 + 1 by omega) (by decide)
  refine ⟨_,rfl,rfl,_,rfl,?_⟩
  refine iteD (fun z4=>?_) (fun z4=>?_)
  ·obtain ⟨v0,v1⟩:=em_in (a:=rs) (m:=2) (by decide)
   exact ⟨_,rfl,_,rfl,_,_,rfl,rfl,(by show (0 : Int) < 2; decide),_,rfl,x,dx,b,d,t,g,f,ts,gs,N,rs % 2,k,0,rfl,n,ok,by omega,kl,⟨by decide,by decide⟩,beads⟩
  try dsimp only [tNext]
  refine or_by (p:=V.int wy = V.int 5) (q:=V.int wy = V.int 8∧V.int ((N.doors.length : Nat) : Int) = V.int 0) (fun K' hk=>?_) (fun K' hk=>?_) ?_
  ·exact ⟨_,rfl,rfl,_,rfl,hk⟩
  ·refine and_by (p:=V.int wy = V.int 8) (q:=V.int ((N.doors.length : Nat) : Int) = V.int 0) (fun K' hk=>?_) (fun _ K' hk=>?_) hk
   ·exact ⟨_,rfl,rfl,_,rfl,hk⟩
   ·refine ⟨_,rfl,x,_,dx,_,_,rfl,n.ob,T.cl_Net,T.n_Net_doors,rfl,d,_,rfl,.inl (SqL.of n.hd),rfl,_,rfl,?_⟩
    rw [vd]
    exact hk
  refine iteD (fun z5=>?_) (fun z5=>?_)
  ·refine ⟨by show 1 ≤ sizeLine; decide,fun a na=>?_⟩
   have U1:=(Same.refl H).upd na (o:=.tup [V.str wStick])
   have g1:=upd_same (H:=H) (a:=a) (o:=.tup [V.str wStick])
   refine ⟨by show 1 ≤ sizeLine; decide,fun l nl=>?_⟩
   have U2:=(Same.refl _).upd nl (o:=.lst [V.ref a])
   have g2:=upd_same (H:=upd H a (.tup [V.str wStick])) (a:=l) (o:=.lst [V.ref a])
   refine ⟨by show 2 ≤ sizeLine; decide,fun p np=>?_⟩
   have U3:=(Same.refl _).upd np (o:=.tup [V.str wStick,V.ref l])
   exact beads wStick (.bare wStick) p l a _ (U1.trans (U2.trans U3)) (U1.free nl) upd_same (U3 _ _ g2) (U3 _ _ (U2 _ _ g1)) rowA_stick
  refine ⟨_,rfl,_,_,rfl,rfl,_,rfl,?_⟩
  refine iteD (fun z6=>?_) (fun z6=>?_)
  ·have l5 : (Str.ofString "most ").length = 5 := by decide +kernel
   refine ⟨_,rfl,x,_,dx,_,_,rfl,n.ob,T.cl_Net,T.n_Net_bowls,rfl,_,rfl,b,_,_,_,rfl,rfl,SqL.of n.hb,strs_atD kl,_,_,rfl,rfl,by omega,_,rfl,by show 2 ≤ sizeLine; decide,fun a na=>?_⟩
   have U1:=(Same.refl H).upd na (o:=.tup [V.str wMost,V.int (k : Int)])
   have g1:=upd_same (H:=H) (a:=a) (o:=.tup [V.str wMost,V.int (k : Int)])
   refine ⟨by show 1 ≤ sizeLine; decide,fun l nl=>?_⟩
   have U2:=(Same.refl _).upd nl (o:=.lst [V.ref a])
   have g2:=upd_same (H:=upd H a (.tup [V.str wMost,V.int (k : Int)])) (a:=l) (o:=.lst [V.ref a])
   refine ⟨by show 2 ≤ sizeLine; decide,fun p np=>?_⟩
   have U3 := (Same.refl _).upd np (o := .tup [V.str (Str.ofString "most " ++ N.bowls.getD k Str.empty), V.ref l])
   exact beads _ (.place wMost k) p l a _ (U1.trans (U2.trans U3)) (U1.free nl) upd_same (U3 _ _ g2) (U3 _ _ (U2 _ _ g1)) (rowA_most ok kl)
  have z6 : ¬ wy < 8:=z6
  have e8 : wy = 8:=by omega
  have dp : 0 < N.doors.length:=Nat.pos_of_ne_zero fun q=>z5 (.inr ⟨by rw [e8],by rw [q]; rfl⟩)
  have lp3 : (0 : Int) < ((vstrs N.doors).length : Int):=by rw [vd]; omega
  refine ⟨_,rfl,_,rfl,x,_,dx,_,_,rfl,n.ob,T.cl_Net,T.n_Net_doors,rfl,d,_,rfl,.inl (SqL.of n.hd),_,_,rfl,rfl,lp3,?_⟩
  obtain ⟨j,hj,jl⟩ : ∃ j : Nat,rs % ((vstrs N.doors).length : Int) = (j : Int)∧j < N.doors.length:=by
   obtain ⟨z0,z1⟩:=em_in (a:=rs) lp3
   obtain ⟨j,hj⟩:=Int.eq_ofNat_of_zero_le z0
   rw [hj,vd] at z1
   exact ⟨j,hj,by omega⟩
  change gName 6 (.int (rs % ((vstrs N.doors).length : Int))) [some (.ref x),some (.int c),some (.int rs),some (.int (k : Int)),some (.int wy),none,none] _ _
  rw [hj]
  have d8:=(name_tx (ok.dn _ (getD_in (z:=Str.empty) jl))).le
  have l5 : (Str.ofString "ever ").length = 5 := by decide +kernel
  refine ⟨_,rfl,x,_,dx,_,_,rfl,n.ob,T.cl_Net,T.n_Net_doors,rfl,_,rfl,d,_,_,_,rfl,rfl,SqL.of n.hd,strs_atD jl,_,_,rfl,rfl,by omega,_,rfl,by show 2 ≤ sizeLine; decide,fun a na=>?_⟩
  have U1:=(Same.refl H).upd na (o:=.tup [V.str wEver,V.int (j : Int)])
  have g1:=upd_same (H:=H) (a:=a) (o:=.tup [V.str wEver,V.int (j : Int)])
  refine ⟨by show 1 ≤ sizeLine; decide,fun l nl=>?_⟩
  have U2:=(Same.refl _).upd nl (o:=.lst [V.ref a])
  have g2:=upd_same (H:=upd H a (.tup [V.str wEver,V.int (j : Int)])) (a:=l) (o:=.lst [V.ref a])
  refine ⟨by show 2 ≤ sizeLine; decide,fun p np=>?_⟩
  have U3 := (Same.refl _).upd np (o := .tup [V.str (Str.ofString "ever " ++ N.doors.getD j Str.empty), V.ref l])
  exact beads _ (.place wEver j) p l a _ (U1.trans (U2.trans U3)) (U1.free nl) upd_same (U3 _ _ g2) (U3 _ _ (U2 _ _ g1)) (rowA_ever ok jl)
theorem sc_read_count : FnScope ["word", "figures"] ["word", "figures"] (defScope s_read_count) := ⟨rfl, rfl, rfl, by decide +kernel, rfl, by decide +kernel, by decide +kernel⟩
set_option maxHeartbeats 4000000 in
theorem ok_read_count (T : Txt w K mg AR FR) : FnOk P w K mg base CX0 1 AR.f_read_count FR.d_read_count ["word", "figures"] (sp_read_count K) := by
 refine T.F_read_count.ok sc_read_count (fun vs H Q E h=>?_) (fun cdv A outer s H vs Q E hr h=>?_)
 ·obtain ⟨w,n,rfl,hw,hl,n2,hQ⟩:=h
  rfl
 ·obtain ⟨w,n,rfl,hw,hl,n2,hQ⟩:=h
  refine ⟨_, (pss_cons (ps_if (PW.pt (pw_or (pt_not (pt_chain op_le op_le pe_int (pe_callB call_len_str (by rfl) T.z_len bt_len (pa_cons (pv 0) pa_nil)) (pv 1))) (pw_or1 (pt_not (pt_val (pe_callB (call_all_list rfl) (by rfl) T.z_all bt_all (pa_cons (pe_comp (N' := ["sign"]) (nt := 1) (caps := []) _ _ (CompScope.of (by kernel_rfl)) (pi_str (pv 0)) (fun _ => (pg_nameC (i := 0) ["sign"] (by decide +kernel) (by rfl))) (fun _ => pts_nil) (fun _ => (pe_chain op_le_str op_le_str pe_str (pv 0) pe_str))) pa_nil))))))) (pss_one (ps_ret pe_non)) pss_nil)
   (pss_cons (ps_if (PW.pt (pw_and (pt_val (pe_bm PySem.F.plainAttrs_str PySem.F.slot_str_startswith PySem.F.type_str_startswith (mt_startswith 48) (pv 0) (pa_cons pe_str pa_nil))) (pw_and1 (pt_cmpR op_ne (pv 0) pe_str (nomark _))))) (pss_one (ps_ret pe_non)) pss_nil)
   (pss_one (ps_ret (pe_callTy call_intT (by rfl) T.z_int bt_int (pa_cons (pv 0) pa_nil)))))),?_⟩
  try dsimp only [kx1,kx2,kx3,Cx.nox,Cx.wish]
  have hx:=okT_ascii hw
  have no : cntF n w = none→∀ H',Same H H'→Q .non H':=fun e H' S=>by have:=hQ H' S; rw [e] at this; exact this
  have yes : ∀ c,cntF n w = some c→∀ H',Same H H'→Q (.int ((c : Nat) : Int)) H':=fun c e H' S=>by have:=hQ H' S; rw [e] at this; exact this
  refine ⟨_,rfl,w,rfl,Nat.le_trans hl (by decide),_,_,rfl,rfl,_,rfl,?_⟩
  refine iteD (fun h1=>?_) (fun h1=>?_)
  rotate_left
  ·refine ⟨_,rfl,?_⟩
   refine iteT (iteT ?_)
   exact no (by unfold cntF; rw [if_neg (fun z=>h1 (by have:=z.1.1; omega))]) _ (Same.refl _)
  refine ⟨_,rfl,_,_,rfl,rfl,_,rfl,?_⟩
  refine iteND (fun h2=>?_) (fun h2=>?_)
  ·refine iteT ?_
   exact no (by unfold cntF; rw [if_neg (fun z=>h2 (by have:=z.1.2; omega))]) _ (Same.refl _)
  refine ⟨_,rfl,w,rfl,hx,?_⟩
  refine comp_strP (fun i zs σ H2=>(∃ v,σ = [v])∧Same H H2∧zs = ((w.cps.toList.take i).map fun c=>decide (48 ≤ c) && decide (c ≤ 57)).map V.bl) ⟨⟨none,rfl⟩,Same.refl _,rfl⟩ ?_ ?_ ?_
  ·rintro i zs σ H2 hi ⟨_,S,rfl⟩
   rw [List.length_map,List.length_map,List.length_take]
   have hs:=sizeLine_eq
   have hcs : w.cps.size = w.length:=rfl
   omega
  ·rintro B i c zs σ H2 hc ⟨⟨v,rfl⟩,S,rfl⟩
   try dsimp only [gName,tTrue]
   rw [if_pos rfl]
   have hc' : w.cps.toList[i]? = some c:=by simpa using hc
   have fin : ∀ k : Bool,(decide (48 ≤ c) && decide (c ≤ 57)) = k→(((w.cps.toList.take i).map fun c=>decide (48 ≤ c) && decide (c ≤ 57)).map V.bl ++ [V.bl k]) = ((w.cps.toList.take (i + 1)).map fun c=>decide (48 ≤ c) && decide (c ≤ 57)).map V.bl:=fun k e=>by
    rw [List.take_add_one,hc',Option.toList_some,List.map_append,List.map_append,← e]
    rfl
   refine ⟨_,rfl,_,_,rfl,rfl,_,rfl,?_⟩
   have ea : (!decide ((⟨#[c]⟩ : Str).cps.toList < (Str.ofString "0").cps.toList)) = decide (48 ≤ c) := le_one
   have ez : (!decide ((Str.ofString "9").cps.toList < (⟨#[c]⟩ : Str).cps.toList)) = decide (c ≤ 57) := le_one
   rw [ea]
   refine iteD (fun g1=>?_) (fun g1=>?_)
   ·refine ⟨_,_,rfl,rfl,⟨_,rfl⟩,S,?_⟩
    rw [ez]
    exact fin _ (by simp [g1])
   ·exact ⟨⟨_,rfl⟩,S,fin _ (by simp [g1])⟩
  rintro zs σ H2 ⟨_,S,rfl⟩ p hp
  rw [← Array.length_toList,List.take_length]
  have S2:=S.upd hp (o:=.lst ((w.cps.toList.map fun c=>decide (48 ≤ c) && decide (c ≤ 57)).map V.bl))
  refine ⟨p,_,rfl,SqL.of upd_same,_,rfl,?_⟩
  have eall : (List.map (fun c=>decide (48 ≤ c) && decide (c ≤ 57)) w.cps.toList).all id = digB w:=by
   unfold digB
   rw [List.all_map]
   rfl
  rw [eall]
  cases hd : digB w with
  | false =>
   refine iteT ?_
   exact no (by unfold cntF; rw [if_neg (fun z=>by rw [hd] at z; exact absurd z.2.1 (by decide))]) _ S2
  | true =>
   refine iteF ?_
   have S3:=S2
   generalize upd H2 p _ = H3 at S2 S3 ⊢
   refine ⟨_,rfl,rfl,w,rfl,rfl,_,rfl,?_⟩
   have fin : ¬ (hasHead 48 w = true∧w ≠ wZero)→cntF n w = some (numOf w):=fun h=>by
    unfold cntF
    rw [if_pos ⟨⟨by omega,by omega⟩,hd,h⟩]
   have ret : ¬ (hasHead 48 w = true∧w ≠ wZero)→∃ z : Str,[V.str w] = [V.str z]∧allDig z∧z.cps.toList ≠ []∧z.length ≤ 200∧Q (.int ((numOf z : Nat) : Int)) H3:=fun h=>⟨w,rfl,dig_all hd,fun z=>by have e : w.length = 0:=(congrArg List.length z : _) ; omega,by omega,yes _ (fin h) _ S3⟩
   cases hh : hasHead 48 w with
   | false =>
    refine iteF ?_
    exact ⟨_,rfl,ret fun z=>by rw [hh] at z; exact absurd z.1 (by decide)⟩
   | true =>
    refine iteT ?_
    refine ⟨_,rfl,rfl,_,rfl,?_⟩
    refine iteND (fun e=>?_) (fun e=>?_)
    ·exact no (by unfold cntF; rw [if_neg (fun z=>z.2.2 ⟨hh,fun q=>e (by rw [q])⟩)]) _ S3
    ·exact ⟨_,rfl,ret fun z=>z.2 (V.str.inj e)⟩
theorem sc_read_ask_count : FnScope ["word"] ["word"] (defScope s_read_ask_count) := ⟨rfl, rfl, rfl, by decide +kernel, rfl, by decide +kernel, by decide +kernel⟩
set_option maxHeartbeats 4000000 in
theorem ok_read_ask_count (T : Txt w K mg AR FR) : FnOk P w K mg base CX0 2 AR.f_read_ask_count FR.d_read_ask_count ["word"] (sp_read_ask_count K) := by
 obtain ⟨_,cc_MOST_FIGURES⟩:=T.c_MOST_FIGURES
 have G_read_count : FnOk P w K mg base CX0 1 AR.f_read_count FR.d_read_count _ (sp_read_count K):=ok_read_count T
 refine T.F_read_ask_count.ok sc_read_ask_count (fun vs H Q E h=>?_) (fun cdv A outer s H vs Q E hr h=>?_)
 ·obtain ⟨w,rfl,hw,hl,hQ⟩:=h
  rfl
 ·obtain ⟨w,rfl,hw,hl,hQ⟩:=h
  refine ⟨_,(pss_one (ps_ret (pe_call G_read_count (hr.mono (by decide)) (by rfl) T.m_read_count T.F_read_count.kp T.b_read_count .nil pass0 (pa_cons (pv 0) (pa_cons (pe_glob (v:=.int 200) (by rfl) cc_MOST_FIGURES ⟨_,rfl⟩) pa_nil))))),?_⟩
  try dsimp only [kx1,kx2,kx3,Cx.nox,Cx.wish]
  exact ⟨_,rfl,w,200,rfl,hw,hl,by decide,fun H1 S1=>hQ H1 S1⟩
theorem sc_place_of : FnScope ["names", "name"] ["names", "name"] (defScope s_place_of) := ⟨rfl, rfl, rfl, by decide +kernel, rfl, by decide +kernel, by decide +kernel⟩
set_option maxHeartbeats 4000000 in
theorem ok_place_of (T : Txt w K mg AR FR) : FnOk P w K mg base CX0 1 AR.f_place_of FR.d_place_of ["names", "name"] (sp_place_of K) := by
 refine T.F_place_of.ok sc_place_of (fun vs H Q E h=>?_) (fun cdv A outer s H vs Q E hr h=>?_)
 ·obtain ⟨l,ys,y,rfl,hl,hQ⟩:=h
  rfl
 ·obtain ⟨l,ys,y,rfl,hl,hQ⟩:=h
  refine ⟨_,(pss_cons (ps_if (pt_cmpR op_in_seq (pv 1) (pv 0) (by with_unfolding_all rfl)) (pss_one (ps_ret (pe_bm PySem.F.plainAttrs_list PySem.F.slot_list_index PySem.F.type_list_index mt_index (pv 0) (pa_cons (pv 1) pa_nil)))) pss_nil)
   (pss_one (ps_ret (pe_un un_neg pe_int)))),?_⟩
  try dsimp only [kx1,kx2,kx3,Cx.nox,Cx.wish]
  refine ⟨_,rfl,_,rfl,l,_,rfl,.inl (SqL.of hl),rfl,flat_strs ys,_,rfl,?_⟩
  show if inV (.str y) (vstrs ys) = true then _ else _
  rw [inV_strs]
  refine iteD (fun hin=>?_) (fun hin=>?_)
  ·exact ⟨_,rfl,.inl ⟨rfl,_,SqL.of hl⟩,_,rfl,l,ys,y,rfl,rfl,hl,hin,hQ⟩
  ·refine ⟨_,rfl,?_⟩
   have e : plc ys y = -1:=by unfold plc; rw [if_neg hin]
   rw [e] at hQ
   exact hQ
theorem sc_read_part : FnScope ["bowls", "words", "read", "bag", "pieces", "start", "count", "place"] ["bowls", "words", "read"] (defScope s_read_part) := ⟨rfl, rfl, rfl, by decide +kernel, rfl, by decide +kernel, by decide +kernel⟩
set_option maxHeartbeats 4000000 in
theorem ok_read_part (T : Txt w K mg AR FR) : FnOk P w K mg base CX0 3 AR.f_read_part FR.d_read_part ["bowls", "words", "read"] (sp_read_part AR.f_read_ask_count K) := by
 have G_read_ask_count : FnOk P w K mg base CX0 2 AR.f_read_ask_count FR.d_read_ask_count _ (sp_read_ask_count K):=ok_read_ask_count T
 have G_place_of : FnOk P w K mg base CX0 1 AR.f_place_of FR.d_place_of _ (sp_place_of K):=ok_place_of T
 refine T.F_read_part.ok sc_read_part (fun vs H Q E h=>?_) (fun cdv A outer s H vs Q E hr h=>?_)
 ·obtain ⟨pb,pw,bowls,ws,rfl,hb,hw,hws,wl,b6,hN,hY⟩:=h
  rfl
 ·obtain ⟨pb,pw,bowls,ws,rfl,hb,hw,hws,wl,b6,hN,hY⟩:=h
  refine ⟨_,(pss_cons (ps_set (i:=3) sc_read_part.nd rfl (Or.inl rfl) (pe_op op_rep (pe_lst (pa_cons pe_int pa_nil)) (pe_callB call_len_seq (by rfl) T.z_len bt_len (pa_cons (pv 0) pa_nil))))
   (pss_cons (ps_if (pt_cmpR (op_eqSs (hu0_of hr)) (pv 1) (pe_lst (pa_cons pe_str pa_nil)) (nomark _)) (pss_one (ps_ret (pv 3))) pss_nil)
   (pss_cons (ps_set (i:=4) sc_read_part.nd rfl (Or.inl rfl) (pe_op op_cat (pv 1) (pe_lst (pa_cons pe_str pa_nil))))
   (pss_cons (ps_if (pt_cmpR op_ne (pe_op op_mod (pe_callB call_len_seq (by rfl) T.z_len bt_len (pa_cons (pv 4) pa_nil)) pe_int) pe_int (nomark _)) (pss_one (ps_ret pe_non)) pss_nil)
   (pss_cons (ps_for PassesOwn.never rfl (pi_range3 (by rfl) T.z_range (pa_cons pe_int (pa_cons (pe_callB call_len_seq (by rfl) T.z_len bt_len (pa_cons (pv 4) pa_nil)) (pa_cons pe_int pa_nil)))) (pg_name (i:=5) sc_read_part.nd (by rfl) (Or.inl rfl))
   (pss_cons (ps_set (i:=6) sc_read_part.nd rfl (Or.inl rfl) (pe_callV 2 G_read_ask_count (hr.mono (by decide)) T.F_read_ask_count.kp T.b_read_ask_count .nil pass0 (pa_cons (pe_ix ix_list (pv 4) (pv 5) (fun _ _=>rfl)) pa_nil)))
   (pss_cons (ps_set (i:=7) sc_read_part.nd rfl (Or.inl rfl) (pe_call G_place_of (hr.mono (by decide)) (by rfl) T.m_place_of T.F_place_of.kp T.b_place_of .nil pass0 (pa_cons (pv 0) (pa_cons (pe_ix ix_list (pv 4) (pe_op op_add (pv 5) pe_int) (fun _ _=>rfl)) pa_nil))))
   (pss_cons (ps_if (PW.pt (pw_or (pt_cmpR op_isN (pv 6) pe_non (nomark _)) (pw_or (pt_cmpR op_eq (pv 6) pe_int (nomark _)) (pw_or (pt_cmpR op_eq (pv 7) (pe_un un_neg pe_int) (nomark _)) (pw_or (pt_cmpR op_gt (pe_ix ix_list (pv 3) (pv 7) (fun _ _=>rfl)) pe_int (nomark _)) (pw_or1 (pt_cmpR op_ne (pe_ix ix_list (pv 4) (pe_op op_add (pv 5) pe_int) (fun _ _=>rfl)) pe_str (nomark _)))))))) (pss_one (ps_ret pe_non)) pss_nil)
   (pss_one (ps_asg (pv 6) (pg_sub (pv 3) (pv 7) set_list)))))))
   (pss_one (ps_ret (pv 3)))))))),?_⟩
  try dsimp only [kx1,kx2,kx3,Cx.nox,Cx.wish]
  have hs:=sizeLine_eq
  have vb : (vstrs bowls).length = bowls.length:=List.length_map ..
  refine ⟨by decide,fun l nl=>?_⟩
  have U1:=(Same.refl H).upd nl (o:=.lst [V.int 0])
  refine ⟨_,rfl,pb,_,rfl,.inl (SqL.of (U1 _ _ hb)),?_⟩
  refine ⟨l,_,_,rfl,rfl,upd_same,by rw [vb]; omega,by rw [vb]; omega,by rw [vb]; show 1 * bowls.length ≤ _; exact Nat.le_of_lt (small70 (by omega)),fun p0 np0=>?_⟩
  rw [vb,Int.toNat_natCast,rep_flat]
  have U2:=U1.upd np0 (o:=.lst (vints (List.replicate bowls.length 0)))
  have e0:=upd_same (H:=upd H l (.lst [V.int 0])) (a:=p0) (o:=.lst (vints (List.replicate bowls.length 0)))
  have f0 : H p0 = none:=U1.free np0
  generalize upd (upd H l (.lst [V.int 0])) p0 (.lst (vints (List.replicate bowls.length 0))) = H1 at U2 e0 ⊢
  refine ⟨_,rfl,by show 1 ≤ sizeLine; decide,fun q1 nq1=>?_⟩
  have U3 := U2.upd nq1 (o := .lst [V.str (Str.ofString "-")])
  have W3 := (Same.refl H1).upd nq1 (o := .lst [V.str (Str.ofString "-")])
  have g3 := upd_same (H := H1) (a := q1) (o := .lst [V.str (Str.ofString "-")])
  generalize upd H1 q1 (.lst [V.str (Str.ofString "-")]) = H3 at U3 W3 g3 ⊢
  refine ⟨pw,q1,ws,[wDash],rfl,rfl,SqL.of (U3 _ _ hw),SqL.of g3,_,rfl,?_⟩
  refine iteD (fun e=>?_) (fun e=>?_)
  ·exact ⟨_,rfl,hY _ (by unfold askF; rw [if_pos e]) p0 H3 f0 U3 (W3 _ _ e0)⟩
  refine ⟨_,rfl,by show 1 ≤ sizeLine; decide,fun q2 nq2=>?_⟩
  have U4 := U3.upd nq2 (o := .lst [V.str (Str.ofString "+")])
  have W4 := W3.upd nq2 (o := .lst [V.str (Str.ofString "+")])
  have g4 := upd_same (H := H3) (a := q2) (o := .lst [V.str (Str.ofString "+")])
  generalize upd H3 q2 (.lst [V.str (Str.ofString "+")]) = H4 at U4 W4 g4 ⊢
  have wlv : (vstrs ws).length = ws.length:=List.length_map ..
  refine ⟨pw,q2,_,_,rfl,rfl,U4 _ _ hw,g4,by rw [wlv]; show ws.length + 1 ≤ sizeLine; omega,fun pp npp=>?_⟩
  have ev : vstrs ws ++ [V.str (Str.ofString "+")] = vstrs (ws ++ [wPlus]) := by
   show List.map _ _ ++ _ = List.map _ (_ ++ _)
   rw [List.map_append]
   rfl
  rw [ev]
  have U5:=U4.upd npp (o:=.lst (vstrs (ws ++ [wPlus])))
  have W5:=W4.upd npp (o:=.lst (vstrs (ws ++ [wPlus])))
  have g5:=upd_same (H:=H4) (a:=pp) (o:=.lst (vstrs (ws ++ [wPlus])))
  generalize upd H4 pp (.lst (vstrs (ws ++ [wPlus]))) = H5 at U5 W5 g5 ⊢
  have eF : askF bowls ws = if (ws.length + 1) % 3 ≠ 0 then none else askL bowls (List.replicate bowls.length 0) (ws ++ [wPlus]):=by
   unfold askF
   rw [if_neg e]
  have pl : (vstrs (ws ++ [wPlus])).length = ws.length + 1:=by rw [show (vstrs (ws ++ [wPlus])).length = (ws ++ [wPlus]).length from List.length_map ..,List.length_append]; rfl
  have hps : ∀ w ∈ ws ++ [wPlus],okT w∧w.length ≤ 1000:=mem_end hws ⟨fun c hc=>by have : c ∈ [43]:=hc; rw [List.mem_singleton.mp this]; decide,by decide⟩
  refine ⟨_,rfl,pp,_,rfl,.inl (SqL.of g5),_,_,rfl,rfl,(by show (0 : Int) < 3; decide),rfl,_,rfl,?_⟩
  rw [pl]
  refine iteND (fun z=>?_) (fun z=>?_)
  ·exact hN (by rw [eF,if_pos (fun q=>z (by show V.int _ = V.int 0; congr 1; omega))]) H5 U5
  have z3 : (ws.length + 1) % 3 = 0:=by
   have : ((ws.length + 1 : Nat) : Int) % 3 = 0:=vint_eq.mp z
   omega
  rw [if_neg (by omega)] at eF
  rw [eF] at hN hY
  obtain ⟨_,st,_⟩:=steps_le (lo:=0) (hi:=((ws.length + 1 : Nat) : Int)) (c:=3) (by decide) (by omega) (by decide)
  have st:=st (by omega)
  refine ⟨_,rfl,pp,_,rfl,.inl (SqL.of g5),0,((ws.length + 1 : Nat) : Int),3,by rw [pl],⟨by decide,by decide,by omega,by omega,by decide,by decide⟩,?_⟩
  have pln : (ws ++ [wPlus]).length = ws.length + 1:=by rw [List.length_append]; rfl
  generalize ws ++ [wPlus] = ps at hN hY g5 pl hps pln
  generalize hR : askL bowls (List.replicate bowls.length 0) ps = Rz at hN hY
  generalize hn : nSteps 0 ((ws.length + 1 : Nat) : Int) 3 = n at st
  refine for_rangeS (fun i σ H6=>∃ (o5 o6 o7 : Option V) (bg : List Int),σ = [some (.ref pb),some (.ref pw),some (.ref AR.f_read_ask_count),some (.ref p0),some (.ref pp),o5,o6,o7]∧Same H H6∧H6 pp = some (.lst (vstrs ps))∧H6 p0 = some (.lst (vints bg))∧bg.length = bowls.length∧askL bowls bg (ps.drop (3 * i)) = Rz) ⟨none,none,none,_,rfl,U5,g5,W5 _ _ e0,List.length_replicate,hR⟩ ?_ ?_
  rotate_left
  ·rintro σ H6 ⟨o5,o6,o7,bg,rfl,S6,hp6,hb6,bl,eR⟩
   rw [List.drop_eq_nil_of_le (by omega)] at eR
   exact ⟨_,rfl,hY bg eR.symm p0 H6 f0 S6 hb6⟩
  rintro i σ H6 hi ⟨o5,o6,o7,bg,rfl,S6,hp6,hb6,bl,eR⟩
  have h0 : 3 * i < ps.length:=by omega
  have h1 : 3 * i + 1 < ps.length:=by omega
  have h2 : 3 * i + 2 < ps.length:=by omega
  have ed : ps.drop (3 * i) = ps[3 * i] :: ps[3 * i + 1] :: ps[3 * i + 2] :: ps.drop (3 * (i + 1)):=by
   rw [show 3 * (i + 1) = 3 * i + 2 + 1 by omega,List.drop_eq_getElem_cons h0,List.drop_eq_getElem_cons h1,List.drop_eq_getElem_cons h2]
  rw [ed] at eR
  obtain ⟨k0,k0'⟩:=hps _ (List.getElem_mem h0)
  have at0 : ∀ j (h : j < ps.length),atI (vstrs ps) ((j : Nat) : Int) = some (.str ps[j]):=fun j h=>atI_nat (by rw [List.getElem?_map,List.getElem?_eq_getElem h]; rfl)
  have ei : (0 : Int) + (i : Int) * 3 = ((3 * i : Nat) : Int):=by omega
  rw [ei]
  have c0:=at0 (3 * i) h0
  have c1:=at0 (3 * i + 1) h1
  have c2:=at0 (3 * i + 2) h2
  generalize ps[3 * i] = wa at eR k0 k0' c0
  generalize ps[3 * i + 1] = wb at eR c1
  generalize ps[3 * i + 2] = wc at eR c2
  refine ⟨rfl,_,rfl,_,rfl,pp,_,_,_,rfl,rfl,SqL.of hp6,c0,wa,rfl,k0,k0',fun H7 S7=>?_⟩
  have S67:=S6.trans S7
  have hp7:=S7 _ _ hp6
  have hb7:=S7 _ _ hb6
  refine ⟨_,rfl,_,rfl,_,rfl,_,_,rfl,rfl,pp,_,_,_,rfl,rfl,SqL.of hp7,c1,pb,bowls,wb,rfl,S67 _ _ hb,?_⟩
  have eP : askL bowls bg (wa :: wb :: wc :: ps.drop (3 * (i + 1))) = (match cntA wa with | none=>none | some n=>if n = 0 ∨ plc bowls wb = -1 ∨ 0 < bg.getD (plc bowls wb).toNat 0 ∨ wc ≠ wPlus then none else askL bowls (bg.set (plc bowls wb).toNat (n : Int)) (ps.drop (3 * (i + 1)))):=rfl
  rw [eP] at eR
  cases hbd : cntA wa with
  | none =>
   rw [hbd] at eR
   refine ⟨_,rfl,rfl,_,rfl,?_⟩
   refine iteD (fun _=>?_) (fun z=>absurd rfl z)
   exact iteT (hN eR.symm H7 S67)
  | some cn =>
   rw [hbd] at eR
   try dsimp only at eR
   have bad : (cn = 0 ∨ plc bowls wb = -1 ∨ 0 < bg.getD (plc bowls wb).toNat 0 ∨ wc ≠ wPlus)→Q .non H7:=fun h=>by
    rw [if_pos h] at eR
    exact hN eR.symm H7 S67
   refine ⟨_,rfl,rfl,_,rfl,?_⟩
   refine iteD (fun z=>nomatch z) (fun _=>?_)
   refine ⟨_,rfl,rfl,_,rfl,?_⟩
   refine iteD (fun z=>?_) (fun z0=>?_)
   ·exact bad (.inl (by have:=vint_eq.mp z; omega))
   refine ⟨_,rfl,_,rfl,rfl,_,rfl,?_⟩
   refine iteD (fun z=>?_) (fun z1=>?_)
   ·exact bad (.inr (.inl (vint_eq.mp z)))
   obtain ⟨j,hj,ej⟩:=plc_nat (fun z=>z1 (by rw [z]))
   rw [ej] at eR bad ⊢
   rw [Int.toNat_natCast] at eR bad
   refine ⟨_,rfl,_,rfl,p0,_,_,_,rfl,rfl,SqL.of hb7,(by have:=at_place (z:=bg.length) rfl (show j < bg.length by omega); rwa [Int.zero_add] at this),_,_,rfl,rfl,_,rfl,?_⟩
   refine iteD (fun z=>?_) (fun z2=>?_)
   ·exact bad (.inr (.inr (.inl z)))
   refine ⟨_,rfl,_,rfl,_,_,rfl,rfl,pp,_,_,_,rfl,rfl,SqL.of hp7,c2,rfl,_,rfl,?_⟩
   refine iteND (fun z=>?_) (fun z3=>?_)
   ·exact bad (.inr (.inr (.inr fun q=>z (by rw [q]))))
   have z3 : wc = wPlus:=V.str.inj z3
   have ok4 : ¬ (cn = 0 ∨ (j : Int) = -1 ∨ 0 < bg.getD j 0 ∨ wc ≠ wPlus):=by
    rintro (q | q | q | q)
    ·exact z0 (by rw [q]; rfl)
    ·omega
    ·exact z2 q
    ·exact q z3
   rw [if_neg ok4] at eR
   refine ⟨_,rfl,_,rfl,_,rfl,p0,_,_,j,rfl,rfl,hb7,ixN_nat (by rw [ints_len]; omega),?_⟩
   rw [set_ints]
   have pn : pp ≠ p0:=fun q=>by
    rw [q,hb7] at hp7
    have e2:=congrArg List.length (HO.lst.inj (Option.some.inj hp7))
    have e3 : vints bg = vstrs ps:=HO.lst.inj (Option.some.inj hp7)
    have : (vints bg)[0]? = (vstrs ps)[0]?:=by rw [e3]
    rw [List.getElem?_map,List.getElem?_map,List.getElem?_eq_getElem (show 0 < bg.length by omega),List.getElem?_eq_getElem (show 0 < ps.length by omega)] at this
    cases this
   exact ⟨_,_,_,_,rfl,S67.upd' f0,by rw [upd_ne pn]; exact hp7,upd_same,by rw [List.length_set]; exact bl,eR⟩
theorem sc_read_beads_ask : FnScope ["net", "kind", "words", "beads"] ["net", "kind", "words"] (defScope s_read_beads_ask) := ⟨rfl, rfl, rfl, by decide +kernel, rfl, by decide +kernel, by decide +kernel⟩
set_option maxHeartbeats 4000000 in
theorem ok_read_beads_ask (T : Txt w K mg AR FR) : FnOk P w K mg base CX0 5 AR.f_read_beads_ask FR.d_read_beads_ask ["net", "kind", "words"] (sp_read_beads_ask AR.C_Net AR.f_read_ask_count K) := by
 have G_Net_init : FnOk P w K mg base CX0 3 AR.f_Net_init FR.d_Net_init _ (sp_Net_init AR.C_Net K):=ok_Net_init T
 have G_read_part : FnOk P w K mg base CX0 3 AR.f_read_part FR.d_read_part _ (sp_read_part AR.f_read_ask_count K):=ok_read_part T
 have G_read_ask_count : FnOk P w K mg base CX0 2 AR.f_read_ask_count FR.d_read_ask_count _ (sp_read_ask_count K):=ok_read_ask_count T
 refine T.F_read_beads_ask.ok sc_read_beads_ask (fun vs H Q E h=>?_) (fun cdv A outer s H vs Q E hr h=>?_)
 ·obtain ⟨x,dx,b,d,t,g,f,pw,ts,gs,N,k,ws,rfl,n,ok,hw,hws,wl,hN,hY⟩:=h
  rfl
 ·obtain ⟨x,dx,b,d,t,g,f,pw,ts,gs,N,k,ws,rfl,n,ok,hw,hws,wl,hN,hY⟩:=h
  refine ⟨_,(pss_cons (ps_set (i:=3) sc_read_beads_ask.nd rfl (Or.inl rfl) (pe_call G_read_part (hr.mono (by decide)) (by rfl) T.m_read_part T.F_read_part.kp T.b_read_part .nil pass0 (pa_cons (pe_fld (pv 0) rfl) (pa_cons (pv 2) (pa_cons (pe_glob (v:=.ref AR.f_read_ask_count) (by rfl) T.m_read_ask_count rfl) pa_nil)))))
   (pss_one (ps_ret (pe_ifExp (pt_cmpR op_isN (pv 3) pe_non (nomark _)) pe_non (pe_tup (pa_cons (pv 1) (pa_cons (pv 3) pa_nil))))))),?_⟩
  try dsimp only [kx1,kx2,kx3,Cx.nox,Cx.wish]
  refine ⟨_,rfl,x,_,dx,_,_,rfl,n.ob,T.cl_Net,T.n_Net_bowls,rfl,_,rfl,b,pw,N.bowls,ws,rfl,n.hb,hw,hws,wl,ok.b6,fun e H1 S1=>?_,fun r e q H1 nq S1 hq=>?_⟩
  ·refine ⟨_,rfl,rfl,_,rfl,?_⟩
   exact iteD (fun _=>hN e H1 S1) (fun z=>absurd rfl z)
  refine ⟨_,rfl,rfl,_,rfl,?_⟩
  refine iteD (fun z=>nomatch z) (fun _=>?_)
  refine ⟨_,rfl,_,rfl,by show 2 ≤ sizeLine; decide,fun a na=>?_⟩
  have U:=(Same.refl H1).upd na (o:=.tup [V.str k,V.ref q])
  exact hY r e a _ (S1.trans U) ⟨q,upd_same,U _ _ hq⟩
theorem sc_placed_ask : FnScope ["kind", "place"] ["kind", "place"] (defScope s_placed_ask) := ⟨rfl, rfl, rfl, by decide +kernel, rfl, by decide +kernel, by decide +kernel⟩
set_option maxHeartbeats 4000000 in
theorem ok_placed_ask (T : Txt w K mg AR FR) : FnOk P w K mg base CX0 1 AR.f_placed_ask FR.d_placed_ask ["kind", "place"] (sp_placed_ask K) := by
 refine T.F_placed_ask.ok sc_placed_ask (fun vs H Q E h=>?_) (fun cdv A outer s H vs Q E hr h=>?_)
 ·obtain ⟨k,i,rfl,hN,hY⟩:=h
  rfl
 ·obtain ⟨k,i,rfl,hN,hY⟩:=h
  refine ⟨_,(pss_one (ps_ret (pe_ifExp (pt_cmpR op_eq (pv 1) (pe_un un_neg pe_int) (nomark _)) pe_non (pe_tup (pa_cons (pv 0) (pa_cons (pv 1) pa_nil)))))),?_⟩
  try dsimp only [kx1,kx2,kx3,Cx.nox,Cx.wish]
  refine ⟨_,rfl,_,rfl,rfl,_,rfl,?_⟩
  refine iteD (fun z=>hN (vint_eq.mp z) H (Same.refl _)) (fun z=>?_)
  refine ⟨_,rfl,_,rfl,by show 2 ≤ sizeLine; decide,fun a na=>?_⟩
  exact hY (fun e=>z (by rw [e])) a _ ((Same.refl H).upd na) upd_same
theorem sc_bowl_at : FnScope ["net", "name"] ["net", "name"] (defScope s_bowl_at) := ⟨rfl, rfl, rfl, by decide +kernel, rfl, by decide +kernel, by decide +kernel⟩
set_option maxHeartbeats 4000000 in
theorem ok_bowl_at (T : Txt w K mg AR FR) : FnOk P w K mg base CX0 5 AR.f_bowl_at FR.d_bowl_at ["net", "name"] (sp_bowl_at AR.C_Net K) := by
 have G_Net_init : FnOk P w K mg base CX0 3 AR.f_Net_init FR.d_Net_init _ (sp_Net_init AR.C_Net K):=ok_Net_init T
 have G_place_of : FnOk P w K mg base CX0 1 AR.f_place_of FR.d_place_of _ (sp_place_of K):=ok_place_of T
 refine T.F_bowl_at.ok sc_bowl_at (fun vs H Q E h=>?_) (fun cdv A outer s H vs Q E hr h=>?_)
 ·obtain ⟨x,dx,b,d,t,g,f,ts,gs,N,y,rfl,n,hQ⟩:=h
  rfl
 ·obtain ⟨x,dx,b,d,t,g,f,ts,gs,N,y,rfl,n,hQ⟩:=h
  refine ⟨_,(pss_one (ps_ret (pe_call G_place_of (hr.mono (by decide)) (by rfl) T.m_place_of T.F_place_of.kp T.b_place_of .nil pass0 (pa_cons (pe_fld (pv 0) rfl) (pa_cons (pv 1) pa_nil))))),?_⟩
  try dsimp only [kx1,kx2,kx3,Cx.nox,Cx.wish]
  exact ⟨_,rfl,x,_,dx,_,_,rfl,n.ob,T.cl_Net,T.n_Net_bowls,rfl,_,rfl,b,N.bowls,y,rfl,n.hb,hQ⟩
theorem sc_read_bowl_ask : FnScope ["net", "kind", "words"] ["net", "kind", "words"] (defScope s_read_bowl_ask) := ⟨rfl, rfl, rfl, by decide +kernel, rfl, by decide +kernel, by decide +kernel⟩
set_option maxHeartbeats 4000000 in
theorem ok_read_bowl_ask (T : Txt w K mg AR FR) : FnOk P w K mg base CX0 6 AR.f_read_bowl_ask FR.d_read_bowl_ask ["net", "kind", "words"] (sp_read_bowl_ask AR.C_Net K) := by
 have G_Net_init : FnOk P w K mg base CX0 3 AR.f_Net_init FR.d_Net_init _ (sp_Net_init AR.C_Net K):=ok_Net_init T
 have G_placed_ask : FnOk P w K mg base CX0 1 AR.f_placed_ask FR.d_placed_ask _ (sp_placed_ask K):=ok_placed_ask T
 have G_bowl_at : FnOk P w K mg base CX0 5 AR.f_bowl_at FR.d_bowl_at _ (sp_bowl_at AR.C_Net K):=ok_bowl_at T
 refine T.F_read_bowl_ask.ok sc_read_bowl_ask (fun vs H Q E h=>?_) (fun cdv A outer s H vs Q E hr h=>?_)
 ·obtain ⟨x,dx,b,d,t,g,f,pw,ts,gs,N,k,us,rfl,n,hw,hN,hY⟩:=h
  rfl
 ·obtain ⟨x,dx,b,d,t,g,f,pw,ts,gs,N,k,us,rfl,n,hw,hN,hY⟩:=h
  refine ⟨_,(pss_one (ps_ret (pe_ifExp (pt_cmpR op_eq (pe_callB call_len_seq (by rfl) T.z_len bt_len (pa_cons (pv 2) pa_nil)) pe_int (nomark _)) (pe_call G_placed_ask (hr.mono (by decide)) (by rfl) T.m_placed_ask T.F_placed_ask.kp T.b_placed_ask .nil pass0 (pa_cons (pv 1) (pa_cons (pe_call G_bowl_at (hr.mono (by decide)) (by rfl) T.m_bowl_at T.F_bowl_at.kp T.b_bowl_at .nil pass0 (pa_cons (pv 0) (pa_cons (pe_ix ix_list (pv 2) pe_int (fun _ _=>rfl)) pa_nil))) pa_nil))) pe_non))),?_⟩
  try dsimp only [kx1,kx2,kx3,Cx.nox,Cx.wish]
  have vl : (vstrs us).length = us.length:=List.length_map ..
  refine ⟨_,rfl,pw,_,rfl,.inl (SqL.of hw),rfl,_,rfl,?_⟩
  rw [vl]
  refine iteD (fun h=>?_) (fun h=>?_)
  ·have l1 : us.length = 1:=by have:=vint_eq.mp h; omega
   obtain ⟨y,rfl⟩ : ∃ y,us = [y]:=by
    match us,l1 with
    | [y],_=>exact ⟨y,rfl⟩
   refine ⟨_,rfl,_,rfl,_,rfl,pw,_,_,_,rfl,rfl,SqL.of hw,atI_nat (j:=0) rfl,x,dx,b,d,t,g,f,ts,gs,N,y,rfl,n,?_⟩
   by_cases hm : y ∈ N.bowls
   ·obtain ⟨j,hj,ej⟩:=plc_nat (ys:=N.bowls) (y:=y) (fun z=>by unfold plc at z; rw [if_pos hm] at z; exact absurd z (by omega))
    have hY:=hY ⟨rfl,hm⟩
    have e0 : [y].getD 0 wNone = y:=rfl
    rw [e0,ej,Int.toNat_natCast] at hY
    rw [ej]
    exact ⟨k,(j : Int),rfl,fun z=>absurd z (by omega),fun _=>hY⟩
   ·rw [plc_out hm]
    exact ⟨k,-1,rfl,fun _=>hN (fun z=>hm z.2),fun z=>absurd rfl z⟩
  ·exact hN (fun z=>h (by rw [z.1]; rfl)) H (Same.refl _)
theorem sc_read_bare_ask : FnScope ["net", "kind", "words"] ["net", "kind", "words"] (defScope s_read_bare_ask) := ⟨rfl, rfl, rfl, by decide +kernel, rfl, by decide +kernel, by decide +kernel⟩
set_option maxHeartbeats 4000000 in
theorem ok_read_bare_ask (T : Txt w K mg AR FR) : FnOk P w K mg base CX0 1 AR.f_read_bare_ask FR.d_read_bare_ask ["net", "kind", "words"] (sp_read_bare_ask K) := by
 refine T.F_read_bare_ask.ok sc_read_bare_ask (fun vs H Q E h=>?_) (fun cdv A outer s H vs Q E hr h=>?_)
 ·obtain ⟨v,pw,k,us,rfl,hw,hN,hY⟩:=h
  rfl
 ·obtain ⟨v,pw,k,us,rfl,hw,hN,hY⟩:=h
  refine ⟨_,(pss_one (ps_ret (pe_ifExp (pt_cmpR (op_eqE (hu0_of hr)) (pv 2) (pe_lst pa_nil) (nomark _)) (pe_tup (pa_cons (pv 1) pa_nil)) pe_non))),?_⟩
  try dsimp only [kx1,kx2,kx3,Cx.nox,Cx.wish]
  refine ⟨_,rfl,by show 0 ≤ sizeLine; decide,fun q nq=>?_⟩
  have U:=(Same.refl H).upd nq (o:=.lst [])
  refine ⟨pw,q,_,rfl,rfl,SqL.of (U _ _ hw),SqL.of upd_same,_,rfl,?_⟩
  cases us with
  | nil =>
   refine iteT ?_
   refine ⟨_,rfl,by show 1 ≤ sizeLine; decide,fun a na=>?_⟩
   exact hY rfl a _ (U.upd na) (show upd _ a _ a = some _ from upd_same)
  | cons u us=>exact iteF (hN (fun z=>by cases z) _ U)
theorem sc_door_at : FnScope ["net", "name"] ["net", "name"] (defScope s_door_at) := ⟨rfl, rfl, rfl, by decide +kernel, rfl, by decide +kernel, by decide +kernel⟩
set_option maxHeartbeats 4000000 in
theorem ok_door_at (T : Txt w K mg AR FR) : FnOk P w K mg base CX0 5 AR.f_door_at FR.d_door_at ["net", "name"] (sp_door_at AR.C_Net K) := by
 have G_Net_init : FnOk P w K mg base CX0 3 AR.f_Net_init FR.d_Net_init _ (sp_Net_init AR.C_Net K):=ok_Net_init T
 have G_place_of : FnOk P w K mg base CX0 1 AR.f_place_of FR.d_place_of _ (sp_place_of K):=ok_place_of T
 refine T.F_door_at.ok sc_door_at (fun vs H Q E h=>?_) (fun cdv A outer s H vs Q E hr h=>?_)
 ·obtain ⟨x,dx,b,d,t,g,f,ts,gs,N,y,rfl,n,hQ⟩:=h
  rfl
 ·obtain ⟨x,dx,b,d,t,g,f,ts,gs,N,y,rfl,n,hQ⟩:=h
  refine ⟨_,(pss_one (ps_ret (pe_call G_place_of (hr.mono (by decide)) (by rfl) T.m_place_of T.F_place_of.kp T.b_place_of .nil pass0 (pa_cons (pe_fld (pv 0) rfl) (pa_cons (pv 1) pa_nil))))),?_⟩
  try dsimp only [kx1,kx2,kx3,Cx.nox,Cx.wish]
  exact ⟨_,rfl,x,_,dx,_,_,rfl,n.ob,T.cl_Net,T.n_Net_doors,rfl,_,rfl,d,N.doors,y,rfl,n.hd,hQ⟩
theorem sc_read_door_ask : FnScope ["net", "kind", "words"] ["net", "kind", "words"] (defScope s_read_door_ask) := ⟨rfl, rfl, rfl, by decide +kernel, rfl, by decide +kernel, by decide +kernel⟩
set_option maxHeartbeats 4000000 in
theorem ok_read_door_ask (T : Txt w K mg AR FR) : FnOk P w K mg base CX0 6 AR.f_read_door_ask FR.d_read_door_ask ["net", "kind", "words"] (sp_read_door_ask AR.C_Net K) := by
 have G_Net_init : FnOk P w K mg base CX0 3 AR.f_Net_init FR.d_Net_init _ (sp_Net_init AR.C_Net K):=ok_Net_init T
 have G_placed_ask : FnOk P w K mg base CX0 1 AR.f_placed_ask FR.d_placed_ask _ (sp_placed_ask K):=ok_placed_ask T
 have G_door_at : FnOk P w K mg base CX0 5 AR.f_door_at FR.d_door_at _ (sp_door_at AR.C_Net K):=ok_door_at T
 refine T.F_read_door_ask.ok sc_read_door_ask (fun vs H Q E h=>?_) (fun cdv A outer s H vs Q E hr h=>?_)
 ·obtain ⟨x,dx,b,d,t,g,f,pw,ts,gs,N,k,us,rfl,n,hw,hN,hY⟩:=h
  rfl
 ·obtain ⟨x,dx,b,d,t,g,f,pw,ts,gs,N,k,us,rfl,n,hw,hN,hY⟩:=h
  refine ⟨_,(pss_one (ps_ret (pe_ifExp (pt_cmpR op_eq (pe_callB call_len_seq (by rfl) T.z_len bt_len (pa_cons (pv 2) pa_nil)) pe_int (nomark _)) (pe_call G_placed_ask (hr.mono (by decide)) (by rfl) T.m_placed_ask T.F_placed_ask.kp T.b_placed_ask .nil pass0 (pa_cons (pv 1) (pa_cons (pe_call G_door_at (hr.mono (by decide)) (by rfl) T.m_door_at T.F_door_at.kp T.b_door_at .nil pass0 (pa_cons (pv 0) (pa_cons (pe_ix ix_list (pv 2) pe_int (fun _ _=>rfl)) pa_nil))) pa_nil))) pe_non))),?_⟩
  try dsimp only [kx1,kx2,kx3,Cx.nox,Cx.wish]
  have vl : (vstrs us).length = us.length:=List.length_map ..
  refine ⟨_,rfl,pw,_,rfl,.inl (SqL.of hw),rfl,_,rfl,?_⟩
  rw [vl]
  refine iteD (fun h=>?_) (fun h=>?_)
  ·have l1 : us.length = 1:=by have:=vint_eq.mp h; omega
   obtain ⟨y,rfl⟩ : ∃ y,us = [y]:=by
    match us,l1 with
    | [y],_=>exact ⟨y,rfl⟩
   refine ⟨_,rfl,_,rfl,_,rfl,pw,_,_,_,rfl,rfl,SqL.of hw,atI_nat (j:=0) rfl,x,dx,b,d,t,g,f,ts,gs,N,y,rfl,n,?_⟩
   by_cases hm : y ∈ N.doors
   ·obtain ⟨j,hj,ej⟩:=plc_nat (ys:=N.doors) (y:=y) (fun z=>by unfold plc at z; rw [if_pos hm] at z; exact absurd z (by omega))
    have hY:=hY ⟨rfl,hm⟩
    have e0 : [y].getD 0 wNone = y:=rfl
    rw [e0,ej,Int.toNat_natCast] at hY
    rw [ej]
    exact ⟨k,(j : Int),rfl,fun z=>absurd z (by omega),fun _=>hY⟩
   ·rw [plc_out hm]
    exact ⟨k,-1,rfl,fun _=>hN (fun z=>hm z.2),fun z=>absurd rfl z⟩
  ·exact hN (fun z=>h (by rw [z.1]; rfl)) H (Same.refl _)
theorem sc_BadAsk_init : FnScope ["self", "words", "row"] ["self", "words", "row"] (defScope s_BadAsk_init) := ⟨rfl, rfl, rfl, by decide +kernel, rfl, by decide +kernel, by decide +kernel⟩
set_option maxHeartbeats 4000000 in
theorem ok_BadAsk_init (T : Txt w K mg AR FR) : FnOk P w K mg base CX0 1 AR.f_BadAsk_init FR.d_BadAsk_init ["self", "words", "row"] (sp_BadAsk_init AR.C_BadAsk K) := by
 refine T.F_BadAsk_init.ok sc_BadAsk_init (fun vs H Q E h=>?_) (fun cdv A outer s H vs Q E hr h=>?_)
 ·obtain ⟨e,t,w',y,rfl,he,hQ⟩:=h
  rfl
 ·obtain ⟨e,t,w',y,rfl,he,hQ⟩:=h
  refine ⟨_,(pss_cons (ps_xinit T.xb_HallError (by rfl) T.mC_HallError (pa_cons (pv 0) (pa_cons (pv 1) pa_nil)))
   (pss_one (ps_xset (pv 0) (pv 2)))),?_⟩
  try dsimp only [kx1,kx2,kx3,Cx.nox,Cx.wish]
  refine ⟨_,rfl,_,rfl,e,AR.C_BadAsk,t,_,rfl,he,T.ec_BadAsk,fun t'=>?_⟩
  refine ⟨_,rfl,_,rfl,e,AR.C_BadAsk,AR.C_HallError,t',rfl,upd_same,T.ec_BadAsk,T.xs_BadAsk,T.xa_BadAsk_row,fun dx nd=>hQ dx t' ?_⟩
  have ne : dx ≠ e:=fun z=>by rw [z,upd_same] at nd; cases nd
  rw [upd_ne ne] at nd
  exact nd
theorem sc_ask_of_row : FnScope ["net", "row", "number", "words", "ask"] ["net", "row", "number"] (defScope s_ask_of_row) := ⟨rfl, rfl, rfl, by decide +kernel, rfl, by decide +kernel, by decide +kernel⟩
set_option maxHeartbeats 4000000 in
theorem ok_ask_of_row (T : Txt w K mg AR FR) : FnOk P w K mg base (CXF P w) 7 AR.f_ask_of_row FR.d_ask_of_row ["net", "row", "number"] (sp_ask_of_row AR.C_Net AR.C_BadAsk K) := by
 have G_Net_init : FnOk P w K mg base CX0 3 AR.f_Net_init FR.d_Net_init _ (sp_Net_init AR.C_Net K):=ok_Net_init T
 have G_read_beads_ask : FnOk P w K mg base CX0 5 AR.f_read_beads_ask FR.d_read_beads_ask _ (sp_read_beads_ask AR.C_Net AR.f_read_ask_count K):=ok_read_beads_ask T
 have G_read_bowl_ask : FnOk P w K mg base CX0 6 AR.f_read_bowl_ask FR.d_read_bowl_ask _ (sp_read_bowl_ask AR.C_Net K):=ok_read_bowl_ask T
 have G_read_bare_ask : FnOk P w K mg base CX0 1 AR.f_read_bare_ask FR.d_read_bare_ask _ (sp_read_bare_ask K):=ok_read_bare_ask T
 have G_read_door_ask : FnOk P w K mg base CX0 6 AR.f_read_door_ask FR.d_read_door_ask _ (sp_read_door_ask AR.C_Net K):=ok_read_door_ask T
 have G_BadAsk_init : FnOk P w K mg base CX0 1 AR.f_BadAsk_init FR.d_BadAsk_init _ (sp_BadAsk_init AR.C_BadAsk K):=ok_BadAsk_init T
 refine T.F_ask_of_row.okF sc_ask_of_row (fun vs H Q E h=>?_) (fun cdv A outer s H vs Q E hr h=>?_)
 ·obtain ⟨x,dx,b,d,t,g,f,ts,gs,N,r,m,rfl,n,ok,rl,mle,hws,hQ,hE⟩:=h
  rfl
 ·obtain ⟨x,dx,b,d,t,g,f,ts,gs,N,r,m,rfl,n,ok,rl,mle,hws,hQ,hE⟩:=h
  refine ⟨_,(pss_cons (ps_set (i:=3) sc_ask_of_row.nd rfl (Or.inl rfl) (pe_bm PySem.F.plainAttrs_str PySem.F.slot_str_split PySem.F.type_str_split (mt_split 32) (pv 1) (pa_cons pe_str pa_nil)))
   (pss_cons (ps_set (i:=4) sc_ask_of_row.nd rfl (Or.inl rfl) (pe_ifExp (pt_cmpR (op_gin T.dk_READERS) (pe_ix ix_list (pv 3) pe_int (fun _ _=>rfl)) (pe_glob (v:=.ref AR.D_READERS) (by rfl) T.mD_READERS rfl) (by with_unfolding_all rfl)) (pe_or2 (pe_callD T.dk_READERS G_read_beads_ask (hr.mono (by decide)) T.F_read_beads_ask.kp T.b_read_beads_ask .nil pass0 (pe_glob (v:=.ref AR.D_READERS) (by rfl) T.mD_READERS rfl) (pe_ix ix_list (pv 3) pe_int (fun _ _=>rfl)) (fun _ _=>rfl) (pa_cons (pv 0) (pa_cons (pe_ix ix_list (pv 3) pe_int (fun _ _=>rfl)) (pa_cons (pe_slice sl_list (pv 3) (po_some pe_int) po_none) pa_nil)))) (pe_or2 (pe_callD T.dk_READERS G_read_bowl_ask (hr.mono (by decide)) T.F_read_bowl_ask.kp T.b_read_bowl_ask .nil pass0 (pe_glob (v:=.ref AR.D_READERS) (by rfl) T.mD_READERS rfl) (pe_ix ix_list (pv 3) pe_int (fun _ _=>rfl)) (fun _ _=>rfl) (pa_cons (pv 0) (pa_cons (pe_ix ix_list (pv 3) pe_int (fun _ _=>rfl)) (pa_cons (pe_slice sl_list (pv 3) (po_some pe_int) po_none) pa_nil)))) (pe_or2 (pe_callD T.dk_READERS G_read_bare_ask (hr.mono (by decide)) T.F_read_bare_ask.kp T.b_read_bare_ask .nil pass0 (pe_glob (v:=.ref AR.D_READERS) (by rfl) T.mD_READERS rfl) (pe_ix ix_list (pv 3) pe_int (fun _ _=>rfl)) (fun _ _=>rfl) (pa_cons (pv 0) (pa_cons (pe_ix ix_list (pv 3) pe_int (fun _ _=>rfl)) (pa_cons (pe_slice sl_list (pv 3) (po_some pe_int) po_none) pa_nil)))) (pe_callD T.dk_READERS G_read_door_ask (hr.mono (by decide)) T.F_read_door_ask.kp T.b_read_door_ask .nil pass0 (pe_glob (v:=.ref AR.D_READERS) (by rfl) T.mD_READERS rfl) (pe_ix ix_list (pv 3) pe_int (fun _ _=>rfl)) (fun _ _=>rfl) (pa_cons (pv 0) (pa_cons (pe_ix ix_list (pv 3) pe_int (fun _ _=>rfl)) (pa_cons (pe_slice sl_list (pv 3) (po_some pe_int) po_none) pa_nil))))))) pe_non))
   (pss_cons (ps_if (pt_cmpR op_isN (pv 4) pe_non (nomark _)) (pss_one (ps_raiseI raiseFI T.xn_BadAsk G_BadAsk_init (hr.mono (by decide)) (by rfl) T.mC_BadAsk T.b_BadAsk_init (pa_cons (pe_fstr (pj_str (pj_val (pv 2) (pj_str pj_nil)))) (pa_cons (pv 2) pa_nil)))) pss_nil)
   (pss_one (ps_ret (pv 4)))))),?_⟩
  try dsimp only [kx1,kx2,kx3,Cx.nox,Cx.wish]
  have hsz:=sizeLine_eq
  have sl:=spl_len 32 r
  have sne:=spl_ne 32 r
  refine ⟨_,rfl,rfl,r,rfl,rfl,Nat.le_trans rl (by decide),fun pw npw=>?_⟩
  generalize spl 32 r = ws at hQ hE hws sl sne ⊢
  have U1:=(Same.refl H).upd npw (o:=.lst (vstrs ws))
  have g1:=upd_same (H:=H) (a:=pw) (o:=.lst (vstrs ws))
  generalize upd H pw (.lst (vstrs ws)) = H1 at U1 g1 ⊢
  have n1:=n.same U1
  obtain ⟨k,us,rfl⟩ : ∃ k us,ws = k :: us:=by
   cases ws with
   | nil=>exact absurd rfl sne
   | cons a b=>exact ⟨a,b,rfl⟩
  have a0 : atI (vstrs (k :: us)) ((0 : Nat) : Int) = some (.str k):=atI_nat rfl
  have in1 : ∀ w ∈ us,okT w∧w.length ≤ 1000:=fun w h=>hws w (List.mem_cons_of_mem _ h)
  rw [List.length_cons] at sl
  rw [askR_cons] at hQ hE
  obtain ⟨f1,f2,f3,f4,f5⟩:=atF5 (p:=AR.f_read_beads_ask) (q:=AR.f_read_bowl_ask) (r:=AR.f_read_bare_ask) (t:=AR.f_read_door_ask)
  generalize hA : (if k = wCover ∨ k = wReach then (askF N.bowls us).map (AskV.beads k) else if k = wMost then (if us.length = 1∧us.getD 0 wNone ∈ N.bowls then some (AskV.place k (plc N.bowls (us.getD 0 wNone)).toNat) else none) else if k = wEver then (if us.length = 1∧us.getD 0 wNone ∈ N.doors then some (AskV.place k (plc N.doors (us.getD 0 wNone)).toNat) else none) else if k = wStick∧us = [] then some (AskV.bare k) else none) = Az at hQ hE
  try dsimp only [tNext]
  refine seq_join (fun σ' H2=>∃ av : V,σ' = [some (.ref x),some (.str r),some (.int (m : Int)),some (.ref pw),some av]∧Same H H2∧((av = .non∧Az = none) ∨ ∃ a v,av = .ref a∧Az = some v∧AskIn H2 a v)) ?_ (fun Nx hNx=>?_)
  ·rintro _ H2 ⟨av,rfl,S2,⟨rfl,e⟩ | ⟨a,v,rfl,e,ha⟩⟩
   ·refine ⟨_,rfl,rfl,_,rfl,?_⟩
    refine iteD (fun _=>?_) (fun z=>absurd rfl z)
    have nl:=PySem.W.KT.len_num (n:=(m : Int)) (by omega) (by omega)
    have l1 : (Str.ofString "row ").length = 4 := by decide
    have l2 : (Str.ofString " is no ask").length = 10 := by decide
    have l0 : Str.empty.length = 0:=rfl
    refine ⟨by rw [Str.length_append]; omega,_,rfl,_,.inr ⟨_,rfl,log_small (by omega) (by omega),rfl⟩,?_,?_,?_,_,rfl,by show 2 ≤ sizeLine; decide,?_⟩
    ·rw [Str.length_append,Str.length_append]
     have : (toString (m : Int) : Str).length ≤ 10:=nl
     omega
    ·rw [Str.length_append,Str.length_append,Str.length_append]
     have : (toString (m : Int) : Str).length ≤ 10:=nl
     omega
    ·rw [Str.length_append,Str.length_append,Str.length_append]
     have : (toString (m : Int) : Str).length ≤ 10:=nl
     omega
    exact xi_flies (y:=.int (m : Int)) fun e' H' SS ne' he=>hE e e' H' (S2.trans SS) (S2.free ne') he
   ·refine ⟨_,rfl,rfl,_,rfl,?_⟩
    refine iteD (fun z=>nomatch z) (fun _=>?_)
    exact ⟨_,rfl,hQ v e a H2 S2 ha⟩
  refine ⟨_,rfl,pw,_,_,_,rfl,rfl,SqL.of g1,a0,k,rfl,rfl,_,rfl,?_⟩
  by_cases h1 : k = wCover ∨ k = wReach
  ·rw [if_pos h1] at hA
   have ak : atF [(wCover,AR.f_read_beads_ask),(wReach,AR.f_read_beads_ask),(wMost,AR.f_read_bowl_ask),(wStick,AR.f_read_bare_ask),(wEver,AR.f_read_door_ask)] k = some AR.f_read_beads_ask:=by rcases h1 with h | h <;> (rw [h]; assumption)
   rw [ak]
   refine iteT (.inl ?_)
   refine ⟨_,rfl,pw,_,_,_,rfl,rfl,SqL.of g1,a0,k,rfl,rfl,ak,_,rfl,_,rfl,pw,_,_,_,rfl,rfl,SqL.of g1,a0,_,rfl,_,rfl,pw,_,rfl,SqL.of g1,fun s1 ns1=>?_⟩
   rw [show (1 : Int) = ((1 : Nat) : Int) from rfl,cut_fr,strs_drop,show (k :: us).drop 1 = us from rfl]
   have U2:=(Same.refl H1).upd ns1 (o:=.lst (vstrs us))
   have g2:=upd_same (H:=H1) (a:=s1) (o:=.lst (vstrs us))
   generalize upd H1 s1 (.lst (vstrs us)) = H2 at U2 g2 ⊢
   have n2:=n1.same U2
   refine ⟨x,dx,b,d,t,g,f,s1,ts,gs,N,k,us,rfl,n2,ok,g2,in1,by omega,fun e H3 S3=>hNx _ _ ⟨_,rfl,U1.trans (U2.trans S3),.inl ⟨rfl,by rw [← hA,e]; rfl⟩⟩,fun rr e a H3 S3 ha=>hNx _ _ ⟨_,rfl,U1.trans (U2.trans S3),.inr ⟨a,_,rfl,by rw [← hA,e]; rfl,ha⟩⟩⟩
  rw [if_neg h1] at hA
  by_cases h2 : k = wMost
  ·rw [if_pos h2] at hA
   have ak : atF [(wCover,AR.f_read_beads_ask),(wReach,AR.f_read_beads_ask),(wMost,AR.f_read_bowl_ask),(wStick,AR.f_read_bare_ask),(wEver,AR.f_read_door_ask)] k = some AR.f_read_bowl_ask:=by rw [h2]; exact f3
   rw [ak]
   refine iteT (.inr (.inl ?_))
   refine ⟨_,rfl,pw,_,_,_,rfl,rfl,SqL.of g1,a0,k,rfl,rfl,ak,_,rfl,_,rfl,pw,_,_,_,rfl,rfl,SqL.of g1,a0,_,rfl,_,rfl,pw,_,rfl,SqL.of g1,fun s1 ns1=>?_⟩
   rw [show (1 : Int) = ((1 : Nat) : Int) from rfl,cut_fr,strs_drop,show (k :: us).drop 1 = us from rfl]
   have U2:=(Same.refl H1).upd ns1 (o:=.lst (vstrs us))
   have g2:=upd_same (H:=H1) (a:=s1) (o:=.lst (vstrs us))
   generalize upd H1 s1 (.lst (vstrs us)) = H2 at U2 g2 ⊢
   have n2:=n1.same U2
   exact ⟨x,dx,b,d,t,g,f,s1,ts,gs,N,k,us,rfl,n2,g2,fun e H3 S3=>hNx _ _ ⟨_,rfl,U1.trans (U2.trans S3),.inl ⟨rfl,by rw [← hA,if_neg e]⟩⟩,fun e a H3 S3 ha=>hNx _ _ ⟨_,rfl,U1.trans (U2.trans S3),.inr ⟨a,_,rfl,by rw [← hA,if_pos e],ha⟩⟩⟩
  rw [if_neg h2] at hA
  by_cases h3 : k = wEver
  ·rw [if_pos h3] at hA
   have ak : atF [(wCover,AR.f_read_beads_ask),(wReach,AR.f_read_beads_ask),(wMost,AR.f_read_bowl_ask),(wStick,AR.f_read_bare_ask),(wEver,AR.f_read_door_ask)] k = some AR.f_read_door_ask:=by rw [h3]; exact f5
   rw [ak]
   refine iteT (.inr (.inr (.inr ?_)))
   refine ⟨_,rfl,pw,_,_,_,rfl,rfl,SqL.of g1,a0,k,rfl,rfl,ak,_,rfl,_,rfl,pw,_,_,_,rfl,rfl,SqL.of g1,a0,_,rfl,_,rfl,pw,_,rfl,SqL.of g1,fun s1 ns1=>?_⟩
   rw [show (1 : Int) = ((1 : Nat) : Int) from rfl,cut_fr,strs_drop,show (k :: us).drop 1 = us from rfl]
   have U2:=(Same.refl H1).upd ns1 (o:=.lst (vstrs us))
   have g2:=upd_same (H:=H1) (a:=s1) (o:=.lst (vstrs us))
   generalize upd H1 s1 (.lst (vstrs us)) = H2 at U2 g2 ⊢
   have n2:=n1.same U2
   exact ⟨x,dx,b,d,t,g,f,s1,ts,gs,N,k,us,rfl,n2,g2,fun e H3 S3=>hNx _ _ ⟨_,rfl,U1.trans (U2.trans S3),.inl ⟨rfl,by rw [← hA,if_neg e]⟩⟩,fun e a H3 S3 ha=>hNx _ _ ⟨_,rfl,U1.trans (U2.trans S3),.inr ⟨a,_,rfl,by rw [← hA,if_pos e],ha⟩⟩⟩
  rw [if_neg h3] at hA
  by_cases h4 : k = wStick
  ·have ak : atF [(wCover,AR.f_read_beads_ask),(wReach,AR.f_read_beads_ask),(wMost,AR.f_read_bowl_ask),(wStick,AR.f_read_bare_ask),(wEver,AR.f_read_door_ask)] k = some AR.f_read_bare_ask:=by rw [h4]; exact f4
   rw [ak]
   refine iteT (.inr (.inr (.inl ?_)))
   refine ⟨_,rfl,pw,_,_,_,rfl,rfl,SqL.of g1,a0,k,rfl,rfl,ak,_,rfl,_,rfl,pw,_,_,_,rfl,rfl,SqL.of g1,a0,_,rfl,_,rfl,pw,_,rfl,SqL.of g1,fun s1 ns1=>?_⟩
   rw [show (1 : Int) = ((1 : Nat) : Int) from rfl,cut_fr,strs_drop,show (k :: us).drop 1 = us from rfl]
   have U2:=(Same.refl H1).upd ns1 (o:=.lst (vstrs us))
   have g2:=upd_same (H:=H1) (a:=s1) (o:=.lst (vstrs us))
   generalize upd H1 s1 (.lst (vstrs us)) = H2 at U2 g2 ⊢
   have n2:=n1.same U2
   exact ⟨_,s1,k,us,rfl,g2,fun e H3 S3=>hNx _ _ ⟨_,rfl,U1.trans (U2.trans S3),.inl ⟨rfl,by rw [← hA,if_neg (fun z=>e z.2)]⟩⟩,fun e a H3 S3 ha=>hNx _ _ ⟨_,rfl,U1.trans (U2.trans S3),.inr ⟨a,_,rfl,by rw [← hA,if_pos ⟨h4,e⟩],ha⟩⟩⟩
  ·rw [if_neg (fun z=>h4 z.1)] at hA
   rw [atF5n h1 h2 h3 h4]
   refine iteF ?_
   exact hNx _ _ ⟨_,rfl,U1,.inl ⟨rfl,hA.symm⟩⟩
theorem sc_read_ask : FnScope ["net", "row"] ["net", "row"] (defScope s_read_ask) := ⟨rfl, rfl, rfl, by decide +kernel, rfl, by decide +kernel, by decide +kernel⟩
set_option maxHeartbeats 4000000 in
theorem ok_read_ask (T : Txt w K mg AR FR) : FnOk P w K mg base (CXF P w) 8 AR.f_read_ask FR.d_read_ask ["net", "row"] (sp_read_ask AR.C_Net AR.C_BadAsk K) := by
 have G_Net_init : FnOk P w K mg base CX0 3 AR.f_Net_init FR.d_Net_init _ (sp_Net_init AR.C_Net K):=ok_Net_init T
 have G_ask_of_row : FnOk P w K mg base (CXF P w) 7 AR.f_ask_of_row FR.d_ask_of_row _ (sp_ask_of_row AR.C_Net AR.C_BadAsk K):=ok_ask_of_row T
 refine T.F_read_ask.okF sc_read_ask (fun vs H Q E h=>?_) (fun cdv A outer s H vs Q E hr h=>?_)
 ·obtain ⟨x,dx,b,d,t,g,f,ts,gs,N,r,rfl,n,ok,rl,hws,hQ,hE⟩:=h
  rfl
 ·obtain ⟨x,dx,b,d,t,g,f,ts,gs,N,r,rfl,n,ok,rl,hws,hQ,hE⟩:=h
  refine ⟨_,(pss_one (ps_ret (pe_call G_ask_of_row (hr.mono (by decide)) (by rfl) T.m_ask_of_row T.F_ask_of_row.kp T.b_ask_of_row .nil passF (pa_cons (pv 0) (pa_cons (pv 1) (pa_cons pe_int pa_nil)))))),?_⟩
  try dsimp only [kx1,kx2,kx3,Cx.nox,Cx.wish]
  exact ⟨_,rfl,_,rfl,x,dx,b,d,t,g,f,ts,gs,N,r,1,rfl,n,ok,rl,by decide,hws,hQ,hE⟩
theorem sc_is_idle : FnScope ["row"] ["row"] (defScope s_is_idle) := ⟨rfl, rfl, rfl, by decide +kernel, rfl, by decide +kernel, by decide +kernel⟩
set_option maxHeartbeats 4000000 in
theorem ok_is_idle (T : Txt w K mg AR FR) : FnOk P w K mg base CX0 1 AR.f_is_idle FR.d_is_idle ["row"] (sp_is_idle K) := by
 refine T.F_is_idle.ok sc_is_idle (fun vs H Q E h=>?_) (fun cdv A outer s H vs Q E hr h=>?_)
 ·obtain ⟨r,rfl,hQ⟩:=h
  rfl
 ·obtain ⟨r,rfl,hQ⟩:=h
  refine ⟨_,(pss_one (ps_ret (pe_or (pe_cmpR op_eq (pv 0) pe_str (nomark _)) (pe_one (pe_bm PySem.F.plainAttrs_str PySem.F.slot_str_startswith PySem.F.type_str_startswith (mt_startswith 35) (pv 0) (pa_cons pe_str pa_nil)))))),?_⟩
  try dsimp only [kx1,kx2,kx3,Cx.nox,Cx.wish]
  unfold idleF at hQ
  refine ⟨_,rfl,rfl,_,rfl,?_⟩
  refine iteD (fun e=>?_) (fun e=>?_)
  ·rw [decide_eq_true (show r = wNone from V.str.inj e),Bool.true_or] at hQ
   exact hQ
  ·rw [decide_eq_false (show ¬ r = wNone from fun z=>e (by rw [z])),Bool.false_or] at hQ
   exact ⟨_,rfl,rfl,r,rfl,rfl,hQ⟩
theorem sc_read_asks : FnScope ["net", "text", "asks", "number", "row"] ["net", "text"] (defScope s_read_asks) := ⟨rfl, rfl, rfl, by decide +kernel, rfl, by decide +kernel, by decide +kernel⟩
set_option maxHeartbeats 4000000 in
theorem ok_read_asks (T : Txt w K mg AR FR) : FnOk P w K mg base (CXF P w) 8 AR.f_read_asks FR.d_read_asks ["net", "text"] (sp_read_asks AR.C_Net AR.C_BadAsk K) := by
 have G_Net_init : FnOk P w K mg base CX0 3 AR.f_Net_init FR.d_Net_init _ (sp_Net_init AR.C_Net K):=ok_Net_init T
 have G_is_idle : FnOk P w K mg base CX0 1 AR.f_is_idle FR.d_is_idle _ (sp_is_idle K):=ok_is_idle T
 have G_ask_of_row : FnOk P w K mg base (CXF P w) 7 AR.f_ask_of_row FR.d_ask_of_row _ (sp_ask_of_row AR.C_Net AR.C_BadAsk K):=ok_ask_of_row T
 refine T.F_read_asks.okF sc_read_asks (fun vs H Q E h=>?_) (fun cdv A outer s H vs Q E hr h=>?_)
 ·obtain ⟨x,dx,b,d,t,g,f,ts,gs,N,z,rfl,n,ok,zl,rws,r70,hQ,hE⟩:=h
  rfl
 ·obtain ⟨x,dx,b,d,t,g,f,ts,gs,N,z,rfl,n,ok,zl,rws,r70,hQ,hE⟩:=h
  refine ⟨_,(pss_cons (ps_set (i:=2) sc_read_asks.nd rfl (Or.inl rfl) (pe_lst pa_nil))
   (pss_cons (ps_for PassesOwn.leaving rfl (pi_enumS (by rfl) T.z_enumerate (pa_cons (pe_bm PySem.F.plainAttrs_str PySem.F.slot_str_split PySem.F.type_str_split (mt_split 10) (pv 1) (pa_cons pe_str pa_nil)) pa_nil) pe_int) (pg_tup (by rfl) (pgs_cons (pg_name (i:=3) sc_read_asks.nd (by rfl) (Or.inl rfl)) (pgs_cons (pg_name (i:=4) sc_read_asks.nd (by rfl) (Or.inl rfl)) pgs_nil)))
   (pss_one (ps_if (pt_not (pt_val (pe_call G_is_idle (hr.mono (by decide)) (by rfl) T.m_is_idle T.F_is_idle.kp T.b_is_idle .nil pass0 (pa_cons (pv 4) pa_nil)))) (pss_one (ps_expr (pe_bm PySem.F.plainAttrs_list PySem.F.slot_list_append PySem.F.type_list_append mt_append (pv 2) (pa_cons (pe_call G_ask_of_row (hr.mono (by decide)) (by rfl) T.m_ask_of_row T.F_ask_of_row.kp T.b_ask_of_row .nil passF (pa_cons (pv 0) (pa_cons (pv 4) (pa_cons (pv 3) pa_nil)))) pa_nil)))) pss_nil)))
   (pss_one (ps_ret (pv 2))))),?_⟩
  try dsimp only [kx1,kx2,kx3,Cx.nox,Cx.wish]
  have hsz:=sizeLine_eq
  refine ⟨by show 0 ≤ sizeLine; decide,fun pk nk=>?_⟩
  have U1:=(Same.refl H).upd nk (o:=.lst [])
  have k1 : upd H pk (.lst []) pk = some (.lst (([] : List Addr).map V.ref)):=upd_same
  generalize upd H pk (.lst []) = H1 at U1 k1 ⊢
  refine ⟨_,rfl,rfl,z,rfl,rfl,by omega,fun pr npr=>?_⟩
  generalize spl 10 z = rows at rws r70 hQ hE ⊢
  have U2:=(Same.refl H1).upd npr (o:=.lst (vstrs rows))
  have h2:=upd_same (H:=H1) (a:=pr) (o:=.lst (vstrs rows))
  have npp : pr ≠ pk:=Ne.symm (ne_of_none k1 npr)
  generalize upd H1 pr (.lst (vstrs rows)) = H2 at U2 h2 ⊢
  have k2:=U2 _ _ k1
  have S2:=U1.trans U2
  have rl2 : (vstrs rows).length = rows.length:=List.length_map ..
  generalize hR : asksF N 1 rows = Rz at hE hQ
  refine ⟨pr,_,rfl,SqL.of h2,?_⟩
  refine for_enumS (K:=K) (a:=pr) (xs:=vstrs rows) (fun i σ H3=>∃ (o3 o4 : Option V) (as : List Addr) (vs : List AskV),σ = [some (.ref x),some (.str z),some (.ref pk),o3,o4]∧Same H H3∧H3 pr = some (.lst (vstrs rows))∧H3 pk = some (.lst (as.map V.ref))∧as.length ≤ i∧Paired (AskIn H3) as vs∧(∀ v ∈ vs,RichA v)∧addA vs (asksF N (i + 1) (rows.drop i)) = Rz) ⟨none,none,[],[],rfl,S2,h2,k2,Nat.le_refl _,.nil,fun _ h=>(nomatch h),by rw [addA_nil]; exact hR⟩ (fun i σ H3 _ hp4=>by obtain ⟨_,_,_,_,_,_,h,_⟩:=hp4; exact SqL.of h) ?_ ?_
  ·rintro i v q0 σ H3 hv ⟨o3,o4,as,vs,rfl,S3,h3,k3,al,pa,ri,eR⟩ nq0
   obtain ⟨r,hr',rfl⟩:=strs_get hv
   have hi:=(List.getElem?_eq_some_iff.mp hr').1
   have edr : rows.drop i = r :: rows.drop (i + 1):=by rw [List.drop_eq_getElem_cons hi,(List.getElem?_eq_some_iff.mp hr').2]
   rw [edr] at eR
   obtain ⟨rli,okr,rwl⟩:=rws r (List.mem_of_getElem? hr')
   have U4:=(Same.refl H3).upd nq0 (o:=.tup [.int ((i + 1 : Nat) : Int),.str r])
   refine ⟨q0,[_,_],rfl,SqT.of upd_same,rfl,_,[_],rfl,_,[],rfl,rfl,?_⟩
   try dsimp only [gName,gNil]
   generalize upd H3 q0 (.tup [.int ((i + 1 : Nat) : Int),.str r]) = H4 at U4 ⊢
   have S4:=S3.trans U4
   refine ⟨_,rfl,r,rfl,_,rfl,?_⟩
   cases hid : idleF r with
   | true =>
    refine iteF ?_
    rw [asks_idle hid] at eR
    exact ⟨_,_,as,vs,rfl,S4,U4 _ _ h3,U4 _ _ k3,by omega,asksP_same pa U4,ri,eR⟩
   | false =>
    refine iteT ?_
    refine ⟨_,rfl,.inl ⟨rfl,_,SqL.of (U4 _ _ k3)⟩,_,rfl,_,rfl,_,rfl,x,dx,b,d,t,g,f,ts,gs,N,r,i + 1,rfl,n.same S4,ok,rli,by omega,fun w hw=>⟨okT_spl okr w hw,rwl w hw⟩,fun av e a H5 S5 ha=>?_,fun e e' H5 S5 ne he=>?_⟩
    ·have k5:=S5 _ _ (U4 _ _ k3)
     have h5:=S5 _ _ (U4 _ _ h3)
     refine ⟨pk,_,_,rfl,rfl,k5,by rw [List.length_map]; omega,?_⟩
     rw [asks_go hid e,addA_add] at eR
     have rc:=askR_rich ok e
     have pa5:=asksP_same pa (U4.trans S5)
     exact ⟨_,_,as ++ [a],vs ++ [av],rfl,(S4.trans S5).upd' nk,by rw [upd_ne npp]; exact h5,by rw [upd_same,vrefs_snoc],by rw [List.length_append]; show as.length + 1 ≤ i + 1; omega,Paired.snoc (asksP_lay pa5 ri k5) (ha.layR rc k5),mem_end ri rc,eR⟩
    ·rw [asks_no hid e] at eR
     exact hE (i + 1) eR.symm e' H5 (S4.trans S5) (S4.free ne) he
  ·rintro σ H3 ⟨o3,o4,as,vs,rfl,S3,h3,k3,al,pa,ri,eR⟩
   rw [rl2,List.drop_length] at eR
   have eR : Sum.inr (vs ++ []) = Rz:=eR
   rw [List.append_nil] at eR
   exact ⟨_,rfl,hQ vs eR.symm pk as H3 S3 k3 pa⟩
theorem sc_law_refusal : FnScope ["net", "text", "single", "e", "others"] ["net", "text", "single"] (defScope s_law_refusal) := ⟨rfl, rfl, rfl, by decide +kernel, rfl, by decide +kernel, by decide +kernel⟩
set_option maxHeartbeats 4000000 in
theorem ok_law_refusal (T : Txt w K mg AR FR) : FnOk P w K mg base CX0 9 AR.f_law_refusal FR.d_law_refusal ["net", "text", "single"] (sp_law_refusal AR.C_Net K) := by
 have G_Net_init : FnOk P w K mg base CX0 3 AR.f_Net_init FR.d_Net_init _ (sp_Net_init AR.C_Net K):=ok_Net_init T
 have G_read_ask : FnOk P w K mg base (CXF P w) 8 AR.f_read_ask FR.d_read_ask _ (sp_read_ask AR.C_Net AR.C_BadAsk K):=ok_read_ask T
 have G_read_asks : FnOk P w K mg base (CXF P w) 8 AR.f_read_asks FR.d_read_asks _ (sp_read_asks AR.C_Net AR.C_BadAsk K):=ok_read_asks T
 refine T.F_law_refusal.ok sc_law_refusal (fun vs H Q E h=>?_) (fun cdv A outer s H vs Q E hr h=>?_)
 ·obtain ⟨x,dx,b,d,t,g,f,ts,gs,N,z,sg,m,rfl,n,ok,h1,h2,hQ⟩:=h
  rfl
 ·obtain ⟨x,dx,b,d,t,g,f,ts,gs,N,z,sg,m,rfl,n,ok,h1,h2,hQ⟩:=h
  refine ⟨_,(pss_cons (ps_tryAs (i:=3) sc_law_refusal.nd (by rfl) T.mC_BadAsk (pb_if (pt_val (pv 2)) (pb_expr (px_call G_read_ask (hr.mono (by decide)) (by rfl) T.m_read_ask T.F_read_ask.kp T.b_read_ask (pa_cons (pv 0) (pa_cons (pv 1) pa_nil)))) (pb_expr (px_call G_read_asks (hr.mono (by decide)) (by rfl) T.m_read_asks T.F_read_asks.kp T.b_read_asks (pa_cons (pv 0) (pa_cons (pv 1) pa_nil))))) (fun _ _=>(pss_cons (ps_set (i:=4) sc_law_refusal.nd rfl (Or.inl rfl) (pe_callB call_isXT (by rfl) T.z_isinstance bt_isinstance (pa_cons (pv 3) (pa_cons (pe_tup (pa_cons (pe_glob (v:=.ref AR.C_BadNet) (by rfl) T.mC_BadNet rfl) (pa_cons (pe_glob (v:=.ref AR.C_BadPaper) (by rfl) T.mC_BadPaper rfl) (pa_cons (pe_glob (v:=.ref AR.C_BadText) (by rfl) T.mC_BadText rfl) (pa_cons (pe_glob (v:=.ref AR.C_NoGo) (by rfl) T.mC_NoGo rfl) (pa_cons (pe_glob (v:=.ref AR.C_TooWide) (by rfl) T.mC_TooWide rfl) (pa_cons (pe_glob (v:=.ref AR.C_Unlike) (by rfl) T.mC_Unlike rfl) pa_nil))))))) pa_nil))))
   (pss_one (ps_if (PW.pt (pw_and (pt_val (pe_callB call_isX (by rfl) T.z_isinstance bt_isinstance (pa_cons (pv 3) (pa_cons (pe_glob (v := .ref AR.C_HallError) (by rfl) T.mC_HallError rfl) pa_nil)))) (pw_and (pt_val (pe_callB call_isX (by rfl) T.z_isinstance bt_isinstance (pa_cons (pv 3) (pa_cons (pe_bltn (v := .ty "ValueError") (by rfl) T.z_ValueError bt_ValueError rfl) pa_nil)))) (pw_and1 (pt_not (pt_val (pv 4))))))) (pss_one (ps_ret (pe_xfld (pv 3) rfl))) pss_nil)))))
   (pss_one (ps_ret (pe_un un_neg pe_int)))),?_⟩
  try dsimp only [kx1,kx2,kx3,Cx.nox,Cx.wish]
  have no : ∀ {D : Addr},ecIn K D (.ref AR.C_HallError :: excMro) = true→D ≠ AR.C_BadAsk→D ≠ AR.C_HallError→PySem.W.kitOne K (.ref AR.C_BadAsk) (.ref D) = some false:=fun q h1 h2=>ec_no T.ec_BadAsk q h1 h2
  have n1:=no T.ec_BadNet (by first | exact T.ne_BadNet_BadAsk | exact (Ne.symm T.ne_BadAsk_BadNet)) T.ne_BadNet_HallError
  have n2:=no T.ec_BadPaper (by first | exact T.ne_BadPaper_BadAsk | exact (Ne.symm T.ne_BadAsk_BadPaper)) T.ne_BadPaper_HallError
  have n3:=no T.ec_BadText (by first | exact T.ne_BadText_BadAsk | exact (Ne.symm T.ne_BadAsk_BadText)) T.ne_BadText_HallError
  have n4:=no T.ec_NoGo (by first | exact T.ne_NoGo_BadAsk | exact (Ne.symm T.ne_BadAsk_NoGo)) T.ne_NoGo_HallError
  have n5:=no T.ec_TooWide (by first | exact T.ne_TooWide_BadAsk | exact (Ne.symm T.ne_BadAsk_TooWide)) T.ne_TooWide_HallError
  have n6:=no T.ec_Unlike (by first | exact T.ne_Unlike_BadAsk | exact (Ne.symm T.ne_BadAsk_Unlike)) T.ne_Unlike_HallError
  refine ⟨_,rfl,_,rfl,?_⟩
  cases sg with
  | true =>
   obtain ⟨zl,zw,e0,m1⟩:=h1 rfl
   refine iteT ?_
   refine ⟨_,rfl,_,rfl,x,dx,b,d,t,g,f,ts,gs,N,z,rfl,n,ok,zl,zw,fun v e=>(by rw [e0] at e; cases e),fun _ ad H' S nad had=>?_⟩
   have had : H' ad = some (.xd [("row", .int (m : Int))]) := by rw [m1]; exact had
   refine ⟨_,rfl,caught_self T.ec_BadAsk,fun e o ne xo=>?_⟩
   have mm : (e,o) ∈ ([] ++ [(e,o)] : List (Addr × Obj)):=by simp
   refine ⟨_,rfl,by show 6 ≤ sizeLine; decide,fun tp ntp=>?_⟩
   have U:=(Same.refl H').upd ntp (o:=.tup [V.ref AR.C_BadNet,V.ref AR.C_BadPaper,V.ref AR.C_BadText,V.ref AR.C_NoGo,V.ref AR.C_TooWide,V.ref AR.C_Unlike])
   have had2:=U _ _ had
   have xd : XDict (upd H' tp (.tup [V.ref AR.C_BadNet,V.ref AR.C_BadPaper,V.ref AR.C_BadText,V.ref AR.C_NoGo,V.ref AR.C_TooWide,V.ref AR.C_Unlike])) (some ad):=fun d z=>by cases z; exact ⟨_,had2⟩
   refine ⟨e,o,_,tp,_,[AR.C_BadNet,AR.C_BadPaper,AR.C_BadText,AR.C_NoGo,AR.C_TooWide,AR.C_Unlike],false,rfl,upd_same,mm,xo,xd,T.xi_BadAsk,kit_sixA n1 n2 n3 n4 n5 n6,?_⟩
   refine ⟨_,rfl,e,o,_,_,_,_,true,rfl,mm,xo,xd,T.xi_BadAsk,.inr ⟨_,rfl,rfl⟩,ec_up T.ec_BadAsk T.ec_HallError,_,rfl,?_⟩
   refine iteT ?_
   refine ⟨_,rfl,e,o,_,_,_,_,true,rfl,mm,xo,xd,T.xi_BadAsk,.inl ⟨_,rfl,rfl⟩,ec_VE T.ec_BadAsk,_,rfl,?_⟩
   refine iteT ?_
   refine ⟨_,rfl,_,rfl,?_⟩
   refine iteT ?_
   exact ⟨_,rfl,e,o,AR.C_BadAsk,ad,_,_,rfl,mm,xo,had2,rfl,trivial,T.xi_BadAsk,T.xa_BadAsk_row,T.xs_BadAsk.hd,hQ _ (S.trans U)⟩
  | false =>
   obtain ⟨zl,zr,z7,e0⟩:=h2 rfl
   refine iteF ?_
   refine ⟨_,rfl,_,rfl,x,dx,b,d,t,g,f,ts,gs,N,z,rfl,n,ok,zl,zr,z7,fun vs' e=>(by rw [e0] at e; cases e),fun m' e ad H' S nad had=>?_⟩
   have em : m' = m:=by rw [e0] at e; cases e; rfl
   subst em
   refine ⟨_,rfl,caught_self T.ec_BadAsk,fun e o ne xo=>?_⟩
   have mm : (e,o) ∈ ([] ++ [(e,o)] : List (Addr × Obj)):=by simp
   refine ⟨_,rfl,by show 6 ≤ sizeLine; decide,fun tp ntp=>?_⟩
   have U:=(Same.refl H').upd ntp (o:=.tup [V.ref AR.C_BadNet,V.ref AR.C_BadPaper,V.ref AR.C_BadText,V.ref AR.C_NoGo,V.ref AR.C_TooWide,V.ref AR.C_Unlike])
   have had2:=U _ _ had
   have xd : XDict (upd H' tp (.tup [V.ref AR.C_BadNet,V.ref AR.C_BadPaper,V.ref AR.C_BadText,V.ref AR.C_NoGo,V.ref AR.C_TooWide,V.ref AR.C_Unlike])) (some ad):=fun d z=>by cases z; exact ⟨_,had2⟩
   refine ⟨e,o,_,tp,_,[AR.C_BadNet,AR.C_BadPaper,AR.C_BadText,AR.C_NoGo,AR.C_TooWide,AR.C_Unlike],false,rfl,upd_same,mm,xo,xd,T.xi_BadAsk,kit_sixA n1 n2 n3 n4 n5 n6,?_⟩
   refine ⟨_,rfl,e,o,_,_,_,_,true,rfl,mm,xo,xd,T.xi_BadAsk,.inr ⟨_,rfl,rfl⟩,ec_up T.ec_BadAsk T.ec_HallError,_,rfl,?_⟩
   refine iteT ?_
   refine ⟨_,rfl,e,o,_,_,_,_,true,rfl,mm,xo,xd,T.xi_BadAsk,.inl ⟨_,rfl,rfl⟩,ec_VE T.ec_BadAsk,_,rfl,?_⟩
   refine iteT ?_
   refine ⟨_,rfl,_,rfl,?_⟩
   refine iteT ?_
   exact ⟨_,rfl,e,o,AR.C_BadAsk,ad,_,_,rfl,mm,xo,had2,rfl,trivial,T.xi_BadAsk,T.xa_BadAsk_row,T.xs_BadAsk.hd,hQ _ (S.trans U)⟩
theorem sc_law : FnScope ["script", "net", "rows", "asks", "bad", "cell", "pair", "found", "made"] ["script"] (defScope s_law) := ⟨rfl, rfl, rfl, by decide +kernel, rfl, by decide +kernel, by decide +kernel⟩
set_option maxHeartbeats 40000000 in
theorem ok_law (T : Txt w K mg AR FR) : FnOk P w K mg base CX0 10 AR.f_law FR.d_law ["script"] (sp_law K) := by
 have G_law_named_net : FnOk P w K mg base CX0 5 AR.f_law_named_net FR.d_law_named_net _ (sp_law_named_net AR.C_Net K):=ok_law_named_net T
 have G_law_row : FnOk P w K mg base CX0 7 AR.f_law_row FR.d_law_row _ (sp_law_row AR.C_Net K):=ok_law_row T
 have G_law_refusal : FnOk P w K mg base CX0 9 AR.f_law_refusal FR.d_law_refusal _ (sp_law_refusal AR.C_Net K):=ok_law_refusal T
 have G_read_asks : FnOk P w K mg base (CXF P w) 8 AR.f_read_asks FR.d_read_asks _ (sp_read_asks AR.C_Net AR.C_BadAsk K):=ok_read_asks T
 have G_BadAsk_init : FnOk P w K mg base CX0 1 AR.f_BadAsk_init FR.d_BadAsk_init _ (sp_BadAsk_init AR.C_BadAsk K):=ok_BadAsk_init T
 refine T.F_law.ok sc_law (fun vs H Q E h=>?_) (fun cdv A outer s H vs Q E hr h=>?_)
 ·obtain ⟨a,ns,rfl,hS,hlen,hQ⟩:=h
  rfl
 ·obtain ⟨a,ns,rfl,hS,hlen,hQ⟩:=h
  refine ⟨_,(pss_cons (ps_set (i:=1) sc_law.nd rfl (Or.inl rfl) (pe_call G_law_named_net (hr.mono (by decide)) (by rfl) T.m_law_named_net T.F_law_named_net.kp T.b_law_named_net .nil pass0 (pa_cons (pv 0) pa_nil)))
   (pss_cons (ps_set (i:=2) sc_law.nd rfl (Or.inl rfl) (pe_lst pa_nil))
   (pss_cons (ps_set (i:=3) sc_law.nd rfl (Or.inl rfl) (pe_lst pa_nil))
   (pss_cons (ps_set (i:=4) sc_law.nd rfl (Or.inl rfl) pe_int)
   (pss_cons (ps_for PassesOwn.never rfl (pi_list (pv 0)) (pg_name (i:=5) sc_law.nd (by rfl) (Or.inl rfl))
   (pss_cons (ps_set (i:=6) sc_law.nd rfl (Or.inl rfl) (pe_call G_law_row (hr.mono (by decide)) (by rfl) T.m_law_row T.F_law_row.kp T.b_law_row .nil pass0 (pa_cons (pv 1) (pa_cons (pv 5) pa_nil))))
   (pss_cons (ps_expr (pe_bm PySem.F.plainAttrs_list PySem.F.slot_list_append PySem.F.type_list_append mt_append (pv 2) (pa_cons (pe_ix ix_tup (pv 6) pe_int (fun _ _=>rfl)) pa_nil)))
   (pss_one (ps_if (pt_cmpR op_isN (pe_ix ix_tup (pv 6) pe_int (fun _ _=>rfl)) pe_non (nomark _)) (pss_cons (ps_if (pt_cmpR op_ne (pe_call G_law_refusal (hr.mono (by decide)) (by rfl) T.m_law_refusal T.F_law_refusal.kp T.b_law_refusal .nil pass0 (pa_cons (pv 1) (pa_cons (pe_ix ix_tup (pv 6) pe_int (fun _ _=>rfl)) (pa_cons pe_bl pa_nil)))) pe_int (nomark _)) (pss_one (ps_ret pe_bl)) pss_nil)
   (pss_one (ps_if (pt_cmpR op_eq (pv 4) pe_int (nomark _)) (pss_one (ps_set (i:=4) sc_law.nd rfl (Or.inl rfl) (pe_callB call_len_seq (by rfl) T.z_len bt_len (pa_cons (pv 2) pa_nil)))) pss_nil))) (pss_one (ps_if (pt_cmpR op_eq (pv 4) pe_int (nomark _)) (pss_one (ps_expr (pe_bm PySem.F.plainAttrs_list PySem.F.slot_list_extend PySem.F.type_list_extend mt_extend (pv 3) (pa_cons (pe_ix ix_tup (pv 6) pe_int (fun _ _=>rfl)) pa_nil)))) pss_nil)))))))
   (pss_cons (ps_if (pt_cmpR op_gt (pv 4) pe_int (nomark _)) (pss_cons (ps_if (pt_cmpR op_ne (pe_call G_law_refusal (hr.mono (by decide)) (by rfl) T.m_law_refusal T.F_law_refusal.kp T.b_law_refusal .nil pass0 (pa_cons (pv 1) (pa_cons (pe_bm PySem.F.plainAttrs_str PySem.F.slot_str_join PySem.F.type_str_join mt_join pe_str (pa_cons (pv 2) pa_nil)) (pa_cons pe_bl pa_nil)))) (pv 4) (nomark _)) (pss_one (ps_ret pe_bl)) pss_nil)
   (pss_one (ps_set (i:=2) sc_law.nd rfl (Or.inl rfl) (pe_slice sl_list (pv 2) po_none (po_some (pe_op op_sub (pv 4) pe_int)))))) pss_nil)
   (pss_cons (ps_set (i:=7) sc_law.nd rfl (Or.inl rfl) (pe_call G_read_asks.never (hr.mono (by decide)) (by rfl) T.m_read_asks T.F_read_asks.kp T.b_read_asks .nil pass0 (pa_cons (pv 1) (pa_cons (pe_bm PySem.F.plainAttrs_str PySem.F.slot_str_join PySem.F.type_str_join mt_join pe_str (pa_cons (pv 2) pa_nil)) pa_nil))))
   (pss_cons (ps_if (PW.pt (pw_or (pt_not (pt_val (pe_callB call_isinst (by rfl) T.z_isinstance bt_isinstance (pa_cons (pv 7) (pa_cons (pe_bltn (v := .ty "list") (by rfl) T.z_list bt_list rfl) pa_nil))))) (pw_or1 (pt_cmpR (op_neAskL (hu2_of hr)) (pv 7) (pv 3) (nomark _))))) (pss_one (ps_ret pe_bl)) pss_nil)
   (pss_cons (ps_set (i:=8) sc_law.nd rfl (Or.inl rfl) (pe_xmake T.xn_BadAsk G_BadAsk_init (hr.mono (by decide)) (by rfl) T.mC_BadAsk T.b_BadAsk_init (pa_cons pe_str (pa_cons pe_int pa_nil))))
   (pss_one (ps_ret (pe_and (pe_callB (call_all_list rfl) (by rfl) T.z_all bt_all (pa_cons (pe_comp (N' := ["ask"]) (nt := 1) (caps := []) _ _ (CompScope.of (by kernel_rfl)) (pi_list (pv 7)) (fun _ => (pg_nameC (i := 0) ["ask"] (by decide +kernel) (by rfl))) (fun _ => pts_nil) (fun _ => (pe_callB call_isinst (by rfl) T.z_isinstance bt_isinstance (pa_cons (pv 0) (pa_cons (pe_bltn (v := .ty "tuple") (by rfl) T.z_tuple bt_tuple rfl) pa_nil))))) pa_nil)) (pe_one (pe_cmpR op_eq (pe_xfldT (pv 8) rfl) pe_int (nomark _))))))))))))))), ?_⟩
  try dsimp only [kx1,kx2,kx3,Cx.nox,Cx.wish]
  refine ⟨_,rfl,a,ns,rfl,hS,hlen,fun x dx b d t g f ts gs N H1 S1 n1 ok xb xd=>?_⟩
  have sz:=sizeLine_eq
  refine ⟨by show 0 ≤ sizeLine; decide,fun pr nr=>?_⟩
  have U2:=(Same.refl H1).upd nr (o:=.lst [])
  have k2 : upd H1 pr (.lst []) pr = some (.lst (vstrs [])):=upd_same
  generalize upd H1 pr (.lst []) = H2 at U2 k2 ⊢
  refine ⟨by show 0 ≤ sizeLine; decide,fun pa na=>?_⟩
  have np : pr ≠ pa:=ne_of_none k2 na
  have U3:=(Same.refl H2).upd na (o:=.lst [])
  have k3 : upd H2 pa (.lst []) pa = some (.lst (([] : List Addr).map V.ref)):=upd_same
  have k2':=U3 _ _ k2
  generalize upd H2 pa (.lst []) = H3 at U3 k3 k2' ⊢
  have fa : H1 pa = none:=U2.free na
  refine ⟨_,rfl,a,rfl,⟨_,(S1.trans (U2.trans U3)).seq hS⟩,for_list (K:=K) (a:=a) (xs:=vints ns) (fun i σ H4=>∃ (o5 o6 : Option V) (bb : Nat) (RS : List Str) (as : List Addr),σ = [some (.ref a),some (.ref x),some (.ref pr),some (.ref pa),some (.int (bb : Int)),o5,o6,none,none]∧Same H1 H4∧RS.length = i∧as.length ≤ i∧LoopA N H4 pr pa bb RS as) ⟨none,none,0,[],[],rfl,U2.trans U3,rfl,Nat.le_refl _,⟨k2',k3,fun _ h=>(nomatch h),[],[],[],rfl,.nil,.nil,.inl ⟨rfl,rfl⟩⟩⟩ (fun i σ H4 _ hp4=>by obtain ⟨_,_,_,_,_,_,S,_⟩:=hp4; exact (S1.trans S).seq hS) ?_ ?_⟩
  rotate_left
  ·rintro σ H4 ⟨o5,o6,bb,RS,as,rfl,S4,rl,al,L⟩
   rw [ints_len] at rl al
   have n4:=n1.same S4
   obtain ⟨R0,R1,vss,e1,e2,e3,e4⟩:=L.ex
   have ll:=congrArg List.length e1
   rw [List.length_append] at ll
   have tx0 : ∀ r ∈ R0,TxB 4000 r∧∀ w ∈ spl 32 r,w.length ≤ 1000:=fun r hr=>L.tx r (by rw [e1]; exact List.mem_append_left _ hr)
   have l10 : (Str.ofString "\n").length = 1 := by decide +kernel
   try dsimp only [tNext]
   refine seq_join (fun σ' H5=>∃ (pq : Addr),σ' = [some (.ref a),some (.ref x),some (.ref pq),some (.ref pa),some (.int (bb : Int)),o5,o6,none,none]∧Same H4 H5∧H5 pq = some (.lst (vstrs R0))) ?_ (fun Nx hNx=>?_)
   ·rintro _ H5 ⟨pq,rfl,S45,h5⟩
    have n5:=n4.same S45
    obtain ⟨z1,z2,z3,z4⟩:=rows_text tx0 (by omega)
    have eF : asksF N 1 (spl 10 (Str.join (sg 10) R0)) = .inr vss.flatten:=by
     have h:=asks_rows (N:=N) 1 [] e2
     rw [List.append_nil] at h
     rw [z4,h]
     show Sum.inr (vss.flatten ++ []) = _
     rw [List.append_nil]
    refine ⟨_, rfl, rfl, _, rfl, Str.ofString "\n", pq, R0, 4000, rfl, rfl, SqL.of h5, fun r hr => (tx0 r hr).1.le, by rw [l10]; omega, ?_⟩
    refine ⟨x,dx,b,d,t,g,f,ts,gs,N,Str.join (sg 10) R0,rfl,n5,ok,z1,z2,z3,fun vs' e q as2 H6 S6 hq pq2=>?_,fun m e=>(by rw [eF] at e; cases e)⟩
    rw [eF] at e
    cases e
    have ha6 : H6 pa = some (.lst (as.map V.ref)):=S6 _ _ (S45 _ _ L.ha)
    have pa6:=asksP_same e3 (S45.trans S6)
    refine ⟨_,rfl,_,_,_,true,rfl,.lst hq,by rfl,true,rfl,?_⟩
    refine iteF ?_
    refine ⟨_,rfl,_,rfl,q,pa,as2,as,_,rfl,rfl,hq,ha6,pq2,pa6,_,rfl,?_⟩
    refine iteF ?_
    refine ⟨by show 2 ≤ sizeLine; decide,fun e t0 ne=>?_⟩
    refine ⟨e,t0,_,_,rfl,upd_same,fun dd t' nd=>⟨rfl,?_⟩⟩
    have ned : dd ≠ e:=fun z=>by rw [z,upd_same] at nd; cases nd
    rw [upd_ne ned] at nd
    generalize hG : upd (upd (upd (upd H6 e (HO.ext (xoAt AR.C_BadAsk t0 none e))) e (HO.ext (xoAt AR.C_BadAsk t' none e))) dd (HO.xd [("row", V.int 3)])) e (HO.ext (xoAt AR.C_BadAsk t' (some dd) e)) = H7
    have he7 : H7 e = some (.ext (xoAt AR.C_BadAsk t' (some dd) e)):=by rw [← hG]; exact upd_same
    have hd7 : H7 dd = some (.xd [("row", V.int 3)]) := by rw [← hG, upd_ne ned]; exact upd_same
    have S7 : Same H6 H7:=fun k o z=>by
     have h1 : k ≠ e:=fun q=>by rw [q,ne] at z; cases z
     have h2 : k ≠ dd:=fun q=>by rw [q,nd] at z; cases z
     rw [← hG,upd_ne h1,upd_ne h2,upd_ne h1,upd_ne h1]
     exact z
    clear hG
    have hq7:=S7 _ _ hq
    have al2 : as2.length ≤ 63:=by
     have h1:=pq2.length
     have h2:=pa6.length
     omega
    refine ⟨_,rfl,q,rfl,⟨_,SqL.of hq7⟩,?_⟩
    refine comp_listP (K:=K) (a:=q) (xs:=as2.map V.ref) (fun i ys σ H8=>∃ (o : Option V),σ = [o]∧H8 = H7∧ys = (List.replicate i true).map V.bl) ⟨none,rfl,rfl,rfl⟩ ?_ ?_ ?_
    ·rintro i ys σ H8 hi ⟨o,rfl,rfl,rfl⟩
     rw [List.length_map] at hi
     refine ⟨SqL.of hq7,?_⟩
     rw [List.length_map,List.length_replicate]
     omega
    ·rintro B i v ys σ H8 hv ⟨o,rfl,rfl,rfl⟩
     obtain ⟨k,hk,rfl⟩:=refs_get hv
     obtain ⟨av,_,hav⟩:=Paired.getL (asksP_same pq2 S7) hk
     obtain ⟨xs,hxs⟩ : ∃ xs,H8 k = some (.tup xs):=by
      cases av with
      | beads k r=>obtain ⟨l,h1,_⟩:=hav; exact ⟨_,h1⟩
      | place k i=>exact ⟨_,hav⟩
      | bare k=>exact ⟨_,hav⟩
     try dsimp only [gName,tTrue]
     rw [if_pos rfl]
     refine ⟨_,rfl,_,_,_,true,rfl,.tup hxs,by rfl,?_⟩
     exact ⟨_,rfl,rfl,by rw [List.replicate_succ',List.map_append]; rfl⟩
    ·rintro ys σ H8 ⟨o,rfl,rfl,rfl⟩ p np'
     refine ⟨p,List.replicate (as2.map V.ref).length true,rfl,SqL.of upd_same,?_⟩
     have et : (List.replicate (as2.map V.ref).length true).all id = true:=List.all_eq_true.mpr fun z hz=>(List.mem_replicate.mp hz).2
     rw [et]
     have U8:=(Same.refl H8).upd np' (o:=.lst ((List.replicate (as2.map V.ref).length true).map V.bl))
     refine ⟨_,rfl,?_⟩
     refine iteT ?_
     exact ⟨_,rfl,e,AR.C_BadAsk,t',dd,_,_,rfl,U8 _ _ he7,U8 _ _ hd7,rfl,trivial,T.xi_BadAsk,T.xa_BadAsk_row,T.xs_BadAsk.hd,rfl,hQ _⟩
   ·refine ⟨_,rfl,_,_,rfl,rfl,_,rfl,?_⟩
    refine iteD (fun z=>?_) (fun z=>?_)
    ·rcases e4 with ⟨z0,_⟩ | ⟨r,T',e5,br,ebb⟩
     ·rw [z0] at z
      exact absurd z (by decide)
     obtain ⟨z1,z2,z3,z4⟩:=rows_text L.tx (by omega)
     have eF : asksF N 1 (spl 10 (Str.join (sg 10) RS)) = .inl bb:=by
      rw [z4,e1,asks_rows 1 R1 e2,e5,asks_no br.busy br.no]
      show Sum.inl (1 + R0.length) = Sum.inl bb
      rw [ebb,Nat.add_comm]
     refine ⟨_, rfl, rfl, _, rfl, Str.ofString "\n", pr, RS, 4000, rfl, rfl, SqL.of L.hr, fun r hr => (L.tx r hr).1.le, by rw [l10]; omega, ?_⟩
     refine ⟨x,dx,b,d,t,g,f,ts,gs,N,Str.join (sg 10) RS,false,bb,rfl,n4,ok,fun z=>(nomatch z),fun _=>⟨z1,z2,z3,eF⟩,fun H5 S5=>?_⟩
     refine ⟨_,rfl,rfl,_,rfl,?_⟩
     refine iteND (fun z=>absurd rfl z) (fun _=>?_)
     refine ⟨_,rfl,_,rfl,_,_,rfl,rfl,_,rfl,pr,_,rfl,SqL.of (S5 _ _ L.hr),fun s1 ns1=>?_⟩
     have ec : cutV (vstrs RS) none (some ((bb : Int) - 1)) = vstrs R0:=by
      rw [show (bb : Int) - 1 = ((R0.length : Nat) : Int) by omega,cut_take,e1]
      show (List.map V.str (R0 ++ R1)).take R0.length = List.map V.str R0
      rw [← List.map_take,List.take_left]
     refine hNx _ _ ⟨s1,rfl,S5.upd ns1,?_⟩
     rw [upd_same,ec]
    ·refine hNx _ _ ⟨pr,rfl,Same.refl _,?_⟩
     rcases e4 with ⟨_,e⟩ | ⟨r,T',e5,br,ebb⟩
     ·rw [L.hr,e1,e,List.append_nil]
     ·exact absurd (show (bb : Int) > 0 by omega) z
  rintro i w σ H4 hw ⟨o5,o6,bb,RS,as,rfl,S4,rl,al,L⟩
  obtain ⟨c,hc,rfl⟩:=ints_get hw
  have hi:=(List.getElem?_eq_some_iff.mp hc).1
  try dsimp only [gName]
  have apS : ∀ r : Str,vstrs RS ++ [V.str r] = vstrs (RS ++ [r]):=fun r=>by
   show List.map _ _ ++ _ = List.map _ (_ ++ _)
   rw [List.map_append]
   rfl
  have rv : (vstrs RS).length = RS.length:=List.length_map ..
  refine ⟨_,rfl,_,rfl,x,dx,b,d,t,g,f,ts,gs,N,c,rfl,n1.same S4,ok,xb,xd,fun r p H5 S5 hp bad=>?_,fun r vs' p l as' H5 S5 nl hp hl pa' ra=>?_⟩
  ·have L5:=L.same S5
   have S15:=S4.trans S5
   refine ⟨_,rfl,.inl ⟨rfl,_,SqL.of L5.hr⟩,_,rfl,p,_,_,_,rfl,rfl,SqT.of hp,atI_nat (j:=0) rfl,pr,_,_,rfl,rfl,L5.hr,by rw [rv]; omega,?_⟩
   rw [apS]
   have npp : p ≠ pr:=fun z=>by have h:=L5.hr; rw [← z,hp] at h; cases h
   have L6:=L5.bad ok np bad
   have hp6 : upd H5 pr (.lst (vstrs (RS ++ [r]))) p = some (.tup [.str r,.non]):=by rw [upd_ne npp]; exact hp
   have S16:=S15.upd' nr (o:=.lst (vstrs (RS ++ [r])))
   generalize upd H5 pr (.lst (vstrs (RS ++ [r]))) = H6 at L6 hp6 S16 ⊢
   refine ⟨_,rfl,p,_,_,_,rfl,rfl,SqT.of hp6,atI_nat (j:=1) rfl,rfl,_,rfl,?_⟩
   refine iteD (fun _=>?_) (fun z=>absurd rfl z)
   refine ⟨_,rfl,_,rfl,p,_,_,_,rfl,rfl,SqT.of hp6,atI_nat (j:=0) rfl,x,dx,b,d,t,g,f,ts,gs,N,r,true,1,rfl,n1.same S16,ok,fun _=>⟨Nat.le_trans bad.tx.le (by decide),fun w hw=>⟨okT_spl bad.tx.ok w hw,bad.wd w hw⟩,bad.no,rfl⟩,fun z=>(nomatch z),fun H7 S7=>?_⟩
   refine ⟨rfl,_,rfl,?_⟩
   refine iteND (fun z=>absurd rfl z) (fun _=>?_)
   have L7:=L6.same S7
   have rl2 : (RS ++ [r]).length = i + 1:=by rw [List.length_append]; show RS.length + 1 = _; omega
   refine ⟨_,rfl,rfl,_,rfl,?_⟩
   refine iteD (fun e=>?_) (fun e=>?_)
   ·have e : bb = 0:=by
     have : (bb : Int) = 0:=vint_eq.mp e
     omega
    rw [if_pos e] at L7
    refine ⟨_,rfl,pr,_,rfl,.inl (SqL.of L7.hr),?_⟩
    have ev : (vstrs (RS ++ [r])).length = RS.length + 1:=by rw [show (vstrs (RS ++ [r])).length = (RS ++ [r]).length from List.length_map ..,List.length_append]; rfl
    rw [ev]
    exact ⟨_,_,_,_,_,rfl,S16.trans S7,rl2,by omega,L7⟩
   ·have e : ¬ bb = 0:=fun z=>e (by rw [z]; rfl)
    rw [if_neg e] at L7
    exact ⟨_,_,_,_,_,rfl,S16.trans S7,rl2,by omega,L7⟩
  ·have L5:=L.same S5
   have S15:=S4.trans S5
   refine ⟨_,rfl,.inl ⟨rfl,_,SqL.of L5.hr⟩,_,rfl,p,_,_,_,rfl,rfl,SqT.of hp,atI_nat (j:=0) rfl,pr,_,_,rfl,rfl,L5.hr,by rw [rv]; omega,?_⟩
   rw [apS]
   have npp : p ≠ pr:=fun z=>by have h:=L5.hr; rw [← z,hp] at h; cases h
   have nlp : l ≠ pr:=Ne.symm (ne_of_none L.hr nl)
   have hp6 : upd H5 pr (.lst (vstrs (RS ++ [r]))) p = some (.tup [.str r,.ref l]):=by rw [upd_ne npp]; exact hp
   have hl6 : upd H5 pr (.lst (vstrs (RS ++ [r]))) l = some (.lst (as'.map V.ref)):=by rw [upd_ne nlp]; exact hl
   have ha6 : upd H5 pr (.lst (vstrs (RS ++ [r]))) pa = some (.lst (as.map V.ref)):=by rw [upd_ne (Ne.symm np)]; exact L5.ha
   have S16:=S15.upd' nr (o:=.lst (vstrs (RS ++ [r])))
   have rl2 : (RS ++ [r]).length = i + 1:=by rw [List.length_append]; show RS.length + 1 = _; omega
   have l1 : as'.length ≤ 1:=by
    have h:=pa'.length
    rcases ra.is with ⟨_,e⟩ | ⟨v,_,_,e⟩
    ·rw [e] at h
     exact Nat.le_trans (Nat.le_of_eq h) (by decide)
    ·rw [e] at h
     exact Nat.le_of_eq h
   refine ⟨_,rfl,p,_,_,_,rfl,rfl,SqT.of hp6,atI_nat (j:=1) rfl,rfl,_,rfl,?_⟩
   refine iteD (fun z=>(nomatch z)) (fun _=>?_)
   refine ⟨_,rfl,rfl,_,rfl,?_⟩
   refine iteD (fun e=>?_) (fun e=>?_)
   ·have e : bb = 0:=by
     have : (bb : Int) = 0:=vint_eq.mp e
     omega
    subst e
    refine ⟨_,rfl,.inl ⟨rfl,_,SqL.of ha6⟩,_,rfl,p,_,_,_,rfl,rfl,SqT.of hp6,atI_nat (j:=1) rfl,pa,l,_,_,rfl,rfl,ha6,hl6,by rw [List.length_map,List.length_map]; omega,?_⟩
    rw [← List.map_append]
    exact ⟨_,_,0,_,as ++ as',rfl,S16.upd' fa,rl2,by rw [List.length_append]; omega,L5.tell ok np ra pa'⟩
   ·have e : ¬ bb = 0:=fun z=>e (by rw [z]; rfl)
    exact ⟨_,_,_,_,as,rfl,S16,rl2,by omega,L5.late ok np ra e⟩
end
theorem ex_S {us : List Value} {n : Nat} (hl : us.length = n + 1) : ∃ a r,us = a :: r∧r.length = n:=by cases us with | nil=>cases hl | cons a r=>exact ⟨a,r,rfl,Nat.succ.inj hl⟩
theorem ex_Z {us : List Value} (hl : us.length = 0) : us = []:=List.eq_nil_of_length_eq_zero hl
theorem ex_0 {us : List Value} (hl : us.length = 0) : us = []:=List.eq_nil_of_length_eq_zero hl
theorem ex_1 {us : List Value} (hl : us.length = 1) : ∃ a0,us = [a0]:=by obtain ⟨a,r,rfl,h⟩:=ex_S hl; obtain rfl:=ex_0 h; exact ⟨a,rfl⟩
theorem ex_2 {us : List Value} (hl : us.length = 2) : ∃ a0 a1,us = [a0,a1]:=by obtain ⟨a,r,rfl,h⟩:=ex_S hl; obtain ⟨_,rfl⟩:=ex_1 h; exact ⟨a,_,rfl⟩
theorem ex_3 {us : List Value} (hl : us.length = 3) : ∃ a0 a1 a2,us = [a0,a1,a2]:=by obtain ⟨a,r,rfl,h⟩:=ex_S hl; obtain ⟨_,_,rfl⟩:=ex_2 h; exact ⟨a,_,_,rfl⟩
theorem ex_4 {us : List Value} (hl : us.length = 4) : ∃ a0 a1 a2 a3,us = [a0,a1,a2,a3]:=by obtain ⟨a,r,rfl,h⟩:=ex_S hl; obtain ⟨_,_,_,rfl⟩:=ex_3 h; exact ⟨a,_,_,_,rfl⟩
theorem ex_5 {us : List Value} (hl : us.length = 5) : ∃ a0 a1 a2 a3 a4,us = [a0,a1,a2,a3,a4]:=by obtain ⟨a,r,rfl,h⟩:=ex_S hl; obtain ⟨_,_,_,_,rfl⟩:=ex_4 h; exact ⟨a,_,_,_,_,rfl⟩
theorem ex_6 {us : List Value} (hl : us.length = 6) : ∃ a0 a1 a2 a3 a4 a5,us = [a0,a1,a2,a3,a4,a5]:=by obtain ⟨a,r,rfl,h⟩:=ex_S hl; obtain ⟨_,_,_,_,_,rfl⟩:=ex_5 h; exact ⟨a,_,_,_,_,_,rfl⟩
set_option maxHeartbeats 0 in
theorem all_mk {l : PySem.W.OpenLaw} {w : World} {K : PySem.W.Frag} {h : Heap} {mg : Str → Option Value} {fa f_is_name f_refuse_bad_names f_refuse_bad_bags f_Net_init f_law_mixed f_law_names f_law_named_net f_law_bowl_alone f_law_door_alone f_law_bad_rows f_law_beads_row f_law_row f_read_count f_read_ask_count f_place_of f_read_part f_read_beads_ask f_placed_ask f_bowl_at f_read_bowl_ask f_read_bare_ask f_door_at f_read_door_ask f_BadAsk_init f_ask_of_row f_read_ask f_is_idle f_read_asks f_law_refusal f_law C_Net C_HallError C_BadAsk C_BadNet C_BadPaper C_BadText C_NoGo C_TooWide C_Unlike D_READERS : Addr} (X : K.In h) (G : h.Ns mainGlobals mg) (hfa : mg "law" = some (.ref fa))
  {od_is_name an_is_name : Option Addr} {sl_is_name : Array (Option Value)} {oc_is_name kV_is_name dc_is_name pm_is_name cd_is_name ct_is_name : Value}
  {od_refuse_bad_names an_refuse_bad_names : Option Addr} {sl_refuse_bad_names : Array (Option Value)} {oc_refuse_bad_names kV_refuse_bad_names dc_refuse_bad_names pm_refuse_bad_names cd_refuse_bad_names ct_refuse_bad_names : Value}
  {od_refuse_bad_bags an_refuse_bad_bags : Option Addr} {sl_refuse_bad_bags : Array (Option Value)} {oc_refuse_bad_bags kV_refuse_bad_bags dc_refuse_bad_bags pm_refuse_bad_bags cd_refuse_bad_bags ct_refuse_bad_bags : Value}
  {od_Net_init an_Net_init : Option Addr} {sl_Net_init : Array (Option Value)} {oc_Net_init kV_Net_init dc_Net_init pm_Net_init cd_Net_init ct_Net_init : Value}
  {od_law_mixed an_law_mixed : Option Addr} {sl_law_mixed : Array (Option Value)} {oc_law_mixed kV_law_mixed dc_law_mixed pm_law_mixed cd_law_mixed ct_law_mixed : Value}
  {od_law_names an_law_names : Option Addr} {sl_law_names : Array (Option Value)} {oc_law_names kV_law_names dc_law_names pm_law_names cd_law_names ct_law_names : Value}
  {od_law_named_net an_law_named_net : Option Addr} {sl_law_named_net : Array (Option Value)} {oc_law_named_net kV_law_named_net dc_law_named_net pm_law_named_net cd_law_named_net ct_law_named_net : Value}
  {od_law_bowl_alone an_law_bowl_alone : Option Addr} {sl_law_bowl_alone : Array (Option Value)} {oc_law_bowl_alone kV_law_bowl_alone dc_law_bowl_alone pm_law_bowl_alone cd_law_bowl_alone ct_law_bowl_alone : Value}
  {od_law_door_alone an_law_door_alone : Option Addr} {sl_law_door_alone : Array (Option Value)} {oc_law_door_alone kV_law_door_alone dc_law_door_alone pm_law_door_alone cd_law_door_alone ct_law_door_alone : Value}
  {od_law_bad_rows an_law_bad_rows : Option Addr} {sl_law_bad_rows : Array (Option Value)} {oc_law_bad_rows kV_law_bad_rows dc_law_bad_rows pm_law_bad_rows cd_law_bad_rows ct_law_bad_rows : Value}
  {od_law_beads_row an_law_beads_row : Option Addr} {sl_law_beads_row : Array (Option Value)} {oc_law_beads_row kV_law_beads_row dc_law_beads_row pm_law_beads_row cd_law_beads_row ct_law_beads_row : Value}
  {od_law_row an_law_row : Option Addr} {sl_law_row : Array (Option Value)} {oc_law_row kV_law_row dc_law_row pm_law_row cd_law_row ct_law_row : Value}
  {od_read_count an_read_count : Option Addr} {sl_read_count : Array (Option Value)} {oc_read_count kV_read_count dc_read_count pm_read_count cd_read_count ct_read_count : Value}
  {od_read_ask_count an_read_ask_count : Option Addr} {sl_read_ask_count : Array (Option Value)} {oc_read_ask_count kV_read_ask_count dc_read_ask_count pm_read_ask_count cd_read_ask_count ct_read_ask_count : Value}
  {od_place_of an_place_of : Option Addr} {sl_place_of : Array (Option Value)} {oc_place_of kV_place_of dc_place_of pm_place_of cd_place_of ct_place_of : Value}
  {od_read_part an_read_part : Option Addr} {sl_read_part : Array (Option Value)} {oc_read_part kV_read_part dc_read_part pm_read_part cd_read_part ct_read_part : Value}
  {od_read_beads_ask an_read_beads_ask : Option Addr} {sl_read_beads_ask : Array (Option Value)} {oc_read_beads_ask kV_read_beads_ask dc_read_beads_ask pm_read_beads_ask cd_read_beads_ask ct_read_beads_ask : Value}
  {od_placed_ask an_placed_ask : Option Addr} {sl_placed_ask : Array (Option Value)} {oc_placed_ask kV_placed_ask dc_placed_ask pm_placed_ask cd_placed_ask ct_placed_ask : Value}
  {od_bowl_at an_bowl_at : Option Addr} {sl_bowl_at : Array (Option Value)} {oc_bowl_at kV_bowl_at dc_bowl_at pm_bowl_at cd_bowl_at ct_bowl_at : Value}
  {od_read_bowl_ask an_read_bowl_ask : Option Addr} {sl_read_bowl_ask : Array (Option Value)} {oc_read_bowl_ask kV_read_bowl_ask dc_read_bowl_ask pm_read_bowl_ask cd_read_bowl_ask ct_read_bowl_ask : Value}
  {od_read_bare_ask an_read_bare_ask : Option Addr} {sl_read_bare_ask : Array (Option Value)} {oc_read_bare_ask kV_read_bare_ask dc_read_bare_ask pm_read_bare_ask cd_read_bare_ask ct_read_bare_ask : Value}
  {od_door_at an_door_at : Option Addr} {sl_door_at : Array (Option Value)} {oc_door_at kV_door_at dc_door_at pm_door_at cd_door_at ct_door_at : Value}
  {od_read_door_ask an_read_door_ask : Option Addr} {sl_read_door_ask : Array (Option Value)} {oc_read_door_ask kV_read_door_ask dc_read_door_ask pm_read_door_ask cd_read_door_ask ct_read_door_ask : Value}
  {od_BadAsk_init an_BadAsk_init : Option Addr} {sl_BadAsk_init : Array (Option Value)} {oc_BadAsk_init kV_BadAsk_init dc_BadAsk_init pm_BadAsk_init cd_BadAsk_init ct_BadAsk_init : Value}
  {od_ask_of_row an_ask_of_row : Option Addr} {sl_ask_of_row : Array (Option Value)} {oc_ask_of_row kV_ask_of_row dc_ask_of_row pm_ask_of_row cd_ask_of_row ct_ask_of_row : Value}
  {od_read_ask an_read_ask : Option Addr} {sl_read_ask : Array (Option Value)} {oc_read_ask kV_read_ask dc_read_ask pm_read_ask cd_read_ask ct_read_ask : Value}
  {od_is_idle an_is_idle : Option Addr} {sl_is_idle : Array (Option Value)} {oc_is_idle kV_is_idle dc_is_idle pm_is_idle cd_is_idle ct_is_idle : Value}
  {od_read_asks an_read_asks : Option Addr} {sl_read_asks : Array (Option Value)} {oc_read_asks kV_read_asks dc_read_asks pm_read_asks cd_read_asks ct_read_asks : Value}
  {od_law_refusal an_law_refusal : Option Addr} {sl_law_refusal : Array (Option Value)} {oc_law_refusal kV_law_refusal dc_law_refusal pm_law_refusal cd_law_refusal ct_law_refusal : Value}
  {od_law an_law : Option Addr} {sl_law : Array (Option Value)} {oc_law kV_law dc_law pm_law cd_law ct_law : Value}
  {h_READERS_0 : Int} {t_READERS_0 : Tok} {h_READERS_1 : Int} {t_READERS_1 : Tok} {h_READERS_2 : Int} {t_READERS_2 : Tok} {h_READERS_3 : Int} {t_READERS_3 : Tok} {h_READERS_4 : Int} {t_READERS_4 : Tok} {ep_READERS : Nat}
  {t_MOST_SIGNS : Tok}
  {t_MOST_BEADS : Tok}
  {t_LEAST_BOWLS : Tok}
  {t_MOST_BOWLS : Tok}
  {t_MOST_DOORS : Tok}
  {t_MOST_FIGURES : Tok}
  (aC_Net : PySem.W.nsIn K mainGlobals "Net" = some (some (.ref C_Net)))
  (aC_HallError : PySem.W.nsIn K mainGlobals "HallError" = some (some (.ref C_HallError)))
  (aC_BadAsk : PySem.W.nsIn K mainGlobals "BadAsk" = some (some (.ref C_BadAsk)))
  (aC_BadNet : PySem.W.nsIn K mainGlobals "BadNet" = some (some (.ref C_BadNet)))
  (aC_BadPaper : PySem.W.nsIn K mainGlobals "BadPaper" = some (some (.ref C_BadPaper)))
  (aC_BadText : PySem.W.nsIn K mainGlobals "BadText" = some (some (.ref C_BadText)))
  (aC_NoGo : PySem.W.nsIn K mainGlobals "NoGo" = some (some (.ref C_NoGo)))
  (aC_TooWide : PySem.W.nsIn K mainGlobals "TooWide" = some (some (.ref C_TooWide)))
  (aC_Unlike : PySem.W.nsIn K mainGlobals "Unlike" = some (some (.ref C_Unlike)))
  (a_is_name : PySem.W.nsIn K mainGlobals "is_name" = some (some (.ref f_is_name)))
  (l_is_name : K.lookup f_is_name = some ⟨oc_is_name, od_is_name, .func (PySem.W.fnOf "is_name" "is_name" (defArgs s_is_name) (defBody s_is_name) (defScope s_is_name) .none kV_is_name dc_is_name pm_is_name an_is_name cd_is_name ct_is_name), sl_is_name⟩)
  (c_is_name : PySem.W.codeIn K cd_is_name "is_name" = true)
  (k_is_name : PySem.W.keepIn K (.ref f_is_name) = true)
  (a_refuse_bad_names : PySem.W.nsIn K mainGlobals "refuse_bad_names" = some (some (.ref f_refuse_bad_names)))
  (l_refuse_bad_names : K.lookup f_refuse_bad_names = some ⟨oc_refuse_bad_names, od_refuse_bad_names, .func (PySem.W.fnOf "refuse_bad_names" "refuse_bad_names" (defArgs s_refuse_bad_names) (defBody s_refuse_bad_names) (defScope s_refuse_bad_names) .none kV_refuse_bad_names dc_refuse_bad_names pm_refuse_bad_names an_refuse_bad_names cd_refuse_bad_names ct_refuse_bad_names), sl_refuse_bad_names⟩)
  (c_refuse_bad_names : PySem.W.codeIn K cd_refuse_bad_names "refuse_bad_names" = true)
  (k_refuse_bad_names : PySem.W.keepIn K (.ref f_refuse_bad_names) = true)
  (a_refuse_bad_bags : PySem.W.nsIn K mainGlobals "refuse_bad_bags" = some (some (.ref f_refuse_bad_bags)))
  (l_refuse_bad_bags : K.lookup f_refuse_bad_bags = some ⟨oc_refuse_bad_bags, od_refuse_bad_bags, .func (PySem.W.fnOf "refuse_bad_bags" "refuse_bad_bags" (defArgs s_refuse_bad_bags) (defBody s_refuse_bad_bags) (defScope s_refuse_bad_bags) .none kV_refuse_bad_bags dc_refuse_bad_bags pm_refuse_bad_bags an_refuse_bad_bags cd_refuse_bad_bags ct_refuse_bad_bags), sl_refuse_bad_bags⟩)
  (c_refuse_bad_bags : PySem.W.codeIn K cd_refuse_bad_bags "refuse_bad_bags" = true)
  (k_refuse_bad_bags : PySem.W.keepIn K (.ref f_refuse_bad_bags) = true)
  (a_Net_init : PySem.W.findIn K (.ref C_Net) "__init__" = some (some (.ref f_Net_init)))
  (i_Net_init : PySem.W.isFn K (.ref f_Net_init) = true)
  (l_Net_init : K.lookup f_Net_init = some ⟨oc_Net_init, od_Net_init, .func (PySem.W.fnOf "__init__" "Net.__init__" (defArgs s_Net_init) (defBody s_Net_init) (defScope s_Net_init) .none kV_Net_init dc_Net_init pm_Net_init an_Net_init cd_Net_init ct_Net_init), sl_Net_init⟩)
  (c_Net_init : PySem.W.codeIn K cd_Net_init "Net.__init__" = true)
  (k_Net_init : PySem.W.keepIn K (.ref f_Net_init) = true)
  (a_law_mixed : PySem.W.nsIn K mainGlobals "_law_mixed" = some (some (.ref f_law_mixed)))
  (l_law_mixed : K.lookup f_law_mixed = some ⟨oc_law_mixed, od_law_mixed, .func (PySem.W.fnOf "_law_mixed" "_law_mixed" (defArgs s_law_mixed) (defBody s_law_mixed) (defScope s_law_mixed) .none kV_law_mixed dc_law_mixed pm_law_mixed an_law_mixed cd_law_mixed ct_law_mixed), sl_law_mixed⟩)
  (c_law_mixed : PySem.W.codeIn K cd_law_mixed "_law_mixed" = true)
  (k_law_mixed : PySem.W.keepIn K (.ref f_law_mixed) = true)
  (a_law_names : PySem.W.nsIn K mainGlobals "_law_names" = some (some (.ref f_law_names)))
  (l_law_names : K.lookup f_law_names = some ⟨oc_law_names, od_law_names, .func (PySem.W.fnOf "_law_names" "_law_names" (defArgs s_law_names) (defBody s_law_names) (defScope s_law_names) .none kV_law_names dc_law_names pm_law_names an_law_names cd_law_names ct_law_names), sl_law_names⟩)
  (c_law_names : PySem.W.codeIn K cd_law_names "_law_names" = true)
  (k_law_names : PySem.W.keepIn K (.ref f_law_names) = true)
  (a_law_named_net : PySem.W.nsIn K mainGlobals "_law_named_net" = some (some (.ref f_law_named_net)))
  (l_law_named_net : K.lookup f_law_named_net = some ⟨oc_law_named_net, od_law_named_net, .func (PySem.W.fnOf "_law_named_net" "_law_named_net" (defArgs s_law_named_net) (defBody s_law_named_net) (defScope s_law_named_net) .none kV_law_named_net dc_law_named_net pm_law_named_net an_law_named_net cd_law_named_net ct_law_named_net), sl_law_named_net⟩)
  (c_law_named_net : PySem.W.codeIn K cd_law_named_net "_law_named_net" = true)
  (k_law_named_net : PySem.W.keepIn K (.ref f_law_named_net) = true)
  (a_law_bowl_alone : PySem.W.nsIn K mainGlobals "_law_bowl_alone" = some (some (.ref f_law_bowl_alone)))
  (l_law_bowl_alone : K.lookup f_law_bowl_alone = some ⟨oc_law_bowl_alone, od_law_bowl_alone, .func (PySem.W.fnOf "_law_bowl_alone" "_law_bowl_alone" (defArgs s_law_bowl_alone) (defBody s_law_bowl_alone) (defScope s_law_bowl_alone) .none kV_law_bowl_alone dc_law_bowl_alone pm_law_bowl_alone an_law_bowl_alone cd_law_bowl_alone ct_law_bowl_alone), sl_law_bowl_alone⟩)
  (c_law_bowl_alone : PySem.W.codeIn K cd_law_bowl_alone "_law_bowl_alone" = true)
  (k_law_bowl_alone : PySem.W.keepIn K (.ref f_law_bowl_alone) = true)
  (a_law_door_alone : PySem.W.nsIn K mainGlobals "_law_door_alone" = some (some (.ref f_law_door_alone)))
  (l_law_door_alone : K.lookup f_law_door_alone = some ⟨oc_law_door_alone, od_law_door_alone, .func (PySem.W.fnOf "_law_door_alone" "_law_door_alone" (defArgs s_law_door_alone) (defBody s_law_door_alone) (defScope s_law_door_alone) .none kV_law_door_alone dc_law_door_alone pm_law_door_alone an_law_door_alone cd_law_door_alone ct_law_door_alone), sl_law_door_alone⟩)
  (c_law_door_alone : PySem.W.codeIn K cd_law_door_alone "_law_door_alone" = true)
  (k_law_door_alone : PySem.W.keepIn K (.ref f_law_door_alone) = true)
  (a_law_bad_rows : PySem.W.nsIn K mainGlobals "_law_bad_rows" = some (some (.ref f_law_bad_rows)))
  (l_law_bad_rows : K.lookup f_law_bad_rows = some ⟨oc_law_bad_rows, od_law_bad_rows, .func (PySem.W.fnOf "_law_bad_rows" "_law_bad_rows" (defArgs s_law_bad_rows) (defBody s_law_bad_rows) (defScope s_law_bad_rows) .none kV_law_bad_rows dc_law_bad_rows pm_law_bad_rows an_law_bad_rows cd_law_bad_rows ct_law_bad_rows), sl_law_bad_rows⟩)
  (c_law_bad_rows : PySem.W.codeIn K cd_law_bad_rows "_law_bad_rows" = true)
  (k_law_bad_rows : PySem.W.keepIn K (.ref f_law_bad_rows) = true)
  (a_law_beads_row : PySem.W.nsIn K mainGlobals "_law_beads_row" = some (some (.ref f_law_beads_row)))
  (l_law_beads_row : K.lookup f_law_beads_row = some ⟨oc_law_beads_row, od_law_beads_row, .func (PySem.W.fnOf "_law_beads_row" "_law_beads_row" (defArgs s_law_beads_row) (defBody s_law_beads_row) (defScope s_law_beads_row) .none kV_law_beads_row dc_law_beads_row pm_law_beads_row an_law_beads_row cd_law_beads_row ct_law_beads_row), sl_law_beads_row⟩)
  (c_law_beads_row : PySem.W.codeIn K cd_law_beads_row "_law_beads_row" = true)
  (k_law_beads_row : PySem.W.keepIn K (.ref f_law_beads_row) = true)
  (a_law_row : PySem.W.nsIn K mainGlobals "_law_row" = some (some (.ref f_law_row)))
  (l_law_row : K.lookup f_law_row = some ⟨oc_law_row, od_law_row, .func (PySem.W.fnOf "_law_row" "_law_row" (defArgs s_law_row) (defBody s_law_row) (defScope s_law_row) .none kV_law_row dc_law_row pm_law_row an_law_row cd_law_row ct_law_row), sl_law_row⟩)
  (c_law_row : PySem.W.codeIn K cd_law_row "_law_row" = true)
  (k_law_row : PySem.W.keepIn K (.ref f_law_row) = true)
  (a_read_count : PySem.W.nsIn K mainGlobals "read_count" = some (some (.ref f_read_count)))
  (l_read_count : K.lookup f_read_count = some ⟨oc_read_count, od_read_count, .func (PySem.W.fnOf "read_count" "read_count" (defArgs s_read_count) (defBody s_read_count) (defScope s_read_count) .none kV_read_count dc_read_count pm_read_count an_read_count cd_read_count ct_read_count), sl_read_count⟩)
  (c_read_count : PySem.W.codeIn K cd_read_count "read_count" = true)
  (k_read_count : PySem.W.keepIn K (.ref f_read_count) = true)
  (a_read_ask_count : PySem.W.nsIn K mainGlobals "read_ask_count" = some (some (.ref f_read_ask_count)))
  (l_read_ask_count : K.lookup f_read_ask_count = some ⟨oc_read_ask_count, od_read_ask_count, .func (PySem.W.fnOf "read_ask_count" "read_ask_count" (defArgs s_read_ask_count) (defBody s_read_ask_count) (defScope s_read_ask_count) .none kV_read_ask_count dc_read_ask_count pm_read_ask_count an_read_ask_count cd_read_ask_count ct_read_ask_count), sl_read_ask_count⟩)
  (c_read_ask_count : PySem.W.codeIn K cd_read_ask_count "read_ask_count" = true)
  (k_read_ask_count : PySem.W.keepIn K (.ref f_read_ask_count) = true)
  (a_place_of : PySem.W.nsIn K mainGlobals "place_of" = some (some (.ref f_place_of)))
  (l_place_of : K.lookup f_place_of = some ⟨oc_place_of, od_place_of, .func (PySem.W.fnOf "place_of" "place_of" (defArgs s_place_of) (defBody s_place_of) (defScope s_place_of) .none kV_place_of dc_place_of pm_place_of an_place_of cd_place_of ct_place_of), sl_place_of⟩)
  (c_place_of : PySem.W.codeIn K cd_place_of "place_of" = true)
  (k_place_of : PySem.W.keepIn K (.ref f_place_of) = true)
  (a_read_part : PySem.W.nsIn K mainGlobals "read_part" = some (some (.ref f_read_part)))
  (l_read_part : K.lookup f_read_part = some ⟨oc_read_part, od_read_part, .func (PySem.W.fnOf "read_part" "read_part" (defArgs s_read_part) (defBody s_read_part) (defScope s_read_part) .none kV_read_part dc_read_part pm_read_part an_read_part cd_read_part ct_read_part), sl_read_part⟩)
  (c_read_part : PySem.W.codeIn K cd_read_part "read_part" = true)
  (k_read_part : PySem.W.keepIn K (.ref f_read_part) = true)
  (a_read_beads_ask : PySem.W.nsIn K mainGlobals "read_beads_ask" = some (some (.ref f_read_beads_ask)))
  (l_read_beads_ask : K.lookup f_read_beads_ask = some ⟨oc_read_beads_ask, od_read_beads_ask, .func (PySem.W.fnOf "read_beads_ask" "read_beads_ask" (defArgs s_read_beads_ask) (defBody s_read_beads_ask) (defScope s_read_beads_ask) .none kV_read_beads_ask dc_read_beads_ask pm_read_beads_ask an_read_beads_ask cd_read_beads_ask ct_read_beads_ask), sl_read_beads_ask⟩)
  (c_read_beads_ask : PySem.W.codeIn K cd_read_beads_ask "read_beads_ask" = true)
  (k_read_beads_ask : PySem.W.keepIn K (.ref f_read_beads_ask) = true)
  (a_placed_ask : PySem.W.nsIn K mainGlobals "placed_ask" = some (some (.ref f_placed_ask)))
  (l_placed_ask : K.lookup f_placed_ask = some ⟨oc_placed_ask, od_placed_ask, .func (PySem.W.fnOf "placed_ask" "placed_ask" (defArgs s_placed_ask) (defBody s_placed_ask) (defScope s_placed_ask) .none kV_placed_ask dc_placed_ask pm_placed_ask an_placed_ask cd_placed_ask ct_placed_ask), sl_placed_ask⟩)
  (c_placed_ask : PySem.W.codeIn K cd_placed_ask "placed_ask" = true)
  (k_placed_ask : PySem.W.keepIn K (.ref f_placed_ask) = true)
  (a_bowl_at : PySem.W.nsIn K mainGlobals "bowl_at" = some (some (.ref f_bowl_at)))
  (l_bowl_at : K.lookup f_bowl_at = some ⟨oc_bowl_at, od_bowl_at, .func (PySem.W.fnOf "bowl_at" "bowl_at" (defArgs s_bowl_at) (defBody s_bowl_at) (defScope s_bowl_at) .none kV_bowl_at dc_bowl_at pm_bowl_at an_bowl_at cd_bowl_at ct_bowl_at), sl_bowl_at⟩)
  (c_bowl_at : PySem.W.codeIn K cd_bowl_at "bowl_at" = true)
  (k_bowl_at : PySem.W.keepIn K (.ref f_bowl_at) = true)
  (a_read_bowl_ask : PySem.W.nsIn K mainGlobals "read_bowl_ask" = some (some (.ref f_read_bowl_ask)))
  (l_read_bowl_ask : K.lookup f_read_bowl_ask = some ⟨oc_read_bowl_ask, od_read_bowl_ask, .func (PySem.W.fnOf "read_bowl_ask" "read_bowl_ask" (defArgs s_read_bowl_ask) (defBody s_read_bowl_ask) (defScope s_read_bowl_ask) .none kV_read_bowl_ask dc_read_bowl_ask pm_read_bowl_ask an_read_bowl_ask cd_read_bowl_ask ct_read_bowl_ask), sl_read_bowl_ask⟩)
  (c_read_bowl_ask : PySem.W.codeIn K cd_read_bowl_ask "read_bowl_ask" = true)
  (k_read_bowl_ask : PySem.W.keepIn K (.ref f_read_bowl_ask) = true)
  (a_read_bare_ask : PySem.W.nsIn K mainGlobals "read_bare_ask" = some (some (.ref f_read_bare_ask)))
  (l_read_bare_ask : K.lookup f_read_bare_ask = some ⟨oc_read_bare_ask, od_read_bare_ask, .func (PySem.W.fnOf "read_bare_ask" "read_bare_ask" (defArgs s_read_bare_ask) (defBody s_read_bare_ask) (defScope s_read_bare_ask) .none kV_read_bare_ask dc_read_bare_ask pm_read_bare_ask an_read_bare_ask cd_read_bare_ask ct_read_bare_ask), sl_read_bare_ask⟩)
  (c_read_bare_ask : PySem.W.codeIn K cd_read_bare_ask "read_bare_ask" = true)
  (k_read_bare_ask : PySem.W.keepIn K (.ref f_read_bare_ask) = true)
  (a_door_at : PySem.W.nsIn K mainGlobals "door_at" = some (some (.ref f_door_at)))
  (l_door_at : K.lookup f_door_at = some ⟨oc_door_at, od_door_at, .func (PySem.W.fnOf "door_at" "door_at" (defArgs s_door_at) (defBody s_door_at) (defScope s_door_at) .none kV_door_at dc_door_at pm_door_at an_door_at cd_door_at ct_door_at), sl_door_at⟩)
  (c_door_at : PySem.W.codeIn K cd_door_at "door_at" = true)
  (k_door_at : PySem.W.keepIn K (.ref f_door_at) = true)
  (a_read_door_ask : PySem.W.nsIn K mainGlobals "read_door_ask" = some (some (.ref f_read_door_ask)))
  (l_read_door_ask : K.lookup f_read_door_ask = some ⟨oc_read_door_ask, od_read_door_ask, .func (PySem.W.fnOf "read_door_ask" "read_door_ask" (defArgs s_read_door_ask) (defBody s_read_door_ask) (defScope s_read_door_ask) .none kV_read_door_ask dc_read_door_ask pm_read_door_ask an_read_door_ask cd_read_door_ask ct_read_door_ask), sl_read_door_ask⟩)
  (c_read_door_ask : PySem.W.codeIn K cd_read_door_ask "read_door_ask" = true)
  (k_read_door_ask : PySem.W.keepIn K (.ref f_read_door_ask) = true)
  (a_BadAsk_init : PySem.W.findIn K (.ref C_BadAsk) "__init__" = some (some (.ref f_BadAsk_init)))
  (i_BadAsk_init : PySem.W.isFn K (.ref f_BadAsk_init) = true)
  (l_BadAsk_init : K.lookup f_BadAsk_init = some ⟨oc_BadAsk_init, od_BadAsk_init, .func (PySem.W.fnOf "__init__" "BadAsk.__init__" (defArgs s_BadAsk_init) (defBody s_BadAsk_init) (defScope s_BadAsk_init) .none kV_BadAsk_init dc_BadAsk_init pm_BadAsk_init an_BadAsk_init cd_BadAsk_init ct_BadAsk_init), sl_BadAsk_init⟩)
  (c_BadAsk_init : PySem.W.codeIn K cd_BadAsk_init "BadAsk.__init__" = true)
  (k_BadAsk_init : PySem.W.keepIn K (.ref f_BadAsk_init) = true)
  (a_ask_of_row : PySem.W.nsIn K mainGlobals "ask_of_row" = some (some (.ref f_ask_of_row)))
  (l_ask_of_row : K.lookup f_ask_of_row = some ⟨oc_ask_of_row, od_ask_of_row, .func (PySem.W.fnOf "ask_of_row" "ask_of_row" (defArgs s_ask_of_row) (defBody s_ask_of_row) (defScope s_ask_of_row) .none kV_ask_of_row dc_ask_of_row pm_ask_of_row an_ask_of_row cd_ask_of_row ct_ask_of_row), sl_ask_of_row⟩)
  (c_ask_of_row : PySem.W.codeIn K cd_ask_of_row "ask_of_row" = true)
  (k_ask_of_row : PySem.W.keepIn K (.ref f_ask_of_row) = true)
  (a_read_ask : PySem.W.nsIn K mainGlobals "read_ask" = some (some (.ref f_read_ask)))
  (l_read_ask : K.lookup f_read_ask = some ⟨oc_read_ask, od_read_ask, .func (PySem.W.fnOf "read_ask" "read_ask" (defArgs s_read_ask) (defBody s_read_ask) (defScope s_read_ask) .none kV_read_ask dc_read_ask pm_read_ask an_read_ask cd_read_ask ct_read_ask), sl_read_ask⟩)
  (c_read_ask : PySem.W.codeIn K cd_read_ask "read_ask" = true)
  (k_read_ask : PySem.W.keepIn K (.ref f_read_ask) = true)
  (a_is_idle : PySem.W.nsIn K mainGlobals "is_idle" = some (some (.ref f_is_idle)))
  (l_is_idle : K.lookup f_is_idle = some ⟨oc_is_idle, od_is_idle, .func (PySem.W.fnOf "is_idle" "is_idle" (defArgs s_is_idle) (defBody s_is_idle) (defScope s_is_idle) .none kV_is_idle dc_is_idle pm_is_idle an_is_idle cd_is_idle ct_is_idle), sl_is_idle⟩)
  (c_is_idle : PySem.W.codeIn K cd_is_idle "is_idle" = true)
  (k_is_idle : PySem.W.keepIn K (.ref f_is_idle) = true)
  (a_read_asks : PySem.W.nsIn K mainGlobals "read_asks" = some (some (.ref f_read_asks)))
  (l_read_asks : K.lookup f_read_asks = some ⟨oc_read_asks, od_read_asks, .func (PySem.W.fnOf "read_asks" "read_asks" (defArgs s_read_asks) (defBody s_read_asks) (defScope s_read_asks) .none kV_read_asks dc_read_asks pm_read_asks an_read_asks cd_read_asks ct_read_asks), sl_read_asks⟩)
  (c_read_asks : PySem.W.codeIn K cd_read_asks "read_asks" = true)
  (k_read_asks : PySem.W.keepIn K (.ref f_read_asks) = true)
  (a_law_refusal : PySem.W.nsIn K mainGlobals "_law_refusal" = some (some (.ref f_law_refusal)))
  (l_law_refusal : K.lookup f_law_refusal = some ⟨oc_law_refusal, od_law_refusal, .func (PySem.W.fnOf "_law_refusal" "_law_refusal" (defArgs s_law_refusal) (defBody s_law_refusal) (defScope s_law_refusal) .none kV_law_refusal dc_law_refusal pm_law_refusal an_law_refusal cd_law_refusal ct_law_refusal), sl_law_refusal⟩)
  (c_law_refusal : PySem.W.codeIn K cd_law_refusal "_law_refusal" = true)
  (k_law_refusal : PySem.W.keepIn K (.ref f_law_refusal) = true)
  (a_law : PySem.W.nsIn K mainGlobals "law" = some (some (.ref f_law)))
  (l_law : K.lookup f_law = some ⟨oc_law, od_law, .func (PySem.W.fnOf "law" "law" (defArgs s_law) (defBody s_law) (defScope s_law) .none kV_law dc_law pm_law an_law cd_law ct_law), sl_law⟩)
  (c_law : PySem.W.codeIn K cd_law "law" = true)
  (k_law : PySem.W.keepIn K (.ref f_law) = true)
  (pg_Net : PySem.W.plainGet K C_Net Str.empty = true)
  (hd_Net : PySem.W.hasDictIn K C_Net = true)
  (po_Net : PySem.W.plainOver K C_Net = true)
  (sa_Net : PySem.W.findIn K (.ref C_Net) "__setattr__" = some (some (.builtin "object.__setattr__")))
  (mk_Net : PySem.W.makesIn K C_Net = true)
  (kc_Net : PySem.W.keepIn K (.ref C_Net) = true)
  (n_Net_bowls : PySem.W.findIn K (.ref C_Net) "bowls" = some none)
  (n_Net_doors : PySem.W.findIn K (.ref C_Net) "doors" = some none)
  (n_Net_takes : PySem.W.findIn K (.ref C_Net) "takes" = some none)
  (n_Net_gives : PySem.W.findIn K (.ref C_Net) "gives" = some none)
  (n_Net_first : PySem.W.findIn K (.ref C_Net) "first" = some none)
  (ec_HallError : ecIn K C_HallError excMro = true)
  (xp_HallError : ((PySem.W.clsIn K C_HallError).map (·.ns)).bind (fun N => PySem.W.nsIn K N "__init__") = some none)
  (ec_BadAsk : ecIn K C_BadAsk (.ref C_HallError :: excMro) = true)
  (xsa_BadAsk : PySem.W.findIn K (.ref C_BadAsk) "__setattr__" = some (some (.builtin "object.__setattr__")))
  (xhd_BadAsk : PySem.W.hasDictIn K C_BadAsk = true)
  (kc_BadAsk : PySem.W.keepIn K (.ref C_BadAsk) = true)
  (xga_BadAsk : PySem.W.findIn K (.ref C_BadAsk) "__getattribute__" = some (some (.builtin "BaseException.__getattribute__")))
  (xgh_BadAsk : PySem.W.findIn K (.ref C_BadAsk) "__getattr__" = some none)
  (xca_BadAsk : PySem.W.findIn K (.ref C_BadAsk) "__class__" = some (some (.builtin "object.__class__")))
  (xcg_BadAsk : PySem.W.specialIn K (.builtin "object.__class__") "__get__" = some (some (.builtin "getset_descriptor.__get__")))
  (xck_BadAsk : PySem.W.takesIn K (.builtin "object.__class__") = some true)
  (xt_row_BadAsk : PySem.W.findIn K (.ref C_BadAsk) "row" = some none)
  (ec_BadNet : ecIn K C_BadNet (.ref C_HallError :: excMro) = true)
  (xp_BadNet : ((PySem.W.clsIn K C_BadNet).map (·.ns)).bind (fun N => PySem.W.nsIn K N "__init__") = some none)
  (ec_BadPaper : ecIn K C_BadPaper (.ref C_HallError :: excMro) = true)
  (xsa_BadPaper : PySem.W.findIn K (.ref C_BadPaper) "__setattr__" = some (some (.builtin "object.__setattr__")))
  (xhd_BadPaper : PySem.W.hasDictIn K C_BadPaper = true)
  (ec_BadText : ecIn K C_BadText (.ref C_HallError :: excMro) = true)
  (xsa_BadText : PySem.W.findIn K (.ref C_BadText) "__setattr__" = some (some (.builtin "object.__setattr__")))
  (xhd_BadText : PySem.W.hasDictIn K C_BadText = true)
  (ec_NoGo : ecIn K C_NoGo (.ref C_HallError :: excMro) = true)
  (xsa_NoGo : PySem.W.findIn K (.ref C_NoGo) "__setattr__" = some (some (.builtin "object.__setattr__")))
  (xhd_NoGo : PySem.W.hasDictIn K C_NoGo = true)
  (ec_TooWide : ecIn K C_TooWide (.ref C_HallError :: excMro) = true)
  (xp_TooWide : ((PySem.W.clsIn K C_TooWide).map (·.ns)).bind (fun N => PySem.W.nsIn K N "__init__") = some none)
  (ec_Unlike : ecIn K C_Unlike (.ref C_HallError :: excMro) = true)
  (xp_Unlike : ((PySem.W.clsIn K C_Unlike).map (·.ns)).bind (fun N => PySem.W.nsIn K N "__init__") = some none)
  (xbg : PySem.W.specialIn K (.ref C_HallError) "__getattribute__" = some (some (.builtin "type.__getattribute__")))
  (xbr : PySem.W.readsIn K C_HallError (.type "type") = true)
  (xbf : PySem.W.findCls K (.ref C_HallError) (.type "type") "__init__" = some (.val (.builtin "ValueError.__init__")))
  (ne_BadNet_HallError : C_BadNet ≠ C_HallError)
  (ne_BadNet_BadAsk : C_BadNet ≠ C_BadAsk)
  (ne_BadPaper_HallError : C_BadPaper ≠ C_HallError)
  (ne_BadPaper_BadAsk : C_BadPaper ≠ C_BadAsk)
  (ne_BadText_HallError : C_BadText ≠ C_HallError)
  (ne_BadText_BadAsk : C_BadText ≠ C_BadAsk)
  (ne_NoGo_HallError : C_NoGo ≠ C_HallError)
  (ne_NoGo_BadAsk : C_NoGo ≠ C_BadAsk)
  (ne_TooWide_HallError : C_TooWide ≠ C_HallError)
  (ne_TooWide_BadAsk : C_TooWide ≠ C_BadAsk)
  (ne_Unlike_HallError : C_Unlike ≠ C_HallError)
  (ne_Unlike_BadAsk : C_Unlike ≠ C_BadAsk)
  (aD_READERS : PySem.W.nsIn K mainGlobals "READERS" = some (some (.ref D_READERS)))
  (lD_READERS : K.lookup D_READERS = some ⟨.type "dict", none, .dict #[⟨h_READERS_0, .str (Str.ofString "cover") t_READERS_0, .ref f_read_beads_ask⟩, ⟨h_READERS_1, .str (Str.ofString "reach") t_READERS_1, .ref f_read_beads_ask⟩, ⟨h_READERS_2, .str (Str.ofString "most") t_READERS_2, .ref f_read_bowl_ask⟩, ⟨h_READERS_3, .str (Str.ofString "stick") t_READERS_3, .ref f_read_bare_ask⟩, ⟨h_READERS_4, .str (Str.ofString "ever") t_READERS_4, .ref f_read_door_ask⟩] ep_READERS, #[]⟩)
  (hD_READERS_0 : h_READERS_0 = keyH w (.inr (Str.ofString "cover")))
  (hD_READERS_1 : h_READERS_1 = keyH w (.inr (Str.ofString "reach")))
  (hD_READERS_2 : h_READERS_2 = keyH w (.inr (Str.ofString "most")))
  (hD_READERS_3 : h_READERS_3 = keyH w (.inr (Str.ofString "stick")))
  (hD_READERS_4 : h_READERS_4 = keyH w (.inr (Str.ofString "ever")))
  (sD_READERS : (D_READERS == sysModules) = false)
  (g_MOST_SIGNS : PySem.W.nsIn K mainGlobals "MOST_SIGNS" = some (some (.int 8 t_MOST_SIGNS)))
  (g_MOST_BEADS : PySem.W.nsIn K mainGlobals "MOST_BEADS" = some (some (.int 1000000000 t_MOST_BEADS)))
  (g_LEAST_BOWLS : PySem.W.nsIn K mainGlobals "LEAST_BOWLS" = some (some (.int 1 t_LEAST_BOWLS)))
  (g_MOST_BOWLS : PySem.W.nsIn K mainGlobals "MOST_BOWLS" = some (some (.int 6 t_MOST_BOWLS)))
  (g_MOST_DOORS : PySem.W.nsIn K mainGlobals "MOST_DOORS" = some (some (.int 8 t_MOST_DOORS)))
  (g_MOST_FIGURES : PySem.W.nsIn K mainGlobals "MOST_FIGURES" = some (some (.int 200 t_MOST_FIGURES)))
  (z_len : PySem.W.nsIn K mainGlobals "len" = some none)
  (z_all : PySem.W.nsIn K mainGlobals "all" = some none)
  (z_set : PySem.W.nsIn K mainGlobals "set" = some none)
  (z_list : PySem.W.nsIn K mainGlobals "list" = some none)
  (z_range : PySem.W.nsIn K mainGlobals "range" = some none)
  (z_str : PySem.W.nsIn K mainGlobals "str" = some none)
  (z_int : PySem.W.nsIn K mainGlobals "int" = some none)
  (z_enumerate : PySem.W.nsIn K mainGlobals "enumerate" = some none)
  (z_isinstance : PySem.W.nsIn K mainGlobals "isinstance" = some none)
  (z_ValueError : PySem.W.nsIn K mainGlobals "ValueError" = some none)
  (z_tuple : PySem.W.nsIn K mainGlobals "tuple" = some none)
  : ∃ fd : FuncData, (∀ (s : Shared) (v : Value), BindsTo s fd ⟨[v], []⟩ [("script", v)]) ∧ ∀ base : Heap, K.In base → base.Ns mainGlobals mg → FnOk l.prog w K mg base CX0 10 fa fd ["script"] (sp_law K) := by
 have e:=hfa.symm.trans (PySem.W.mg_of X G a_law)
 cases e
 have F_is_name:=fun_mk (st:=s_is_name) l_is_name c_is_name k_is_name
 have b_is_name := F_is_name.binds (ps := ["word"]) fun _ _ _ _ _ _ us hl => by obtain ⟨_, rfl⟩ := ex_1 hl; rfl
 have F_refuse_bad_names:=fun_mk (st:=s_refuse_bad_names) l_refuse_bad_names c_refuse_bad_names k_refuse_bad_names
 have b_refuse_bad_names := F_refuse_bad_names.binds (ps := ["names", "least", "most"]) fun _ _ _ _ _ _ us hl => by obtain ⟨_, _, _, rfl⟩ := ex_3 hl; rfl
 have F_refuse_bad_bags:=fun_mk (st:=s_refuse_bad_bags) l_refuse_bad_bags c_refuse_bad_bags k_refuse_bad_bags
 have b_refuse_bad_bags := F_refuse_bad_bags.binds (ps := ["bags", "many", "width"]) fun _ _ _ _ _ _ us hl => by obtain ⟨_, _, _, rfl⟩ := ex_3 hl; rfl
 have F_Net_init:=fun_mk (st:=s_Net_init) l_Net_init c_Net_init k_Net_init
 have b_Net_init := F_Net_init.binds (ps := ["self", "bowls", "doors", "takes", "gives", "first"]) fun _ _ _ _ _ _ us hl => by obtain ⟨_, _, _, _, _, _, rfl⟩ := ex_6 hl; rfl
 have F_law_mixed:=fun_mk (st:=s_law_mixed) l_law_mixed c_law_mixed k_law_mixed
 have b_law_mixed := F_law_mixed.binds (ps := ["script", "k"]) fun _ _ _ _ _ _ us hl => by obtain ⟨_, _, rfl⟩ := ex_2 hl; rfl
 have F_law_names:=fun_mk (st:=s_law_names) l_law_names c_law_names k_law_names
 have b_law_names := F_law_names.binds (ps := ["script", "k", "many"]) fun _ _ _ _ _ _ us hl => by obtain ⟨_, _, _, rfl⟩ := ex_3 hl; rfl
 have F_law_named_net:=fun_mk (st:=s_law_named_net) l_law_named_net c_law_named_net k_law_named_net
 have b_law_named_net := F_law_named_net.binds (ps := ["script"]) fun _ _ _ _ _ _ us hl => by obtain ⟨_, rfl⟩ := ex_1 hl; rfl
 have F_law_bowl_alone:=fun_mk (st:=s_law_bowl_alone) l_law_bowl_alone c_law_bowl_alone k_law_bowl_alone
 have b_law_bowl_alone := F_law_bowl_alone.binds (ps := ["net"]) fun _ _ _ _ _ _ us hl => by obtain ⟨_, rfl⟩ := ex_1 hl; rfl
 have F_law_door_alone:=fun_mk (st:=s_law_door_alone) l_law_door_alone c_law_door_alone k_law_door_alone
 have b_law_door_alone := F_law_door_alone.binds (ps := ["net"]) fun _ _ _ _ _ _ us hl => by obtain ⟨_, rfl⟩ := ex_1 hl; rfl
 have F_law_bad_rows:=fun_mk (st:=s_law_bad_rows) l_law_bad_rows c_law_bad_rows k_law_bad_rows
 have b_law_bad_rows := F_law_bad_rows.binds (ps := ["net", "cell"]) fun _ _ _ _ _ _ us hl => by obtain ⟨_, _, rfl⟩ := ex_2 hl; rfl
 have F_law_beads_row:=fun_mk (st:=s_law_beads_row) l_law_beads_row c_law_beads_row k_law_beads_row
 have b_law_beads_row := F_law_beads_row.binds (ps := ["net", "way", "bowl", "many"]) fun _ _ _ _ _ _ us hl => by obtain ⟨_, _, _, _, rfl⟩ := ex_4 hl; rfl
 have F_law_row:=fun_mk (st:=s_law_row) l_law_row c_law_row k_law_row
 have b_law_row := F_law_row.binds (ps := ["net", "cell"]) fun _ _ _ _ _ _ us hl => by obtain ⟨_, _, rfl⟩ := ex_2 hl; rfl
 have F_read_count:=fun_mk (st:=s_read_count) l_read_count c_read_count k_read_count
 have b_read_count := F_read_count.binds (ps := ["word", "figures"]) fun _ _ _ _ _ _ us hl => by obtain ⟨_, _, rfl⟩ := ex_2 hl; rfl
 have F_read_ask_count:=fun_mk (st:=s_read_ask_count) l_read_ask_count c_read_ask_count k_read_ask_count
 have b_read_ask_count := F_read_ask_count.binds (ps := ["word"]) fun _ _ _ _ _ _ us hl => by obtain ⟨_, rfl⟩ := ex_1 hl; rfl
 have F_place_of:=fun_mk (st:=s_place_of) l_place_of c_place_of k_place_of
 have b_place_of := F_place_of.binds (ps := ["names", "name"]) fun _ _ _ _ _ _ us hl => by obtain ⟨_, _, rfl⟩ := ex_2 hl; rfl
 have F_read_part:=fun_mk (st:=s_read_part) l_read_part c_read_part k_read_part
 have b_read_part := F_read_part.binds (ps := ["bowls", "words", "read"]) fun _ _ _ _ _ _ us hl => by obtain ⟨_, _, _, rfl⟩ := ex_3 hl; rfl
 have F_read_beads_ask:=fun_mk (st:=s_read_beads_ask) l_read_beads_ask c_read_beads_ask k_read_beads_ask
 have b_read_beads_ask := F_read_beads_ask.binds (ps := ["net", "kind", "words"]) fun _ _ _ _ _ _ us hl => by obtain ⟨_, _, _, rfl⟩ := ex_3 hl; rfl
 have F_placed_ask:=fun_mk (st:=s_placed_ask) l_placed_ask c_placed_ask k_placed_ask
 have b_placed_ask := F_placed_ask.binds (ps := ["kind", "place"]) fun _ _ _ _ _ _ us hl => by obtain ⟨_, _, rfl⟩ := ex_2 hl; rfl
 have F_bowl_at:=fun_mk (st:=s_bowl_at) l_bowl_at c_bowl_at k_bowl_at
 have b_bowl_at := F_bowl_at.binds (ps := ["net", "name"]) fun _ _ _ _ _ _ us hl => by obtain ⟨_, _, rfl⟩ := ex_2 hl; rfl
 have F_read_bowl_ask:=fun_mk (st:=s_read_bowl_ask) l_read_bowl_ask c_read_bowl_ask k_read_bowl_ask
 have b_read_bowl_ask := F_read_bowl_ask.binds (ps := ["net", "kind", "words"]) fun _ _ _ _ _ _ us hl => by obtain ⟨_, _, _, rfl⟩ := ex_3 hl; rfl
 have F_read_bare_ask:=fun_mk (st:=s_read_bare_ask) l_read_bare_ask c_read_bare_ask k_read_bare_ask
 have b_read_bare_ask := F_read_bare_ask.binds (ps := ["net", "kind", "words"]) fun _ _ _ _ _ _ us hl => by obtain ⟨_, _, _, rfl⟩ := ex_3 hl; rfl
 have F_door_at:=fun_mk (st:=s_door_at) l_door_at c_door_at k_door_at
 have b_door_at := F_door_at.binds (ps := ["net", "name"]) fun _ _ _ _ _ _ us hl => by obtain ⟨_, _, rfl⟩ := ex_2 hl; rfl
 have F_read_door_ask:=fun_mk (st:=s_read_door_ask) l_read_door_ask c_read_door_ask k_read_door_ask
 have b_read_door_ask := F_read_door_ask.binds (ps := ["net", "kind", "words"]) fun _ _ _ _ _ _ us hl => by obtain ⟨_, _, _, rfl⟩ := ex_3 hl; rfl
 have F_BadAsk_init:=fun_mk (st:=s_BadAsk_init) l_BadAsk_init c_BadAsk_init k_BadAsk_init
 have b_BadAsk_init := F_BadAsk_init.binds (ps := ["self", "words", "row"]) fun _ _ _ _ _ _ us hl => by obtain ⟨_, _, _, rfl⟩ := ex_3 hl; rfl
 have F_ask_of_row:=fun_mk (st:=s_ask_of_row) l_ask_of_row c_ask_of_row k_ask_of_row
 have b_ask_of_row := F_ask_of_row.binds (ps := ["net", "row", "number"]) fun _ _ _ _ _ _ us hl => by obtain ⟨_, _, _, rfl⟩ := ex_3 hl; rfl
 have F_read_ask:=fun_mk (st:=s_read_ask) l_read_ask c_read_ask k_read_ask
 have b_read_ask := F_read_ask.binds (ps := ["net", "row"]) fun _ _ _ _ _ _ us hl => by obtain ⟨_, _, rfl⟩ := ex_2 hl; rfl
 have F_is_idle:=fun_mk (st:=s_is_idle) l_is_idle c_is_idle k_is_idle
 have b_is_idle := F_is_idle.binds (ps := ["row"]) fun _ _ _ _ _ _ us hl => by obtain ⟨_, rfl⟩ := ex_1 hl; rfl
 have F_read_asks:=fun_mk (st:=s_read_asks) l_read_asks c_read_asks k_read_asks
 have b_read_asks := F_read_asks.binds (ps := ["net", "text"]) fun _ _ _ _ _ _ us hl => by obtain ⟨_, _, rfl⟩ := ex_2 hl; rfl
 have F_law_refusal:=fun_mk (st:=s_law_refusal) l_law_refusal c_law_refusal k_law_refusal
 have b_law_refusal := F_law_refusal.binds (ps := ["net", "text", "single"]) fun _ _ _ _ _ _ us hl => by obtain ⟨_, _, _, rfl⟩ := ex_3 hl; rfl
 have F_law:=fun_mk (st:=s_law) l_law c_law k_law
 have b_law := F_law.binds (ps := ["script"]) fun _ _ _ _ _ _ us hl => by obtain ⟨_, rfl⟩ := ex_1 hl; rfl
 have T : Txt w K mg (Adr.mk _ _ _ _ _ _ _ _ _ _ _ _ _ _ _ _ _ _ _ _ _ _ _ _ _ _ _ _ _ _ _ _ _ _ _ _ _ _ _ _) (Fds.mk _ _ _ _ _ _ _ _ _ _ _ _ _ _ _ _ _ _ _ _ _ _ _ _ _ _ _ _ _ _) := ⟨F_is_name, PySem.W.mg_of X G a_is_name, b_is_name, F_refuse_bad_names, PySem.W.mg_of X G a_refuse_bad_names, b_refuse_bad_names, F_refuse_bad_bags, PySem.W.mg_of X G a_refuse_bad_bags, b_refuse_bad_bags, F_Net_init, b_Net_init, F_law_mixed, PySem.W.mg_of X G a_law_mixed, b_law_mixed, F_law_names, PySem.W.mg_of X G a_law_names, b_law_names, F_law_named_net, PySem.W.mg_of X G a_law_named_net, b_law_named_net, F_law_bowl_alone, PySem.W.mg_of X G a_law_bowl_alone, b_law_bowl_alone, F_law_door_alone, PySem.W.mg_of X G a_law_door_alone, b_law_door_alone, F_law_bad_rows, PySem.W.mg_of X G a_law_bad_rows, b_law_bad_rows, F_law_beads_row, PySem.W.mg_of X G a_law_beads_row, b_law_beads_row, F_law_row, PySem.W.mg_of X G a_law_row, b_law_row, F_read_count, PySem.W.mg_of X G a_read_count, b_read_count, F_read_ask_count, PySem.W.mg_of X G a_read_ask_count, b_read_ask_count, F_place_of, PySem.W.mg_of X G a_place_of, b_place_of, F_read_part, PySem.W.mg_of X G a_read_part, b_read_part, F_read_beads_ask, PySem.W.mg_of X G a_read_beads_ask, b_read_beads_ask, F_placed_ask, PySem.W.mg_of X G a_placed_ask, b_placed_ask, F_bowl_at, PySem.W.mg_of X G a_bowl_at, b_bowl_at, F_read_bowl_ask, PySem.W.mg_of X G a_read_bowl_ask, b_read_bowl_ask, F_read_bare_ask, PySem.W.mg_of X G a_read_bare_ask, b_read_bare_ask, F_door_at, PySem.W.mg_of X G a_door_at, b_door_at, F_read_door_ask, PySem.W.mg_of X G a_read_door_ask, b_read_door_ask, F_BadAsk_init, b_BadAsk_init, F_ask_of_row, PySem.W.mg_of X G a_ask_of_row, b_ask_of_row, F_read_ask, PySem.W.mg_of X G a_read_ask, b_read_ask, F_is_idle, PySem.W.mg_of X G a_is_idle, b_is_idle, F_read_asks, PySem.W.mg_of X G a_read_asks, b_read_asks, F_law_refusal, PySem.W.mg_of X G a_law_refusal, b_law_refusal, F_law, PySem.W.mg_of X G a_law, b_law, PySem.W.mg_none_of X G z_len, PySem.W.mg_none_of X G z_all, PySem.W.mg_none_of X G z_set, PySem.W.mg_none_of X G z_list, PySem.W.mg_none_of X G z_range, PySem.W.mg_none_of X G z_str, PySem.W.mg_none_of X G z_int, PySem.W.mg_none_of X G z_enumerate, PySem.W.mg_none_of X G z_isinstance, PySem.W.mg_none_of X G z_ValueError, PySem.W.mg_none_of X G z_tuple, ⟨pg_Net, hd_Net, po_Net, sa_Net⟩, PySem.W.mg_of X G aC_Net, ⟨mk_Net, a_Net_init, i_Net_init, kc_Net⟩, n_Net_bowls, n_Net_doors, n_Net_takes, n_Net_gives, n_Net_first, PySem.W.mg_of X G aC_HallError, ec_HallError, ⟨ec_HallError, xp_HallError⟩, PySem.W.mg_of X G aC_BadAsk, ec_BadAsk, ⟨ec_cls ec_BadAsk, xga_BadAsk, xgh_BadAsk, (ec_mro ec_BadAsk _).trans rfl, (ec_mro ec_BadAsk _).trans rfl, xca_BadAsk, xcg_BadAsk, xck_BadAsk⟩, ⟨xsa_BadAsk, xhd_BadAsk⟩, ⟨ec_BadAsk, a_BadAsk_init, i_BadAsk_init, kc_BadAsk⟩, xt_row_BadAsk, PySem.W.mg_of X G aC_BadNet, ec_BadNet, ⟨ec_BadNet, xp_BadNet⟩, PySem.W.mg_of X G aC_BadPaper, ec_BadPaper, ⟨xsa_BadPaper, xhd_BadPaper⟩, PySem.W.mg_of X G aC_BadText, ec_BadText, ⟨xsa_BadText, xhd_BadText⟩, PySem.W.mg_of X G aC_NoGo, ec_NoGo, ⟨xsa_NoGo, xhd_NoGo⟩, PySem.W.mg_of X G aC_TooWide, ec_TooWide, ⟨ec_TooWide, xp_TooWide⟩, PySem.W.mg_of X G aC_Unlike, ec_Unlike, ⟨ec_Unlike, xp_Unlike⟩, ⟨xbg, xbr, xbf⟩, ne_BadNet_HallError, ne_BadNet_BadAsk, ne_BadPaper_HallError, ne_BadPaper_BadAsk, ne_BadText_HallError, ne_BadText_BadAsk, ne_NoGo_HallError, ne_NoGo_BadAsk, ne_TooWide_HallError, ne_TooWide_BadAsk, ne_Unlike_HallError, ne_Unlike_BadAsk, PySem.W.mg_of X G aD_READERS, ⟨⟨_, _, _, lD_READERS, ⟨rfl, rfl, rfl⟩, rfl, (.cons ⟨⟨_, rfl⟩, rfl, hD_READERS_0⟩ (.cons ⟨⟨_, rfl⟩, rfl, hD_READERS_1⟩ (.cons ⟨⟨_, rfl⟩, rfl, hD_READERS_2⟩ (.cons ⟨⟨_, rfl⟩, rfl, hD_READERS_3⟩ (.cons ⟨⟨_, rfl⟩, rfl, hD_READERS_4⟩ .nil)))))⟩, (by show ([Str.ofString "cover", Str.ofString "reach", Str.ofString "most", Str.ofString "stick", Str.ofString "ever"] : List Str).Nodup; decide +kernel), sD_READERS⟩, ⟨_, PySem.W.mg_of X G g_MOST_SIGNS⟩, ⟨_, PySem.W.mg_of X G g_MOST_BEADS⟩, ⟨_, PySem.W.mg_of X G g_LEAST_BOWLS⟩, ⟨_, PySem.W.mg_of X G g_MOST_BOWLS⟩, ⟨_, PySem.W.mg_of X G g_MOST_DOORS⟩, ⟨_, PySem.W.mg_of X G g_MOST_FIGURES⟩⟩
 exact ⟨PySem.W.fnOf "law" "law" (defArgs s_law) (defBody s_law) (defScope s_law) .none kV_law dc_law pm_law an_law cd_law ct_law, fun s v => .of_eq rfl, fun base _ _ => ok_law T⟩
theorem walk {l : PySem.W.OpenLaw} {q : Program} {loose : List Str} {XP : (Str→Option Value)→Heap→Prop} {YP : World→Heap→Prop} {d : DefRec} {K : Params→PySem.W.Frag} (hn : l.most = some 63) (hdf : d.params.defaults = [])
  (hY : ∀ (w : World) (h : Heap),YP w h→(K w.params).In h)
  (F : ∀ (w : World) (mg : Str→Option Value) (fa : Addr) (h : Heap),(K w.params).In h→h.Ns mainGlobals mg→mg d.name = some (.ref fa) →
   ∃ fd : FuncData, (∀ (s : Shared) (u : Value), BindsTo s fd ⟨[u], []⟩ [("script", u)]) ∧ ∀ base : Heap, (K w.params).In base → base.Ns mainGlobals mg → FnOk l.prog w (K w.params) mg base CX0 10 fa fd ["script"] (sp_law (K w.params))) :
  PySem.W.WalkO q loose XP YP l.row.toRowW d [] (fun f vs=>PySem.call f vs) :=
 L2.walk_of (n := 63) (k := 10) (x := "script") (CX := fun _ => CX0) (sp := fun w => sp_law (K w.params)) hn (by decide) hdf ⟨rfl, by decide, by decide⟩ hY F (fun _ _ a ns hl _ hS => ⟨a, ns, rfl, hS, hl, fun _ => rfl⟩) fun _ _ _ _ _ z => z
theorem walkX_of {q : Program} {loose : List Str} {XP : (Str→Option Value)→Heap→Prop} {α : Type} {Yf : Shared→α} {Ya : World→α} {r : PySem.W.RowW} {d : DefRec} {kwd : List (Str × Expr)} {run : Value→List Value→Sem Value} {YP : World→Heap→Prop}
  (hY : ∀ (w : World) (s₀ s₁ : Shared) (args : List PySem.W.WData) (vals : List Value) (as : List Addr),Yf s₀ = Ya w→PySem.W.Laid r.records w s₀ s₁ args vals as→YP w s₁.heap) (h : PySem.W.WalkO q loose XP YP r d kwd run) : PySem.W.WalkX q loose XP Yf Ya r d kwd run :=
 fun w s₀ s₁ mg mb G Y a o pm cd doc dV kV h2 h3 h4 h5 h6 hg args vals as L hpre hlay hrd hwl hlo=>h w s₀ s₁ mg mb G (hY w s₀ s₁ args vals as Y L) a o pm cd doc dV kV h2 h3 h4 h5 h6 hg args vals as hpre hlay hrd hwl hlo
end Law
open PySem PySem.W PyProof.Rows
set_option maxRecDepth 100000 in
set_option maxHeartbeats 0 in
theorem PySem.Challenge.cw_beadhall_k79_texts_of_asks_holds : PySem.Challenge.rw_beadhall_k79_texts_of_asks.Holds := by
 w_on; o_law; z_head; (case hw=>w_witness2)
 k_fill
 refine Law.walkX_of (fun w s₀ s₁ args vals as Y L=>PySem.W.InK.keeps w s₀.heap s₁.heap (PySem.W.X.z_facts (by intro P; kernel_rfl) Y).2.1 L.keeps) (Law.walk (l:=PySem.Challenge.rw_beadhall_k79_texts_of_asks) rfl rfl (fun w h Y=>Y) ?F)
 case F =>
  intro w mg fa h KX G hmg
  refine' Law.all_mk KX G hmg ?aC_Net ?aC_HallError ?aC_BadAsk ?aC_BadNet ?aC_BadPaper ?aC_BadText ?aC_NoGo ?aC_TooWide ?aC_Unlike ?a_is_name ?l_is_name ?c_is_name ?k_is_name ?a_refuse_bad_names ?l_refuse_bad_names ?c_refuse_bad_names ?k_refuse_bad_names ?a_refuse_bad_bags ?l_refuse_bad_bags ?c_refuse_bad_bags ?k_refuse_bad_bags ?a_Net_init ?i_Net_init ?l_Net_init ?c_Net_init ?k_Net_init ?a_law_mixed ?l_law_mixed ?c_law_mixed ?k_law_mixed ?a_law_names ?l_law_names ?c_law_names ?k_law_names ?a_law_named_net ?l_law_named_net ?c_law_named_net ?k_law_named_net ?a_law_bowl_alone ?l_law_bowl_alone ?c_law_bowl_alone ?k_law_bowl_alone ?a_law_door_alone ?l_law_door_alone ?c_law_door_alone ?k_law_door_alone ?a_law_bad_rows ?l_law_bad_rows ?c_law_bad_rows ?k_law_bad_rows ?a_law_beads_row ?l_law_beads_row ?c_law_beads_row ?k_law_beads_row ?a_law_row ?l_law_row ?c_law_row ?k_law_row ?a_read_count ?l_read_count ?c_read_count ?k_read_count ?a_read_ask_count ?l_read_ask_count ?c_read_ask_count ?k_read_ask_count ?a_place_of ?l_place_of ?c_place_of ?k_place_of ?a_read_part ?l_read_part ?c_read_part ?k_read_part ?a_read_beads_ask ?l_read_beads_ask ?c_read_beads_ask ?k_read_beads_ask ?a_placed_ask ?l_placed_ask ?c_placed_ask ?k_placed_ask ?a_bowl_at ?l_bowl_at ?c_bowl_at ?k_bowl_at ?a_read_bowl_ask ?l_read_bowl_ask ?c_read_bowl_ask ?k_read_bowl_ask ?a_read_bare_ask ?l_read_bare_ask ?c_read_bare_ask ?k_read_bare_ask ?a_door_at ?l_door_at ?c_door_at ?k_door_at ?a_read_door_ask ?l_read_door_ask ?c_read_door_ask ?k_read_door_ask ?a_BadAsk_init ?i_BadAsk_init ?l_BadAsk_init ?c_BadAsk_init ?k_BadAsk_init ?a_ask_of_row ?l_ask_of_row ?c_ask_of_row ?k_ask_of_row ?a_read_ask ?l_read_ask ?c_read_ask ?k_read_ask ?a_is_idle ?l_is_idle ?c_is_idle ?k_is_idle ?a_read_asks ?l_read_asks ?c_read_asks ?k_read_asks ?a_law_refusal ?l_law_refusal ?c_law_refusal ?k_law_refusal ?a_law ?l_law ?c_law ?k_law ?pg_Net ?hd_Net ?po_Net ?sa_Net ?mk_Net ?kc_Net ?n_Net_bowls ?n_Net_doors ?n_Net_takes ?n_Net_gives ?n_Net_first ?ec_HallError ?xp_HallError ?ec_BadAsk ?xsa_BadAsk ?xhd_BadAsk ?kc_BadAsk ?xga_BadAsk ?xgh_BadAsk ?xca_BadAsk ?xcg_BadAsk ?xck_BadAsk ?xt_row_BadAsk ?ec_BadNet ?xp_BadNet ?ec_BadPaper ?xsa_BadPaper ?xhd_BadPaper ?ec_BadText ?xsa_BadText ?xhd_BadText ?ec_NoGo ?xsa_NoGo ?xhd_NoGo ?ec_TooWide ?xp_TooWide ?ec_Unlike ?xp_Unlike ?xbg ?xbr ?xbf ?ne_BadNet_HallError ?ne_BadNet_BadAsk ?ne_BadPaper_HallError ?ne_BadPaper_BadAsk ?ne_BadText_HallError ?ne_BadText_BadAsk ?ne_NoGo_HallError ?ne_NoGo_BadAsk ?ne_TooWide_HallError ?ne_TooWide_BadAsk ?ne_Unlike_HallError ?ne_Unlike_BadAsk ?aD_READERS ?lD_READERS ?hD_READERS_0 ?hD_READERS_1 ?hD_READERS_2 ?hD_READERS_3 ?hD_READERS_4 ?sD_READERS ?g_MOST_SIGNS ?g_MOST_BEADS ?g_LEAST_BOWLS ?g_MOST_BOWLS ?g_MOST_DOORS ?g_MOST_FIGURES ?z_len ?z_all ?z_set ?z_list ?z_range ?z_str ?z_int ?z_enumerate ?z_isinstance ?z_ValueError ?z_tuple
  (case aC_Net=>k_is)
  (case aC_HallError=>k_is)
  (case aC_BadAsk=>k_is)
  (case aC_BadNet=>k_is)
  (case aC_BadPaper=>k_is)
  (case aC_BadText=>k_is)
  (case aC_NoGo=>k_is)
  (case aC_TooWide=>k_is)
  (case aC_Unlike=>k_is)
  (case a_is_name=>k_is)
  (case l_is_name=>k_is)
  (case c_is_name=>k_is)
  (case k_is_name=>k_is)
  (case a_refuse_bad_names=>k_is)
  (case l_refuse_bad_names=>k_is)
  (case c_refuse_bad_names=>k_is)
  (case k_refuse_bad_names=>k_is)
  (case a_refuse_bad_bags=>k_is)
  (case l_refuse_bad_bags=>k_is)
  (case c_refuse_bad_bags=>k_is)
  (case k_refuse_bad_bags=>k_is)
  (case a_Net_init=>k_is)
  (case i_Net_init=>k_is)
  (case l_Net_init=>k_is)
  (case c_Net_init=>k_is)
  (case k_Net_init=>k_is)
  (case a_law_mixed=>k_is)
  (case l_law_mixed=>k_is)
  (case c_law_mixed=>k_is)
  (case k_law_mixed=>k_is)
  (case a_law_names=>k_is)
  (case l_law_names=>k_is)
  (case c_law_names=>k_is)
  (case k_law_names=>k_is)
  (case a_law_named_net=>k_is)
  (case l_law_named_net=>k_is)
  (case c_law_named_net=>k_is)
  (case k_law_named_net=>k_is)
  (case a_law_bowl_alone=>k_is)
  (case l_law_bowl_alone=>k_is)
  (case c_law_bowl_alone=>k_is)
  (case k_law_bowl_alone=>k_is)
  (case a_law_door_alone=>k_is)
  (case l_law_door_alone=>k_is)
  (case c_law_door_alone=>k_is)
  (case k_law_door_alone=>k_is)
  (case a_law_bad_rows=>k_is)
  (case l_law_bad_rows=>k_is)
  (case c_law_bad_rows=>k_is)
  (case k_law_bad_rows=>k_is)
  (case a_law_beads_row=>k_is)
  (case l_law_beads_row=>k_is)
  (case c_law_beads_row=>k_is)
  (case k_law_beads_row=>k_is)
  (case a_law_row=>k_is)
  (case l_law_row=>k_is)
  (case c_law_row=>k_is)
  (case k_law_row=>k_is)
  (case a_read_count=>k_is)
  (case l_read_count=>k_is)
  (case c_read_count=>k_is)
  (case k_read_count=>k_is)
  (case a_read_ask_count=>k_is)
  (case l_read_ask_count=>k_is)
  (case c_read_ask_count=>k_is)
  (case k_read_ask_count=>k_is)
  (case a_place_of=>k_is)
  (case l_place_of=>k_is)
  (case c_place_of=>k_is)
  (case k_place_of=>k_is)
  (case a_read_part=>k_is)
  (case l_read_part=>k_is)
  (case c_read_part=>k_is)
  (case k_read_part=>k_is)
  (case a_read_beads_ask=>k_is)
  (case l_read_beads_ask=>k_is)
  (case c_read_beads_ask=>k_is)
  (case k_read_beads_ask=>k_is)
  (case a_placed_ask=>k_is)
  (case l_placed_ask=>k_is)
  (case c_placed_ask=>k_is)
  (case k_placed_ask=>k_is)
  (case a_bowl_at=>k_is)
  (case l_bowl_at=>k_is)
  (case c_bowl_at=>k_is)
  (case k_bowl_at=>k_is)
  (case a_read_bowl_ask=>k_is)
  (case l_read_bowl_ask=>k_is)
  (case c_read_bowl_ask=>k_is)
  (case k_read_bowl_ask=>k_is)
  (case a_read_bare_ask=>k_is)
  (case l_read_bare_ask=>k_is)
  (case c_read_bare_ask=>k_is)
  (case k_read_bare_ask=>k_is)
  (case a_door_at=>k_is)
  (case l_door_at=>k_is)
  (case c_door_at=>k_is)
  (case k_door_at=>k_is)
  (case a_read_door_ask=>k_is)
  (case l_read_door_ask=>k_is)
  (case c_read_door_ask=>k_is)
  (case k_read_door_ask=>k_is)
  (case a_BadAsk_init=>k_is)
  (case i_BadAsk_init=>k_is)
  (case l_BadAsk_init=>k_is)
  (case c_BadAsk_init=>k_is)
  (case k_BadAsk_init=>k_is)
  (case a_ask_of_row=>k_is)
  (case l_ask_of_row=>k_is)
  (case c_ask_of_row=>k_is)
  (case k_ask_of_row=>k_is)
  (case a_read_ask=>k_is)
  (case l_read_ask=>k_is)
  (case c_read_ask=>k_is)
  (case k_read_ask=>k_is)
  (case a_is_idle=>k_is)
  (case l_is_idle=>k_is)
  (case c_is_idle=>k_is)
  (case k_is_idle=>k_is)
  (case a_read_asks=>k_is)
  (case l_read_asks=>k_is)
  (case c_read_asks=>k_is)
  (case k_read_asks=>k_is)
  (case a_law_refusal=>k_is)
  (case l_law_refusal=>k_is)
  (case c_law_refusal=>k_is)
  (case k_law_refusal=>k_is)
  (case a_law=>k_is)
  (case l_law=>k_is)
  (case c_law=>k_is)
  (case k_law=>k_is)
  (case pg_Net=>k_is)
  (case hd_Net=>k_is)
  (case po_Net=>k_is)
  (case sa_Net=>k_is)
  (case mk_Net=>k_is)
  (case kc_Net=>k_is)
  (case n_Net_bowls=>k_is)
  (case n_Net_doors=>k_is)
  (case n_Net_takes=>k_is)
  (case n_Net_gives=>k_is)
  (case n_Net_first=>k_is)
  (case ec_HallError=>kernel_rfl)
  (case xp_HallError=>kernel_rfl)
  (case ec_BadAsk=>kernel_rfl)
  (case xsa_BadAsk=>k_is)
  (case xhd_BadAsk=>k_is)
  (case kc_BadAsk=>k_is)
  (case xga_BadAsk=>k_is)
  (case xgh_BadAsk=>k_is)
  (case xca_BadAsk=>k_is)
  (case xcg_BadAsk=>k_is)
  (case xck_BadAsk=>k_is)
  (case xt_row_BadAsk=>k_is)
  (case ec_BadNet=>kernel_rfl)
  (case xp_BadNet=>kernel_rfl)
  (case ec_BadPaper=>kernel_rfl)
  (case xsa_BadPaper=>k_is)
  (case xhd_BadPaper=>k_is)
  (case ec_BadText=>kernel_rfl)
  (case xsa_BadText=>k_is)
  (case xhd_BadText=>k_is)
  (case ec_NoGo=>kernel_rfl)
  (case xsa_NoGo=>k_is)
  (case xhd_NoGo=>k_is)
  (case ec_TooWide=>kernel_rfl)
  (case xp_TooWide=>kernel_rfl)
  (case ec_Unlike=>kernel_rfl)
  (case xp_Unlike=>kernel_rfl)
  (case xbg=>k_is)
  (case xbr=>k_is)
  (case xbf=>k_is)
  (case ne_BadNet_HallError=>decide)
  (case ne_BadNet_BadAsk=>decide)
  (case ne_BadPaper_HallError=>decide)
  (case ne_BadPaper_BadAsk=>decide)
  (case ne_BadText_HallError=>decide)
  (case ne_BadText_BadAsk=>decide)
  (case ne_NoGo_HallError=>decide)
  (case ne_NoGo_BadAsk=>decide)
  (case ne_TooWide_HallError=>decide)
  (case ne_TooWide_BadAsk=>decide)
  (case ne_Unlike_HallError=>decide)
  (case ne_Unlike_BadAsk=>decide)
  (case aD_READERS=>k_is)
  (case lD_READERS=>k_is)
  (case hD_READERS_0=>rfl)
  (case hD_READERS_1=>rfl)
  (case hD_READERS_2=>rfl)
  (case hD_READERS_3=>rfl)
  (case hD_READERS_4=>rfl)
  (case sD_READERS=>rfl)
  (case g_MOST_SIGNS=>k_is)
  (case g_MOST_BEADS=>k_is)
  (case g_LEAST_BOWLS=>k_is)
  (case g_MOST_BOWLS=>k_is)
  (case g_MOST_DOORS=>k_is)
  (case g_MOST_FIGURES=>k_is)
  (case z_len=>k_is)
  (case z_all=>k_is)
  (case z_set=>k_is)
  (case z_list=>k_is)
  (case z_range=>k_is)
  (case z_str=>k_is)
  (case z_int=>k_is)
  (case z_enumerate=>k_is)
  (case z_isinstance=>k_is)
  (case z_ValueError=>k_is)
  (case z_tuple=>k_is)
