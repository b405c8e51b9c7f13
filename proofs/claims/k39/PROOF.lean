import PyProof.Rows.All
import Wide.All
import OpenK.AllK
import Wide.FinOn
import Lean
import PyProof.EqAt
import PyProof.EqKinds
import PyProof.TupleCall
import OpenK.ZGo
import PySem.Challenge.RW_beadhall_k39_whole_account
set_option Elab.async false
set_option linter.all false
set_option maxRecDepth 100000
namespace L2
open PySem PySem.Spec PyProof.Rows
abbrev Key:=Sum Int Str
def keyIs:Key→Value→Bool
 | .inl k,v=>Value.isInt k v
 | .inr x,v=>Value.isStrOf x v
def keyH (w:World):Key→Int
 | .inl k=>hashInt k
 | .inr x=>hashStr w x
theorem keyIs_shape:∀ {k:Key} {v:Value},keyIs k v=true→(∃ i t,k=Sum.inl i∧v=Value.int i t)∨(∃ x t,k=Sum.inr x∧v=Value.str x t)
 | .inl i,v,h=>by
  obtain ⟨t,e⟩:=Value.isInt_shape (k:=i) (v:=v) h
  exact .inl ⟨i,t,rfl,e⟩
 | .inr x,v,h=>by
  obtain ⟨t,e⟩:=Value.isStrOf_shape (x:=x) (v:=v) h
  exact .inr ⟨x,t,rfl,e⟩
theorem keyIs_int (i:Int) (t:Tok):keyIs (.inl i) (.int i t)=true:=by simp [keyIs,Value.isInt]
theorem keyIs_str (x:Str) (t:Tok):keyIs (.inr x) (.str x t)=true:=by simp [keyIs,Value.isStrOf]
theorem key_ll (a b:Int):decide ((Sum.inl a:Key)=Sum.inl b)=(a==b):=by
 by_cases e:a=b
 ·subst e; simp
 ·have h:¬ (Sum.inl a:Key)=Sum.inl b:=fun q=>e (Sum.inl.inj q)
  rw [decide_eq_false h]
  exact (beq_eq_false_iff_ne.mpr e).symm
theorem key_rr (a b:Str):decide ((Sum.inr a:Key)=Sum.inr b)=decide (a=b):=by
 by_cases e:a=b
 ·subst e; simp
 ·have h:¬ (Sum.inr a:Key)=Sum.inr b:=fun q=>e (Sum.inr.inj q)
  rw [decide_eq_false h,decide_eq_false e]
theorem key_lr (a:Int) (b:Str):decide ((Sum.inl a:Key)=Sum.inr b)=false:=decide_eq_false (fun q=>nomatch q)
theorem key_rl (a:Str) (b:Int):decide ((Sum.inr a:Key)=Sum.inl b)=false:=decide_eq_false (fun q=>nomatch q)
def mixKind (prog:Program) (w:World):PySem.KeyKind prog w Key where
 is:=keyIs
 hash:=keyH w
 inj:=fun v a b ha hb=>by
  rcases keyIs_shape ha with ⟨i,t,rfl,rfl⟩ | ⟨x,t,rfl,rfl⟩
  ·rcases keyIs_shape hb with ⟨j,u,rfl,e⟩ | ⟨y,u,rfl,e⟩
   ·injection e with e1 _; rw [e1]
   ·exact nomatch e
  ·rcases keyIs_shape hb with ⟨j,u,rfl,e⟩ | ⟨y,u,rfl,e⟩
   ·exact nomatch e
   ·injection e with e1 _; rw [e1]
 byValue:=fun k v h=>by
  rcases keyIs_shape h with ⟨i,t,rfl,rfl⟩ | ⟨x,t,rfl,rfl⟩<;>rfl
 pyHash:=fun hv h=>by
  rcases keyIs_shape hv with ⟨i,t,rfl,rfl⟩ | ⟨x,t,rfl,rfl⟩
  ·exact wpAny_pyHash_int h
  ·exact wpAny_pyHash_str h
 eqBool:=fun hu hv h=>by
  rcases keyIs_shape hu with ⟨i,t,rfl,rfl⟩ | ⟨x,t,rfl,rfl⟩
  ·rcases keyIs_shape hv with ⟨j,u,rfl,rfl⟩ | ⟨y,u,rfl,rfl⟩
   ·rw [key_ll] at h; exact wpAny_eqBool_int h
   ·rw [key_lr] at h; exact SeqAt.EqAt.int_str i t y u _ _ _ _ h
  ·rcases keyIs_shape hv with ⟨j,u,rfl,rfl⟩ | ⟨y,u,rfl,rfl⟩
   ·rw [key_rl] at h; exact SeqAt.EqAt.str_int x t j u _ _ _ _ h
   ·rw [key_rr] at h; exact wpAny_eqBool_str h
 «strs» := fun k x t v h=>by
  rcases keyIs_shape h with ⟨i,u,rfl,e⟩ | ⟨y,u,rfl,e⟩
  ·exact nomatch e
  ·injection e with e1 _
   subst e1
   cases v<;>rfl
theorem mixKind_int (prog:Program) (w:World) (i:Int) (t:Tok):(mixKind prog w).is (.inl i) (.int i t)=true:=keyIs_int i t
theorem mixKind_str (prog:Program) (w:World) (x:Str) (t:Tok):(mixKind prog w).is (.inr x) (.str x t)=true:=keyIs_str x t
end L2
namespace L2
open PySem PySem.Spec PyProof.Rows
inductive V where
 | non | bl (b:Bool) | int (i:Int) | str (x:Str) | byt (b:Array UInt8) | flt (b:UInt64) | ref (a:Addr) | ty (n:String)
 deriving DecidableEq
def RelV:V→Value→Prop
 | .non,u=>u=Value.none
 | .bl b,u=>u=Value.bool b
 | .int i,u=>∃ t,u=Value.int i t
 | .str x,u=>∃ t,u=Value.str x t
 | .byt b,u=>∃ t,u=Value.bytes b t
 | .flt b,u=>∃ t,u=Value.float b t
 | .ref a,u=>u=Value.ref a
 | .ty n,u=>u=Value.type n
abbrev Vals:List V→List Value→Prop:=Paired RelV
theorem Vals.length {xs:List V} {us:List Value} (r:Vals xs us):xs.length=us.length:=Paired.length r
theorem Vals.get:∀ {xs:List V} {us:List Value} {i:Nat} {x:V},Vals xs us→xs[i]?=some x→∃ u,us[i]?=some u∧RelV x u
 | _,_,_,_,.nil,e=>by simp at e
 | _,_,0,_,.cons r _,e=>by simp at e; subst e; exact ⟨_,rfl,r⟩
 | _,_,i+1,x,.cons _ t,e=>by
  obtain ⟨u,h1,h2⟩:=Vals.get (i:=i) (x:=x) t (by simpa using e)
  exact ⟨u,by simpa using h1,h2⟩
theorem Vals.set {x:V} {u:Value} (r:RelV x u):∀ {xs:List V} {us:List Value} (i:Nat),Vals xs us→Vals (xs.set i x) (us.set i u)
 | _,_,_,.nil=>.nil
 | _,_,0,.cons _ t=>.cons r t
 | _,_,i+1,.cons q t=>.cons q (Vals.set r i t)
theorem Vals.append:∀ {xs ys:List V} {us ws:List Value},Vals xs us→Vals ys ws→Vals (xs++ys) (us++ws)
 | _,_,_,_,.nil,s=>s
 | _,_,_,_,.cons r t,s=>.cons r (Vals.append t s)
theorem Vals.take:∀ {xs:List V} {us:List Value} (n:Nat),Vals xs us→Vals (xs.take n) (us.take n)
 | _,_,0,_=>.nil
 | _,_,_+1,.nil=>.nil
 | _,_,n+1,.cons r t=>.cons r (Vals.take n t)
theorem Vals.drop:∀ {xs:List V} {us:List Value} (n:Nat),Vals xs us→Vals (xs.drop n) (us.drop n)
 | _,_,0,r=>r
 | _,_,_+1,.nil=>.nil
 | _,_,n+1,.cons _ t=>Vals.drop n t
def RelO:Option V→Option Value→Prop
 | some v,some u=>RelV v u
 | none,none=>True
 | _,_=>False
def KV {κ:Type}:List (κ×V)→List (κ×Value)→Prop:=Paired fun (p:κ×V) (q:κ×Value)=>p.1=q.1∧RelV p.2 q.2
def kV:Key→V
 | .inl i=>.int i
 | .inr x=>.str x
inductive HO where
 | lst (xs:List V)
 | tup (xs:List V)
 | dK (kvs:List (Key×V)) | dT (kvs:List (List Key×V))
 | set (S:Int→Bool) (n:Nat)
 | ins (C dx:Addr) (fs:List (Str×V))
 | own (x:Addr)
 | xd (fs:List (Str×V))
 | met (f x:Addr)
 | rng (lo hi:Int)
 | frz (o:Obj) (u:HO)
 | tbl (ps:Array Value)
 | ext (φ:Heap→Prop)
abbrev Hp:=Addr→Option HO
def upd (H:Hp) (a:Addr) (o:HO):Hp:=fun b=>if b=a then some o else H b
theorem upd_same {H:Hp} {a:Addr} {o:HO}:upd H a o a=some o:=by unfold upd; rw [if_pos rfl]
theorem upd_ne {H:Hp} {a b:Addr} {o:HO} (h:b≠a):upd H a o b=H b:=by unfold upd; rw [if_neg h]
theorem ne_of {H:Hp} {a b:Addr} {o u:HO} (h:H a=some o) (h':H b=some u) (d:o≠u):a≠b:=by
 intro e; subst e; rw [h] at h'; exact d (Option.some.inj h')
theorem ne_of_none {H:Hp} {a b:Addr} {o:HO} (h:H a=some o) (h':H b=none):a≠b:=by
 intro e; subst e; rw [h] at h'; cases h'
section
variable (P:Program) (w:World)
def ObjOk (H:Hp) (h:Heap) (a:Addr):HO→Prop
 | .lst xs=>xs.length≤sizeLine∧∃ (its:List Value) (n:Nat),Vals xs its∧h.get? a=some { cls:=.type "list",data:=.seq its.toArray n }
 | .tup xs=>xs.length≤sizeLine∧∃ its:List Value,Vals xs its∧IsTup h a its.toArray
 | .dK kvs=>kvs.length≤sizeLine∧(a==sysModules)=false∧∃ vs,KV kvs vs∧h.DictOf (mixKind P w) a vs
 | .dT kvs=>kvs.length≤sizeLine∧(a==sysModules)=false∧∃ xs:List (List Key×Addr×Value),
   Paired (fun (p:List Key×V) (q:List Key×Addr×Value)=>p.1=q.1∧H q.2.1=some (.tup (p.1.map kV))∧RelV p.2 q.2.2) kvs xs ∧
   ∃ o es ep,h.get? a=some o∧o.ExactDict∧o.data=.dict es ep∧es.toList=xs.map (entryOfKey (tupleKind (mixKind P w)))∧(xs.map (·.1)).Nodup
 | .set S n=>h.SetOf (intKind P w) a S n
 | .ins C dx fs=>H dx=some (.own a)∧fs.length≤1000∧dx≠a∧h.get? a=some (PySem.W.instObj C dx) ∧
   ∃ mA,h.Ns1 dx mA∧(∀ f,RelO (fs.lookup f) (mA f))∧PySem.Within mA (fs.map (·.1))
 | .own _=>∃ o,h.get? a=some o
 | .xd fs=>∃ mA,h.Ns1 a mA∧∀ f,RelO (fs.lookup f) (mA f)
 | .rng lo hi=>∃ t u v,h.get? a=some { cls:=.type "range",data:=.fields #[.int lo t,.int hi u,.int 1 v] }
 | .frz o u=>h.get? a=some o∧ObjOk H h a u
 | .tbl ps=>h.get? a=some { cls:=.none,data:=.fields ps }
 | .met f x=>h.get? a=some (PySem.W.methodObj (.ref f) (.ref x))
 | .ext φ=>φ h∧(∃ o,h.get? a=some o)∧∀ h1 h2:Heap,φ h1→(∀ o,h1.get? a=some o→h2.get? a=some o)→φ h2
def HOk (H:Hp) (h:Heap):Prop:=∀ a o,H a=some o→ObjOk P w H h a o
end
section
variable {P:Program} {w:World} {H H':Hp} {h h':Heap} {a:Addr} {o:HO}
theorem ObjOk.lt (x:ObjOk P w H h a o):a<h.objs.size:=by
 cases o with
 | lst xs=>obtain ⟨_,_,_,_,e⟩:=x; exact Heap.lt_size e
 | tup xs=>obtain ⟨_,_,_,p⟩:=x; exact p.lt
 | dK kvs=>obtain ⟨_,_,_,_,o,_,_,e,_⟩:=x; exact Heap.lt_size e
 | dT kvs=>obtain ⟨_,_,_,_,o,_,_,e,_⟩:=x; exact Heap.lt_size e
 | set S n=>obtain ⟨o,_,_,_,e,_⟩:=x; exact Heap.lt_size e
 | ins C dx fs=>obtain ⟨_,_,_,e,_⟩:=x; exact Heap.lt_size e
 | own y=>obtain ⟨_,e⟩:=x; exact Heap.lt_size e
 | xd fs=>obtain ⟨_,⟨_,_,_,e,_⟩,_⟩:=x; exact Heap.lt_size e
 | rng lo hi=>obtain ⟨_,_,_,e⟩:=x; exact Heap.lt_size e
 | frz ob u=>obtain ⟨e,_⟩:=x; exact Heap.lt_size e
 | tbl ps=>exact Heap.lt_size (show h.get? a=some _ from x)
 | met f y=>exact Heap.lt_size (show h.get? a=some _ from x)
 | ext φ=>obtain ⟨_,⟨_,e⟩,_⟩:=x; exact Heap.lt_size e
theorem Paired.mapP {α β:Type} {F G:α→β→Prop}:∀ {l₁:List α} {l₂:List β},Paired F l₁ l₂→(∀ a b,F a b→G a b)→Paired G l₁ l₂
 | _,_,.nil,_=>.nil
 | _,_,.cons r t,f=>.cons (f _ _ r) (Paired.mapP t f)
theorem ObjOk.stay (x:ObjOk P w H h a o) (k:∀ b u,(b=a∨H b=some (.own a))→h.get? b=some u→h'.get? b=some u)
  (ho:∀ b,H b=some (.own a)→H' b=some (.own a)) (ht:∀ b xs,H b=some (.tup xs)→H' b=some (.tup xs)):ObjOk P w H' h' a o:=by
 induction o with
 | lst xs=>obtain ⟨z,its,n,r,e⟩:=x; exact ⟨z,its,n,r,k _ _ (.inl rfl) e⟩
 | tup xs=>obtain ⟨z,its,r,ob,e,c⟩:=x; exact ⟨z,its,r,ob,k _ _ (.inl rfl) e,c⟩
 | dK kvs=>obtain ⟨z,y,vs,r,ob,es,ep,e,c⟩:=x; exact ⟨z,y,vs,r,ob,es,ep,k _ _ (.inl rfl) e,c⟩
 | dT kvs =>
  obtain ⟨z,y,xs,r,ob,es,ep,e,c⟩:=x
  exact ⟨z,y,xs,Paired.mapP r fun p q z=>⟨z.1,ht _ _ z.2.1,z.2.2⟩,ob,es,ep,k _ _ (.inl rfl) e,c⟩
 | set S n=>obtain ⟨ob,es,ep,t,e,c⟩:=x; exact ⟨ob,es,ep,t,k _ _ (.inl rfl) e,c⟩
 | ins C dx fs =>
  obtain ⟨d,z,ne,e,mA,⟨od,es,ep,e2,c⟩,r⟩:=x
  exact ⟨ho _ d,z,ne,k _ _ (.inl rfl) e,mA,⟨od,es,ep,k _ _ (.inr d) e2,c⟩,r⟩
 | own y=>obtain ⟨ob,e⟩:=x; exact ⟨ob,k _ _ (.inl rfl) e⟩
 | xd fs=>obtain ⟨mA,⟨od,es,ep,e,c⟩,r⟩:=x; exact ⟨mA,⟨od,es,ep,k _ _ (.inl rfl) e,c⟩,r⟩
 | rng lo hi=>obtain ⟨t,u,v,e⟩:=x; exact ⟨t,u,v,k _ _ (.inl rfl) e⟩
 | frz ob u ih=>obtain ⟨e,q⟩:=x; exact ⟨k _ _ (.inl rfl) e,ih q⟩
 | tbl ps =>
  have e:h.get? a=some { cls:=.none,data:=.fields ps }:=x
  show h'.get? a=some { cls:=.none,data:=.fields ps }
  exact k a _ (.inl rfl) e
 | met f y =>
  have e:h.get? a=some (PySem.W.methodObj (.ref f) (.ref y)):=x
  show h'.get? a=some (PySem.W.methodObj (.ref f) (.ref y))
  exact k a _ (.inl rfl) e
 | ext φ=>obtain ⟨p,⟨o,e⟩,st⟩:=x; exact ⟨st _ _ p fun o q=>k _ _ (.inl rfl) q,⟨o,k _ _ (.inl rfl) e⟩,st⟩
theorem HOk.lt (x:HOk P w H h) (e:H a=some o):a<h.objs.size:=(x a o e).lt
theorem HOk.fresh (x:HOk P w H h) (e:h.objs.size≤a):H a=none:=by
 cases q:H a with
 | none=>rfl
 | some u=>exact absurd (Nat.lt_of_lt_of_le (x.lt q) e) (Nat.lt_irrefl _)
theorem HOk.kept (x:HOk P w H h) (k:∀ b u,h.get? b=some u→h'.get? b=some u):HOk P w H h':=fun a o e =>
 (x a o e).stay (fun b u _ q=>k b u q) (fun _ q=>q) fun _ _ q=>q
theorem HOk.laid (x:HOk P w H h) (k:∀ b u,h.get? b=some u→h'.get? b=some u) (hp:h.objs.size≤a) (new:ObjOk P w (upd H a o) h' a o):HOk P w (upd H a o) h':=fun b u e=>by
 have hn:=x.fresh hp
 by_cases hb:b=a
 ·subst hb; rw [upd_same] at e; cases e; exact new
 ·rw [upd_ne hb] at e
  exact (x b u e).stay (fun c v _ q=>k c v q) (fun c q=>by rw [upd_ne (ne_of_none q hn)]; exact q) fun c xs q=>by rw [upd_ne (ne_of_none q hn)]; exact q
end
def Rd (H:Hp) (a:Addr) (u:HO):Prop:=H a=some u∨∃ o,H a=some (.frz o u)
theorem Rd.of {H:Hp} {a:Addr} {u:HO} (h:H a=some u):Rd H a u:=.inl h
theorem Rd.ok {P:Program} {w:World} {H:Hp} {h:Heap} {a:Addr} {u:HO} (r:Rd H a u) (x:HOk P w H h):ObjOk P w H h a u:=by
 rcases r with r | ⟨o,r⟩
 ·exact x a u r
 ·obtain ⟨_,q⟩:=x a _ r
  exact q
def Mut:Option HO→Prop
 | some (.lst _)=>True
 | some (.dK _)=>True
 | some (.dT _)=>True
 | some (.set _ _)=>True
 | some (.ins _ _ _)=>True
 | some (.ext _)=>True
 | _=>False
section
variable {P:Program} {w:World} {H:Hp} {h h':Heap} {x e:Addr} {o':HO}
theorem HOk.write (ok:HOk P w H h) (mu:Mut (H x)) (he:e=x∨H e=some (.own x)) (k:∀ b u,b≠e→h.get? b=some u→h'.get? b=some u) (heo:∃ u,h'.get? e=some u)
  (new:ObjOk P w (upd H x o') h' x o'):HOk P w (upd H x o') h':=fun b u q=>by
 have nown:∀ c y,H c=some (.own y)→c≠x:=fun c y r z=>by subst z; rw [r] at mu; exact mu
 have ntup:∀ c xs,H c=some (.tup xs)→c≠x:=fun c xs r z=>by subst z; rw [r] at mu; exact mu
 by_cases hb:b=x
 ·subst hb; rw [upd_same] at q; cases q; exact new
 ·rw [upd_ne hb] at q
  by_cases hbe:b=e
  ·have q':H b=some (.own x):=by
    rcases he with z | z
    ·exact absurd (hbe.trans z) hb
    ·rw [hbe]; exact z
   rw [q] at q'; cases q'
   obtain ⟨v,hv⟩:=heo
   exact ⟨v,by rw [hbe]; exact hv⟩
  ·refine (ok b u q).stay (fun c v hc r=>k c v ?_ r) (fun c r=>by rw [upd_ne (nown c b r)]; exact r) fun c xs r=>by rw [upd_ne (ntup c xs r)]; exact r
   rcases hc with rfl | hc
   ·exact hbe
   ·rintro rfl
    rcases he with z | z
    ·exact nown c b hc z
    ·rw [hc] at z; cases z; exact hb rfl
end
structure Un (fs ex:List Addr) (H H':Hp) (h h':Heap):Prop where
 keep:∀ b o,h.get? b=some o→H b=none→b∉fs→b∉ex→h'.get? b=some o
 slot:∀ b o,h.get? b=some o→H b=none→b∈fs→b∉ex→∃ sl,h'.get? b=some { o with slots:=sl }
 free:∀ b o,h.get? b=some o→H b=none→b∉ex→H' b=none
 there:∀ b o,h.get? b=some o→b∉ex→∃ o',h'.get? b=some o'
 tups:∀ b xs,H b=some (.tup xs)→H' b=some (.tup xs)
 frzs:∀ b o u,H b=some (.frz o u)→H' b=some (.frz o u)
 tbls:∀ b ps,H b=some (.tbl ps)→∃ more,H' b=some (.tbl (ps++more))
section
variable {fs fs' ex ex':List Addr} {H H1 H2:Hp} {h h1 h2 h':Heap} {a x e:Addr} {o:HO}
theorem Un.any (u:Un fs ex H H1 h h1) {b:Addr} {ob:Obj} (q:h.get? b=some ob) (n:H b=none) (hx:b∉ex):∃ sl,h1.get? b=some { ob with slots:=sl }:=by
 by_cases hb:b∈fs
 ·exact u.slot b ob q n hb hx
 ·exact ⟨ob.slots,u.keep b ob q n hb hx⟩
theorem Un.trans (a:Un fs ex H H1 h h1) (b:Un fs ex H1 H2 h1 h2):Un fs ex H H2 h h2 where
 keep:=fun c ob q n hc hx=>b.keep c ob (a.keep c ob q n hc hx) (a.free c ob q n hx) hc hx
 slot:=fun c ob q n hc hx=>by
  obtain ⟨sl,e1⟩:=a.slot c ob q n hc hx
  obtain ⟨sl',e2⟩:=b.slot c _ e1 (a.free c ob q n hx) hc hx
  exact ⟨sl',e2⟩
 free:=fun c ob q n hx=>by
  obtain ⟨o',e1⟩:=a.there c ob q hx
  exact b.free c o' e1 (a.free c ob q n hx) hx
 there:=fun c ob q hx=>by
  obtain ⟨o',e1⟩:=a.there c ob q hx
  exact b.there c o' e1 hx
 tups:=fun c xs q=>b.tups c xs (a.tups c xs q)
 frzs:=fun c ob xs q=>b.frzs c ob xs (a.frzs c ob xs q)
 tbls:=fun c ps q=>by
  obtain ⟨m1,e1⟩:=a.tbls c ps q
  obtain ⟨m2,e2⟩:=b.tbls c _ e1
  exact ⟨m1++m2,by rw [e2,Array.append_assoc]⟩
theorem Un.kept (k:∀ b u,h.get? b=some u→h'.get? b=some u):Un fs ex H H h h' :=
 ⟨fun b ob q _ _ _=>k b ob q,fun b ob q _ _ _=>⟨ob.slots,k b ob q⟩,fun _ _ _ n _=>n,fun b ob q _=>⟨ob,k b ob q⟩,fun _ _ q=>q,fun _ _ _ q=>q,fun _ ps q=>⟨#[],by rw [q]; simp⟩⟩
theorem Un.refl:Un fs ex H H h h:=Un.kept fun _ _ q=>q
theorem Un.laid (k:∀ b u,h.get? b=some u→h'.get? b=some u) (hp:h.objs.size≤a) (hn:H a=none):Un fs ex H (upd H a o) h h' where
 keep:=fun b u q _ _ _=>k b u q
 slot:=fun b u q _ _ _=>⟨u.slots,k b u q⟩
 free:=fun b u q n _=>by rw [upd_ne (Nat.ne_of_lt (Nat.lt_of_lt_of_le (Heap.lt_size q) hp))]; exact n
 there:=fun b u q _=>⟨u,k b u q⟩
 tups:=fun b xs q=>by rw [upd_ne (ne_of_none q hn)]; exact q
 frzs:=fun b u xs q=>by rw [upd_ne (ne_of_none q hn)]; exact q
 tbls:=fun b ps q=>⟨#[],by rw [upd_ne (ne_of_none q hn),q]; simp⟩
theorem Un.write (mu:Mut (H x)) (he:e=x∨H e=some (.own x)) (k:∀ b u,b≠e→h.get? b=some u→h'.get? b=some u) (heo:∃ u,h'.get? e=some u):Un fs ex H (upd H x o) h h':=by
 have hx:∀ b,H b=none→b≠x:=fun b n z=>by subst z; rw [n] at mu; exact mu
 have hb:∀ b,H b=none→b≠e:=fun b n z=>by
  subst z
  rcases he with r | r
  ·exact hx b n r
  ·rw [n] at r; cases r
 have hm:∀ b u,H b=some u→¬ Mut (some u)→b≠x:=fun b u q nm z=>by subst z; rw [q] at mu; exact nm mu
 refine ⟨fun b u q n _ _=>k b u (hb b n) q,fun b u q n _ _=>⟨u.slots,k b u (hb b n) q⟩,fun b u q n _=>by rw [upd_ne (hx b n)]; exact n,fun b u q _=>?_,
  fun b xs q=>by rw [upd_ne (hm b _ q fun z=>z)]; exact q,fun b u xs q=>by rw [upd_ne (hm b _ q fun z=>z)]; exact q,fun b ps q=>⟨#[],by rw [upd_ne (hm b _ q fun z=>z),q]; simp⟩⟩
 by_cases hbe:b=e
 ·subst hbe; exact heo
 ·exact ⟨u,k b u hbe q⟩
end
def trk (h:Heap) (H:Hp):List Addr:=(List.range h.objs.size).filter fun a=>(H a).isSome
def hidT (h:Heap) (H:Hp):Heap:=PySem.W.hideAll h (trk h H)
theorem hidT_size (h:Heap) (H:Hp):(hidT h H).objs.size=h.objs.size:=PySem.W.hideAll_size _ _
theorem hidT_get {h:Heap} {H:Hp} {b:Addr} {o:Obj} (e:h.get? b=some o) (n:H b=none):(hidT h H).get? b=some o :=
 PySem.W.hideAll_get _ e fun hm=>by
  have q:(H b).isSome=true:=(List.mem_filter.mp hm).2
  rw [n] at q; simp at q
theorem of_hidT {h:Heap} {H:Hp} {b:Addr} {o:Obj} (e:(hidT h H).get? b=some o):h.get? b=some o∧H b=none:=by
 have e':h.get? b=some o:=PySem.W.of_hideAll (trk h H) e
 refine ⟨e',?_⟩
 cases q:H b with
 | none=>rfl
 | some x =>
  have hm:b∈trk h H:=List.mem_filter.mpr ⟨List.mem_range.mpr (Heap.lt_size e'),by simp [q]⟩
  have z:(hidT h H).get? b=none:=PySem.W.hideAll_none (trk h H) hm
  rw [z] at e; cases e
end L2
namespace L2
open PySem PySem.Spec PyProof.Rows
structure Mod (K:PySem.W.Frag) (mg:Str→Option Value) (base:Heap):Prop where
 kin:K.In base
 glob:base.Ns mainGlobals mg
 blt:∃ mb,base.Ns builtinsNs mb∧∀ x:Str,x≠"__name__" → mb x=bootBuiltins x
 nolimit:base.NoLimit
structure Cx where
 prog:Program
 w:World
 K:PySem.W.Frag
 mg:Str→Option Value
 base:Heap
 A:Around
 N:List Str
 s₀:Shared
 H₀:Hp
 env:Env
 outer:List Env
 stack:List Env
 ex:List Addr
 fn:Str→Bool
 calm:Bool
 pn:List (Addr×Obj)
 xe:Value→Shared→Prop
def frs (l:List Env):List Addr:=l.filterMap (·.frame)
abbrev Cx.fs (X:Cx):List Addr:=frs X.outer
def Vis (sc:Scope) (x:Str):Prop:=sc.names.lookup x=some .local∨sc.names.lookup x=some .cell∨sc.names.lookup x=some .free
def Loc (sc:Scope) (x:Str):Prop:=sc.names.lookup x=some .local∨sc.names.lookup x=some .cell
def Look (env:Env) (h:Heap) (m:Str→Option Value) (x:Str) (u:Value):Prop :=
 (env.kindOf x=some .local∧m x=some u)∨((env.kindOf x=some .cell∨env.kindOf x=some .free)∧∃ c,env.cells.lookup x=some c∧h.IsCell c (some u))
structure Cx.Ok (X:Cx):Prop where
 mod:Mod X.K X.mg X.base
 kind:X.env.scope.kind=.function
 glob:X.env.globals=mainGlobals
 blt:X.env.builtins=builtinsNs
 above:X.s₀.heap.objs.size≤X.env.locals
 inj:∀ x y c,X.env.cells.lookup x=some c→X.env.cells.lookup y=some c→x=y
 has:∀ x,(X.env.kindOf x=some .cell∨X.env.kindOf x=some .free)→∃ c,X.env.cells.lookup x=some c
 cab:∀ x c,X.fn x=true→X.env.cells.lookup x=some c→X.s₀.heap.objs.size≤c
 hd:X.calm=true→X.A.handled=none
 frames:X.A.frames=some X.stack
 stk:X.stack=X.outer∨(X.stack=X.env::X.outer∧X.env.frame=some X.env.locals)
 exf:∀ b∈X.ex,b≠X.env.locals∧∀ x c,X.env.cells.lookup x=some c→c≠b
 bs:∀ b o,X.base.get? b=some o→X.s₀.heap.get? b=some o∧X.H₀ b=none
 bsz:X.base.objs.size≤X.s₀.heap.objs.size
 noex:∀ b o,X.base.get? b=some o→b∉X.ex
 exfs:∀ b∈X.ex,b∉X.fs
 funs:X.s₀.heap.FunFrames X.base X.outer
 frf:∀ b∈X.fs,X.H₀ b=none
structure Inv (X:Cx) (pins:List (Addr×Obj)) (σ:List (Option V)) (H:Hp) (s:Shared):Prop where
 ok:X.Ok
 os:s.os=X.s₀.os
 bare:AllBare s.gens
 base:Un X.fs X.ex X.H₀ H X.s₀.heap s.heap
 loc:∃ m,s.heap.Ns X.env.locals m∧∀ (i:Nat) (x:Str) (v:V),X.N[i]?=some x→σ[i]?=some (some v)→Vis X.env.scope x→∃ u,RelV v u∧Look X.env s.heap m x u
 cell:∀ x c,X.env.cells.lookup x=some c→∃ v,s.heap.IsCell c v
 free:H X.env.locals=none
 freeC:∀ x c,X.env.cells.lookup x=some c→H c=none
 pin:∀ p∈X.pn++pins,s.heap.get? p.1=some p.2∧H p.1=none∧p.1≠X.env.locals∧p.1∉X.fs∧∀ v,p.2.data≠.cell v
 hok:HOk X.prog X.w H s.heap
 len:σ.length=X.N.length
section
variable {X:Cx} {pins:List (Addr×Obj)} {σ:List (Option V)} {H H':Hp} {s:Shared} {h':Heap}
theorem Cx.Ok.nofr (ok:X.Ok) {b:Addr} {o:Obj} (e:X.base.get? b=some o):b∉X.fs:=fun hb=>by
 have:=(ok.funs.mem hb).1
 rw [e] at this; cases this
theorem Inv.bs (I:Inv X pins σ H s):∀ b o,X.base.get? b=some o→s.heap.get? b=some o∧H b=none:=fun b o e =>
 ⟨I.base.keep b o (I.ok.bs b o e).1 (I.ok.bs b o e).2 (I.ok.nofr e) (I.ok.noex b o e),I.base.free b o (I.ok.bs b o e).1 (I.ok.bs b o e).2 (I.ok.noex b o e)⟩
theorem Inv.bk (I:Inv X pins σ H s):∀ b o,X.base.get? b=some o→s.heap.get? b=some o:=fun b o e=>(I.bs b o e).1
theorem Inv.mod (I:Inv X pins σ H s):Mod X.K X.mg X.base:=I.ok.mod
theorem Inv.kIn (I:Inv X pins σ H s):X.K.In s.heap:=I.ok.mod.kin.keeps I.bk
theorem Inv.lt (I:Inv X pins σ H s):X.env.locals<s.heap.objs.size:=let ⟨_,hn,_⟩:=I.loc; hn.lt
theorem Inv.sz (I:Inv X pins σ H s):X.s₀.heap.objs.size≤s.heap.objs.size:=Nat.le_trans I.ok.above (Nat.le_of_lt I.lt)
theorem Inv.nofs (I:Inv X pins σ H s) {a:Addr} (h:s.heap.objs.size≤a):a∉X.fs:=fun hb=>by
 obtain ⟨_,o,ho,_⟩:=I.ok.funs.mem hb
 exact absurd (Nat.lt_of_lt_of_le (Heap.lt_size ho) (Nat.le_trans I.sz h)) (Nat.lt_irrefl _)
theorem Inv.cne (I:Inv X pins σ H s):∀ x c,X.env.cells.lookup x=some c→c≠X.env.locals:=fun x c e z=>by
 obtain ⟨v,o,ho,hd⟩:=I.cell x c e
 obtain ⟨m,⟨o',es,ep,ho',hd',_⟩,_⟩:=I.loc
 rw [z,ho'] at ho; cases ho; rw [hd'] at hd; cases hd
theorem Inv.funs (I:Inv X pins σ H s):s.heap.FunFrames X.base X.outer:=by
 have all:∀ (l:List Env),(∀ b∈frs l,b∈X.fs)→X.s₀.heap.FunFrames X.base l→s.heap.FunFrames X.base l:=by
  intro l
  induction l with
  | nil=>intro _ _; trivial
  | cons env r ih =>
   intro hs hl
   obtain ⟨hk,⟨L,o,hf,hn,ho,hd⟩,hr⟩:=hl
   have hL:L∈X.fs:=hs L (by unfold frs; rw [List.filterMap_cons,hf]; exact List.mem_cons_self)
   obtain ⟨sl,e⟩:=I.base.slot L o ho (I.ok.frf L hL) hL fun z=>I.ok.exfs L z hL
   exact ⟨hk,⟨L,_,hf,hn,e,hd⟩,ih (fun b hb=>hs b (by unfold frs; rw [List.filterMap_cons,hf]; exact List.mem_cons_of_mem _ hb)) hr⟩
 exact all X.outer (fun _ hb=>hb) I.ok.funs
theorem Inv.stack (I:Inv X pins σ H s):s.heap.FunFrames X.base X.stack:=by
 rcases I.ok.stk with e | ⟨e,hf⟩
 ·rw [e]; exact I.funs
 ·rw [e]
  obtain ⟨m,hn,_⟩:=I.loc
  refine .cons (by rw [I.ok.kind]; decide) hf hn ?_ I.funs
  exact Heap.get?_none_of_le (Nat.le_trans I.ok.bsz I.ok.above)
theorem Inv.stkSub (I:Inv X pins σ H s):∀ b∈frs X.stack,b∈X.env.locals::X.fs:=fun b hb=>by
 rcases I.ok.stk with e | ⟨e,hf⟩
 ·rw [e] at hb; exact List.mem_cons_of_mem _ hb
 ·rw [e] at hb
  unfold frs at hb
  rw [List.filterMap_cons,hf] at hb
  exact hb
theorem Inv.stkFree (I:Inv X pins σ H s):∀ b∈frs X.stack,H b=none:=fun b hb=>by
 rcases List.mem_cons.mp (I.stkSub b hb) with e | hb
 ·rw [e]; exact I.free
 ·obtain ⟨_,o,ho,_⟩:=I.ok.funs.mem hb
  exact I.base.free b o ho (I.ok.frf b hb) fun z=>I.ok.exfs b z hb
theorem Inv.step {g':Array GenState} {t':Nat} {d':Drawn} {ch:List Addr} (I:Inv X pins σ H s)
  (hch:∀ b∈ch,(b∈X.ex∨X.s₀.heap.objs.size≤b)∧b≠X.env.locals∧(∀ x c,X.env.cells.lookup x=some c→c≠b)∧∀ p∈X.pn++pins,p.1≠b)
  (keep:∀ b o,b≠X.env.locals→b∉X.fs→b∉ch→s.heap.get? b=some o→H b=none→h'.get? b=some o)
  (slot:∀ b o,b≠X.env.locals→b∈X.fs→b∉ch→s.heap.get? b=some o→H b=none→∃ sl,h'.get? b=some { o with slots:=sl }) (free:∀ b o,b∉ch→s.heap.get? b=some o→H b=none→H' b=none)
  (there:∀ b o,b∉ch→s.heap.get? b=some o→∃ o',h'.get? b=some o')
  (tups:∀ b xs,H b=some (.tup xs)→H' b=some (.tup xs)) (frzs:∀ b o u,H b=some (.frz o u)→H' b=some (.frz o u)) (tbls:∀ b ps,H b=some (.tbl ps)→∃ more,H' b=some (.tbl (ps++more)))
  (ns:∀ m,s.heap.Ns X.env.locals m→h'.Ns X.env.locals m) (hok:HOk X.prog X.w H' h') (hg:AllBare g') :
  Inv X pins σ H' { s with heap:=h',gens:=g',drawn:=d',toks:=t' }:=by
 have neL:∀ b o,X.s₀.heap.get? b=some o→b≠X.env.locals:=fun b o e=>Nat.ne_of_lt (Nat.lt_of_lt_of_le (Heap.lt_size e) I.ok.above)
 have neC:∀ b o,X.s₀.heap.get? b=some o→b∉X.ex→b∉ch:=fun b o e hx hb=>by
  rcases (hch b hb).1 with z | z
  ·exact hx z
  ·exact absurd (Nat.lt_of_lt_of_le (Heap.lt_size e) z) (Nat.lt_irrefl _)
 have cellK:∀ x c,X.env.cells.lookup x=some c→∀ v,s.heap.IsCell c v→h'.IsCell c v:=fun x c e v ⟨o,ho,hd⟩=>by
  have nch:c∉ch:=fun z=>(hch c z).2.2.1 x c e rfl
  by_cases hc:c∈X.fs
  ·obtain ⟨sl,q⟩:=slot c o (I.cne x c e) hc nch ho (I.freeC x c e)
   exact ⟨_,q,hd⟩
  ·exact ⟨o,keep c o (I.cne x c e) hc nch ho (I.freeC x c e),hd⟩
 refine ⟨I.ok,I.os,hg,⟨fun b o e n hb hx=>?_,fun b o e n hb hx=>?_,fun b o e n hx=>?_,fun b o e hx=>?_,fun b xs e=>tups b xs (I.base.tups b xs e),fun b o xs e=>frzs b o xs (I.base.frzs b o xs e),fun b ps e=>?_⟩,?_,fun x c e=>?_,?_,fun x c e=>?_,fun p hp=>?_,hok,I.len⟩
 ·exact keep b o (neL b o e) hb (neC b o e hx) (I.base.keep b o e n hb hx) (I.base.free b o e n hx)
 ·obtain ⟨sl,e1⟩:=I.base.slot b o e n hb hx
  obtain ⟨sl',e2⟩:=slot b _ (neL b o e) hb (neC b o e hx) e1 (I.base.free b o e n hx)
  exact ⟨sl',e2⟩
 ·obtain ⟨o',e1⟩:=I.base.there b o e hx
  exact free b o' (neC b o e hx) e1 (I.base.free b o e n hx)
 ·obtain ⟨o',e1⟩:=I.base.there b o e hx
  exact there b o' (neC b o e hx) e1
 ·obtain ⟨m1,e1⟩:=I.base.tbls b ps e
  obtain ⟨m2,e2⟩:=tbls b _ e1
  exact ⟨m1++m2,by rw [e2,Array.append_assoc]⟩
 ·obtain ⟨m,hn,hl⟩:=I.loc
  refine ⟨m,ns m hn,fun i x v e1 e2 e3=>?_⟩
  obtain ⟨u,r,l⟩:=hl i x v e1 e2 e3
  refine ⟨u,r,?_⟩
  rcases l with l | ⟨k,c,e,z⟩
  ·exact .inl l
  ·exact .inr ⟨k,c,e,cellK x c e _ z⟩
 ·obtain ⟨v,z⟩:=I.cell x c e
  exact ⟨v,cellK x c e v z⟩
 ·obtain ⟨m,⟨o,_,_,ho,_⟩,_⟩:=I.loc
  exact free _ o (fun z=>(hch _ z).2.1 rfl) ho I.free
 ·obtain ⟨v,o,ho,hd⟩:=I.cell x c e
  exact free c o (fun z=>(hch c z).2.2.1 x c e rfl) ho (I.freeC x c e)
 ·obtain ⟨e,n,ne,nf,d⟩:=I.pin p hp
  have nch:p.1∉ch:=fun z=>(hch p.1 z).2.2.2 p hp rfl
  exact ⟨keep p.1 p.2 ne nf nch e n,free p.1 p.2 nch e n,ne,nf,d⟩
theorem Inv.un {t':Nat} (I:Inv X pins σ H s) (u:Un X.fs [] H H' s.heap h') (hok:HOk X.prog X.w H' h'):Inv X pins σ H' { s with heap:=h',toks:=t' }:=by
 obtain ⟨m,⟨o,es,ep,ho,r⟩,_⟩:=id I.loc
 obtain ⟨sl,hL⟩:=u.any ho I.free (by simp)
 exact I.step (g':=s.gens) (d':=s.drawn) (ch:=[]) (fun _ z=>nomatch z) (fun b o _ hb _ e n=>u.keep b o e n hb (by simp)) (fun b o _ hb _ e n=>u.slot b o e n hb (by simp)) (fun b o _ e n=>u.free b o e n (by simp)) (fun b o _ e=>u.there b o e (by simp)) u.tups u.frzs u.tbls (fun m' hm=>by
  obtain ⟨o',es',ep',ho',r'⟩:=hm
  rw [ho] at ho'; cases ho'
  exact ⟨_,es',ep',hL,r'⟩) hok I.bare
theorem Inv.call {g':Array GenState} {t':Nat} {d':Drawn} {ch:List Addr} (I:Inv X pins σ H s) (u:Un (frs X.stack) ch H H' s.heap h') (hok:HOk X.prog X.w H' h') (hg:AllBare g')
  (hch:∀ b∈ch,(b∈X.ex∨X.s₀.heap.objs.size≤b)∧b≠X.env.locals∧(∀ x c,X.env.cells.lookup x=some c→c≠b)∧∀ p∈X.pn++pins,p.1≠b) :
  Inv X pins σ H' { s with heap:=h',gens:=g',drawn:=d',toks:=t' }:=by
 obtain ⟨m,⟨o,es,ep,ho,r⟩,_⟩:=id I.loc
 obtain ⟨sl,hL⟩:=u.any ho I.free fun z=>(hch _ z).2.1 rfl
 exact I.step (ch:=ch) hch (fun b o hL hb hc e n=>u.keep b o e n (fun z=>(List.mem_cons.mp (I.stkSub b z)).elim hL hb) hc) (fun b o _ _ hc e n=>u.any e n hc) (fun b o hc e n=>u.free b o e n hc) (fun b o hc e=>u.there b o e hc) u.tups u.frzs u.tbls (fun m' hm=>by
  obtain ⟨o',es',ep',ho',r'⟩:=hm
  rw [ho] at ho'; cases ho'
  exact ⟨_,es',ep',hL,r'⟩) hok hg
theorem Inv.turned {t':Nat} {it:Addr} (I:Inv X pins σ H s) (k:∀ b o,b≠it→s.heap.get? b=some o→h'.get? b=some o) (hn:H it=none) (hL:it≠X.env.locals)
  (h1:it∈X.ex∨X.s₀.heap.objs.size≤it) (h2:∀ x c,X.env.cells.lookup x=some c→c≠it) (h3:∀ p∈X.pn++pins,p.1≠it):Inv X pins σ H { s with heap:=h',toks:=t' }:=by
 have nit:∀ b u,H b=some u→b≠it:=fun b u e z=>by rw [z,hn] at e; cases e
 refine I.step (g':=s.gens) (d':=s.drawn) (ch:=[it]) (fun b hb=>?_) (fun b o _ _ hc e _=>k b o (fun z=>hc (by simp [z])) e) (fun b o _ _ hc e _=>⟨o.slots,k b o (fun z=>hc (by simp [z])) e⟩) (fun _ _ _ _ n=>n)
  (fun b o hc e=>⟨o,k b o (fun z=>hc (by simp [z])) e⟩) (fun _ _ e=>e) (fun _ _ _ e=>e) (fun b ps e=>⟨#[],by rw [e]; simp⟩) (fun m hm=>?_) (fun b u e=>?_) I.bare
 ·have e:b=it:=by simpa using hb
  subst e
  exact ⟨h1,hL,h2,h3⟩
 ·obtain ⟨o,es,ep,ho,r⟩:=hm
  exact ⟨o,es,ep,k _ o (Ne.symm hL) ho,r⟩
 ·refine (I.hok b u e).stay (fun c v hc q=>k c v ?_ q) (fun _ q=>q) fun _ _ q=>q
  rcases hc with z | z
  ·rw [z]; exact nit b u e
  ·exact nit c _ z
theorem Inv.tok (I:Inv X pins σ H s) (t:Nat):Inv X pins σ H { s with toks:=t }:=I.un (h':=s.heap) (t':=t) Un.refl I.hok
theorem Inv.kept {t':Nat} (I:Inv X pins σ H s) (k:∀ b u,s.heap.get? b=some u→h'.get? b=some u):Inv X pins σ H { s with heap:=h',toks:=t' }:=I.un (Un.kept k) (I.hok.kept k)
theorem Inv.laid {a:Addr} {o:HO} {t':Nat} (I:Inv X pins σ H s) (k:∀ b u,s.heap.get? b=some u→h'.get? b=some u) (hp:s.heap.objs.size≤a) (new:ObjOk X.prog X.w (upd H a o) h' a o) :
  Inv X pins σ (upd H a o) { s with heap:=h',toks:=t' }:=I.un (Un.laid k hp (I.hok.fresh hp)) (I.hok.laid k hp new)
theorem Inv.write {x e:Addr} {o:HO} {t':Nat} (I:Inv X pins σ H s) (mu:Mut (H x)) (he:e=x∨H e=some (.own x)) (k:∀ b u,b≠e→s.heap.get? b=some u→h'.get? b=some u) (heo:∃ u,h'.get? e=some u)
  (new:ObjOk X.prog X.w (upd H x o) h' x o):Inv X pins σ (upd H x o) { s with heap:=h',toks:=t' }:=I.un (Un.write mu he k heo) (I.hok.write mu he k heo new)
theorem Inv.pins_of {pins':List (Addr×Obj)} (I:Inv X pins σ H s) (h:∀ p∈pins',s.heap.get? p.1=some p.2∧H p.1=none∧p.1≠X.env.locals∧p.1∉X.fs∧∀ v,p.2.data≠.cell v):Inv X pins' σ H s :=
 ⟨I.ok,I.os,I.bare,I.base,I.loc,I.cell,I.free,I.freeC,fun p hp=>(List.mem_append.mp hp).elim (fun z=>I.pin p (List.mem_append_left _ z)) (h p),I.hok,I.len⟩
theorem nodup_ix {N:List Str} (hN:N.Nodup) {i j:Nat} {x:Str} (a:N[i]?=some x) (b:N[j]?=some x):i=j:=by
 obtain ⟨h1,e1⟩:=List.getElem?_eq_some_iff.mp a
 obtain ⟨h2,e2⟩:=List.getElem?_eq_some_iff.mp b
 exact (List.getElem_inj hN).mp (e1.trans e2.symm)
theorem store_ok2 {M:Model} {A:Around} {E:Value→Shared→Prop} {i:Nat} {x:Str} {v:V} {u:Value} {Q:Unit→Shared→Prop} (I:Inv X pins σ H s) (hN:X.N.Nodup) (hi:X.N[i]?=some x) (hx:Loc X.env.scope x) (r:RelV v u)
  (h:∀ s',Inv X pins (σ.set i (some v)) H s'→(∃ a,Heap.SameBut a s.heap s'.heap∧(a=X.env.locals∨X.env.cells.lookup x=some a))→Q () s') (hf:X.fn x=true∨X.env.scope.names.lookup x=some .local:=by first | exact .inl rfl | exact .inr rfl | assumption):wpAny M A (storeName X.env x u) Q E s:=by
 obtain ⟨m,hn,hl⟩:=id I.loc
 have hcls:(X.env.scope.kind==.class||(X.env.scope.kind==.module&&X.env.locals != X.env.globals))=false:=by rw [I.ok.kind]; rfl
 have hiσ:i<σ.length:=by rw [I.len]; exact (List.getElem?_eq_some_iff.mp hi).1
 have cne:=I.cne
 have tracked:∀ {a:Addr} {h':Heap},(∃ o,s.heap.get? a=some o∧H a=none)→Heap.SameBut a s.heap h'→HOk X.prog X.w H h':=fun {a h'} ha hs b ob e=>by
  obtain ⟨_,_,hfree⟩:=ha
  refine (I.hok b ob e).stay (fun c w' hc q=>(hs.2 c ?_).trans q) (fun _ q=>q) fun _ _ q=>q
  rintro rfl
  rcases hc with rfl | hc
  ·rw [hfree] at e; cases e
  ·rw [hfree] at hc; cases hc
 rcases hx with hk | hk
 ·refine wpAny_storeName_local hk hn (fun h' hn' hs=>?_) hcls
  obtain ⟨oL,_,_,hoL,_⟩:=id hn
  refine h _ ⟨I.ok,I.os,I.bare,⟨fun b o e n hb hx=>?_,fun b o e n hb hx=>?_,I.base.free,fun b o e hx=>?_,I.base.tups,I.base.frzs,I.base.tbls⟩,⟨_,hn',fun j y v' e1 e2 e3=>?_⟩,fun y c e=>?_,I.free,I.freeC,fun p hp=>?_,tracked ⟨oL,hoL,I.free⟩ hs,by simpa using I.len⟩ ⟨_,hs,.inl rfl⟩
  ·exact (hs.2 b (Nat.ne_of_lt (Nat.lt_of_lt_of_le (Heap.lt_size e) I.ok.above))).trans (I.base.keep b o e n hb hx)
  ·obtain ⟨sl,e1⟩:=I.base.slot b o e n hb hx
   exact ⟨sl,(hs.2 b (Nat.ne_of_lt (Nat.lt_of_lt_of_le (Heap.lt_size e) I.ok.above))).trans e1⟩
  ·obtain ⟨o',e1⟩:=I.base.there b o e hx
   exact ⟨o',(hs.2 b (Nat.ne_of_lt (Nat.lt_of_lt_of_le (Heap.lt_size e) I.ok.above))).trans e1⟩
  ·by_cases hj:j=i
   ·subst hj
    rw [hi] at e1; cases e1
    rw [List.getElem?_set_self hiσ] at e2
    cases e2
    exact ⟨u,r,.inl ⟨hk,by simp⟩⟩
   ·rw [List.getElem?_set_ne (Ne.symm hj)] at e2
    obtain ⟨u',r',q⟩:=hl j y v' e1 e2 e3
    refine ⟨u',r',?_⟩
    rcases q with ⟨k,e⟩ | ⟨k,c,e,z⟩
    ·refine .inl ⟨k,?_⟩
     have:y≠x:=fun e=>hj (nodup_ix hN e1 (e ▸ hi))
     simp [this,e]
    ·exact .inr ⟨k,c,e,z.sameBut hs (cne y c e)⟩
  ·obtain ⟨w',z⟩:=I.cell y c e
   exact ⟨w',z.sameBut hs (cne y c e)⟩
  ·obtain ⟨e,n,ne,nf,d⟩:=I.pin p hp
   exact ⟨(hs.2 p.1 ne).trans e,n,ne,nf,d⟩
 ·have hfn:X.fn x=true:=by
   rcases hf with z | z
   ·exact z
   ·rw [z] at hk; cases hk
  obtain ⟨c,hc⟩:=I.ok.has x (.inl hk)
  obtain ⟨w',z⟩:=I.cell x c hc
  refine wpAny_storeName_cell I.ok.kind hk hc z (fun h' hc' hs=>?_)
  obtain ⟨oc,hoc,hocd⟩:=id z
  refine h { s with heap:=h' } ⟨I.ok,I.os,I.bare,⟨fun b o e n hb hx=>?_,fun b o e n hb hx=>?_,I.base.free,fun b o e hx=>?_,I.base.tups,I.base.frzs,I.base.tbls⟩,⟨m,hn.sameBut hs (Ne.symm (cne x c hc)),fun j y v' e1 e2 e3=>?_⟩,fun y c' e=>?_,I.free,I.freeC,fun p hp=>?_,tracked ⟨oc,hoc,I.freeC x c hc⟩ hs,by simpa using I.len⟩ ⟨c,hs,.inr hc⟩
  ·exact (hs.2 b (Nat.ne_of_lt (Nat.lt_of_lt_of_le (Heap.lt_size e) (I.ok.cab x c hfn hc)))).trans (I.base.keep b o e n hb hx)
  ·obtain ⟨sl,e1⟩:=I.base.slot b o e n hb hx
   exact ⟨sl,(hs.2 b (Nat.ne_of_lt (Nat.lt_of_lt_of_le (Heap.lt_size e) (I.ok.cab x c hfn hc)))).trans e1⟩
  ·obtain ⟨o',e1⟩:=I.base.there b o e hx
   exact ⟨o',(hs.2 b (Nat.ne_of_lt (Nat.lt_of_lt_of_le (Heap.lt_size e) (I.ok.cab x c hfn hc)))).trans e1⟩
  ·by_cases hj:j=i
   ·subst hj
    rw [hi] at e1; cases e1
    rw [List.getElem?_set_self hiσ] at e2
    cases e2
    exact ⟨u,r,.inr ⟨.inl hk,c,hc,hc'⟩⟩
   ·rw [List.getElem?_set_ne (Ne.symm hj)] at e2
    obtain ⟨u',r',q⟩:=hl j y v' e1 e2 e3
    refine ⟨u',r',?_⟩
    rcases q with q | ⟨k,c',e,z'⟩
    ·exact .inl q
    ·refine .inr ⟨k,c',e,z'.sameBut hs ?_⟩
     rintro rfl
     exact hj (nodup_ix hN e1 (I.ok.inj _ _ _ e hc ▸ hi))
  ·by_cases hcc:c'=c
   ·subst hcc; exact ⟨_,hc'⟩
   ·obtain ⟨w2,z2⟩:=I.cell y c' e
    exact ⟨w2,z2.sameBut hs hcc⟩
  ·obtain ⟨e,n,ne,nf,d⟩:=I.pin p hp
   refine ⟨(hs.2 p.1 ?_).trans e,n,ne,nf,d⟩
   intro q
   rw [q,hoc] at e
   have q':oc=p.2:=Option.some.inj e
   exact d w' (by rw [← q']; exact hocd)
theorem store_ok {M:Model} {A:Around} {E:Value→Shared→Prop} {i:Nat} {x:Str} {v:V} {u:Value} {Q:Unit→Shared→Prop} (I:Inv X pins σ H s) (hN:X.N.Nodup) (hi:X.N[i]?=some x) (hx:Loc X.env.scope x) (r:RelV v u)
  (h:∀ s',Inv X pins (σ.set i (some v)) H s'→Q () s') (hf:X.fn x=true∨X.env.scope.names.lookup x=some .local:=by first | exact .inl rfl | exact .inr rfl | assumption):wpAny M A (storeName X.env x u) Q E s :=
 store_ok2 I hN hi hx r (fun s' I' _=>h s' I') hf
theorem Inv.call' {s':Shared} {ch:List Addr} (I:Inv X pins σ H s) (ho:s'.os=s.os) (u:Un (frs X.stack) ch H H' s.heap s'.heap) (hok:HOk X.prog X.w H' s'.heap) (hg:AllBare s'.gens)
  (hch:∀ b∈ch,(b∈X.ex∨X.s₀.heap.objs.size≤b)∧b≠X.env.locals∧(∀ x c,X.env.cells.lookup x=some c→c≠b)∧∀ p∈X.pn++pins,p.1≠b):Inv X pins σ H' s':=by
 obtain ⟨h',g',d',t',o'⟩:=s'
 have e:o'=s.os:=ho
 subst e
 exact I.call (g':=g') (t':=t') (d':=d') u hok hg hch
end
abbrev XK:=Value→Option Addr→Hp→Prop
abbrev St:=List (Option V)
abbrev VK:=V→Hp→Prop
abbrev TE:=St→Hp→VK→Prop
abbrev TT:=St→Hp→(Bool→Hp→Prop)→Prop
abbrev TA:=St→Hp→(List V→Hp→Prop)→Prop
structure Ends where
 nx:St→Hp→Prop
 rt:VK
 bk:St→Hp→Prop:=fun _ _=>False
 ct:St→Hp→Prop:=fun _ _=>False
abbrev TS:=Ends→St→Hp→Prop
def EP (X:Cx) (pins:List (Addr×Obj)) (σ:St) (Q:VK) (u:Value) (s':Shared):Prop:=∃ v H',Inv X pins σ H' s'∧RelV v u∧Q v H'
def TP (X:Cx) (pins:List (Addr×Obj)) (σ:St) (Q:Bool→Hp→Prop) (b:Bool) (s':Shared):Prop:=∃ H',Inv X pins σ H' s'∧Q b H'
def AP (X:Cx) (pins:List (Addr×Obj)) (σ:St) (Q:List V→Hp→Prop) (us:List Value) (s':Shared):Prop:=∃ vs H',Inv X pins σ H' s'∧Vals vs us∧Q vs H'
def SP (X:Cx) (pins:List (Addr×Obj)) (D:Ends) (f:Flow) (s':Shared):Prop :=
 match f with
 | .next=>∃ σ' H',Inv X pins σ' H' s'∧D.nx σ' H'
 | .brk=>∃ σ' H',Inv X pins σ' H' s'∧D.bk σ' H'
 | .cont=>∃ σ' H',Inv X pins σ' H' s'∧D.ct σ' H'
 | .ret u=>∃ v σ' H',Inv X pins σ' H' s'∧RelV v u∧D.rt v H'
def PE (X:Cx) (e:Expr) (t:TE):Prop :=
 ∀ (pins:List (Addr×Obj)) (s:Shared) (σ:St) (H:Hp) (Q:VK),Inv X pins σ H s→t σ H Q→wpAny (model X.prog X.w) X.A (eval e X.env) (EP X pins σ Q) X.xe s
def PT (X:Cx) (e:Expr) (t:TT):Prop :=
 ∀ (pins:List (Addr×Obj)) (s:Shared) (σ:St) (H:Hp) (Q:Bool→Hp→Prop),Inv X pins σ H s→t σ H Q→wpAny (model X.prog X.w) X.A (isTrue e X.env (eval e X.env)) (TP X pins σ Q) X.xe s
def PW (X:Cx) (e:Expr) (t:TT):Prop :=
 ∀ (whole:Sem Value) (pins:List (Addr×Obj)) (s:Shared) (σ:St) (H:Hp) (Q:Bool→Hp→Prop),Inv X pins σ H s→t σ H Q→wpAny (model X.prog X.w) X.A (isTrue e X.env whole) (TP X pins σ Q) X.xe s
theorem PW.pt {X:Cx} {e:Expr} {t:TT} (h:PW X e t):PT X e t:=h _
def PA (X:Cx) (es:List Expr) (t:TA):Prop :=
 ∀ (pos:Pos) (pins:List (Addr×Obj)) (s:Shared) (σ:St) (H:Hp) (Q:List V→Hp→Prop),Inv X pins σ H s→t σ H Q→wpAny (model X.prog X.w) X.A (spliced (backTo pos (starEach es X.env))) (AP X pins σ Q) X.xe s
def PS (X:Cx) (st:Stmt) (t:TS):Prop :=
 ∀ (pins:List (Addr×Obj)) (s:Shared) (σ:St) (H:Hp) (D:Ends),Inv X pins σ H s→t D σ H→wpAny (model X.prog X.w) X.A (exec st X.env) (SP X pins D) X.xe s
def PSs (X:Cx) (st:List Stmt) (t:TS):Prop :=
 ∀ (pins:List (Addr×Obj)) (s:Shared) (σ:St) (H:Hp) (D:Ends),Inv X pins σ H s→t D σ H→wpAny (model X.prog X.w) X.A (execs st X.env) (SP X pins D) X.xe s
theorem thn {α:Type} {t:Sem α} {Q Q':α→Shared→Prop} {M:Model} {A:Around} {E:Value→Shared→Prop} {s:Shared} (h:wpAny M A t Q E s) (hQ:∀ a s,Q a s→Q' a s):wpAny M A t Q' E s:=wpAny_mono h hQ fun _ _ x=>x
end L2
namespace L2
open PySem PySem.Spec PyProof.Rows
section
variable {X:Cx}
theorem bin {a b:Expr} {ta tb:TE} (ha:PE X a ta) (hb:PE X b tb) {pins:List (Addr×Obj)} {s:Shared} {σ:St} {H:Hp} {R:V→V→Hp→Prop} (I:Inv X pins σ H s) (h:ta σ H fun x H1=>tb σ H1 fun y H2=>R x y H2)
  {α:Type} {Q:α→Shared→Prop} {f:Value→Value→Sem α}
  (hf:∀ v u s2 x y H2,Inv X pins σ H2 s2→RelV x v→RelV y u→R x y H2→wpAny (model X.prog X.w) X.A (f v u) Q X.xe s2) :
  wpAny (model X.prog X.w) X.A (eval a X.env) (fun v s₁=>wpAny (model X.prog X.w) X.A (eval b X.env) (fun u s₂=>wpAny (model X.prog X.w) X.A (f v u) Q X.xe s₂) X.xe s₁) X.xe s:=by
 refine thn (ha pins s σ H _ I h) fun v s1 ⟨x,H1,I1,r1,q1⟩=>?_
 refine thn (hb pins s1 σ H1 _ I1 q1) fun u s2 ⟨y,H2,I2,r2,q2⟩=>?_
 exact hf v u s2 x y H2 I2 r1 r2 q2
inductive tVar (i:Nat) (σ:St) (H:Hp) (Q:VK):Prop
 | mk:∀ v,(σ[i]?=some (some v))→(Q v H)→tVar i σ H Q
def tC (v:V):TE:=fun _ H Q=>Q v H
theorem pe_var {i:Nat} {x:Str} {pos:Pos} (hN:X.N[i]?=some x) (hv:Vis X.env.scope x) (hd:(x==("__debug__" : Str))=false:=by decide) (hcd:(x==("__classdict__" : Str))=false:=by decide):PE X (.Name x pos) (tVar i):=by
 intro pins s σ H Q I h
 obtain ⟨v,e,h⟩:=h
 obtain ⟨m,hn,hl⟩:=I.loc
 obtain ⟨u,r,l⟩:=hl i x v hN e hv
 have fin:EP X pins σ Q u s:=⟨v,H,I,r,h⟩
 rcases l with ⟨hk,hm⟩ | ⟨hk,c,hc,hcell⟩
 ·exact wpAny_Name (wpAny_loadName_local I.ok.kind hk hn hm fin) hd
 ·rcases hk with hk | hk
  ·exact wpAny_Name (wpAny_loadName_cell I.ok.kind hk hc hcell fin) hd
  ·exact wpAny_Name (wpAny_loadName_free I.ok.kind hk hc hcell fin hcd) hd
theorem pe_int {i j pos}:PE X (.Constant (.int i) j pos) (tC (.int i)):=fun _ _ _ H _ I h=>wpAny_Constant_int ⟨.int i,H,I.tok _,⟨_,rfl⟩,h⟩
theorem pe_bl {b j pos}:PE X (.Constant (.bool b) j pos) (tC (.bl b)):=fun _ _ _ H _ I h=>Constant_bool ⟨.bl b,H,I,rfl,h⟩
theorem pe_str {x j pos}:PE X (.Constant (.str x) j pos) (tC (.str x)):=fun _ _ _ H _ I h=>Calls.Constant_str ⟨.str x,H,I.tok _,⟨_,rfl⟩,h⟩
def Gl (X:Cx) (x:Str):Prop:=X.env.kindOf x=some .globalImplicit
theorem ld_glob {E:Value→Shared→Prop} {pins:List (Addr×Obj)} {s:Shared} {σ:St} {H:Hp} {x:Str} {u:Value} {pos:Pos} {Q:Value→Shared→Prop} (I:Inv X pins σ H s) (hg:Gl X x) (hm:X.mg x=some u) (h:Q u s)
  (hd:(x==("__debug__" : Str))=false:=by decide):wpAny (model X.prog X.w) X.A (eval (.Name x pos) X.env) Q E s :=
 Calls.Name_function_global I.ok.kind hg (Calls.loadGlobal_global (by rw [I.ok.glob]; exact I.mod.glob.keeps I.bk) hm h) hd
theorem ld_blt {E:Value→Shared→Prop} {pins:List (Addr×Obj)} {s:Shared} {σ:St} {H:Hp} {x:Str} {u:Value} {pos:Pos} {Q:Value→Shared→Prop} (I:Inv X pins σ H s) (hg:Gl X x) (hm:X.mg x=none) (hv:bootBuiltins x=some u) (h:Q u s)
  (hn:x≠"__name__" := by decide) (hd:(x==("__debug__" : Str))=false:=by decide):wpAny (model X.prog X.w) X.A (eval (.Name x pos) X.env) Q E s:=by
 obtain ⟨mb,h1,h2⟩:=I.mod.blt
 exact Calls.Name_function_global I.ok.kind hg (Calls.loadGlobal_builtin (by rw [I.ok.glob]; exact I.mod.glob.keeps I.bk) hm (by rw [I.ok.blt]; exact h1.keeps I.bk) ((h2 x hn).trans hv) h) hd
theorem pe_glob {x:Str} {v:V} {u:Value} {pos:Pos} (hg:Gl X x) (hm:X.mg x=some u) (r:RelV v u) (hd:(x==("__debug__" : Str))=false:=by decide):PE X (.Name x pos) (tC v) :=
 fun _ _ _ H _ I h=>ld_glob I hg hm ⟨v,H,I,r,h⟩ hd
theorem pe_bltn {x:Str} {v:V} {u:Value} {pos:Pos} (hg:Gl X x) (hm:X.mg x=none) (hv:bootBuiltins x=some u) (r:RelV v u) (hn:x≠"__name__" := by decide) (hd:(x==("__debug__" : Str))=false:=by decide):PE X (.Name x pos) (tC v) :=
 fun _ _ _ H _ I h=>ld_blt I hg hm hv ⟨v,H,I,r,h⟩ hn hd
variable {a b:Expr} {ta tb:TE} {pos:Pos}
def PC (X:Cx) (op:CmpOp) (a b:Expr) (t:TE):Prop :=
 ∀ (pins:List (Addr×Obj)) (s:Shared) (σ:St) (H:Hp) (Q:VK),Inv X pins σ H s→t σ H Q →
  wpAny (model X.prog X.w) X.A (eval a X.env) (fun v s₁=>wpAny (model X.prog X.w) X.A (eval b X.env) (fun u s₂=>wpAny (model X.prog X.w) X.A (compareOp op v u) (EP X pins σ Q) X.xe s₂) X.xe s₁) X.xe s
inductive IsB (Q:Bool→Hp→Prop) (x:V) (H:Hp):Prop
 | mk:∀ c,(x=.bl c)→(Q c H)→IsB Q x H
def tB (t:TE):TT:=fun σ H Q=>t σ H (IsB Q)
theorem pt_cmp {op:CmpOp} {t:TE} (h:PC X op a b t) (h1:behindInMarks op b=false:=by first | exact nobehind _ (by decide) (by decide) | rfl):PT X (.Compare a [op] [b] pos) (tB t):=by
 intro pins s σ H Q I hw
 refine wpAny_isTrue_Compare1 (thn (h pins s σ H _ I hw) fun v s1 h1=>thn h1 fun u s2 h2=>thn h2 fun c s3 ⟨x,H1,I1,r1,q1⟩=>?_) h1
 obtain ⟨d,rfl,q⟩:=q1
 cases r1
 exact wpAny_truthy_bool ⟨H1,I1,q⟩
theorem pt_val {e:Expr} {t:TE} (h:PE X e t) (he:∀ whole,isTrue e X.env whole=(do let v ← whole; standAt e.pos; holding [v] (truthy v)):=by intro _; rfl):PT X e (tB t):=by
 intro pins s σ H Q I hw
 refine isTrue_plain (thn (h pins s σ H _ I hw) fun v s1 ⟨x,H1,I1,r1,q1⟩=>?_) (he _)
 obtain ⟨d,rfl,q⟩:=q1
 cases r1
 exact wpAny_truthy_bool ⟨H1,I1,q⟩
variable {tA tB':TT} {rest:List Expr}
def tAnd (t u:TT):TT:=fun σ H Q=>t σ H fun c H1=>if c=true then u σ H1 Q else Q false H1
def tOr (t u:TT):TT:=fun σ H Q=>t σ H fun c H1=>if c=true then Q true H1 else u σ H1 Q
def tNot (t:TT):TT:=fun σ H Q=>t σ H fun c H1=>Q (!c) H1
theorem pw_and1 (ha:PT X a tA):PW X (.BoolOp .And [a] pos) tA:=by
 intro wh pins s σ H Q I h
 refine isTrue_and (thn (ha pins s σ H Q I h) fun c s1 e=>?_)
 cases c with
 | true=>exact isTrue_and_nil e
 | false=>exact e
theorem pw_or1 (ha:PT X a tA):PW X (.BoolOp .Or [a] pos) tA:=by
 intro wh pins s σ H Q I h
 refine isTrue_or (thn (ha pins s σ H Q I h) fun c s1 e=>?_)
 cases c with
 | false=>exact isTrue_or_nil e
 | true=>exact e
theorem pw_and (ha:PT X a tA) (hb:PW X (.BoolOp .And (b::rest) pos) tB'):PW X (.BoolOp .And (a::b::rest) pos) (tAnd tA tB'):=by
 intro wh pins s σ H Q I h
 refine isTrue_and (thn (ha pins s σ H _ I h) fun c s1 ⟨H1,I1,q1⟩=>?_)
 cases c with
 | true=>exact hb wh pins s1 σ H1 Q I1 q1
 | false=>exact ⟨H1,I1,q1⟩
theorem pw_or (ha:PT X a tA) (hb:PW X (.BoolOp .Or (b::rest) pos) tB'):PW X (.BoolOp .Or (a::b::rest) pos) (tOr tA tB'):=by
 intro wh pins s σ H Q I h
 refine isTrue_or (thn (ha pins s σ H _ I h) fun c s1 ⟨H1,I1,q1⟩=>?_)
 cases c with
 | true=>exact ⟨H1,I1,q1⟩
 | false=>exact hb wh pins s1 σ H1 Q I1 q1
theorem pt_not (ha:PT X a tA):PT X (.UnaryOp .Not a pos) (tNot tA):=by
 intro pins s σ H Q I h
 exact isTrue_not (ha pins s σ H (fun c H1=>Q (!c) H1) I h)
def tAndV (ta tb:TE):TE:=fun σ H Q=>ta σ H fun x H1=>∃ c,x=.bl c∧if c=true then tb σ H1 Q else Q (.bl false) H1
def tNotV (ta:TE):TE:=fun σ H Q=>ta σ H fun x H1=>∃ c,x=.bl c∧Q (.bl (!c)) H1
theorem pe_one {op} {t:TE} (h:PE X a t):PE X (.BoolOp op [a] pos) t:=fun pins s σ H Q I hw=>BoolOp_one (h pins s σ H Q I hw)
theorem pe_and (ha:PE X a ta) (hb:PE X (.BoolOp .And (b::rest) pos) tb):PE X (.BoolOp .And (a::b::rest) pos) (tAndV ta tb):=by
 intro pins s σ H Q I h
 refine BoolOp_and (thn (ha pins s σ H _ I h) fun v s1 ⟨x,H1,I1,r1,q1⟩=>?_)
 obtain ⟨c,rfl,q1⟩:=q1
 cases r1
 refine wpAny_truthy_bool ?_
 cases c with
 | true=>exact hb pins s1 σ H1 Q I1 q1
 | false=>exact ⟨.bl false,H1,I1,rfl,q1⟩
theorem pe_not (ha:PE X a ta):PE X (.UnaryOp .Not a pos) (tNotV ta):=by
 intro pins s σ H Q I h
 refine UnaryOp_ (thn (ha pins s σ H _ I h) fun v s1 ⟨x,H1,I1,r1,q1⟩=>?_)
 obtain ⟨c,rfl,q1⟩:=q1
 cases r1
 exact not_of (wpAny_truthy_bool ⟨.bl (!c),H1,I1,rfl,q1⟩)
def tIf (t:TT) (ta tb:TE):TE:=fun σ H Q=>t σ H fun c H1=>if c=true then ta σ H1 Q else tb σ H1 Q
theorem pe_ifExp {c:Expr} (hc:PT X c tA) (ha:PE X a ta) (hb:PE X b tb):PE X (.IfExp c a b pos) (tIf tA ta tb):=by
 intro pins s σ H Q I h
 refine wpAny_IfExp (thn (hc pins s σ H _ I h) fun d s1 ⟨H1,I1,q1⟩=>?_)
 cases d with
 | true=>exact ha pins s1 σ H1 Q I1 q1
 | false=>exact hb pins s1 σ H1 Q I1 q1
end
end L2
namespace L2
open PySem PySem.Spec PyProof.Rows
def SqL (K:PySem.W.Frag) (H:Hp) (a:Addr) (xs:List V):Prop :=
 Rd H a (.lst xs) ∨
  ∃ (o:Obj) (its:Array Value) (n:Nat),K.lookup a=some o∧o.cls=.type "list" ∧ o.dict=none∧o.data=.seq its n∧its.size≤sizeLine∧Vals xs its.toList
def SqT (K:PySem.W.Frag) (H:Hp) (a:Addr) (xs:List V):Prop :=
 Rd H a (.tup xs) ∨
  ∃ (o:Obj) (its:Array Value) (n:Nat),K.lookup a=some o∧o.cls=.type "tuple" ∧ o.data=.seq its n∧its.size≤sizeLine∧Vals xs its.toList
def absV:Value→Option V
 | .none=>some .non
 | .bool b=>some (.bl b)
 | .int i _=>some (.int i)
 | .str x _=>some (.str x)
 | .bytes b _=>some (.byt b)
 | .float b _=>some (.flt b)
 | .ref a=>some (.ref a)
 | .type n=>some (.ty n)
 | _=>none
theorem RelV.abs {x:V} {u:Value} (r:RelV x u):absV u=some x:=by
 cases x with
 | non=>cases r; rfl
 | bl _=>cases r; rfl
 | int _=>obtain ⟨t,rfl⟩:=r; rfl
 | str _=>obtain ⟨t,rfl⟩:=r; rfl
 | byt _=>obtain ⟨t,rfl⟩:=r; rfl
 | flt _=>obtain ⟨t,rfl⟩:=r; rfl
 | ref _=>cases r; rfl
 | ty _=>cases r; rfl
theorem RelV.inj {x y:V} {u:Value} (r:RelV x u) (q:RelV y u):x=y:=Option.some.inj (r.abs.symm.trans q.abs)
theorem Vals.inj:∀ {xs ys:List V} {us:List Value},Vals xs us→Vals ys us→xs=ys
 | _,_,_,.nil,.nil=>rfl
 | _,_,_,.cons r t,.cons r' t'=>by rw [r.inj r',Vals.inj t t']
section
variable {X:Cx} {pins:List (Addr×Obj)} {σ:St} {H:Hp} {s:Shared} {a:Addr} {xs ys:List V}
theorem SqL.of {K:PySem.W.Frag} (h:H a=some (.lst xs)):SqL K H a xs:=.inl (.inl h)
theorem SqT.of {K:PySem.W.Frag} (h:H a=some (.tup xs)):SqT K H a xs:=.inl (.inl h)
theorem Inv.list (I:Inv X pins σ H s) (h:SqL X.K H a xs):∃ its:List Value,Vals xs its∧PlainL s.heap a its.toArray∧xs.length≤sizeLine:=by
 rcases h with h | ⟨o,its,n,hk,hc,hd,hs,hz,r⟩
 ·obtain ⟨z,its,n,r,e⟩:=h.ok I.hok
  exact ⟨its,r,⟨_,n,e,rfl,rfl,rfl⟩,z⟩
 ·refine ⟨its.toList,r,⟨o,n,I.kIn a o hk,hc,hd,by simpa using hs⟩,?_⟩
  have e:=r.length
  simp only [Array.length_toList] at e
  omega
theorem Inv.tuple (I:Inv X pins σ H s) (h:SqT X.K H a xs):∃ its:List Value,Vals xs its∧IsTup s.heap a its.toArray∧xs.length≤sizeLine:=by
 rcases h with h | ⟨o,its,n,hk,hc,hs,hz,r⟩
 ·obtain ⟨z,its,r,p⟩:=h.ok I.hok
  exact ⟨its,r,p,z⟩
 ·refine ⟨its.toList,r,⟨o,I.kIn a o hk,hc,n,by simpa using hs⟩,?_⟩
  have e:=r.length
  simp only [Array.length_toList] at e
  omega
theorem Inv.list_inj (I:Inv X pins σ H s) (h:SqL X.K H a xs) (h':SqL X.K H a ys):xs=ys:=by
 obtain ⟨its,r,⟨o,n,e,_,_,d⟩,_⟩:=I.list h
 obtain ⟨its',r',⟨o',n',e',_,_,d'⟩,_⟩:=I.list h'
 rw [e] at e'; cases e'
 rw [d] at d'
 injection d' with d1 _
 have:its=its':=by simpa using congrArg Array.toList d1
 subst this
 exact r.inj r'
end
abbrev Cx.wish (X:Cx) (E:Value→Shared→Prop):Cx:={ X with xe:=E }
abbrev Cx.nox (X:Cx):Cx:=X.wish fun _ _=>False
theorem Cx.Ok.wish {X:Cx} (ok:X.Ok) (E:Value→Shared→Prop):(X.wish E).Ok :=
 ⟨ok.mod,ok.kind,ok.glob,ok.blt,ok.above,ok.inj,ok.has,ok.cab,ok.hd,ok.frames,ok.stk,ok.exf,ok.bs,ok.bsz,ok.noex,ok.exfs,ok.funs,ok.frf⟩
theorem Cx.Ok.unwish {X:Cx} {E:Value→Shared→Prop} (ok:(X.wish E).Ok):X.Ok :=
 ⟨ok.mod,ok.kind,ok.glob,ok.blt,ok.above,ok.inj,ok.has,ok.cab,ok.hd,ok.frames,ok.stk,ok.exf,ok.bs,ok.bsz,ok.noex,ok.exfs,ok.funs,ok.frf⟩
section
variable {X:Cx} {pins:List (Addr×Obj)} {σ:St} {H:Hp} {s:Shared} {E:Value→Shared→Prop}
theorem Inv.wish (I:Inv X pins σ H s) (E:Value→Shared→Prop):Inv (X.wish E) pins σ H s:=⟨I.ok.wish E,I.os,I.bare,I.base,I.loc,I.cell,I.free,I.freeC,I.pin,I.hok,I.len⟩
theorem Inv.unwish (I:Inv (X.wish E) pins σ H s):Inv X pins σ H s:=⟨I.ok.unwish,I.os,I.bare,I.base,I.loc,I.cell,I.free,I.freeC,I.pin,I.hok,I.len⟩
theorem SP.unwish {D:Ends} {f:Flow} {s':Shared} (h:SP (X.wish E) pins D f s'):SP X pins D f s':=by
 cases f with
 | next=>obtain ⟨σ',H',I,q⟩:=h; exact ⟨σ',H',I.unwish,q⟩
 | brk=>obtain ⟨σ',H',I,q⟩:=h; exact ⟨σ',H',I.unwish,q⟩
 | cont=>obtain ⟨σ',H',I,q⟩:=h; exact ⟨σ',H',I.unwish,q⟩
 | ret u=>obtain ⟨v,σ',H',I,r,q⟩:=h; exact ⟨v,σ',H',I.unwish,r,q⟩
theorem PSs.nox {st:List Stmt} {t:TS} (h:PSs X.nox st t):PSs X st t:=fun pins s σ H D I hw =>
 wpAny_mono (h pins s σ H D (I.wish _) hw) (fun _ _ q=>q.unwish) fun _ _ z=>False.elim z
end
section
variable {X:Cx} {st:Stmt} {rest:List Stmt} {t u:TS} {e:Expr} {te:TE} {pos:Pos}
def tNext:TS:=fun D σ H=>D.nx σ H
def tSeq (t u:TS):TS:=fun D σ H=>t { D with nx:=u D } σ H
theorem pss_nil:PSs X [] tNext:=fun _ _ σ H _ I h=>wpAny_execs_nil ⟨σ,H,I,h⟩
theorem pss_cons (h1:PS X st t) (h2:PSs X rest u):PSs X (st::rest) (tSeq t u):=by
 intro pins s σ H D I h
 refine wpAny_execs_cons (thn (h1 pins s σ H { D with nx:=u D } I h) fun f s1 q=>?_)
 cases f with
 | next =>
  obtain ⟨σ',H',I',q⟩:=q
  exact h2 pins s1 σ' H' D I' q
 | ret v=>exact q
 | brk=>exact q
 | cont=>exact q
theorem pss_one (h1:PS X st t):PSs X [st] t:=by
 intro pins s σ H D I h
 refine wpAny_execs_cons (thn (h1 pins s σ H D I h) fun f s1 q=>?_)
 cases f with
 | next=>exact wpAny_execs_nil q
 | ret v=>exact q
 | brk=>exact q
 | cont=>exact q
theorem Inv.quiet {pins:List (Addr×Obj)} {σ:St} {H:Hp} {s:Shared} (I:Inv X pins σ H s):interactive X.env=false:=by simp [interactive,I.ok.kind]
def tDrop (te:TE):TS:=fun D σ H=>te σ H fun _ H1=>D.nx σ H1
theorem ps_expr (he:PE X e te) (hs:swapsWith e none pos.line X.env=pure false:=by rfl):PS X (.Expr e pos) (tDrop te):=by
 intro pins s σ H D I h
 exact wpAny_Expr_any (thn (he pins s σ H _ I h) fun v s1 ⟨x,H1,I1,r1,q1⟩=>⟨σ,H1,I1,q1⟩) I.quiet hs
def tRet (te:TE):TS:=fun D σ H=>te σ H D.rt
theorem ps_ret (he:PE X e te):PS X (.Return (some e) pos) (tRet te):=by
 intro pins s σ H D I h
 exact wpAny_Return_some (thn (he pins s σ H _ I h) fun v s1 ⟨x,H1,I1,r1,q1⟩=>⟨x,σ,H1,I1,r1,q1⟩)
def tRetN:TS:=fun D _ H=>D.rt .non H
theorem ps_retN:PS X (.Return none pos) tRetN:=fun _ _ σ H _ I h=>wpAny_Return_none ⟨.non,σ,H,I,rfl,h⟩
def tIfS (c:TT) (t u:TS):TS:=fun D σ H=>c σ H fun b H1=>if b=true then t D σ H1 else u D σ H1
theorem ps_if {c:Expr} {a b:List Stmt} {tc:TT} (hc:PT X c tc) (ha:PSs X a t) (hb:PSs X b u):PS X (.If c a b pos) (tIfS tc t u):=by
 intro pins s σ H D I h
 refine wpAny_If (thn (hc pins s σ H _ I h) fun d s1 ⟨H1,I1,q1⟩=>?_)
 cases d with
 | true=>exact ha pins s1 σ H1 D I1 q1
 | false=>exact hb pins s1 σ H1 D I1 q1
def tNever:TS:=fun _ _ _=>False
theorem ps_never:PS X st tNever:=fun _ _ _ _ _ _ h=>h.elim
end
abbrev TG:=V→St→Hp→(St→Hp→Prop)→Prop
abbrev TGs:=List V→St→Hp→(St→Hp→Prop)→Prop
def PG (X:Cx) (target:Expr) (t:TG):Prop :=
 ∀ (pins:List (Addr×Obj)) (s:Shared) (σ:St) (H:Hp) (v:V) (u:Value) (Q:St→Hp→Prop),Inv X pins σ H s→RelV v u→t v σ H Q →
  wpAny (model X.prog X.w) X.A (assign target X.env u) (fun _ s'=>∃ σ' H',Inv X pins σ' H' s'∧Q σ' H') X.xe s
def PGs (X:Cx) (ts:List Expr) (t:TGs):Prop :=
 ∀ (pins:List (Addr×Obj)) (s:Shared) (σ:St) (H:Hp) (vs:List V) (us:List Value) (Q:St→Hp→Prop),Inv X pins σ H s→Vals vs us→t vs σ H Q →
  wpAny (model X.prog X.w) X.A (assignInOrder ((assignEach ts X.env).map (·.2)) us) (fun _ s'=>∃ σ' H',Inv X pins σ' H' s'∧Q σ' H') X.xe s
abbrev TSet:=V→V→V→Hp→(Hp→Prop)→Prop
def PSet (X:Cx) (t:TSet):Prop :=
 ∀ (pins:List (Addr×Obj)) (s:Shared) (σ:St) (H:Hp) (o i v:V) (ov iv u:Value) (Q:Hp→Prop),Inv X pins σ H s→RelV o ov→RelV i iv→RelV v u→t o i v H Q →
  wpAny (model X.prog X.w) X.A (setItem ov iv u) (fun _ s'=>∃ H',Inv X pins σ H' s'∧Q H') X.xe s
section
variable {X:Cx} {pos:Pos}
def gName (i:Nat):TG:=fun v σ H Q=>Q (σ.set i (some v)) H
theorem pg_name {i:Nat} {x:Str} (hN:X.N.Nodup) (hi:X.N[i]?=some x) (hx:Loc X.env.scope x) (hf:X.fn x=true∨X.env.scope.names.lookup x=some .local:=by first | exact .inl rfl | exact .inr rfl | assumption):PG X (.Name x pos) (gName i):=by
 intro pins s σ H v u Q I r h
 exact wpAny_assign_Name (store_ok I hN hi hx r (fun s' I'=>⟨_,H,I',h⟩) hf)
def gNil:TGs:=fun vs σ H Q=>vs=[]∧Q σ H
inductive gCons (t:TG) (u:TGs) (vs:List V) (σ:St) (H:Hp) (Q:St→Hp→Prop):Prop
 | mk:∀ v r,(vs=v::r)→(t v σ H fun σ' H'=>u r σ' H' Q)→gCons t u vs σ H Q
theorem pgs_nil:PGs X [] gNil:=by
 intro pins s σ H vs us Q I r h
 obtain ⟨e,h⟩:=h
 subst e
 cases r
 exact assignInOrder_nil ⟨σ,H,I,h⟩
theorem pgs_cons {e:Expr} {es:List Expr} {t:TG} {u:TGs} (h1:PG X e t) (h2:PGs X es u)
  (hs:(assignEach (e::es) X.env).map (·.2)=assign e X.env::(assignEach es X.env).map (·.2):=by rfl):PGs X (e::es) (gCons t u):=by
 intro pins s σ H vs us Q I r h
 obtain ⟨v,vr,e1,h⟩:=h
 subst e1
 cases r with
 | cons r rr =>
  rw [hs]
  refine assignInOrder_cons (thn (h1 pins s σ H _ _ _ I r h) fun _ s1 ⟨σ1,H1,I1,q1⟩=>?_)
  exact h2 pins s1 σ1 H1 _ _ Q I1 rr q1
inductive gTup (K:PySem.W.Frag) (n:Nat) (t:TGs) (v:V) (σ:St) (H:Hp) (Q:St→Hp→Prop):Prop
 | mk:∀ a xs,(v=.ref a)→(SqT K H a xs)→(xs.length=n)→(t xs σ H Q)→gTup K n t v σ H Q
theorem pg_tup {es:List Expr} {k:Nat} {t:TGs} {n:Nat} (hc:X.calm=true) (h:PGs X es t)
  (hn:(assignEach es X.env).length=n:=by rfl) (hst:(assignEach es X.env).findIdx? (·.1)=none:=by rfl):PG X (.Tuple es k pos) (gTup X.K n t):=by
 intro pins s σ H v u Q I r hw
 obtain ⟨a,xs,e1,hq,hl,hw⟩:=hw
 subst e1
 cases r
 obtain ⟨its,rv,ht,hz⟩:=I.tuple hq
 refine assign_Tuple_tuple (I.ok.hd hc) ht (by simp [hn,← hl,rv.length]) hst fun h' hx=>?_
 have I1:Inv X pins σ H { s with heap:=h' }:=I.kept (t':=s.toks) fun b o e=>hx b o (Nat.ne_of_lt (Heap.lt_size e)) e
 exact h pins _ σ H xs _ Q I1 (by simpa using rv) hw
def gSub (to ti:TE) (t:TSet):TG:=fun v σ H Q=>to σ H fun o H1=>ti σ H1 fun i H2=>t o i v H2 fun H3=>Q σ H3
theorem pg_sub {o i:Expr} {to ti:TE} {t:TSet} (ho:PE X o to) (hi:PE X i ti) (hs:PSet X t)
  (ha:∀ v,assign (.Subscript o i pos) X.env v=(do
   let ov ← holding [v] (eval o X.env)
   let iv ← holding [v,ov] (eval i X.env)
   standAt pos
   holding [v,ov,iv] (setItem ov iv v)
   release [v,ov,iv] []):=by intro _; rfl):PG X (.Subscript o i pos) (gSub to ti t):=by
 intro pins s σ H v u Q I r h
 rw [ha]
 refine wpAny_bind (wpAny_holding (thn (ho pins s σ H _ I h) fun ov s1 ⟨x,H1,I1,r1,q1⟩=>?_))
 refine wpAny_bind (wpAny_holding (thn (hi pins s1 σ H1 _ I1 q1) fun iv s2 ⟨y,H2,I2,r2,q2⟩=>?_))
 refine wpAny_bind (wpAny_standAt (wpAny_bind (wpAny_holding (thn (hs pins s2 σ H2 x y v ov iv u _ I2 r1 r2 r q2) fun _ s3 ⟨H3,I3,q3⟩=>?_))))
 exact wpAny_release ⟨σ,H3,I3,q3⟩
def tAsg (te:TE) (g:TG):TS:=fun D σ H=>te σ H fun x H1=>g x σ H1 D.nx
theorem ps_asg {tg e:Expr} {te:TE} {g:TG} (he:PE X e te) (hg:PG X tg g) (hs:swapsWithSole [tg] e pos.line X.env=pure false:=by rfl) (hw:swappedStores [tg] e X.env=pure none:=by rfl)
  (h1:(assignEach [tg] X.env).map (·.2)=[assign tg X.env]:=by rfl):PS X (.Assign [tg] e pos) (tAsg te g):=by
 intro pins s σ H D I h
 refine wpAny_Assign_stores (thn (he pins s σ H _ I h) fun v s1 ⟨x,H1,I1,r1,q1⟩=>?_) hs hw
 rw [h1]
 exact thn (hg pins s1 σ H1 x v _ I1 r1 q1) fun _ s2 q=>q
theorem ps_set {i:Nat} {x:Str} {e:Expr} {te:TE} {pos':Pos} (hN:X.N.Nodup) (hi:X.N[i]?=some x) (hx:Loc X.env.scope x) (he:PE X e te) (hs:swapsWith e (some (.Name x pos')) pos.line X.env=pure false:=by rfl) (hf:X.fn x=true∨X.env.scope.names.lookup x=some .local:=by first | exact .inl rfl | exact .inr rfl | assumption) :
  PS X (.Assign [.Name x pos'] e pos) (tAsg te (gName i)):=by
 intro pins s σ H D I h
 refine wpAny_Assign_Name (thn (he pins s σ H _ I h) fun v s1 ⟨y,H1,I1,r1,q1⟩=>?_) hs
 exact store_ok I1 hN hi hx r1 (fun s2 I2=>⟨_,H1,I2,q1⟩) hf
end
section
variable {X:Cx} {pos:Pos}
def tWhile (c:TT) (tb:TS):TS:=fun D σ H=>∃ W:Nat→St→Hp→Prop,(∃ m,W m σ H)∧∀ m σ H,W m σ H →
 c σ H fun b H1=>if b=true then ∃ N:St→Hp→Prop,(∀ σ' H',N σ' H'→∃ m',m'<m∧W m' σ' H')∧tb { D with nx:=N,ct:=N,bk:=D.nx } σ H1 else D.nx σ H1
theorem ps_while {c:Expr} {body:List Stmt} {tc:TT} {tb:TS} (hp:PassesOwn (model X.prog X.w) X.A X.env X.xe) (hc:PT X c tc) (hb:PSs X body tb):PS X (.While c body [] pos) (tWhile tc tb):=by
 intro pins s σ H D I h
 obtain ⟨W,⟨m0,w0⟩,turn⟩:=h
 refine wpAny_While (codeAny_whileLoop (fun n s'=>∃ σ' H',Inv X pins σ' H' s'∧W n σ' H') ?_ m0 ⟨σ,H,I,w0⟩)
 rintro n s1 ⟨σ1,H1,I1,w1⟩
 refine wpAny_passesOwn hp (thn (hc pins s1 σ1 H1 _ I1 (turn n σ1 H1 w1)) fun b s2 ⟨H2,I2,q2⟩=>?_)
 cases b with
 | true =>
  obtain ⟨N,hN,q2⟩:=q2
  rw [if_pos rfl]
  refine wpAny_passesOwn hp (thn (hb pins s2 σ1 H2 _ I2 q2) fun f s3 q3=>?_)
  cases f with
  | next =>
   obtain ⟨σ3,H3,I3,n3⟩:=q3
   obtain ⟨m',hm,w3⟩:=hN σ3 H3 n3
   exact ⟨m',hm,σ3,H3,I3,w3⟩
  | cont =>
   obtain ⟨σ3,H3,I3,n3⟩:=q3
   obtain ⟨m',hm,w3⟩:=hN σ3 H3 n3
   exact ⟨m',hm,σ3,H3,I3,w3⟩
  | brk=>exact q3
  | ret v=>exact q3
 | false =>
  rw [if_neg Bool.false_ne_true]
  exact wpAny_execs_nil ⟨σ1,H2,I2,q2⟩
end
structure It where
 go:Nat→Hp→Prop
 yld:Nat→Hp→V→Hp→Prop
 stop:Nat→Hp→Prop
def FpOk (X:Cx) (pins:List (Addr×Obj)) (H:Hp) (b:Addr):Prop :=
 H b=none∧b≠X.env.locals∧b∉X.fs∧(b∈X.ex∨X.s₀.heap.objs.size≤b)∧(∀ x c,X.env.cells.lookup x=some c→c≠b)∧∀ p∈X.pn++pins,p.1≠b
theorem Inv.fpOk {X:Cx} {pins:List (Addr×Obj)} {σ:St} {H H':Hp} {s:Shared} {b:Addr} (I:Inv X pins σ H s) (hb:s.heap.objs.size≤b) (hn:H' b=none):FpOk X pins H' b:=by
 refine ⟨hn,Nat.ne_of_gt (Nat.lt_of_lt_of_le I.lt hb),I.nofs hb,.inr (Nat.le_trans I.sz hb),fun x c e z=>?_,fun p hp z=>?_⟩
 ·obtain ⟨v,q⟩:=I.cell x c e
  exact absurd (Nat.lt_of_lt_of_le q.lt (by rw [z]; exact hb)) (Nat.lt_irrefl _)
 ·exact absurd (Nat.lt_of_lt_of_le (Heap.lt_size (I.pin p hp).1) (by rw [z]; exact hb)) (Nat.lt_irrefl _)
structure Turn (P:Program) (w:World) (K:PySem.W.Frag) (tg:Expr) (J:It) (fp:List Addr) (it:Addr) (tn:Nat→Heap→Prop):Prop where
 mem:it∈fp
 obj:∀ i h,tn i h→∀ b∈fp,∃ o,h.get? b=some o∧∀ v,o.data≠.cell v
 keep:∀ i h h',tn i h→(∀ b∈fp,∀ o,h.get? b=some o→h'.get? b=some o)→tn i h'
 item:∀ (X:Cx),X.prog=P→X.w=w→X.K=K→X.calm=true→∀ (i:Nat) (pins:List (Addr×Obj)) (s:Shared) (σ:St) (H:Hp) (E:Value→Shared→Prop),Inv X pins σ H s→(∀ b∈fp,FpOk X pins H b)→tn i s.heap→J.go i H →
  wpAny (model P w) X.A (pyNext (.ref it)) (fun r s1=>∃ u,r=some u ∧
   wpAny (model P w) X.A (letOwnedTupleGo tg (.ref it) u) (fun _ s2=>∃ x H',Inv X pins σ H' s2∧RelV x u∧J.yld i H x H'∧tn (i+1) s2.heap∧∀ b∈fp,H' b=none) E s1) E s
 done:∀ (X:Cx),X.prog=P→X.w=w→X.K=K→X.calm=true→∀ (i:Nat) (pins:List (Addr×Obj)) (s:Shared) (σ:St) (H:Hp) (E:Value→Shared→Prop),Inv X pins σ H s→(∀ b∈fp,FpOk X pins H b)→tn i s.heap→J.stop i H →
  wpAny (model P w) X.A (pyNext (.ref it)) (fun r s1=>r=none∧Inv X pins σ H s1) E s
 self:∀ (A:Around) (i:Nat) (s:Shared) (Q:Value→Shared→Prop) (E:Value→Shared→Prop),tn i s.heap→Q (.ref it) s→wpAny (model P w) A (pyIter (.ref it)) Q E s
abbrev TI:=St→Hp→(It→Hp→Prop)→Prop
def PIE (X:Cx) (pins:List (Addr×Obj)) (σ:St) (tg:Expr) (R:It→Hp→Prop) (itv:Value) (s2:Shared):Prop :=
 ∃ (it:Addr) (fp:List Addr) (tn:Nat→Heap→Prop) (J:It) (H':Hp),itv=.ref it∧Inv X pins σ H' s2∧Turn X.prog X.w X.K tg J fp it tn∧tn 0 s2.heap∧(∀ b∈fp,FpOk X pins H' b)∧R J H'
def PI (X:Cx) (tg iter:Expr) (wi:TI):Prop :=
 ∀ (pins:List (Addr×Obj)) (s:Shared) (σ:St) (H:Hp) (R:It→Hp→Prop),Inv X pins σ H s→wi σ H R →
  wpAny (model X.prog X.w) X.A (eval iter X.env) (fun v s1=>wpAny (model X.prog X.w) X.A (pyIter v) (PIE X pins σ tg R) X.xe s1) X.xe s
theorem go_of {M:Model} {A:Around} {E:Value→Shared→Prop} {s:Shared} {tg:Expr} {it:Addr} {u:Value} {o:Obj} {n:String} {vs:Array Value} {Q:Unit→Shared→Prop} (ho:s.heap.get? it=some o) (hc:o.cls=.type n) (hd:o.data=.fields vs)
  (hn:["enumerate","zip","dict_itemiterator","dict_reverseitemiterator","odict_iterator","itertools.zip_longest","itertools.pairwise"].contains n=false) (hQ:Q () s):wpAny M A (letOwnedTupleGo tg (.ref it) u) Q E s:=by
 unfold letOwnedTupleGo
 cases tg<;>first
  | exact wpAny_pure hQ
  | (cases u<;>first
    | exact wpAny_pure hQ
    | (refine wpAny_bind (wpAny_load ho ?_)
       rw [hc,hd]
       show wpAny M A (if (["enumerate","zip","dict_itemiterator","dict_reverseitemiterator","odict_iterator","itertools.zip_longest","itertools.pairwise"].contains n&&vs[0]?==some (rawInt _))=true then _ else _) Q E s
       rw [if_neg (by intro h; rw [hn,Bool.false_and] at h; cases h)]
       exact wpAny_pure hQ))
def Itl (K:PySem.W.Frag) (a:Addr):It :=
 ⟨fun i H=>∃ xs x,SqL K H a xs∧xs[i]?=some x,fun i H x H'=>H'=H∧∀ xs,SqL K H a xs→xs[i]?=some x,fun i H=>∃ xs,SqL K H a xs∧xs.length≤i⟩
def Itr (lo:Int) (n:Nat):It:=⟨fun i _=>i<n,fun i H x H'=>H'=H∧x=.int (lo+i),fun i _=>n≤i⟩
theorem turn_list {P:Program} {w:World} {K:PySem.W.Frag} {tg:Expr} (a it:Addr):Turn P w K tg (Itl K a) [it] it (fun i h=>h.IsListIter it a i) where
 mem:=by simp
 obj:=fun i h st b hb=>by
  have e:b=it:=by simpa using hb
  subst e
  obtain ⟨o,e,c,d⟩:=st
  exact ⟨o,e,fun v z=>by rw [d] at z; cases z⟩
 keep:=fun i h h' st k=>st.at fun o e=>k it (by simp) o e
 item:=by
  intro X hP hw hK hc i pins s σ H E I hf st hg
  subst hP hw hK
  obtain ⟨xs,x,hq,hx⟩:=hg
  obtain ⟨its,rv,p,hz⟩:=I.list hq
  obtain ⟨u,hu,ru⟩:=rv.get hx
  obtain ⟨f0,f1,f2,f3,f4,f5⟩:=hf it (by simp)
  refine wpAny_pyNext_list_item st p.isList (x:=u) (by simpa using hu) fun h' st' sb=>?_
  have I1:Inv X pins σ H { s with heap:=h' }:=I.turned (t':=s.toks) (fun b o hb e=>(sb.2 b hb).trans e) f0 f1 f3 f4 f5
  obtain ⟨o,e,c,d⟩:=id st'
  exact ⟨u,rfl,go_of (s:={ s with heap:=h' }) e c d (by decide) ⟨x,H,I1,ru,⟨rfl,fun ys hy=>by rw [I.list_inj hy hq]; exact hx⟩,st',fun b hb=>(hf b hb).1⟩⟩
 done:=by
  intro X hP hw hK hc i pins s σ H E I hf st hg
  subst hP hw hK
  obtain ⟨xs,hq,hx⟩:=hg
  obtain ⟨its,rv,p,hz⟩:=I.list hq
  obtain ⟨f0,f1,f2,f3,f4,f5⟩:=hf it (by simp)
  have hl:=rv.length
  exact wpAny_pyNext_list_end (I.ok.hd hc) st p.isList (by simp; omega) fun h' eb=>⟨rfl,I.turned (t':=s.toks) (fun b o hb e=>eb b o hb e) f0 f1 f3 f4 f5⟩
 self:=fun _ _ _ _ _ st h=>wpAny_pyIter_listiter st h
theorem turn_range {P:Program} {w:World} {K:PySem.W.Frag} {tg:Expr} (it:Addr) (lo:Int) (n:Nat):Turn P w K tg (Itr lo n) [it] it (fun i h=>IsRangeIter h it (lo+(i:Nat)*1) ((n:Int)-(i:Nat)) 1) where
 mem:=by simp
 obj:=fun i h st b hb=>by
  have e:b=it:=by simpa using hb
  subst e
  exact ⟨_,st,fun v z=>by
   have z':Data.fields _=Data.cell v:=z
   cases z'⟩
 keep:=fun i h h' st k=>k it (by simp) _ st
 item:=by
  intro X hP hw hK hc i pins s σ H E I hf st hg
  subst hP hw hK
  obtain ⟨f0,f1,f2,f3,f4,f5⟩:=hf it (by simp)
  have W:=Walks.range (prog:=X.prog) (w:=X.w) (I.ok.hd hc) it lo 1 n
  refine W.item i s _ _ hg st fun v h' tk hv st' kk=>?_
  obtain ⟨t,rfl⟩:=hv
  have I1:Inv X pins σ H { s with heap:=h',toks:=tk }:=I.turned (fun b o hb e=>kk b o (by simpa using hb) e) f0 f1 f3 f4 f5
  refine ⟨_,rfl,go_of (s:={ s with heap:=h',toks:=tk }) (n:="range_iterator") st' rfl rfl (by decide) ⟨.int (lo+i),H,I1,⟨t,?_⟩,⟨rfl,rfl⟩,st',fun b hb=>(hf b hb).1⟩⟩
  rw [Int.mul_one]
 done:=by
  intro X hP hw hK hc i pins s σ H E I hf st hg
  subst hP hw hK
  obtain ⟨f0,f1,f2,f3,f4,f5⟩:=hf it (by simp)
  exact wpAny_pyNext_range_end (I.ok.hd hc) st (by have:n≤i:=hg; omega) fun h' eb=>⟨rfl,I.turned (t':=s.toks) (fun b o hb e=>eb b o hb e) f0 f1 f3 f4 f5⟩
 self:=fun _ _ _ _ _ st h=>wpAny_pyIter_rangeiter st h
end L2
namespace L2
open PySem PySem.Spec PyProof.Rows
section
variable {X:Cx} {tg:Expr}
def iList (K:PySem.W.Frag) (tl:TE):TI:=fun σ H R=>tl σ H fun x H1=>∃ a,x=.ref a∧(∃ xs,SqL K H1 a xs)∧R (Itl K a) H1
theorem pi_list {l:Expr} {tl:TE} (hl:PE X l tl):PI X tg l (iList X.K tl):=by
 intro pins s σ H R I h
 refine thn (hl pins s σ H _ I h) fun v s1 ⟨x,H1,I1,r1,q1⟩=>?_
 obtain ⟨a,e,⟨xs,hq⟩,q⟩:=q1
 subst e
 cases r1
 obtain ⟨its,rv,p,hz⟩:=I1.list hq
 refine wpAny_pyIter_list p.isList ?_
 refine ⟨s1.heap.objs.size,[s1.heap.objs.size],_,_,H1,rfl,I1.kept (t':=s1.toks) fun b o e=>Heap.get?_push_of_some _ e,turn_list a _,⟨_,Heap.get?_push_size _ rfl,rfl,rfl⟩,fun b hb=>?_,q⟩
 have e:b=s1.heap.objs.size:=by simpa using hb
 subst e
 exact I1.fpOk (Nat.le_refl _) (I1.hok.fresh (Nat.le_refl _))
theorem range_it {pins:List (Addr×Obj)} {σ:St} {H:Hp} {s:Shared} {R:It→Hp→Prop} {E:Value→Shared→Prop} {lo hi:Int} {t u v:Tok} {tk:Nat} (I:Inv X pins σ H s) (h1 : -(2^62)≤lo) (h2:lo<2^62) (h3 : -(2^62)≤hi) (h4:hi<2^62)
  (q:R (Itr lo (hi-lo).toNat) H):wpAny (model X.prog X.w) X.A (pyIter (.ref s.heap.objs.size)) (PIE X pins σ tg R) E { s with heap:=s.heap.push { cls:=.type "range",data:=.fields #[.int lo t,.int hi u,.int 1 v] },toks:=tk }:=by
 refine wpAny_pyIter_range (IsRange.new ..) (small_one h1 h2 h3 h4) ?_
 have I1:Inv X pins σ H { s with heap:=s.heap.push { cls:=.type "range",data:=.fields #[.int lo t,.int hi u,.int 1 v] },toks:=tk }:=I.kept fun b o e=>Heap.get?_push_of_some _ e
 refine ⟨(s.heap.push { cls:=.type "range",data:=.fields #[.int lo t,.int hi u,.int 1 v] }).objs.size,[(s.heap.push { cls:=.type "range",data:=.fields #[.int lo t,.int hi u,.int 1 v] }).objs.size],_,_,H,rfl,
  I1.kept (t':=tk) fun b o e=>Heap.get?_push_of_some _ e,turn_range _ lo (hi-lo).toNat,?_,fun b hb=>?_,q⟩
 ·have e1:lo+((0:Nat):Int)*1=lo:=by simp
  have e2:(((hi-lo).toNat:Nat):Int)-((0:Nat):Int)=Builtin.Range.rangeSize lo hi 1:=by rw [rangeSize_one]; split<;>omega
  show IsRangeIter _ _ (lo+((0:Nat):Int)*1) ((((hi-lo).toNat:Nat):Int)-((0:Nat):Int)) 1
  rw [e1,e2]
  exact Heap.get?_push_size _ rfl
 ·have e:b=(s.heap.push { cls:=.type "range",data:=.fields #[.int lo t,.int hi u,.int 1 v] }).objs.size:=by simpa using hb
  subst e
  exact I1.fpOk (Nat.le_refl _) (I1.hok.fresh (Nat.le_refl _))
def iRng1 (ta:TA):TI:=fun σ H R=>ta σ H fun vs H1=>∃ j:Int,vs=[.int j] ∧ -(2^62)≤j∧j<2^62∧R (Itr 0 j.toNat) H1
theorem pi_range1 {a:Expr} {ta:TA} {p pos:Pos} (hg:Gl X "range") (hm:X.mg "range" = none) (ha:PA X [a] ta) (hs:starEach [a] X.env=[(false,eval a X.env)]:=by rfl):PI X tg (.Call (.Name "range" p) [a] [] pos) (iRng1 ta):=by
 intro pins s σ H R I h
 refine Call_ (ld_blt I hg hm boot_range (PyProof.Rows.callWith_type1 (thn (ha pos pins s σ H _ I h) fun us s1 ⟨vs,H1,I1,r1,q1⟩=>?_) hs rfl))
 obtain ⟨j,e,q1,q2,q⟩:=q1
 subst e
 cases r1 with
 | cons r rr =>
  cases rr
  obtain ⟨t,rfl⟩:=r
  exact call_range_1 (range_it I1 (by omega) (by omega) q1 q2 (by simpa using q))
def tFor (wi:TI) (g:TG) (tb:TS):TS:=fun D σ H=>wi σ H fun J H1=>∃ W:Nat→Nat→St→Hp→Prop,(∃ m,W 0 m σ H1)∧∀ i m σ H,W i m σ H →
 (J.stop i H∧D.nx σ H)∨(J.go i H∧∃ N:St→Hp→Prop,(∀ σ' H',N σ' H'→∃ m',m'<m∧W (i+1) m' σ' H')∧∀ x H',J.yld i H x H'→g x σ H' fun σ2 H2=>tb { D with nx:=N,ct:=N,bk:=D.nx } σ2 H2)
def pinsAt (fp:List Addr) (h:Heap):List (Addr×Obj):=fp.filterMap fun b=>(h.get? b).map fun o=>(b,o)
theorem mem_pinsAt {fp:List Addr} {h:Heap} {b:Addr} {o:Obj} (hb:b∈fp) (e:h.get? b=some o):(b,o)∈pinsAt fp h:=List.mem_filterMap.mpr ⟨b,hb,by rw [e]; rfl⟩
theorem of_pinsAt {fp:List Addr} {h:Heap} {p:Addr×Obj} (hp:p∈pinsAt fp h):p.1∈fp∧h.get? p.1=some p.2:=by
 obtain ⟨b,hb,e⟩:=List.mem_filterMap.mp hp
 cases q:h.get? b with
 | none=>rw [q] at e; cases e
 | some o =>
  rw [q] at e
  have e':(b,o)=p:=Option.some.inj e
  subst e'
  exact ⟨hb,q⟩
theorem Inv.pinned {pins:List (Addr×Obj)} {σ:St} {H:Hp} {s:Shared} {fp:List Addr} (I:Inv X pins σ H s) (hf:∀ b∈fp,FpOk X pins H b) (ho:∀ b∈fp,∃ o,s.heap.get? b=some o∧∀ v,o.data≠.cell v):Inv X (pins++pinsAt fp s.heap) σ H s :=
 I.pins_of fun p hp=>(List.mem_append.mp hp).elim (fun z=>I.pin p (List.mem_append_right _ z)) fun z=>by
  obtain ⟨hb,e⟩:=of_pinsAt z
  obtain ⟨f0,f1,f2,_⟩:=hf p.1 hb
  obtain ⟨o,e',d⟩:=ho p.1 hb
  rw [e] at e'; cases e'
  exact ⟨e,f0,f1,f2,d⟩
theorem Inv.unpinned {pins pl:List (Addr×Obj)} {σ:St} {H:Hp} {s:Shared} (I:Inv X (pins++pl) σ H s):Inv X pins σ H s:=I.pins_of fun p hp=>I.pin p (List.mem_append_right _ (List.mem_append_left _ hp))
theorem ps_for {iter:Expr} {body:List Stmt} {wi:TI} {g:TG} {tb:TS} {pos:Pos} (hp:PassesOwn (model X.prog X.w) X.A X.env X.xe) (hc:X.calm=true) (hi:PI X tg iter wi) (hg:PG X tg g) (hb:PSs X body tb)
  (hs:∀ x,foldedSetIterable iter X.env x=pure x:=by intro _; rfl):PS X (.For tg iter body [] pos) (tFor wi g tb):=by
 intro pins s σ H D I h
 refine wpAny_For (thn (hi pins s σ H _ I h) fun v s1 h1=>thn h1 fun itv s2 h2=>?_) hs
 obtain ⟨it,fp,tn,J,H2,e,I2,T,st2,f2,W,⟨m0,w0⟩,turn⟩:=h2
 subst e
 have stat:∀ {H':Hp},(∀ b∈fp,H' b=none)→∀ b∈fp,FpOk X pins H' b:=fun hn b hb=>⟨hn b hb,(f2 b hb).2⟩
 refine codeAny_forLoop_any (fun n s'=>∃ i σ' H',Inv X pins σ' H' s'∧tn i s'.heap∧(∀ b∈fp,H' b=none)∧W i n σ' H') ?_ m0 ⟨0,σ,H2,I2,st2,fun b hb=>(f2 b hb).1,w0⟩
 rintro n s3 ⟨i,σ3,H3,I3,st3,fr3,w3⟩
 rcases turn i n σ3 H3 w3 with ⟨stop,qn⟩ | ⟨go,N,hN,step⟩
 ·refine wpAny_passesOwn hp (thn (T.done X rfl rfl rfl hc i pins s3 σ3 H3 X.xe I3 (stat fr3) st3 stop) fun r s4 ⟨hr,I4⟩=>?_)
  subst hr
  exact wpAny_execs_nil ⟨σ3,H3,I4,qn⟩
 ·refine wpAny_passesOwn hp (thn (T.item X rfl rfl rfl hc i pins s3 σ3 H3 X.xe I3 (stat fr3) st3 go) fun r s4 ⟨u,hr,h4⟩=>?_)
  subst hr
  refine wpAny_passesOwn hp (thn h4 fun _ s5 ⟨x,H5,I5,r5,y5,st5,fr5⟩=>?_)
  have I5':=I5.pinned (stat fr5) (T.obj _ _ st5)
  refine wpAny_passesOwn hp (thn (hg _ s5 σ3 H5 x u _ I5' r5 (step x H5 y5)) fun _ s6 ⟨σ6,H6,I6,q6⟩=>?_)
  refine wpAny_passesOwn hp (thn (hb _ s6 σ6 H6 _ I6 q6) fun f s7 q7=>?_)
  have again:∀ {σ7:St} {H7:Hp},Inv X (pins++pinsAt fp s5.heap) σ7 H7 s7→N σ7 H7→∃ m,m<n∧∃ i σ' H',Inv X pins σ' H' s7∧tn i s7.heap∧(∀ b∈fp,H' b=none)∧W i m σ' H':=fun {σ7 H7} I7 n7=>by
   obtain ⟨m',hm,w7⟩:=hN σ7 H7 n7
   refine ⟨m',hm,i+1,σ7,H7,I7.unpinned,T.keep _ _ _ st5 fun b hb o e=>(I7.pin (b,o) (List.mem_append_right _ (List.mem_append_right _ (mem_pinsAt hb e)))).1,fun b hb=>?_,w7⟩
   obtain ⟨o,e,d⟩:=T.obj _ _ st5 b hb
   exact (I7.pin (b,o) (List.mem_append_right _ (List.mem_append_right _ (mem_pinsAt hb e)))).2.1
  cases f with
  | next=>obtain ⟨σ7,H7,I7,n7⟩:=q7; exact again I7 n7
  | cont=>obtain ⟨σ7,H7,I7,n7⟩:=q7; exact again I7 n7
  | brk=>obtain ⟨σ7,H7,I7,q7⟩:=q7; exact ⟨σ7,H7,I7.unpinned,q7⟩
  | ret v=>obtain ⟨x7,σ7,H7,I7,r7,q7⟩:=q7; exact ⟨x7,σ7,H7,I7.unpinned,r7,q7⟩
end
theorem for_list {K:PySem.W.Frag} {a:Addr} {xs:List V} {g:TG} {tb:TS} {D:Ends} {σ:St} {H:Hp} (Pv:Nat→St→Hp→Prop) (h0:Pv 0 σ H) (hl:∀ i σ H,i≤xs.length→Pv i σ H→SqL K H a xs)
  (hs:∀ i x σ H,xs[i]?=some x→Pv i σ H→g x σ H fun σ2 H2=>tb { D with nx:=Pv (i+1),ct:=Pv (i+1),bk:=D.nx } σ2 H2) (hd:∀ σ H,Pv xs.length σ H→D.nx σ H) :
  ∃ W:Nat→Nat→St→Hp→Prop,(∃ m,W 0 m σ H)∧∀ i m σ H,W i m σ H →
   ((Itl K a).stop i H∧D.nx σ H)∨((Itl K a).go i H∧∃ N:St→Hp→Prop,(∀ σ' H',N σ' H'→∃ m',m'<m∧W (i+1) m' σ' H')∧∀ x H',(Itl K a).yld i H x H'→g x σ H' fun σ2 H2=>tb { D with nx:=N,ct:=N,bk:=D.nx } σ2 H2):=by
 refine ⟨fun i m σ H=>m=xs.length-i∧i≤xs.length∧Pv i σ H,⟨xs.length,by simp,Nat.zero_le _,h0⟩,?_⟩
 rintro i m σ H ⟨rfl,hi,p⟩
 have q:=hl i σ H hi p
 by_cases hlt:i<xs.length
 ·refine .inr ⟨⟨xs,xs[i],q,by simp [hlt]⟩,Pv (i+1),fun σ' H' p'=>⟨xs.length-(i+1),by omega,rfl,hlt,p'⟩,fun x H' y=>?_⟩
  obtain ⟨e,y⟩:=y
  subst e
  exact hs i x σ _ (y xs q) p
 ·have e:i=xs.length:=by omega
  subst e
  exact .inl ⟨⟨xs,q,Nat.le_refl _⟩,hd σ H p⟩
theorem for_range {lo:Int} {n:Nat} {g:TG} {tb:TS} {D:Ends} {σ:St} {H:Hp} (Pv:Nat→St→Hp→Prop) (h0:Pv 0 σ H)
  (hs:∀ i σ H,i<n→Pv i σ H→g (.int (lo+i)) σ H fun σ2 H2=>tb { D with nx:=Pv (i+1),ct:=Pv (i+1),bk:=D.nx } σ2 H2) (hd:∀ σ H,Pv n σ H→D.nx σ H) :
  ∃ W:Nat→Nat→St→Hp→Prop,(∃ m,W 0 m σ H)∧∀ i m σ H,W i m σ H →
   ((Itr lo n).stop i H∧D.nx σ H)∨((Itr lo n).go i H∧∃ N:St→Hp→Prop,(∀ σ' H',N σ' H'→∃ m',m'<m∧W (i+1) m' σ' H')∧∀ x H',(Itr lo n).yld i H x H'→g x σ H' fun σ2 H2=>tb { D with nx:=N,ct:=N,bk:=D.nx } σ2 H2):=by
 refine ⟨fun i m σ H=>m=n-i∧i≤n∧Pv i σ H,⟨n,by simp,Nat.zero_le _,h0⟩,?_⟩
 rintro i m σ H ⟨rfl,hi,p⟩
 by_cases hlt:i<n
 ·refine .inr ⟨hlt,Pv (i+1),fun σ' H' p'=>⟨n-(i+1),by omega,rfl,hlt,p'⟩,fun x H' y=>?_⟩
  obtain ⟨e,y⟩:=y
  subst e y
  exact hs i σ _ hlt p
 ·have e:i=n:=by omega
  subst e
  exact .inl ⟨Nat.le_refl _,hd σ H p⟩
theorem while_by {c:TT} {tb:TS} {D:Ends} {σ:St} {H:Hp} (Pv:St→Hp→Prop) (μ:St→Hp→Nat) (h0:Pv σ H)
  (hs:∀ σ H,Pv σ H→c σ H fun b H1=>if b=true then tb { D with nx:=fun σ' H'=>Pv σ' H'∧μ σ' H'<μ σ H,ct:=fun σ' H'=>Pv σ' H'∧μ σ' H'<μ σ H,bk:=D.nx } σ H1 else D.nx σ H1)
  (mono:∀ σ H Q Q',(∀ b H1,Q b H1→Q' b H1)→c σ H Q→c σ H Q'):tWhile c tb D σ H:=by
 refine ⟨fun m σ H=>m=μ σ H∧Pv σ H,⟨_,rfl,h0⟩,?_⟩
 rintro m σ H ⟨rfl,p⟩
 refine mono σ H _ _ (fun b H1 q=>?_) (hs σ H p)
 cases b with
 | true=>exact ⟨_,fun σ' H' ⟨p',l⟩=>⟨_,l,rfl,p'⟩,q⟩
 | false=>exact q
end L2
namespace L2
open PySem PySem.Spec PyProof.Rows
abbrev R2:=V→V→Hp→VK→Prop
def OpR (X:Cx) (f:Value→Value→Sem Value) (r:R2):Prop :=
 ∀ (pins:List (Addr×Obj)) (s:Shared) (σ:St) (H:Hp) (x y:V) (v u:Value) (Q:VK),Inv X pins σ H s→RelV x v→RelV y u→r x y H Q →
  wpAny (model X.prog X.w) X.A (f v u) (EP X pins σ Q) X.xe s
def UnR (X:Cx) (f:Value→Sem Value) (r:V→Hp→VK→Prop):Prop :=
 ∀ (pins:List (Addr×Obj)) (s:Shared) (σ:St) (H:Hp) (x:V) (v:Value) (Q:VK),Inv X pins σ H s→RelV x v→r x H Q →
  wpAny (model X.prog X.w) X.A (f v) (EP X pins σ Q) X.xe s
def CallR (X:Cx) (f:Value) (r:List V→Hp→VK→Prop):Prop :=
 ∀ (pins:List (Addr×Obj)) (s:Shared) (σ:St) (H:Hp) (xs:List V) (us:List Value) (Q:VK),Inv X pins σ H s→Vals xs us→r xs H Q →
  wpAny (model X.prog X.w) X.A (call f us) (EP X pins σ Q) X.xe s
def TruR (X:Cx) (r:V→Hp→(Bool→Hp→Prop)→Prop):Prop :=
 ∀ (pins:List (Addr×Obj)) (s:Shared) (σ:St) (H:Hp) (x:V) (v:Value) (Q:Bool→Hp→Prop),Inv X pins σ H s→RelV x v→r x H Q →
  wpAny (model X.prog X.w) X.A (truthy v) (TP X pins σ Q) X.xe s
def tOp (r:R2) (ta tb:TE):TE:=fun σ H Q=>ta σ H fun x H1=>tb σ H1 fun y H2=>r x y H2 Q
def tUn (r:V→Hp→VK→Prop) (ta:TE):TE:=fun σ H Q=>ta σ H fun x H1=>r x H1 Q
inductive rI (C:Int→Int→Prop) (g:Int→Int→V) (x:V) (y:V) (H:Hp) (Q:VK):Prop
 | mk:∀ i j,(x=.int i)→(y=.int j)→(C i j)→(Q (g i j) H)→rI C g x y H Q
inductive rI0 (g:Int→Int→V) (x:V) (y:V) (H:Hp) (Q:VK):Prop
 | mk:∀ i j,(x=.int i)→(y=.int j)→(Q (g i j) H)→rI0 g x y H Q
inductive rU (g:Int→V) (x:V) (H:Hp) (Q:VK):Prop
 | mk:∀ i,(x=.int i)→(Q (g i) H)→rU g x H Q
section
variable {X:Cx} {a b c:Expr} {ta tb tc:TE} {pos:Pos}
theorem binT (ha:PE X a ta) (hb:PE X b tb) {pins:List (Addr×Obj)} {s:Shared} {σ:St} {H:Hp} {R:V→V→Hp→Prop} (I:Inv X pins σ H s)
  (h:ta σ H fun x H1=>tb σ H1 fun y H2=>R x y H2) {Q:Value→Shared→Prop} {f:Value→Value→Sem Value}
  (hf:∀ v u s2 x y H2,Inv X pins σ H2 s2→RelV x v→RelV y u→R x y H2→wpAny (model X.prog X.w) X.A (f v u) Q X.xe s2) :
  wpAny (model X.prog X.w) X.A (eval a X.env) (fun v s₁=>wpAny (model X.prog X.w) X.A (eval b X.env) (fun u s₂=>wpAny (model X.prog X.w) X.A (f v u) Q X.xe s₂) X.xe s₁) X.xe s:=by
 refine thn (ha pins s σ H _ I h) fun v s1 ⟨x,H1,I1,r1,q1⟩=>?_
 refine thn (hb pins s1 σ H1 _ I1 q1) fun u s2 ⟨y,H2,I2,r2,q2⟩=>?_
 exact hf v u s2 x y H2 I2 r1 r2 q2
theorem pe_op {op:Operator} {r:R2} (ho:OpR X (binaryOp op) r) (ha:PE X a ta) (hb:PE X b tb):PE X (.BinOp a op b pos) (tOp r ta tb):=by
 intro pins s σ H Q I h
 exact wpAny_BinOp (binT ha hb I h fun v u s2 x y H2 I2 rx ry q=>ho pins s2 σ H2 x y v u Q I2 rx ry q)
theorem pe_un {op:UnaryOp} {r:V→Hp→VK→Prop} (ho:UnR X (unaryOp op) r) (ha:PE X a ta):PE X (.UnaryOp op a pos) (tUn r ta):=by
 intro pins s σ H Q I h
 exact UnaryOp_ (thn (ha pins s σ H _ I h) fun v s1 ⟨x,H1,I1,r1,q1⟩=>ho pins s1 σ H1 x v Q I1 r1 q1)
theorem opI {f:Value→Value→Sem Value} {C:Int→Int→Prop} {g:Int→Int→Int}
  (rule:∀ (i j:Int) (t u:Tok) (s:Shared) (Q:Value→Shared→Prop) (E:Value→Shared→Prop),C i j→Q (.int (g i j) s.toks) { s with toks:=s.toks+1 }→wpAny (model X.prog X.w) X.A (f (.int i t) (.int j u)) Q E s) :
  OpR X f (rI C fun i j=>.int (g i j)):=by
 intro pins s σ H x y v u Q I rx ry h
 obtain ⟨i,j,rfl,rfl,hc,q⟩:=h
 obtain ⟨t,rfl⟩:=rx
 obtain ⟨t',rfl⟩:=ry
 exact rule i j t t' s _ _ hc ⟨.int (g i j),H,I.tok _,⟨_,rfl⟩,q⟩
theorem opI0 {f:Value→Value→Sem Value} {g:Int→Int→Int}
  (rule:∀ (i j:Int) (t u:Tok) (s:Shared) (Q:Value→Shared→Prop) (E:Value→Shared→Prop),Q (.int (g i j) s.toks) { s with toks:=s.toks+1 }→wpAny (model X.prog X.w) X.A (f (.int i t) (.int j u)) Q E s) :
  OpR X f (rI0 fun i j=>.int (g i j)):=by
 intro pins s σ H x y v u Q I rx ry h
 obtain ⟨i,j,rfl,rfl,q⟩:=h
 obtain ⟨t,rfl⟩:=rx
 obtain ⟨t',rfl⟩:=ry
 exact rule i j t t' s _ _ ⟨.int (g i j),H,I.tok _,⟨_,rfl⟩,q⟩
theorem opB0 {f:Value→Value→Sem Value} {g:Int→Int→Bool}
  (rule:∀ (i j:Int) (t u:Tok) (s:Shared) (Q:Value→Shared→Prop) (E:Value→Shared→Prop),Q (.bool (g i j)) s→wpAny (model X.prog X.w) X.A (f (.int i t) (.int j u)) Q E s) :
  OpR X f (rI0 fun i j=>.bl (g i j)):=by
 intro pins s σ H x y v u Q I rx ry h
 obtain ⟨i,j,rfl,rfl,q⟩:=h
 obtain ⟨t,rfl⟩:=rx
 obtain ⟨t',rfl⟩:=ry
 exact rule i j t t' s _ _ ⟨.bl (g i j),H,I,rfl,q⟩
def CDiv (i j:Int):Prop:=0<j∧j<1073741824
def CMul (i j:Int):Prop:=(-(2^64)<i∧i<2^64)∨(-(2^64)<j∧j<2^64)
theorem CMul.ok {i j:Int} (h:CMul i j):IntMulOk i j:=by
 rcases h with ⟨h1,h2⟩ | ⟨h1,h2⟩
 ·exact .of_left (intBits_le_64 h1 h2)
 ·exact .of_right (intBits_le_64 h1 h2)
theorem op_add:OpR X (binaryOp .Add) (rI0 fun i j=>.int (i+j)):=opI0 fun _ _ _ _ _ _ _ q=>add_int q
theorem op_sub:OpR X (binaryOp .Sub) (rI0 fun i j=>.int (i-j)):=opI0 fun _ _ _ _ _ _ _ q=>sub_int q
theorem op_mul:OpR X (binaryOp .Mult) (rI CMul fun i j=>.int (i*j)):=opI fun _ _ _ _ _ _ _ hc q=>mul_int q hc.ok
theorem op_fdiv:OpR X (binaryOp .FloorDiv) (rI CDiv fun i j=>.int (i/j)):=opI fun i j _ _ _ _ _ hc q=>by
 have h1:(0:Int)<j:=hc.1
 have h2:j<1073741824:=hc.2
 exact floordiv_int (by omega) (by rw [Int.fdiv_eq_ediv_of_nonneg i (by omega)]; exact q) (.inl (PyProof.noPylong_small (by omega)))
theorem op_mod:OpR X (binaryOp .Mod) (rI (fun _ j=>0<j) fun i j=>.int (i%j)):=opI fun i j _ _ _ _ _ hc q=>by
 have h1:(0:Int)<j:=hc
 exact mod_int' (by omega) (by rw [Int.fmod_eq_emod_of_nonneg i (by omega)]; exact q)
theorem unI {f:Value→Sem Value} {g:Int→Int}
  (rule:∀ (i:Int) (t:Tok) (s:Shared) (Q:Value→Shared→Prop) (E:Value→Shared→Prop),Q (.int (g i) s.toks) { s with toks:=s.toks+1 }→wpAny (model X.prog X.w) X.A (f (.int i t)) Q E s) :
  UnR X f (rU fun i=>.int (g i)):=by
 intro pins s σ H x v Q I rx h
 obtain ⟨i,rfl,q⟩:=h
 obtain ⟨t,rfl⟩:=rx
 exact rule i t s _ _ ⟨.int (g i),H,I.tok _,⟨_,rfl⟩,q⟩
theorem un_neg:UnR X (unaryOp .USub) (rU fun i=>.int (-i)):=unI fun _ _ _ _ _ q=>neg_int q
end
def scal:V→V→Bool
 | .non,.non=>true | .non,.int _=>true | .int _,.non=>true | .non,.bl _=>true | .bl _,.non=>true | .non,.str _=>true | .str _,.non=>true
 | .int _,.int _=>true | .bl _,.bl _=>true | .str _,.str _=>true | .byt _,.byt _=>true
 | .int _,.str _=>true | .str _,.int _=>true | .bl _,.str _=>true | .str _,.bl _=>true
 | _,_=>false
def rEq:R2:=fun x y H Q=>scal x y=true∧Q (.bl (decide (x=y))) H
def rNe:R2:=fun x y H Q=>scal x y=true∧Q (.bl (!decide (x=y))) H
theorem dec_int {i j:Int}:decide (V.int i=V.int j)=(i==j):=by
 rw [Bool.eq_iff_iff]
 simp
theorem dec_bl {i j:Bool}:decide (V.bl i=V.bl j)=(i==j):=by
 rw [Bool.eq_iff_iff]
 simp
theorem dec_str {i j:Str}:decide (V.str i=V.str j)=(i==j):=by
 rw [Bool.eq_iff_iff]
 simp
theorem dec_byt {i j:Array UInt8}:decide (V.byt i=V.byt j)=(i.toList==j.toList):=by
 rw [Bool.eq_iff_iff]
 cases i
 cases j
 simp
section
variable {X:Cx} {a b c:Expr} {ta tb tc:TE} {pos:Pos}
theorem fin_bl {pins:List (Addr×Obj)} {σ:St} {H:Hp} {s:Shared} {Q:VK} {k k':Bool} (I:Inv X pins σ H s) (q:Q (.bl k) H) (e:k=k'):EP X pins σ Q (.bool k') s:=by
 subst e
 exact ⟨.bl k,H,I,rfl,q⟩
theorem op_eq:OpR X (compareOp .Eq) rEq:=by
 intro pins s σ H x y v u Q I rx ry h
 obtain ⟨hs,q⟩:=h
 cases x with
 | non =>
  cases rx
  cases y with
  | non=>cases ry; exact PySem.EqNone.eq_none_none (fin_bl I q (by simp))
  | bl j=>cases ry; exact PySem.EqNone.eq_none_bool (fin_bl I q (by simp))
  | int j=>obtain ⟨t',rfl⟩:=ry; exact PySem.EqNone.eq_none_int (fin_bl I q (by simp))
  | str j=>obtain ⟨t',rfl⟩:=ry; exact PySem.EqNone.eq_none_str (fin_bl I q (by simp))
  | _=>exact absurd (show false=true from hs) Bool.false_ne_true
 | bl i =>
  cases rx
  cases y with
  | non=>cases ry; exact PySem.EqNone.eq_bool_none (fin_bl I q (by simp))
  | bl j=>cases ry; exact eq_bool (fin_bl I q dec_bl)
  | str j=>obtain ⟨t',rfl⟩:=ry; exact PySem.EqMixed.eq_bool_str (fin_bl I q (by simp))
  | _=>exact absurd (show false=true from hs) Bool.false_ne_true
 | int i =>
  obtain ⟨t,rfl⟩:=rx
  cases y with
  | non=>cases ry; exact PySem.EqNone.eq_int_none (fin_bl I q (by simp))
  | int j=>obtain ⟨t',rfl⟩:=ry; exact eq_int (fin_bl I q dec_int)
  | str j=>obtain ⟨t',rfl⟩:=ry; exact PySem.EqMixed.eq_int_str (fin_bl I q (by simp))
  | _=>exact absurd (show false=true from hs) Bool.false_ne_true
 | str i =>
  obtain ⟨t,rfl⟩:=rx
  cases y with
  | non=>cases ry; exact PySem.EqNone.eq_str_none (fin_bl I q (by simp))
  | bl j=>cases ry; exact PySem.EqMixed.eq_str_bool (fin_bl I q (by simp))
  | int j=>obtain ⟨t',rfl⟩:=ry; exact PySem.EqMixed.eq_str_int (fin_bl I q (by simp))
  | str j=>obtain ⟨t',rfl⟩:=ry; exact eq_str (fin_bl I q dec_str)
  | _=>exact absurd (show false=true from hs) Bool.false_ne_true
 | byt i =>
  obtain ⟨t,rfl⟩:=rx
  cases y with
  | byt j=>obtain ⟨t',rfl⟩:=ry; exact PySem.W.eq_bytes (fin_bl I q dec_byt)
  | _=>exact absurd (show false=true from hs) Bool.false_ne_true
 | _=>cases y<;>exact absurd (show false=true from hs) Bool.false_ne_true
theorem op_ne:OpR X (compareOp .NotEq) rNe:=by
 intro pins s σ H x y v u Q I rx ry h
 obtain ⟨hs,q⟩:=h
 cases x with
 | non =>
  cases rx
  cases y with
  | non=>cases ry; exact PySem.EqNone.ne_none_none (fin_bl I q (by simp))
  | bl j=>cases ry; exact PySem.EqNone.ne_none_bool (fin_bl I q (by simp))
  | int j=>obtain ⟨t',rfl⟩:=ry; exact PySem.EqNone.ne_none_int (fin_bl I q (by simp))
  | str j=>obtain ⟨t',rfl⟩:=ry; exact PySem.EqNone.ne_none_str (fin_bl I q (by simp))
  | _=>exact absurd (show false=true from hs) Bool.false_ne_true
 | bl i =>
  cases rx
  cases y with
  | non=>cases ry; exact PySem.EqNone.ne_bool_none (fin_bl I q (by simp))
  | bl j=>cases ry; exact ne_bool (fin_bl I q (congrArg not dec_bl))
  | str j=>obtain ⟨t',rfl⟩:=ry; exact PySem.EqMixed.ne_bool_str (fin_bl I q (by simp))
  | _=>exact absurd (show false=true from hs) Bool.false_ne_true
 | int i =>
  obtain ⟨t,rfl⟩:=rx
  cases y with
  | non=>cases ry; exact PySem.EqNone.ne_int_none (fin_bl I q (by simp))
  | int j=>obtain ⟨t',rfl⟩:=ry; exact ne_int (fin_bl I q (congrArg not dec_int))
  | str j=>obtain ⟨t',rfl⟩:=ry; exact PySem.EqMixed.ne_int_str (fin_bl I q (by simp))
  | _=>exact absurd (show false=true from hs) Bool.false_ne_true
 | str i =>
  obtain ⟨t,rfl⟩:=rx
  cases y with
  | non=>cases ry; exact PySem.EqNone.ne_str_none (fin_bl I q (by simp))
  | bl j=>cases ry; exact PySem.EqMixed.ne_str_bool (fin_bl I q (by simp))
  | int j=>obtain ⟨t',rfl⟩:=ry; exact PySem.EqMixed.ne_str_int (fin_bl I q (by simp))
  | str j=>obtain ⟨t',rfl⟩:=ry; exact ne_str (fin_bl I q (congrArg not dec_str))
  | _=>exact absurd (show false=true from hs) Bool.false_ne_true
 | byt i =>
  obtain ⟨t,rfl⟩:=rx
  cases y with
  | byt j=>obtain ⟨t',rfl⟩:=ry; exact PySem.W.ne_bytes (fin_bl I q (congrArg not dec_byt))
  | _=>exact absurd (show false=true from hs) Bool.false_ne_true
 | _=>cases y<;>exact absurd (show false=true from hs) Bool.false_ne_true
theorem op_lt:OpR X (compareOp .Lt) (rI0 fun i j=>.bl (decide (i<j))):=opB0 fun _ _ _ _ _ _ _ q=>lt_int q
theorem op_le:OpR X (compareOp .LtE) (rI0 fun i j=>.bl (decide (i≤j))):=opB0 fun _ _ _ _ _ _ _ q=>le_int q
theorem op_gt:OpR X (compareOp .Gt) (rI0 fun i j=>.bl (decide (j<i))):=opB0 fun _ _ _ _ _ _ _ q=>gt_int q
theorem op_ge:OpR X (compareOp .GtE) (rI0 fun i j=>.bl (decide (j≤i))):=opB0 fun _ _ _ _ _ _ _ q=>ge_int q
theorem nomark (b:Expr) {op:CmpOp} (h:op≠.In:=by decide) (h2:op≠.NotIn:=by decide):behindInMarks op b=false:=by
 have e1:(op==CmpOp.In)=false:=by cases op<;>first | rfl | exact absurd rfl h
 have e2:(op==CmpOp.NotIn)=false:=by cases op<;>first | rfl | exact absurd rfl h2
 cases b<;>simp [behindInMarks,e1,e2]
theorem pe_cmpR {op:CmpOp} {r:R2} (ho:OpR X (compareOp op) r) (ha:PE X a ta) (hb:PE X b tb) (hm:behindInMarks op b=false):PE X (.Compare a [op] [b] pos) (tOp r ta tb):=by
 intro pins s σ H Q I h
 exact wpAny_Compare1 (binT ha hb I h fun v u s2 x y H2 I2 rx ry q=>ho pins s2 σ H2 x y v u Q I2 rx ry q) hm
def tTest (t:TE):TT:=fun σ H Q=>t σ H (IsB Q)
theorem pt_cmpR {op:CmpOp} {r:R2} (ho:OpR X (compareOp op) r) (ha:PE X a ta) (hb:PE X b tb) (hm:behindInMarks op b=false):PT X (.Compare a [op] [b] pos) (tTest (tOp r ta tb)):=by
 intro pins s σ H Q I h
 refine wpAny_isTrue_Compare1 (thn (ha pins s σ H _ I h) fun v s1 ⟨x,H1,I1,r1,q1⟩=>thn (hb pins s1 σ H1 _ I1 q1) fun u s2 ⟨y,H2,I2,r2,q2⟩ =>
  thn (ho pins s2 σ H2 x y v u _ I2 r1 r2 q2) fun c s3 ⟨z,H3,I3,r3,k,e,q3⟩=>?_) hm
 subst e
 cases r3
 exact wpAny_truthy_bool ⟨H3,I3,q3⟩
def tChain (r r':R2) (ta tb tc:TE):TE:=fun σ H Q=>ta σ H fun x H1=>tb σ H1 fun y H2=>r x y H2 fun z H3=>∃ k,z=.bl k ∧
 (if k=true then tc σ H3 fun w' H4=>r' y w' H4 Q else Q (.bl false) H3)
theorem pe_chain {op op':CmpOp} {r r':R2} (ho:OpR X (compareOp op) r) (ho':OpR X (compareOp op') r') (ha:PE X a ta) (hb:PE X b tb) (hc:PE X c tc)
  (hm:lastMarks [op,op'] [b,c]=false:=by with_unfolding_all rfl):PE X (.Compare a [op,op'] [b,c] pos) (tChain r r' ta tb tc):=by
 intro pins s σ H Q I h
 refine Compare_chain (thn (ha pins s σ H _ I h) fun v s1 ⟨x,H1,I1,r1,q1⟩=>chain_link (thn (hb pins s1 σ H1 _ I1 q1) fun u s2 ⟨y,H2,I2,r2,q2⟩ =>
  thn (ho pins s2 σ H2 x y v u _ I2 r1 r2 q2) fun d s3 ⟨z,H3,I3,r3,k,e,q3⟩=>?_)) hm
 subst e
 cases r3
 refine wpAny_truthy_bool ?_
 cases k with
 | false=>exact ite_ff ⟨.bl false,H3,I3,rfl,q3⟩
 | true=>exact ite_tt (chain_last (thn (hc pins s3 σ H3 _ I3 q3) fun w' s4 ⟨z',H4,I4,r4,q4⟩=>ho' pins s4 σ H4 y z' u w' Q I4 r2 r4 q4))
theorem pt_chain {op op':CmpOp} {r r':R2} (ho:OpR X (compareOp op) r) (ho':OpR X (compareOp op') r') (ha:PE X a ta) (hb:PE X b tb) (hc:PE X c tc)
  (hm:lastMarks [op,op'] [b,c]=false:=by with_unfolding_all rfl):PT X (.Compare a [op,op'] [b,c] pos) (tTest (tChain r r' ta tb tc)):=by
 intro pins s σ H Q I h
 refine isTrue_chain (thn (ha pins s σ H _ I h) fun v s1 ⟨x,H1,I1,r1,q1⟩=>test_link (thn (hb pins s1 σ H1 _ I1 q1) fun u s2 ⟨y,H2,I2,r2,q2⟩ =>
  thn (ho pins s2 σ H2 x y v u _ I2 r1 r2 q2) fun d s3 ⟨z,H3,I3,r3,k,e,q3⟩=>?_)) hm
 subst e
 cases r3
 refine wpAny_truthy_bool ?_
 cases k with
 | false =>
  obtain ⟨k',e',q'⟩:=q3
  cases e'
  exact ite_ff ⟨H3,I3,q'⟩
 | true =>
  refine ite_tt (test_last (thn (hc pins s3 σ H3 _ I3 q3) fun w' s4 ⟨z',H4,I4,r4,q4⟩=>thn (ho' pins s4 σ H4 y z' u w' _ I4 r2 r4 q4) fun d' s5 ⟨z2,H5,I5,r5,k2,e2,q5⟩=>?_))
  subst e2
  cases r5
  exact wpAny_truthy_bool ⟨H5,I5,q5⟩
def TruV (K:PySem.W.Frag) (x:V) (H:Hp) (k:Bool):Prop :=
 match x with
 | .non=>k=false
 | .bl b=>k=b
 | .int i=>k=(i != 0)
 | .str y=>y.length≤sizeLine∧k=((y.length:Int) != 0)
 | .byt y=>y.size≤sizeLine∧k=((y.size:Int) != 0)
 | .ref p=>(∃ xs,SqL K H p xs∧k=!xs.isEmpty)∨(∃ xs,SqT K H p xs∧k=!xs.isEmpty)∨∃ kvs,H p=some (.dK kvs)∧k=!kvs.isEmpty
 | _=>False
theorem isEmpty_kv {κ:Type} {kvs:List (κ×V)} {vs:List (κ×Value)} (r:KV kvs vs):(!vs.isEmpty)=!kvs.isEmpty:=by
 cases r<;>rfl
theorem isEmpty_of {xs:List V} {its:List Value} (r:Vals xs its):(!its.toArray.isEmpty)=!xs.isEmpty:=by
 cases r<;>simp
theorem line63:(sizeLine:Nat)<2^63:=by rw [sizeLine_eq]; decide
theorem tru_ok:TruR X (fun x H Q=>∃ k,TruV X.K x H k∧Q k H):=by
 intro pins s σ H x v Q I rx h
 obtain ⟨k,e,q⟩:=h
 have hl:=line63
 have hs:sizeLine=16777216:=sizeLine_eq
 cases x with
 | non =>
  cases rx
  have e':k=false:=e
  subst e'
  exact truthy_none ⟨H,I,q⟩
 | bl b =>
  cases rx
  have e':k=b:=e
  subst e'
  exact wpAny_truthy_bool ⟨H,I,q⟩
 | int i =>
  obtain ⟨t,rfl⟩:=rx
  have e':k=(i != 0):=e
  subst e'
  exact PySem.P.truthy_int ⟨H,I,q⟩
 | str y =>
  obtain ⟨t,rfl⟩:=rx
  obtain ⟨hy,e'⟩:y.length≤sizeLine∧k=((y.length:Int) != 0):=e
  subst e'
  exact PySem.P.truthy_str (by omega) ⟨H,I.tok _,q⟩
 | byt y =>
  obtain ⟨t,rfl⟩:=rx
  obtain ⟨hy,e'⟩:y.size≤sizeLine∧k=((y.size:Int) != 0):=e
  subst e'
  exact PySem.W.truthy_bytes (by omega) ⟨H,I.tok _,q⟩
 | ref p =>
  cases rx
  have e':(∃ xs,SqL X.K H p xs∧k=!xs.isEmpty)∨(∃ xs,SqT X.K H p xs∧k=!xs.isEmpty)∨∃ kvs,H p=some (.dK kvs)∧k=!kvs.isEmpty:=e
  rcases e' with ⟨xs,hx,e'⟩ | ⟨xs,hx,e'⟩ | ⟨kvs,hx,e'⟩
  ·subst e'
   obtain ⟨its,r,pl,hz⟩:=I.list hx
   have hlen:=r.length
   exact wpAny_truthy_list pl.isList (by simp only [List.size_toArray]; omega) ⟨H,I.tok _,by rw [isEmpty_of r]; exact q⟩
  ·subst e'
   obtain ⟨its,r,pl,hz⟩:=I.tuple hx
   have hlen:=r.length
   exact truthy_tuple pl (by simp only [List.size_toArray]; omega) ⟨H,I.tok _,by rw [isEmpty_of r]; exact q⟩
  ·subst e'
   obtain ⟨hz,hS,vs,r,m⟩:kvs.length≤sizeLine∧(p==sysModules)=false∧∃ vs,KV kvs vs∧s.heap.DictOf (mixKind X.prog X.w) p vs:=I.hok p _ hx
   have hlen:kvs.length=vs.length:=Paired.length r
   exact wpAny_truthy_dict hS m (by omega) ⟨H,I.tok _,by rw [isEmpty_kv r]; exact q⟩
 | _=>exact (show False from e).elim
theorem pt_truth (ha:PE X a ta) (he:∀ whole,isTrue a X.env whole=(do let v ← whole; standAt a.pos; holding [v] (truthy v))) :
  PT X a (fun σ H Q=>ta σ H fun x H'=>∃ k,TruV X.K x H' k∧Q k H'):=by
 intro pins s σ H Q I h
 exact isTrue_plain (thn (ha pins s σ H _ I h) fun v s1 ⟨x,H1,I1,r1,q1⟩=>tru_ok pins s1 σ H1 x v Q I1 r1 q1) (he _)
theorem vals1 {x:V} {us:List Value} (r:Vals [x] us):∃ u,us=[u]∧RelV x u:=by
 cases r with
 | cons r1 r2=>cases r2; exact ⟨_,rfl,r1⟩
theorem vals2 {x y:V} {us:List Value} (r:Vals [x,y] us):∃ u w',us=[u,w']∧RelV x u∧RelV y w':=by
 cases r with
 | cons r1 r2 =>
  cases r2 with
  | cons r3 r4=>cases r4; exact ⟨_,_,rfl,r1,r3⟩
theorem call_abs:CallR X (.builtin "abs") (fun xs H Q=>∃ i,xs=[.int i]∧Q (.int (if i<0 then -i else i)) H):=by
 intro pins s σ H xs us Q I r h
 obtain ⟨i,rfl,q⟩:=h
 obtain ⟨u,rfl,t,rfl⟩:=vals1 r
 exact call_abs_int fun u tk=>⟨.int (if i<0 then -i else i),H,I.tok _,⟨_,rfl⟩,q⟩
theorem call_min2 (hc:X.calm=true):CallR X (.builtin "min") (fun xs H Q=>∃ i j,xs=[.int i,.int j]∧Q (.int (if j<i then j else i)) H):=by
 intro pins s σ H xs us Q I r h
 obtain ⟨i,j,rfl,q⟩:=h
 obtain ⟨u,w',rfl,⟨t,rfl⟩,⟨t',rfl⟩⟩:=vals2 r
 refine min_two_ints (I.ok.hd hc) fun h' tk k=>⟨_,H,I.kept k,?_,q⟩
 by_cases hj:j<i
 ·rw [if_pos hj,if_pos hj]; exact ⟨_,rfl⟩
 ·rw [if_neg hj,if_neg hj]; exact ⟨_,rfl⟩
end
end L2
namespace L2
open PySem PySem.Spec PyProof.Rows
structure ObjM (h:Heap) (x dx C:Addr) (mA:Str→Option Value):Prop where
 obj:h.get? x=some (PySem.W.instObj C dx)
 ns:h.Ns1 dx mA
 ne:dx≠x
theorem lookIn_ns {h:Heap} {dx:Addr} {mA:Str→Option Value} (n:h.Ns1 dx mA):∃ od,h.get? dx=some od∧∀ name,PySem.W.lookIn name od=some (mA name):=by
 obtain ⟨o,es,ep,ho,hd,hk,_,hm⟩:=n
 refine ⟨o,ho,fun name=>?_⟩
 have e:=hm name
 unfold nsFind findBy at e
 rw [← Array.find?_toList] at e
 unfold PySem.W.lookIn
 rw [hd]
 try dsimp only
 split
 ·rename_i y q
  rw [q] at e
  exact congrArg some e
 ·rename_i q
  rw [q] at e
  have a:es.toList.any (·.refKey)=false:=by
   rw [List.any_eq_false]
   intro y hy
   obtain ⟨z,t,hkey⟩:=hk y (Array.mem_toList_iff.mp hy)
   simp [DictEntry.refKey,hkey]
  have a':¬ es.toList.any (·.refKey)=true:=by rw [a]; exact Bool.false_ne_true
  rw [if_neg a']
  exact congrArg some e
theorem ObjM.look {h:Heap} {x dx C:Addr} {mA:Str→Option Value} (I:ObjM h x dx C mA):∃ od,PySem.W.InstAt h x (PySem.W.instObj C dx) C (some od)∧∀ name,PySem.W.lookIn name od=some (mA name) :=
 let ⟨od,ho,hl⟩:=lookIn_ns I.ns
 ⟨od,⟨I.obj,rfl,rfl,ho⟩,hl⟩
section
variable {prog:Program} {w:World} {A:Around} {E:Value→Shared→Prop} {s:Shared} {K:PySem.W.Frag} {x dx C f:Addr} {mA:Str→Option Value} {name:Str} {v:Value}
theorem get_map {expr:Bool} {Q:Value→Shared→Prop} (X:K.In s.heap) (I:ObjM s.heap x dx C mA) (hg:PySem.W.plainGet K C name=true) (hh:PySem.W.hasDictIn K C=true)
  (ha:PySem.W.findIn K (.ref C) name=some none) (hv:mA name=some v) (hv':PySem.W.handedIn v=true) (h:Q v { s with toks:=s.toks+1 }) :
  wpAny (model prog w) A (getAttr (.ref x) name expr) Q E s:=by
 obtain ⟨od,J,hl⟩:=I.look
 exact PySem.W.get_value X J (PySem.W.plainGet_of hg).1 (PySem.W.findObj_own hh ha rfl (by rw [hl,hv])) hv' h
theorem set_map {ns:List Str} {Q:Unit→Shared→Prop} (X:K.In s.heap) (I:ObjM s.heap x dx C mA)
  (hs:PySem.W.findIn K (.ref C) "__setattr__" = some (some (.builtin "object.__setattr__"))) (hp:PySem.W.plainOver K C=true) (ht:PySem.W.takerIn K C name=some none) (hh:PySem.W.hasDictIn K C=true)
  (hw:PySem.Within mA ns) (hsz:ns.length≤sizeLine)
  (h:∀ h',ObjM h' x dx C (fun y=>if y=name then some v else mA y)→Heap.SameBut dx s.heap h'→Q () { s with heap:=h',toks:=s.toks+2 }) :
  wpAny (model prog w) A (setAttr (.ref x) name v) Q E s:=by
 obtain ⟨od,J,hl⟩:=I.look
 refine PySem.W.set_plain X J hs (PySem.W.osa_open (s:={ s with toks:=s.toks+1 }) (r:=none) X J hp ht fun b=>?_)
 obtain ⟨cd,hc,hd'⟩:=PySem.W.any_some hh
 have hx:s.heap.get? x=some ⟨.ref C,some dx,.plain,#[]⟩:=I.obj
 refine wpAny_bind (wpAny_pure (wpAny_bind (wpAny_bind (wpAny_loadPart hx (wpAny_bind (PySem.W.Looks.here (s:={ s with toks:=s.toks+1 }) (PySem.W.looks_clsIn X hc) ?_))))))
 rw [hd']
 refine wpAny_pure (a:=some dx) (wpAny_bind (wpAny_pure (wpAny_bind ?_)))
 refine wpAny_nsSet1 (s:={ s with toks:=s.toks+1 }) I.ns fun h' hn2 hs2=>?_
 obtain ⟨oD,esD,epD,hoD,hdD,hcD⟩:=hn2.count (PySem.Within.cons name v hw)
 refine wpAny_bind (wpAny_lookBehind hoD (by rw [hdD]; exact pastItsLine_dict (Nat.le_trans hcD (by rw [List.length_cons]; omega))) ?_)
 exact wpAny_pure (h _ ⟨(hs2.2 _ (Ne.symm I.ne)).trans I.obj,hn2,I.ne⟩ hs2)
theorem make_map {R:Result→Shared→Prop} {vs:List Value} {kw:List (Str×Value)} (X:K.In s.heap) (hm:PySem.W.makesIn K C=true)
  (hi:PySem.W.findIn K (.ref C) "__init__" = some (some (.ref f))) (hf:PySem.W.typeIn K (.ref f)=some (.type "function"))
  (h:codeAny (model prog w) (A.under (.builtin "type.__call__" ⟨.ref C::vs,kw⟩)) (.call (.ref f) ⟨.ref (s.heap.objs.size+1)::vs,kw⟩) (PySem.W.InitBack (s.heap.objs.size+1) R)
   { s with heap:=(s.heap.push PySem.W.emptyDict).push (PySem.W.instObj C s.heap.objs.size) }) :
  codeAny (model prog w) A (.call (.ref C) ⟨vs,kw⟩) R s:=by
 obtain ⟨hh,g,d,t,os⟩:=s
 exact PySem.W.make_core (PySem.W.makes_of X hm) (PySem.W.looks_findIn X hi) (fun self=>PySem.W.bind_fn X self hf) (.inl rfl) h
end
def putF (f:Str) (v:V):List (Str×V)→List (Str×V)
 | []=>[(f,v)]
 | (g,x)::r=>if g=f then (g,v)::r else (g,x)::putF f v r
theorem lookup_putF (f g:Str) (v:V):∀ fs:List (Str×V),(putF f v fs).lookup g=if g=f then some v else fs.lookup g
 | []=>by
  show List.lookup g [(f,v)]=_
  by_cases h:g=f
  ·have hb:(g==f)=true:=beq_iff_eq.mpr h
   simp only [List.lookup,hb,if_pos h]
  ·have hb:(g==f)=false:=beq_eq_false_iff_ne.mpr h
   simp only [List.lookup,hb,if_neg h]
 | (k,x)::r=>by
  have ih:=lookup_putF f g v r
  rw [show putF f v ((k,x)::r)=(if k=f then (k,v)::r else (k,x)::putF f v r) from rfl]
  by_cases hk:k=f
  ·rw [if_pos hk]
   by_cases h:g=k
   ·have hb:(g==k)=true:=beq_iff_eq.mpr h
    simp only [List.lookup,hb,if_pos (h.trans hk)]
   ·have hb:(g==k)=false:=beq_eq_false_iff_ne.mpr h
    simp only [List.lookup,hb,if_neg (fun e:g=f=>h (e.trans hk.symm))]
  ·rw [if_neg hk]
   by_cases h:g=k
   ·have hb:(g==k)=true:=beq_iff_eq.mpr h
    simp only [List.lookup,hb,if_neg (fun e:g=f=>hk (h.symm.trans e))]
   ·have hb:(g==k)=false:=beq_eq_false_iff_ne.mpr h
    simp only [List.lookup,hb]
    exact ih
theorem keys_putF (f:Str) (v:V):∀ fs:List (Str×V),f∈(putF f v fs).map (·.1)∧∀ g,g∈fs.map (·.1)→g∈(putF f v fs).map (·.1)
 | []=>⟨by simp [putF],fun g h=>by simp at h⟩
 | (k,x)::r=>by
  obtain ⟨i1,i2⟩:=keys_putF f v r
  rw [show putF f v ((k,x)::r)=(if k=f then (k,v)::r else (k,x)::putF f v r) from rfl]
  by_cases hk:k=f
  ·rw [if_pos hk]
   subst hk
   exact ⟨by simp,fun g h=>by simpa using h⟩
  ·rw [if_neg hk]
   refine ⟨?_,fun g h=>?_⟩
   ·rw [List.map_cons]
    exact List.mem_cons_of_mem _ i1
   ·rw [List.map_cons] at h ⊢
    rcases List.mem_cons.mp h with e | e
    ·exact List.mem_cons.mpr (.inl e)
    ·exact List.mem_cons_of_mem _ (i2 g e)
theorem length_putF (f:Str) (v:V):∀ fs:List (Str×V),(putF f v fs).length≤fs.length+1
 | []=>by simp [putF]
 | (k,x)::r=>by
  have ih:=length_putF f v r
  rw [show putF f v ((k,x)::r)=(if k=f then (k,v)::r else (k,x)::putF f v r) from rfl]
  by_cases hk:k=f
  ·rw [if_pos hk,List.length_cons,List.length_cons]; omega
  ·rw [if_neg hk,List.length_cons,List.length_cons]; omega
theorem RelO.some_of {v:V} {o:Option Value} (r:RelO (some v) o):∃ u,o=some u∧RelV v u:=by
 cases o with
 | none=>exact (show False from r).elim
 | some u=>exact ⟨u,rfl,r⟩
theorem handed_of {v:V} {u:Value} (r:RelV v u):PySem.W.handedIn u=true:=by
 cases v with
 | non=>cases (show u=Value.none from r); rfl
 | bl b=>cases (show u=Value.bool b from r); rfl
 | int i=>obtain ⟨t,e⟩:=(show ∃ t,u=Value.int i t from r); cases e; rfl
 | str x=>obtain ⟨t,e⟩:=(show ∃ t,u=Value.str x t from r); cases e; rfl
 | byt b=>obtain ⟨t,e⟩:=(show ∃ t,u=Value.bytes b t from r); cases e; rfl
 | flt b=>obtain ⟨t,e⟩:=(show ∃ t,u=Value.float b t from r); cases e; rfl
 | ref a=>cases (show u=Value.ref a from r); rfl
 | ty n=>cases (show u=Value.type n from r); rfl
section
variable {P:Program} {w:World} {H H':Hp} {h h':Heap} {a C dx:Addr} {fs fs':List (Str×V)}
theorem ins_get (hok:HOk P w H h) (e:H a=some (.ins C dx fs)):∃ mA,ObjM h a dx C mA∧(∀ f,RelO (fs.lookup f) (mA f))∧PySem.Within mA (fs.map (·.1))∧fs.length≤1000∧H dx=some (.own a):=by
 obtain ⟨d,z,ne,ob,mA,n,r,q⟩:=(show ObjOk P w H h a (.ins C dx fs) from hok a _ e)
 exact ⟨mA,⟨ob,n,ne⟩,r,q,z,d⟩
end
structure Cls (K:PySem.W.Frag) (C:Addr):Prop where
 pg:PySem.W.plainGet K C Str.empty=true
 hd:PySem.W.hasDictIn K C=true
 po:PySem.W.plainOver K C=true
 sa:PySem.W.findIn K (.ref C) "__setattr__" = some (some (.builtin "object.__setattr__"))
theorem Cls.get {K:PySem.W.Frag} {C:Addr} (c:Cls K C) (f:Str):PySem.W.plainGet K C f=true:=c.pg
def NoAttr (K:PySem.W.Frag) (C:Addr) (f:Str):Prop:=PySem.W.findIn K (.ref C) f=some none
theorem NoAttr.taker {K:PySem.W.Frag} {C:Addr} {f:Str} (n:NoAttr K C f):PySem.W.takerIn K C f=some none:=by
 unfold PySem.W.takerIn
 rw [show PySem.W.findIn K (.ref C) f=some none from n]
 rfl
section
variable {X:Cx} {pins:List (Addr×Obj)} {σ:St} {H:Hp} {s:Shared} {a C dx:Addr} {fs:List (Str×V)} {f:Str} {v:V} {A:Around} {E:Value→Shared→Prop}
theorem getattr_ok {b:Bool} {Q:Value→Shared→Prop} (I:Inv X pins σ H s) (e:H a=some (.ins C dx fs)) (c:Cls X.K C) (n:NoAttr X.K C f) (l:fs.lookup f=some v)
  (h:∀ u s',Inv X pins σ H s'→RelV v u→Q u s'):wpAny (model X.prog X.w) A (getAttr (.ref a) f b) Q E s:=by
 obtain ⟨mA,O,r,_,_,_⟩:=ins_get I.hok e
 obtain ⟨u,hu,ru⟩:=RelO.some_of (v:=v) (o:=mA f) (by rw [← l]; exact r f)
 exact get_map I.kIn O (c.get f) c.hd n hu (handed_of ru) (h u _ (I.tok _) ru)
theorem setattr_ok {y:V} {u:Value} {Q:Unit→Shared→Prop} (I:Inv X pins σ H s) (e:H a=some (.ins C dx fs)) (c:Cls X.K C) (n:NoAttr X.K C f) (hl:fs.length<1000) (ry:RelV y u)
  (h:∀ s',Inv X pins σ (upd H a (.ins C dx (putF f y fs))) s'→Q () s'):wpAny (model X.prog X.w) A (setAttr (.ref a) f u) Q E s:=by
 obtain ⟨mA,O,r,wi,_,ho⟩:=ins_get I.hok e
 have hz:(fs.map (·.1)).length≤sizeLine:=by rw [List.length_map,sizeLine_eq]; omega
 refine set_map I.kIn O c.sa c.po n.taker c.hd wi hz fun h' O' sb=>h _ ?_
 have hd:∃ o,h'.get? dx=some o:=let ⟨o,_,_,e',_⟩:=O'.ns; ⟨o,e'⟩
 refine I.write (x:=a) (e:=dx) (by rw [e]; exact True.intro) (.inr ho) (fun b q hb z=>(sb.2 b hb).trans z) hd ?_
 refine ⟨by rw [upd_ne O.ne]; exact ho,?_,O.ne,O'.obj,_,O'.ns,fun g=>?_,fun g hg=>?_⟩
 ·have:=length_putF f y fs; omega
 ·show RelO ((putF f y fs).lookup g) (if g=f then some u else mA g)
  rw [lookup_putF]
  by_cases q:g=f
  ·rw [if_pos q,if_pos q]; exact ry
  ·rw [if_neg q,if_neg q]; exact r g
 ·by_cases q:g=f
  ·rw [q]; exact (keys_putF f y fs).1
  ·refine (keys_putF f y fs).2 g (wi g fun z=>hg ?_)
   show (if g=f then some u else mA g)=none
   rw [if_neg q]; exact z
theorem Inv.made (I:Inv X pins σ H s):Inv X pins σ (upd (upd H s.heap.objs.size (.own (s.heap.objs.size+1))) (s.heap.objs.size+1) (.ins C s.heap.objs.size []))
  { s with heap:=(s.heap.push PySem.W.emptyDict).push (PySem.W.instObj C s.heap.objs.size) }:=by
 have e1:(s.heap.push PySem.W.emptyDict).get? s.heap.objs.size=some PySem.W.emptyDict:=Heap.get?_push_size s.heap rfl
 have e2:((s.heap.push PySem.W.emptyDict).push (PySem.W.instObj C s.heap.objs.size)).get? (s.heap.objs.size+1)=some (PySem.W.instObj C s.heap.objs.size):=by
  have:=Heap.get?_push_size (s.heap.push PySem.W.emptyDict) (o:=PySem.W.instObj C s.heap.objs.size) rfl
  rwa [Heap.size_push] at this
 have e3:(s.heap.push PySem.W.emptyDict).Ns s.heap.objs.size (fun _=>none):=⟨PySem.W.emptyDict,#[],_,e1,rfl,(fun e he=>absurd he (by simp)),fun _=>rfl⟩
 have I1:=I.laid (a:=s.heap.objs.size) (o:=.own (s.heap.objs.size+1)) (h':=s.heap.push PySem.W.emptyDict) (t':=s.toks) (fun b u q=>Heap.get?_push_of_some _ q) (Nat.le_refl _) ⟨_,e1⟩
 refine I1.laid (a:=s.heap.objs.size+1) (o:=.ins C s.heap.objs.size []) (t':=s.toks) (fun b u q=>Heap.get?_push_of_some _ q) (Nat.le_of_eq (Heap.size_push _ _)) ?_
 have ne:s.heap.objs.size≠s.heap.objs.size+1:=Nat.ne_of_lt (Nat.lt_succ_self _)
 refine ⟨by rw [upd_ne ne,upd_same],Nat.zero_le _,ne,e2,fun _=>none,(Heap.Ns1.of_empty e3).at fun o q=>Heap.get?_push_of_some _ q,fun _=>True.intro,fun y hy=>absurd rfl hy⟩
theorem attr_of {prog:Program} {w:World} {env:Env} {e:Expr} {f:Str} {pos:Pos} {s:Shared} {Q:Value→Shared→Prop} (hb:attributeBase e f env (eval e env)=eval e env)
  (h:wpAny (model prog w) A (eval e env) (fun o s₁=>wpAny (model prog w) A (getAttr o f true) Q E s₁) E s):wpAny (model prog w) A (eval (.Attribute e f pos) env) Q E s :=
 Attribute_any_ h (by rw [arm_eval_Attribute,hb])
end
inductive HasF (K:PySem.W.Frag) (f:Str) (Q:VK) (x:V) (H:Hp):Prop
 | mk:∀ a C dx fs v,(x=.ref a)→(H a=some (.ins C dx fs))→(Cls K C)→(NoAttr K C f)→(fs.lookup f=some v)→(Q v H)→HasF K f Q x H
def tFld (K:PySem.W.Frag) (ta:TE) (f:Str):TE:=fun σ H Q=>ta σ H (HasF K f Q)
def sFld (K:PySem.W.Frag) (ta tv:TE) (f:Str):TS:=fun D σ H=>tv σ H fun y H1=>ta σ H1 fun x H2=>∃ a C dx fs,x=.ref a∧H2 a=some (.ins C dx fs)∧Cls K C∧NoAttr K C f∧fs.length<1000 ∧
 D.nx σ (upd H2 a (.ins C dx (putF f y fs)))
section
variable {X:Cx} {o e value:Expr} {f:Str} {pos pos' tpos:Pos} {ta tv:TE}
theorem pe_fld (he:PE X e ta) (hb:attributeBase e f X.env (eval e X.env)=eval e X.env):PE X (.Attribute e f pos) (tFld X.K ta f):=by
 intro pins s σ H Q I h
 refine attr_of hb (thn (he pins s σ H _ I h) fun u s1 ⟨x,H1,I1,rx,a,C,dx,fs,v,ex,ea,c,n,l,q⟩=>?_)
 subst ex
 obtain rfl:u=Value.ref a:=rx
 exact getattr_ok I1 ea c n l fun u' s2 I2 ru=>⟨v,H1,I2,ru,q⟩
theorem ps_fld (ha:PE X o ta) (hv:PE X value tv) (hs:swapsWith value (some (.Attribute o f pos')) pos.line X.env=pure false):PS X (.Assign [.Attribute o f pos'] value pos) (sFld X.K ta tv f):=by
 intro pins s σ H D I h
 refine plainObj_wpAny_Assign_Attribute (thn (hv pins s σ H _ I h) fun u s1 ⟨y,H1,I1,ry,q⟩=>thn (ha pins s1 σ H1 _ I1 q) fun ov s2 ⟨x,H2,I2,rx,a,C,dx,fs,ex,ea,c,n,l,q2⟩=>?_) hs
 subst ex
 obtain rfl:ov=Value.ref a:=rx
 exact setattr_ok I2 ea c n l ry fun s3 I3=>⟨σ,_,I3,q2⟩
end
section
variable {X:Cx} {pins:List (Addr×Obj)} {σ:St} {H:Hp} {s:Shared} {A:Around} {E:Value→Shared→Prop} {Q:Value→Shared→Prop} {c:Value} {b:Bool}
inductive TyOf (K:PySem.W.Frag) (H:Hp):V→Value→Prop where
 | non:TyOf K H .non (.type "NoneType")
 | bl (x:Bool):TyOf K H (.bl x) (.type "bool")
 | int (i:Int):TyOf K H (.int i) (.type "int")
 | str (x:Str):TyOf K H (.str x) (.type "str")
 | flt (x:UInt64):TyOf K H (.flt x) (.type "float")
 | lst {a:Addr} {xs:List V} (e:H a=some (.lst xs)):TyOf K H (.ref a) (.type "list")
 | frz {a:Addr} {o:Obj} {xs:List V} (e:H a=some (.frz o (.lst xs))):TyOf K H (.ref a) (.type "list")
 | tup {a:Addr} {xs:List V} (e:H a=some (.tup xs)):TyOf K H (.ref a) (.type "tuple")
 | dK {a:Addr} {kvs:List (Key×V)} (e:H a=some (.dK kvs)):TyOf K H (.ref a) (.type "dict")
 | dT {a:Addr} {kvs:List (List Key×V)} (e:H a=some (.dT kvs)):TyOf K H (.ref a) (.type "dict")
 | ins {a C dx:Addr} {fs:List (Str×V)} (e:H a=some (.ins C dx fs)) (cl:Cls K C) (ha:PySem.W.findIn K (.ref C) "__class__" = some (some (.builtin "object.__class__")))
   (hn:PySem.W.specialIn K (.builtin "object.__class__") "__get__" = some (some (.builtin "getset_descriptor.__get__"))) (htk:PySem.W.takesIn K (.builtin "object.__class__")=some true)
   (hm:PySem.W.mroIn K C (.type "object")=some true):TyOf K H (.ref a) (.ref C)
theorem isinst_ok {x:V} {u t:Value} (I:Inv X pins σ H s) (rx:RelV x u) (ty:TyOf X.K H x t) (e:PySem.W.kitOne X.K t c=some b) (h:∀ tk,Q (.bool b) { s with toks:=tk }) :
  wpAny (model X.prog X.w) A (call (.builtin "isinstance") [u,c]) Q E s:=by
 cases ty with
 | non=>cases (show u=Value.none from rx); exact PySem.W.kia_one PySem.W.kitx_none I.kIn True.intro e (fun z=>nomatch z) h
 | bl y=>cases (show u=Value.bool y from rx); exact PySem.W.kia_one PySem.W.kitx_bool I.kIn True.intro e (fun z=>nomatch z) h
 | int i=>obtain ⟨t,q⟩:=(show ∃ t,u=Value.int i t from rx); cases q; exact PySem.W.kia_one PySem.W.kitx_int I.kIn True.intro e (fun z=>nomatch z) h
 | str y=>obtain ⟨t,q⟩:=(show ∃ t,u=Value.str y t from rx); cases q; exact PySem.W.kia_one PySem.W.kitx_str I.kIn True.intro e (fun z=>nomatch z) h
 | flt y=>obtain ⟨t,q⟩:=(show ∃ t,u=Value.float y t from rx); cases q; exact PySem.W.kia_one PySem.W.kitx_float I.kIn True.intro e (fun z=>nomatch z) h
 | @lst a xs ea =>
  cases (show u=Value.ref a from rx)
  obtain ⟨_,_,n,_,h1⟩:=(show ObjOk X.prog X.w H s.heap a (.lst xs) from I.hok a _ ea)
  exact PySem.W.kia_one PySem.W.kitx_list I.kIn ⟨_,h1,rfl⟩ e (fun z=>nomatch z) h
 | @frz a ob xs ea =>
  cases (show u=Value.ref a from rx)
  obtain ⟨_,_,_,n,_,h1⟩:=(show ObjOk X.prog X.w H s.heap a (.frz ob (.lst xs)) from I.hok a _ ea)
  exact PySem.W.kia_one PySem.W.kitx_list I.kIn ⟨_,h1,rfl⟩ e (fun z=>nomatch z) h
 | @tup a xs ea =>
  cases (show u=Value.ref a from rx)
  obtain ⟨_,_,_,p⟩:=(show ObjOk X.prog X.w H s.heap a (.tup xs) from I.hok a _ ea)
  obtain ⟨o,h1,h2,_⟩:=p
  exact PySem.W.kia_one PySem.W.kitx_tuple I.kIn ⟨o,h1,h2⟩ e (fun z=>nomatch z) h
 | @dK a kvs ea =>
  cases (show u=Value.ref a from rx)
  obtain ⟨_,_,vs,_,p⟩:=(show ObjOk X.prog X.w H s.heap a (.dK kvs) from I.hok a _ ea)
  obtain ⟨o,es,ep,h1,h2,_⟩:=p
  exact PySem.W.kia_one PySem.W.kitx_dict I.kIn ⟨o,h1,h2.1⟩ e (fun z=>nomatch z) h
 | @dT a kvs ea =>
  cases (show u=Value.ref a from rx)
  obtain ⟨_,_,xs,_,o,es,ep,h1,h2,_⟩:=(show ObjOk X.prog X.w H s.heap a (.dT kvs) from I.hok a _ ea)
  exact PySem.W.kia_one PySem.W.kitx_dict I.kIn ⟨o,h1,h2.1⟩ e (fun z=>nomatch z) h
 | @ins a C dx fs ea cl ha hn htk hm =>
  cases (show u=Value.ref a from rx)
  obtain ⟨mA,O,_⟩:=ins_get I.hok ea
  obtain ⟨od,J,_⟩:=O.look
  exact PySem.W.kia_one (PySem.W.kitx_own (cl.get _) cl.hd ha hn htk hm) I.kIn J e (fun z=>nomatch z) h
end
end L2
namespace L2
open PySem PySem.Spec PyProof.Rows
structure Room (k:Nat) (A:Around):Prop where
 hd:A.handled=none
 dp:A.depth+3*k+5<recursionLimit
 un:A.units+16*k+200<cLine
theorem Room.mono {j k:Nat} {A:Around} (r:Room k A) (h:j≤k):Room j A:=⟨r.hd,by have:=r.dp; omega,by have:=r.un; omega⟩
theorem Room.deeper {k:Nat} {A:Around} (r:Room (k+1) A) (env:Env):Room k (A.deeper env) :=
 ⟨r.hd,by have:=r.dp; show A.depth+1+3*k+5<_; omega,by have:=r.un; show A.units+3+16*k+200<_; omega⟩
theorem make_depth {A:Around} {C:Addr} {us:List Value} {kw:List (Str×Value)}:(A.under (.builtin "type.__call__" ⟨.ref C::us,kw⟩)).depth=A.depth+1:=by
 first | rfl | simp [Around.under,Code.weight,Code.isCreation,Code.isGuard,Code.isCaller,Code.frames,Code.isFrame,guardIds]
theorem make_units {A:Around} {C:Addr} {us:List Value} {kw:List (Str×Value)}:(A.under (.builtin "type.__call__" ⟨.ref C::us,kw⟩)).units=A.units+1:=by
 first | rfl | simp [Around.under,Code.cUnits,Code.frames,Code.isFrame]
theorem Room.make {k:Nat} {A:Around} (r:Room (k+1) A) (C:Addr) (us:List Value) (kw:List (Str×Value)):Room k (A.under (.builtin "type.__call__" ⟨.ref C::us,kw⟩)) :=
 ⟨r.hd,by have:=r.dp; rw [make_depth]; omega,by have:=r.un; rw [make_units]; omega⟩
theorem Room.depth {k:Nat} {A:Around} (r:Room k A):A.depth<recursionLimit:=by have:=r.dp; omega
theorem Room.units {k:Nat} {A:Around} (r:Room k A):A.units+64<cLine:=by have:=r.un; omega
theorem Room.units0 {k:Nat} {A:Around} (r:Room k A):A.units<cLine:=by have:=r.un; omega
def tNil:TA:=fun _ H Q=>Q [] H
def tCons (ta:TE) (tr:TA):TA:=fun σ H Q=>ta σ H fun x H1=>tr σ H1 fun xs H2=>Q (x::xs) H2
section
variable {X:Cx} {e:Expr} {es:List Expr} {te:TE} {t:TA} {pos:Pos}
theorem pa_nil:PA X [] tNil:=fun _ _ _ _ H Q I h=>Calls.spliced_nil ⟨[],H,I,.nil,h⟩
theorem pa_cons (ha:PE X e te) (hr:PA X es t) (hs:starEach (e::es) X.env=(false,eval e X.env)::starEach es X.env:=by rfl):PA X (e::es) (tCons te t):=by
 intro pos pins s σ H Q I h
 rw [hs]
 show wpAny _ _ (spliced ((false,eval e X.env)::backTo pos (starEach es X.env))) _ _ s
 refine Calls.spliced_cons (thn (ha pins s σ H _ I h) fun u s1 ⟨x,H1,I1,r1,q1⟩=>?_)
 exact thn (hr pos pins s1 σ H1 _ I1 q1) fun us s2 ⟨xs,H2,I2,r2,q2⟩=>⟨x::xs,H2,I2,.cons r1 r2,q2⟩
def tTup (t:TA):TE:=fun σ H Q=>t σ H fun xs H1=>xs.length≤sizeLine∧∀ p,H1 p=none→Q (.ref p) (upd H1 p (.tup xs))
def tLst (t:TA):TE:=fun σ H Q=>t σ H fun xs H1=>xs.length≤sizeLine∧∀ p,H1 p=none→Q (.ref p) (upd H1 p (.lst xs))
theorem pe_tup {x1} (h:PA X es t):PE X (.Tuple es x1 pos) (tTup t):=by
 intro pins s σ H Q I hq
 refine wpAny_Tuple_spliced (thn (h pos pins s σ H _ I hq) fun us s1 ⟨xs,H1,I1,r,z,q⟩=>⟨by rw [← r.length]; exact z,?_⟩)
 have hf:H1 s1.heap.objs.size=none:=I1.hok.fresh (Nat.le_refl _)
 refine ⟨.ref s1.heap.objs.size,upd H1 s1.heap.objs.size (.tup xs),I1.laid (t':=s1.toks) (fun b u e=>Heap.get?_push_of_some _ e) (Nat.le_refl _) ?_,rfl,q _ hf⟩
 exact ⟨z,us,r,⟨_,Heap.get?_push_size _ rfl,rfl,_,rfl⟩⟩
theorem pe_lst (h:PA X es t):PE X (.List es pos) (tLst t):=by
 intro pins s σ H Q I hq
 refine wpAny_List_spliced (thn (h pos pins s σ H _ I hq) fun us s1 ⟨xs,H1,I1,r,z,q⟩=>⟨by rw [← r.length]; exact z,?_⟩)
 have hf:H1 s1.heap.objs.size=none:=I1.hok.fresh (Nat.le_refl _)
 refine ⟨.ref s1.heap.objs.size,upd H1 s1.heap.objs.size (.lst xs),I1.laid (t':=s1.toks) (fun b u e=>Heap.get?_push_of_some _ e) (Nat.le_refl _) ?_,rfl,q _ hf⟩
 exact ⟨z,us,0,r,Heap.get?_push_size _ rfl⟩
end
abbrev Sp:=List V→Hp→VK→XK→Prop
abbrev CXT:=List Env→Hp→Shared→XK→Value→Shared→Prop
structure Env0 (P:Program) (w:World) (K:PySem.W.Frag) (mg:Str→Option Value) (base:Heap) (A:Around) (outer:List Env) (s:Shared) (H:Hp):Prop where
 frames:A.frames=some outer
 mod:Mod K mg base
 bs:∀ b o,base.get? b=some o→s.heap.get? b=some o∧H b=none
 bsz:base.objs.size≤s.heap.objs.size
 funs:s.heap.FunFrames base outer
 frf:∀ b∈frs outer,H b=none
 hok:HOk P w H s.heap
 bare:AllBare s.gens
def CE (outer:List Env) (P:Program) (w:World) (H:Hp) (s:Shared) (Q:VK) (u:Value) (s':Shared):Prop :=
 ∃ v H',s'.os=s.os∧AllBare s'.gens∧Un (frs outer) [] H H' s.heap s'.heap∧HOk P w H' s'.heap∧RelV v u∧Q v H'
def CR (CX:CXT) (outer:List Env) (P:Program) (w:World) (H:Hp) (s:Shared) (Q:VK) (E:XK) (r:Result) (s':Shared):Prop :=
 match r with
 | .ok (.ret u)=>CE outer P w H s Q u s'
 | .ok _=>False
 | .error e=>CX outer H s E e s'
structure FnOk (P:Program) (w:World) (K:PySem.W.Frag) (mg:Str→Option Value) (base:Heap) (CX:CXT) (k:Nat) (f:Addr) (fd:FuncData) (ps:List Str) (sp:Sp):Prop where
 len:∀ vs H Q E,sp vs H Q E→vs.length=ps.length
 run:∀ (A:Around) (outer:List Env) (s:Shared) (H:Hp) (args:Args) (us:List Value) (vs:List V) (Q:VK) (E:XK),Room k A→Env0 P w K mg base A outer s H→BindsTo s fd args (ps.zip us)→Vals vs us→sp vs H Q E →
  codeAny (model P w) A (.call (.ref f) args) (CR CX outer P w H s Q E) s
theorem Env0.make {P:Program} {w:World} {K:PySem.W.Frag} {mg:Str→Option Value} {base:Heap} {A:Around} {outer:List Env} {s:Shared} {H:Hp} (e:Env0 P w K mg base A outer s H) (C:Addr) (us:List Value) (kw:List (Str×Value)) :
  Env0 P w K mg base (A.under (.builtin "type.__call__" ⟨.ref C::us,kw⟩)) outer s H:=⟨by first | exact e.frames | (simpa [Around.under,Code.envs,Code.isFrame,pushEnvs] using e.frames),e.mod,e.bs,e.bsz,e.funs,e.frf,e.hok,e.bare⟩
section
variable {X:Cx} {pins:List (Addr×Obj)} {σ:St} {H:Hp} {s s':Shared}
theorem Inv.env0 (I:Inv X pins σ H s):Env0 X.prog X.w X.K X.mg X.base X.A X.stack s H :=
 ⟨I.ok.frames,I.ok.mod,I.bs,Nat.le_trans I.ok.bsz I.sz,I.stack,I.stkFree,I.hok,I.bare⟩
theorem Inv.after {Q:VK} {u:Value} (I:Inv X pins σ H s) (h:CE X.stack X.prog X.w H s Q u s'):EP X pins σ Q u s':=by
 obtain ⟨v,H',os,bare,un,hok,r,q⟩:=h
 obtain ⟨hh,g,d,t,os'⟩:=s'
 obtain rfl:os'=s.os:=os
 exact ⟨v,H',I.call (h':=hh) (g':=g) (d':=d) (t':=t) (ch:=[]) un hok bare (fun b z=>absurd z (by simp)),r,q⟩
end
def tCall (sp:Sp) (dvs:List V) (E:XK) (t:TA):TE:=fun σ H Q=>t σ H fun vs H1=>sp (vs++dvs) H1 Q E
def tMake (C:Addr) (sp:Sp) (dvs:List V) (E:XK) (t:TA):TE:=fun σ H Q=>t σ H fun vs H1=>∀ x dx,H1 x=none→H1 dx=none→dx≠x →
 sp (.ref x::(vs++dvs)) (upd (upd H1 dx (.own x)) x (.ins C dx [])) (fun v H2=>v=.non∧Q (.ref x) H2) E
def Binds (K:PySem.W.Frag) (fd:FuncData) (ps:List Str) (ds:List Value):Prop :=
 ∀ (s:Shared) (us:List Value),K.In s.heap→(us++ds).length=ps.length→BindsTo s fd ⟨us,[]⟩ (ps.zip (us++ds))
theorem Binds.all {K:PySem.W.Frag} {fd:FuncData} {ps:List Str} (h:∀ us:List Value,us.length=ps.length→bindArgs fd ⟨us,[]⟩=pure (ps.zip us)):Binds K fd ps []:=fun s us _ hl=>by
 rw [List.append_nil] at hl ⊢
 exact .of_eq (h us hl)
def Passes (CX:CXT) (X:Cx) (E:XK):Prop:=∀ (pins:List (Addr×Obj)) (σ:St) (H:Hp) (s:Shared) (e:Value) (s':Shared),Inv X pins σ H s→CX X.stack H s E e s'→X.xe e s'
section
variable {X:Cx} {CX:CXT} {k:Nat} {f C:Addr} {fd:FuncData} {ps:List Str} {sp:Sp} {dvs:List V} {ds:List Value} {E:XK} {x m:Str} {p pos apos:Pos} {e o:Expr} {es:List Expr} {ta:TE} {t:TA}
theorem run_fn {pins:List (Addr×Obj)} {σ:St} {H:Hp} {s:Shared} {Q:VK} {us:List Value} {vs:List V} (F:FnOk X.prog X.w X.K X.mg X.base CX k f fd ps sp) (hr:Room k X.A) (hb:Binds X.K fd ps ds) (hd:Vals dvs ds) (hx:Passes CX X E)
  (I:Inv X pins σ H s) (r:Vals vs us) (h:sp (vs++dvs) H Q E):wpAny (model X.prog X.w) X.A (call (.ref f) us) (EP X pins σ Q) X.xe s:=by
 have r2:Vals (vs++dvs) (us++ds):=r.append hd
 have hl:(us++ds).length=ps.length:=by rw [← r2.length]; exact F.len _ _ _ _ h
 refine wpAny_call (codeAny_mono (F.run X.A X.stack s H ⟨us,[]⟩ (us++ds) (vs++dvs) Q E hr I.env0 (hb s us I.kIn hl) r2 h) fun r s' hq=>?_)
 cases r with
 | error e=>exact hx pins σ H s e s' I hq
 | ok fl =>
  cases fl with
  | ret u=>exact I.after hq
  | next=>exact False.elim hq
  | brk=>exact False.elim hq
  | cont=>exact False.elim hq
theorem pe_call (F:FnOk X.prog X.w X.K X.mg X.base CX k f fd ps sp) (hr:Room k X.A) (hg:Gl X x) (hm:X.mg x=some (.ref f)) (hk:PySem.W.keepIn X.K (.ref f)=true) (hb:Binds X.K fd ps ds) (hd:Vals dvs ds) (hx:Passes CX X E)
  (ha:PA X (e::es) t) (hdb:(x==("__debug__" : Str))=false:=by decide) (he:starEach (e::es) X.env=(false,eval e X.env)::starEach es X.env:=by rfl) (hpl:(backTo pos (starEach es X.env)).any (·.1)=false:=by rfl) :
  PE X (.Call (.Name x p) (e::es) [] pos) (tCall sp dvs E t):=by
 intro pins s σ H Q I h
 refine wpAny_Call_Name_kw (ld_glob I hg hm ?_ hdb)
 refine PySem.W.callWith_K (h₀:=X.base) I.ok.mod.kin hk (thn (ha pos pins s σ H _ I h) fun us s1 ⟨vs,H1,I1,r,q⟩=>⟨I1.kIn,?_⟩) he hpl
 exact run_fn F hr hb hd hx I1 r q
structure Mk (K:PySem.W.Frag) (C f:Addr):Prop where
 makes:PySem.W.makesIn K C=true
 init:PySem.W.findIn K (.ref C) "__init__" = some (some (.ref f))
 fn:PySem.W.isFn K (.ref f)=true
 kp:PySem.W.keepIn K (.ref C)=true
theorem run_make {pins:List (Addr×Obj)} {σ:St} {H:Hp} {s:Shared} {Q:VK} {us:List Value} {vs:List V} (M:Mk X.K C f) (F:FnOk X.prog X.w X.K X.mg X.base CX k f fd ps sp) (hr:Room (k+1) X.A) (hb:Binds X.K fd ps ds) (hd:Vals dvs ds)
  (hx:Passes CX X E) (I:Inv X pins σ H s) (r:Vals vs us)
  (h:∀ x dx,H x=none→H dx=none→dx≠x→sp (.ref x::(vs++dvs)) (upd (upd H dx (.own x)) x (.ins C dx [])) (fun v H2=>v=.non∧Q (.ref x) H2) E) :
  wpAny (model X.prog X.w) X.A (call (.ref C) us) (EP X pins σ Q) X.xe s:=by
 have hq:=h (s.heap.objs.size+1) s.heap.objs.size (I.hok.fresh (Nat.le_succ _)) (I.hok.fresh (Nat.le_refl _)) (Nat.ne_of_lt (Nat.lt_succ_self _))
 have I2:=Inv.made (C:=C) I
 have r2:Vals (V.ref (s.heap.objs.size+1)::(vs++dvs)) (Value.ref (s.heap.objs.size+1)::(us++ds)):=.cons rfl (r.append hd)
 have hl:(Value.ref (s.heap.objs.size+1)::us++ds).length=ps.length:=by
  have e:=r2.length
  rw [F.len _ _ _ _ hq] at e
  exact e.symm
 refine wpAny_call (make_map (f:=f) I.kIn M.makes M.init (beq_iff_eq.mp M.fn) (codeAny_mono (F.run _ X.stack _ _ ⟨Value.ref (s.heap.objs.size+1)::us,[]⟩ (Value.ref (s.heap.objs.size+1)::(us++ds)) _ _ E (hr.make C us [])
  (I2.env0.make C us []) (hb _ (Value.ref (s.heap.objs.size+1)::us) I2.kIn hl) r2 hq) fun r s' hq'=>?_))
 cases r with
 | error e=>exact hx pins σ _ _ e s' I2 hq'
 | ok fl =>
  cases fl with
  | ret u =>
   obtain ⟨v,H',I3,rv,ev,q3⟩:=I2.after hq'
   subst ev
   exact ⟨rv,⟨V.ref (s.heap.objs.size+1),H',I3,rfl,q3⟩⟩
  | next=>exact False.elim hq'
  | brk=>exact False.elim hq'
  | cont=>exact False.elim hq'
theorem pe_make (M:Mk X.K C f) (F:FnOk X.prog X.w X.K X.mg X.base CX k f fd ps sp) (hr:Room (k+1) X.A) (hg:Gl X x) (hm:X.mg x=some (.ref C)) (hb:Binds X.K fd ps ds) (hd:Vals dvs ds) (hx:Passes CX X E)
  (ha:PA X (e::es) t) (hdb:(x==("__debug__" : Str))=false:=by decide) (he:starEach (e::es) X.env=(false,eval e X.env)::starEach es X.env:=by rfl) (hpl:(backTo pos (starEach es X.env)).any (·.1)=false:=by rfl) :
  PE X (.Call (.Name x p) (e::es) [] pos) (tMake C sp dvs E t):=by
 intro pins s σ H Q I h
 refine wpAny_Call_Name_kw (ld_glob I hg hm ?_ hdb)
 refine PySem.W.callWith_K (h₀:=X.base) I.ok.mod.kin M.kp (thn (ha pos pins s σ H _ I h) fun us s1 ⟨vs,H1,I1,r,q⟩=>⟨I1.kIn,?_⟩) he hpl
 exact run_make M F hr hb hd hx I1 r q
end
def PK (X:Cx) (kws:List Keyword) (t:TA):Prop :=
 ∀ (pos:Pos) (pins:List (Addr×Obj)) (s:Shared) (σ:St) (H:Hp) (Q:List V→Hp→Prop),Inv X pins σ H s→t σ H Q→wpAny (model X.prog X.w) X.A (evalAll ((backToKw pos (keywordEach kws X.env)).map (·.2))) (AP X pins σ Q) X.xe s
section
variable {X:Cx} {CX:CXT} {k:Nat} {f C:Addr} {fd:FuncData} {ps ks:List Str} {sp:Sp} {E:XK} {x m:Str} {p pos apos kpos:Pos} {e o:Expr} {es:List Expr} {kws:List Keyword} {te ta:TE} {t tk:TA} {nm:Option Str}
theorem pk_nil:PK X [] tNil:=fun _ _ _ _ H Q I h=>wpAny_evalAll_nil ⟨[],H,I,.nil,h⟩
theorem pk_cons (ha:PE X e te) (hr:PK X kws t):PK X (⟨nm,e,kpos⟩::kws) (tCons te t):=by
 intro pos pins s σ H Q I h
 show wpAny _ _ (evalAll ((do let v ← eval e X.env; standAt pos; pure v)::(backToKw pos (keywordEach kws X.env)).map (·.2))) _ _ s
 refine wpAny_evalAll_cons (wpAny_bind (thn (ha pins s σ H _ I h) fun u s1 ⟨x,H1,I1,r1,q1⟩=>wpAny_bind (wpAny_standAt (wpAny_pure ?_))))
 exact thn (hr pos pins s1 σ H1 _ I1 q1) fun us s2 ⟨xs,H2,I2,r2,q2⟩=>⟨x::xs,H2,I2,.cons r1 r2,q2⟩
variable {g:List Value→List Value→List Value} {gV:List V→List V→List V}
end
structure FnScope (N P:List Str) (sc:Scope):Prop where
 kind:sc.kind=.function
 co:sc.isCoroutine=false
 gen:sc.isGenerator=false
 nd:N.Nodup
 pre:N.take P.length=P
 par:∀ x∈P,sc.names.lookup x=some .local∨sc.names.lookup x=some .cell
 nofree:∀ y∈sc.names,y.2≠.free
theorem bindL_out {kindOf:Str→Option NameKind} {x:Str}:∀ {binds:List (Str×Value)} {m:Str→Option Value},(∀ v,(x,v)∉binds)→bindL kindOf binds m x=m x
 | [],_,_=>rfl
 | (n,v)::r,m,h=>by
  unfold bindL
  rw [bindL_out fun w hw=>h w (List.mem_cons_of_mem _ hw)]
  split
  ·have:x≠n:=by rintro rfl; exact h v List.mem_cons_self
   simp [this]
  ·rfl
theorem bindC_out {kindOf:Str→Option NameKind} {x:Str}:∀ {binds:List (Str×Value)} {m:Str→Option Value},(∀ v,(x,v)∉binds)→bindC kindOf binds m x=m x
 | [],_,_=>rfl
 | (n,v)::r,m,h=>by
  unfold bindC
  rw [bindC_out fun w hw=>h w (List.mem_cons_of_mem _ hw)]
  split
  ·rfl
  ·have:x≠n:=by rintro rfl; exact h v List.mem_cons_self
   simp [this]
theorem bindL_get {kindOf:Str→Option NameKind} {x:Str} {v:Value}:∀ {P:List Str} {vs:List Value} {i:Nat} {m:Str→Option Value},P.Nodup→P[i]?=some x→vs[i]?=some v→kindOf x=some .local →
  bindL kindOf (P.zip vs) m x=some v
 | [],_,_,_,_,h,_,_=>by simp at h
 | _::_,[],_,_,_,_,h,_=>by simp at h
 | p::P,w::vs,0,m,nd,h1,h2,hk=>by
  simp at h1 h2; subst h1; subst h2
  show bindL kindOf ((p,w)::P.zip vs) m p=_
  unfold bindL
  rw [bindL_out fun v hv=>(List.nodup_cons.mp nd).1 (List.of_mem_zip hv).1,if_pos hk]
  simp
 | p::P,w::vs,i+1,m,nd,h1,h2,hk=>by
  show bindL kindOf ((p,w)::P.zip vs) m x=_
  unfold bindL
  exact bindL_get (i:=i) (List.nodup_cons.mp nd).2 (by simpa using h1) (by simpa using h2) hk
theorem bindC_get {kindOf:Str→Option NameKind} {x:Str} {v:Value}:∀ {P:List Str} {vs:List Value} {i:Nat} {m:Str→Option Value},P.Nodup→P[i]?=some x→vs[i]?=some v→kindOf x≠some .local →
  bindC kindOf (P.zip vs) m x=some v
 | [],_,_,_,_,h,_,_=>by simp at h
 | _::_,[],_,_,_,_,h,_=>by simp at h
 | p::P,w::vs,0,m,nd,h1,h2,hk=>by
  simp at h1 h2; subst h1; subst h2
  show bindC kindOf ((p,w)::P.zip vs) m p=_
  unfold bindC
  rw [bindC_out fun v hv=>(List.nodup_cons.mp nd).1 (List.of_mem_zip hv).1,if_neg hk]
  simp
 | p::P,w::vs,i+1,m,nd,h1,h2,hk=>by
  show bindC kindOf ((p,w)::P.zip vs) m x=_
  unfold bindC
  exact bindC_get (i:=i) (List.nodup_cons.mp nd).2 (by simpa using h1) (by simpa using h2) hk
def start (N:List Str) (vs:List V):St:=vs.map some++List.replicate (N.length-vs.length) none
def cxOf (CX:CXT) (P:Program) (w:World) (K:PySem.W.Frag) (mg:Str→Option Value) (base:Heap) (N:List Str) (qual:Str) (scope:Scope) (f:Addr) (cd:Value) (A:Around) (outer:List Env) (s:Shared) (H:Hp) (E:XK):Cx where
 prog:=P
 w:=w
 K:=K
 mg:=mg
 base:=base
 A:=A.deeper (envOfC qual scope s.heap.objs.size f cd)
 N:=N
 s₀:=s
 H₀:=H
 env:=envOfC qual scope s.heap.objs.size f cd
 outer:=outer
 stack:=envOfC qual scope s.heap.objs.size f cd::outer
 ex:=[]
 calm:=true
 fn:=fun _=>true
 pn:=[]
 xe:=fun e s'=>wpAny (model P w) (A.deeper (envOfC qual scope s.heap.objs.size f cd)) (leaving (envOfC qual scope s.heap.objs.size f cd) e) (fun _ s''=>CX outer H s E e s'') (fun e' s''=>CX outer H s E e' s'') s'
theorem cell_has {sc:Scope} {n:Nat} {x:Str} (h:sc.names.lookup x=some .cell):∃ c,(cellsFrom n sc.names []).lookup x=some c:=by
 have q:=PySem.W.cellsFrom_some sc.names n [] (.inl h)
 exact Option.isSome_iff_exists.mp q
theorem inv_start {CX:CXT} {P:Program} {w:World} {K:PySem.W.Frag} {mg:Str→Option Value} {base:Heap} {N ps:List Str} {qual:Str} {scope:Scope} {f:Addr} {cd:Value} {A:Around} {outer:List Env} {s s1:Shared} {H:Hp} {E:XK} {us:List Value} {vs:List V}
  (S:FnScope N ps scope) (hd:A.handled=none) (e0:Env0 P w K mg base A outer s H) (hl:vs.length=ps.length) (r:Vals vs us)
  (x:InCallC s s.heap.objs.size (bindL (envOfC qual scope s.heap.objs.size f cd).kindOf (ps.zip us) fun _=>none) (cellsFrom (s.heap.objs.size+1) scope.names []) (bindC (envOfC qual scope s.heap.objs.size f cd).kindOf (ps.zip us) fun _=>none) s1) :
  Inv (cxOf CX P w K mg base N qual scope f cd A outer s H E) [] (start N vs) H s1:=by
 have hpl:ps.length≤N.length:=by have:=congrArg List.length S.pre; rw [List.length_take] at this; omega
 obtain ⟨h1,tk,rfl,hk⟩:=x.done
 have noA:∀ b:Addr,b∉(cxOf CX P w K mg base N qual scope f cd A outer s H E).ex:=fun b z=>absurd (show b∈([]:List Addr) from z) (by simp)
 refine ⟨⟨e0.mod,S.kind,rfl,rfl,Nat.le_refl _,fun y z c h1 h2=>?_,fun y hy=>?_,fun y c _ h=>?_,fun _=>hd,Around.frames_deeper e0.frames,.inr ⟨rfl,rfl⟩,fun b z=>absurd z (noA b),e0.bs,e0.bsz,fun b _ _=>noA b,fun b z=>absurd z (noA b),e0.funs,e0.frf⟩,
  rfl,e0.bare,Un.kept hk,⟨_,x.toInCall.ns,fun i y v h1 h2 h3=>?_⟩,fun y c h=>⟨_,x.cell y c h⟩,e0.hok.fresh (Nat.le_refl _),fun y c h=>?_,fun p hp=>absurd (show p∈([]:List (Addr×Obj)) from hp) (by simp),e0.hok.kept hk,?_⟩
 ·exact name_of_addr x.apart (PySem.mem_of_lookup h1) (PySem.mem_of_lookup h2)
 ·have hy:scope.names.lookup y=some .cell∨scope.names.lookup y=some .free:=hy
  rcases hy with hy | hy
  ·exact cell_has hy
  ·exact absurd rfl (S.nofree _ (PySem.mem_of_lookup hy))
 ·exact Nat.le_of_lt (x.above y c (PySem.mem_of_lookup h))
 ·have hi:i<vs.length:=by
   unfold start at h2
   by_cases hi:i<vs.length
   ·exact hi
   ·rw [List.getElem?_append_right (by simpa using hi)] at h2
    rw [List.getElem?_replicate] at h2
    split at h2<;>cases h2
  have ha:vs[i]?=some v:=by
   unfold start at h2
   rw [List.getElem?_append_left (by simpa using hi),List.getElem?_map] at h2
   cases e:vs[i]? with
   | none=>rw [e] at h2; cases h2
   | some a=>rw [e] at h2; cases h2; rfl
  obtain ⟨u,hu,rv⟩:=r.get ha
  have hp:ps[i]?=some y:=by
   rw [← S.pre,List.getElem?_take_of_lt (by omega)]; exact h1
  have ndP:ps.Nodup:=by rw [← S.pre]; exact S.nd.sublist (List.take_sublist _ _)
  refine ⟨u,rv,?_⟩
  rcases S.par y (List.mem_of_getElem? hp) with k | k
  ·exact .inl ⟨k,bindL_get ndP hp hu k⟩
  ·obtain ⟨c,e⟩:=cell_has (n:=s.heap.objs.size+1) k
   refine .inr ⟨.inl k,c,e,?_⟩
   have q:=x.cell y c e
   rw [bindC_get ndP hp hu (by show scope.names.lookup y≠_; rw [k]; decide)] at q
   exact q
 ·exact e0.hok.fresh (Nat.le_of_lt (x.above y c (PySem.mem_of_lookup h)))
 ·unfold start
  show _=N.length
  rw [List.length_append,List.length_map,List.length_replicate]
  omega
theorem fn_of {CX:CXT} {P:Program} {w:World} {K:PySem.W.Frag} {mg:Str→Option Value} {base:Heap} {k:Nat} {f:Addr} {name qual:Str} {params:Arguments} {body:List Stmt} {scope:Scope} {dV kV doc pm cdv ct oc:Value} {an od:Option Addr}
  {osl:Array (Option Value)} {N ps:List Str} {sp:Sp} (lk:K.lookup f=some ⟨oc,od,.func (PySem.W.fnOf name qual params body scope dV kV doc pm an cdv ct),osl⟩) (hcd:PySem.W.codeIn K cdv qual=true) (S:FnScope N ps scope)
  (len:∀ vs H Q E,sp vs H Q E→vs.length=ps.length)
  (hbody:∀ (A:Around) (outer:List Env) (s:Shared) (H:Hp) (vs:List V) (Q:VK) (E:XK),Room k (A.deeper (envOfC qual scope s.heap.objs.size f cdv))→sp vs H Q E →
   ∃ t,PSs (cxOf CX P w K mg base N qual scope f cdv A outer s H E) body t∧t { nx:=fun _ H'=>Q .non H',rt:=Q } (start N vs) H) :
  FnOk P w K mg base CX (k+1) f (PySem.W.fnOf name qual params body scope dV kV doc pm an cdv ct) ps sp:=by
 refine ⟨len,fun A outer s H args us vs Q E hr e0 hb r hsp=>?_⟩
 have hl:=len _ _ _ _ hsp
 have KX:K.In s.heap:=e0.mod.kin.keeps fun b o e=>(e0.bs b o e).1
 have lim:s.heap.NoLimit:=e0.mod.nolimit.keeps fun b o e=>(e0.bs b o e).1
 have hkind:∀ y∈ps.zip us,scope.names.lookup y.1=some .local∨(scope.names.lookup y.1=some .cell∧((cellsFrom (s.heap.objs.size+1) scope.names []).lookup y.1).isSome=true):=fun ⟨n,v⟩ hy=>by
  rcases S.par n (List.of_mem_zip hy).1 with q | q
  ·exact .inl q
  ·exact .inr ⟨q,PySem.W.cellsFrom_some _ _ _ (.inl q)⟩
 refine codeAny_call_function hr.depth (KX _ _ lk) rfl S.co S.gen rfl (PySem.W.codeRec_of KX hcd) (hb _ _ _ _ ?_)
 refine wpAny_newFunctionEnv_cells S.kind hkind fun env he s1 x=>?_
 subst he
 refine ⟨lim.keeps x.toInCall.keep,codeAny_func ?_⟩
 obtain ⟨t,ht,hq⟩:=hbody A outer s H vs Q E (hr.deeper _) hsp
 have I:Inv (cxOf CX P w K mg base N qual scope f cdv A outer s H E) [] (start N vs) H s1:=inv_start S hr.hd e0 hl r x
 refine wpAny_mono (ht [] s1 (start N vs) H _ I hq) (fun fl s' hs=>?_) fun e s' hs=>hs
 have fin:∀ {σ':St} {H':Hp} {v:V} {u:Value},Inv (cxOf CX P w K mg base N qual scope f cdv A outer s H E) [] σ' H' s'→RelV v u→Q v H'→CE outer P w H s Q u s' :=
  fun {σ' H' v u} J rv q=>⟨v,H',J.os,J.bare,J.base,J.hok,rv,q⟩
 cases fl with
 | ret u =>
  obtain ⟨v,σ',H',J,rv,q⟩:=hs
  exact fin J rv q
 | next =>
  obtain ⟨σ',H',J,q⟩:=hs
  exact fin (v:=V.non) (u:=Value.none) J rfl q
 | brk =>
  obtain ⟨_,_,_,q⟩:=hs
  exact False.elim q
 | cont =>
  obtain ⟨_,_,_,q⟩:=hs
  exact False.elim q
end L2
namespace L2
open PySem PySem.Spec PyProof.Rows
section
variable {X:Cx} {x:Str} {p pos:Pos} {e:Expr} {es:List Expr} {t:TA} {id T:String} {r:List V→Hp→VK→Prop}
def tCB (r:List V→Hp→VK→Prop) (t:TA):TE:=fun σ H Q=>t σ H fun vs H1=>r vs H1 Q
theorem pe_callB (hc:CallR X (.builtin id) r) (hg:Gl X x) (hm:X.mg x=none) (hv:bootBuiltins x=some (.builtin id)) (ha:PA X (e::es) t) (hn:x≠"__name__" := by decide) (hdb:(x==("__debug__" : Str))=false:=by decide)
  (he:starEach (e::es) X.env=(false,eval e X.env)::starEach es X.env:=by rfl) (hpl:(backTo pos (starEach es X.env)).any (·.1)=false:=by rfl):PE X (.Call (.Name x p) (e::es) [] pos) (tCB r t):=by
 intro pins s σ H Q I h
 refine wpAny_Call_Name_kw (ld_blt I hg hm hv ?_ hn hdb)
 exact PyProof.Rows.callWith_builtin1 (thn (ha pos pins s σ H _ I h) fun us s1 ⟨vs,H1,I1,r1,q1⟩=>hc pins s1 σ H1 vs us Q I1 r1 q1) he hpl
theorem pe_callTy (hc:CallR X (.type T) r) (hg:Gl X x) (hm:X.mg x=none) (hv:bootBuiltins x=some (.type T)) (ha:PA X (e::es) t) (hn:x≠"__name__" := by decide) (hdb:(x==("__debug__" : Str))=false:=by decide)
  (he:starEach (e::es) X.env=(false,eval e X.env)::starEach es X.env:=by rfl) (hpl:(backTo pos (starEach es X.env)).any (·.1)=false:=by rfl):PE X (.Call (.Name x p) (e::es) [] pos) (tCB r t):=by
 intro pins s σ H Q I h
 refine wpAny_Call_Name_kw (ld_blt I hg hm hv ?_ hn hdb)
 exact PyProof.Rows.callWith_type1 (thn (ha pos pins s σ H _ I h) fun us s1 ⟨vs,H1,I1,r1,q1⟩=>hc pins s1 σ H1 vs us Q I1 r1 q1) he hpl
end
end L2
namespace HT
open PySem PyProof.Rows
section
open PySem.SeqAt
open PySem.AutoSeq1 (wpAny_loadPart')
open PySem.MeetsSeq PySem.MeetsSeq2 PySem.MeetsSeq3
end
section
variable {prog:Program} {w:World} {A:Around} {E:Value→Shared→Prop} {s:Shared}
def sIx (n d:Nat):Option Int→Nat
 | none=>d
 | some v=>if v<0 then (v+(n:Int)).toNat else min v.toNat n
theorem sIx_none (n d:Nat):sIx n d none=d:=rfl
theorem sIx_nat (n d k:Nat):sIx n d (some (k:Int))=min k n:=by
 show (if (k:Int)<0 then ((k:Int)+(n:Int)).toNat else min (k:Int).toNat n)=min k n
 rw [if_neg (by omega),Int.toNat_natCast]
end
end HT
namespace L2
open PySem PySem.Spec PyProof.Rows
abbrev TO:=St→Hp→(Option Int→Hp→Prop)→Prop
def PO (X:Cx) (e:Option Expr) (t:TO):Prop :=
 ∀ (pins:List (Addr×Obj)) (s:Shared) (σ:St) (H:Hp) (Q:Option Int→Hp→Prop),Inv X pins σ H s→t σ H Q →
  wpAny (model X.prog X.w) X.A (evalPart e X.env) (fun u s'=>∃ o H',Inv X pins σ H' s'∧IsPart u o∧Q o H') X.xe s
def tNoPart:TO:=fun _ H Q=>Q none H
inductive IsI (Q:Option Int→Hp→Prop) (x:V) (H:Hp):Prop
 | mk:∀ i,(x=.int i)→(Q (some i) H)→IsI Q x H
def tPart (t:TE):TO:=fun σ H Q=>t σ H (IsI Q)
section
variable {X:Cx} {e:Expr} {te:TE} {lo hi:Option Expr} {tl th:TO} {pos p2:Pos}
theorem po_none:PO X none tNoPart:=by
 intro pins s σ H Q I h
 rw [evalPart_none]
 exact wpAny_pure ⟨none,H,I,.none,h⟩
theorem po_some (h:PE X e te):PO X (some e) (tPart te):=by
 intro pins s σ H Q I hw
 rw [evalPart_some]
 refine thn (h pins s σ H _ I hw) fun u s1 ⟨x,H1,I1,r1,q1⟩=>?_
 obtain ⟨i,rfl,q⟩:=q1
 obtain ⟨t,rfl⟩:=r1
 exact ⟨some i,H1,I1,.int i t,q⟩
def SlR (X:Cx) (r:V→Option Int→Option Int→Hp→VK→Prop):Prop :=
 ∀ (pins:List (Addr×Obj)) (s:Shared) (σ:St) (H:Hp) (x:V) (v vl vu:Value) (lo hi:Option Int) (sl:Addr) (Q:VK),Inv X pins σ H s→RelV x v→s.heap.IsSliceOf sl vl vu .none→IsPart vl lo→IsPart vu hi→r x lo hi H Q →
  ∃ T id,typeLookup (.type T) "__getitem__" = pure (some (.builtin id))∧s.TypeIs v T∧wpAny (model X.prog X.w) X.A (getItem v (.ref sl)) (EP X pins σ Q) X.xe s
def tSl (r:V→Option Int→Option Int→Hp→VK→Prop) (te:TE) (tl th:TO):TE:=fun σ H Q=>te σ H fun x H1=>tl σ H1 fun l H2=>th σ H2 fun u H3=>r x l u H3 Q
theorem pe_slice {r:V→Option Int→Option Int→Hp→VK→Prop} (hr:SlR X r) (he:PE X e te) (hl:PO X lo tl) (hu:PO X hi th):PE X (.Subscript e (.Slice lo hi none p2) pos) (tSl r te tl th):=by
 intro pins s σ H Q I h
 refine Subscript_ (thn (he pins s σ H _ I h) fun v s1 ⟨x,H1,I1,r1,q1⟩=>?_)
 refine wpAny_Slice (thn (hl pins s1 σ H1 _ I1 q1) fun vl s2 ⟨l,H2,I2,pl,q2⟩=>thn (hu pins s2 σ H2 _ I2 q2) fun vu s3 ⟨u,H3,I3,pu,q3⟩=>?_)
 rw [evalPart_none]
 refine wpAny_pure ?_
 have I4:Inv X pins σ H3 { s3 with heap:=s3.heap.push { cls:=.type "slice",data:=.fields #[vl,vu,.none] } }:=I3.kept (t':=s3.toks) fun b ob q=>Heap.get?_push_of_some _ q
 obtain ⟨T,id,hT,ht,hg⟩:=hr pins { s3 with heap:=s3.heap.push { cls:=.type "slice",data:=.fields #[vl,vu,.none] } } σ H3 x v vl vu l u s3.heap.objs.size Q I4 r1 (Heap.IsSliceOf.new ..) pl pu q3
 show wpAny (model X.prog X.w) X.A (subscriptTail e (.Slice lo hi none p2) v (.ref s3.heap.objs.size)) (EP X pins σ Q) X.xe { s3 with heap:=s3.heap.push { cls:=.type "slice",data:=.fields #[vl,vu,.none] } }
 exact tail_any (ops:=[.ref s3.heap.objs.size,v]) ht hT hg (by with_unfolding_all rfl)
def cutV (xs:List V) (lo hi:Option Int):List V:=(xs.drop (HT.sIx xs.length 0 lo)).take (HT.sIx xs.length xs.length hi-HT.sIx xs.length 0 lo)
theorem cutV_length (xs:List V) (lo hi:Option Int):(cutV xs lo hi).length≤xs.length:=by
 unfold cutV
 rw [List.length_take,List.length_drop]
 omega
end
end L2
namespace L2
open PySem PySem.Spec PyProof.Rows
def ixN (n:Nat) (i:Int):Option Nat:=if 0≤i then (if i<n then some i.toNat else none) else if -(n:Int)≤i then some (i+n).toNat else none
def atI {α:Type} (xs:List α) (i:Int):Option α:=(ixN xs.length i).bind fun j=>xs[j]?
theorem ixN_seq {n:Nat} {i:Int} {j:Nat} (h:ixN n i=some j):seqIndex? i n=some j∧j<n ∧ -(n:Int)≤i∧i<n:=by
 unfold ixN at h
 by_cases h0:0≤i
 ·rw [if_pos h0] at h
  by_cases h1:i<n
  ·rw [if_pos h1] at h
   have e:i.toNat=j:=Option.some.inj h
   exact ⟨by rw [seqIndex_of h0 h1,e],by omega,by omega,h1⟩
  ·rw [if_neg h1] at h; cases h
 ·rw [if_neg h0] at h
  by_cases h1 : -(n:Int)≤i
  ·rw [if_pos h1] at h
   have e:(i+n).toNat=j:=Option.some.inj h
   exact ⟨by rw [seqIndex_neg (by omega) h1,e],by omega,h1,by omega⟩
  ·rw [if_neg h1] at h; cases h
theorem atI_get {α:Type} {xs:List α} {i:Int} {v:α} (h:atI xs i=some v):∃ j,seqIndex? i xs.length=some j∧xs[j]?=some v∧j<xs.length ∧ -(xs.length:Int)≤i∧i<xs.length:=by
 unfold atI at h
 cases e:ixN xs.length i with
 | none=>rw [e] at h; cases h
 | some j =>
  rw [e] at h
  obtain ⟨h1,h2,h3,h4⟩:=ixN_seq e
  exact ⟨j,h1,h,h2,h3,h4⟩
theorem atI_nat {α:Type} {xs:List α} {j:Nat} {v:α} (h:xs[j]?=some v):atI xs (j:Int)=some v:=by
 have hj:j<xs.length:=(List.getElem?_eq_some_iff.mp h).1
 have e:ixN xs.length (j:Int)=some j:=by
  unfold ixN
  rw [if_pos (by omega),if_pos (by omega)]; simp
 unfold atI; rw [e]; exact h
def PlainIx (b:Expr):Prop:=∀ o i,subscripted b false o i=operate [o,i] (getItem o i)
def IxR (X:Cx) (r:R2):Prop :=
 ∀ (value slice:Expr) (pins:List (Addr×Obj)) (s:Shared) (σ:St) (H:Hp) (x y:V) (v u:Value) (Q:VK),Inv X pins σ H s→RelV x v→RelV y u→r x y H Q →
  subscripted slice false v u=operate [v,u] (getItem v u)→wpAny (model X.prog X.w) X.A (subscriptTail value slice v u) (EP X pins σ Q) X.xe s
def MtR (X:Cx) (id:String) (r:V→List V→Hp→VK→Prop):Prop :=
 ∀ (pins:List (Addr×Obj)) (s:Shared) (σ:St) (H:Hp) (x:V) (xs:List V) (v:Value) (us:List Value) (Q:VK),Inv X pins σ H s→RelV x v→Vals xs us→r x xs H Q →
  wpAny (model X.prog X.w) X.A (call (.builtin id) (v::us)) (EP X pins σ Q) X.xe s
section
variable {X:Cx} {a b:Expr} {ta tb:TE} {pos:Pos}
theorem pe_ix {r:R2} (hr:IxR X r) (ha:PE X a ta) (hb:PE X b tb) (hs:PlainIx b):PE X (.Subscript a b pos) (tOp r ta tb):=by
 intro pins s σ H Q I h
 exact Subscript_ (binT ha hb I h fun v u s2 x y H2 I2 rx ry q=>hr a b pins s2 σ H2 x y v u Q I2 rx ry q (hs _ _))
inductive rIxL (K:PySem.W.Frag) (x:V) (y:V) (H:Hp) (Q:VK):Prop
 | mk:∀ p xs i v,(x=.ref p)→(y=.int i)→(SqL K H p xs)→(atI xs i=some v)→(Q v H)→rIxL K x y H Q
inductive rIxT (K:PySem.W.Frag) (x:V) (y:V) (H:Hp) (Q:VK):Prop
 | mk:∀ p xs i v,(x=.ref p)→(y=.int i)→(SqT K H p xs)→(atI xs i=some v)→(Q v H)→rIxT K x y H Q
theorem ix_list:IxR X (rIxL X.K):=by
 intro value slice pins s σ H x y v u Q I rx ry h hs
 obtain ⟨p,xs,i,z,rfl,rfl,hq,he,q⟩:=h
 cases rx
 obtain ⟨t,rfl⟩:=ry
 obtain ⟨its,r,pl,hz⟩:=I.list hq
 obtain ⟨j,h1,h2,h3,h4,h5⟩:=atI_get he
 obtain ⟨w,ew,rw'⟩:=r.get h2
 have hl:=r.length
 have hn:=line63
 have fin:EP X pins σ Q w s:=⟨z,H,I,rw',q⟩
 by_cases h0:0≤i
 ·have hj:i.toNat=j:=by
   rw [seqIndex_of h0 h5] at h1
   exact Option.some.inj h1
  exact item_listR pl.isList h0 (by omega) (by rw [hj]; simpa using ew) fin hs
 ·have hj:(i+(its.toArray.size:Int)).toNat=j:=by
   rw [seqIndex_neg (by omega) h4] at h1
   rw [List.size_toArray,← hl]
   exact Option.some.inj h1
  exact subscriptTail_builtinR (x:=w) pl.isList.typeIs slot_list_getitem.lookup
   (wpAny_getItem_list_neg (Q:=fun r s'=>r=w∧EP X pins σ Q r s') pl.isList (by omega) (by rw [List.size_toArray]<;>omega) (by omega) (by rw [hj]; simpa using ew) ⟨rfl,fin⟩) hs
theorem ix_tup:IxR X (rIxT X.K):=by
 intro value slice pins s σ H x y v u Q I rx ry h hs
 obtain ⟨p,xs,i,z,rfl,rfl,hq,he,q⟩:=h
 cases rx
 obtain ⟨t,rfl⟩:=ry
 obtain ⟨its,r,pl,hz⟩:=I.tuple hq
 obtain ⟨j,h1,h2,h3,h4,h5⟩:=atI_get he
 obtain ⟨w,ew,rw'⟩:=r.get h2
 have hl:=r.length
 have hn:=line63
 have fin:EP X pins σ Q w s:=⟨z,H,I,rw',q⟩
 exact subscriptTail_builtinR (x:=w) pl.typeIs slot_tuple_getitem.lookup
  (getItem_tuple (j:=j) (Q:=fun r s'=>r=w∧EP X pins σ Q r s') pl (by omega) (by omega) (by rw [List.size_toArray,← hl]; exact h1) (by simpa using ew) ⟨rfl,fin⟩) hs
theorem mapSeq_set (its:List Value) (n j:Nat) (u:Value):Obj.mapSeq (·.setIfInBounds j u) { cls:=.type "list",data:=.seq its.toArray n }={ cls:=.type "list",data:=.seq (its.set j u).toArray n }:=by
 simp [Obj.mapSeq]
theorem Inv.lst {pins:List (Addr×Obj)} {σ:St} {H:Hp} {s:Shared} {p:Addr} {xs:List V} (I:Inv X pins σ H s) (h:H p=some (.lst xs)) :
  ∃ (its:List Value) (n:Nat),Vals xs its∧s.heap.get? p=some { cls:=.type "list",data:=.seq its.toArray n }∧xs.length≤sizeLine:=by
 obtain ⟨z,its,n,r,e⟩:=I.hok p _ h
 exact ⟨its,n,r,e,z⟩
theorem Inv.lstUpd {pins:List (Addr×Obj)} {σ:St} {H:Hp} {s:Shared} {p:Addr} {xs ys:List V} {its its':List Value} {n n':Nat} {f:Obj→Obj} (I:Inv X pins σ H s) (h:H p=some (.lst xs))
  (ho:s.heap.get? p=some { cls:=.type "list",data:=.seq its.toArray n }) (hf:f { cls:=.type "list",data:=.seq its.toArray n }={ cls:=.type "list",data:=.seq its'.toArray n' }) (r:Vals ys its') (hz:ys.length≤sizeLine) (t:Nat) :
  Inv X pins σ (upd H p (.lst ys)) { s with heap:=s.heap.update p f,toks:=t }:=by
 have e:(s.heap.update p f).get? p=some { cls:=.type "list",data:=.seq its'.toArray n' }:=by
  rw [Heap.get?_update_self f ho (by rw [hf]<;>rfl),hf]
 refine I.write (x:=p) (e:=p) (by rw [h]; trivial) (.inl rfl) (fun b u hb q=>(Heap.get?_update_other _ _ (Ne.symm hb)).trans q) ⟨_,e⟩ ?_
 exact ⟨hz,its',n',r,e⟩
inductive rSetL (o:V) (i:V) (v:V) (H:Hp) (Q:(Hp→Prop)):Prop
 | mk:∀ p xs k j,(o=.ref p)→(i=.int k)→(H p=some (.lst xs))→(ixN xs.length k=some j)→(Q (upd H p (.lst (xs.set j v))))→rSetL o i v H Q
theorem set_list:PSet X rSetL:=by
 intro pins s σ H o i v ov iv u Q I ro ri rv h
 obtain ⟨p,xs,k,j,rfl,rfl,hp,hj,q⟩:=h
 cases ro
 obtain ⟨t,rfl⟩:=ri
 obtain ⟨its,n,r,ho,hz⟩:=I.lst hp
 obtain ⟨h1,h2,h3,h4⟩:=ixN_seq hj
 have hl:=r.length
 have hn:=line63
 have I':Inv X pins σ (upd H p (.lst (xs.set j v))) { s with heap:=s.heap.update p (Obj.mapSeq (·.setIfInBounds j u)) } :=
  I.lstUpd hp ho (mapSeq_set its n j u) (r.set rv j) (by rw [List.length_set]; exact hz) s.toks
 by_cases h0:0≤k
 ·have hk:k.toNat=j:=by
   rw [seqIndex_of h0 h4] at h1
   exact Option.some.inj h1
  exact PySem.W.ki_setAt ho h0 (by omega) (by rw [List.size_toArray,← hl]; exact h4) (by rw [hk]; exact ⟨_,I',q⟩)
 ·have hk:(k+(its.toArray.size:Int)).toNat=j:=by
   rw [seqIndex_neg (by omega) h3] at h1
   rw [List.size_toArray,← hl]
   exact Option.some.inj h1
  exact PySem.W.ki_setBack ho (by omega) (by rw [List.size_toArray,← hl]; exact h3) (by omega) (by rw [hk]; exact ⟨_,I',q⟩)
theorem slice_bounds (lo hi:Option Int) (n:Nat):(sliceBounds lo hi none n).1=((HT.sIx n 0 lo:Nat):Int)∧(sliceBounds lo hi none n).2.1=((HT.sIx n n hi:Nat):Int)∧(sliceBounds lo hi none n).2.2=1:=by
 refine ⟨?_,?_,rfl⟩
 ·cases lo with
  | none=>simp [sliceBounds,HT.sIx]
  | some i =>
   simp only [sliceBounds,HT.sIx,Option.getD_none,show (1:Int)>0 by decide,if_true]
   by_cases h:i<0
   ·simp only [h,if_true]<;>omega
   ·simp only [h,if_false]<;>omega
 ·cases hi with
  | none=>simp [sliceBounds,HT.sIx]
  | some i =>
   simp only [sliceBounds,HT.sIx,Option.getD_none,show (1:Int)>0 by decide,if_true]
   by_cases h:i<0
   ·simp only [h,if_true]<;>omega
   ·simp only [h,if_false]<;>omega
theorem slicePick_cut (its:List Value) (lo hi:Option Int):slicePick its.toArray lo hi none=((its.drop (HT.sIx its.length 0 lo)).take (HT.sIx its.length its.length hi-HT.sIx its.length 0 lo)).toArray:=by
 obtain ⟨h1,h2,h3⟩:=slice_bounds lo hi its.toArray.size
 unfold slicePick
 rw [h1,h2,h3]
 simp only [sliceRange_one,pick_run,List.size_toArray]<;>rfl
inductive rSlL (K:PySem.W.Frag) (x:V) (lo:Option Int) (hi:Option Int) (H:Hp) (Q:VK):Prop
 | mk:∀ a xs,(x=.ref a)→(SqL K H a xs)→(∀ p,H p=none→Q (.ref p) (upd H p (.lst (cutV xs lo hi))))→rSlL K x lo hi H Q
theorem sl_list:SlR X (rSlL X.K):=by
 intro pins s σ H x v vl vu lo hi sl Q I rx hs pl pu h
 obtain ⟨a,xs,rfl,hx,q⟩:=h
 cases rx
 obtain ⟨its,r,ht,hz⟩:=I.list hx
 have hlen:=r.length
 refine ⟨"list",_,slot_list_getitem.lookup,ht.isList.typeIs,?_⟩
 refine wpAny_getItem_list_slice ht.isList hs pl pu .none (by simp) ?_ (by rw [List.size_toArray]<;>omega)
 rw [slicePick_cut,← hlen]
 refine ⟨.ref s.heap.objs.size,_,I.laid (t':=s.toks) (o:=.lst (cutV xs lo hi)) (fun b ob q=>Heap.get?_push_of_some _ q) (Nat.le_refl _) ?_,rfl,q _ (I.hok.fresh (Nat.le_refl _))⟩
 exact ⟨Nat.le_trans (cutV_length xs lo hi) hz,_,0,(r.drop (HT.sIx xs.length 0 lo)).take (HT.sIx xs.length xs.length hi-HT.sIx xs.length 0 lo),Heap.get?_push_size _ rfl⟩
def flatV:V→Bool
 | .non=>true
 | .bl _=>true
 | .int _=>true
 | .str _=>true
 | _=>false
def eqV:V→V→Bool
 | .non,.non=>true
 | .bl a,.bl b=>a==b
 | .bl a,.int b=>(if a then 1 else 0)==b
 | .int a,.bl b=>a==(if b then 1 else 0)
 | .int a,.int b=>a==b
 | .str a,.str b=>a==b
 | _,_=>false
theorem eqAt_V {A:Around} {s:Shared} {y x:V} {u v:Value} (ry:RelV y u) (rx:RelV x v) (fy:flatV y=true) (fx:flatV x=true):SeqAt.EqAt A s u v (eqV y x):=by
 cases y with
 | non =>
  cases ry
  cases x with
  | non=>cases rx; exact SeqAt.EqAt.same _
  | bl b=>cases rx; exact SeqAt.EqAt.none_bool b
  | int b=>obtain ⟨t,rfl⟩:=rx; exact SeqAt.EqAt.none_int b t
  | str b=>obtain ⟨t,rfl⟩:=rx; exact SeqAt.EqAt.none_str b t
  | _=>exact absurd (show false=true from fx) Bool.false_ne_true
 | bl a =>
  cases ry
  cases x with
  | non=>cases rx; exact SeqAt.EqAt.bool_none a
  | bl b=>cases rx; exact SeqAt.EqAt.bool_bool a b
  | int b=>obtain ⟨t,rfl⟩:=rx; exact SeqAt.EqAt.bool_int a b t
  | str b=>obtain ⟨t,rfl⟩:=rx; exact SeqAt.EqAt.bool_str a b t
  | _=>exact absurd (show false=true from fx) Bool.false_ne_true
 | int a =>
  obtain ⟨t',rfl⟩:=ry
  cases x with
  | non=>cases rx; exact SeqAt.EqAt.int_none a t'
  | bl b=>cases rx; exact SeqAt.EqAt.int_bool a t' b
  | int b=>obtain ⟨t,rfl⟩:=rx; exact SeqAt.EqAt.int_int a t' b t
  | str b=>obtain ⟨t,rfl⟩:=rx; exact SeqAt.EqAt.int_str a t' b t
  | _=>exact absurd (show false=true from fx) Bool.false_ne_true
 | str a =>
  obtain ⟨t',rfl⟩:=ry
  cases x with
  | non=>cases rx; exact SeqAt.EqAt.str_none a t'
  | bl b=>cases rx; exact SeqAt.EqAt.str_bool a t' b
  | int b=>obtain ⟨t,rfl⟩:=rx; exact SeqAt.EqAt.str_int a t' b t
  | str b=>obtain ⟨t,rfl⟩:=rx; exact SeqAt.EqAt.str_str a t' b t
  | _=>exact absurd (show false=true from fx) Bool.false_ne_true
 | _=>exact absurd (show false=true from fy) Bool.false_ne_true
def eqU (x:V) (u:Value):Bool:=match u with
 | .none=>eqV .non x
 | .bool b=>eqV (.bl b) x
 | .int i _=>eqV (.int i) x
 | .str z _=>eqV (.str z) x
 | _=>false
theorem eqU_of {x y:V} {u:Value} (r:RelV y u) (f:flatV y=true):eqU x u=eqV y x:=by
 cases y with
 | non=>cases r; rfl
 | bl b=>cases r; rfl
 | int i=>obtain ⟨t,rfl⟩:=r; rfl
 | str z=>obtain ⟨t,rfl⟩:=r; rfl
 | _=>exact absurd (show false=true from f) Bool.false_ne_true
theorem any_eqU {x:V}:∀ {xs:List V} {us:List Value},Vals xs us→xs.all flatV=true→us.any (eqU x)=xs.any fun y=>eqV y x
 | _,_,.nil,_=>rfl
 | y::xs,u::us,.cons r t,f=>by
  rw [List.all_cons,Bool.and_eq_true] at f
  rw [List.any_cons,List.any_cons,eqU_of r f.1,any_eqU t f.2]
theorem mem_eqAt {A:Around} {s:Shared} {x:V} {v:Value} (rx:RelV x v) (fx:flatV x=true):∀ {xs:List V} {us:List Value},Vals xs us→xs.all flatV=true→∀ u∈us,SeqAt.EqAt A s u v (eqU x u)
 | _,_,.nil,_=>fun u hu=>by cases hu
 | y::xs,u::us,.cons r t,f=>fun u' hu=>by
  rw [List.all_cons,Bool.and_eq_true] at f
  rcases List.mem_cons.mp hu with rfl | hu
  ·rw [eqU_of r f.1]; exact eqAt_V r rx f.1 fx
  ·exact mem_eqAt rx fx t f.2 u' hu
def inV (x:V) (xs:List V):Bool:=xs.any fun y=>eqV y x
inductive rIn (K:PySem.W.Frag) (neg:Bool) (x:V) (y:V) (H:Hp) (Q:VK):Prop
 | mk:∀ p xs,(y=.ref p)→((SqL K H p xs∨SqT K H p xs))→(flatV x=true)→(xs.all flatV=true)→(Q (.bl (if neg then !inV x xs else inV x xs)) H)→rIn K neg x y H Q
theorem op_notIn_seq:OpR X (compareOp .NotIn) (rIn X.K true):=by
 intro pins s σ H x y v u Q I rx ry h
 obtain ⟨p,xs,rfl,hq,fx,fs,q⟩:=h
 cases ry
 rcases hq with hq | hq
 ·obtain ⟨its,r,pl,hz⟩:=I.list hq
  refine SeqAt.notIn_listAt (eqU x) pl.isList (fun w hw=>mem_eqAt rx fx r fs w (by simpa using hw)) ⟨.bl _,H,I,rfl,?_⟩
  rw [show its.toArray.any (eqU x)=its.any (eqU x) by simp,any_eqU r fs]
  exact q
 ·obtain ⟨its,r,pl,hz⟩:=I.tuple hq
  refine SeqAt.notIn_tupleAt (eqU x) pl (fun w hw=>mem_eqAt rx fx r fs w (by simpa using hw)) ⟨.bl _,H,I,rfl,?_⟩
  rw [show its.toArray.any (eqU x)=its.any (eqU x) by simp,any_eqU r fs]
  exact q
inductive rLen (K:PySem.W.Frag) (xs:List V) (H:Hp) (Q:VK):Prop
 | mk:∀ p ys,(xs=[.ref p])→(SqL K H p ys∨SqT K H p ys)→(Q (.int ys.length) H)→rLen K xs H Q
theorem call_len_seq:CallR X (.builtin "len") (rLen X.K):=by
 intro pins s σ H xs us Q I r h
 obtain ⟨p,ys,rfl,hq,q⟩:=h
 obtain ⟨u,rfl,rx⟩:=vals1 r
 cases rx
 have hn:=line63
 rcases hq with hq | hq
 ·obtain ⟨its,r',pl,hz⟩:=I.list hq
  have hlen:=r'.length
  exact Calls.call_len_list pl.isList (by simp only [List.size_toArray]<;>omega) ⟨.int ys.length,H,I.tok _,⟨s.toks+1,by rw [List.size_toArray,hlen]⟩,q⟩
 ·obtain ⟨its,r',pl,hz⟩:=I.tuple hq
  have hlen:=r'.length
  exact len_tuple pl (by simp only [List.size_toArray]<;>omega) ⟨.int ys.length,H,I.tok _,⟨s.toks+1,by rw [List.size_toArray,hlen]⟩,q⟩
theorem call_len_str:CallR X (.builtin "len") (fun xs H Q=>∃ z,xs=[.str z]∧z.length≤sizeLine∧Q (.int z.length) H):=by
 intro pins s σ H xs us Q I r h
 obtain ⟨z,rfl,hz,q⟩:=h
 obtain ⟨u,rfl,t,rfl⟩:=vals1 r
 have hn:=line63
 exact len_str (by omega) ⟨.int z.length,H,I.tok _,⟨_,rfl⟩,q⟩
inductive rLstOf (K:PySem.W.Frag) (xs:List V) (H:Hp) (Q:VK):Prop
 | mk:∀ p ys,(xs=[.ref p])→(SqL K H p ys∨SqT K H p ys)→(∀ l,H l=none→Q (.ref l) (upd H l (.lst ys)))→rLstOf K xs H Q
theorem call_list_of:CallR X (.type "list") (rLstOf X.K):=by
 intro pins s σ H xs us Q I r h
 obtain ⟨p,ys,rfl,hq,q⟩:=h
 obtain ⟨u,rfl,rx⟩:=vals1 r
 cases rx
 have fin:∀ (its:List Value),Vals ys its→ys.length≤sizeLine→∀ (h':Heap) (c':Nat),(∀ b o',s.heap.get? b=some o'→h'.get? b=some o') →
   h'.get? s.heap.objs.size=some { cls:=.type "list",dict:=none,data:=.seq its.toArray c',slots:=#[] }→EP X pins σ Q (.ref s.heap.objs.size) { s with heap:=h' }:=fun its r' hz h' c' kp e =>
  ⟨.ref s.heap.objs.size,_,I.laid (t':=s.toks) kp (Nat.le_refl _) (show ObjOk X.prog X.w _ h' _ (.lst ys) from ⟨hz,its,c',r',e⟩),rfl,q _ (I.hok.fresh (Nat.le_refl _))⟩
 rcases hq with hq | hq
 ·obtain ⟨its,r',pl,hz⟩:=I.list hq
  have hlen:=r'.length
  obtain ⟨o,ho,hc,n,hd⟩:=pl.isList
  exact call_list_seq p (.inl rfl) ho hc hd (fun h' c' kp e=>fin its r' hz h' c' kp e) (by simp only [List.size_toArray]<;>omega)
 ·obtain ⟨its,r',pl,hz⟩:=I.tuple hq
  have hlen:=r'.length
  obtain ⟨o,ho,hc,n,hd⟩:=pl
  exact call_list_seq p (.inr rfl) ho hc hd (fun h' c' kp e=>fin its r' hz h' c' kp e) (by simp only [List.size_toArray]<;>omega)
def tyV (K:PySem.W.Frag) (T:String) (x:V) (H:Hp):Prop:=match x with
 | .str _=>T="str"
 | .int _=>T="int"
 | .ref p=>(T="list" ∧ ∃ xs,SqL K H p xs)∨(T="tuple" ∧ ∃ o,K.lookup p=some o∧o.cls=.type "tuple" ∧ o.dict=none) ∨
   (T="dict" ∧ ((∃ kvs,H p=some (.dK kvs))∨∃ kvs,H p=some (.dT kvs)))∨(T="set" ∧ ∃ S n,H p=some (.set S n))
 | _=>False
theorem tyV_is {pins:List (Addr×Obj)} {σ:St} {H:Hp} {s:Shared} {T:String} {x:V} {v:Value} (I:Inv X pins σ H s) (r:RelV x v) (ty:tyV X.K T x H) :
  s.TypeIs v T∧∀ a,v=.ref a→∃ ob,s.heap.get? a=some ob∧ob.dict=none:=by
 cases x with
 | str z =>
  obtain ⟨t,rfl⟩:=r
  cases (show T="str" from ty)
  exact ⟨typeIs_str s z t,fun _ e=>nomatch e⟩
 | int i =>
  obtain ⟨t,rfl⟩:=r
  cases (show T="int" from ty)
  exact ⟨typeIs_int s i t,fun _ e=>nomatch e⟩
 | ref p =>
  cases r
  rcases ty with ⟨rfl,xs,hq⟩ | ⟨rfl,o,hk,hc,hd⟩ | ⟨rfl,hk⟩ | ⟨rfl,S,n,hk⟩
  ·obtain ⟨its,_,pl,_⟩:=I.list hq
   refine ⟨pl.isList.typeIs,fun a e=>?_⟩
   cases e
   obtain ⟨o,n,e,c,hd,_⟩:=pl
   exact ⟨o,e,hd⟩
  ·refine ⟨⟨o,I.kIn p o hk,hc⟩,fun a e=>?_⟩
   cases e
   exact ⟨o,I.kIn _ o hk,hd⟩
  ·have z:∃ o,s.heap.get? p=some o∧o.ExactDict:=by
    rcases hk with ⟨kvs,hk⟩ | ⟨kvs,hk⟩
    ·obtain ⟨_,_,_,_,o,_,_,e,ex,_⟩:=I.hok p _ hk
     exact ⟨o,e,ex⟩
    ·obtain ⟨_,_,_,_,o,_,_,e,ex,_⟩:=I.hok p _ hk
     exact ⟨o,e,ex⟩
   obtain ⟨o,e,ex⟩:=z
   refine ⟨⟨o,e,ex.1⟩,fun a e2=>?_⟩
   cases e2
   exact ⟨o,e,ex.2.1⟩
  ·obtain ⟨o,_,_,_,e,ex,_⟩:=I.hok p _ hk
   refine ⟨⟨o,e,ex.1⟩,fun a e2=>?_⟩
   cases e2
   exact ⟨o,e,ex.2.1⟩
 | _=>exact False.elim ty
def tBM (K:PySem.W.Frag) (T:String) (r:V→List V→Hp→VK→Prop) (to:TE) (t:TA):TE:=fun σ H Q=>to σ H fun x H1=>tyV K T x H1∧t σ H1 fun xs H2=>r x xs H2 Q
variable {o e:Expr} {es:List Expr} {to:TE} {t:TA} {name:Str} {apos cpos:Pos} {T id:String} {r:V→List V→Hp→VK→Prop}
theorem pe_bm (pa:PlainAttrs T) (slot:Slot T name id) (hty:typeOf (.builtin id)=pure (.type "method_descriptor")) (hm:MtR X id r) (ho:PE X o to) (ha:PA X (e::es) t)
  (hbase:attributeBase o name X.env (eval o X.env)=eval o X.env:=by rfl)
  (hfew:((backTo cpos (starEach (e::es) X.env)).all (fun x=>!x.1)&&(backToKw cpos (keywordEach [] X.env)).all (fun x=>x.1.isSome)
   && decide ((e::es).length+([]:List Keyword).length+(if ([]:List Keyword).isEmpty then 0 else 1)<30))=true:=by rfl)
  (hline:(apos.endLine==cpos.line)=true:=by rfl) (hs:starEach (e::es) X.env=(false,eval e X.env)::starEach es X.env:=by rfl) (hplain:(backTo cpos (starEach es X.env)).any (·.1)=false:=by rfl) :
  PE X (.Call (.Attribute o name apos) (e::es) [] cpos) (tBM X.K T r to t):=by
 intro pins s σ H Q I h
 refine wpAny_Call_method_late hbase hfew hline rfl (thn (ho pins s σ H _ I h) fun v s1 ⟨x,H1,I1,r1,ty,q1⟩=>?_)
 obtain ⟨h1,h2⟩:=tyV_is I1 r1 ty
 refine ⟨T,id,pa,slot,hty,h1,h2,?_⟩
 have hA:=ha cpos pins s1 σ H1 _ I1 q1
 rw [hs] at hA ⊢
 refine Calls.callWith_builtin (by show (false||(backTo cpos (starEach es X.env)).any (·.1))=false; rw [hplain]<;>rfl) (Calls.evalArgs_plain ?_)
 exact thn hA fun us s2 ⟨vs,H2,I2,r2,q2⟩=>hm pins s2 σ H2 x vs v us Q I2 r1 r2 q2
/- xs.append(e),list.index on a module's tuple .. are MtR facts of 06m -/
end
end L2
namespace L2
open PySem PySem.Spec PyProof.Rows
def MtM (X:Cx) (id:String) (r:V→List V→Hp→VK→Prop):Prop :=
 ∀ (pins:List (Addr×Obj)) (s:Shared) (σ:St) (H:Hp) (x:V) (xs:List V) (v:Value) (us:List Value) (Q:VK),Inv X pins σ H s→RelV x v→Vals xs us→r x xs H Q →
  wpAny (model X.prog X.w) X.A (call (.builtin id) (v::us)) (EP X pins σ Q) X.xe s
theorem Vals.one:∀ {x:V} {us:List Value},Vals [x] us→∃ u,us=[u]∧RelV x u
 | _,_,.cons r .nil=>⟨_,rfl,r⟩
theorem Vals.eraseIdx:∀ {xs:List V} {us:List Value} (i:Nat),Vals xs us→Vals (xs.eraseIdx i) (us.eraseIdx i)
 | _,_,_,.nil=>.nil
 | _,_,0,.cons _ t=>t
 | _,_,i+1,.cons r t=>.cons r (Vals.eraseIdx i t)
theorem Vals.rep {xs:List V} {us:List Value} (h:Vals xs us):∀ k:Nat,Vals (List.replicate k xs).flatten (List.replicate k us).flatten
 | 0=>.nil
 | k+1=>by
  rw [List.replicate_succ,List.replicate_succ,List.flatten_cons,List.flatten_cons]
  exact Vals.append h (Vals.rep h k)
theorem len_erase {α:Type}:∀ (l:List α) (i:Nat),(l.eraseIdx i).length≤l.length
 | [],_=>Nat.le_refl _
 | _::_,0=>Nat.le_succ _
 | _::r,i+1=>Nat.succ_le_succ (len_erase r i)
theorem foldl_rep (its:List Value):∀ (k:Nat) (acc:List Value),
  List.foldl (fun x1 x2=>x1++x2) acc.toArray (List.replicate k its.toArray)=(acc++(List.replicate k its).flatten).toArray
 | 0,acc=>by simp
 | k+1,acc=>by
  have e:acc.toArray++its.toArray=(acc++its).toArray:=by simp
  have e2:(acc++its)++(List.replicate k its).flatten=acc++(List.replicate (k+1) its).flatten:=by
   rw [List.replicate_succ,List.flatten_cons,List.append_assoc]
  rw [← e2,← foldl_rep its k (acc++its),← e,List.replicate_succ,List.foldl_cons]
section
variable {X:Cx} {pins:List (Addr×Obj)} {σ:St} {H:Hp} {s:Shared} {l b:Addr} {xs ys zs:List V}
theorem Inv.lset {its its':List Value} {n:Nat} {f:Array Value→Array Value} {t':Nat} (I:Inv X pins σ H s) (hH:H l=some (.lst xs))
  (e:s.heap.get? l=some { cls:=.type "list",data:=.seq its.toArray n }) (hf:f its.toArray=its'.toArray) (hv:Vals ys its') (hz:ys.length≤sizeLine) :
  Inv X pins σ (upd H l (.lst ys)) { s with heap:=s.heap.update l (Obj.mapSeq f),toks:=t' }:=by
 have q:=PySem.IsL.update e f
 rw [hf] at q
 refine I.write (x:=l) (e:=l) (by rw [hH]; exact trivial) (.inl rfl) (fun b' u hb hu=>(Heap.get?_update_other s.heap (Obj.mapSeq f) (Ne.symm hb)).trans hu) ⟨_,q⟩ ?_
 exact ⟨hz,its',_,hv,q⟩
theorem Inv.lnew {its:List Value} {t':Nat} (I:Inv X pins σ H s) (hv:Vals ys its) (hz:ys.length≤sizeLine) :
  Inv X pins σ (upd H s.heap.objs.size (.lst ys)) { s with heap:=s.heap.push { cls:=.type "list",data:=.seq its.toArray },toks:=t' } :=
 I.laid (fun _ _ q=>Heap.get?_push_of_some _ q) (Nat.le_refl _) ⟨hz,its,0,hv,Heap.get?_push_size _ rfl⟩
theorem Inv.fresh (I:Inv X pins σ H s):H s.heap.objs.size=none:=I.hok.fresh (Nat.le_refl _)
theorem Inv.lstM (I:Inv X pins σ H s) (hH:H l=some (.lst xs)):xs.length≤sizeLine∧∃ (its:List Value) (n:Nat),Vals xs its∧xs.length=its.length∧s.heap.get? l=some { cls:=.type "list",data:=.seq its.toArray n }:=by
 obtain ⟨z,its,n,r,e⟩:=I.hok l _ hH
 exact ⟨z,its,n,r,r.length,e⟩
theorem notLongL {n:Nat} (h:n≤sizeLine):Builtin.List.listTooLong n=false:=by
 unfold Builtin.List.listTooLong
 exact decide_eq_false (by omega)
end
section
variable {X:Cx}
inductive rAppend (x:V) (vs:List V) (H:Hp) (Q:VK):Prop
 | mk:∀ l xs y,(x=.ref l)→(vs=[y])→(H l=some (.lst xs))→(xs.length<sizeLine)→(Q .non (upd H l (.lst (xs++[y]))))→rAppend x vs H Q
theorem mt_append:MtM X "list.append" rAppend:=by
 intro pins s σ H x vs v us Q I rx rv h
 obtain ⟨l,xs,y,rfl,rfl,hH,hz,q⟩:=h
 cases rx
 obtain ⟨u,rfl,ru⟩:=rv.one
 obtain ⟨z,its,n,r,hl,e⟩:=I.lstM hH
 refine call_meets F.slot_list_append ⟨_,e,rfl⟩ F.entry_list_append (F.args_list_append_2 _ _) (PySem.list_append l its.toArray n u (by rw [List.size_toArray]; omega)) ⟨e,?_⟩
 refine ⟨.non,_,I.lset (its':=its++[u]) hH e (by simp) (r.append (.cons ru .nil)) ?_,rfl,q⟩
 rw [List.length_append,List.length_singleton]
 omega
inductive rExtend (x:V) (vs:List V) (H:Hp) (Q:VK):Prop
 | mk:∀ l b xs zs,(x=.ref l)→(vs=[.ref b])→(H l=some (.lst xs))→(H b=some (.lst zs))→(xs.length+zs.length≤sizeLine)→(Q .non (upd H l (.lst (xs++zs))))→rExtend x vs H Q
theorem mt_extend:MtM X "list.extend" rExtend:=by
 intro pins s σ H x vs v us Q I rx rv h
 obtain ⟨l,b,xs,zs,rfl,rfl,hH,hB,hz,q⟩:=h
 cases rx
 obtain ⟨u,rfl,ru⟩:=rv.one
 cases ru
 obtain ⟨z,its,n,r,hl,e⟩:=I.lstM hH
 obtain ⟨z2,its2,n2,r2,hl2,e2⟩:=I.lstM hB
 have hsz:its.toArray.size+its2.toArray.size≤sizeLine:=by rw [List.size_toArray,List.size_toArray]; omega
 have hlong:¬ (!its.toArray.isEmpty&&Builtin.List.listTooLong (its.toArray.size+its2.toArray.size))=true:=by
  rw [notLongL hsz,Bool.and_false]
  exact Bool.false_ne_true
 refine call_meets F.slot_list_extend ⟨_,e,rfl⟩ F.entry_list_extend (F.args_list_extend_2 _ _)
  (AutoSeq1.list_extend_list_list_0 l its.toArray n b its2.toArray n2 hlong (by rw [List.size_toArray]; omega) (by omega)) ⟨e,e2,?_⟩
 refine ⟨.non,_,I.lset (its':=its++its2) hH e (by simp) (r.append r2) ?_,rfl,q⟩
 rw [List.length_append]
 omega
inductive rPopAt (x:V) (vs:List V) (H:Hp) (Q:VK):Prop
 | mk:∀ l xs i k y,(x=.ref l)→(vs=[.int i])→(H l=some (.lst xs))→(-(2^63)≤i)→(i<2^63)→(seqIndex? i xs.length=some k)→(xs[k]?=some y)→(Q y (upd H l (.lst (xs.eraseIdx k))))→rPopAt x vs H Q
theorem mt_popAt:MtM X "list.pop" rPopAt:=by
 intro pins s σ H x vs v us Q I rx rv h
 obtain ⟨l,xs,i,k,y,rfl,rfl,hH,h1,h2,hk,hy,q⟩:=h
 cases rx
 obtain ⟨u,rfl,ru⟩:=rv.one
 obtain ⟨t,rfl⟩:=ru
 obtain ⟨z,its,n,r,hl,e⟩:=I.lstM hH
 obtain ⟨w,hw,rw'⟩:=r.get hy
 refine call_meets F.slot_list_pop ⟨_,e,rfl⟩ F.entry_list_pop (F.args_list_pop_2 _ _)
  (MeetsSeq.list_pop_at l its.toArray n i t k w (fitsIndex_both h1 h2) (by rw [List.size_toArray,← hl]; exact hk) (by rw [← Array.getElem?_toList]; exact hw) (by rw [List.size_toArray]; omega)) ⟨e,?_⟩
 refine ⟨y,_,I.lset (its':=its.eraseIdx k) hH e ?_ (r.eraseIdx k) ?_,rw',q⟩
 ·show its.toArray.eraseIdxIfInBounds k=(its.eraseIdx k).toArray
  rw [List.eraseIdxIfInBounds_toArray]
 ·have:=len_erase xs k
  omega
inductive rCat (x:V) (y:V) (H:Hp) (Q:VK):Prop
 | mk:∀ l b xs zs,(x=.ref l)→(y=.ref b)→(H l=some (.lst xs))→(H b=some (.lst zs))→(xs.length+zs.length≤sizeLine)→(∀ p,H p=none→Q (.ref p) (upd H p (.lst (xs++zs))))→rCat x y H Q
theorem op_cat:OpR X (binaryOp .Add) rCat:=by
 intro pins s σ H x y v u Q I rx ry h
 obtain ⟨l,b,xs,zs,rfl,rfl,hH,hB,hz,q⟩:=h
 cases rx
 cases ry
 obtain ⟨z,its,n,r,hl,e⟩:=I.lstM hH
 obtain ⟨z2,its2,n2,r2,hl2,e2⟩:=I.lstM hB
 refine PySem.P.add_list e e2 ?_ (by rw [List.size_toArray,List.size_toArray]; omega)
 have ea:its.toArray++its2.toArray=(its++its2).toArray:=by simp
 rw [ea]
 exact ⟨.ref _,_,I.lnew (t':=s.toks) (r.append r2) (by rw [List.length_append]; omega),rfl,q _ I.fresh⟩
inductive rRep (x:V) (y:V) (H:Hp) (Q:VK):Prop
 | mk:∀ l k xs,(x=.ref l)→(y=.int k)→(H l=some (.lst xs))→(-(2^63)≤k)→(k<2^63)→(xs.length*k.toNat≤sizeLine)→(∀ p,H p=none→Q (.ref p) (upd H p (.lst (List.replicate k.toNat xs).flatten)))→rRep x y H Q
theorem len_rep {α:Type} (xs:List α) (k:Nat):(List.replicate k xs).flatten.length=k*xs.length:=by
 induction k with
 | zero=>simp
 | succ k ih=>rw [List.replicate_succ,List.flatten_cons,List.length_append,ih,Nat.succ_mul,Nat.add_comm]
theorem op_rep:OpR X (binaryOp .Mult) rRep:=by
 intro pins s σ H x y v u Q I rx ry h
 obtain ⟨l,k,xs,rfl,rfl,hH,h1,h2,hz,q⟩:=h
 cases rx
 obtain ⟨t,rfl⟩:=ry
 obtain ⟨z,its,n,r,hl,e⟩:=I.lstM hH
 have hlen:its.toArray.size*k.toNat≤sizeLine:=by rw [List.size_toArray,← hl]; exact hz
 have hcap:¬ its.toArray.size*k.toNat>(2^63-1)/8:=by
  have:(sizeLine:Nat)≤(2^63-1)/8:=by decide
  omega
 have hfit:¬ (!Builtin.List.listFitsIndex k)=true:=by
  rw [fitsIndex_both h1 h2]
  exact Bool.false_ne_true
 have hlong:¬ Builtin.List.listTooLong (its.toArray.size*k.toNat)=true:=by
  rw [notLongL hlen]
  exact Bool.false_ne_true
 have hnew:List.foldl (fun x1 x2=>x1++x2) #[] (List.replicate (if its.toArray.isEmpty=true then 0 else k.toNat) its.toArray)=(List.replicate k.toNat its).flatten.toArray:=by
  have f0:∀ m:Nat,List.foldl (fun x1 x2=>x1++x2) #[] (List.replicate m its.toArray)=(List.replicate m its).flatten.toArray:=fun m=>by
   have:=foldl_rep its m []
   rw [List.nil_append] at this
   exact this
  rw [f0]
  cases its with
  | nil=>simp
  | cons a r'=>rw [if_neg (by simp)]
 refine wpAny_binaryOp_repeat_ref (T:="list") (U:="int") (by decide) ⟨_,e,rfl⟩ (fun s'=>typeIs_int s' k t) noFill_list_mul F.fills_int_mul F.slot_int_rmul repeat_list F.slot_int_index.lookup
  (call_meets F.slot_int_rmul (typeIs_int s k t) F.entry_int_rmul (F.args_int_rmul_2 _ _) (int___rmul___int_list k t l its.toArray n)
   ⟨e,rfl,⟨_,e,rfl⟩,call_meets F.slot_list_mul ⟨_,e,rfl⟩ F.entry_list_mul (F.args_list_mul_2 _ _) (AutoListH.list___mul___list_int_3 l its.toArray n k t hfit hcap hlong) ⟨e,?_⟩⟩)
 rw [hnew]
 exact ⟨.ref _,_,I.lnew (t':=s.toks) (r.rep k.toNat) (by rw [len_rep,Nat.mul_comm]; exact hz),rfl,q _ I.fresh⟩
end
section
variable {prog:Program} {w:World} {A:Around} {E:Value→Shared→Prop} {s:Shared}
end
section
variable {X:Cx}
end
end L2
namespace Att
open PySem PySem.W PySem.Calls PyProof.Rows
theorem ints_of_wellAll {P:Params} {h:Heap}:∀ (ns:List Int) (vs:List Value),WellAll P h vs (ns.map WData.int)→IntsAre vs ns:=by
 intro ns
 induction ns with
 | nil =>
  intro vs w
  rw [List.map_nil] at w
  cases w
  exact .nil
 | cons n ns ih =>
  intro vs w
  rw [List.map_cons] at w
  cases w with
  | cons a b =>
   cases a
   exact .cons _ _ (ih _ b)
theorem script_of {l:OpenLaw} {n:Nat} (hn:l.most=some n) {P:Params} {h:Heap} {args:List WData} {vals:List Value}
  (hpre:l.row.toRowW.claim.pre args=true) (hwl:WellAll P h vals args) :
  ∃ a vs ns,vals=[Value.ref a]∧args=[WData.list (ns.map WData.int)]∧h.get? a=some { cls:=.type "list",data:=.seq vs.toArray }∧IntsAre vs ns∧ns.length≤n:=by
 have hsh:WShape.hasAll [] args [.list .int]=true:=(pre_splitW hpre).1
 have hc:l.pre.holds [] { args:=args }=true:=(pre_splitW hpre).2
 obtain ⟨d,r,rfl,h1,h2⟩:=hasAllW_cons hsh
 obtain rfl:=hasAllW_nil h2
 obtain ⟨xs,rfl,h3⟩:=hasW_list h1
 obtain ⟨ns,rfl⟩:=items_int h3
 have hlen:ns.length≤n:=by
  unfold OpenLaw.pre at hc
  have h4:(WTm.not (.lt (.lit (.int (n:Int))) (.len (.arg 0)))).holds [] { args:=[.list (ns.map .int)] }=true:=by
   have h4:=(holds_andW hc).1
   rw [hn] at h4
   exact h4
  have h5:=condW_of h4 (w_not (w_lt w_lit (w_len_list (w_arg rfl))))
  rw [List.length_map] at h5
  refine Nat.le_of_not_lt fun q=>?_
  have q':(n:Int)<((ns.length:Nat):Int):=by omega
  first
   | (rw [decide_eq_true q'] at h5; exact absurd h5 (by decide))
   | (simp at h5; omega)
 cases hwl with
 | cons w1 w2 =>
  cases w2
  cases w1 with
  | list ho hall=>exact ⟨_,_,ns,rfl,rfl,ho,ints_of_wellAll ns _ hall,hlen⟩
theorem post_true (l:OpenLaw) (args:List WData):l.row.toRowW.claim.post args (.bool true) args=true :=
 postW_of (r:=l.row.toRowW) (X:=(true==true))
  (show WShape.has [] (.bool true) .bool=true by first | rfl | decide | simp [WShape.has,WShape.arms,WShape.armsAll])
  (show (WTm.eq .res (.lit (.bool true))).value [] { args:=args,res:=some (.bool true),after:=args }=some (.bool (true==true)) from w_eq_bool (w_res rfl) w_lit) rfl
theorem attach_call {l:OpenLaw} {n:Nat} {q:Program} {loose:List Str} {XP:(Str→Option Value)→Heap→Prop} {YP:World→Heap→Prop} {d:DefRec}
  (hn:l.most=some n) (hdf:d.params.defaults=[])
  (call:∀ (w:World) (s₀ s₁:Shared) (mg mb:Str→Option Value) (fa:Addr) (o:Obj) (pm cd doc:Value) (a:Addr) (vs:List Value) (ns:List Int),
   Ground q loose [] XP w s₀ mg mb s₁.heap→YP w s₁.heap →
   s₁.heap.get? fa=some o→o.data=.func (docDef d.name d.params d.body d.scope pm cd doc)→s₁.heap.CodeRec cd d.name→mg d.name=some (.ref fa) →
   s₁.heap.get? a=some { cls:=.type "list",data:=.seq vs.toArray }→IntsAre vs ns→ns.length≤n→s₁.gens=#[] →
   codeAny (model l.prog w) callerA (.call (.ref fa) ⟨[.ref a],[]⟩) (fun r s'=>r=.ok (.ret (.bool true))∧OldK s₁.heap s'.heap∧s'.os=s₁.os∧AllBare s'.gens) s₁) :
  WalkO q loose XP YP l.row.toRowW d [] (fun f vs=>PySem.call f vs):=by
 intro w s₀ s₁ mg mb G Y fa o pm cd doc dV kV ho hd hcd hD hmg hg args vals as hpre hlay hrd hwl hlo
 obtain rfl:dV=.none:=Dflts.none hD hdf
 obtain rfl:kV=.none:=Dflts.noKw hD
 obtain ⟨a,vs,ns,rfl,rfl,hobj,hints,hlen⟩:=script_of hn hpre hwl
 refine enter_call (codeAny_mono (call w s₀ s₁ mg mb fa o pm cd doc a vs ns G Y ho (fd_plain hd) hcd hmg hobj hints hlen hg) fun r s' hq=>?_)
 obtain ⟨rfl,h2,h3,h4⟩:=hq
 exact ⟨.inl ⟨.bool true,.bool true,[],rfl,fun _=>rfl,.bool true,post_true l _,fun _=>⟨List.Pairwise.nil,fun _ hm=>(nomatch hm)⟩⟩,h2,h3,h4⟩
section
variable {prog:Program} {w:World} {A:Around} {E:Value→Shared→Prop} {s:Shared} {K:Frag}
end
end Att
namespace L2
open PySem PySem.Spec PyProof.Rows
theorem vals_ints:∀ {vs:List Value} {ns:List Int},IntsAre vs ns→Vals (ns.map V.int) vs
 | _,_,.nil=>.nil
 | _,_,.cons n t h=>.cons ⟨t,rfl⟩ (vals_ints h)
def Only (H:Hp):Prop:=∀ b,H b=none∨∃ o xs,H b=some (.frz o (.lst xs))
theorem law_call {P:Program} {w:World} {K:PySem.W.Frag} {mg mb:Str→Option Value} {CX:CXT} {k:Nat} {fa a:Addr} {fd:FuncData} {x:Str} {sp:Sp} {s₁:Shared} {vs:List Value} {ns:List Int}
  (KX:K.In s₁.heap) (hns:s₁.heap.Ns mainGlobals mg) (hb:s₁.heap.Ns builtinsNs mb) (hbb:∀ x:Str,x≠"__name__" → mb x=bootBuiltins x) (hlim:s₁.heap.NoLimit) (hg:s₁.gens=#[])
  (ha:s₁.heap.get? a=some { cls:=.type "list",data:=.seq vs.toArray }) (hi:IntsAre vs ns) (hl:ns.length≤sizeLine) (hr:Room k callerA)
  (F:∀ base:Heap,K.In base→base.Ns mainGlobals mg→FnOk P w K mg base CX k fa fd [x] sp) (hbind:∀ (s:Shared) (u:Value),BindsTo s fd ⟨[u],[]⟩ [(x,u)])
  (hsp:∀ H:Hp,Only H→SqL K H a (ns.map V.int)→sp [.ref a] H (fun v _=>v=.bl true) fun _ _ _=>False)
  (hCX:∀ H e s',CX [] H s₁ (fun _ _ _=>False) e s'→False) :
  codeAny (model P w) callerA (.call (.ref fa) ⟨[.ref a],[]⟩) (fun r s'=>r=.ok (.ret (.bool true))∧OldK s₁.heap s'.heap∧s'.os=s₁.os∧AllBare s'.gens) s₁:=by
 have rv:=vals_ints hi
 have lenV:=hi.length
 have core:∀ H:Hp,Only H→SqL K H a (ns.map V.int)→HOk P w H s₁.heap→(∀ b,H b≠none→b=a)→(H a≠none→K.lookup a=none) →
   codeAny (model P w) callerA (.call (.ref fa) ⟨[.ref a],[]⟩) (fun r s'=>r=.ok (.ret (.bool true))∧OldK s₁.heap s'.heap∧s'.os=s₁.os∧AllBare s'.gens) s₁:=by
  intro H hO hS hok hA hK
  have base_of:∀ {b:Addr} {o:Obj},s₁.heap.get? b=some o→H b=none→(hidT s₁.heap H).get? b=some o:=fun e n=>hidT_get e n
  have noA:∀ {b:Addr} {o:Obj} {es:Array DictEntry} {ep:Nat},s₁.heap.get? b=some o→o.data=.dict es ep→H b=none:=fun {b o es ep} e d=>by
   cases q:H b with
   | none=>rfl
   | some u =>
    have e':b=a:=hA b (by rw [q]; simp)
    subst e'
    rw [ha] at e; cases e
    have d':Data.seq vs.toArray _=Data.dict es ep:=d
    cases d'
  have nsK:∀ {b:Addr} {m:Str→Option Value},s₁.heap.Ns b m→(hidT s₁.heap H).Ns b m:=fun {b m} ⟨o,es,ep,e,d,r⟩=>⟨o,es,ep,base_of e (noA e d),d,r⟩
  have hKb:K.In (hidT s₁.heap H):=fun b o e=>base_of (KX b o e) (by
   cases q:H b with
   | none=>rfl
   | some u =>
    have e':b=a:=hA b (by rw [q]; simp)
    subst e'
    rw [hK (by rw [q]; simp)] at e; cases e)
  have hM:Mod K mg (hidT s₁.heap H):=⟨hKb,nsK hns,⟨mb,nsK hb,hbb⟩,let ⟨mc,h1,h2⟩:=hlim; ⟨mc,nsK h1,h2⟩⟩
  have e0:Env0 P w K mg (hidT s₁.heap H) callerA [] s₁ H:=⟨rfl,hM,fun b o e=>of_hidT e,Nat.le_of_eq (hidT_size _ _),trivial,fun b hb=>absurd (show b∈([]:List Addr) from hb) (by simp),hok,.of_eq hg⟩
  refine codeAny_mono ((F _ hKb (nsK hns)).run callerA [] s₁ H ⟨[.ref a],[]⟩ [.ref a] [.ref a] _ _ hr e0 (hbind s₁ (.ref a)) (.cons rfl .nil) (hsp H hO hS)) fun r s' h=>?_
  cases r with
  | error e=>exact (hCX H e s' h).elim
  | ok fl =>
   cases fl with
   | next=>exact False.elim h
   | brk=>exact False.elim h
   | cont=>exact False.elim h
   | ret u =>
    obtain ⟨v,H',os,bare,un,hok',r',q⟩:=h
    have q':v=.bl true:=q
    subst q'
    obtain rfl:u=Value.bool true:=r'
    refine ⟨rfl,OldK.of_keep fun b o e=>?_,os,bare⟩
    cases q:H b with
    | none=>exact un.keep b o e q (by intro z; exact absurd (show b∈([]:List Addr) from z) (by simp)) (by simp)
    | some u =>
     rcases hO b with z | ⟨ob,xs,z⟩
     ·rw [q] at z; cases z
     ·have z2:=un.frzs b ob _ z
      obtain ⟨e1,_⟩:=hok b _ z
      obtain ⟨e2,_⟩:=hok' b _ z2
      rw [e] at e1; cases e1
      exact e2
 cases hk:K.lookup a with
 | some o =>
  have e:=KX a o hk
  rw [ha] at e
  cases e
  refine core (fun _=>none) (fun _=>.inl rfl) (.inr ⟨_,vs.toArray,_,hk,rfl,rfl,rfl,by rw [List.size_toArray,lenV]; exact hl,by simpa using rv⟩) (fun b u z=>by have z':(none:Option HO)=some u:=z; cases z') (fun b z=>absurd rfl z) fun z=>absurd rfl z
 | none =>
  refine core (fun b=>if b=a then some (.frz { cls:=.type "list",data:=.seq vs.toArray } (.lst (ns.map V.int))) else none) (fun b=>?_) (.inl (.inr ⟨{ cls:=.type "list",data:=.seq vs.toArray },if_pos rfl⟩)) (fun b u z=>?_) (fun b z=>?_) fun _=>hk
  ·by_cases hb:b=a
   ·exact .inr ⟨_,_,if_pos hb⟩
   ·exact .inl (if_neg hb)
  ·by_cases hb:b=a
   ·have z':=(if_pos hb).symm.trans z
    cases z'
    subst hb
    exact ⟨ha,by rw [List.length_map]; exact hl,vs,_,rv,ha⟩
   ·have z':=(if_neg hb).symm.trans z
    cases z'
  ·by_cases hb:b=a
   ·exact hb
   ·exact absurd (if_neg hb) z
end L2
namespace L2
open PySem PySem.Spec PyProof.Rows
theorem walk_of {l:PySem.W.OpenLaw} {n k:Nat} {q:Program} {loose:List Str} {XP:(Str→Option Value)→Heap→Prop} {YP:World→Heap→Prop} {d:DefRec} {K:Params→PySem.W.Frag} {CX:World→CXT} {sp:World→Sp} {x:Str}
  (hn:l.most=some n) (hn2:n≤sizeLine) (hdf:d.params.defaults=[]) (hr:Room k callerA)
  (hY:∀ (w:World) (h:Heap),YP w h→(K w.params).In h)
  (F:∀ (w:World) (mg:Str→Option Value) (fa:Addr) (h:Heap),(K w.params).In h→h.Ns mainGlobals mg→mg d.name=some (.ref fa) →
   ∃ fd:FuncData,(∀ (s:Shared) (u:Value),BindsTo s fd ⟨[u],[]⟩ [(x,u)]) ∧
    ∀ base:Heap,(K w.params).In base→base.Ns mainGlobals mg→FnOk l.prog w (K w.params) mg base (CX w) k fa fd [x] (sp w))
  (hsp:∀ (w:World) (H:Hp) (a:Addr) (ns:List Int),ns.length≤n→Only H→SqL (K w.params) H a (ns.map V.int)→sp w [.ref a] H (fun v _=>v=.bl true) fun _ _ _=>False)
  (hCX:∀ (w:World) (H:Hp) (s:Shared) (e:Value) (s':Shared),CX w [] H s (fun _ _ _=>False) e s'→False) :
  PySem.W.WalkO q loose XP YP l.row.toRowW d [] (fun f vs=>PySem.call f vs):=by
 refine Att.attach_call hn hdf fun w s₀ s₁ mg mb fa o pm cd doc a vs ns G Y ho hd hcd hmg hobj hints hlen hg=>?_
 have KX:=hY w _ Y
 obtain ⟨fd,hb,hF⟩:=F w mg fa _ KX G.T.g hmg
 exact law_call KX G.T.g G.T.b G.T.builtins G.T.nolimit hg hobj hints (Nat.le_trans hlen hn2) hr hF hb (fun H hO hS=>hsp w H a ns hlen hO hS) fun H e s'=>hCX w H s₁ e s'
end L2
/- THE LAST THEOREM (shape; LID,My.* are yours):
   My.Adr: a structure of the addresses that your layer names (classes,functions); My.Txt K t: a structure (Prop) of the equations over K;
   My.txt_mk:{K} {implicit addresses ..} (e1:nsIn K mainGlobals "law" = some (some (.ref f))) (e2:K.lookup f=some ⟨oc,od,.func (fnOf "law" "law" params body scope dV kV doc pm an cdv ct),sl⟩) (e3:codeIn K cdv "law" = true) .. : ∃ t,My.Txt K t
(the tactic k_is has no namespace: write k_is) -/
namespace L2
open PySem PySem.Spec PyProof.Rows
def inClass (s:Stmt) (j:Nat):Stmt:=match s with
 | .ClassDef _ _ _ body _ _ _ _ _ _ _=>body.getD j (.Pass ⟨0,0,0,0⟩)
 | _=>.Pass ⟨0,0,0,0⟩
def defArgs (s:Stmt):Arguments:=match s with
 | .FunctionDef _ a _ _ _ _ _ _ _ _=>a
 | _=>{ posonlyargs:=[],args:=[],vararg:=none,kwonlyargs:=[],kw_defaults:=[],kwarg:=none,defaults:=[] }
def defBody (s:Stmt):List Stmt:=match s with
 | .FunctionDef _ _ b _ _ _ _ _ _ _=>b
 | _=>[]
def defScope (s:Stmt):Scope:=match s with
 | .FunctionDef _ _ _ _ _ _ sc _ _ _=>sc
 | _=>{ kind:=.function,names:=[],isGenerator:=false,isCoroutine:=false }
abbrev CX0:CXT:=fun _ _ _ _ _ _=>False
abbrev E0:XK:=fun _ _ _=>False
theorem pass0 {X:Cx}:Passes CX0 X E0:=fun _ _ _ _ _ _ _ h=>h.elim
structure Fun (K:PySem.W.Frag) (x qual:Str) (st:Stmt) (f:Addr) (fd:FuncData):Prop where
 ex:∃ (oc:Value) (od:Option Addr) (kV doc pm:Value) (an:Option Addr) (cdv ct:Value) (osl:Array (Option Value)),
  fd=PySem.W.fnOf x qual (defArgs st) (defBody st) (defScope st) .none kV doc pm an cdv ct∧K.lookup f=some ⟨oc,od,.func fd,osl⟩∧PySem.W.codeIn K cdv qual=true
 kp:PySem.W.keepIn K (.ref f)=true
section
variable {P:Program} {w:World} {K:PySem.W.Frag} {mg:Str→Option Value} {base:Heap}
theorem Fun.ok {x qual:Str} {st:Stmt} {f:Addr} {fd:FuncData} {N ps:List Str} {k:Nat} {sp:Sp} (F:Fun K x qual st f fd) (S:FnScope N ps (defScope st)) (len:∀ vs H Q E,sp vs H Q E→vs.length=ps.length)
  (hbody:∀ (cdv:Value) (A:Around) (outer:List Env) (s:Shared) (H:Hp) (vs:List V) (Q:VK) (E:XK),Room k (A.deeper (envOfC qual (defScope st) s.heap.objs.size f cdv))→sp vs H Q E →
   ∃ t,PSs (cxOf CX0 P w K mg base N qual (defScope st) f cdv A outer s H E).nox (defBody st) t∧t { nx:=fun _ H'=>Q .non H',rt:=Q } (start N vs) H):FnOk P w K mg base CX0 (k+1) f fd ps sp:=by
 obtain ⟨oc,od,kV,doc,pm,an,cdv,ct,osl,rfl,lk,hcd⟩:=F.ex
 refine fn_of lk hcd S len fun A outer s H vs Q E hr hsp=>?_
 obtain ⟨t,h,q⟩:=hbody cdv A outer s H vs Q E hr hsp
 exact ⟨t,h.nox,q⟩
theorem Fun.binds {x qual:Str} {st:Stmt} {f:Addr} {fd:FuncData} {ps:List Str} (F:Fun K x qual st f fd)
  (h:∀ (kV doc pm:Value) (an:Option Addr) (cdv ct:Value) (us:List Value),us.length=ps.length→bindArgs (PySem.W.fnOf x qual (defArgs st) (defBody st) (defScope st) .none kV doc pm an cdv ct) ⟨us,[]⟩=pure (ps.zip us)):Binds K fd ps []:=by
 obtain ⟨oc,od,kV,doc,pm,an,cdv,ct,osl,rfl,lk,hcd⟩:=F.ex
 exact .all (h kV doc pm an cdv ct)
theorem fun_mk {x qual:Str} {st:Stmt} {f:Addr} {oc:Value} {od an:Option Addr} {osl:Array (Option Value)} {kV doc pm cdv ct:Value} (l:K.lookup f=some ⟨oc,od,.func (PySem.W.fnOf x qual (defArgs st) (defBody st) (defScope st) .none kV doc pm an cdv ct),osl⟩)
  (c:PySem.W.codeIn K cdv qual=true) (k:PySem.W.keepIn K (.ref f)=true):Fun K x qual st f (PySem.W.fnOf x qual (defArgs st) (defBody st) (defScope st) .none kV doc pm an cdv ct):=⟨⟨oc,od,kV,doc,pm,an,cdv,ct,osl,rfl,l,c⟩,k⟩
end
theorem hu_of {A:Around} {k:Nat} (hr:Room k A):A.units+1<cLine:=Nat.lt_of_le_of_lt (Nat.add_le_add_left (by decide:1≤64) _) hr.units
section
variable {X:Cx}
theorem pv (i:Nat) {x:Str} {pos:Pos} (hN:X.N[i]?=some x:=by rfl) (hv:Vis X.env.scope x:=by first | exact Or.inl rfl | exact Or.inr (Or.inl rfl) | exact Or.inr (Or.inr rfl)) (hd:(x==("__debug__" : Str))=false:=by decide)
  (hcd:(x==("__classdict__" : Str))=false:=by decide):PE X (.Name x pos) (tVar i):=pe_var hN hv hd hcd
end
theorem iteF {A B:Prop} (h:B):if false=true then A else B:=by
 rw [if_neg Bool.false_ne_true]
 exact h
theorem iteT {A B:Prop} (h:A):if true=true then A else B:=by
 rw [if_pos rfl]
 exact h
theorem iteNS {c A B:Prop} [Decidable c] (hc:c) (h:B):if (!decide c)=true then A else B:=by
 rw [decide_eq_true hc]
 exact iteF h
def Same (H H':Hp):Prop:=∀ b o,H b=some o→H' b=some o
theorem Same.refl (H:Hp):Same H H:=fun _ _ h=>h
theorem Same.trans {H H1 H2:Hp} (a:Same H H1) (b:Same H1 H2):Same H H2:=fun c o h=>b c o (a c o h)
theorem Same.free {H H':Hp} (e:Same H H') {l:Addr} (h:H' l=Option.none):H l=Option.none:=by
 cases q:H l with
 | none=>rfl
 | some o =>
  rw [e l o q] at h
  cases h
theorem Same.seq {K:PySem.W.Frag} {H H':Hp} {a:Addr} {xs:List V} (e:Same H H') (h:SqL K H a xs):SqL K H' a xs:=by
 rcases h with (h | ⟨o,h⟩) | h
 ·exact .inl (.inl (e _ _ h))
 ·exact .inl (.inr ⟨o,e _ _ h⟩)
 ·exact .inr h
end L2
namespace L2
open PySem PySem.Spec PyProof.Rows
structure Df (K:PySem.W.Frag) (mg:Str→Option Value) (x qual:Str) (st:Stmt) (f:Addr) (fd:FuncData) (ps:List Str):Prop where
 F:Fun K x qual st f fd
 m:mg x=some (.ref f)
 b:Binds K fd ps []
theorem bnd_0 {fd:FuncData} (h:bindArgs fd ⟨[],[]⟩=pure []):∀ us:List Value,us.length=([]:List Str).length→bindArgs fd ⟨us,[]⟩=pure (([]:List Str).zip us):=fun us hl=>by
 obtain rfl:=List.eq_nil_of_length_eq_zero hl
 exact h
theorem bnd_s {fd:FuncData} {p:Str} {ps:List Str} (h:∀ a:Value,∀ us:List Value,us.length=ps.length→bindArgs fd ⟨a::us,[]⟩=pure ((p,a)::ps.zip us)):∀ us:List Value,us.length=(p::ps).length→bindArgs fd ⟨us,[]⟩=pure ((p::ps).zip us):=fun us hl=>by
 cases us with
 | nil=>cases hl
 | cons a r=>exact h a r (Nat.succ.inj hl)
theorem bnd_1 {fd:FuncData} {p:Str} (h:∀ a:Value,bindArgs fd ⟨[a],[]⟩=pure [(p,a)]):∀ us:List Value,us.length=[p].length→bindArgs fd ⟨us,[]⟩=pure ([p].zip us) :=
 bnd_s fun a us hl=>by obtain rfl:=List.eq_nil_of_length_eq_zero hl; exact h a
theorem bnd_2 {fd:FuncData} {p q:Str} (h:∀ a b:Value,bindArgs fd ⟨[a,b],[]⟩=pure [(p,a),(q,b)]):∀ us:List Value,us.length=[p,q].length→bindArgs fd ⟨us,[]⟩=pure ([p,q].zip us):=fun us hl=>by
 match us,hl with
 | [a,b],_=>exact h a b
theorem bnd_3 {fd:FuncData} {p q r:Str} (h:∀ a b c:Value,bindArgs fd ⟨[a,b,c],[]⟩=pure [(p,a),(q,b),(r,c)]):∀ us:List Value,us.length=[p,q,r].length→bindArgs fd ⟨us,[]⟩=pure ([p,q,r].zip us):=fun us hl=>by
 match us,hl with
 | [a,b,c],_=>exact h a b c
theorem bnd_4 {fd:FuncData} {p q r t:Str} (h:∀ a b c d:Value,bindArgs fd ⟨[a,b,c,d],[]⟩=pure [(p,a),(q,b),(r,c),(t,d)]):∀ us:List Value,us.length=[p,q,r,t].length→bindArgs fd ⟨us,[]⟩=pure ([p,q,r,t].zip us):=fun us hl=>by
 match us,hl with
 | [a,b,c,d],_=>exact h a b c d
theorem bnd_5 {fd:FuncData} {p q r t u:Str} (h:∀ a b c d e:Value,bindArgs fd ⟨[a,b,c,d,e],[]⟩=pure [(p,a),(q,b),(r,c),(t,d),(u,e)]):∀ us:List Value,us.length=[p,q,r,t,u].length→bindArgs fd ⟨us,[]⟩=pure ([p,q,r,t,u].zip us):=fun us hl=>by
 match us,hl with
 | [a,b,c,d,e],_=>exact h a b c d e
theorem bnd_6 {fd:FuncData} {p q r t u v:Str} (h:∀ a b c d e f:Value,bindArgs fd ⟨[a,b,c,d,e,f],[]⟩=pure [(p,a),(q,b),(r,c),(t,d),(u,e),(v,f)]):∀ us:List Value,us.length=[p,q,r,t,u,v].length→bindArgs fd ⟨us,[]⟩=pure ([p,q,r,t,u,v].zip us):=fun us hl=>by
 match us,hl with
 | [a,b,c,d,e,f],_=>exact h a b c d e f
theorem bnd_7 {fd:FuncData} {p q r t u v x:Str} (h:∀ a b c d e f g:Value,bindArgs fd ⟨[a,b,c,d,e,f,g],[]⟩=pure [(p,a),(q,b),(r,c),(t,d),(u,e),(v,f),(x,g)]):∀ us:List Value,us.length=[p,q,r,t,u,v,x].length→bindArgs fd ⟨us,[]⟩=pure ([p,q,r,t,u,v,x].zip us):=fun us hl=>by
 match us,hl with
 | [a,b,c,d,e,f,g],_=>exact h a b c d e f g
section
variable {K:PySem.W.Frag} {h:Heap} {mg:Str→Option Value} {x:Str} {st:Stmt} {f:Addr} {ps:List Str} {oc:Value} {od an:Option Addr} {osl:Array (Option Value)} {kV doc pm cdv ct:Value}
theorem df_mk (X:K.In h) (G:h.Ns mainGlobals mg) (a:PySem.W.nsIn K mainGlobals x=some (some (.ref f)))
  (l:K.lookup f=some ⟨oc,od,.func (PySem.W.fnOf x x (defArgs st) (defBody st) (defScope st) .none kV doc pm an cdv ct),osl⟩) (c:PySem.W.codeIn K cdv x=true) (k:PySem.W.keepIn K (.ref f)=true)
  (b:∀ us:List Value,us.length=ps.length→bindArgs (PySem.W.fnOf x x (defArgs st) (defBody st) (defScope st) .none kV doc pm an cdv ct) ⟨us,[]⟩=pure (ps.zip us)) :
  Df K mg x x st f (PySem.W.fnOf x x (defArgs st) (defBody st) (defScope st) .none kV doc pm an cdv ct) ps:=⟨fun_mk (st:=st) l c k,PySem.W.mg_of X G a,.all b⟩
end
end L2
namespace L2
open PySem PySem.Spec PyProof.Rows
section
variable {X:Cx} {pins:List (Addr×Obj)} {σ:St} {H:Hp} {s:Shared} {h':Heap}
theorem Inv.track {p:Addr} {o:HO} (I:Inv X pins σ H s) (f:FpOk X pins H p) (new:ObjOk X.prog X.w (upd H p o) s.heap p o):Inv X pins σ (upd H p o) s:=by
 obtain ⟨f0,f1,f2,f3,f4,f5⟩:=f
 have nu:∀ b u,H b=some u→b≠p:=fun b u e z=>by rw [z,f0] at e; cases e
 refine I.step (h':=s.heap) (g':=s.gens) (d':=s.drawn) (t':=s.toks) (ch:=[p]) (fun b hb=>?_) (fun b o _ _ _ e _=>e) (fun b o _ _ _ e _=>⟨o.slots,e⟩)
  (fun b o hc _ n=>by rw [upd_ne (fun z=>hc (by simp [z]))]; exact n) (fun b o _ e=>⟨o,e⟩) (fun b xs e=>by rw [upd_ne (nu _ _ e)]; exact e) (fun b o u e=>by rw [upd_ne (nu _ _ e)]; exact e)
  (fun b ps e=>⟨#[],by rw [upd_ne (nu _ _ e),e]; simp⟩) (fun m hm=>hm) (fun b u e=>?_) I.bare
 ·have e:b=p:=by simpa using hb
  subst e
  exact ⟨f3,f1,f4,f5⟩
 ·by_cases hb:b=p
  ·subst hb
   rw [upd_same] at e
   cases e
   exact new
  ·rw [upd_ne hb] at e
   exact (I.hok b u e).stay (fun c v _ q=>q) (fun c q=>by rw [upd_ne (nu _ _ q)]; exact q) fun c xs q=>by rw [upd_ne (nu _ _ q)]; exact q
theorem Inv.turnedL {t':Nat} {ch:List Addr} (I:Inv X pins σ H s) (k:∀ b o,b∉ch→s.heap.get? b=some o→h'.get? b=some o) (hf:∀ b∈ch,FpOk X pins H b):Inv X pins σ H { s with heap:=h',toks:=t' }:=by
 have nit:∀ b u,H b=some u→b∉ch:=fun b u e z=>by rw [(hf b z).1] at e; cases e
 refine I.step (g':=s.gens) (d':=s.drawn) (ch:=ch) (fun b hb=>?_) (fun b o _ _ hc e _=>k b o hc e) (fun b o _ _ hc e _=>⟨o.slots,k b o hc e⟩) (fun _ _ _ _ n=>n)
  (fun b o hc e=>⟨o,k b o hc e⟩) (fun _ _ e=>e) (fun _ _ _ e=>e) (fun b ps e=>⟨#[],by rw [e]; simp⟩) (fun m hm=>?_) (fun b u e=>?_) I.bare
 ·obtain ⟨f0,f1,f2,f3,f4,f5⟩:=hf b hb
  exact ⟨f3,f1,f4,f5⟩
 ·obtain ⟨o,es,ep,ho,r⟩:=hm
  exact ⟨o,es,ep,k _ o (fun z=>(hf _ z).2.1 rfl) ho,r⟩
 ·refine (I.hok b u e).stay (fun c v hc q=>k c v ?_ q) (fun _ q=>q) fun _ _ q=>q
  rcases hc with z | z
  ·rw [z]; exact nit b u e
  ·exact nit c _ z
end
def closL (env:Env):List (Str×NameKind)→List (Str×Addr)→List (Str×Addr)
 | [],cs=>cs
 | (n,k)::r,cs=>if k==.free then (match env.cells.lookup n with | some c=>closL env r ((n,c)::cs) | none=>closL env r cs) else closL env r cs
theorem closL_sub {env:Env}:∀ {ns:List (Str×NameKind)} {cs:List (Str×Addr)},(∀ p∈cs,env.cells.lookup p.1=some p.2)→∀ p∈closL env ns cs,env.cells.lookup p.1=some p.2
 | [],_,h=>h
 | (n,k)::r,cs,h=>by
  unfold closL
  split
  ·split
   ·rename_i c e
    exact closL_sub (ns:=r) fun p hp=>by
     rcases List.mem_cons.mp hp with rfl | hp
     ·exact e
     ·exact h p hp
   ·exact closL_sub (ns:=r) h
  ·exact closL_sub (ns:=r) h
theorem closL_sub0 {env:Env} {ns:List (Str×NameKind)}:∀ p∈closL env ns [],env.cells.lookup p.1=some p.2:=closL_sub fun p h=>by cases h
theorem closL_mono {env:Env}:∀ {ns:List (Str×NameKind)} {cs:List (Str×Addr)} {p:Str×Addr},p∈cs→p∈closL env ns cs
 | [],_,_,h=>h
 | (n,k)::r,cs,p,h=>by
  unfold closL
  split
  ·split
   ·exact closL_mono (ns:=r) (List.mem_cons_of_mem _ h)
   ·exact closL_mono (ns:=r) h
  ·exact closL_mono (ns:=r) h
theorem closL_mem {env:Env} {x:Str} {c:Addr} (hc:env.cells.lookup x=some c):∀ {ns:List (Str×NameKind)} {cs:List (Str×Addr)},(x,NameKind.free)∈ns→(x,c)∈closL env ns cs
 | [],_,h=>nomatch h
 | (n,k)::r,cs,h=>by
  unfold closL
  rcases List.mem_cons.mp h with e | h
  ·cases e
   rw [if_pos (by rfl),hc]
   exact closL_mono List.mem_cons_self
  ·split
   ·split
    ·exact closL_mem hc (ns:=r) h
    ·exact closL_mem hc (ns:=r) h
   ·exact closL_mem hc (ns:=r) h
theorem lookup_of_all {cs:List (Str×Addr)} {env:Env} (h:∀ p∈cs,env.cells.lookup p.1=some p.2) {x:Str} {c:Addr} (e:cs.lookup x=some c):env.cells.lookup x=some c:=h (x,c) (PySem.mem_of_lookup e)
theorem lookup_of_mem {x:Str} {c:Addr}:∀ {cs:List (Str×Addr)},(x,c)∈cs→∃ c',cs.lookup x=some c'
 | [],h=>nomatch h
 | (n,d)::r,h=>by
  by_cases e:x=n
  ·subst e
   exact ⟨d,by simp [List.lookup]⟩
  ·have hb:(x==n)=false:=beq_eq_false_iff_ne.mpr e
   rcases List.mem_cons.mp h with z | z
   ·cases z
    exact absurd rfl e
   ·obtain ⟨c',q⟩:=lookup_of_mem z
    exact ⟨c',by simp [List.lookup,hb,q]⟩
theorem closureFor_loop {env:Env}:∀ (ns:List (Str×NameKind)) (cs:List (Str×Addr)),(∀ x∈ns,x.2=.free→∃ c,env.cells.lookup x.1=some c) →
  (forIn ns cs fun x r=>(if (x.2==NameKind.free)=true then (do let c ← cellOf env x.1; pure (ForInStep.yield ((x.1,c)::r))) else pure (ForInStep.yield r):Sem (ForInStep (List (Str×Addr)))))=(pure (closL env ns cs):Sem (List (Str×Addr)))
 | [],cs,_=>rfl
 | (n,k)::r,cs,h=>by
  have ih:=fun cs=>closureFor_loop r cs fun x hx=>h x (List.mem_cons_of_mem _ hx)
  rw [List.forIn_cons]
  unfold closL
  cases hk:(k==NameKind.free) with
  | false =>
   simp only [Bool.false_eq_true,if_false]
   exact ih cs
  | true =>
   obtain ⟨c,hc⟩:=h (n,k) List.mem_cons_self (by simpa using hk)
   have hc':env.cells.lookup n=some c:=hc
   simp only [if_true]
   unfold cellOf
   rw [hc']
   exact ih ((n,c)::cs)
theorem closureFor_eq {scope:Scope} {env:Env} (h:∀ x∈scope.names,x.2=.free→∃ c,env.cells.lookup x.1=some c):closureFor scope env=pure (closL env scope.names []):=by
 have e:=closureFor_loop scope.names [] h
 have e2:closureFor scope env=(forIn scope.names [] (fun x r=>(if (x.2==NameKind.free)=true then (do let c ← cellOf env x.1; pure (ForInStep.yield ((x.1,c)::r))) else pure (ForInStep.yield r):Sem (ForInStep (List (Str×Addr))))) >>= fun z=>pure z:Sem (List (Str×Addr))):=rfl
 rw [e2,e]
 rfl
end L2
namespace L2
open PySem PySem.Spec PyProof.Rows
structure CompScope (osc:Scope) (N:List Str) (scope:Scope) (N':List Str) (nt:Nat) (caps:List Nat):Prop where
 kind:scope.kind=.function
 nocell:∀ y∈scope.names,y.2≠.cell
 names:∀ y∈scope.names,y.2=.local→scope.names.lookup y.1=some .local
 frees:∀ y∈scope.names,y.2=.free→osc.names.lookup y.1=some .cell∨osc.names.lookup y.1=some .free
 capt:caps.map (fun j=>N[j]?)=(N'.drop nt).map some
 capf:∀ x∈N'.drop nt,scope.names.lookup x=some .free
 len:nt≤N'.length
 nd:N'.Nodup
def sgm (nt:Nat) (caps:List Nat) (σ:St):St:=List.replicate nt none++caps.map fun j=>(σ[j]?).getD none
structure Blk where
 C:Addr
 s:Shared
 H:Hp
 fp:List Addr
def cxComp (X:Cx) (N':List Str) (scope:Scope) (B:Blk):Cx :=
 { X with N:=N',s₀:=B.s,H₀:=B.H,env:=compEnvC scope (closL X.env scope.names []) B.C X.env,outer:=X.stack,ex:=B.fp,fn:=fun _=>false,xe:=fun _ _=>False }
theorem mem_relabel {scope:Scope} {env:Env} {x:Str} {k:NameKind} (h:(x,k)∈(relabel scope env).names):∃ k0,(x,k0)∈scope.names∧(k=k0∨(k=.cell∧k0=.free)):=by
 obtain ⟨⟨n,k0⟩,hm,e⟩:=List.mem_map.mp h
 try dsimp only at e
 split at e
 ·rename_i hc
  cases e
  refine ⟨k0,hm,.inr ⟨rfl,?_⟩⟩
  simp only [Bool.and_eq_true,beq_iff_eq] at hc
  exact hc.1.1
 ·cases e
  exact ⟨_,hm,.inl rfl⟩
theorem lookup_relabel_free {env:Env}:∀ {names:List (Str×NameKind)} {x:Str},names.lookup x=some .free →
  (names.map fun (n,k)=>if (k==NameKind.free&&env.scope.kind==.function&&env.kindOf n==some .cell) then (n,NameKind.cell) else (n,k)).lookup x=some .cell ∨
  (names.map fun (n,k)=>if (k==NameKind.free&&env.scope.kind==.function&&env.kindOf n==some .cell) then (n,NameKind.cell) else (n,k)).lookup x=some .free
 | [],_,h=>by simp at h
 | (n,k)::r,x,h=>by
  have ih:=@lookup_relabel_free env r x
  rw [List.map_cons]
  cases hx:x==n with
  | true =>
   simp only [List.lookup_cons,hx] at h
   cases h
   try dsimp only
   split
   ·left; simp only [List.lookup_cons,hx]
   ·right; simp only [List.lookup_cons,hx]
  | false =>
   simp only [List.lookup_cons,hx] at h
   try dsimp only
   split
   ·simp only [List.lookup_cons,hx]; exact ih h
   ·simp only [List.lookup_cons,hx]; exact ih h
section
variable {X:Cx} {pins:List (Addr×Obj)} {σ:St} {H:Hp} {s₂:Shared} {scope:Scope} {N':List Str} {nt:Nat} {caps:List Nat} {fp:List Addr} {C:Addr}
theorem comp_ok (I:Inv X pins σ H s₂) (S:CompScope X.env.scope X.N scope N' nt caps) (f2:∀ b∈fp,FpOk X pins H b) (hlt:∀ b∈fp,b<s₂.heap.objs.size) (hC:s₂.heap.objs.size≤C) :
  (cxComp X N' scope ⟨C,s₂,H,fp⟩).Ok where
 mod:=I.ok.mod
 kind:=S.kind
 glob:=I.ok.glob
 blt:=I.ok.blt
 above:=hC
 inj:=fun x y c h1 h2=>I.ok.inj x y c (lookup_of_all closL_sub0 h1) (lookup_of_all closL_sub0 h2)
 has:=fun x hx=>by
  have hm:∃ k,(k=NameKind.cell∨k=NameKind.free)∧(x,k)∈(relabel scope X.env).names:=by
   rcases hx with e | e
   ·exact ⟨_,.inl rfl,PySem.mem_of_lookup e⟩
   ·exact ⟨_,.inr rfl,PySem.mem_of_lookup e⟩
  obtain ⟨k,hk,hm⟩:=hm
  obtain ⟨k0,h0,e⟩:=mem_relabel hm
  have hf:k0=.free:=by
   rcases e with e | ⟨_,e⟩
   ·rcases hk with z | z
    ·exact absurd (e.symm.trans z) (S.nocell _ h0)
    ·exact e.symm.trans z
   ·exact e
  subst hf
  obtain ⟨c,hc⟩:=I.ok.has x (S.frees _ h0 rfl)
  exact lookup_of_mem (closL_mem hc h0)
 cab:=fun x c h=>absurd (show false=true from h) Bool.false_ne_true
 hd:=I.ok.hd
 frames:=I.ok.frames
 stk:=.inl rfl
 exf:=fun b hb=>⟨Nat.ne_of_lt (Nat.lt_of_lt_of_le (hlt b hb) hC),fun x c e=>(f2 b hb).2.2.2.2.1 x c (lookup_of_all closL_sub0 e)⟩
 bs:=I.bs
 bsz:=Nat.le_trans I.ok.bsz I.sz
 noex:=fun b o e hb=>by
  rcases (f2 b hb).2.2.2.1 with z | z
  ·exact I.ok.noex b o e z
  ·exact absurd (Nat.lt_of_lt_of_le (Heap.lt_size e) (Nat.le_trans I.ok.bsz z)) (Nat.lt_irrefl _)
 exfs:=fun b hb hf=>by
  rcases List.mem_cons.mp (I.stkSub b hf) with e | e
  ·exact (f2 b hb).2.1 e
  ·exact (f2 b hb).2.2.1 e
 funs:=I.stack
 frf:=I.stkFree
theorem inv_comp {h₁:Heap} {tk:Nat} {m0:Str→Option Value} (I:Inv X pins σ H s₂) (S:CompScope X.env.scope X.N scope N' nt caps) (f2:∀ b∈fp,FpOk X pins H b) (hlt:∀ b∈fp,b<s₂.heap.objs.size)
  (hC:s₂.heap.objs.size≤C) (hns:h₁.Ns C m0) (old:∀ b o,s₂.heap.get? b=some o→h₁.get? b=some o) :
  Inv (cxComp X N' scope ⟨C,s₂,H,fp⟩) pins (sgm nt caps σ) H { s₂ with heap:=h₁,toks:=tk }:=by
 have hl:=congrArg List.length S.capt
 rw [List.length_map,List.length_map,List.length_drop] at hl
 have sub:∀ {x c},(closL X.env scope.names []).lookup x=some c→X.env.cells.lookup x=some c:=fun e=>lookup_of_all closL_sub0 e
 refine ⟨comp_ok I S f2 hlt hC,rfl,I.bare,Un.kept old,⟨m0,hns,fun i x v e1 e2 e3=>?_⟩,fun x c e=>?_,I.hok.fresh hC,fun x c e=>I.freeC x c (sub e),fun p hp=>?_,I.hok.kept old,?_⟩
 ·have e1':N'[i]?=some x:=e1
  have e2':(List.replicate nt none++caps.map fun j=>(σ[j]?).getD none)[i]?=some (some v):=e2
  have hi:nt≤i:=by
   rcases Nat.lt_or_ge i nt with z | z
   ·rw [List.getElem?_append_left (by simpa using z),List.getElem?_replicate,if_pos z] at e2'
    cases e2'
   ·exact z
  rw [List.getElem?_append_right (by simpa using hi),List.length_replicate,List.getElem?_map] at e2'
  cases hj:caps[i-nt]? with
  | none=>rw [hj] at e2'; cases e2'
  | some j =>
   rw [hj] at e2'
   have e3':(σ[j]?).getD none=some v:=Option.some.inj e2'
   have hσ:σ[j]?=some (some v):=by
    cases q:σ[j]? with
    | none=>rw [q] at e3'; cases e3'
    | some o=>rw [q] at e3'; have z:o=some v:=e3'; rw [z]
   have hd:(N'.drop nt)[i-nt]?=some x:=by rw [List.getElem?_drop,Nat.add_sub_cancel' hi]; exact e1'
   have hN:X.N[j]?=some x:=by
    have q:=congrArg (fun l=>l[i-nt]?) S.capt
    have q:(caps.map fun j=>X.N[j]?)[i-nt]?=((N'.drop nt).map some)[i-nt]?:=q
    rw [List.getElem?_map,List.getElem?_map,hj,hd] at q
    exact Option.some.inj q
   have hfx:=S.capf x (List.mem_of_getElem? hd)
   have hko:=S.frees (x,.free) (PySem.mem_of_lookup hfx) rfl
   have vis:Vis X.env.scope x:=.inr hko
   obtain ⟨m,hn,hl'⟩:=I.loc
   obtain ⟨u,r,l⟩:=hl' j x v hN hσ vis
   refine ⟨u,r,.inr ⟨?_,?_⟩⟩
   ·exact lookup_relabel_free hfx
   ·rcases l with ⟨k,_⟩ | ⟨_,c,e,z⟩
    ·have k':X.env.scope.names.lookup x=some .local:=k
     rcases hko with q | q<;>(rw [k'] at q; cases q)
    ·obtain ⟨c',q⟩:=lookup_of_mem (closL_mem e (PySem.mem_of_lookup hfx) (cs:=[]))
     have q2:=sub q
     rw [e] at q2
     cases q2
     obtain ⟨o,ho,hd'⟩:=z
     exact ⟨c,q,o,old _ _ ho,hd'⟩
 ·obtain ⟨v,o,ho,hd'⟩:=I.cell x c (sub e)
  exact ⟨v,o,old _ _ ho,hd'⟩
 ·obtain ⟨a,b,c,d,e⟩:=I.pin p hp
  refine ⟨old _ _ a,b,Nat.ne_of_lt (Nat.lt_of_lt_of_le (Heap.lt_size a) hC),fun hf=>?_,e⟩
  rcases List.mem_cons.mp (I.stkSub p.1 hf) with z | z
  ·exact c z
  ·exact d z
 ·show (List.replicate nt none++caps.map fun j=>(σ[j]?).getD none).length=N'.length
  rw [List.length_append,List.length_replicate,List.length_map]
  have:=S.len
  omega
end
def PTs (X:Cx) (ifs:List Expr) (t:TT):Prop :=
 ∀ (pins:List (Addr×Obj)) (s:Shared) (σ:St) (H:Hp) (Q:Bool→Hp→Prop),Inv X pins σ H s→t σ H Q →
  wpAny (model X.prog X.w) X.A (forIn ifs true fun c r=>if r=true then do let ok ← isTrue c X.env (eval c X.env); pure (ForInStep.yield ok) else pure (ForInStep.yield r)) (TP X pins σ Q) X.xe s
def tTrue:TT:=fun _ H Q=>Q true H
theorem pts_nil {X:Cx}:PTs X [] tTrue:=fun _ _ _ H _ I h=>wpAny_tests_nil ⟨H,I,h⟩
theorem pts_one {X:Cx} {c:Expr} {t:TT} (h:PT X c t):PTs X [c] t:=fun pins s σ H Q I q=>wpAny_tests_one (h pins s σ H Q I q)
section
variable {prog:Program} {w:World} {A:Around} {R:Result→Shared→Prop} {s:Shared}
theorem codeAny_compLoop_go {elt target iter:Expr} {ifs:List Expr} {scope:Scope} {pos:Pos} {it acc:Value} {env:Env} (I:Nat→Shared→Prop)
  (turn:∀ n s,I n s→wpAny (model prog w) A (pyNext it) (fun r s₁=>match r with
   | none=>R (.ok .next) s₁
   | some v=>wpAny (model prog w) A (letOwnedTupleGo target it v) (fun _ s₁'=>wpAny (model prog w) A (assign target env v) (fun _ s₂ =>
     wpAny (model prog w) A (forIn ifs true fun c r=>if r=true then do let ok ← isTrue c env (eval c env); pure (ForInStep.yield ok) else pure (ForInStep.yield r)) (fun ok s₃ =>
      if ok=true then wpAny (model prog w) A (eval elt env) (fun x s₄ =>
       wpAny (model prog w) A (call (.builtin "list.append") [acc,x]) (fun _ s₅=>∃ m,m<n∧I m s₅) (notedBy (model prog w) A env fun e s'=>R (.error e) s') s₄) (notedBy (model prog w) A env fun e s'=>R (.error e) s') s₃
      else ∃ m,m<n∧I m s₃) (notedBy (model prog w) A env fun e s'=>R (.error e) s') s₂) (notedBy (model prog w) A env fun e s'=>R (.error e) s') s₁') (notedBy (model prog w) A env fun e s'=>R (.error e) s') s₁)
   (notedBy (model prog w) A env fun e s'=>R (.error e) s') s)
  (n:Nat) (h:I n s):codeAny (model prog w) A (.compLoop (.ListComp elt [⟨target,iter,ifs,0⟩] scope pos) 0 it acc env) R s:=by
 refine codeAny_loop rfl I (fun n s hI=>?_) n h
 show wpAny _ A ((compTurn (.ListComp elt [⟨target,iter,ifs,0⟩] scope pos) 0 it acc env).onRaise (fun x=>do noteFrame x env; theTreesLotGoes x)) _ _ s
 refine wpAny_noted ?_
 rw [compTurn_list]
 refine wpAny_bind (wpAny_standAt (wpAny_bind (wpAny_mono (turn n s hI) (fun r s₁ h₁=>?_) fun _ _ h'=>h')))
 cases r with
 | none=>exact wpAny_pure h₁
 | some v =>
  refine wpAny_bind (wpAny_mono h₁ (fun _ s₁' h₁'=>?_) fun _ _ h'=>h')
  refine wpAny_bind (wpAny_mono h₁' (fun _ s₂ h₂=>wpAny_bind (wpAny_mono h₂ (fun ok s₃ h₃=>?_) fun _ _ h'=>h')) fun _ _ h'=>h')
  cases ok with
  | false=>exact wpAny_pure ⟨rfl,h₃⟩
  | true =>
   exact wpAny_bind (wpAny_bind (wpAny_mono h₃ (fun x s₄ h₄=>wpAny_bind (wpAny_mono h₄ (fun _ s₅ h₅=>wpAny_pure (wpAny_pure ⟨rfl,h₅⟩)) fun _ _ h'=>h')) fun _ _ h'=>h'))
end
section
variable {X:Cx} {pins:List (Addr×Obj)} {σ:St} {H:Hp} {s₂:Shared} {scope:Scope} {N':List Str} {nt:Nat} {caps:List Nat} {tg elt iter:Expr} {ifs:List Expr} {pos:Pos} {g:Blk→TG} {tt:Blk→TT} {te:Blk→TE}
def CompW (J:It) (g:TG) (tt:TT) (te:TE) (W:Nat→Nat→List V→St→Hp→Prop) (Z:List V→Hp→Prop):Prop :=
 ∀ i m ys σ' H',W i m ys σ' H'→(J.stop i H'∧Z ys H')∨(J.go i H'∧ys.length<sizeLine∧∃ N:List V→St→Hp→Prop,(∀ zs σ2 H2,N zs σ2 H2→∃ m',m'<m∧W (i+1) m' zs σ2 H2) ∧
  ∀ x H2,J.yld i H' x H2→g x σ' H2 fun σ2 H3=>tt σ2 H3 fun b H4=>if b=true then te σ2 H4 fun y H5=>N (ys++[y]) σ2 H5 else N ys σ2 H4)
abbrev lobj (its:List Value) (n:Nat):Obj:={ cls:=.type "list",data:=.seq its.toArray n }
theorem comp_run {J:It} {it:Addr} {fp:List Addr} {tn:Nat→Heap→Prop} {W:Nat→Nat→List V→St→Hp→Prop} {Z:List V→Hp→Prop} {RR:Value→Addr→Result→Shared→Prop} {E:Value→Shared→Prop}
  (hc:X.calm=true) (S:CompScope X.env.scope X.N scope N' nt caps)
  (hg:∀ B,PG (cxComp X N' scope B) tg (g B)) (ht:∀ B,PTs (cxComp X N' scope B) ifs (tt B)) (he:∀ B,PE (cxComp X N' scope B) elt (te B))
  (I:Inv X pins σ H s₂) (T:Turn X.prog X.w X.K tg J fp it tn) (st:tn 0 s₂.heap) (f2:∀ b∈fp,FpOk X pins H b) (w0:∃ m,W 0 m [] (sgm nt caps σ) H) (turn:∀ B,CompW J (g B) (tt B) (te B) W Z)
  (hRR:∀ D C s' ys H',Z ys H'→H' D=none→Inv X pins σ (upd H' D (.lst ys)) s'→FpOk X pins (upd H' D (.lst ys)) C→(∃ m,s'.heap.Ns C m)→RR (.ref D) C (.ok .next) s') :
  wpAny (model X.prog X.w) X.A (newList []) (fun acc s₃=>wpAny (model X.prog X.w) X.A (newFunctionEnv scope X.env.globals (closL X.env scope.names []) [] X.env.qual none .none (some X.env)) (fun cenv s₄ =>
   codeAny (model X.prog X.w) X.A (.compStart (.ListComp elt [⟨tg,iter,ifs,0⟩] scope pos) 0 (.ref it) acc { cenv with scope:=relabel scope X.env }) (RR acc cenv.locals) s₄) E s₃) E s₂:=by
 refine wpAny_newObj_type (wpAny_newFunctionEnv S.nocell (by intro y hy; simp at hy) (fun h₁ hns₁ hsb₁=>?_) S.kind)
 try dsimp only at hns₁ hsb₁ ⊢
 generalize hH2:s₂.heap.push { cls:=.type "list",dict:=none,data:=.seq ([]:List Value).toArray }=G2 at hns₁ hsb₁ ⊢
 have hCe:G2.objs.size=s₂.heap.objs.size+1:=by rw [← hH2,Heap.size_push]
 have hDC:s₂.heap.objs.size≠G2.objs.size:=by rw [hCe]; exact Nat.ne_of_lt (Nat.lt_succ_self _)
 have hCle:s₂.heap.objs.size≤G2.objs.size:=by rw [hCe]; exact Nat.le_succ _
 have hlt:∀ b∈fp,b<s₂.heap.objs.size:=fun b hb=>let ⟨o,e,_⟩:=T.obj 0 _ st b hb; Heap.lt_size e
 have old:∀ b o,s₂.heap.get? b=some o→h₁.get? b=some o:=fun b o e =>
  hsb₁.extBut b o (Nat.ne_of_lt (Nat.lt_of_lt_of_le (Heap.lt_size e) hCle)) (Heap.get?_push_of_some _ (hH2 ▸ Heap.get?_push_of_some _ e))
 have hacc:h₁.get? s₂.heap.objs.size=some (lobj [] 0):=hsb₁.extBut _ _ hDC (Heap.get?_push_of_some _ (hH2 ▸ Heap.get?_push_size _ rfl))
 generalize hD:s₂.heap.objs.size=D at hacc hDC hCle hCe
 generalize G2.objs.size=C at hns₁ hsb₁ hDC hCle hCe ⊢
 have hlt':∀ b∈fp,b<D:=fun b hb=>hD ▸ hlt b hb
 have hpl:∀ p∈X.pn++pins,p.1<D:=fun p hp=>hD ▸ Heap.lt_size (I.pin p hp).1
 have hcl:∀ x c,X.env.cells.lookup x=some c→c<D:=fun x c e=>let ⟨v,q⟩:=I.cell x c e; hD ▸ q.lt
 have hfsl:∀ b∈frs X.stack,b<D:=fun b hb=>by
  rcases List.mem_cons.mp (I.stkSub b hb) with z | z
  ·rw [z,← hD]; exact I.lt
  ·rw [← hD]
   refine Nat.lt_of_not_le fun q=>I.nofs q z
 have fD:∀ {H':Hp} {pl:List (Addr×Obj)},H' D=none→(∀ p∈X.pn++pl,p.1<D)→FpOk (cxComp X N' scope ⟨C,s₂,H,fp⟩) pl H' D:=fun {H' pl} hn hp =>
  ⟨hn,hDC,fun z=>Nat.lt_irrefl _ (hfsl D z),.inr (by show s₂.heap.objs.size≤D; rw [hD]; exact Nat.le_refl _),fun x c e z=>Nat.lt_irrefl D (by have:=hcl x c (lookup_of_all closL_sub0 e); rw [z] at this; exact this),
   fun p q z=>Nat.lt_irrefl D (by have:=hp p q; rw [z] at this; exact this)⟩
 have fI:∀ {H':Hp} {n:Nat} {its:List Value},(∀ b∈fp,H' b=none)→∀ b∈fp,FpOk (cxComp X N' scope ⟨C,s₂,H,fp⟩) (pins++[(D,lobj its n)]) H' b:=fun {H' n its} hn b hb=>by
  obtain ⟨g0,g1,g2,g3,g4,g5⟩:=f2 b hb
  refine ⟨hn b hb,Nat.ne_of_lt (Nat.lt_of_lt_of_le (hlt' b hb) hCle),fun z=>?_,.inl hb,fun x c e=>g4 x c (lookup_of_all closL_sub0 e),fun p hp z=>?_⟩
  ·rcases List.mem_cons.mp (I.stkSub b z) with q | q
   ·exact g1 q
   ·exact g2 q
  ·have hp':p∈X.pn++(pins++[(D,lobj its n)]):=hp
   rw [← List.append_assoc] at hp'
   rcases List.mem_append.mp hp' with q | q
   ·exact g5 p q z
   ·have e:p=(D,lobj its n):=by simpa using q
    rw [e] at z
    have:=hlt' b hb
    rw [← z] at this
    exact Nat.lt_irrefl _ this
 have pinD:∀ {σ':St} {H':Hp} {s':Shared} {its:List Value} {n:Nat} {pl:List (Addr×Obj)},Inv (cxComp X N' scope ⟨C,s₂,H,fp⟩) (pins++pl) σ' H' s'→H' D=none→s'.heap.get? D=some (lobj its n)→Inv (cxComp X N' scope ⟨C,s₂,H,fp⟩) (pins++[(D,lobj its n)]) σ' H' s' :=
  fun {σ' H' s' its n pl} J hn ho=>J.pins_of fun p hp=>by
   rcases List.mem_append.mp hp with q | q
   ·exact J.pin p (List.mem_append_right _ (List.mem_append_left _ q))
   ·have e:p=(D,lobj its n):=by simpa using q
    subst e
    exact ⟨ho,hn,hDC,fun z=>Nat.lt_irrefl _ (hfsl D z),fun v z=>by cases z⟩
 have I1:Inv (cxComp X N' scope ⟨C,s₂,H,fp⟩) (pins++[(D,lobj [] 0)]) (sgm nt caps σ) H { s₂ with heap:=h₁,toks:=s₂.toks+([]:List (Str×Value)).length } :=
  pinD (pl:=[]) (by rw [List.append_nil]; exact inv_comp I S f2 hlt (by rw [hD]; exact hCle) hns₁ old) (I.hok.fresh (by rw [hD]; exact Nat.le_refl _)) hacc
 have st1:tn 0 h₁:=T.keep 0 _ _ st fun b _ o e=>old b o e
 have loop:∀ s₃:Shared,s₃={ s₂ with heap:=h₁,toks:=s₂.toks+([]:List (Str×Value)).length } →
   codeAny (model X.prog X.w) X.A (.compLoop (.ListComp elt [⟨tg,iter,ifs,0⟩] scope pos) 0 (.ref it) (.ref D) (cxComp X N' scope ⟨C,s₂,H,fp⟩).env) (RR (.ref D) C) s₃:=by
  rintro s₃ rfl
  obtain ⟨m0,w0⟩:=w0
  refine codeAny_compLoop_go (fun k s'=>∃ i ys σ' H' its n,Inv (cxComp X N' scope ⟨C,s₂,H,fp⟩) (pins++[(D,lobj its n)]) σ' H' s'∧Vals ys its∧tn i s'.heap∧(∀ b∈fp,H' b=none)∧ys.length≤sizeLine∧W i k ys σ' H') ?_ m0
   ⟨0,[],_,H,[],0,I1,.nil,st1,fun b hb=>(f2 b hb).1,Nat.zero_le _,w0⟩
  rintro k s' ⟨i,ys,σ',H',its,n,I',rv,st',fr',hz,w'⟩
  rcases turn ⟨C,s₂,H,fp⟩ i k ys σ' H' w' with ⟨stop,z⟩ | ⟨go,hlen,NN,hNN,step⟩
  ·refine thn (T.done (cxComp X N' scope ⟨C,s₂,H,fp⟩) rfl rfl rfl hc i _ s' σ' H' _ I' (fI fr') st' stop) fun r s1 ⟨hr,J⟩=>?_
   subst hr
   have pd:=J.pin (D,lobj its n) (List.mem_append_right _ (List.mem_append_right _ List.mem_cons_self))
   have hDn:H' D=none:=pd.2.1
   have J0:Inv X pins σ H' s1:=I.call' (ch:=fp) J.os J.base J.hok J.bare fun b hb=>⟨(f2 b hb).2.2.2.1,(f2 b hb).2.1,(f2 b hb).2.2.2.2.1,(f2 b hb).2.2.2.2.2⟩
   have J1:Inv X pins σ (upd H' D (.lst ys)) s1:=J0.track (I.fpOk (by rw [hD]; exact Nat.le_refl _) hDn) ⟨hz,its,n,rv,pd.1⟩
   obtain ⟨mC,hnC,_⟩:=J.loc
   exact hRR D C s1 ys H' z hDn J1 (I.fpOk (by rw [hD]; exact hCle) (by rw [upd_ne (Ne.symm hDC)]; exact J.free)) ⟨mC,hnC⟩
  ·refine thn (T.item (cxComp X N' scope ⟨C,s₂,H,fp⟩) rfl rfl rfl hc i _ s' σ' H' _ I' (fI fr') st' go) fun r s1 ⟨u,hr,h1⟩=>?_
   subst hr
   refine thn h1 fun _ s5 ⟨x,H5,I5,r5,y5,st5,fr5⟩=>?_
   have I5':=I5.pinned (fI fr5) (T.obj _ _ st5)
   refine wpAny_mono (hg ⟨C,s₂,H,fp⟩ _ s5 σ' H5 x u _ I5' r5 (step x H5 y5)) (fun _ s6 ⟨σ6,H6,I6,q6⟩=>?_) fun _ _ z=>z.elim
   refine wpAny_mono (ht ⟨C,s₂,H,fp⟩ _ s6 σ6 H6 _ I6 q6) (fun b s7 ⟨H7,I7,q7⟩=>?_) fun _ _ z=>z.elim
   have keepT:∀ {σ8:St} {H8:Hp} {s8:Shared},Inv (cxComp X N' scope ⟨C,s₂,H,fp⟩) ((pins++[(D,lobj its n)])++pinsAt fp s5.heap) σ8 H8 s8→tn (i+1) s8.heap∧(∀ b∈fp,H8 b=none)∧s8.heap.get? D=some (lobj its n)∧H8 D=none:=fun {σ8 H8 s8} I8=>by
    refine ⟨T.keep _ _ _ st5 fun b hb o e=>(I8.pin (b,o) (List.mem_append_right _ (List.mem_append_right _ (mem_pinsAt hb e)))).1,fun b hb=>?_,?_⟩
    ·obtain ⟨o,e,_⟩:=T.obj _ _ st5 b hb
     exact (I8.pin (b,o) (List.mem_append_right _ (List.mem_append_right _ (mem_pinsAt hb e)))).2.1
    ·have pd:=I8.pin (D,lobj its n) (List.mem_append_right _ (List.mem_append_left _ (List.mem_append_right _ List.mem_cons_self)))
     exact ⟨pd.1,pd.2.1⟩
   cases b with
   | false =>
    rw [if_neg Bool.false_ne_true] at q7 ⊢
    obtain ⟨m',hm,w7⟩:=hNN _ _ _ q7
    obtain ⟨t7,f7,_,_⟩:=keepT I7
    exact ⟨m',hm,i+1,ys,σ6,H7,its,n,I7.unpinned,rv,t7,f7,hz,w7⟩
   | true =>
    rw [if_pos rfl] at q7 ⊢
    refine wpAny_mono (he ⟨C,s₂,H,fp⟩ _ s7 σ6 H7 _ I7 q7) (fun v s8 ⟨y,H8,I8,r8,q8⟩=>?_) fun _ _ z=>z.elim
    obtain ⟨m',hm,w8⟩:=hNN _ _ _ q8
    obtain ⟨t8,f8,o8,n8⟩:=keepT I8
    have hlv:=rv.length
    refine append_at o8 (fun h9 sb9 o9=>?_) (by rw [List.size_toArray,← hlv]; exact hz)
    have I8':Inv (cxComp X N' scope ⟨C,s₂,H,fp⟩) (pins++[]) σ6 H8 s8:=by
     rw [List.append_nil]
     exact I8.unpinned.unpinned
    have ep:((its.toArray.push v))=(its++[v]).toArray:=by simp
    rw [ep] at o9
    have I9:Inv (cxComp X N' scope ⟨C,s₂,H,fp⟩) (pins++[]) σ6 H8 { s8 with heap:=h9 } :=
     I8'.turnedL (t':=s8.toks) (ch:=[D]) (fun b o hb e=>sb9.extBut b o (fun z=>hb (by simp [z])) e) (fun b hb=>by
      have e:b=D:=by simpa using hb
      subst e
      exact fD n8 (by rw [List.append_nil]; exact hpl))
    refine ⟨m',hm,i+1,ys++[y],σ6,H8,its++[v],n+1,pinD I9 n8 o9,rv.append (.cons r8 .nil),T.keep _ _ _ t8 fun b hb o e=>sb9.extBut b o (Nat.ne_of_lt (hlt' b hb)) e,f8,?_,w8⟩
    rw [List.length_append,List.length_singleton]
    exact hlen
 exact codeAny_compStart_list (loop _ rfl) (T.self X.A 0 _ _ _ st1 (loop _ rfl))
def tComp (nt:Nat) (caps:List Nat) (wi:TI) (g:Blk→TG) (tt:Blk→TT) (te:Blk→TE):TE:=fun σ H Q=>wi σ H fun J H1 =>
 ∃ (W:Nat→Nat→List V→St→Hp→Prop),(∃ m,W 0 m [] (sgm nt caps σ) H1)∧∀ B,CompW J (g B) (tt B) (te B) W fun ys H'=>∀ p,H' p=none→Q (.ref p) (upd H' p (.lst ys))
theorem pe_comp {wi:TI} (osc:Scope) (N:List Str) (S:CompScope osc N scope N' nt caps) (hi:PI X tg iter wi)
  (hg:∀ B,PG (cxComp X N' scope B) tg (g B)) (ht:∀ B,PTs (cxComp X N' scope B) ifs (tt B)) (he:∀ B,PE (cxComp X N' scope B) elt (te B))
  (hc:X.calm=true:=by rfl) (hosc:X.env.scope=osc:=by rfl) (hNN:X.N=N:=by rfl) (hs:∀ x,foldedSetIterable iter X.env x=pure x:=by intro _; rfl):PE X (.ListComp elt [⟨tg,iter,ifs,0⟩] scope pos) (tComp nt caps wi g tt te):=by
 subst hosc hNN
 intro pins s σ H Q I h
 have hfr:∀ x∈scope.names,x.2=.free→∃ c,X.env.cells.lookup x.1=some c:=fun x hx hf=>I.ok.has x.1 (S.frees x hx hf)
 rw [eval_ListComp]
 refine wpAny_comprehension_free (use:=none) rfl hs (closureFor_eq hfr) S.kind S.names (thn (hi pins s σ H _ I h) fun v s1 h1=>thn h1 fun itv s2 h2=>?_)
 obtain ⟨it,fp,tn,J,H2,e,I2,T,st2,f2,W,w0,turn⟩:=h2
 subst e
 refine comp_run (RR:=fun acc C=>compPost (model X.prog X.w) X.A X.xe none (EP X pins σ Q) acc C) hc S hg ht he I2 T st2 f2 w0 turn ?_
 intro D C s' ys H' z hn J' fC ⟨m,hm⟩
 refine ⟨m,hm,fun h'' sb=>⟨.ref D,_,J'.turnedL (t':=s'.toks) (ch:=[C]) (fun b o hb e=>sb.extBut b o (fun z=>hb (by simp [z])) e) (fun b hb=>?_),rfl,z D hn⟩⟩
 have e:b=C:=by simpa using hb
 subst e
 exact fC
theorem ps_setComp {wi:TI} {i:Nat} {y:Str} {py spos:Pos} (osc:Scope) (N:List Str) (S:CompScope osc N scope N' nt caps) (hN:X.N.Nodup) (hiN:X.N[i]?=some y) (hy:X.env.scope.names.lookup y=some .local) (hi:PI X tg iter wi)
  (hg:∀ B,PG (cxComp X N' scope B) tg (g B)) (ht:∀ B,PTs (cxComp X N' scope B) ifs (tt B)) (he:∀ B,PE (cxComp X N' scope B) elt (te B))
  (hsw:swapsWith (.ListComp elt [⟨tg,iter,ifs,0⟩] scope pos) (some (.Name y py)) spos.line X.env=pure true:=by rfl)
  (hc:X.calm=true:=by rfl) (hosc:X.env.scope=osc:=by rfl) (hNN:X.N=N:=by rfl) (hs:∀ x,foldedSetIterable iter X.env x=pure x:=by intro _; rfl):PS X (.Assign [.Name y py] (.ListComp elt [⟨tg,iter,ifs,0⟩] scope pos) spos) (tAsg (tComp nt caps wi g tt te) (gName i)):=by
 subst hosc hNN
 intro pins s σ H D0 I h
 have hfr:∀ x∈scope.names,x.2=.free→∃ c,X.env.cells.lookup x.1=some c:=fun x hx hf=>I.ok.has x.1 (S.frees x hx hf)
 rw [exec_Assign_Name_used _ _ _ _ hsw]
 refine wpAny_bind (wpAny_standAt (wpAny_bind ?_))
 show wpAny _ _ (do let _ ← comprehension (.ListComp elt [⟨tg,iter,ifs,0⟩] scope pos) scope X.env _ (newList []) false (eval iter X.env) (some (assign (.Name y py) X.env))) _ _ s
 refine wpAny_bind (wpAny_mono (wpAny_comprehension_free (use:=some (assign (.Name y py) X.env)) (Q:=fun _ s'=>SP X pins D0 .next s') rfl hs (closureFor_eq hfr) S.kind S.names
  (thn (hi pins s σ H _ I h) fun v s1 h1=>thn h1 fun itv s2 h2=>?_)) (fun _ s' hq=>wpAny_pure (wpAny_pure hq)) fun _ _ e=>e)
 obtain ⟨it,fp,tn,J,H2,e,I2,T,st2,f2,W,w0,turn⟩:=h2
 subst e
 refine comp_run (RR:=fun acc C=>compPost (model X.prog X.w) X.A X.xe (some (assign (.Name y py) X.env)) (fun _ s'=>SP X pins D0 .next s') acc C) hc S hg ht he I2 T st2 f2 w0 turn ?_
 intro D C s' ys H' z hn J' fC ⟨m,hm⟩
 show wpAny _ _ (assign (.Name y py) X.env (.ref D)) _ _ s'
 refine wpAny_assign_Name (store_ok2 (v:=.ref D) J' hN hiN (.inl hy) rfl (fun s'' J'' ⟨a,sb,ha⟩=>?_) (.inr hy))
 have hCa:C≠a:=by
  rcases ha with q | q
  ·rw [q]; exact fC.2.1
  ·exact Ne.symm (fC.2.2.2.2.1 _ _ q)
 refine ⟨m,hm.sameBut sb hCa,fun h'' sb'=>⟨_,_,J''.turnedL (t':=s''.toks) (ch:=[C]) (fun b o hb e=>sb'.extBut b o (fun z=>hb (by simp [z])) e) (fun b hb=>?_),z D hn⟩⟩
 have e:b=C:=by simpa using hb
 subst e
 exact fC
end
def Itz (K:PySem.W.Frag) (a b:Addr):It where
 go i H:=∃ xs ys x y,SqL K H a xs∧SqL K H b ys∧xs[i]?=some x∧ys[i]?=some y
 yld i H v H':=∃ p x y,H p=none∧v=.ref p∧H'=upd H p (.tup [x,y])∧(∀ xs,SqL K H a xs→xs[i]?=some x)∧∀ ys,SqL K H b ys→ys[i]?=some y
 stop i H:=∃ xs ys,SqL K H a xs∧SqL K H b ys∧(xs.length≤i∨ys.length≤i)
theorem ne_cls {h:Heap} {a b:Addr} {o u:Obj} {x y:Value} (ha:h.get? a=some o) (hb:h.get? b=some u) (h1:o.cls=x) (h2:u.cls=y) (hc:x≠y):a≠b:=by
 rintro rfl
 rw [ha] at hb
 cases hb
 exact hc (h1.symm.trans h2)
theorem zip_apart {h:Heap} {z TI TO i1 i2 a b:Addr} {k1 k2:Nat} {xs ys:Array Value} {u v:Value} (hTT:TI≠TO) (hii:i1≠i2) (hz:IsZip h z TI TO .none) (hTI:IsPair h TI (.ref i1) (.ref i2)) (hTO:IsPair h TO u v)
  (h1:h.IsListIter i1 a k1) (h2:h.IsListIter i2 b k2) (ha:h.IsList a xs) (hb:h.IsList b ys):ZipApart z TI TO i1 i2 a b:=by
 obtain ⟨o1,e1,c1,_⟩:=h1
 obtain ⟨o2,e2,c2,_⟩:=h2
 obtain ⟨oa,ea,ca,_⟩:=ha
 obtain ⟨ob,eb,cb,_⟩:=hb
 exact ⟨(ne_cls (x:=.type "tuple") (y:=.type "zip") hTI hz rfl rfl (by decide)),(ne_cls (x:=.type "tuple") (y:=.type "zip") hTO hz rfl rfl (by decide)),(ne_cls (x:=.type "list_iterator") (y:=.type "zip") e1 hz c1 rfl (by decide)),(ne_cls (x:=.type "list_iterator") (y:=.type "zip") e2 hz c2 rfl (by decide)),hTT,(ne_cls (x:=.type "tuple") (y:=.type "list_iterator") hTI e1 rfl c1 (by decide)),(ne_cls (x:=.type "tuple") (y:=.type "list_iterator") hTI e2 rfl c2 (by decide)),(ne_cls (x:=.type "tuple") (y:=.type "list_iterator") hTO e1 rfl c1 (by decide)),(ne_cls (x:=.type "tuple") (y:=.type "list_iterator") hTO e2 rfl c2 (by decide)),hii,(ne_cls (x:=.type "list") (y:=.type "zip") ea hz ca rfl (by decide)),(ne_cls (x:=.type "list") (y:=.type "tuple") ea hTO ca rfl (by decide)),(ne_cls (x:=.type "list") (y:=.type "list_iterator") ea e1 ca c1 (by decide)),(ne_cls (x:=.type "list") (y:=.type "list_iterator") ea e2 ca c2 (by decide)),(ne_cls (x:=.type "list") (y:=.type "zip") eb hz cb rfl (by decide)),(ne_cls (x:=.type "list") (y:=.type "tuple") eb hTO cb rfl (by decide)),(ne_cls (x:=.type "list") (y:=.type "list_iterator") eb e1 cb c1 (by decide)),(ne_cls (x:=.type "list") (y:=.type "list_iterator") eb e2 cb c2 (by decide))⟩
theorem turn_zip {P:Program} {w:World} {K:PySem.W.Frag} {elts:List Expr} {kx} {tpos:Pos} {z TI TO i1 i2 a b:Addr} (hTT:TI≠TO) (hii:i1≠i2):Turn P w K (.Tuple elts kx tpos) (Itz K a b) [z,TI,TO,i1,i2] z
  (fun i h=>IsZip h z TI TO .none∧IsPair h TI (.ref i1) (.ref i2)∧(∃ u v,IsPair h TO u v)∧h.IsListIter i1 a i∧h.IsListIter i2 b i) where
 mem:=by simp
 obj:=fun i h st c hc=>by
  obtain ⟨hz,hTI,⟨u,v,hTO⟩,⟨o1,e1,_,d1⟩,⟨o2,e2,_,d2⟩⟩:=st
  simp only [List.mem_cons,List.not_mem_nil,or_false] at hc
  rcases hc with rfl | rfl | rfl | rfl | rfl
  ·exact ⟨_,hz,fun v q=>by cases q⟩
  ·exact ⟨_,hTI,fun v q=>by cases q⟩
  ·exact ⟨_,hTO,fun v q=>by cases q⟩
  ·exact ⟨_,e1,fun v q=>by rw [d1] at q; cases q⟩
  ·exact ⟨_,e2,fun v q=>by rw [d2] at q; cases q⟩
 keep:=fun i h h' st k=>by
  obtain ⟨hz,hTI,⟨u,v,hTO⟩,h1,h2⟩:=st
  exact ⟨k z (by simp) _ hz,k TI (by simp) _ hTI,⟨u,v,k TO (by simp) _ hTO⟩,h1.at fun o e=>k i1 (by simp) o e,h2.at fun o e=>k i2 (by simp) o e⟩
 item:=by
  intro X hP hw hK hc i pins s σ H E I hf st hg
  subst hP hw hK
  obtain ⟨xs,ys,x,y,qa,qb,hx,hy⟩:=hg
  obtain ⟨its1,rv1,p1,z1⟩:=I.list qa
  obtain ⟨its2,rv2,p2,z2⟩:=I.list qb
  obtain ⟨u1,hu1,ru1⟩:=rv1.get hx
  obtain ⟨u2,hu2,ru2⟩:=rv2.get hy
  obtain ⟨hz,hTI,⟨u,v,hTO⟩,h1,h2⟩:=st
  have D:=zip_apart hTT hii hz hTI hTO h1 h2 p1.isList p2.isList
  refine wpAny_pyNext_zip_item D hz hTI hTO h1 h2 p1.isList p2.isList (x:=u1) (y:=u2) (by simpa using hu1) (by simpa using hu2) fun h' a1 a2 a3 a4 a5 a6 hk=>?_
  refine ⟨_,rfl,wpAny_letOwnedTupleGo_zip a1 fun h'' hz'' sb=>?_⟩
  have zlt:=Heap.lt_size hz
  have pz:s.heap.objs.size≠z:=Nat.ne_of_gt zlt
  have hfr:=I.hok.fresh (Nat.le_refl s.heap.objs.size)
  have I1:Inv X pins σ H { s with heap:=h'' }:=I.turnedL (t':=s.toks) (ch:=[z,TO,i1,i2]) (fun c o hb e=>by
   simp only [List.mem_cons,List.not_mem_nil,or_false,not_or] at hb
   exact sb.extBut c o hb.1 (hk c o hb.1 hb.2.1 hb.2.2.1 hb.2.2.2 e)) (fun c hb=>hf c (by
   simp only [List.mem_cons,List.not_mem_nil,or_false] at hb ⊢
   rcases hb with q | q | q | q
   ·exact .inl q
   ·exact .inr (.inr (.inl q))
   ·exact .inr (.inr (.inr (.inl q)))
   ·exact .inr (.inr (.inr (.inr q)))))
  have hp:IsPair h'' s.heap.objs.size u1 u2:=sb.extBut _ _ pz a5
  have I2:Inv X pins σ (upd H s.heap.objs.size (.tup [x,y])) { s with heap:=h'' }:=I1.track (I.fpOk (Nat.le_refl _) hfr) ⟨by show 2≤sizeLine; decide,[u1,u2],.cons ru1 (.cons ru2 .nil),⟨_,hp,rfl,_,rfl⟩⟩
  refine ⟨.ref s.heap.objs.size,_,I2,rfl,⟨_,x,y,hfr,rfl,rfl,fun xs' q=>by rw [I.list_inj q qa]; exact hx,fun ys' q=>by rw [I.list_inj q qb]; exact hy⟩,
   ⟨hz'',sb.extBut _ _ D.TIz (hk _ _ D.TIz D.TITO D.TIi1 D.TIi2 hTI),⟨_,_,sb.extBut _ _ D.TOz a2⟩,a3.extBut sb.extBut D.i1z,a4.extBut sb.extBut D.i2z⟩,fun c hb=>?_⟩
  rw [upd_ne (fun q=>?_)]
  ·exact (hf c hb).1
  ·have hlt:c<s.heap.objs.size:=by
    obtain ⟨o1,e1,_⟩:=h1
    obtain ⟨o2,e2,_⟩:=h2
    simp only [List.mem_cons,List.not_mem_nil,or_false] at hb
    rcases hb with rfl | rfl | rfl | rfl | rfl
    ·exact Heap.lt_size hz
    ·exact Heap.lt_size hTI
    ·exact Heap.lt_size hTO
    ·exact Heap.lt_size e1
    ·exact Heap.lt_size e2
   rw [q] at hlt
   exact Nat.lt_irrefl _ hlt
 done:=by
  intro X hP hw hK hc i pins s σ H E I hf st hg
  subst hP hw hK
  obtain ⟨xs,ys,qa,qb,hend⟩:=hg
  obtain ⟨its1,rv1,p1,z1⟩:=I.list qa
  obtain ⟨its2,rv2,p2,z2⟩:=I.list qb
  obtain ⟨hz,hTI,⟨u,v,hTO⟩,h1,h2⟩:=st
  have D:=zip_apart hTT hii hz hTI hTO h1 h2 p1.isList p2.isList
  have l1:=rv1.length
  have l2:=rv2.length
  refine wpAny_pyNext_zip_end (I.ok.hd hc) D hz hTI hTO h1 h2 p1.isList p2.isList ?_ fun h' hk=>⟨rfl,?_⟩
  ·rcases hend with q | q
   ·exact .inl (by simp; omega)
   ·exact .inr (by simp; omega)
  ·exact I.turnedL (t':=s.toks) (ch:=[z,TO,i1,i2]) (fun c o hb e=>by
    simp only [List.mem_cons,List.not_mem_nil,or_false,not_or] at hb
    exact hk c o hb.1 hb.2.1 hb.2.2.1 hb.2.2.2 e) (fun c hb=>hf c (by
    simp only [List.mem_cons,List.not_mem_nil,or_false] at hb ⊢
    rcases hb with q | q | q | q
    ·exact .inl q
    ·exact .inr (.inr (.inl q))
    ·exact .inr (.inr (.inr (.inl q)))
    ·exact .inr (.inr (.inr (.inr q)))))
 self:=fun _ _ _ _ _ st h=>wpAny_pyIter_zip st.1 h
section
variable {X:Cx}
def iZip (K:PySem.W.Frag) (ta:TA):TI:=fun σ H R=>ta σ H fun vs H1=>∃ a b xs ys,vs=[.ref a,.ref b]∧SqL K H1 a xs∧SqL K H1 b ys∧R (Itz K a b) H1
theorem pi_zip {ea eb:Expr} {ta:TA} {elts:List Expr} {kx} {tpos p pos:Pos} (hg:Gl X "zip") (hm:X.mg "zip" = none) (ha:PA X [ea,eb] ta) (hs:starEach [ea,eb] X.env=[(false,eval ea X.env),(false,eval eb X.env)]:=by rfl) (hs2:starEach [eb] X.env=[(false,eval eb X.env)]:=by rfl) :
  PI X (.Tuple elts kx tpos) (.Call (.Name "zip" p) [ea,eb] [] pos) (iZip X.K ta):=by
 intro pins s σ H R I h
 refine Call_ (ld_blt I hg hm (by rfl:bootBuiltins "zip" = some (.type "zip")) (PyProof.Rows.callWith_type1 (thn (ha pos pins s σ H _ I h) fun us s1 ⟨vs,H1,I1,r1,q1⟩=>?_) (by rw [hs,hs2]) (by rw [hs2]; rfl)))
 obtain ⟨a,b,xs,ys,e,qa,qb,q⟩:=q1
 subst e
 cases r1 with
 | cons r rr =>
  cases rr with
  | cons r' rr =>
   cases rr
   cases r
   cases r'
   obtain ⟨its1,rv1,p1,z1⟩:=I1.list qa
   obtain ⟨its2,rv2,p2,z2⟩:=I1.list qb
   refine call_zip_2 p1.isList p2.isList fun h' hz hTI hTO h1 h2 hsz hk=>wpAny_pyIter_zip hz ?_
   refine ⟨s1.heap.objs.size+4,[s1.heap.objs.size+4,s1.heap.objs.size+2,s1.heap.objs.size+3,s1.heap.objs.size,s1.heap.objs.size+1],_,_,H1,rfl,I1.kept (t':=s1.toks) hk,turn_zip (Nat.ne_of_lt (Nat.lt_succ_self _)) (Nat.ne_of_lt (Nat.lt_succ_self _)),⟨hz,hTI,⟨_,_,hTO⟩,h1,h2⟩,fun c hb=>?_,q⟩
   have hle:s1.heap.objs.size≤c:=by
    simp only [List.mem_cons,List.not_mem_nil,or_false] at hb
    rcases hb with q | q | q | q | q
    ·rw [q]; exact Nat.le_add_right _ _
    ·rw [q]; exact Nat.le_add_right _ _
    ·rw [q]; exact Nat.le_add_right _ _
    ·rw [q]; exact Nat.le_refl _
    ·rw [q]; exact Nat.le_add_right _ _
   exact I1.fpOk hle (I1.hok.fresh hle)
end
section
variable {K:PySem.W.Frag} {g:Blk→TG} {tt:Blk→TT} {te:Blk→TE} {Z:List V→Hp→Prop} {σ0:St} {H1:Hp}
theorem comp_listP {a:Addr} {xs:List V} (Pv:Nat→List V→St→Hp→Prop) (h0:Pv 0 [] σ0 H1) (hl:∀ i ys σ H,i≤xs.length→Pv i ys σ H→SqL K H a xs∧ys.length<sizeLine)
  (hs:∀ B i x ys σ H,xs[i]?=some x→Pv i ys σ H→g B x σ H fun σ2 H3=>tt B σ2 H3 fun b H4=>if b=true then te B σ2 H4 fun y H5=>Pv (i+1) (ys++[y]) σ2 H5 else Pv (i+1) ys σ2 H4)
  (hd:∀ ys σ H,Pv xs.length ys σ H→Z ys H):∃ W:Nat→Nat→List V→St→Hp→Prop,(∃ m,W 0 m [] σ0 H1)∧∀ B,CompW (Itl K a) (g B) (tt B) (te B) W Z:=by
 refine ⟨fun i m ys σ H=>m=xs.length-i∧i≤xs.length∧Pv i ys σ H,⟨xs.length,by simp,Nat.zero_le _,h0⟩,?_⟩
 rintro B i m ys σ H ⟨rfl,hi,p⟩
 obtain ⟨q,hz⟩:=hl i ys σ H hi p
 by_cases hlt:i<xs.length
 ·refine .inr ⟨⟨xs,xs[i],q,by simp [hlt]⟩,hz,Pv (i+1),fun zs σ' H' p'=>⟨xs.length-(i+1),by omega,rfl,hlt,p'⟩,fun x H' y=>?_⟩
  obtain ⟨e,y⟩:=y
  subst e
  exact hs B i x ys σ _ (y xs q) p
 ·have e:i=xs.length:=by omega
  subst e
  exact .inl ⟨⟨xs,q,Nat.le_refl _⟩,hd ys σ H p⟩
theorem comp_rangeP {lo:Int} {n:Nat} (Pv:Nat→List V→St→Hp→Prop) (h0:Pv 0 [] σ0 H1) (hl:∀ i ys σ H,i≤n→Pv i ys σ H→ys.length<sizeLine)
  (hs:∀ B i ys σ H,i<n→Pv i ys σ H→g B (.int (lo+i)) σ H fun σ2 H3=>tt B σ2 H3 fun b H4=>if b=true then te B σ2 H4 fun y H5=>Pv (i+1) (ys++[y]) σ2 H5 else Pv (i+1) ys σ2 H4)
  (hd:∀ ys σ H,Pv n ys σ H→Z ys H):∃ W:Nat→Nat→List V→St→Hp→Prop,(∃ m,W 0 m [] σ0 H1)∧∀ B,CompW (Itr lo n) (g B) (tt B) (te B) W Z:=by
 refine ⟨fun i m ys σ H=>m=n-i∧i≤n∧Pv i ys σ H,⟨n,by simp,Nat.zero_le _,h0⟩,?_⟩
 rintro B i m ys σ H ⟨rfl,hi,p⟩
 by_cases hlt:i<n
 ·refine .inr ⟨hlt,hl i ys σ H hi p,Pv (i+1),fun zs σ' H' p'=>⟨n-(i+1),by omega,rfl,hlt,p'⟩,fun x H' y=>?_⟩
  obtain ⟨e,y⟩:=y
  subst e y
  exact hs B i ys σ _ hlt p
 ·have e:i=n:=by omega
  subst e
  exact .inl ⟨Nat.le_refl _,hd ys σ H p⟩
theorem comp_zipP {a b:Addr} {xs ws:List V} (Pv:Nat→List V→St→Hp→Prop) (h0:Pv 0 [] σ0 H1) (he:xs.length=ws.length) (hl:∀ i ys σ H,i≤xs.length→Pv i ys σ H→SqL K H a xs∧SqL K H b ws∧ys.length<sizeLine)
  (hs:∀ B i x w p ys σ H,xs[i]?=some x→ws[i]?=some w→Pv i ys σ H→H p=none→g B (.ref p) σ (upd H p (.tup [x,w])) fun σ2 H3=>tt B σ2 H3 fun b H4=>if b=true then te B σ2 H4 fun y H5=>Pv (i+1) (ys++[y]) σ2 H5 else Pv (i+1) ys σ2 H4)
  (hd:∀ ys σ H,Pv xs.length ys σ H→Z ys H):∃ W:Nat→Nat→List V→St→Hp→Prop,(∃ m,W 0 m [] σ0 H1)∧∀ B,CompW (Itz K a b) (g B) (tt B) (te B) W Z:=by
 refine ⟨fun i m ys σ H=>m=xs.length-i∧i≤xs.length∧Pv i ys σ H,⟨xs.length,by simp,Nat.zero_le _,h0⟩,?_⟩
 rintro B i m ys σ H ⟨rfl,hi,p⟩
 obtain ⟨qa,qb,hz⟩:=hl i ys σ H hi p
 by_cases hlt:i<xs.length
 ·refine .inr ⟨⟨xs,ws,xs[i],ws[i]'(he ▸ hlt),qa,qb,by simp [hlt],by simp [he ▸ hlt]⟩,hz,Pv (i+1),fun zs σ' H' p'=>⟨xs.length-(i+1),by omega,rfl,hlt,p'⟩,fun v H' y=>?_⟩
  obtain ⟨q,x,w,hq,e1,e2,hx,hw⟩:=y
  subst e1 e2
  exact hs B i x w q ys σ H (hx xs qa) (hw ws qb) p hq
 ·have e:i=xs.length:=by omega
  subst e
  exact .inl ⟨⟨xs,ws,qa,qb,.inl (Nat.le_refl _)⟩,hd ys σ H p⟩
end
protected theorem Same.upd {H H':Hp} (e:Same H H') {p:Addr} {o:HO} (h:H' p=none):Same H (L2.upd H' p o):=fun b u q=>by
 have q':=e b u q
 rw [upd_ne (ne_of_none q' h)]
 exact q'
protected theorem Same.upd' {H H':Hp} (e:Same H H') {p:Addr} {o:HO} (h:H p=none):Same H (L2.upd H' p o):=fun b u q=>by
 rw [upd_ne (ne_of_none q h)]
 exact e b u q
theorem comp_zip1 {K:PySem.W.Frag} {K':Blk→PySem.W.Frag} {te:Blk→TE} {H1:Hp} {Z:List V→Hp→Prop} {a b:Addr} {xs ws:List V} {τ:St} (f:V→V→V) (he:xs.length=ws.length) (hn:xs.length<sizeLine) (qa:SqL K H1 a xs) (qb:SqL K H1 b ws)
  (hs:∀ B x w H,x∈xs→w∈ws→Same H1 H→∀ Q':VK,(∀ H2,Same H H2→Q' (f x w) H2)→te B (some x::some w::τ) H Q')
  (hd:∀ H2,Same H1 H2→Z (List.zipWith f xs ws) H2) :
  ∃ W:Nat→Nat→List V→St→Hp→Prop,(∃ m,W 0 m [] (none::none::τ) H1)∧∀ B:Blk,CompW (Itz K a b) (gTup (K' B) 2 (gCons (gName 0) (gCons (gName 1) gNil))) tTrue (te B) W Z:=by
 refine comp_zipP (g:=fun B=>gTup (K' B) 2 (gCons (gName 0) (gCons (gName 1) gNil))) (tt:=fun _=>tTrue) (xs:=xs) (ws:=ws) (fun i ys σ H=>(∃ v u,σ=v::u::τ)∧Same H1 H∧ys=(List.zipWith f xs ws).take i) ⟨⟨none,none,rfl⟩,Same.refl _,rfl⟩ he (fun i ys σ H hi ⟨_,S,e⟩=>⟨S.seq qa,S.seq qb,?_⟩) (fun B i x w p ys σ H hx hw ⟨⟨v,u,e⟩,S,ey⟩ hp=>?_) (fun ys σ H ⟨_,S,e⟩=>?_)
 ·rw [e,List.length_take,List.length_zipWith]; omega
 ·subst e
  refine ⟨p,[x,w],rfl,SqT.of upd_same,rfl,x,[w],rfl,w,[],rfl,rfl,?_⟩
  try dsimp only [gName,tTrue,gNil]
  rw [if_pos rfl]
  refine hs B x w _ (List.mem_of_getElem? hx) (List.mem_of_getElem? hw) (S.upd hp) _ fun H2 S2=>⟨⟨_,_,rfl⟩,(S.upd hp).trans S2,?_⟩
  rw [ey,List.take_add_one,List.getElem?_zipWith,hx,hw]
  rfl
 ·rw [e,List.take_of_length_le (by rw [List.length_zipWith]; omega)]
  exact hd H S
end L2
namespace L2
open PySem PySem.Spec PyProof.Rows
section
variable {X:Cx}
inductive rIsOf (K:PySem.W.Frag) (xs:List V) (H:Hp) (Q:VK):Prop
 | mk:∀ x n t b,(xs=[x,.ty n])→(TyOf K H x t)→(PySem.W.kitOne K t (.type n)=some b)→(Q (.bl b) H)→rIsOf K xs H Q
theorem call_isinst:CallR X (.builtin "isinstance") (rIsOf X.K):=by
 intro pins s σ H xs us Q I r h
 obtain ⟨x,n,t,b,e,ty,k,q⟩:=h
 subst e
 obtain ⟨u,v,rfl,r1,r2⟩:=vals2 r
 obtain rfl:v=Value.type n:=r2
 exact isinst_ok I r1 ty k fun tk=>⟨.bl b,H,I.tok tk,rfl,q⟩
theorem preSum_take (ns:List Int):∀ n,n≤ns.length→preSum (fun i=>ns.getD i 0) n=(ns.take n).sum
 | 0,_=>by simp [preSum]
 | n+1,h=>by
  have hlt:n<ns.length:=h
  rw [preSum,preSum_take ns n (Nat.le_of_lt hlt),List.take_add_one,List.getElem?_eq_getElem hlt,List.sum_append]
  simp [List.getD_eq_getElem?_getD,List.getElem?_eq_getElem hlt]
inductive rSumOf (K:PySem.W.Frag) (xs:List V) (H:Hp) (Q:VK):Prop
 | mk:∀ (a:Addr) (ns:List Int),(xs=[.ref a])→(SqL K H a (ns.map V.int))→(Q (.int ns.sum) H)→rSumOf K xs H Q
theorem call_sum_list (hc:X.calm=true):CallR X (.builtin "sum") (rSumOf X.K):=by
 intro pins s σ H xs us Q I r h
 obtain ⟨a,ns,e,hq,q⟩:=h
 subst e
 obtain ⟨u,rfl,r1⟩:=vals1 r
 obtain rfl:u=Value.ref a:=r1
 obtain ⟨its,rv,p,hz⟩:=I.list hq
 have hal:a<s.heap.objs.size:=by obtain ⟨o,e,_⟩:=p.isList; exact Heap.lt_size e
 have hl:=rv.length
 rw [List.length_map] at hl
 refine call_sum_walkG (wpAny_pyIter_list p.isList ⟨s.heap.objs.size,_,_,_,_,_,(fun i=>ns.getD i 0),rfl,Walks.list (A:=X.A.in1) (show X.A.in1.handled=none from I.ok.hd hc) _ a (Nat.ne_of_lt hal) its.toArray,⟨⟨_,Heap.get?_push_size _ rfl,rfl,rfl⟩,p.isList.push _⟩,fun b hb=>?_,fun i v hv=>?_,fun h' tk t' hk=>?_⟩)
 ·show b<(s.heap.push _).objs.size
  rw [Heap.size_push]
  rcases List.mem_cons.mp hb with rfl | hb
  ·exact Nat.lt_succ_self _
  ·rw [List.mem_singleton.mp hb]; exact Nat.lt_succ_of_lt hal
 ·have hv':its[i]?=some v:=by simpa using hv
  have hi:i<ns.length:=by rw [hl]; exact (List.getElem?_eq_some_iff.mp hv').1
  have hx:(ns.map V.int)[i]?=some (V.int (ns.getD i 0)):=by
   rw [List.getElem?_map,List.getElem?_eq_getElem hi]
   simp [List.getD_eq_getElem?_getD,List.getElem?_eq_getElem hi]
  obtain ⟨u,hu,ru⟩:=rv.get hx
  rw [hv'] at hu
  cases hu
  exact ru
 ·have es:preSum (fun i=>ns.getD i 0) its.toArray.size=ns.sum:=by
   rw [List.size_toArray,← hl,preSum_take ns _ (Nat.le_refl _),List.take_length]
  rw [es]
  exact ⟨.int ns.sum,H,I.kept fun b o e=>hk b o (fun z=>by have:=List.mem_singleton.mp z; rw [this] at e; exact absurd (Heap.lt_size e) (Nat.lt_irrefl _)) (Heap.get?_push_of_some _ e),⟨_,rfl⟩,q⟩
inductive rAllOf (K:PySem.W.Frag) (xs:List V) (H:Hp) (Q:VK):Prop
 | mk:∀ (a:Addr) (bs:List Bool),(xs=[.ref a])→(SqL K H a (bs.map V.bl))→(Q (.bl (bs.all id)) H)→rAllOf K xs H Q
theorem call_all_list (hc:X.calm=true):CallR X (.builtin "all") (rAllOf X.K):=by
 intro pins s σ H xs us Q I r h
 obtain ⟨a,bs,e,hq,q⟩:=h
 subst e
 obtain ⟨u,rfl,r1⟩:=vals1 r
 obtain rfl:u=Value.ref a:=r1
 obtain ⟨its,rv,p,hz⟩:=I.list hq
 have hal:a<s.heap.objs.size:=by obtain ⟨o,e,_⟩:=p.isList; exact Heap.lt_size e
 have hl:=rv.length
 rw [List.length_map] at hl
 refine call_all_walk (wpAny_pyIter_list p.isList ⟨s.heap.objs.size,_,_,_,_,_,(fun i=>bs.getD i false),rfl,Walks.list (A:=X.A.in1) (show X.A.in1.handled=none from I.ok.hd hc) _ a (Nat.ne_of_lt hal) its.toArray,⟨⟨_,Heap.get?_push_size _ rfl,rfl,rfl⟩,p.isList.push _⟩,fun i v s' Q' E' hv hQ=>?_,fun h' tk hk=>?_⟩)
 ·have hv':its[i]?=some v:=by simpa using hv
  have hi:i<bs.length:=by rw [hl]; exact (List.getElem?_eq_some_iff.mp hv').1
  have hx:(bs.map V.bl)[i]?=some (V.bl (bs.getD i false)):=by
   rw [List.getElem?_map,List.getElem?_eq_getElem hi]
   simp [List.getD_eq_getElem?_getD,List.getElem?_eq_getElem hi]
  obtain ⟨u,hu,ru⟩:=rv.get hx
  rw [hv'] at hu
  cases hu
  obtain rfl:v=Value.bool (bs.getD i false):=ru
  exact wpAny_truthy_bool hQ
 ·have es:(List.range its.toArray.size).all (fun i=>bs.getD i false)=bs.all id:=by
   rw [List.size_toArray,← hl]
   rw [Bool.eq_iff_iff,List.all_eq_true,List.all_eq_true]
   constructor
   ·intro z x hx
    obtain ⟨i,hi,rfl⟩:=List.mem_iff_getElem.mp hx
    have:=z i (List.mem_range.mpr hi)
    simpa [List.getD_eq_getElem?_getD,List.getElem?_eq_getElem hi] using this
   ·intro z i hi
    have hi:=List.mem_range.mp hi
    have:=z _ (List.getElem_mem hi)
    simpa [List.getD_eq_getElem?_getD,List.getElem?_eq_getElem hi] using this
  rw [es]
  exact ⟨.bl (bs.all id),H,I.kept fun b o e=>hk b o (fun z=>by have:=List.mem_singleton.mp z; rw [this] at e; exact absurd (Heap.lt_size e) (Nat.lt_irrefl _)) (Heap.get?_push_of_some _ e),rfl,q⟩
end
end L2
namespace L2
open PySem PySem.Spec PyProof.Rows
def compOkB (osc:Scope) (N:List Str) (scope:Scope) (N':List Str) (nt:Nat) (caps:List Nat):Bool :=
 decide (scope.kind=.function)&&decide (∀ y∈scope.names,y.2≠.cell)&&decide (∀ y∈scope.names,y.2=.local→scope.names.lookup y.1=some .local) &&
 decide (∀ y∈scope.names,y.2=.free→osc.names.lookup y.1=some .cell∨osc.names.lookup y.1=some .free)&&decide (caps.map (fun j=>N[j]?)=(N'.drop nt).map some) &&
 decide (∀ x∈N'.drop nt,scope.names.lookup x=some .free)&&decide (nt≤N'.length)&&decide N'.Nodup
theorem CompScope.of {osc:Scope} {N:List Str} {scope:Scope} {N':List Str} {nt:Nat} {caps:List Nat} (h:compOkB osc N scope N' nt caps=true):CompScope osc N scope N' nt caps:=by
 unfold compOkB at h
 simp only [Bool.and_eq_true,decide_eq_true_eq] at h
 obtain ⟨⟨⟨⟨⟨⟨⟨a,b⟩,c⟩,d⟩,e⟩,f⟩,g⟩,i⟩:=h
 exact ⟨a,b,c,d,e,f,g,i⟩
section
variable {X:Cx} {tg:Expr}
end
theorem pg_nameC {X:Cx} {i:Nat} {x:Str} {pos:Pos} (N:List Str) (hN:N.Nodup) (hi:N[i]?=some x) (hx:X.env.scope.names.lookup x=some .local:=by rfl) (hXN:X.N=N:=by rfl):PG X (.Name x pos) (gName i) :=
 pg_name (by rw [hXN]; exact hN) (by rw [hXN]; exact hi) (.inl hx) (.inr hx)
theorem bt_sum:bootBuiltins "sum" = some (.builtin "sum"):=by decide +kernel
theorem bt_all:bootBuiltins "all" = some (.builtin "all"):=by decide +kernel
theorem bt_len:bootBuiltins "len" = some (.builtin "len"):=by decide +kernel
theorem bt_abs:bootBuiltins "abs" = some (.builtin "abs"):=by decide +kernel
theorem bt_min:bootBuiltins "min" = some (.builtin "min"):=by decide +kernel
theorem bt_isinstance:bootBuiltins "isinstance" = some (.builtin "isinstance"):=by decide +kernel
theorem bt_list:bootBuiltins "list" = some (.type "list"):=by decide +kernel
theorem bt_int:bootBuiltins "int" = some (.type "int"):=by decide +kernel
theorem bt_bool:bootBuiltins "bool" = some (.type "bool"):=by decide +kernel
theorem bt_str:bootBuiltins "str" = some (.type "str"):=by decide +kernel
theorem bt_tuple:bootBuiltins "tuple" = some (.type "tuple"):=by decide +kernel
theorem bt_set:bootBuiltins "set" = some (.type "set"):=by decide +kernel
end L2
namespace L2
open PySem PySem.Spec PyProof.Rows
abbrev vints (ns:List Int):List V:=ns.map V.int
theorem iteD {p A B:Prop} [Decidable p] (h1:p→A) (h2:¬ p→B):if decide p=true then A else B:=by
 by_cases h:p
 ·rw [if_pos (decide_eq_true h)]
  exact h1 h
 ·rw [if_neg (by rw [decide_eq_false h]; exact Bool.false_ne_true)]
  exact h2 h
theorem iteND {p A B:Prop} [Decidable p] (h1:¬ p→A) (h2:p→B):if (!decide p)=true then A else B:=by
 by_cases h:p
 ·rw [decide_eq_true h]
  exact iteF (h2 h)
 ·rw [decide_eq_false h]
  exact iteT (h1 h)
theorem vint_eq {i j:Int}:(V.int i=V.int j)↔i=j:=⟨fun h=>by cases h; rfl,fun h=>by rw [h]⟩
theorem ints_get {ns:List Int} {i:Nat} {x:V} (h:(vints ns)[i]?=some x):∃ n,ns[i]?=some n∧x=V.int n:=by
 rw [List.getElem?_map] at h
 cases e:ns[i]? with
 | none=>rw [e] at h; cases h
 | some n=>rw [e] at h; exact ⟨n,rfl,(Option.some.inj h).symm⟩
theorem ints_mem {ns:List Int} {x:V} (h:x∈vints ns):∃ n,n∈ns∧x=V.int n:=by
 obtain ⟨n,hn,e⟩:=List.mem_map.mp h
 exact ⟨n,hn,e.symm⟩
theorem ints_len (ns:List Int):(vints ns).length=ns.length:=List.length_map ..
theorem ints_at {ns:List Int} {k:Nat} (h:k<ns.length):atI (vints ns) (k:Int)=some (V.int (ns[k])):=by
 refine atI_nat ?_
 rw [List.getElem?_map,List.getElem?_eq_getElem h]
 rfl
theorem ints_inj {xs ys:List Int} (h:vints xs=vints ys):xs=ys:=by
 have e:=congrArg (List.map fun v=>match v with | V.int i=>i | _=>0) h
 simpa [vints,List.map_map,Function.comp_def] using e
def Rows (H:Hp) (as:List Addr) (rs:List (List Int)):Prop:=Paired (fun (a:Addr) (r:List Int)=>H a=some (.lst (vints r))) as rs
theorem Rows.same {H H':Hp} {as:List Addr} {rs:List (List Int)} (h:Rows H as rs) (S:Same H H'):Rows H' as rs:=Paired.mapP h fun a r e=>S _ _ e
theorem Rows.snoc {H:Hp} {as:List Addr} {rs:List (List Int)} {a:Addr} {r:List Int} (h:Rows H as rs) (e:H a=some (.lst (vints r))):Rows H (as++[a]) (rs++[r]):=Paired.snoc h e
theorem Rows.length {H:Hp} {as:List Addr} {rs:List (List Int)} (h:Rows H as rs):as.length=rs.length:=Paired.length h
theorem Paired.getL {α β:Type} {F:α→β→Prop}:∀ {l₁:List α} {l₂:List β} {i:Nat} {a:α},Paired F l₁ l₂→l₁[i]?=some a→∃ b,l₂[i]?=some b∧F a b
 | _,_,_,_,.nil,e=>by simp at e
 | _,_,0,_,.cons r _,e=>by simp at e; subst e; exact ⟨_,rfl,r⟩
 | _,_,i+1,a,.cons _ t,e=>by
  obtain ⟨u,h1,h2⟩:=Paired.getL (i:=i) (a:=a) t (by simpa using e)
  exact ⟨u,by simpa using h1,h2⟩
theorem small70 {n:Nat} (h:n≤70):n<sizeLine:=Nat.lt_of_le_of_lt h (by decide)
end L2
namespace L2
open PySem PySem.Spec PyProof.Rows
theorem bits_of_lt {x:Int} {n:Nat} (h:x.natAbs<2^n):Builtin.Int.intBits x≤n:=by
 unfold Builtin.Int.intBits
 split
 ·exact Nat.zero_le _
 ·rename_i h0
  have hx:x.natAbs≠0:=fun e=>h0 (by
   have:x=0:=Int.natAbs_eq_zero.mp e
   rw [this]; rfl)
  exact (Nat.log2_lt hx).mpr h
inductive sp_zipd (f:Int→Int→Int) (K:PySem.W.Frag) (vs:List V) (H:Hp) (Q:VK) (z_3:XK):Prop
 | mk:∀ (a b:Addr) (xs ys:List Int),(vs=[.ref a,.ref b])→(SqL K H a (vints xs))→(SqL K H b (vints ys))→(xs.length=ys.length)→(xs.length≤70)→(∀ (p:Addr) (H':Hp),H p=none→Same H H'→H' p=some (.lst (vints (List.zipWith f xs ys)))→Q (.ref p) H')→sp_zipd f K vs H Q z_3
theorem zip_ints {f:Int→Int→Int} {g:V→V→V} (h:∀ i j,g (.int i) (.int j)=.int (f i j)):∀ (xs ys:List Int),List.zipWith g (vints xs) (vints ys)=vints (List.zipWith f xs ys)
 | [],_=>rfl
 | _::_,[]=>rfl
 | x::xs,y::ys=>by
  show g (.int x) (.int y)::List.zipWith g (vints xs) (vints ys)=.int (f x y)::vints (List.zipWith f xs ys)
  rw [h,zip_ints h]
def gInt (f:Int→Int→Int):V→V→V
 | .int i,.int j=>.int (f i j)
 | _,_=>.non
theorem at_place {xs:List Int} {z i:Nat} (hx:xs.length=z) (hi:i<z):atI (vints xs) (0+(i:Int))=some (V.int (xs.getD i 0)):=by
 subst hx
 rw [Int.zero_add,ints_at hi]
 simp [List.getD_eq_getElem?_getD,List.getElem?_eq_getElem hi]
def wsum (xs ys:List Int):Int:=(List.zipWith (fun i j=>i*j) xs ys).sum
end L2
namespace L2
open PySem PySem.Spec PyProof.Rows
end L2
namespace L2
open PySem PySem.Spec PyProof.Rows
def gcdL (xs:List Int):Nat:=xs.foldl (fun g x=>Nat.gcd g x.natAbs) 0
theorem gcd_fold_dvd:∀ (xs:List Int) (g:Nat),xs.foldl (fun g x=>Nat.gcd g x.natAbs) g∣g∧∀ x∈xs,xs.foldl (fun g x=>Nat.gcd g x.natAbs) g∣x.natAbs
 | [],g=>⟨Nat.dvd_refl _,fun x h=>nomatch h⟩
 | y::xs,g=>by
  obtain ⟨h1,h2⟩:=gcd_fold_dvd xs (Nat.gcd g y.natAbs)
  refine ⟨Nat.dvd_trans h1 (Nat.gcd_dvd_left _ _),fun x hx=>?_⟩
  rcases List.mem_cons.mp hx with rfl | hx
  ·exact Nat.dvd_trans h1 (Nat.gcd_dvd_right _ _)
  ·exact h2 x hx
theorem dvd_gcd_fold {d:Nat}:∀ (xs:List Int) (g:Nat),d∣g→(∀ x∈xs,d∣x.natAbs)→d∣xs.foldl (fun g x=>Nat.gcd g x.natAbs) g
 | [],g,h,_=>h
 | y::xs,g,h,k=>dvd_gcd_fold xs _ (Nat.dvd_gcd h (k y List.mem_cons_self)) fun x hx=>k x (List.mem_cons_of_mem _ hx)
theorem gcdL_dvd {xs:List Int} {x:Int} (h:x∈xs):gcdL xs∣x.natAbs:=(gcd_fold_dvd xs 0).2 x h
theorem dvd_gcdL {d:Nat} {xs:List Int} (h:∀ x∈xs,d∣x.natAbs):d∣gcdL xs:=dvd_gcd_fold xs 0 (Nat.dvd_zero d) h
theorem gcdL_snoc (xs:List Int) (x:Int):gcdL (xs++[x])=Nat.gcd (gcdL xs) x.natAbs:=by
 unfold gcdL
 rw [List.foldl_append]
 rfl
theorem vints_snoc (ns:List Int) (n:Int):vints (ns++[n])=vints ns++[V.int n]:=by rw [vints,List.map_append]; rfl
theorem vrefs_snoc (as:List Addr) (a:Addr):(as++[a]).map V.ref=as.map V.ref++[V.ref a]:=by rw [List.map_append]; rfl
theorem Rows.lay {H:Hp} {as:List Addr} {rs:List (List Int)} {p:Addr} {o:HO} (R:Rows H as rs) (h:∀ b∈as,b≠p):Rows (upd H p o) as rs:=by
 induction R with
 | nil=>exact .nil
 | cons q _ ih=>exact .cons (by rw [upd_ne (h _ List.mem_cons_self)]; exact q) (ih fun b hb=>h b (List.mem_cons_of_mem _ hb))
theorem Rows.apart {H:Hp} {as:List Addr} {rs:List (List Int)} {p:Addr} (R:Rows H as rs) (h:H p=some (.lst (as.map V.ref))):∀ b∈as,b≠p:=fun b hb z=>by
 subst z
 obtain ⟨k,hk,e1⟩:=List.mem_iff_getElem.mp hb
 obtain ⟨r,_,e2⟩:=Paired.getL R (List.getElem?_eq_some_iff.mpr ⟨hk,e1⟩)
 rw [h] at e2
 have e3:as.map V.ref=vints r:=by injection (Option.some.inj e2)
 have e4:(as.map V.ref)[k]?=(vints r)[k]?:=by rw [e3]
 rw [List.getElem?_map,List.getElem?_map,List.getElem?_eq_getElem hk] at e4
 cases q:r[k]? with
 | none=>rw [q] at e4; cases e4
 | some n=>rw [q] at e4; cases e4
theorem Rows.mem {H:Hp} {as:List Addr} {rs:List (List Int)} {b:Addr} (R:Rows H as rs) (hb:b∈as):∃ r,r∈rs∧H b=some (.lst (vints r)):=by
 obtain ⟨k,hk,e1⟩:=List.mem_iff_getElem.mp hb
 obtain ⟨r,h1,e2⟩:=Paired.getL R (List.getElem?_eq_some_iff.mpr ⟨hk,e1⟩)
 exact ⟨r,List.mem_of_getElem? h1,e2⟩
theorem seq_join {t rest:TS} {D:Ends} {σ:St} {H:Hp} (I:St→Hp→Prop) (tl:∀ σ' H',I σ' H'→rest D σ' H') (hd:∀ N:St→Hp→Prop,(∀ σ' H',I σ' H'→N σ' H')→t { D with nx:=N } σ H):tSeq t rest D σ H:=hd _ tl
def lowL (xs:List Int):List Int:=if gcdL xs=0 then xs else xs.map fun y=>y/(gcdL xs:Int)
theorem lowL_len (xs:List Int):(lowL xs).length=xs.length:=by
 unfold lowL
 split
 ·rfl
 ·exact List.length_map ..
theorem gcdL_zero {xs:List Int} (h:∀ x∈xs,x=0):gcdL xs=0:=by
 have d:(0:Nat)∣gcdL xs:=dvd_gcdL fun x hx=>by rw [h x hx]; exact Nat.dvd_refl 0
 exact Nat.eq_zero_of_zero_dvd d
theorem zero_of_gcdL {xs:List Int} (h:gcdL xs=0):∀ x∈xs,x=0:=fun x hx=>by
 have d:=gcdL_dvd hx
 rw [h] at d
 exact Int.natAbs_eq_zero.mp (Nat.eq_zero_of_zero_dvd d)
theorem gcdL_lt {xs:List Int} {M:Nat} (h:∀ x∈xs,x.natAbs<M):gcdL xs<M∨∀ x∈xs,x=0:=by
 by_cases q:∀ x∈xs,x=0
 ·exact .inr q
 ·obtain ⟨x,q⟩:=Classical.not_forall.mp q
  obtain ⟨hx,h0⟩:=Classical.not_imp.mp q
  have hp:0<x.natAbs:=Int.natAbs_pos.mpr h0
  exact .inl (Nat.lt_of_le_of_lt (Nat.le_of_dvd hp (gcdL_dvd hx)) (h x hx))
theorem low_abs {xs:List Int} {M:Nat} (h:∀ x∈xs,x.natAbs<M):∀ x∈lowL xs,x.natAbs<M:=fun x hx=>by
 unfold lowL at hx
 split at hx
 ·exact h x hx
 ·obtain ⟨y,hy,rfl⟩:=List.mem_map.mp hx
  exact Nat.lt_of_le_of_lt (Int.natAbs_ediv_le_natAbs _ _) (h y hy)
theorem low_back {xs:List Int} (h0:gcdL xs≠0):(lowL xs).map (fun y=>(gcdL xs:Int)*y)=xs:=by
 rw [lowL,if_neg h0,List.map_map]
 refine List.ext_getElem (by simp) fun i h1 h2=>?_
 rw [List.getElem_map]
 exact Int.mul_ediv_cancel' (Int.ofNat_dvd_left.mpr (gcdL_dvd (List.getElem_mem _)))
theorem low_prime {xs:List Int} (h0:gcdL xs≠0):gcdL (lowL xs)=1:=by
 have hp:0<gcdL xs:=Nat.pos_of_ne_zero h0
 have d:gcdL (lowL xs)*gcdL xs∣gcdL xs:=dvd_gcdL fun x hx=>by
  have e:x=(gcdL xs:Int)*(x/(gcdL xs:Int)):=(Int.mul_ediv_cancel' (Int.ofNat_dvd_left.mpr (gcdL_dvd hx))).symm
  have m:x/(gcdL xs:Int)∈lowL xs:=by rw [lowL,if_neg h0]; exact List.mem_map.mpr ⟨x,hx,rfl⟩
  have e2:x.natAbs=gcdL xs*(x/(gcdL xs:Int)).natAbs:=by
   have:=congrArg Int.natAbs e
   rw [Int.natAbs_mul,Int.natAbs_natCast] at this
   exact this
  rw [e2,Nat.mul_comm (gcdL xs)]
  exact Nat.mul_dvd_mul_right (gcdL_dvd m) _
 have l:=Nat.le_of_dvd hp d
 have q:gcdL (lowL xs)≠0:=fun e=>by
  have z:=zero_of_gcdL e
  refine h0 (gcdL_zero fun x hx=>?_)
  have m:x/(gcdL xs:Int)∈lowL xs:=by rw [lowL,if_neg h0]; exact List.mem_map.mpr ⟨x,hx,rfl⟩
  have e3:=Int.mul_ediv_cancel' (Int.ofNat_dvd_left.mpr (gcdL_dvd hx))
  rw [z _ m,Int.mul_zero] at e3
  exact e3.symm
 have l2:1*gcdL xs≤gcdL (lowL xs)*gcdL xs:=Nat.mul_le_mul_right _ (Nat.one_le_iff_ne_zero.mpr q)
 have e:gcdL (lowL xs)*gcdL xs=1*gcdL xs:=by omega
 exact Nat.eq_of_mul_eq_mul_right hp e
theorem refs_get {as:List Addr} {i:Nat} {x:V} (h:(as.map V.ref)[i]?=some x):∃ b,as[i]?=some b∧x=V.ref b:=by
 rw [List.getElem?_map] at h
 cases e:as[i]? with
 | none=>rw [e] at h; cases h
 | some b=>rw [e] at h; exact ⟨b,rfl,(Option.some.inj h).symm⟩
theorem strs_get {as:List Str} {i:Nat} {x:V} (h:(as.map V.str)[i]?=some x):∃ b,as[i]?=some b∧x=V.str b:=by
 rw [List.getElem?_map] at h
 cases e:as[i]? with
 | none=>rw [e] at h; cases h
 | some b=>rw [e] at h; exact ⟨b,rfl,(Option.some.inj h).symm⟩
end L2
namespace L2
open PySem PySem.Spec PyProof.Rows PySem.SeqAt
theorem all_eq_dec {xs ys:List Int} (h:xs.length=ys.length):(List.range xs.length).all (fun j=>eqV ((vints xs).getD j .non) ((vints ys).getD j .non))=decide (xs=ys):=by
 rw [Bool.eq_iff_iff,List.all_eq_true,decide_eq_true_eq]
 constructor
 ·intro z
  refine List.ext_getElem h fun i h1 h2=>?_
  have q:=z i (List.mem_range.mpr h1)
  simp only [vints,List.getD_eq_getElem?_getD,List.getElem?_map,List.getElem?_eq_getElem h1,List.getElem?_eq_getElem h2,Option.map_some,Option.getD_some,eqV,beq_iff_eq] at q
  exact q
 ·rintro rfl i hi
  have h1:=List.mem_range.mp hi
  simp only [vints,List.getD_eq_getElem?_getD,List.getElem?_map,List.getElem?_eq_getElem h1,Option.map_some,Option.getD_some,eqV,beq_self_eq_true]
section
variable {X:Cx} {pins:List (Addr×Obj)} {σ:St} {H:Hp} {s:Shared} {A:Around} {a b:Addr} {xs ys:List Int}
theorem ints_eqAt {its its2:List Value} (rv:Vals (vints xs) its) (rw':Vals (vints ys) its2):∀ j (h1:j<its.toArray.size) (h2:j<its2.toArray.size),EqAt A s its.toArray[j] its2.toArray[j] (eqV ((vints xs).getD j .non) ((vints ys).getD j .non)):=by
 intro j h1 h2
 have l1:=rv.length
 have l2:=rw'.length
 have k1:j<(vints xs).length:=by rw [l1]; simpa using h1
 have k2:j<(vints ys).length:=by rw [l2]; simpa using h2
 obtain ⟨u,hu,ru⟩:=rv.get (List.getElem?_eq_getElem k1)
 obtain ⟨v,hv,rv2⟩:=rw'.get (List.getElem?_eq_getElem k2)
 have e1:its.toArray[j]=u:=by
  have:=(List.getElem?_eq_some_iff.mp hu).2
  simpa using this
 have e2:its2.toArray[j]=v:=by
  have:=(List.getElem?_eq_some_iff.mp hv).2
  simpa using this
 rw [e1,e2]
 have f:∀ {zs:List Int} (k:j<(vints zs).length),flatV (vints zs)[j]=true∧(vints zs).getD j .non=(vints zs)[j]:=fun {zs} k=>by
  refine ⟨?_,?_⟩
  ·simp only [vints,List.getElem_map]; rfl
  ·rw [List.getD_eq_getElem?_getD,List.getElem?_eq_getElem k]; rfl
 rw [(f k1).2,(f k2).2]
 exact eqAt_V ru rv2 (f k1).1 (f k2).1
theorem rc_ints (I:Inv X pins σ H s) (hu:A.units<cLine) (qa:SqL X.K H a (vints xs)) (qb:SqL X.K H b (vints ys)):RcAt A s (.ref a) (.ref b) (decide (xs=ys)):=by
 obtain ⟨its,rv,p,_⟩:=I.list qa
 obtain ⟨its2,rw',p2,_⟩:=I.list qb
 have l1:=rv.length
 have l2:=rw'.length
 rw [ints_len] at l1 l2
 by_cases h:xs.length=ys.length
 ·have q:=RcAt.lists (A:=A) p.isList p2.isList (by simp; omega) hu (ints_eqAt rv rw')
  have e:its.toArray.size=xs.length:=by simp; omega
  rw [e,all_eq_dec h] at q
  exact q
 ·have e:decide (xs=ys)=false:=decide_eq_false fun z=>h (by rw [z])
  rw [e]
  exact RcAt.lists_lengths p.isList p2.isList (by simp; omega) hu
theorem rcne_ints (I:Inv X pins σ H s) (hu:A.units<cLine) (qa:SqL X.K H a (vints xs)) (qb:SqL X.K H b (vints ys)):RcNeAt A s (.ref a) (.ref b) (!decide (xs=ys)):=by
 obtain ⟨its,rv,p,_⟩:=I.list qa
 obtain ⟨its2,rw',p2,_⟩:=I.list qb
 have l1:=rv.length
 have l2:=rw'.length
 rw [ints_len] at l1 l2
 by_cases h:xs.length=ys.length
 ·have q:=RcNeAt.lists (A:=A) p.isList p2.isList (by simp; omega) hu (ints_eqAt rv rw')
  have e:its.toArray.size=xs.length:=by simp; omega
  rw [e,all_eq_dec h] at q
  exact q
 ·have e:decide (xs=ys)=false:=decide_eq_false fun z=>h (by rw [z])
  rw [e]
  exact RcNeAt.lists_lengths p.isList p2.isList (by simp; omega) hu
inductive rEqL (K:PySem.W.Frag) (x:V) (y:V) (H:Hp) (Q:VK):Prop
 | mk:∀ a b xs ys,(x=.ref a)→(y=.ref b)→(SqL K H a (vints xs))→(SqL K H b (vints ys))→(Q (.bl (decide (xs=ys))) H)→rEqL K x y H Q
inductive rNeL (K:PySem.W.Frag) (x:V) (y:V) (H:Hp) (Q:VK):Prop
 | mk:∀ a b xs ys,(x=.ref a)→(y=.ref b)→(SqL K H a (vints xs))→(SqL K H b (vints ys))→(Q (.bl (!decide (xs=ys))) H)→rNeL K x y H Q
theorem op_eqL (hu:X.A.units<cLine):OpR X (compareOp .Eq) (rEqL X.K):=by
 intro pins s σ H x y v u Q I rx ry h
 obtain ⟨a,b,xs,ys,rfl,rfl,qa,qb,q⟩:=h
 cases rx
 cases ry
 exact rc_ints I hu qa qb _ _ _ _ ⟨.bl _,H,I,rfl,q⟩
theorem op_neL (hu:X.A.units<cLine):OpR X (compareOp .NotEq) (rNeL X.K):=by
 intro pins s σ H x y v u Q I rx ry h
 obtain ⟨a,b,xs,ys,rfl,rfl,qa,qb,q⟩:=h
 cases rx
 cases ry
 exact rcne_ints I hu qa qb _ _ _ _ ⟨.bl _,H,I,rfl,q⟩
end
end L2
namespace L2
open PySem PySem.Spec PyProof.Rows
section
variable {R:List Int→List Int→Bool} {all:List (List Int)}
end
end L2
namespace L2
open PySem PySem.Spec PyProof.Rows
section
variable {X:Cx} {CX:CXT} {k i:Nat} {f:Addr} {fd:FuncData} {ps:List Str} {sp:Sp} {dvs:List V} {ds:List Value} {E:XK} {x:Str} {p pos:Pos} {e:Expr} {es:List Expr} {t:TA}
end
end L2
namespace L2
open PySem PySem.Spec PyProof.Rows
def put1 {κ:Type} [DecidableEq κ] (acc:List κ) (x:κ):List κ:=if x∈acc then acc else acc++[x]
def metK {κ:Type} [DecidableEq κ] (val:Nat→κ):Nat→List κ
 | 0=>[]
 | i+1=>put1 (metK val i) (val i)
theorem metK_le {κ:Type} [DecidableEq κ] (val:Nat→κ):∀ i,(metK val i).length≤i
 | 0=>Nat.le_refl _
 | i+1=>by
  have ih:=metK_le val i
  unfold metK put1
  split
  ·omega
  ·rw [List.length_append,List.length_singleton]; omega
theorem metK_mem {κ:Type} [DecidableEq κ] (val:Nat→κ):∀ (i:Nat) (x:κ),x∈metK val i↔∃ j,j<i∧val j=x
 | 0,x=>⟨fun h=>(by cases h),fun ⟨j,h,_⟩=>absurd h (Nat.not_lt_zero _)⟩
 | i+1,x=>by
  have ih:=metK_mem val i
  have e:x∈metK val (i+1)↔x∈metK val i∨x=val i:=by
   show x∈put1 (metK val i) (val i)↔_
   unfold put1
   split
   ·rename_i h
    exact ⟨.inl,fun q=>q.elim id fun z=>z ▸ h⟩
   ·rw [List.mem_append,List.mem_singleton]
  rw [e,ih x]
  constructor
  ·rintro (⟨j,h,e⟩ | e)
   ·exact ⟨j,by omega,e⟩
   ·exact ⟨i,by omega,e.symm⟩
  ·rintro ⟨j,h,e'⟩
   rcases Nat.lt_succ_iff_lt_or_eq.mp h with q | q
   ·exact .inl ⟨j,q,e'⟩
   ·subst q; exact .inr e'.symm
theorem metK_all {κ:Type} [DecidableEq κ] (val:Nat→κ):∀ n,(∀ i j,i<n→j<n→val i=val j→i=j)→(metK val n).length=n
 | 0,_=>rfl
 | n+1,h=>by
  have ih:=metK_all val n fun i j hi hj e=>h i j (by omega) (by omega) e
  have nm:val n∉metK val n:=fun q=>by
   obtain ⟨j,hj,e⟩:=(metK_mem val n _).mp q
   have:=h j n (by omega) (by omega) e
   omega
  show (put1 (metK val n) (val n)).length=n+1
  unfold put1
  rw [if_neg nm,List.length_append,ih]
  rfl
abbrev setO (led:Bool):Obj:={ cls:=.type "set",dict:=none,data:=.set #[] 0 (.fresh 0 0 led) }
section
variable {prog:Program} {w:World} {A:Around} {R:Result→Shared→Prop} {I:Addr} {fp wr:List Addr} {G:Array GenState→Array GenState→Prop} {n:Nat} {P:Nat→Value→Prop} {St:Nat→Shared→Prop}
variable {κ:Type} [DecidableEq κ] {knd:PySem.KeyKind prog w κ}
theorem setOf_as {h:Heap} {a:Addr} {S S':κ→Bool} {n n':Nat} (hS:h.SetOf knd a S n) (e:∀ k,S k=S' k) (en:n=n'):h.SetOf knd a S' n':=by
 have q:S=S':=funext e
 rw [← q,← en]
 exact hS
theorem set_loop (W:WalksS prog w A.in1 I fp wr G n P St) (S:Addr) (hSf:S∉fp) (val:Nat→κ) (hval:∀ i v,P i v→knd.is (val i) v=true∧v.scannable=true) (hb:n+1<scanBound) :
  ∀ (k i:Nat) (s:Shared),n-i=k→i≤n→St i s→s.heap.SetOf knd S (fun x=>decide (x∈metK val i)) (metK val i).length →
   (∀ s',Moved (S::wr) G s s'→s'.heap.SetOf knd S (fun x=>decide (x∈metK val n)) (metK val n).length→R (.ok (.ret .none)) s') →
   codeAny (model prog w) A (.builtin "set.update.loop" ⟨[.ref S,.ref I],[]⟩) R s:=by
 have nw:S∉wr:=fun z=>hSf (W.sub _ z)
 have sub:∀ b∈wr,b∈S::wr:=fun b z=>List.mem_cons_of_mem _ z
 intro k
 induction k with
 | zero =>
  intro i s hk hi st hS fin
  obtain rfl:i=n:=by omega
  refine codeAny_builtin PyProof.Rows.F.entry_set_update_loop ?_
  rw [Around.under_plainId PyProof.Rows.F.plain_set_update_loop _]
  show wpAny _ A.in1 (pyNext (.ref I) >>= _) _ _ s
  refine wpAny_bind (W.done s _ _ st fun s' mv=>?_)
  show wpAny _ A.in1 (ret Value.none) _ _ s'
  obtain ⟨o,es,ep,t,ho,more⟩:=hS
  exact wpAny_pure (fin s' (mv.mono sub) ⟨o,es,ep,t,mv.heap S _ nw ho,more⟩)
 | succ k ih =>
  intro i s hk hi st hS fin
  have lt:i<n:=by omega
  refine codeAny_builtin PyProof.Rows.F.entry_set_update_loop ?_
  rw [Around.under_plainId PyProof.Rows.F.plain_set_update_loop _]
  show wpAny _ A.in1 (pyNext (.ref I) >>= _) _ _ s
  refine wpAny_bind (W.item i s _ _ lt st fun v s' pv st' mv=>?_)
  obtain ⟨kv,sv⟩:=hval i v pv
  have hS1:s'.heap.SetOf knd S (fun x=>decide (x∈metK val i)) (metK val i).length:=by
   obtain ⟨o,es,ep,tb,ho,more⟩:=hS
   exact ⟨o,es,ep,tb,mv.heap S _ nw ho,more⟩
  show wpAny _ A.in1 (holding [v] (setAdd S v) >>= _) _ _ s'
  refine wpAny_bind (wpAny_holding ?_)
  unfold setAdd
  refine wpAny_holding (wpAny_bind (knd.pyHash (k:=val i) kv ?_))
  have room:(metK val i).length+1<scanBound:=by have:=metK_le val i; omega
  refine wpAny_setAddHashed_of (knd:=knd) (s:={ s' with toks:=s'.toks+1 }) kv sv hS1 room fun h' sb hS2=>?_
  have hS3:h'.SetOf knd S (fun x=>decide (x∈metK val (i+1))) (metK val (i+1)).length:=by
   refine setOf_as hS2 (fun x=>?_) ?_
   ·show (decide (x∈metK val i)||decide (x=val i))=decide (x∈put1 (metK val i) (val i))
    unfold put1
    split
    ·rename_i hm
     by_cases e:x=val i
     ·subst e; simp [hm]
     ·simp [e]
    ·simp
   ·show (if decide (val i∈metK val i)=true then _ else _)=(put1 (metK val i) (val i)).length
    unfold put1
    by_cases hm:val i∈metK val i
    ·rw [if_pos hm,if_pos (decide_eq_true hm)]
    ·rw [if_neg hm,if_neg (by simp [hm]),List.length_append]; rfl
  refine wpAny_pure ⟨plainId_quiet PyProof.Rows.F.plain_set_update_loop _,ih (i+1) _ (by omega) lt (W.frame _ s' _ _ st' (Nat.le_succ _) fun b hb o e=>?_) hS3 fun s2 mv2 hS4=>?_⟩
  ·rw [sb.2 b (fun z:b=S=>hSf (z ▸ hb))]; exact e
  ·refine fin s2 (Moved.trans W.gtrans ((mv.mono sub).then_heap (Nat.le_succ _) fun b o hb e=>?_) mv2) hS4
   rw [sb.2 b (fun z:b=S=>hb (z ▸ List.mem_cons_self))]; exact e
end
section
variable {prog:Program} {w:World} {A:Around} {E:Value→Shared→Prop} {s:Shared} {κ:Type} [DecidableEq κ] {knd:PySem.KeyKind prog w κ}
set_option maxHeartbeats 3200000 in
theorem set_from {l:Addr} {items:Array Value} {val:Nat→κ} {Q:Value→Shared→Prop} (hh:A.handled=none) (hl:s.heap.IsList l items) (hval:∀ i v,items[i]?=some v→knd.is (val i) v=true∧v.scannable=true) (hb:items.size+1<scanBound)
  (h:∀ (h':Heap) (tk:Nat),h'.SetOf knd s.heap.objs.size (fun x=>decide (x∈metK val items.size)) (metK val items.size).length→(∀ b o,b<s.heap.objs.size→s.heap.get? b=some o→h'.get? b=some o) →
   Q (.ref s.heap.objs.size) { s with heap:=h',toks:=tk }):wpAny (model prog w) A (call (.type "set") [.ref l]) Q E s:=by
 obtain ⟨c,tl,hmro⟩:=PySem.F.called_set.mro
 have hmade:=PySem.F.called_set.made
 have hsub:=PySem.F.called_set.sub
 refine wpAny_call (codeAny_of_tree ?_)
 show wpAny _ _ (callAny (.type "set") _) _ _ _
 refine wpAny_pure ⟨Code.quiet_builtin _ (by decide +kernel),codeAny_builtin PySem.F.entry_type_call ?_⟩
 rw [Around.under_plain (weight_type_call_type "set" [.ref l] []) rfl]
 have g1:=PySem.F.called_set.notType
 have g2:=PySem.F.called_set.canCreate
 have g3:=PySem.F.typeCall_set_1 (.ref l)
 repeat (any_goals (first | assumption | wp_step))
 refine codeAny_mono (code_set_new_1 (.ref l) (E:=E) (Q₁:=fun obj s₁=>∃ led:Bool,obj=.ref s.heap.objs.size∧s₁={ s with heap:=s.heap.push (setO led) }) fun led=>⟨led,rfl,rfl⟩) fun r s₁ hr=>?_
 cases r with
 | error e=>exact hr
 | ok fl =>
  cases fl with
  | ret obj =>
   obtain ⟨led,rfl,rfl⟩:=hr
   have at0:(s.heap.push (setO led)).get? s.heap.objs.size=some (setO led):=Heap.get?_push_size _ rfl
   have hT:Shared.TypeIs { s with heap:=s.heap.push (setO led) } (.ref s.heap.objs.size) "set" := ⟨_,at0,rfl⟩
   have g4:=PySem.F.called_set.init.lookup
   have g5:=PySem.F.called_set.init.bind (.ref s.heap.objs.size)
   repeat (any_goals (first | assumption | wp_step))
   refine codeAny_mono (codeAny_call_builtin (R:=wants (fun r s₂=>r=.none∧∃ h' tk,s₂={ s with heap:=h',toks:=tk }∧h'.SetOf knd s.heap.objs.size (fun x=>decide (x∈metK val items.size)) (metK val items.size).length ∧
     (∀ b o,b<s.heap.objs.size→s.heap.get? b=some o→h'.get? b=some o)) E) PySem.F.called_set.init.plain PySem.F.entry_set_init (check_set_init_1 hT ?_)) fun r₂ s₂ hr₂=>?_
   ·obtain ⟨⟨ocls,odict,odata,oslots⟩,hol,hcl,nl,hdl⟩:=hl
    simp only at hcl hdl
    subst hcl; subst hdl
    have hol':(s.heap.push (setO led)).get? l=some { cls:=.type "list",dict:=odict,data:=.seq items nl,slots:=oslots }:=Heap.get?_push_of_some _ hol
    have k1:=PySem.F.sub_list_set
    have k2:=PySem.F.sub_list_frozenset
    have k3:(Value.type "list" == Value.type "dict")=false:=by decide
    have hl1:(s.heap.push (setO led)).IsList l items:=⟨_,hol',rfl,nl,rfl⟩
    unfold Builtin.«set.__init__» noKeywords Builtin.Frozenset.updateFrom
    generalize hPI:pyIter=PI
    wp_walk
    subst hPI
    refine wpAny_pyIter_list hl1 (wpAny_bind (wpAny_runValue ?_))
    have ll:l<s.heap.objs.size:=Heap.lt_size hol
    have h3:A.in1.in1.in1.handled=none:=by simp [hh]
    have nI:l≠(s.heap.push (setO led)).objs.size:=by
     rw [Heap.size_push]
     exact Nat.ne_of_lt (Nat.lt_succ_of_lt ll)
    have nS:s.heap.objs.size∉[(s.heap.push (setO led)).objs.size,l]:=by
     rw [Heap.size_push,List.mem_cons,List.mem_singleton,not_or]
     exact ⟨Nat.ne_of_lt (Nat.lt_succ_self _),Nat.ne_of_gt ll⟩
    refine set_loop (knd:=knd) ((Walks.list h3 _ l nI items).toS) s.heap.objs.size nS val hval hb (items.size-0) 0 _ (by omega) (Nat.zero_le _) ⟨⟨_,Heap.get?_push_size _ rfl,rfl,rfl⟩,(hl1.push _)⟩ ?hS0 ?hR
    case hS0 =>
     have at1:((s.heap.push (setO led)).push { cls:=.type "list_iterator",data:=.fields #[.ref l,.int 0 0] }).get? s.heap.objs.size=some (setO led):=Heap.get?_push_of_some _ at0
     exact setOf_as ((PyProof.Rows.setObjOf_fresh (knd:=knd) led).setOf at1 (by unfold scanBound; omega)) (fun _=>by simp [metK]) rfl
    case hR =>
     intro s' mv hS'
     obtain ⟨h',g',d',tk',os'⟩:=s'
     obtain rfl:g'=s.gens:=mv.gens
     obtain rfl:d'=s.drawn:=mv.drawn
     obtain rfl:os'=s.os:=mv.os
     show wpAny _ _ _ _ _ _
     refine wpAny_pure ?_
     show wpAny _ _ (ret Value.none) _ _ _
     refine wpAny_pure ⟨rfl,h',tk',rfl,hS',fun b o hb e=>mv.heap b o ?_ (Heap.get?_push_of_some _ (Heap.get?_push_of_some _ e))⟩
     rw [List.mem_cons,List.mem_singleton,Heap.size_push,not_or]
     exact ⟨Nat.ne_of_lt hb,Nat.ne_of_lt (Nat.lt_succ_of_lt hb)⟩
   ·cases r₂ with
    | error e=>exact hr₂
    | ok fl₂ =>
     cases fl₂ with
     | ret r =>
      obtain ⟨rfl,h',tk,rfl,hS',hk'⟩:=hr₂
      repeat (any_goals (first | assumption | wp_step))
      exact h _ _ hS' hk'
     | _=>exact hr₂.elim
  | _=>exact hr.elim
end
end L2
namespace L2
open PySem PySem.Spec PyProof.Rows
def setHO (P:Program) (w:World) (p:Addr) (n:Nat):HO:=.ext fun h=>∃ S,h.SetOf (strKind P w) p S n
def metS (ys:List Str):Nat:=(metK (fun i=>ys.getD i Str.empty) ys.length).length
theorem metS_all {ys:List Str} (h:ys.Nodup):metS ys=ys.length:=by
 refine metK_all _ _ fun i j hi hj e=>?_
 simp only [List.getD_eq_getElem?_getD,List.getElem?_eq_getElem hi,List.getElem?_eq_getElem hj,Option.getD_some] at e
 exact (List.getElem_inj h).mp e
section
variable {X:Cx}
theorem call_set_strs (hc:X.calm=true):CallR X (.type "set") (fun xs H Q=>∃ (a:Addr) (ys:List Str),xs=[.ref a]∧SqL X.K H a (ys.map V.str)∧ys.length≤70∧∀ p,H p=none→Q (.ref p) (upd H p (setHO X.prog X.w p (metS ys)))):=by
 intro pins s σ H xs us Q I r h
 obtain ⟨a,ys,e,hq,hl,q⟩:=h
 subst e
 obtain ⟨u,rfl,r1⟩:=vals1 r
 obtain rfl:u=Value.ref a:=r1
 obtain ⟨its,rv,p,hz⟩:=I.list hq
 have len:=rv.length
 rw [List.length_map] at len
 refine set_from (knd:=strKind X.prog X.w) (val:=fun i=>ys.getD i Str.empty) (I.ok.hd hc) p.isList (fun i v hv=>?_) (by rw [List.size_toArray,← len]; unfold scanBound; omega) fun h' tk hS hk=>?_
 ·have hv':its[i]?=some v:=by simpa using hv
  have hi:i<ys.length:=by rw [len]; exact (List.getElem?_eq_some_iff.mp hv').1
  have hx:(ys.map V.str)[i]?=some (V.str (ys.getD i Str.empty)):=by
   rw [List.getElem?_map,List.getElem?_eq_getElem hi]
   simp [List.getD_eq_getElem?_getD,List.getElem?_eq_getElem hi]
  obtain ⟨u,hu,ru⟩:=rv.get hx
  rw [hv'] at hu
  cases hu
  obtain ⟨t,rfl⟩:=ru
  exact ⟨keyIs_str _ t,rfl⟩
 ·have es:its.toArray.size=ys.length:=by rw [List.size_toArray,len]
  rw [es] at hS
  have I1:Inv X pins σ H { s with heap:=h',toks:=tk }:=I.kept fun b o e=>hk b o (Heap.lt_size e) e
  have I2:=I1.track (o:=setHO X.prog X.w s.heap.objs.size (metS ys)) (I.fpOk (Nat.le_refl _) (I.hok.fresh (Nat.le_refl _))) ⟨⟨_,hS⟩,(by obtain ⟨o,_,_,_,ho,_⟩:=hS; exact ⟨o,ho⟩),fun h1 h2 ⟨S,hS1⟩ k=>(by
   obtain ⟨o,es,ep,t,ho,more⟩:=hS1
   exact ⟨S,o,es,ep,t,k o ho,more⟩)⟩
  exact ⟨.ref s.heap.objs.size,_,I2,rfl,q _ (I.hok.fresh (Nat.le_refl _))⟩
theorem call_len_setS:CallR X (.builtin "len") (fun xs H Q=>∃ (p:Addr) (n:Nat),xs=[.ref p]∧H p=some (setHO X.prog X.w p n)∧Q (.int n) H):=by
 intro pins s σ H xs us Q I r h
 obtain ⟨p,n,e,hp,q⟩:=h
 subst e
 obtain ⟨u,rfl,r1⟩:=vals1 r
 obtain rfl:u=Value.ref p:=r1
 obtain ⟨⟨S,o,es,ep,t,ho,hex,hd,_,_,hb,hf,hn⟩,_⟩:=I.hok p _ hp
 have hb':(es.size:Int)<2^63:=by unfold scanBound at hb; omega
 refine call_len_set ho hex hd hf hb' ?_
 rw [hn]
 exact ⟨.int n,H,I.tok _,⟨_,rfl⟩,q⟩
def Itx (x:Str):It:=⟨fun i _=>i<x.cps.size,fun i H v H'=>H'=H∧∃ c,x.cps[i]?=some c∧v=.str ⟨#[c]⟩,fun i _=>x.cps.size≤i⟩
theorem turn_str {P:Program} {w:World} {K:PySem.W.Frag} {tg:Expr} (it:Addr) (x:Str) (t:Tok):Turn P w K tg (Itx x) [it] it (fun i h=>i≤x.cps.size∧h.IsStrIter it "str_ascii_iterator" x t i) where
 mem:=by simp
 obj:=fun i h st b hb=>by
  have e:b=it:=by simpa using hb
  subst e
  obtain ⟨_,o,e,c,d⟩:=st
  exact ⟨o,e,fun v z=>by rw [d] at z; cases z⟩
 keep:=fun i h h' st k=>let ⟨l,o,e,r⟩:=st; ⟨l,o,k it (by simp) o e,r⟩
 item:=by
  intro X hP hw hK hc i pins s σ H E I hf st hg
  subst hP hw hK
  obtain ⟨f0,f1,f2,f3,f4,f5⟩:=hf it (by simp)
  have hi:i<x.cps.size:=hg
  refine (Walks.strAscii (prog:=X.prog) (w:=X.w) (I.ok.hd hc) it x t).item i s _ _ hi st.2 fun v h' tk hv st' kk=>?_
  obtain ⟨c,u,hcx,rfl⟩:=hv
  have I1:Inv X pins σ H { s with heap:=h',toks:=tk }:=I.turned (fun b o hb e=>kk b o (by simpa using hb) e) f0 f1 f3 f4 f5
  obtain ⟨o,e,c',d⟩:=id st'
  exact ⟨_,rfl,go_of (s:={ s with heap:=h',toks:=tk }) e c' d (by decide) ⟨.str ⟨#[c]⟩,H,I1,⟨_,rfl⟩,⟨rfl,c,hcx,rfl⟩,⟨hi,st'⟩,fun b hb=>(hf b hb).1⟩⟩
 done:=by
  intro X hP hw hK hc i pins s σ H E I hf st hg
  subst hP hw hK
  obtain ⟨f0,f1,f2,f3,f4,f5⟩:=hf it (by simp)
  have hi:x.cps.size≤i:=hg
  obtain ⟨hle,st⟩:=st
  have e:i=x.cps.size:=by omega
  subst e
  exact (Walks.strAscii (prog:=X.prog) (w:=X.w) (I.ok.hd hc) it x t).done s _ _ st fun h' tk kk=>⟨rfl,I.turned (fun b o hb e=>kk b o (by simpa using hb) e) f0 f1 f3 f4 f5⟩
 self:=fun _ _ _ _ _ st h=>wpAny_pyIter_striter_ascii st.2 h
def iStr (tl:TE):TI:=fun σ H R=>tl σ H fun v H1=>∃ x:Str,v=.str x∧x.cps.all (· < 128)=true∧R (Itx x) H1
theorem pi_str {tg l:Expr} {tl:TE} (hl:PE X l tl):PI X tg l (iStr tl):=by
 intro pins s σ H R I h
 refine thn (hl pins s σ H _ I h) fun v s1 ⟨y,H1,I1,r1,q1⟩=>?_
 obtain ⟨x,e,ha,q⟩:=q1
 subst e
 obtain ⟨t,rfl⟩:=r1
 refine wpAny_pyIter_ascii ha ?_
 refine ⟨s1.heap.objs.size,[s1.heap.objs.size],_,_,H1,rfl,I1.kept (t':=s1.toks) fun b o e=>Heap.get?_push_of_some _ e,turn_str _ x t,⟨Nat.zero_le _,_,Heap.get?_push_size _ rfl,rfl,rfl⟩,fun b hb=>?_,q⟩
 have e:b=s1.heap.objs.size:=by simpa using hb
 subst e
 exact I1.fpOk (Nat.le_refl _) (I1.hok.fresh (Nat.le_refl _))
theorem comp_strP {g:Blk→TG} {tt:Blk→TT} {te:Blk→TE} {Z:List V→Hp→Prop} {σ0:St} {H1:Hp} {x:Str} (Pv:Nat→List V→St→Hp→Prop) (h0:Pv 0 [] σ0 H1) (hl:∀ i ys σ H,i≤x.cps.size→Pv i ys σ H→ys.length<sizeLine)
  (hs:∀ B i c ys σ H,x.cps[i]?=some c→Pv i ys σ H→g B (.str ⟨#[c]⟩) σ H fun σ2 H3=>tt B σ2 H3 fun b H4=>if b=true then te B σ2 H4 fun y H5=>Pv (i+1) (ys++[y]) σ2 H5 else Pv (i+1) ys σ2 H4)
  (hd:∀ ys σ H,Pv x.cps.size ys σ H→Z ys H):∃ W:Nat→Nat→List V→St→Hp→Prop,(∃ m,W 0 m [] σ0 H1)∧∀ B,CompW (Itx x) (g B) (tt B) (te B) W Z:=by
 refine ⟨fun i m ys σ H=>m=x.cps.size-i∧i≤x.cps.size∧Pv i ys σ H,⟨x.cps.size,by simp,Nat.zero_le _,h0⟩,?_⟩
 rintro B i m ys σ H ⟨rfl,hi,p⟩
 by_cases hlt:i<x.cps.size
 ·refine .inr ⟨hlt,hl i ys σ H hi p,Pv (i+1),fun zs σ' H' p'=>⟨x.cps.size-(i+1),by omega,rfl,hlt,p'⟩,fun v H' y=>?_⟩
  obtain ⟨e,c,hc,e2⟩:=y
  subst e e2
  exact hs B i c ys σ _ hc p
 ·have e:i=x.cps.size:=by omega
  subst e
  exact .inl ⟨Nat.le_refl _,hd ys σ H p⟩
theorem op_le_str:OpR X (compareOp .LtE) (fun x y H Q=>∃ i j,x=.str i∧y=.str j∧Q (.bl (!decide (j.cps.toList<i.cps.toList))) H):=by
 intro pins s σ H x y v u Q I rx ry h
 obtain ⟨i,j,rfl,rfl,q⟩:=h
 obtain ⟨t,rfl⟩:=rx
 obtain ⟨t',rfl⟩:=ry
 exact PySem.P.le_str ⟨.bl _,H,I,rfl,q⟩
end
def okSign (c:Nat):Bool:=decide (97≤c)&&decide (c≤122)
def okName (x:Str):Bool:=decide (1≤x.length)&&decide (x.length≤8)&&x.cps.toList.all okSign
theorem le_one {c d:Nat}:(!decide (([d]:List Nat)<[c]))=decide (c≤d):=by
 have e:([d]<[c])↔d<c:=by
  constructor
  ·intro h
   cases h with
   | cons h=>cases h
   | rel h=>exact h
  ·exact fun h=>.rel h
 rw [Bool.eq_iff_iff,Bool.not_eq_true',decide_eq_false_iff_not,decide_eq_true_eq,e]
 omega
theorem okName_ascii {x:Str} (h:okName x=true):x.cps.all (· < 128)=true:=by
 unfold okName at h
 rw [Bool.and_eq_true] at h
 rw [← Array.all_toList,List.all_eq_true]
 intro c hc
 have:=List.all_eq_true.mp h.2 c hc
 unfold okSign at this
 rw [Bool.and_eq_true,decide_eq_true_eq,decide_eq_true_eq] at this
 exact decide_eq_true (by omega)
end L2
namespace L2
open PySem PySem.Spec PyProof.Rows
structure NetV where
 bowls:List Str
 doors:List Str
 takes:List (List Int)
 gives:List (List Int)
 first:List Int
def okBag (n:Nat) (r:List Int):Prop:=r.length=n∧∀ x∈r,0≤x∧x≤1000000000
structure NetV.Ok (N:NetV):Prop where
 b1:1≤N.bowls.length
 b6:N.bowls.length≤6
 d8:N.doors.length≤8
 bn:∀ y∈N.bowls,okName y=true
 dn:∀ y∈N.doors,okName y=true
 bd:N.bowls.Nodup
 dd:N.doors.Nodup
 tl:N.takes.length=N.doors.length
 gl:N.gives.length=N.doors.length
 tk:∀ r∈N.takes,okBag N.bowls.length r
 gv:∀ r∈N.gives,okBag N.bowls.length r
 fs:okBag N.bowls.length N.first
abbrev nf1 (b:V):List (Str×V):=[("bowls",b)]
abbrev nf2 (b d:V):List (Str×V):=[("bowls",b),("doors",d)]
abbrev nf3 (b d t:V):List (Str×V):=[("bowls",b),("doors",d),("takes",t)]
abbrev nf4 (b d t g:V):List (Str×V):=[("bowls",b),("doors",d),("takes",t),("gives",g)]
abbrev nf5 (b d t g f:V):List (Str×V):=[("bowls",b),("doors",d),("takes",t),("gives",g),("first",f)]
abbrev netF (b d t g f:Addr):List (Str×V):=nf5 (.ref b) (.ref d) (.ref t) (.ref g) (.ref f)
abbrev vstrs (ys:List Str):List V:=ys.map V.str
structure NetIn (C:Addr) (H:Hp) (x dx b d t g f:Addr) (ts gs:List Addr) (N:NetV):Prop where
 ob:H x=some (.ins C dx (netF b d t g f))
 hb:H b=some (.lst (vstrs N.bowls))
 hd:H d=some (.lst (vstrs N.doors))
 ht:H t=some (.lst (ts.map V.ref))
 tr:Rows H ts N.takes
 hg:H g=some (.lst (gs.map V.ref))
 gr:Rows H gs N.gives
 hf:H f=some (.lst (vints N.first))
theorem NetIn.same {C:Addr} {H H':Hp} {x dx b d t g f:Addr} {ts gs:List Addr} {N:NetV} (n:NetIn C H x dx b d t g f ts gs N) (S:Same H H'):NetIn C H' x dx b d t g f ts gs N :=
 ⟨S _ _ n.ob,S _ _ n.hb,S _ _ n.hd,S _ _ n.ht,n.tr.same S,S _ _ n.hg,n.gr.same S,S _ _ n.hf⟩
theorem comp_copies {K:PySem.W.Frag} {K':Blk→PySem.W.Frag} {Z:List V→Hp→Prop} {H1:Hp} {a:Addr} {as:List Addr} {rs:List (List Int)} {τ:St} (hK:∀ B,K' B=K) (ha:SqL K H1 a (as.map V.ref)) (R:Rows H1 as rs) (hn:rs.length≤64)
  (hd:∀ H2 bs,Same H1 H2→Rows H2 bs rs→(∀ b∈bs,H1 b=none)→Z (bs.map V.ref) H2) :
  ∃ W:Nat→Nat→List V→St→Hp→Prop,(∃ m,W 0 m [] (none::τ) H1)∧∀ B:Blk,CompW (Itl K a) (gName 0) tTrue (tCB (rLstOf (K' B)) (tCons (tVar 0) tNil)) W Z:=by
 have hal:=R.length
 refine comp_listP (g:=fun _=>gName 0) (tt:=fun _=>tTrue) (K:=K) (a:=a) (xs:=as.map V.ref) (fun i zs σ H4=>∃ (o:Option V) (bs:List Addr),σ=o::τ∧Same H1 H4∧zs=bs.map V.ref∧Rows H4 bs (rs.take i)∧bs.length=i∧∀ b∈bs,H1 b=none) ⟨none,[],rfl,Same.refl _,rfl,.nil,rfl,(fun b hb=>by cases hb)⟩ ?_ ?_ ?_
 ·rintro i zs σ H4 hi ⟨o,bs,rfl,S,rfl,RB,e,_⟩
  rw [List.length_map] at hi
  refine ⟨S.seq ha,?_⟩
  rw [List.length_map]
  exact small70 (by omega)
 ·rintro B i x zs σ H4 hx ⟨o,bs,rfl,S,rfl,RB,e,fr⟩
  obtain ⟨b,hb1,rfl⟩:=refs_get hx
  obtain ⟨r,hr1,hb⟩:=Paired.getL R hb1
  try dsimp only [gName,tTrue]
  rw [if_pos rfl]
  refine ⟨_,rfl,b,_,rfl,.inl (by rw [hK]; exact SqL.of (S _ _ hb)),fun q nq=>⟨_,bs++[q],rfl,S.upd nq,(vrefs_snoc _ _).symm,?_,(by rw [List.length_append,e]; rfl),fun c hc=>?_⟩⟩
  ·rw [List.take_add_one,hr1,Option.toList_some]
   exact (RB.same ((Same.refl H4).upd nq)).snoc upd_same
  ·rcases List.mem_append.mp hc with z | z
   ·exact fr c z
   ·rw [List.mem_singleton.mp z]; exact S.free nq
 ·rintro zs σ H4 ⟨o,bs,rfl,S,rfl,RB,e,fr⟩
  rw [List.length_map,hal,List.take_length] at RB
  exact hd H4 bs S RB fr
theorem all_map_sign (x:Str):(x.cps.toList.map okSign).all id=x.cps.toList.all okSign:=by
 rw [List.all_map]
 rfl
end L2
namespace L2
open PySem PySem.Spec PyProof.Rows
section
variable {b d t g f:V}
theorem put_n2:putF "doors" d (nf1 b)=nf2 b d:=by
 show (if (("bowls" : Str)="doors") then _ else (("bowls" : Str),b)::putF "doors" d [])=_
 rw [if_neg (by decide +kernel)]
 rfl
theorem put_n3:putF "takes" t (nf2 b d)=nf3 b d t:=by
 show (if (("bowls" : Str)="takes") then _ else (("bowls" : Str),b)::(if (("doors" : Str)="takes") then _ else (("doors" : Str),d)::putF "takes" t []))=_
 rw [if_neg (by decide +kernel),if_neg (by decide +kernel)]
 rfl
theorem put_n4:putF "gives" g (nf3 b d t)=nf4 b d t g:=by
 show (if (("bowls" : Str)="gives") then _ else (("bowls" : Str),b)::(if (("doors" : Str)="gives") then _ else (("doors" : Str),d)::(if (("takes" : Str)="gives") then _ else (("takes" : Str),t)::putF "gives" g [])))=_
 rw [if_neg (by decide +kernel),if_neg (by decide +kernel),if_neg (by decide +kernel)]
 rfl
theorem put_n5:putF "first" f (nf4 b d t g)=nf5 b d t g f:=by
 show (if (("bowls" : Str)="first") then _ else (("bowls" : Str),b)::(if (("doors" : Str)="first") then _ else (("doors" : Str),d)::(if (("takes" : Str)="first") then _ else (("takes" : Str),t)::(if (("gives" : Str)="first") then _ else (("gives" : Str),g)::putF "first" f []))))=_
 rw [if_neg (by decide +kernel),if_neg (by decide +kernel),if_neg (by decide +kernel),if_neg (by decide +kernel)]
 rfl
end
def But (x:Addr) (H H':Hp):Prop:=∀ c u,H c=some u→c≠x→H' c=some u
theorem But.trans {x:Addr} {H H1 H2:Hp} (a:But x H H1) (b:But x H1 H2):But x H H2:=fun c u e n=>b c u (a c u e n) n
theorem Same.but {x:Addr} {H H':Hp} (S:Same H H'):But x H H':=fun c u e _=>S c u e
theorem But.step {x q:Addr} {H:Hp} {o o':HO} (hq:H q=none):But x H (upd (upd H q o) x o'):=fun c u e n=>by
 rw [upd_ne n,upd_ne (ne_of_none e hq)]
 exact e
theorem But.seq {K:PySem.W.Frag} {x:Addr} {C dx:Addr} {fs:List (Str×V)} {H H':Hp} {c:Addr} {zs:List V} (k:But x H H') (hx:H x=some (.ins C dx fs)) (h:SqL K H c zs):SqL K H' c zs:=by
 rcases h with (h | ⟨o,h⟩) | h
 ·exact .inl (.inl (k _ _ h (ne_of h hx (by intro z; cases z))))
 ·exact .inl (.inr ⟨o,k _ _ h (ne_of h hx (by intro z; cases z))⟩)
 ·exact .inr h
theorem But.rows {x:Addr} {C dx:Addr} {fs:List (Str×V)} {H H':Hp} {as:List Addr} {rs:List (List Int)} (k:But x H H') (hx:H x=some (.ins C dx fs)) (R:Rows H as rs):Rows H' as rs :=
 Paired.mapP R fun a r e=>k _ _ e (ne_of e hx (by intro z; cases z))
theorem But.free {x:Addr} {C dx:Addr} {fs:List (Str×V)} {H H':Hp} {q:Addr} {o:HO} (k:But x H H') (hx:H' x=some o) (hq:H' q=none):H q=none:=by
 cases e:H q with
 | none=>rfl
 | some u =>
  have n:q≠x:=Ne.symm (ne_of_none hx hq)
  rw [k q u e n] at hq
  cases hq
end L2
namespace L2
open PySem PySem.Spec PyProof.Rows PySem.Builtin.Str
section
variable {X:Cx}
end
end L2
namespace L2
open PySem PySem.Spec PyProof.Rows
theorem while_rel {c:TT} {tb:TS} {D:Ends} {σ:St} {H:Hp} (W:Nat→St→Hp→Prop) (h0:∃ m,W m σ H)
  (hs:∀ m σ H,W m σ H→c σ H fun b H1=>if b=true then tb { D with nx:=fun σ' H'=>∃ m',m'<m∧W m' σ' H',ct:=fun σ' H'=>∃ m',m'<m∧W m' σ' H',bk:=D.nx } σ H1 else D.nx σ H1)
  (mono:∀ σ H Q Q',(∀ b H1,Q b H1→Q' b H1)→c σ H Q→c σ H Q'):tWhile c tb D σ H:=by
 refine ⟨W,h0,?_⟩
 intro m σ H p
 refine mono σ H _ _ (fun b H1 q=>?_) (hs m σ H p)
 cases b with
 | true=>exact ⟨_,fun σ' H' z=>z,q⟩
 | false=>exact q
end L2
namespace L2
open PySem PySem.Spec PyProof.Rows
structure InsOk (K:PySem.W.Frag) (C:Addr):Prop where
 ha:PySem.W.findIn K (.ref C) "__class__" = some (some (.builtin "object.__class__"))
 hn:PySem.W.specialIn K (.builtin "object.__class__") "__get__" = some (some (.builtin "getset_descriptor.__get__"))
 htk:PySem.W.takesIn K (.builtin "object.__class__")=some true
 hm:PySem.W.mroIn K C (.type "object")=some true
theorem InsOk.ty {K:PySem.W.Frag} {C:Addr} (i:InsOk K C) (cl:Cls K C) {H:Hp} {a dx:Addr} {fs:List (Str×V)} (e:H a=some (.ins C dx fs)):TyOf K H (.ref a) (.ref C):=.ins e cl i.ha i.hn i.htk i.hm
structure PartsIn (H:Hp) (p b d t g f:Addr) (ts gs:List Addr) (N:NetV):Prop where
 top:H p=some (.lst [.ref b,.ref d,.ref t,.ref g,.ref f])
 hb:H b=some (.lst (vstrs N.bowls))
 hd:H d=some (.lst (vstrs N.doors))
 ht:H t=some (.lst (ts.map V.ref))
 tr:Rows H ts N.takes
 hg:H g=some (.lst (gs.map V.ref))
 gr:Rows H gs N.gives
 hf:H f=some (.lst (vints N.first))
theorem Rows.get:∀ {H:Hp} {as:List Addr} {rs:List (List Int)} {i:Nat},Rows H as rs→(h:i<rs.length)→∃ a,as[i]?=some a∧H a=some (.lst (vints (rs[i])))
 | _,_,_,0,.cons r _,_=>⟨_,rfl,r⟩
 | H,_,_,i+1,.cons _ rs,h=>Rows.get (H:=H) (i:=i) rs (Nat.lt_of_succ_lt_succ h)
theorem rows_at {H:Hp} {as:List Addr} {rs:List (List Int)} {i:Nat} (R:Rows H as rs) (h:i<rs.length):∃ a,atI (as.map V.ref) (i:Int)=some (.ref a)∧H a=some (.lst (vints (rs[i]))):=by
 obtain ⟨a,e,ha⟩:=Rows.get R h
 refine ⟨a,atI_nat ?_,ha⟩
 rw [List.getElem?_map,e]
 rfl
theorem getD_at {xs:List Int} {k:Nat} (h:k<xs.length):xs.getD k 0=xs[k]:=by
 rw [List.getD_eq_getElem?_getD,List.getElem?_eq_getElem h]
 rfl
end L2
namespace L2
open PySem PySem.Spec PyProof.Rows
structure CompScopeC (osc:Scope) (N:List Str) (scope:Scope) (N':List Str) (nt:Nat) (caps:List Nat):Prop where
 kind:scope.kind=.function
 cells:∀ y∈scope.names,y.2=.cell→scope.names.lookup y.1=some .cell
 names:∀ y∈scope.names,y.2=.local→scope.names.lookup y.1=some .local
 frees:∀ y∈scope.names,y.2=.free→osc.names.lookup y.1=some .cell∨osc.names.lookup y.1=some .free
 capt:caps.map (fun j=>N[j]?)=(N'.drop nt).map some
 capf:∀ x∈N'.drop nt,scope.names.lookup x=some .free
 len:nt≤N'.length
 nd:N'.Nodup
def compOkC (osc:Scope) (N:List Str) (scope:Scope) (N':List Str) (nt:Nat) (caps:List Nat):Bool :=
 decide (scope.kind=.function)&&decide (∀ y∈scope.names,y.2=.cell→scope.names.lookup y.1=some .cell)&&decide (∀ y∈scope.names,y.2=.local→scope.names.lookup y.1=some .local) &&
 decide (∀ y∈scope.names,y.2=.free→osc.names.lookup y.1=some .cell∨osc.names.lookup y.1=some .free)&&decide (caps.map (fun j=>N[j]?)=(N'.drop nt).map some) &&
 decide (∀ x∈N'.drop nt,scope.names.lookup x=some .free)&&decide (nt≤N'.length)&&decide N'.Nodup
theorem CompScopeC.of {osc:Scope} {N:List Str} {scope:Scope} {N':List Str} {nt:Nat} {caps:List Nat} (h:compOkC osc N scope N' nt caps=true):CompScopeC osc N scope N' nt caps:=by
 unfold compOkC at h
 simp only [Bool.and_eq_true,decide_eq_true_eq] at h
 obtain ⟨⟨⟨⟨⟨⟨⟨a,b⟩,c⟩,d⟩,e⟩,f⟩,g⟩,i⟩:=h
 exact ⟨a,b,c,d,e,f,g,i⟩
theorem cf_app:∀ (names:List (Str×NameKind)) (n:Nat) (acc:List (Str×Addr)),cellsFrom n names acc=cellsFrom n names []++acc
 | [],_,_=>rfl
 | (x,k)::r,n,acc=>by
  unfold cellsFrom
  split
  ·rw [cf_app r (n+1) ((x,n)::acc),cf_app r (n+1) [(x,n)],List.append_assoc]
   rfl
  ·exact cf_app r n acc
theorem cf_mem:∀ (names:List (Str×NameKind)) (n:Nat) {x:Str} {c:Addr},(x,c)∈cellsFrom n names []→n≤c∧(x,NameKind.cell)∈names
 | [],_,_,_,h=>nomatch h
 | (y,k)::r,n,x,c,h=>by
  unfold cellsFrom at h
  split at h
  ·rename_i hk
   rw [cf_app] at h
   rcases List.mem_append.mp h with q | q
   ·obtain ⟨a,b⟩:=cf_mem r (n+1) q
    exact ⟨by omega,List.mem_cons_of_mem _ b⟩
   ·have e:(x,c)=(y,n):=List.mem_singleton.mp q
    cases e
    rw [show k=NameKind.cell from eq_of_beq hk]
    exact ⟨Nat.le_refl _,List.mem_cons_self ..⟩
  ·obtain ⟨a,b⟩:=cf_mem r n h
   exact ⟨a,List.mem_cons_of_mem _ b⟩
abbrev cellsC (X:Cx) (scope:Scope) (C:Addr):List (Str×Addr):=cellsFrom (C+1) scope.names (closL X.env scope.names [])
theorem cells_sub {X:Cx} {scope:Scope} {C:Addr} {x:Str} {c:Addr} (h:(cellsC X scope C).lookup x=some c):X.env.cells.lookup x=some c∨(C+1≤c∧(cellsFrom (C+1) scope.names []).lookup x=some c):=by
 unfold cellsC at h
 rw [cf_app,List.lookup_append] at h
 cases q:(cellsFrom (C+1) scope.names []).lookup x with
 | none =>
  rw [q] at h
  exact .inl (lookup_of_all closL_sub0 h)
 | some c' =>
  rw [q] at h
  cases (show c'=c from Option.some.inj h)
  exact .inr ⟨(cf_mem _ _ (PySem.mem_of_lookup q)).1,rfl⟩
theorem cells_cl {X:Cx} {scope:Scope} {C:Addr} {x:Str} {c:Addr} (h:(x,c)∈closL X.env scope.names []):(x,c)∈cellsC X scope C:=by
 unfold cellsC
 rw [cf_app]
 exact List.mem_append_right _ h
def cxCompC (X:Cx) (N':List Str) (scope:Scope) (B:Blk):Cx :=
 { X with N:=N',s₀:=B.s,H₀:=B.H,env:=compEnvC scope (cellsC X scope B.C) B.C X.env,outer:=X.stack,ex:=B.fp,fn:=fun x=>decide (scope.names.lookup x=some .cell),xe:=fun _ _=>False }
theorem wpAny_compEnv {M:Model} {A:Around} {E:Value→Shared→Prop} {s:Shared} {scope:Scope} {globals:Addr} {cl:List (Str×Addr)} {qual:Str} {env:Env} {Q:Env→Shared→Prop}
  (hQ:∀ h',h'.Ns s.heap.objs.size (fun _=>none)→(∀ b o,s.heap.get? b=some o→h'.get? b=some o)→(∀ x c,(x,c)∈cellsFrom (s.heap.objs.size+1) scope.names []→h'.IsCell c none) →
   (cellsFrom (s.heap.objs.size+1) scope.names []).Pairwise (fun x y=>x.2≠y.2) →
   Q { scope:=scope,locals:=s.heap.objs.size,globals:=globals,cells:=cellsFrom (s.heap.objs.size+1) scope.names cl,qual:=qual,func:=none,code:=env.code,frame:=env.frame,builtins:=env.builtins } { s with heap:=h' }) :
  wpAny M A (newFunctionEnv scope globals cl [] qual none .none (some env)) Q E s:=by
 simp only [newFunctionEnv,Option.isSome_some,if_true]
 refine wpAny_bind (wpAny_alloc ?_)
 refine wpAny_bind (wpAny_layCells _ (fun name kind cells=>by cases hkc:kind==NameKind.cell<;>simp [hkc]) _ _ _ _ ?_)
 have ok:=cellsFrom_ok scope.names (s.heap.push { cls:=.type "dict",data:=.dict #[] }) (s.heap.objs.size+1) [] ⟨fun _ _ hm=>(nomatch hm),List.Pairwise.nil⟩ (by rw [Heap.size_push]; exact Nat.le_refl _)
 rw [Heap.size_push] at ok
 rw [show ({ s with heap:=s.heap.push { cls:=.type "dict",data:=.dict #[] } }:Shared).heap.objs.size=s.heap.objs.size+1 from Heap.size_push ..]
 refine wpAny_bind (wpAny_pure (wpAny_pure ?_))
 exact hQ _ ((Heap.Ns.new s.heap (.type "dict")).keeps (pushCells_keeps _ _)) (fun b o e=>pushCells_keeps _ _ b o (Heap.get?_push_of_some _ e)) (fun x c h=>(ok.empty x c h).1) ok.apart
section
variable {X:Cx} {pins:List (Addr×Obj)} {σ:St} {H:Hp} {s₂:Shared} {scope:Scope} {N':List Str} {nt:Nat} {caps:List Nat} {fp:List Addr} {C:Addr}
theorem comp_okC (I:Inv X pins σ H s₂) (S:CompScopeC X.env.scope X.N scope N' nt caps) (f2:∀ b∈fp,FpOk X pins H b) (hlt:∀ b∈fp,b<s₂.heap.objs.size) (hC:s₂.heap.objs.size≤C) (hap:(cellsFrom (C+1) scope.names []).Pairwise (fun x y=>x.2≠y.2)) :
  (cxCompC X N' scope ⟨C,s₂,H,fp⟩).Ok where
 mod:=I.ok.mod
 kind:=S.kind
 glob:=I.ok.glob
 blt:=I.ok.blt
 above:=hC
 inj:=fun x y c h1 h2=>by
  have lt:∀ {z:Str},X.env.cells.lookup z=some c→c<s₂.heap.objs.size:=fun e=>let ⟨_,q⟩:=I.cell _ c e; q.lt
  rcases cells_sub h1 with q1 | ⟨q1,p1⟩<;>rcases cells_sub h2 with q2 | ⟨q2,p2⟩
  ·exact I.ok.inj x y c q1 q2
  ·exact absurd (Nat.lt_of_lt_of_le (lt q1) hC) (Nat.not_lt.mpr (Nat.le_of_succ_le q2))
  ·exact absurd (Nat.lt_of_lt_of_le (lt q2) hC) (Nat.not_lt.mpr (Nat.le_of_succ_le q1))
  ·exact PySem.name_of_addr hap (PySem.mem_of_lookup p1) (PySem.mem_of_lookup p2)
 has:=fun x hx=>by
  have hm:∃ k,(k=NameKind.cell∨k=NameKind.free)∧(x,k)∈(relabel scope X.env).names:=by
   rcases hx with e | e
   ·exact ⟨_,.inl rfl,PySem.mem_of_lookup e⟩
   ·exact ⟨_,.inr rfl,PySem.mem_of_lookup e⟩
  obtain ⟨k,hk,hm⟩:=hm
  obtain ⟨k0,h0,e⟩:=mem_relabel hm
  have hf:k0=.free∨k0=.cell:=by
   rcases e with e | ⟨_,e⟩
   ·rcases hk with z | z
    ·exact .inr (e.symm.trans z)
    ·exact .inl (e.symm.trans z)
   ·exact .inl e
  rcases hf with hf | hf
  ·subst hf
   obtain ⟨c,hc⟩:=I.ok.has x (S.frees _ h0 rfl)
   exact lookup_of_mem (cells_cl (closL_mem hc h0))
  ·subst hf
   exact Option.isSome_iff_exists.mp (PySem.W.cellsFrom_some scope.names (C+1) _ (.inl (S.cells _ h0 rfl)))
 cab:=fun x c hf h=>by
  have hx:scope.names.lookup x=some .cell:=of_decide_eq_true hf
  have h':(cellsC X scope C).lookup x=some c:=h
  unfold cellsC at h'
  rw [cf_app,List.lookup_append] at h'
  obtain ⟨c',q⟩:=Option.isSome_iff_exists.mp (PySem.W.cellsFrom_some scope.names (C+1) [] (.inl hx))
  rw [q] at h'
  cases (show c'=c from Option.some.inj h')
  have:=(cf_mem _ _ (PySem.mem_of_lookup q)).1
  exact Nat.le_trans hC (Nat.le_of_succ_le this)
 hd:=I.ok.hd
 frames:=I.ok.frames
 stk:=.inl rfl
 exf:=fun b hb=>⟨Nat.ne_of_lt (Nat.lt_of_lt_of_le (hlt b hb) hC),fun x c e=>by
  rcases cells_sub e with q | ⟨q,_⟩
  ·exact (f2 b hb).2.2.2.2.1 x c q
  ·exact Nat.ne_of_gt (Nat.lt_of_lt_of_le (Nat.lt_of_lt_of_le (hlt b hb) hC) (Nat.le_of_succ_le q))⟩
 bs:=I.bs
 bsz:=Nat.le_trans I.ok.bsz I.sz
 noex:=fun b o e hb=>by
  rcases (f2 b hb).2.2.2.1 with z | z
  ·exact I.ok.noex b o e z
  ·exact absurd (Nat.lt_of_lt_of_le (Heap.lt_size e) (Nat.le_trans I.ok.bsz z)) (Nat.lt_irrefl _)
 exfs:=fun b hb hf=>by
  rcases List.mem_cons.mp (I.stkSub b hf) with e | e
  ·exact (f2 b hb).2.1 e
  ·exact (f2 b hb).2.2.1 e
 funs:=I.stack
 frf:=I.stkFree
theorem inv_compC {h₁:Heap} {tk:Nat} {m0:Str→Option Value} (I:Inv X pins σ H s₂) (S:CompScopeC X.env.scope X.N scope N' nt caps) (f2:∀ b∈fp,FpOk X pins H b) (hlt:∀ b∈fp,b<s₂.heap.objs.size)
  (hC:s₂.heap.objs.size≤C) (hap:(cellsFrom (C+1) scope.names []).Pairwise (fun x y=>x.2≠y.2)) (hnew:∀ x c,(x,c)∈cellsFrom (C+1) scope.names []→h₁.IsCell c none) (hns:h₁.Ns C m0) (old:∀ b o,s₂.heap.get? b=some o→h₁.get? b=some o) :
  Inv (cxCompC X N' scope ⟨C,s₂,H,fp⟩) pins (sgm nt caps σ) H { s₂ with heap:=h₁,toks:=tk }:=by
 have hl:=congrArg List.length S.capt
 rw [List.length_map,List.length_map,List.length_drop] at hl
 have sub:∀ {x c},(closL X.env scope.names []).lookup x=some c→X.env.cells.lookup x=some c:=fun e=>lookup_of_all closL_sub0 e
 refine ⟨comp_okC I S f2 hlt hC hap,rfl,I.bare,Un.kept old,⟨m0,hns,fun i x v e1 e2 e3=>?_⟩,fun x c e=>?_,I.hok.fresh hC,fun x c e=>(by rcases cells_sub e with q | ⟨q,_⟩; exact I.freeC x c q; exact I.hok.fresh (Nat.le_trans hC (Nat.le_of_succ_le q))),fun p hp=>?_,I.hok.kept old,?_⟩
 ·have e1':N'[i]?=some x:=e1
  have e2':(List.replicate nt none++caps.map fun j=>(σ[j]?).getD none)[i]?=some (some v):=e2
  have hi:nt≤i:=by
   rcases Nat.lt_or_ge i nt with z | z
   ·rw [List.getElem?_append_left (by simpa using z),List.getElem?_replicate,if_pos z] at e2'
    cases e2'
   ·exact z
  rw [List.getElem?_append_right (by simpa using hi),List.length_replicate,List.getElem?_map] at e2'
  cases hj:caps[i-nt]? with
  | none=>rw [hj] at e2'; cases e2'
  | some j =>
   rw [hj] at e2'
   have e3':(σ[j]?).getD none=some v:=Option.some.inj e2'
   have hσ:σ[j]?=some (some v):=by
    cases q:σ[j]? with
    | none=>rw [q] at e3'; cases e3'
    | some o=>rw [q] at e3'; have z:o=some v:=e3'; rw [z]
   have hd:(N'.drop nt)[i-nt]?=some x:=by rw [List.getElem?_drop,Nat.add_sub_cancel' hi]; exact e1'
   have hN:X.N[j]?=some x:=by
    have q:=congrArg (fun l=>l[i-nt]?) S.capt
    have q:(caps.map fun j=>X.N[j]?)[i-nt]?=((N'.drop nt).map some)[i-nt]?:=q
    rw [List.getElem?_map,List.getElem?_map,hj,hd] at q
    exact Option.some.inj q
   have hfx:=S.capf x (List.mem_of_getElem? hd)
   have hko:=S.frees (x,.free) (PySem.mem_of_lookup hfx) rfl
   have vis:Vis X.env.scope x:=.inr hko
   obtain ⟨m,hn,hl'⟩:=I.loc
   obtain ⟨u,r,l⟩:=hl' j x v hN hσ vis
   refine ⟨u,r,.inr ⟨?_,?_⟩⟩
   ·exact lookup_relabel_free hfx
   ·rcases l with ⟨k,_⟩ | ⟨_,c,e,z⟩
    ·have k':X.env.scope.names.lookup x=some .local:=k
     rcases hko with q | q<;>(rw [k'] at q; cases q)
    ·obtain ⟨c',q⟩:=lookup_of_mem (closL_mem e (PySem.mem_of_lookup hfx) (cs:=[]))
     have q2:=sub q
     rw [e] at q2
     cases q2
     obtain ⟨o,ho,hd'⟩:=z
     refine ⟨c,?_,o,old _ _ ho,hd'⟩
     show (cellsC X scope C).lookup x=some c
     unfold cellsC
     rw [cf_app,List.lookup_append]
     cases own:(cellsFrom (C+1) scope.names []).lookup x with
     | none=>exact q
     | some c' =>
      have z1:=S.cells _ (cf_mem _ _ (PySem.mem_of_lookup own)).2 rfl
      rw [hfx] at z1
      cases z1
 ·rcases cells_sub e with q | ⟨_,q⟩
  ·obtain ⟨v,o,ho,hd'⟩:=I.cell x c q
   exact ⟨v,o,old _ _ ho,hd'⟩
  ·exact ⟨none,hnew x c (PySem.mem_of_lookup q)⟩
 ·obtain ⟨a,b,c,d,e⟩:=I.pin p hp
  refine ⟨old _ _ a,b,Nat.ne_of_lt (Nat.lt_of_lt_of_le (Heap.lt_size a) hC),fun hf=>?_,e⟩
  rcases List.mem_cons.mp (I.stkSub p.1 hf) with z | z
  ·exact c z
  ·exact d z
 ·show (List.replicate nt none++caps.map fun j=>(σ[j]?).getD none).length=N'.length
  rw [List.length_append,List.length_replicate,List.length_map]
  have:=S.len
  omega
end
section
variable {X:Cx} {pins:List (Addr×Obj)} {σ:St} {H:Hp} {s₂:Shared} {scope:Scope} {N':List Str} {nt:Nat} {caps:List Nat} {tg elt iter:Expr} {ifs:List Expr} {pos:Pos} {g:Blk→TG} {tt:Blk→TT} {te:Blk→TE}
theorem comp_runC {J:It} {it:Addr} {fp:List Addr} {tn:Nat→Heap→Prop} {W:Nat→Nat→List V→St→Hp→Prop} {Z:List V→Hp→Prop} {RR:Value→Addr→Result→Shared→Prop} {E:Value→Shared→Prop}
  (hc:X.calm=true) (S:CompScopeC X.env.scope X.N scope N' nt caps)
  (hg:∀ B,PG (cxCompC X N' scope B) tg (g B)) (ht:∀ B,PTs (cxCompC X N' scope B) ifs (tt B)) (he:∀ B,PE (cxCompC X N' scope B) elt (te B))
  (I:Inv X pins σ H s₂) (T:Turn X.prog X.w X.K tg J fp it tn) (st:tn 0 s₂.heap) (f2:∀ b∈fp,FpOk X pins H b) (w0:∃ m,W 0 m [] (sgm nt caps σ) H) (turn:∀ B,CompW J (g B) (tt B) (te B) W Z)
  (hRR:∀ D C s' ys H',Z ys H'→H' D=none→Inv X pins σ (upd H' D (.lst ys)) s'→FpOk X pins (upd H' D (.lst ys)) C→(∃ m,s'.heap.Ns C m)→RR (.ref D) C (.ok .next) s') :
  wpAny (model X.prog X.w) X.A (newList []) (fun acc s₃=>wpAny (model X.prog X.w) X.A (newFunctionEnv scope X.env.globals (closL X.env scope.names []) [] X.env.qual none .none (some X.env)) (fun cenv s₄ =>
   codeAny (model X.prog X.w) X.A (.compStart (.ListComp elt [⟨tg,iter,ifs,0⟩] scope pos) 0 (.ref it) acc { cenv with scope:=relabel scope X.env }) (RR acc cenv.locals) s₄) E s₃) E s₂:=by
 refine wpAny_newObj_type (wpAny_compEnv (fun h₁ hns₁ hk₁ hnew₁ hap₁=>?_))
 try dsimp only at hns₁ hk₁ hnew₁ hap₁ ⊢
 generalize hH2:s₂.heap.push { cls:=.type "list",dict:=none,data:=.seq ([]:List Value).toArray }=G2 at hns₁ hk₁ hnew₁ hap₁ ⊢
 have hCe:G2.objs.size=s₂.heap.objs.size+1:=by rw [← hH2,Heap.size_push]
 have hDC:s₂.heap.objs.size≠G2.objs.size:=by rw [hCe]; exact Nat.ne_of_lt (Nat.lt_succ_self _)
 have hCle:s₂.heap.objs.size≤G2.objs.size:=by rw [hCe]; exact Nat.le_succ _
 have hlt:∀ b∈fp,b<s₂.heap.objs.size:=fun b hb=>let ⟨o,e,_⟩:=T.obj 0 _ st b hb; Heap.lt_size e
 have old:∀ b o,s₂.heap.get? b=some o→h₁.get? b=some o:=fun b o e=>hk₁ b o (hH2 ▸ Heap.get?_push_of_some _ e)
 have hacc:h₁.get? s₂.heap.objs.size=some (lobj [] 0):=hk₁ _ _ (hH2 ▸ Heap.get?_push_size _ rfl)
 generalize hD:s₂.heap.objs.size=D at hacc hDC hCle hCe
 generalize G2.objs.size=C at hns₁ hnew₁ hap₁ hDC hCle hCe ⊢
 have hlt':∀ b∈fp,b<D:=fun b hb=>hD ▸ hlt b hb
 have hpl:∀ p∈X.pn++pins,p.1<D:=fun p hp=>hD ▸ Heap.lt_size (I.pin p hp).1
 have hcl:∀ x c,X.env.cells.lookup x=some c→c<D:=fun x c e=>let ⟨v,q⟩:=I.cell x c e; hD ▸ q.lt
 have hfsl:∀ b∈frs X.stack,b<D:=fun b hb=>by
  rcases List.mem_cons.mp (I.stkSub b hb) with z | z
  ·rw [z,← hD]; exact I.lt
  ·rw [← hD]
   refine Nat.lt_of_not_le fun q=>I.nofs q z
 have fD:∀ {H':Hp} {pl:List (Addr×Obj)},H' D=none→(∀ p∈X.pn++pl,p.1<D)→FpOk (cxCompC X N' scope ⟨C,s₂,H,fp⟩) pl H' D:=fun {H' pl} hn hp =>
  ⟨hn,hDC,fun z=>Nat.lt_irrefl _ (hfsl D z),.inr (by show s₂.heap.objs.size≤D; rw [hD]; exact Nat.le_refl _),fun x c e z=>(by rcases cells_sub e with q | ⟨q,_⟩; (have:=hcl x c q; rw [z] at this; exact Nat.lt_irrefl D this); (rw [z] at q; exact Nat.lt_irrefl D (Nat.lt_of_lt_of_le (Nat.lt_of_le_of_lt hCle (Nat.lt_succ_self C)) q))),
   fun p q z=>Nat.lt_irrefl D (by have:=hp p q; rw [z] at this; exact this)⟩
 have fI:∀ {H':Hp} {n:Nat} {its:List Value},(∀ b∈fp,H' b=none)→∀ b∈fp,FpOk (cxCompC X N' scope ⟨C,s₂,H,fp⟩) (pins++[(D,lobj its n)]) H' b:=fun {H' n its} hn b hb=>by
  obtain ⟨g0,g1,g2,g3,g4,g5⟩:=f2 b hb
  refine ⟨hn b hb,Nat.ne_of_lt (Nat.lt_of_lt_of_le (hlt' b hb) hCle),fun z=>?_,.inl hb,fun x c e=>(by rcases cells_sub e with q | ⟨q,_⟩; exact g4 x c q; exact Nat.ne_of_gt (Nat.lt_of_lt_of_le (Nat.lt_of_lt_of_le (hlt' b hb) hCle) (Nat.le_of_succ_le q))),fun p hp z=>?_⟩
  ·rcases List.mem_cons.mp (I.stkSub b z) with q | q
   ·exact g1 q
   ·exact g2 q
  ·have hp':p∈X.pn++(pins++[(D,lobj its n)]):=hp
   rw [← List.append_assoc] at hp'
   rcases List.mem_append.mp hp' with q | q
   ·exact g5 p q z
   ·have e:p=(D,lobj its n):=by simpa using q
    rw [e] at z
    have:=hlt' b hb
    rw [← z] at this
    exact Nat.lt_irrefl _ this
 have pinD:∀ {σ':St} {H':Hp} {s':Shared} {its:List Value} {n:Nat} {pl:List (Addr×Obj)},Inv (cxCompC X N' scope ⟨C,s₂,H,fp⟩) (pins++pl) σ' H' s'→H' D=none→s'.heap.get? D=some (lobj its n)→Inv (cxCompC X N' scope ⟨C,s₂,H,fp⟩) (pins++[(D,lobj its n)]) σ' H' s' :=
  fun {σ' H' s' its n pl} J hn ho=>J.pins_of fun p hp=>by
   rcases List.mem_append.mp hp with q | q
   ·exact J.pin p (List.mem_append_right _ (List.mem_append_left _ q))
   ·have e:p=(D,lobj its n):=by simpa using q
    subst e
    exact ⟨ho,hn,hDC,fun z=>Nat.lt_irrefl _ (hfsl D z),fun v z=>by cases z⟩
 have I1:Inv (cxCompC X N' scope ⟨C,s₂,H,fp⟩) (pins++[(D,lobj [] 0)]) (sgm nt caps σ) H { s₂ with heap:=h₁,toks:=s₂.toks } :=
  pinD (pl:=[]) (by rw [List.append_nil]; exact inv_compC I S f2 hlt (by rw [hD]; exact hCle) hap₁ hnew₁ hns₁ old) (I.hok.fresh (by rw [hD]; exact Nat.le_refl _)) hacc
 have st1:tn 0 h₁:=T.keep 0 _ _ st fun b _ o e=>old b o e
 have loop:∀ s₃:Shared,s₃={ s₂ with heap:=h₁,toks:=s₂.toks } →
   codeAny (model X.prog X.w) X.A (.compLoop (.ListComp elt [⟨tg,iter,ifs,0⟩] scope pos) 0 (.ref it) (.ref D) (cxCompC X N' scope ⟨C,s₂,H,fp⟩).env) (RR (.ref D) C) s₃:=by
  rintro s₃ rfl
  obtain ⟨m0,w0⟩:=w0
  refine codeAny_compLoop_go (fun k s'=>∃ i ys σ' H' its n,Inv (cxCompC X N' scope ⟨C,s₂,H,fp⟩) (pins++[(D,lobj its n)]) σ' H' s'∧Vals ys its∧tn i s'.heap∧(∀ b∈fp,H' b=none)∧ys.length≤sizeLine∧W i k ys σ' H') ?_ m0
   ⟨0,[],_,H,[],0,I1,.nil,st1,fun b hb=>(f2 b hb).1,Nat.zero_le _,w0⟩
  rintro k s' ⟨i,ys,σ',H',its,n,I',rv,st',fr',hz,w'⟩
  rcases turn ⟨C,s₂,H,fp⟩ i k ys σ' H' w' with ⟨stop,z⟩ | ⟨go,hlen,NN,hNN,step⟩
  ·refine thn (T.done (cxCompC X N' scope ⟨C,s₂,H,fp⟩) rfl rfl rfl hc i _ s' σ' H' _ I' (fI fr') st' stop) fun r s1 ⟨hr,J⟩=>?_
   subst hr
   have pd:=J.pin (D,lobj its n) (List.mem_append_right _ (List.mem_append_right _ List.mem_cons_self))
   have hDn:H' D=none:=pd.2.1
   have J0:Inv X pins σ H' s1:=I.call' (ch:=fp) J.os J.base J.hok J.bare fun b hb=>⟨(f2 b hb).2.2.2.1,(f2 b hb).2.1,(f2 b hb).2.2.2.2.1,(f2 b hb).2.2.2.2.2⟩
   have J1:Inv X pins σ (upd H' D (.lst ys)) s1:=J0.track (I.fpOk (by rw [hD]; exact Nat.le_refl _) hDn) ⟨hz,its,n,rv,pd.1⟩
   obtain ⟨mC,hnC,_⟩:=J.loc
   exact hRR D C s1 ys H' z hDn J1 (I.fpOk (by rw [hD]; exact hCle) (by rw [upd_ne (Ne.symm hDC)]; exact J.free)) ⟨mC,hnC⟩
  ·refine thn (T.item (cxCompC X N' scope ⟨C,s₂,H,fp⟩) rfl rfl rfl hc i _ s' σ' H' _ I' (fI fr') st' go) fun r s1 ⟨u,hr,h1⟩=>?_
   subst hr
   refine thn h1 fun _ s5 ⟨x,H5,I5,r5,y5,st5,fr5⟩=>?_
   have I5':=I5.pinned (fI fr5) (T.obj _ _ st5)
   refine wpAny_mono (hg ⟨C,s₂,H,fp⟩ _ s5 σ' H5 x u _ I5' r5 (step x H5 y5)) (fun _ s6 ⟨σ6,H6,I6,q6⟩=>?_) fun _ _ z=>z.elim
   refine wpAny_mono (ht ⟨C,s₂,H,fp⟩ _ s6 σ6 H6 _ I6 q6) (fun b s7 ⟨H7,I7,q7⟩=>?_) fun _ _ z=>z.elim
   have keepT:∀ {σ8:St} {H8:Hp} {s8:Shared},Inv (cxCompC X N' scope ⟨C,s₂,H,fp⟩) ((pins++[(D,lobj its n)])++pinsAt fp s5.heap) σ8 H8 s8→tn (i+1) s8.heap∧(∀ b∈fp,H8 b=none)∧s8.heap.get? D=some (lobj its n)∧H8 D=none:=fun {σ8 H8 s8} I8=>by
    refine ⟨T.keep _ _ _ st5 fun b hb o e=>(I8.pin (b,o) (List.mem_append_right _ (List.mem_append_right _ (mem_pinsAt hb e)))).1,fun b hb=>?_,?_⟩
    ·obtain ⟨o,e,_⟩:=T.obj _ _ st5 b hb
     exact (I8.pin (b,o) (List.mem_append_right _ (List.mem_append_right _ (mem_pinsAt hb e)))).2.1
    ·have pd:=I8.pin (D,lobj its n) (List.mem_append_right _ (List.mem_append_left _ (List.mem_append_right _ List.mem_cons_self)))
     exact ⟨pd.1,pd.2.1⟩
   cases b with
   | false =>
    rw [if_neg Bool.false_ne_true] at q7 ⊢
    obtain ⟨m',hm,w7⟩:=hNN _ _ _ q7
    obtain ⟨t7,f7,_,_⟩:=keepT I7
    exact ⟨m',hm,i+1,ys,σ6,H7,its,n,I7.unpinned,rv,t7,f7,hz,w7⟩
   | true =>
    rw [if_pos rfl] at q7 ⊢
    refine wpAny_mono (he ⟨C,s₂,H,fp⟩ _ s7 σ6 H7 _ I7 q7) (fun v s8 ⟨y,H8,I8,r8,q8⟩=>?_) fun _ _ z=>z.elim
    obtain ⟨m',hm,w8⟩:=hNN _ _ _ q8
    obtain ⟨t8,f8,o8,n8⟩:=keepT I8
    have hlv:=rv.length
    refine append_at o8 (fun h9 sb9 o9=>?_) (by rw [List.size_toArray,← hlv]; exact hz)
    have I8':Inv (cxCompC X N' scope ⟨C,s₂,H,fp⟩) (pins++[]) σ6 H8 s8:=by
     rw [List.append_nil]
     exact I8.unpinned.unpinned
    have ep:((its.toArray.push v))=(its++[v]).toArray:=by simp
    rw [ep] at o9
    have I9:Inv (cxCompC X N' scope ⟨C,s₂,H,fp⟩) (pins++[]) σ6 H8 { s8 with heap:=h9 } :=
     I8'.turnedL (t':=s8.toks) (ch:=[D]) (fun b o hb e=>sb9.extBut b o (fun z=>hb (by simp [z])) e) (fun b hb=>by
      have e:b=D:=by simpa using hb
      subst e
      exact fD n8 (by rw [List.append_nil]; exact hpl))
    refine ⟨m',hm,i+1,ys++[y],σ6,H8,its++[v],n+1,pinD I9 n8 o9,rv.append (.cons r8 .nil),T.keep _ _ _ t8 fun b hb o e=>sb9.extBut b o (Nat.ne_of_lt (hlt' b hb)) e,f8,?_,w8⟩
    rw [List.length_append,List.length_singleton]
    exact hlen
 exact codeAny_compStart_list (loop _ rfl) (T.self X.A 0 _ _ _ st1 (loop _ rfl))
theorem pe_compC {wi:TI} (osc:Scope) (N:List Str) (S:CompScopeC osc N scope N' nt caps) (hi:PI X tg iter wi)
  (hg:∀ B,PG (cxCompC X N' scope B) tg (g B)) (ht:∀ B,PTs (cxCompC X N' scope B) ifs (tt B)) (he:∀ B,PE (cxCompC X N' scope B) elt (te B))
  (hc:X.calm=true:=by rfl) (hosc:X.env.scope=osc:=by rfl) (hNN:X.N=N:=by rfl) (hs:∀ x,foldedSetIterable iter X.env x=pure x:=by intro _; rfl):PE X (.ListComp elt [⟨tg,iter,ifs,0⟩] scope pos) (tComp nt caps wi g tt te):=by
 subst hosc hNN
 intro pins s σ H Q I h
 have hfr:∀ x∈scope.names,x.2=.free→∃ c,X.env.cells.lookup x.1=some c:=fun x hx hf=>I.ok.has x.1 (S.frees x hx hf)
 rw [eval_ListComp]
 refine wpAny_comprehension_free (use:=none) rfl hs (closureFor_eq hfr) S.kind S.names (thn (hi pins s σ H _ I h) fun v s1 h1=>thn h1 fun itv s2 h2=>?_)
 obtain ⟨it,fp,tn,J,H2,e,I2,T,st2,f2,W,w0,turn⟩:=h2
 subst e
 refine comp_runC (RR:=fun acc C=>compPost (model X.prog X.w) X.A X.xe none (EP X pins σ Q) acc C) hc S hg ht he I2 T st2 f2 w0 turn ?_
 intro D C s' ys H' z hn J' fC ⟨m,hm⟩
 refine ⟨m,hm,fun h'' sb=>⟨.ref D,_,J'.turnedL (t':=s'.toks) (ch:=[C]) (fun b o hb e=>sb.extBut b o (fun z=>hb (by simp [z])) e) (fun b hb=>?_),rfl,z D hn⟩⟩
 have e:b=C:=by simpa using hb
 subst e
 exact fC
end
theorem pg_nameK {X:Cx} {i:Nat} {x:Str} {pos:Pos} (N:List Str) (hN:N.Nodup) (hi:N[i]?=some x) (hx:X.env.scope.names.lookup x=some .cell:=by rfl) (hf:X.fn x=true:=by rfl) (hXN:X.N=N:=by rfl):PG X (.Name x pos) (gName i) :=
 pg_name (by rw [hXN]; exact hN) (by rw [hXN]; exact hi) (.inr hx) (.inl hf)
end L2
namespace L2
open PySem PySem.Spec PyProof.Rows
section
variable {X:Cx}
end
end L2
namespace L2
open PySem PySem.Spec PyProof.Rows SeqAt
section
variable {X:Cx} {pins:List (Addr×Obj)} {σ:St} {H:Hp} {s:Shared} {A:Around} {a b:Addr}
end
def ButL (A:List Addr) (H H':Hp):Prop:=∀ c u,H c=some u→c∉A→H' c=some u
theorem ButL.refl {A:List Addr} {H:Hp}:ButL A H H:=fun _ _ e _=>e
theorem ButL.trans {A:List Addr} {H H1 H2:Hp} (a:ButL A H H1) (b:ButL A H1 H2):ButL A H H2:=fun c u e n=>b c u (a c u e n) n
theorem ButL.upd {A:List Addr} {H H':Hp} (k:ButL A H H') {x:Addr} {o:HO} (hx:x∈A):ButL A H (upd H' x o):=fun c u e n=>by
 have hc:c≠x:=fun z=>n (by rw [z]; exact hx)
 rw [upd_ne hc]
 exact k c u e n
theorem Rows.memE {H:Hp}:∀ {as:List Addr} {rs:List (List Int)},Rows H as rs→∀ a∈as,∃ r∈rs,H a=some (.lst (vints r))
 | _,_,.nil,a,h=>nomatch h
 | _,_,.cons (b:=r) e R,a,h=>by
  rcases List.mem_cons.mp h with q | q
  ·subst q; exact ⟨r,List.mem_cons_self ..,e⟩
  ·obtain ⟨r',h1,h2⟩:=Rows.memE R a q
   exact ⟨r',List.mem_cons_of_mem _ h1,h2⟩
theorem PartsIn.has {H:Hp} {p b d t g f:Addr} {ts gs:List Addr} {N:NetV} (P:PartsIn H p b d t g f ts gs N):∀ a∈[p,b,d,t,g,f]++ts++gs,∃ o,H a=some o:=by
 intro a ha
 rcases List.mem_append.mp ha with ha | ha
 ·rcases List.mem_append.mp ha with ha | ha
  ·simp only [List.mem_cons,List.not_mem_nil,or_false] at ha
   rcases ha with rfl | rfl | rfl | rfl | rfl | rfl
   ·exact ⟨_,P.top⟩
   ·exact ⟨_,P.hb⟩
   ·exact ⟨_,P.hd⟩
   ·exact ⟨_,P.ht⟩
   ·exact ⟨_,P.hg⟩
   ·exact ⟨_,P.hf⟩
  ·obtain ⟨r,_,e⟩:=P.tr.memE a ha; exact ⟨_,e⟩
 ·obtain ⟨r,_,e⟩:=P.gr.memE a ha; exact ⟨_,e⟩
theorem ButL.seq {A:List Addr} {K:PySem.W.Frag} {H H':Hp} {a:Addr} {xs:List V} (k:ButL A H H') (h:SqL K H a xs) (n:∀ u,H a=some u→a∉A):SqL K H' a xs:=by
 rcases h with (h | ⟨o,h⟩) | h
 ·exact .inl (.inl (k _ _ h (n _ h)))
 ·exact .inl (.inr ⟨o,k _ _ h (n _ h)⟩)
 ·exact .inr h
def Lsts (H:Hp) (n:Nat) (A:List Addr):Prop:=∀ a∈A,∃ xs,H a=some (.lst xs)∧xs.length≤n
theorem Lsts.upd {H:Hp} {n m:Nat} {A:List Addr} (h:Lsts H n A) {x:Addr} {ys:List V} (hl:ys.length≤m) (hm:n≤m):Lsts (upd H x (.lst ys)) m A:=fun a ha=>by
 by_cases e:a=x
 ·subst e; exact ⟨ys,upd_same,hl⟩
 ·obtain ⟨xs,h1,h2⟩:=h a ha
  exact ⟨xs,by rw [upd_ne e]; exact h1,Nat.le_trans h2 hm⟩
end L2
namespace L2
open PySem PySem.Spec PyProof.Rows
section
variable {X:Cx} {e:Expr} {es:List Expr} {te:TE} {tr:TJ}
end
end L2
namespace L2
open PySem PySem.Spec PyProof.Rows
def Ite (K:PySem.W.Frag) (a:Addr):It where
 go i H:=∃ xs x,SqL K H a xs∧xs[i]?=some x
 yld i H v H':=∃ p x,H p=none∧v=.ref p∧H'=upd H p (.tup [.int (i:Nat),x])∧∀ xs,SqL K H a xs→xs[i]?=some x
 stop i H:=∃ xs,SqL K H a xs∧xs.length≤i
theorem turn_enum {P:Program} {w:World} {K:PySem.W.Frag} {elts:List Expr} {kx} {tpos:Pos} {e it a:Addr} (hne:e≠it):Turn P w K (.Tuple elts kx tpos) (Ite K a) [e,it] e
  (fun i h=>(∃ old,IsEnum h e it (i:Nat) old)∧h.IsListIter it a i) where
 mem:=by simp
 obj:=fun i h st c hc=>by
  obtain ⟨⟨old,he⟩,⟨o1,e1,_,d1⟩⟩:=st
  simp only [List.mem_cons,List.not_mem_nil,or_false] at hc
  rcases hc with rfl | rfl
  ·exact ⟨_,he,fun v q=>by cases q⟩
  ·exact ⟨_,e1,fun v q=>by rw [d1] at q; cases q⟩
 keep:=fun i h h' st k=>by
  obtain ⟨⟨old,he⟩,h1⟩:=st
  exact ⟨⟨old,k e (by simp) _ he⟩,h1.at fun o q=>k it (by simp) o q⟩
 item:=by
  intro X hP hw hK hc i pins s σ H E I hf st hg
  subst hP hw hK
  obtain ⟨xs,x,qa,hx⟩:=hg
  obtain ⟨its1,rv1,p1,z1⟩:=I.list qa
  obtain ⟨u1,hu1,ru1⟩:=rv1.get hx
  obtain ⟨⟨old,he⟩,h1⟩:=st
  refine wpAny_pyNext_enum_item he h1 p1.isList (x:=u1) (by simpa using hu1) hne fun h' a1 a2 a3 a4 hk=>?_
  refine ⟨_,rfl,wpAny_letOwnedTupleGo_enum a1 fun h'' he'' sb=>?_⟩
  have elt:=Heap.lt_size he
  have pz:s.heap.objs.size≠e:=Nat.ne_of_gt elt
  have hfr:=I.hok.fresh (Nat.le_refl s.heap.objs.size)
  have I1:Inv X pins σ H { s with heap:=h'',toks:=s.toks+1 }:=I.turnedL (t':=s.toks+1) (ch:=[e,it]) (fun c o hb q=>by
   simp only [List.mem_cons,List.not_mem_nil,or_false,not_or] at hb
   exact sb.extBut c o hb.1 (hk c o hb.1 hb.2 q)) (fun c hb=>hf c hb)
  have hp:h''.get? s.heap.objs.size=some { cls:=.type "tuple",data:=.seq #[.int i s.toks,u1] }:=sb.extBut _ _ pz a3
  have I2:Inv X pins σ (upd H s.heap.objs.size (.tup [.int (i:Nat),x])) { s with heap:=h'',toks:=s.toks+1 }:=I1.track (I.fpOk (Nat.le_refl _) hfr) ⟨by show 2≤sizeLine; decide,[.int i s.toks,u1],.cons ⟨_,rfl⟩ (.cons ru1 .nil),⟨_,hp,rfl,_,rfl⟩⟩
  refine ⟨.ref s.heap.objs.size,_,I2,rfl,⟨_,x,hfr,rfl,rfl,fun xs' q=>by rw [I.list_inj q qa]; exact hx⟩,⟨⟨_,he''⟩,a2.extBut sb.extBut (Ne.symm hne)⟩,fun c hb=>?_⟩
  rw [upd_ne (fun q=>?_)]
  ·exact (hf c hb).1
  ·have hlt:c<s.heap.objs.size:=by
    obtain ⟨o1,e1,_⟩:=h1
    simp only [List.mem_cons,List.not_mem_nil,or_false] at hb
    rcases hb with rfl | rfl
    ·exact Heap.lt_size he
    ·exact Heap.lt_size e1
   rw [q] at hlt
   exact Nat.lt_irrefl _ hlt
 done:=by
  intro X hP hw hK hc i pins s σ H E I hf st hg
  subst hP hw hK
  obtain ⟨xs,qa,hend⟩:=hg
  obtain ⟨its1,rv1,p1,z1⟩:=I.list qa
  obtain ⟨⟨old,he⟩,h1⟩:=st
  have l1:=rv1.length
  refine wpAny_pyNext_enum_end (I.ok.hd hc) he h1 p1.isList (by simp; omega) fun h' hk=>⟨rfl,?_⟩
  exact I.turnedL (t':=s.toks) (ch:=[it]) (fun c o hb q=>hk c o (fun z=>hb (by simp [z])) q) (fun c hb=>hf c (by
   have z:c=it:=by simpa using hb
   rw [z]; simp))
 self:=fun _ _ _ _ _ st h=>let ⟨⟨_,he⟩,_⟩:=st; wpAny_pyIter_enum he h
section
variable {X:Cx}
def iEnum (K:PySem.W.Frag) (ta:TA):TI:=fun σ H R=>ta σ H fun vs H1=>∃ a xs,vs=[.ref a]∧SqL K H1 a xs∧R (Ite K a) H1
theorem pi_enum {ea:Expr} {ta:TA} {elts:List Expr} {kx} {tpos p pos:Pos} (hg:Gl X "enumerate") (hm:X.mg "enumerate" = none) (ha:PA X [ea] ta) (hs:starEach [ea] X.env=[(false,eval ea X.env)]:=by rfl) :
  PI X (.Tuple elts kx tpos) (.Call (.Name "enumerate" p) [ea] [] pos) (iEnum X.K ta):=by
 intro pins s σ H R I h
 refine Call_ (ld_blt I hg hm (by rfl:bootBuiltins "enumerate" = some (.type "enumerate")) (PyProof.Rows.callWith_type1 (thn (ha pos pins s σ H _ I h) fun us s1 ⟨vs,H1,I1,r1,q1⟩=>?_) hs rfl))
 obtain ⟨a,xs,e,qa,q⟩:=q1
 subst e
 cases r1 with
 | cons r rr =>
  cases rr
  cases r
  obtain ⟨its1,rv1,p1,z1⟩:=I1.list qa
  refine call_enumerate_list p1.isList fun h' he h1 hsz hk=>wpAny_pyIter_enum he ?_
  refine ⟨s1.heap.objs.size+1,[s1.heap.objs.size+1,s1.heap.objs.size],_,_,H1,rfl,I1.kept (t':=s1.toks) hk,turn_enum (Nat.ne_of_gt (Nat.lt_succ_self _)),⟨⟨_,he⟩,h1⟩,fun c hb=>?_,q⟩
  have hle:s1.heap.objs.size≤c:=by
   simp only [List.mem_cons,List.not_mem_nil,or_false] at hb
   rcases hb with q | q
   ·rw [q]; exact Nat.le_add_right _ _
   ·rw [q]; exact Nat.le_refl _
  exact I1.fpOk hle (I1.hok.fresh hle)
end
theorem for_enum {K:PySem.W.Frag} {g:TG} {a:Addr} {xs:List V} {tb:TS} {D:Ends} {σ:St} {H:Hp} (Pv:Nat→St→Hp→Prop) (h0:Pv 0 σ H) (hl:∀ i σ H,i≤xs.length→Pv i σ H→SqL K H a xs)
  (hs:∀ i x p σ H,xs[i]?=some x→Pv i σ H→H p=none→g (.ref p) σ (upd H p (.tup [.int (i:Nat),x])) fun σ2 H2=>tb { D with nx:=Pv (i+1),ct:=Pv (i+1),bk:=D.nx } σ2 H2) (hd:∀ σ H,Pv xs.length σ H→D.nx σ H) :
  ∃ W:Nat→Nat→St→Hp→Prop,(∃ m,W 0 m σ H)∧∀ i m σ H,W i m σ H →
   ((Ite K a).stop i H∧D.nx σ H)∨((Ite K a).go i H∧∃ N:St→Hp→Prop,(∀ σ' H',N σ' H'→∃ m',m'<m∧W (i+1) m' σ' H')∧∀ x H',(Ite K a).yld i H x H'→g x σ H' fun σ2 H2=>tb { D with nx:=N,ct:=N,bk:=D.nx } σ2 H2):=by
 refine ⟨fun i m σ H=>m=xs.length-i∧i≤xs.length∧Pv i σ H,⟨xs.length,by simp,Nat.zero_le _,h0⟩,?_⟩
 rintro i m σ H ⟨rfl,hi,p⟩
 have qa:=hl i σ H hi p
 by_cases hlt:i<xs.length
 ·refine .inr ⟨⟨xs,xs[i],qa,by simp [hlt]⟩,Pv (i+1),fun σ' H' p'=>⟨xs.length-(i+1),by omega,rfl,hlt,p'⟩,fun v H' y=>?_⟩
  obtain ⟨q,x,hq,e1,e2,hx⟩:=y
  subst e1 e2
  exact hs i x q σ H (hx xs qa) p hq
 ·have e:i=xs.length:=by omega
  subst e
  exact .inl ⟨⟨xs,qa,Nat.le_refl _⟩,hd σ H p⟩
end L2
namespace L2
open PySem PySem.Spec PyProof.Rows SeqAt
section
variable {X:Cx}
theorem hu0_of {A:Around} {k:Nat} (hr:Room k A):A.units<cLine:=hr.units0
end
end L2
namespace L2
def lsm (m:Nat) (f:Nat→Int):Int:=match m with | 0=>0 | m+1=>lsm m f+f m
theorem lsm_congr {m:Nat} {f g:Nat→Int} (h:∀ i,i<m→f i=g i):lsm m f=lsm m g:=by
 induction m with
 | zero=>rfl
 | succ m ih=>show lsm m f+f m=lsm m g+g m; rw [ih fun i hi=>h i (by omega),h m (by omega)]
theorem lsm_add (m:Nat) (f g:Nat→Int):lsm m (fun i=>f i+g i)=lsm m f+lsm m g:=by
 induction m with
 | zero=>rfl
 | succ m ih=>show lsm m _+(f m+g m)=(lsm m f+f m)+(lsm m g+g m); rw [ih]; omega
theorem lsm_mul (m:Nat) (c:Int) (f:Nat→Int):lsm m (fun i=>c*f i)=c*lsm m f:=by
 induction m with
 | zero=>show (0:Int)=c*0; omega
 | succ m ih=>show lsm m _+c*f m=c*(lsm m f+f m); rw [ih,Int.mul_add]
theorem lsm_zero {m:Nat} {f:Nat→Int} (h:∀ i,i<m→f i=0):lsm m f=0:=by
 induction m with
 | zero=>rfl
 | succ m ih=>show lsm m f+f m=0; rw [ih fun i hi=>h i (by omega),h m (by omega)]; rfl
theorem lsm_one {m j:Nat} {f:Nat→Int} (hj:j<m) (h:∀ i,i<m→i≠j→f i=0):lsm m f=f j:=by
 induction m with
 | zero=>omega
 | succ m ih =>
  show lsm m f+f m=f j
  by_cases e:j=m
  ·subst e; rw [lsm_zero fun i hi=>h i (by omega) (by omega)]; omega
  ·rw [ih (by omega) fun i hi ne=>h i (by omega) ne,h m (by omega) (by omega)]; omega
abbrev Vc:=Nat→Int
def Lat (w m:Nat) (B:Nat→Vc) (v:Vc):Prop:=∃ c:Nat→Int,∀ k,k<w→v k=lsm m fun i=>c i*B i k
theorem Lat.congr {w m:Nat} {B:Nat→Vc} {v u:Vc} (h:Lat w m B v) (e:∀ k,k<w→u k=v k):Lat w m B u:=let ⟨c,hc⟩:=h; ⟨c,fun k hk=>by rw [e k hk,hc k hk]⟩
theorem Lat.zero (w m:Nat) (B:Nat→Vc):Lat w m B fun _=>0:=⟨fun _=>0,fun k _=>by rw [lsm_zero fun i _=>Int.zero_mul _]⟩
theorem Lat.gen {w m:Nat} {B:Nat→Vc} {i:Nat} (hi:i<m):Lat w m B (B i):=⟨fun j=>if j=i then 1 else 0,fun k _=>by
 rw [lsm_one hi fun j _ ne=>by show (if j=i then 1 else 0)*_=_; rw [if_neg ne,Int.zero_mul]]
 show _=(if i=i then 1 else 0)*_
 rw [if_pos rfl,Int.one_mul]⟩
theorem Lat.lin {w m:Nat} {B:Nat→Vc} {v u:Vc} (a b:Int) (h:Lat w m B v) (g:Lat w m B u):Lat w m B fun k=>a*v k+b*u k:=by
 obtain ⟨c,hc⟩:=h
 obtain ⟨d,hd⟩:=g
 refine ⟨fun i=>a*c i+b*d i,fun k hk=>?_⟩
 show a*v k+b*u k=_
 rw [hc k hk,hd k hk,← lsm_mul,← lsm_mul,← lsm_add]
 exact lsm_congr fun i _=>by rw [Int.add_mul,Int.mul_assoc,Int.mul_assoc]
theorem Lat.comb {w m':Nat} {B':Nat→Vc} {B:Nat→Vc} (c:Nat→Int):∀ {m:Nat},(∀ i,i<m→Lat w m' B' (B i))→Lat w m' B' fun k=>lsm m fun i=>c i*B i k
 | 0,_=>Lat.zero ..
 | m+1,h=>by
  have h1:=Lat.comb c (m:=m) fun i hi=>h i (by omega)
  refine (Lat.lin 1 (c m) h1 (h m (by omega))).congr fun k hk=>?_
  show lsm m _+c m*B m k=_
  rw [Int.one_mul]
theorem Lat.sub {w m m':Nat} {B B':Nat→Vc} {v:Vc} (h:Lat w m B v) (g:∀ i,i<m→Lat w m' B' (B i)):Lat w m' B' v:=by
 obtain ⟨c,hc⟩:=h
 exact (Lat.comb c g).congr hc
structure Ech (w:Nat) (D:Nat→Vc):Prop where
 lo:∀ q,q<w→∀ k,k<q→D q k=0
 nn:∀ q,q<w→0≤D q q
 no:∀ q,q<w→D q q=0→∀ k,D q k=0
theorem Ech.lead {w:Nat} {D:Nat→Vc} (E:Ech w D) {v:Vc} (h:Lat w w D v) {p:Nat} (hp:p<w) (z:∀ k,k<p→v k=0):∃ c,v p=c*D p p:=by
 obtain ⟨c,hc⟩:=h
 have none:∀ q,q<p→∀ k,c q*D q k=0:=by
  intro q
  induction q using Nat.strongRecOn with
  | _ q ih =>
   intro hq k
   have h1:=hc q (by omega)
   rw [z q hq,lsm_one (j:=q) (by omega) fun i hi ne=>?_] at h1
   ·rcases Int.mul_eq_zero.mp h1.symm with e | e
    ·rw [e,Int.zero_mul]
    ·rw [E.no q (by omega) e k,Int.mul_zero]
   ·by_cases e:i<q
    ·exact ih i e (by omega) q
    ·rw [E.lo i hi q (by omega),Int.mul_zero]
 refine ⟨c p,?_⟩
 rw [hc p hp,lsm_one (j:=p) hp fun i hi ne=>?_]
 by_cases e:i<p
 ·exact none i e p
 ·rw [E.lo i hi p (by omega),Int.mul_zero]
def Stl (w:Nat) (D:Nat→Vc):Prop:=∀ q q',q<q'→q'<w→0<D q' q'→0≤D q q'∧D q q'<D q' q'
structure Eu (p:Nat) (A B one other:Vc):Prop where
 ex:∃ x y x' y':Int,(∀ k,one k=x*A k+y*B k)∧(∀ k,other k=x'*A k+y'*B k)∧(x*y'-x'*y=1∨x*y'-x'*y = -1) ∧
  x.natAbs≤(B p).natAbs∧y.natAbs≤(A p).natAbs+2*(B p).natAbs∧x'.natAbs≤(B p).natAbs∧y'.natAbs≤(A p).natAbs
 z:other p=0
 nz:one p≠0
 le:(one p).natAbs≤(A p).natAbs
structure EuW (p:Nat) (A B one other:Vc):Prop where
 ex:∃ x y x' y':Int,(∀ k,one k=x*A k+y*B k)∧(∀ k,other k=x'*A k+y'*B k)∧(x*y'-x'*y=1∨x*y'-x'*y = -1) ∧
  x.natAbs*(other p).natAbs+x'.natAbs*(one p).natAbs≤(B p).natAbs∧y.natAbs*(other p).natAbs+y'.natAbs*(one p).natAbs≤(A p).natAbs+2*(B p).natAbs ∧
  x.natAbs≤(B p).natAbs∧y.natAbs≤(A p).natAbs+2*(B p).natAbs
 nz:one p≠0
 sg:0≤one p*other p
theorem fmod_neg {a b:Int} (h:b<0):a.fmod b≤0∧b<a.fmod b:=by
 rw [Int.fmod_eq_emod]
 have h1:=Int.emod_nonneg a (show b≠0 by omega)
 have h2:=Int.emod_lt_of_neg a h
 by_cases d:b∣a
 ·rw [if_pos (.inr d),Int.emod_eq_zero_of_dvd d]; omega
 ·have h3:a%b≠0:=fun e=>d (Int.dvd_of_emod_eq_zero e)
  rw [if_neg (by rintro (q | q); omega; exact d q)]
  omega
theorem fdiv_abs {a b:Int} (hb:b≠0):(a.fdiv b).natAbs*b.natAbs+(a-a.fdiv b*b).natAbs≤a.natAbs+2*b.natAbs∧0≤b*(a-a.fdiv b*b)∧(a-a.fdiv b*b).natAbs<b.natAbs:=by
 have h1:=Int.mul_fdiv_add_fmod a b
 have e:a-a.fdiv b*b=a.fmod b:=by rw [Int.mul_comm (a.fdiv b)]; omega
 rw [e,← Int.natAbs_mul,Int.mul_comm (a.fdiv b)]
 generalize hM:b*a.fdiv b=M at h1 ⊢
 rcases Int.lt_or_gt_of_ne hb with l | l
 ·obtain ⟨h2,h3⟩:=fmod_neg (a:=a) l
  exact ⟨by omega,Int.mul_nonneg_of_nonpos_of_nonpos (by omega) h2,by omega⟩
 ·have h2:0≤a.fmod b:=Int.fmod_nonneg_of_pos a l
  have h3:a.fmod b<b:=Int.fmod_lt_of_pos a l
  exact ⟨by omega,Int.mul_nonneg (by omega) h2,by omega⟩
theorem fdiv_same {a b:Int} (hb:b≠0) (s:0≤a*b):(a.fdiv b).natAbs*b.natAbs+(a-a.fdiv b*b).natAbs=a.natAbs:=by
 have h1:=Int.mul_fdiv_add_fmod a b
 have e:a-a.fdiv b*b=a.fmod b:=by rw [Int.mul_comm (a.fdiv b)]; omega
 have pos:∀ {t c:Int},0<c → -c<c*t→0≤t:=fun {t c} hc h=>by
  refine Int.not_lt.mp fun q=>?_
  have:c*t≤c*(-1):=Int.mul_le_mul_of_nonneg_left (by omega) (by omega)
  omega
 rw [e,← Int.natAbs_mul,Int.mul_comm (a.fdiv b)]
 rcases Int.lt_or_gt_of_ne hb with l | l
 ·obtain ⟨h2,h3⟩:=fmod_neg (a:=a) l
  have a0:a≤0:=Int.not_lt.mp fun q=>by have:=Int.mul_neg_of_pos_of_neg q l; omega
  have t0:=pos (t:=a.fdiv b) (c := -b) (by omega) (by rw [Int.neg_mul]; omega)
  have m0:b*a.fdiv b≤0:=Int.mul_nonpos_of_nonpos_of_nonneg (by omega) t0
  omega
 ·have h2:0≤a.fmod b:=Int.fmod_nonneg_of_pos a l
  have h3:a.fmod b<b:=Int.fmod_lt_of_pos a l
  have a0:0≤a:=Int.not_lt.mp fun q=>by have:=Int.mul_neg_of_neg_of_pos q l; omega
  have t0:=pos (t:=a.fdiv b) l (by omega)
  have m0:0≤b*a.fdiv b:=Int.mul_nonneg (by omega) t0
  omega
def woV (p:Nat) (A B:Vc):Vc:=fun k=>A k-(A p).fdiv (B p)*B k
theorem EuW.start {p:Nat} {A B:Vc} (hb:B p≠0):EuW p A B B (woV p A B):=by
 obtain ⟨h1,h2,h3⟩:=fdiv_abs (a:=A p) hb
 refine ⟨⟨0,1,1,-((A p).fdiv (B p)),fun k=>by omega,fun k=>?_,.inr (by omega),?_,?_,by omega,by omega⟩,hb,h2⟩
 ·show A k-_=_
  rw [Int.neg_mul]; omega
 ·rw [show (1:Int).natAbs=1 from rfl,show (0:Int).natAbs=0 from rfl]; omega
 ·rw [Int.natAbs_neg,show (1:Int).natAbs=1 from rfl,Nat.one_mul,Nat.add_comm]; exact h1
theorem EuW.step {p:Nat} {A B one other:Vc} (h:EuW p A B one other) (ho:other p≠0):EuW p A B other (woV p one other):=by
 obtain ⟨⟨x,y,x',y',e1,e2,det,c1,c2,bx,by_⟩,nz,sg⟩:=h
 obtain ⟨_,h2,h3⟩:=fdiv_abs (a:=one p) ho
 have h4:=fdiv_same ho sg
 have o1:1≤(one p).natAbs:=by omega
 have lx:x'.natAbs≤(B p).natAbs:=by have:=Nat.mul_le_mul_left x'.natAbs o1; omega
 have ly:y'.natAbs≤(A p).natAbs+2*(B p).natAbs:=by have:=Nat.mul_le_mul_left y'.natAbs o1; omega
 have go:∀ (u u':Int) (M:Nat),u.natAbs*(other p).natAbs+u'.natAbs*(one p).natAbs≤M→u'.natAbs*(one p-(one p).fdiv (other p)*other p).natAbs+(u-(one p).fdiv (other p)*u').natAbs*(other p).natAbs≤M:=fun u u' M hM=>by
  have t1:(u-(one p).fdiv (other p)*u').natAbs≤u.natAbs+((one p).fdiv (other p)).natAbs*u'.natAbs:=by rw [← Int.natAbs_mul]; omega
  have t2:=Nat.mul_le_mul_right (other p).natAbs t1
  rw [Nat.add_mul] at t2
  have t3:((one p).fdiv (other p)).natAbs*u'.natAbs*(other p).natAbs=u'.natAbs*(((one p).fdiv (other p)).natAbs*(other p).natAbs):=by rw [Nat.mul_comm _ u'.natAbs,Nat.mul_assoc]
  have t4:u'.natAbs*(one p).natAbs=u'.natAbs*(((one p).fdiv (other p)).natAbs*(other p).natAbs)+u'.natAbs*(one p-(one p).fdiv (other p)*other p).natAbs:=by rw [← Nat.mul_add,h4]
  omega
 refine ⟨⟨x',y',x-(one p).fdiv (other p)*x',y-(one p).fdiv (other p)*y',e2,fun k=>?_,?_,go x x' _ c1,go y y' _ c2,lx,ly⟩,ho,h2⟩
 ·show one k-(one p).fdiv (other p)*other k=_
  rw [e1 k,e2 k,Int.sub_mul,Int.sub_mul,Int.mul_add,Int.mul_assoc,Int.mul_assoc]
  omega
 ·have:x'*(y-(one p).fdiv (other p)*y')-(x-(one p).fdiv (other p)*x')*y' = -(x*y'-x'*y):=by
   rw [Int.mul_sub,Int.sub_mul,Int.mul_left_comm x',Int.mul_assoc]
   omega
  rw [this]
  omega
theorem EuW.done {p:Nat} {A B one other:Vc} (h:EuW p A B one other) (ha:A p≠0) (ho:other p=0):Eu p A B one other:=by
 obtain ⟨⟨x,y,x',y',e1,e2,det,c1,c2,bx,by_⟩,nz,sg⟩:=h
 have o1:1≤(one p).natAbs:=by omega
 have lx:x'.natAbs≤(B p).natAbs:=by have:=Nat.mul_le_mul_left x'.natAbs o1; omega
 have z:=e2 p
 rw [ho] at z
 have on:=e1 p
 have key:y'*one p=(x*y'-x'*y)*A p:=by
  rw [on,Int.mul_add,Int.sub_mul]
  have a1:y'*(x*A p)=x*y'*A p:=by rw [← Int.mul_assoc,Int.mul_comm y' x]
  have a2:y'*(y*B p)=y*(y'*B p):=Int.mul_left_comm ..
  have a3:y'*B p = -(x'*A p):=by omega
  rw [a1,a2,a3,Int.mul_neg,← Int.mul_assoc,Int.mul_comm y x']
  omega
 have ab:(A p).natAbs=y'.natAbs*(one p).natAbs:=by
  rw [← Int.natAbs_mul,key,Int.natAbs_mul]
  rcases det with d | d<;>rw [d]<;>simp
 have y1:1≤y'.natAbs:=by
  rcases Nat.eq_zero_or_pos y'.natAbs with q | q
  ·rw [q,Nat.zero_mul] at ab; omega
  ·exact q
 refine ⟨⟨x,y,x',y',e1,e2,det,bx,by_,lx,?_⟩,ho,nz,?_⟩
 ·have:=Nat.mul_le_mul_left y'.natAbs o1; omega
 ·have:=Nat.mul_le_mul_right (one p).natAbs y1; omega
theorem Eu.back {p:Nat} {A B one other:Vc} (h:Eu p A B one other):∃ u v u' v':Int,(∀ k,A k=u*one k+v*other k)∧∀ k,B k=u'*one k+v'*other k:=by
 obtain ⟨⟨x,y,x',y',e1,e2,det,_⟩,_⟩:=h
 have ka:∀ k,(x*y'-x'*y)*A k=y'*one k-y*other k:=fun k=>by
  rw [e1 k,e2 k,Int.mul_add,Int.mul_add,Int.sub_mul,← Int.mul_assoc,← Int.mul_assoc,← Int.mul_assoc,← Int.mul_assoc,Int.mul_comm y' x,Int.mul_comm y x',Int.mul_comm y' y]
  omega
 have kb:∀ k,(x*y'-x'*y)*B k=x*other k-x'*one k:=fun k=>by
  rw [e1 k,e2 k,Int.mul_add,Int.mul_add,Int.sub_mul,← Int.mul_assoc,← Int.mul_assoc,← Int.mul_assoc,← Int.mul_assoc,Int.mul_comm x' x]
  omega
 rcases det with d | d
 ·refine ⟨y',-y,-x',x,fun k=>?_,fun k=>?_⟩
  ·have:=ka k; rw [d] at this; rw [Int.neg_mul]; omega
  ·have:=kb k; rw [d] at this; rw [Int.neg_mul]; omega
 ·refine ⟨-y',y,x',-x,fun k=>?_,fun k=>?_⟩
  ·have:=ka k; rw [d] at this; rw [Int.neg_mul]; omega
  ·have:=kb k; rw [d] at this; rw [Int.neg_mul]; omega
end L2
namespace L2
def Bd (e:Nat) (x:Int):Prop:=x.natAbs<2^e
theorem Bd.mono {e f:Nat} {x:Int} (h:Bd e x) (ef:e≤f):Bd f x:=Nat.lt_of_lt_of_le h (Nat.pow_le_pow_right (by decide) ef)
theorem Bd.zero (e:Nat):Bd e 0:=Nat.two_pow_pos e
theorem Bd.mul {e f:Nat} {x y:Int} (h:Bd e x) (g:Bd f y):Bd (e+f) (x*y):=by
 show (x*y).natAbs<_
 rw [Int.natAbs_mul,Nat.pow_add]
 exact Nat.mul_lt_mul'' h g
theorem Bd.add {e:Nat} {x y:Int} (h:Bd e x) (g:Bd e y):Bd (e+1) (x+y):=by
 show (x+y).natAbs<_
 have h:x.natAbs<2^e:=h
 have g:y.natAbs<2^e:=g
 rw [Nat.pow_succ]
 omega
theorem Bd.neg {e:Nat} {x:Int} (h:Bd e x):Bd e (-x):=by show (-x).natAbs<_; rw [Int.natAbs_neg]; exact h
theorem Bd.of_le {e:Nat} {x y:Int} (h:Bd e x) (l:y.natAbs≤x.natAbs):Bd e y:=Nat.lt_of_le_of_lt l h
def ext (w:Nat) (D:Nat→Vc) (r:Vc):Nat→Vc:=fun i=>if i<w then D i else r
def setV (D:Nat→Vc) (p:Nat) (v:Vc):Nat→Vc:=fun q=>if q=p then v else D q
theorem setD_sameV {D:Nat→Vc} {p:Nat} {v:Vc}:setV D p v p=v:=if_pos rfl
theorem setD_neV {D:Nat→Vc} {p q:Nat} {v:Vc} (h:q≠p):setV D p v q=D q:=if_neg h
def uprV (p:Nat) (f:Vc):Vc:=if f p<0 then fun k => -1*f k else f
theorem uprV_or (p:Nat) (f:Vc):(∀ k,uprV p f k=f k)∨∀ k,uprV p f k = - f k:=by
 unfold uprV
 split
 ·exact .inr fun k=>by show -1*f k=_; omega
 ·exact .inl fun k=>rfl
theorem uprV_abs (p:Nat) (f:Vc) (k:Nat):(uprV p f k).natAbs=(f k).natAbs:=by
 rcases uprV_or p f with h | h
 ·rw [h]
 ·rw [h,Int.natAbs_neg]
theorem uprV_pos {p:Nat} {f:Vc} (h:f p≠0):0<uprV p f p:=by
 unfold uprV
 split
 ·show 0 < -1*f p; omega
 ·omega
theorem uprV_zero {p:Nat} {f:Vc} {k:Nat} (h:f k=0):uprV p f k=0:=by
 have:=uprV_abs p f k
 rw [h] at this
 omega
theorem Lat.upr {w m:Nat} {B:Nat→Vc} {v:Vc} (p:Nat) (h:Lat w m B v):Lat w m B (uprV p v):=by
 rcases uprV_or p v with e | e
 ·exact h.congr fun k _=>e k
 ·exact (Lat.lin (-1) 0 h h).congr fun k _=>by rw [e k]; omega
theorem Lat.ofupr {w m:Nat} {B:Nat→Vc} {v:Vc} {p:Nat} (h:Lat w m B (uprV p v)):Lat w m B v:=by
 rcases uprV_or p v with e | e
 ·exact h.congr fun k _=>(e k).symm
 ·exact (Lat.lin (-1) 0 h h).congr fun k _=>by rw [e k]; omega
structure Lad (w:Nat) (R:Nat→Vc) (m:Nat) (D:Nat→Vc):Prop where
 ech:Ech w D
 stl:Stl w D
 la:∀ i,i<m→Lat w w D (R i)
 al:∀ q,q<w→Lat w m R (D q)
def Leads (w:Nat) (R:Nat→Vc) (m p:Nat):Prop:=∃ u,Lat w m R u∧(∀ k,k<p→u k=0)∧u p≠0
structure Tame (w:Nat) (R:Nat→Vc) (m:Nat):Prop where
 pv:∀ p,p<w→Leads w R m p→∃ u,Lat w m R u∧(∀ k,k<p→u k=0)∧u p≠0∧Bd 992 (u p)
 mb:∀ (v:Vc) (e:Nat),Lat w m R v→(∀ p,p<w→Leads w R m p→Bd e (v p))→∀ k,k<w→Bd (e+1990) (v k)
theorem piv_lt {w:Nat} {R:Nat→Vc} {m:Nat} {D:Nat→Vc} (E:Ech w D) (la:∀ i,i<m→Lat w w D (R i)) (al:∀ q,q<w→Lat w m R (D q)) (T:Tame w R m) {q:Nat} (hq:q<w):Bd 992 (D q q):=by
 by_cases e:D q q=0
 ·rw [e]; exact Bd.zero _
 ·obtain ⟨u,h1,h2,h3,h4⟩:=T.pv q hq ⟨D q,al q hq,fun k hk=>E.lo q hq k hk,e⟩
  obtain ⟨c,hc⟩:=E.lead (h1.sub la) hq h2
  refine Bd.of_le h4 ?_
  rw [hc,Int.natAbs_mul]
  have:1≤c.natAbs:=by
   rcases Nat.eq_zero_or_pos c.natAbs with z | z
   ·rw [Int.natAbs_eq_zero.mp z,Int.zero_mul] at hc; exact absurd hc h3
   ·exact z
  have:=Nat.mul_le_mul_right (D q q).natAbs this
  omega
theorem lead_has {w:Nat} {R:Nat→Vc} {m:Nat} {D:Nat→Vc} (E:Ech w D) (la:∀ i,i<m→Lat w w D (R i)) {p:Nat} (hp:p<w) (h:Leads w R m p):D p p≠0:=by
 obtain ⟨u,h1,h2,h3⟩:=h
 obtain ⟨c,hc⟩:=E.lead (h1.sub la) hp h2
 exact fun e=>h3 (by rw [hc,e,Int.mul_zero])
theorem Lad.piv {w:Nat} {R:Nat→Vc} {m:Nat} {D:Nat→Vc} (L:Lad w R m D) (T:Tame w R m) {q k:Nat} (hq:q<w) (hk:k<w) (h:D k k≠0):Bd 992 (D q k):=by
 have pk:=piv_lt L.ech L.la L.al T hk
 have nk:=L.ech.nn k hk
 rcases Nat.lt_trichotomy k q with z | z | z
 ·rw [L.ech.lo q hq k z]; exact Bd.zero _
 ·rw [z]; exact piv_lt L.ech L.la L.al T hq
 ·have:=L.stl q k z hk (by omega)
  exact Bd.of_le pk (by omega)
theorem Lad.main {w:Nat} {R:Nat→Vc} {m:Nat} {D:Nat→Vc} (L:Lad w R m D) (T:Tame w R m) {q k:Nat} (hq:q<w) (hk:k<w):Bd 2982 (D q k) :=
 T.mb (D q) 992 (L.al q hq) (fun p hp h=>L.piv T hq hp (lead_has L.ech L.la hp h)) k hk
structure Put (w:Nat) (R:Nat→Vc) (m:Nat) (ζ:Nat→Nat) (p:Nat) (D:Nat→Vc) (r:Vc):Prop where
 ech:Ech w D
 rz:∀ k,k<p→r k=0
 la:∀ i,i<m+1→Lat w (w+1) (ext w D r) (R i)
 al:∀ q,q<w→Lat w (m+1) R (D q)
 ar:Lat w (m+1) R r
 pg:∀ q k,q<w→p≤q→k<w→D k k≠0→Bd 992 (D q k)
 rp:∀ k,p≤k→k<w→D k k≠0→Bd (137+993*p) (r k)
 dz:∀ q,p≤q→q<w→∀ k,Bd (ζ k) (D q k)
 dp:∀ q,q<p→q<w→∀ k,Bd (ζ k+11199) (D q k)
 rk:∀ k,Bd (ζ k+137+993*p) (r k)
theorem ext_lt {w:Nat} {D:Nat→Vc} {r:Vc} {i:Nat} (h:i<w):ext w D r i=D i:=if_pos h
theorem ext_eq {w:Nat} {D:Nat→Vc} {r:Vc}:ext w D r w=r:=if_neg (Nat.lt_irrefl w)
theorem ext_sub {w m':Nat} {B' D:Nat→Vc} {r:Vc} (h1:∀ q,q<w→Lat w m' B' (D q)) (h2:Lat w m' B' r):∀ i,i<w+1→Lat w m' B' (ext w D r i):=fun i hi=>by
 by_cases e:i<w
 ·rw [ext_lt e]; exact h1 i e
 ·rw [show i=w by omega,ext_eq]; exact h2
theorem Put.skip {w:Nat} {R:Nat→Vc} {m:Nat} {ζ:Nat→Nat} {p:Nat} {D:Nat→Vc} {r:Vc} (h:Put w R m ζ p D r) (hr:r p=0):Put w R m ζ (p+1) D r :=
 ⟨h.ech,fun k hk=>by
  rcases Nat.lt_succ_iff_lt_or_eq.mp hk with q | q
  ·exact h.rz k q
  ·rw [q]; exact hr,
  h.la,h.al,h.ar,fun q k hq a=>h.pg q k hq (by omega),fun k a b c=>(h.rp k (by omega) b c).mono (by omega),fun q a=>h.dz q (by omega),fun q a hq k=>by
   rcases Nat.lt_succ_iff_lt_or_eq.mp a with z | z
   ·exact h.dp q z hq k
   ·exact (h.dz q (by omega) hq k).mono (by omega),
  fun k=>(h.rk k).mono (by omega)⟩
structure PutE (w:Nat) (R:Nat→Vc) (m:Nat) (ζ:Nat→Nat) (D:Nat→Vc):Prop where
 ech:Ech w D
 la:∀ i,i<m→Lat w w D (R i)
 al:∀ q,q<w→Lat w m R (D q)
 dk:∀ q,q<w→∀ k,Bd (ζ k+11199) (D q k)
theorem Put.fin {w:Nat} {R:Nat→Vc} {m:Nat} {ζ:Nat→Nat} {D:Nat→Vc} {r:Vc} (h:Put w R m ζ w D r):PutE w R (m+1) ζ D:=by
 refine ⟨h.ech,fun i hi=>(h.la i hi).sub (ext_sub (fun q hq=>Lat.gen hq) ((Lat.zero w w D).congr fun k hk=>h.rz k hk)),h.al,fun q hq k=>h.dp q hq hq k⟩
theorem Put.ins {w:Nat} {R:Nat→Vc} {m:Nat} {ζ:Nat→Nat} {p:Nat} {D:Nat→Vc} {r:Vc} (h:Put w R m ζ p D r) (w6:w≤6) (hp:p<w) (hr:r p≠0) (hd:D p p=0):PutE w R (m+1) ζ (setV D p (uprV p r)):=by
 have z:=h.ech.no p hp hd
 refine ⟨⟨fun q hq k hk=>?_,fun q hq=>?_,fun q hq e k=>?_⟩,fun i hi=>(h.la i hi).sub (ext_sub (fun q hq=>?_) ?_),fun q hq=>?_,fun q hq k=>?_⟩
 ·by_cases e:q=p
  ·subst e; rw [setD_sameV]; exact uprV_zero (h.rz k hk)
  ·rw [setD_neV e]; exact h.ech.lo q hq k hk
 ·by_cases e:q=p
  ·subst e; rw [setD_sameV]; exact Int.le_of_lt (uprV_pos hr)
  ·rw [setD_neV e]; exact h.ech.nn q hq
 ·by_cases e':q=p
  ·subst e'; rw [setD_sameV] at e; have:=uprV_pos hr; omega
  ·rw [setD_neV e'] at e ⊢; exact h.ech.no q hq e k
 ·by_cases e:q=p
  ·subst e; exact (Lat.zero w w _).congr fun k _=>z k
  ·have:=Lat.gen (w:=w) (B:=setV D p (uprV p r)) hq
   rw [setD_neV e] at this
   exact this
 ·have:=Lat.gen (w:=w) (B:=setV D p (uprV p r)) hp
  rw [setD_sameV] at this
  exact this.ofupr
 ·by_cases e:q=p
  ·subst e; rw [setD_sameV]; exact h.ar.upr q
  ·rw [setD_neV e]; exact h.al q hq
 ·by_cases e:q=p
  ·subst e; rw [setD_sameV]
   exact Bd.of_le ((h.rk k).mono (by omega)) (by rw [uprV_abs]; exact Nat.le_refl _)
  ·rw [setD_neV e]
   by_cases l:q<p
   ·exact h.dp q l hq k
   ·exact (h.dz q (by omega) hq k).mono (by omega)
theorem Put.share {w:Nat} {R:Nat→Vc} {m:Nat} {ζ:Nat→Nat} {p:Nat} {D:Nat→Vc} {r one other:Vc} (h:Put w R m ζ p D r) (w6:w≤6) (hp:p<w) (hd:D p p≠0) (E:Eu p (D p) r one other):Put w R m ζ (p+1) (setV D p (uprV p one)) other:=by
 obtain ⟨u,v,u',v',b1,b2⟩:=E.back
 obtain ⟨⟨x,y,x',y',e1,e2,det,bx,by_,bx',by'⟩,oz,nz,le⟩:=E
 have bA:=h.pg p p hp (Nat.le_refl _) hp hd
 have bB:=h.rp p (Nat.le_refl _) hp hd
 have cx:Bd (137+993*p) x:=Bd.of_le bB bx
 have cx':Bd (137+993*p) x':=Bd.of_le bB bx'
 have cy':Bd 992 y':=Bd.of_le bA by'
 have cy:Bd (137+993*p+992+2) y:=by
  show y.natAbs<_
  have a1:(D p p).natAbs<2^(137+993*p+992):=(bA.mono (by omega):Bd _ _)
  have a2:(r p).natAbs<2^(137+993*p+992):=(bB.mono (by omega):Bd _ _)
  rw [Nat.pow_add _ _ 2]
  omega
 have oneB:∀ k,Bd (ζ k+11199) (one k):=fun k=>by
  rw [e1 k]
  have t1:=cx.mul (h.dz p (Nat.le_refl _) hp k)
  have t2:=cy.mul (h.rk k)
  exact ((t1.mono (show _≤ζ k+11198 by omega)).add (t2.mono (by omega))).mono (by omega)
 have othB:∀ k,Bd (ζ k+137+993*(p+1)) (other k):=fun k=>by
  rw [e2 k]
  have t1:=cx'.mul (h.dz p (Nat.le_refl _) hp k)
  have t2:=cy'.mul (h.rk k)
  exact ((t1.mono (show _≤ζ k+137+993*p+992 by omega)).add (t2.mono (by omega))).mono (by omega)
 have lo1:Lat w (m+1) R one:=((Lat.lin x y (h.al p hp) h.ar).congr fun k _=>e1 k)
 have lo2:Lat w (m+1) R other:=((Lat.lin x' y' (h.al p hp) h.ar).congr fun k _=>e2 k)
 have G1:Lat w (w+1) (ext w (setV D p (uprV p one)) other) one:=by
  have:=Lat.gen (w:=w) (B:=ext w (setV D p (uprV p one)) other) (show p<w+1 by omega)
  rw [ext_lt hp,setD_sameV] at this
  exact this.ofupr
 have G2:Lat w (w+1) (ext w (setV D p (uprV p one)) other) other:=by
  have:=Lat.gen (w:=w) (B:=ext w (setV D p (uprV p one)) other) (show w<w+1 by omega)
  rw [ext_eq] at this
  exact this
 have one0:∀ k,k<p→one k=0:=fun k hk=>by rw [e1 k,h.ech.lo p hp k hk,h.rz k hk]; omega
 refine ⟨⟨fun q hq k hk=>?_,fun q hq=>?_,fun q hq e k=>?_⟩,fun k hk=>?_,fun i hi=>(h.la i hi).sub (ext_sub (fun q hq=>?_) ?_),fun q hq=>?_,lo2,fun q k hq pq hk nk=>?_,fun k pk hk nk=>?_,fun q pq hq k=>?_,fun q qp hq k=>?_,othB⟩
 ·by_cases e:q=p
  ·subst e; rw [setD_sameV]; exact uprV_zero (one0 k hk)
  ·rw [setD_neV e]; exact h.ech.lo q hq k hk
 ·by_cases e:q=p
  ·subst e; rw [setD_sameV]; exact Int.le_of_lt (uprV_pos nz)
  ·rw [setD_neV e]; exact h.ech.nn q hq
 ·by_cases e':q=p
  ·subst e'; rw [setD_sameV] at e; have:=uprV_pos nz; omega
  ·rw [setD_neV e'] at e ⊢; exact h.ech.no q hq e k
 ·rcases Nat.lt_succ_iff_lt_or_eq.mp hk with q | q
  ·rw [e2 k,h.ech.lo p hp k q,h.rz k q]; omega
  ·rw [q]; exact oz
 ·by_cases e:q=p
  ·subst e; exact (Lat.lin u v G1 G2).congr fun k _=>b1 k
  ·have:=Lat.gen (w:=w) (B:=ext w (setV D p (uprV p one)) other) (show q<w+1 by omega)
   rw [ext_lt hq,setD_neV e] at this
   exact this
 ·exact (Lat.lin u' v' G1 G2).congr fun k _=>b2 k
 ·by_cases e:q=p
  ·subst e; rw [setD_sameV]; exact lo1.upr q
  ·rw [setD_neV e]; exact h.al q hq
 ·rw [setD_neV (show q≠p by omega)]
  by_cases e:k=p
  ·subst e; exact h.pg q k hq (by omega) hk hd
  ·rw [setD_neV e] at nk
   exact h.pg q k hq (by omega) hk nk
 ·rw [setD_neV (show k≠p by omega)] at nk
  have t1:=cx'.mul (h.pg p k hp (Nat.le_refl _) hk nk)
  have t2:=cy'.mul (h.rp k (by omega) hk nk)
  rw [e2 k]
  exact ((t1.mono (show _≤137+993*p+992 by omega)).add (t2.mono (by omega))).mono (by omega)
 ·rw [setD_neV (show q≠p by omega)]; exact h.dz q (by omega) hq k
 ·by_cases e:q=p
  ·subst e; rw [setD_sameV]
   exact Bd.of_le (oneB k) (by rw [uprV_abs]; exact Nat.le_refl _)
  ·rw [setD_neV e]; exact h.dp q (by omega) hq k
end L2
namespace L2
theorem fdiv_le {a b:Int} (hb:0<b):(a.fdiv b).natAbs≤a.natAbs:=by
 have h1:=Int.mul_fdiv_add_fmod a b
 have h2:0≤a.fmod b:=Int.fmod_nonneg_of_pos a hb
 have h3:a.fmod b<b:=Int.fmod_lt_of_pos a hb
 generalize a.fdiv b=t at h1
 rcases Int.lt_trichotomy t 0 with z | z | z
 ·have:b*t≤1*t:=Int.mul_le_mul_of_nonpos_right (by omega) (by omega)
  have:b*t+b≤t+1:=by
   have h4:b*(t+1)≤1*(t+1):=Int.mul_le_mul_of_nonpos_right (by omega) (by omega)
   rw [Int.mul_add] at h4
   omega
  omega
 ·rw [z]; omega
 ·have:1*t≤b*t:=Int.mul_le_mul_of_nonneg_right (by omega) (by omega)
  omega
structure Sett (w:Nat) (R:Nat→Vc) (m:Nat) (ζ:Nat→Nat) (q s j t:Nat) (D:Nat→Vc):Prop where
 ech:Ech w D
 la:∀ i,i<m→Lat w w D (R i)
 al:∀ q,q<w→Lat w m R (D q)
 st:∀ a b,q<a→a<b→b<w→0<D b b→0≤D a b∧D a b<D b b
 sq:∀ b,q<b→b<j→b<w→0<D b b→0≤D q b∧D q b<D b b
 old:∀ a,a<q→a<w→∀ k,Bd (ζ k+11199) (D a k)
 new:∀ a,q<a→a<w→∀ k,Bd (ζ k+11199+s*19152) (D a k)
 own:∀ k,Bd (ζ k+11199+s*19152+19147+t) (D q k)
 ow0:t=0→∀ k,Bd (ζ k+11199) (D q k)
 owm:∀ k,k<w→D k k≠0→Bd (14181+993*t) (D q k)
theorem Sett.sub {w:Nat} {R:Nat→Vc} {m:Nat} {ζ:Nat→Nat} {q s j t:Nat} {D:Nat→Vc} (T:Tame w R m) (zm:∀ k,k<w→ζ k=2982) (h:Sett w R m ζ q s j t D) (t5:t<5) (hq:q<w) (qj:q<j) (hj:j<w) (hd:D j j≠0):Sett w R m ζ q s (j+1) (t+1) (setV D q (woV j (D q) (D j))):=by
 have pj:0<D j j:=by have:=h.ech.nn j hj; omega
 have jq:j≠q:=by omega
 have bq:=h.owm j hj hd
 have bc:Bd (14181+993*t) ((D q j).fdiv (D j j)):=Bd.of_le bq (fdiv_le pj)
 have lo:∀ k,k<j→woV j (D q) (D j) k=D q k:=fun k hk=>by
  show D q k-_*D j k=_
  rw [h.ech.lo j hj k hk]; omega
 have piv:∀ k,k<w→setV D q (woV j (D q) (D j)) k k=D k k:=fun k hk=>by
  by_cases e:k=q
  ·subst e; rw [setD_sameV]; exact lo k qj
  ·rw [setD_neV e]
 have gq:Lat w w (setV D q (woV j (D q) (D j))) (D q):=by
  have g1:=Lat.gen (w:=w) (B:=setV D q (woV j (D q) (D j))) hq
  have g2:=Lat.gen (w:=w) (B:=setV D q (woV j (D q) (D j))) hj
  rw [setD_sameV] at g1
  rw [setD_neV jq] at g2
  refine (Lat.lin 1 ((D q j).fdiv (D j j)) g1 g2).congr fun k _=>?_
  show D q k=1*(D q k-(D q j).fdiv (D j j)*D j k)+_
  omega
 have sgt:∀ k,woV j (D q) (D j) k=D q k + -((D q j).fdiv (D j j))*D j k:=fun k=>by
  show D q k-_=_
  rw [Int.neg_mul]; omega
 refine ⟨⟨fun a ha k hk=>?_,fun a ha=>?_,fun a ha e k=>?_⟩,fun i hi=>(h.la i hi).sub fun a ha=>?_,fun a ha=>?_,fun a b qa ab hb pb=>?_,fun b qb bj hb pb=>?_,fun a aq ha k=>?_,fun a qa ha k=>?_,fun k=>?_,fun z=>?_,fun k hk nk=>?_⟩
 ·by_cases e:a=q
  ·subst e; rw [setD_sameV,lo k (by omega)]; exact h.ech.lo a ha k hk
  ·rw [setD_neV e]; exact h.ech.lo a ha k hk
 ·rw [piv a ha]; exact h.ech.nn a ha
 ·rw [piv a ha] at e
  by_cases e':a=q
  ·subst e'
   have z:=h.ech.no a ha e
   rw [setD_sameV]
   show D a k-(D a j).fdiv (D j j)*D j k=0
   rw [z k,z j,Int.zero_fdiv]; omega
  ·rw [setD_neV e']; exact h.ech.no a ha e k
 ·by_cases e:a=q
  ·subst e; exact gq
  ·have:=Lat.gen (w:=w) (B:=setV D q (woV j (D q) (D j))) ha
   rw [setD_neV e] at this
   exact this
 ·by_cases e:a=q
  ·subst e; rw [setD_sameV]
   exact (Lat.lin 1 (-((D a j).fdiv (D j j))) (h.al a ha) (h.al j hj)).congr fun k _=>by rw [sgt k]; omega
  ·rw [setD_neV e]; exact h.al a ha
 ·rw [piv b hb] at pb ⊢
  rw [setD_neV (show a≠q by omega)]
  exact h.st a b qa ab hb pb
 ·rw [piv b hb] at pb ⊢
  rw [setD_sameV]
  rcases Nat.lt_succ_iff_lt_or_eq.mp bj with z | z
  ·rw [lo b z]; exact h.sq b qb z hb pb
  ·subst z
   have h1:=Int.mul_fdiv_add_fmod (D q b) (D b b)
   have e:woV b (D q) (D b) b=(D q b).fmod (D b b):=by
    show D q b-(D q b).fdiv (D b b)*D b b=_
    rw [Int.mul_comm ((D q b).fdiv _)]; omega
   rw [e]
   exact ⟨Int.fmod_nonneg_of_pos _ pb,Int.fmod_lt_of_pos _ pb⟩
 ·rw [setD_neV (show a≠q by omega)]; exact h.old a aq ha k
 ·rw [setD_neV (show a≠q by omega)]; exact h.new a qa ha k
 ·rw [setD_sameV,sgt k]
  have t1:=bc.neg.mul (h.new j qj hj k)
  exact ((h.own k).add (t1.mono (by omega))).mono (by omega)
 ·omega
 ·rw [piv k hk] at nk
  rw [setD_sameV,sgt k]
  have pk:=piv_lt h.ech h.la h.al T hk
  have nn:=h.ech.nn k hk
  have bj:Bd 992 (D j k):=by
   rcases Nat.lt_trichotomy k j with z | z | z
   ·rw [h.ech.lo j hj k z]; exact Bd.zero _
   ·rw [z]; exact piv_lt h.ech h.la h.al T hj
   ·have:=h.st j k qj z hk (by omega)
    exact Bd.of_le pk (by omega)
  have t1:=bc.neg.mul bj
  exact (((h.owm k hk nk).mono (show _≤14181+993*t+992 by omega)).add (t1.mono (by omega))).mono (by omega)
theorem Sett.pass {w:Nat} {R:Nat→Vc} {m:Nat} {ζ:Nat→Nat} {q s j t:Nat} {D:Nat→Vc} (h:Sett w R m ζ q s j t D) (hd:¬ (q<j∧j<w∧D j j≠0)):Sett w R m ζ q s (j+1) t D :=
 ⟨h.ech,h.la,h.al,h.st,fun b qb bj hb pb=>by
  rcases Nat.lt_succ_iff_lt_or_eq.mp bj with z | z
  ·exact h.sq b qb z hb pb
  ·subst z; exact absurd ⟨qb,hb,by omega⟩ hd,h.old,h.new,h.own,h.ow0,h.owm⟩
end L2
namespace L2
open PySem PySem.Spec PyProof.Rows SeqAt
def Itv (K:PySem.W.Frag) (a:Addr) (xs:List V):It :=
 ⟨fun i H=>SqL K H a xs∧i<xs.length,fun i H x H'=>H'=H∧xs.reverse[i]?=some x,fun i H=>SqL K H a xs∧xs.length≤i⟩
theorem turn_rev {P:Program} {w:World} {K:PySem.W.Frag} {tg:Expr} (a it:Addr) (xs:List V):Turn P w K tg (Itv K a xs) [it] it (fun i h=>i≤xs.length∧h.IsRevIter it a ((xs.length:Int)-1-(i:Int))) where
 mem:=by simp
 obj:=fun i h st b hb=>by
  have e:b=it:=by simpa using hb
  subst e
  obtain ⟨_,o,e,c,d⟩:=st
  exact ⟨o,e,fun v z=>by rw [d] at z; cases z⟩
 keep:=fun i h h' st k=>⟨st.1,st.2.at fun o e=>k it (by simp) o e⟩
 item:=by
  intro X hP hw hK hc i pins s σ H E I hf st hg
  subst hP hw hK
  obtain ⟨hq,hi⟩:=hg
  obtain ⟨its,rv,p,hz⟩:=I.list hq
  have hl:=rv.length
  obtain ⟨f0,f1,f2,f3,f4,f5⟩:=hf it (by simp)
  obtain ⟨_,st⟩:=st
  have e:(xs.length:Int)-1-(i:Int)=((xs.length-1-i:Nat):Int):=by omega
  rw [e] at st
  have hx:xs[xs.length-1-i]?=some (xs[xs.length-1-i]'(by omega)):=List.getElem?_eq_getElem (by omega)
  obtain ⟨u,hu,ru⟩:=rv.get hx
  refine wpAny_pyNext_rev_item st p.isList (x:=u) (by simpa using hu) fun h' st' sb=>?_
  have I1:Inv X pins σ H { s with heap:=h' }:=I.turned (t':=s.toks) (fun b o hb e=>(sb.2 b hb).trans e) f0 f1 f3 f4 f5
  have e2:((xs.length-1-i:Nat):Int)-1=(xs.length:Int)-1-((i+1:Nat):Int):=by omega
  rw [e2] at st'
  obtain ⟨o,e,c,d⟩:=id st'
  exact ⟨u,rfl,go_of (s:={ s with heap:=h' }) e c d (by decide) ⟨_,H,I1,ru,⟨rfl,by rw [List.getElem?_reverse hi]; exact hx⟩,⟨hi,st'⟩,fun b hb=>(hf b hb).1⟩⟩
 done:=by
  intro X hP hw hK hc i pins s σ H E I hf st hg
  subst hP hw hK
  obtain ⟨hq,hx⟩:=hg
  obtain ⟨f0,f1,f2,f3,f4,f5⟩:=hf it (by simp)
  obtain ⟨hle,st⟩:=st
  have e:(xs.length:Int)-1-(i:Int) = -1:=by omega
  rw [e] at st
  exact wpAny_pyNext_rev_end (I.ok.hd hc) st fun h' eb=>⟨rfl,I.turned (t':=s.toks) (fun b o hb e=>eb b o hb e) f0 f1 f3 f4 f5⟩
 self:=fun _ _ _ _ _ st h=>wpAny_pyIter_revIter st.2 h
section
variable {X:Cx}
def iRev (K:PySem.W.Frag) (ta:TA):TI:=fun σ H R=>ta σ H fun vs H1=>∃ a xs,vs=[.ref a]∧SqL K H1 a xs∧R (Itv K a xs) H1
theorem pi_rev {tg ea:Expr} {ta:TA} {p pos:Pos} (hg:Gl X "reversed") (hm:X.mg "reversed" = none) (ha:PA X [ea] ta) (hs:starEach [ea] X.env=[(false,eval ea X.env)]:=by rfl) :
  PI X tg (.Call (.Name "reversed" p) [ea] [] pos) (iRev X.K ta):=by
 intro pins s σ H R I h
 refine Call_ (ld_blt I hg hm (by rfl:bootBuiltins "reversed" = some (.type "reversed")) (PyProof.Rows.callWith_type1 (thn (ha pos pins s σ H _ I h) fun us s1 ⟨vs,H1,I1,r1,q1⟩=>?_) hs rfl))
 obtain ⟨a,xs,e,qa,q⟩:=q1
 subst e
 cases r1 with
 | cons r rr =>
  cases rr
  cases r
  obtain ⟨its1,rv1,p1,z1⟩:=I1.list qa
  have hl:=rv1.length
  refine call_reversed_list p1.isList ?_
  have hit:(s1.heap.push (revObj a ((its1.toArray.size:Int)-1))).IsRevIter s1.heap.objs.size a ((xs.length:Int)-1-((0:Nat):Int)):=by
   refine ⟨_,Heap.get?_push_size _ rfl,rfl,?_⟩
   have e:((its1.toArray.size:Nat):Int)-1=(xs.length:Int)-1-((0:Nat):Int):=by rw [List.size_toArray]; omega
   unfold revObj
   rw [e]
  refine wpAny_pyIter_revIter (s:={ s1 with heap:=s1.heap.push (revObj a ((its1.toArray.size:Int)-1)) }) hit ?_
  refine ⟨s1.heap.objs.size,[s1.heap.objs.size],_,_,H1,rfl,I1.kept (t':=s1.toks) fun b o e=>Heap.get?_push_of_some _ e,turn_rev a _ xs,⟨Nat.zero_le _,hit⟩,fun b hb=>?_,q⟩
  have e:b=s1.heap.objs.size:=by simpa using hb
  subst e
  exact I1.fpOk (Nat.le_refl _) (I1.hok.fresh (Nat.le_refl _))
end
theorem for_rev {K:PySem.W.Frag} {a:Addr} {xs:List V} {g:TG} {tb:TS} {D:Ends} {σ:St} {H:Hp} (Pv:Nat→St→Hp→Prop) (h0:Pv 0 σ H) (hl:∀ i σ H,i≤xs.length→Pv i σ H→SqL K H a xs)
  (hs:∀ i x σ H,xs.reverse[i]?=some x→Pv i σ H→g x σ H fun σ2 H2=>tb { D with nx:=Pv (i+1),ct:=Pv (i+1),bk:=D.nx } σ2 H2) (hd:∀ σ H,Pv xs.length σ H→D.nx σ H) :
  ∃ W:Nat→Nat→St→Hp→Prop,(∃ m,W 0 m σ H)∧∀ i m σ H,W i m σ H →
   ((Itv K a xs).stop i H∧D.nx σ H)∨((Itv K a xs).go i H∧∃ N:St→Hp→Prop,(∀ σ' H',N σ' H'→∃ m',m'<m∧W (i+1) m' σ' H')∧∀ x H',(Itv K a xs).yld i H x H'→g x σ H' fun σ2 H2=>tb { D with nx:=N,ct:=N,bk:=D.nx } σ2 H2):=by
 refine ⟨fun i m σ H=>m=xs.length-i∧i≤xs.length∧Pv i σ H,⟨xs.length,by simp,Nat.zero_le _,h0⟩,?_⟩
 rintro i m σ H ⟨rfl,hi,p⟩
 have qa:=hl i σ H hi p
 by_cases hlt:i<xs.length
 ·refine .inr ⟨⟨qa,hlt⟩,Pv (i+1),fun σ' H' p'=>⟨xs.length-(i+1),by omega,rfl,hlt,p'⟩,fun v H' y=>?_⟩
  obtain ⟨e,hx⟩:=y
  subst e
  exact hs i v σ _ hx p
 ·have e:i=xs.length:=by omega
  subst e
  exact .inl ⟨⟨qa,Nat.le_refl _⟩,hd σ H p⟩
section
variable {X:Cx}
end
def sub (xs ys:List Int):List Int:=List.zipWith (fun i j=>i-j) xs ys
theorem sub_len {xs ys:List Int} {z:Nat} (h1:xs.length=z) (h2:ys.length=z):(sub xs ys).length=z:=by unfold sub; rw [List.length_zipWith,h1,h2,Nat.min_self]
theorem zip_at (f:Int→Int→Int) {xs ys:List Int} {i:Nat} (h1:i<xs.length) (h2:i<ys.length):(List.zipWith f xs ys).getD i 0=f (xs.getD i 0) (ys.getD i 0):=by
 simp [List.getD_eq_getElem?_getD,List.getElem?_zipWith,List.getElem?_eq_getElem h1,List.getElem?_eq_getElem h2]
theorem sub_at {xs ys:List Int} {z i:Nat} (h1:xs.length=z) (h2:ys.length=z) (h:i<z):(sub xs ys).getD i 0=xs.getD i 0-ys.getD i 0:=zip_at _ (by omega) (by omega)
def Wd (z:Nat) (rs:List (List Int)):Prop:=∀ r∈rs,r.length=z
theorem getDm {rs:List (List Int)} {d:Nat} (h:d<rs.length):rs.getD d []∈rs:=by
 rw [List.getD_eq_getElem?_getD,List.getElem?_eq_getElem h]
 exact List.getElem_mem h
theorem Wd.at {z:Nat} {rs:List (List Int)} (w:Wd z rs) {d:Nat} (h:d<rs.length):(rs.getD d []).length=z:=w _ (getDm h)
theorem cut_take (xs:List V) (k:Nat):cutV xs none (some (k:Int))=xs.take k:=by
 unfold cutV
 rw [HT.sIx_none,HT.sIx_nat,List.drop_zero,Nat.sub_zero]
 by_cases h:k≤xs.length
 ·rw [Nat.min_eq_left h]
 ·rw [Nat.min_eq_right (by omega),List.take_of_length_le (Nat.le_refl _),List.take_of_length_le (by omega)]
theorem rep_flat (k:Nat):(List.replicate k [V.int 0]).flatten=vints (List.replicate k 0):=by
 induction k with
 | zero=>rfl
 | succ k ih=>rw [List.replicate_succ,List.flatten_cons,ih,List.replicate_succ]; rfl
theorem wd_of {z:Nat} {rs:List (List Int)} (h:∀ r∈rs,okBag z r):Wd z rs:=fun r hr=>(h r hr).1
theorem getDr {rs:List (List Int)} {d:Nat} (h:d<rs.length):rs.getD d []=rs[d]:=by
 rw [List.getD_eq_getElem?_getD,List.getElem?_eq_getElem h]
 rfl
abbrev zs (ds:List Nat):List Int:=ds.map fun n:Nat=>(n:Int)
theorem zs_get {ds:List Nat} {i:Nat} {x:V} (h:(vints (zs ds))[i]?=some x):∃ n:Nat,ds[i]?=some n∧x=V.int (n:Int):=by
 rw [List.getElem?_map,List.getElem?_map] at h
 cases e:ds[i]? with
 | none=>rw [e] at h; cases h
 | some n=>rw [e] at h; exact ⟨n,rfl,(Option.some.inj h).symm⟩
theorem zs_len (ds:List Nat):(zs ds).length=ds.length:=List.length_map ..
end L2
namespace L2
open PySem PySem.Spec PyProof.Rows
theorem size6 (c:Int):∃ z:Nat,1+c%6=(z:Int)∧1≤z∧z≤6:=by
 have h1:0≤c%6:=Int.emod_nonneg _ (by decide)
 have h2:c%6<6:=Int.emod_lt_of_pos _ (by decide)
 exact ⟨(1+c%6).toNat,by omega,by omega,by omega⟩
theorem size9 (c:Int):∃ z:Nat,c%9=(z:Int)∧z≤8:=by
 have h1:0≤c%9:=Int.emod_nonneg _ (by decide)
 have h2:c%9<9:=Int.emod_lt_of_pos _ (by decide)
 exact ⟨(c%9).toNat,by omega,by omega⟩
theorem ixN_nat {n i:Nat} (h:i<n):ixN n (i:Int)=some i:=by
 unfold ixN
 rw [if_pos (by omega),if_pos (by omega),Int.toNat_natCast]
theorem set_ints (ns:List Int) (i:Nat) (v:Int):(vints ns).set i (V.int v)=vints (ns.set i v):=by rw [vints,vints,List.map_set]
end L2
namespace L2
open PySem PySem.Spec PyProof.Rows
end L2
namespace L2
open PySem PySem.Spec PyProof.Rows SeqAt
theorem comp_ints {te:Blk→TE} {H1:Hp} {Z:List V→Hp→Prop} {lo:Int} {n:Nat} {τ:St} (P:Int→Prop) (hn:n<sizeLine)
  (hs:∀ B i H,i<n→Same H1 H→∀ Q':VK,(∀ m H2,P m→Same H H2→Q' (.int m) H2)→te B (some (.int (lo+i))::τ) H Q')
  (hd:∀ ns H2,Same H1 H2→ns.length=n→(∀ m∈ns,P m)→Z (vints ns) H2) :
  ∃ W:Nat→Nat→List V→St→Hp→Prop,(∃ m,W 0 m [] (none::τ) H1)∧∀ B:Blk,CompW (Itr lo n) (gName 0) tTrue (te B) W Z:=by
 refine comp_rangeP (g:=fun _=>gName 0) (tt:=fun _=>tTrue) (fun i ys σ H=>∃ (v:Option V) (ns:List Int),σ=v::τ∧Same H1 H∧ys=vints ns∧ns.length=i∧∀ m∈ns,P m) ⟨none,[],rfl,Same.refl _,rfl,rfl,fun m hm=>nomatch hm⟩ ?_ ?_ ?_
 ·rintro i ys σ H hi ⟨v,ns,rfl,S,rfl,e,_⟩
  rw [ints_len,e]; omega
 ·rintro B i ys σ H hi ⟨v,ns,rfl,S,rfl,e,hp⟩
  try dsimp only [gName,tTrue]
  rw [if_pos rfl]
  refine hs B i H hi S _ fun m H2 pm S2=>⟨_,ns++[m],rfl,S.trans S2,(vints_snoc _ _).symm,by rw [List.length_append,e]; rfl,fun k hk=>?_⟩
  rcases List.mem_append.mp hk with q | q
  ·exact hp k q
  ·rw [List.mem_singleton.mp q]; exact pm
 ·rintro ys σ H ⟨v,ns,rfl,S,rfl,e,hp⟩
  exact hd ns H S e hp
section
variable {X:Cx}
end
theorem at_in {P:Int→Prop} {xs:List Int} {z i:Nat} (hx:xs.length=z) (hi:i<z) (h:∀ x∈xs,P x):P (xs.getD i 0):=by
 subst hx
 rw [getD_at hi]
 exact h _ (List.getElem_mem hi)
end L2
namespace L2
open PySem PySem.Spec PyProof.Rows
theorem at_zs {xs:List Int} {b:Nat} (h:b<xs.length):atI (vints xs) ((b:Nat):Int)=some (V.int (xs.getD b 0)):=by
 rw [ints_at h,getD_at h]
end L2
namespace L2
open PySem PySem.Spec PyProof.Rows
end L2
namespace L2
open PySem PySem.Spec PyProof.Rows
section
variable {prog:Program} {w:World} {A:Around} {E:Value→Shared→Prop} {s:Shared}
end
section
variable {X:Cx}
end
end L2
namespace L2
open PySem PySem.Spec PyProof.Rows
theorem ext_at {xs ys:List Int} {z:Nat} (h1:xs.length=z) (h2:ys.length=z) (h:∀ k,k<z→xs.getD k 0=ys.getD k 0):xs=ys:=by
 refine List.ext_getElem (by omega) fun i hi hj=>?_
 have:=h i (by omega)
 rwa [getD_at hi,getD_at hj] at this
theorem set_at {xs:List Int} {k:Nat} {v:Int} (h:k<xs.length):(xs.set k v).getD k 0=v:=by
 rw [List.getD_eq_getElem?_getD,List.getElem?_set_self h]
 rfl
theorem set_ne {xs:List Int} {k j:Nat} {v:Int} (h:k≠j):(xs.set k v).getD j 0=xs.getD j 0:=by
 rw [List.getD_eq_getElem?_getD,List.getElem?_set_ne h,← List.getD_eq_getElem?_getD]
theorem map_at {f:Int→Int} {xs:List Int} {k:Nat} (h:k<xs.length):(xs.map f).getD k 0=f (xs.getD k 0):=by
 rw [List.getD_eq_getElem?_getD,List.getElem?_map,List.getElem?_eq_getElem h,getD_at h]
 rfl
theorem sub_abs {xs ys:List Int} {z:Nat} (h1:xs.length=z) (h2:ys.length=z) (b1:∀ x∈xs,0≤x∧x≤1000000000) (b2:∀ x∈ys,0≤x∧x≤1000000000):∀ y∈sub xs ys,y.natAbs≤1000000000:=fun y hy=>by
 obtain ⟨i,hi,rfl⟩:=List.mem_iff_getElem.mp hy
 unfold sub at hi ⊢
 rw [List.length_zipWith] at hi
 rw [List.getElem_zipWith]
 have a1:=b1 _ (List.getElem_mem (show i<xs.length by omega))
 have a2:=b2 _ (List.getElem_mem (show i<ys.length by omega))
 omega
end L2
namespace L2
open PySem PySem.Spec PyProof.Rows
section
variable {prog:Program} {w:World} {A:Around} {R:Result→Shared→Prop} {I S:Addr} {fp wr:List Addr} {n:Nat} {P:Nat→Value→Prop} {St:Nat→Heap→Prop}
end
section
variable {X:Cx} {p pos kp:Pos} {e e2:Expr} {t tk:TA}
end
end L2
namespace L2
open PySem PySem.Spec PyProof.Rows SeqAt
theorem comp_at {te:Blk→TE} {H1:Hp} {Z:List V→Hp→Prop} {lo:Int} {n:Nat} {τ:St} (f:Nat→Int) (hn:n<sizeLine)
  (hs:∀ B i H,i<n→Same H1 H→∀ Q':VK,(∀ H2,Same H H2→Q' (.int (f i)) H2)→te B (some (.int (lo+i))::τ) H Q')
  (hd:∀ H2,Same H1 H2→Z (vints ((List.range n).map f)) H2) :
  ∃ W:Nat→Nat→List V→St→Hp→Prop,(∃ m,W 0 m [] (none::τ) H1)∧∀ B:Blk,CompW (Itr lo n) (gName 0) tTrue (te B) W Z:=by
 refine comp_rangeP (g:=fun _=>gName 0) (tt:=fun _=>tTrue) (fun i ys σ H=>∃ v:Option V,σ=v::τ∧Same H1 H∧ys=vints ((List.range i).map f)) ⟨none,rfl,Same.refl _,rfl⟩ ?_ ?_ ?_
 ·rintro i ys σ H hi ⟨v,rfl,S,rfl⟩
  rw [ints_len,List.length_map,List.length_range]; omega
 ·rintro B i ys σ H hi ⟨v,rfl,S,rfl⟩
  try dsimp only [gName,tTrue]
  rw [if_pos rfl]
  refine hs B i H hi S _ fun H2 S2=>⟨_,rfl,S.trans S2,?_⟩
  rw [List.range_succ,List.map_append]
  exact (vints_snoc _ _).symm
 ·rintro ys σ H ⟨v,rfl,S,rfl⟩
  exact hd H S
theorem comp_rowsAt {te:Blk→TE} {H1:Hp} {Z:List V→Hp→Prop} {lo:Int} {n:Nat} {τ:St} (f:Nat→List Int) (hn:n<sizeLine)
  (hs:∀ B i H,i<n→Same H1 H→∀ Q':VK,(∀ q H2,H q=none→Same H H2→H2 q=some (.lst (vints (f i)))→Q' (.ref q) H2)→te B (some (.int (lo+i))::τ) H Q')
  (hd:∀ as H2,Same H1 H2→Rows H2 as ((List.range n).map f)→(∀ b∈as,H1 b=none)→Z (as.map V.ref) H2) :
  ∃ W:Nat→Nat→List V→St→Hp→Prop,(∃ m,W 0 m [] (none::τ) H1)∧∀ B:Blk,CompW (Itr lo n) (gName 0) tTrue (te B) W Z:=by
 refine comp_rangeP (g:=fun _=>gName 0) (tt:=fun _=>tTrue) (fun i ys σ H=>∃ (v:Option V) (as:List Addr),σ=v::τ∧Same H1 H∧ys=as.map V.ref∧Rows H as ((List.range i).map f)∧∀ b∈as,H1 b=none) ⟨none,[],rfl,Same.refl _,rfl,.nil,fun b hb=>nomatch hb⟩ ?_ ?_ ?_
 ·rintro i ys σ H hi ⟨v,as,rfl,S,rfl,R,_⟩
  rw [List.length_map,R.length,List.length_map,List.length_range]; omega
 ·rintro B i ys σ H hi ⟨v,as,rfl,S,rfl,R,fr⟩
  try dsimp only [gName,tTrue]
  rw [if_pos rfl]
  refine hs B i H hi S _ fun q H2 nq S2 hq=>⟨_,as++[q],rfl,S.trans S2,(vrefs_snoc _ _).symm,?_,fun b hb=>?_⟩
  ·rw [List.range_succ,List.map_append]
   exact (R.same S2).snoc hq
  ·rcases List.mem_append.mp hb with w | w
   ·exact fr b w
   ·rw [List.mem_singleton.mp w]; exact S.free nq
 ·rintro ys σ H ⟨v,as,rfl,S,rfl,R,fr⟩
  exact hd as H S R fr
theorem comp_rowsOf {K:PySem.W.Frag} {te:Blk→TE} {H1:Hp} {Z:List V→Hp→Prop} {a:Addr} {ss:List Addr} {τ:St} (f:Nat→List Int) (ha:SqL K H1 a (ss.map V.ref)) (hn:ss.length<sizeLine)
  (hs:∀ B i s H,ss[i]?=some s→Same H1 H→∀ Q':VK,(∀ q H2,H q=none→Same H H2→H2 q=some (.lst (vints (f i)))→Q' (.ref q) H2)→te B (some (.ref s)::τ) H Q')
  (hd:∀ as H2,Same H1 H2→Rows H2 as ((List.range ss.length).map f)→(∀ b∈as,H1 b=none)→Z (as.map V.ref) H2) :
  ∃ W:Nat→Nat→List V→St→Hp→Prop,(∃ m,W 0 m [] (none::τ) H1)∧∀ B:Blk,CompW (Itl K a) (gName 0) tTrue (te B) W Z:=by
 refine comp_listP (g:=fun _=>gName 0) (tt:=fun _=>tTrue) (K:=K) (a:=a) (xs:=ss.map V.ref) (fun i ys σ H=>∃ (v:Option V) (as:List Addr),σ=v::τ∧Same H1 H∧ys=as.map V.ref∧Rows H as ((List.range i).map f)∧∀ b∈as,H1 b=none) ⟨none,[],rfl,Same.refl _,rfl,.nil,fun b hb=>nomatch hb⟩ ?_ ?_ ?_
 ·rintro i ys σ H hi ⟨v,as,rfl,S,rfl,R,_⟩
  rw [List.length_map] at hi
  refine ⟨S.seq ha,?_⟩
  rw [List.length_map,R.length,List.length_map,List.length_range]; omega
 ·rintro B i x ys σ H hx ⟨v,as,rfl,S,rfl,R,fr⟩
  obtain ⟨s,hs1,rfl⟩:=refs_get hx
  try dsimp only [gName,tTrue]
  rw [if_pos rfl]
  refine hs B i s H hs1 S _ fun q H2 nq S2 hq=>⟨_,as++[q],rfl,S.trans S2,(vrefs_snoc _ _).symm,?_,fun b hb=>?_⟩
  ·rw [List.range_succ,List.map_append]
   exact (R.same S2).snoc hq
  ·rcases List.mem_append.mp hb with w | w
   ·exact fr b w
   ·rw [List.mem_singleton.mp w]; exact S.free nq
 ·rintro ys σ H ⟨v,as,rfl,S,rfl,R,fr⟩
  rw [List.length_map] at R
  exact hd as H S R fr
theorem comp_mapI {K:PySem.W.Frag} {te:Blk→TE} {H1:Hp} {Z:List V→Hp→Prop} {a:Addr} {xs:List Int} {τ:St} (f:Int→Int) (ha:SqL K H1 a (vints xs)) (hn:xs.length<sizeLine)
  (hs:∀ B x H,x∈xs→Same H1 H→∀ Q':VK,(∀ H2,Same H H2→Q' (.int (f x)) H2)→te B (some (.int x)::τ) H Q')
  (hd:∀ H2,Same H1 H2→Z (vints (xs.map f)) H2) :
  ∃ W:Nat→Nat→List V→St→Hp→Prop,(∃ m,W 0 m [] (none::τ) H1)∧∀ B:Blk,CompW (Itl K a) (gName 0) tTrue (te B) W Z:=by
 refine comp_listP (g:=fun _=>gName 0) (tt:=fun _=>tTrue) (K:=K) (a:=a) (xs:=vints xs) (fun i ys σ H=>∃ v:Option V,σ=v::τ∧Same H1 H∧ys=vints ((xs.take i).map f)) ⟨none,rfl,Same.refl _,rfl⟩ ?_ ?_ ?_
 ·rintro i ys σ H hi ⟨v,rfl,S,rfl⟩
  refine ⟨S.seq ha,?_⟩
  rw [ints_len,List.length_map,List.length_take]; omega
 ·rintro B i x ys σ H hx ⟨v,rfl,S,rfl⟩
  obtain ⟨n,hn1,rfl⟩:=ints_get hx
  try dsimp only [gName,tTrue]
  rw [if_pos rfl]
  refine hs B n H (List.mem_of_getElem? hn1) S _ fun H2 S2=>⟨_,rfl,S.trans S2,?_⟩
  rw [List.take_add_one,hn1,Option.toList_some,List.map_append]
  exact (vints_snoc _ _).symm
 ·rintro ys σ H ⟨v,rfl,S,rfl⟩
  rw [ints_len,List.take_length]
  exact hd H S
end L2
namespace L2
open PySem PySem.Spec PyProof.Rows SeqAt
structure PlanP (H:Hp) (p pt pg pf:Addr) (ts gs:List Addr) (tk gv:List (List Int)) (fs:List Int):Prop where
 top:H p=some (.lst [.ref pt,.ref pg,.ref pf])
 ht:H pt=some (.lst (ts.map V.ref))
 tr:Rows H ts tk
 hg:H pg=some (.lst (gs.map V.ref))
 gr:Rows H gs gv
 hf:H pf=some (.lst (vints fs))
theorem PlanP.same {H H':Hp} {p pt pg pf:Addr} {ts gs:List Addr} {tk gv:List (List Int)} {fs:List Int} (P:PlanP H p pt pg pf ts gs tk gv fs) (S:Same H H'):PlanP H' p pt pg pf ts gs tk gv fs :=
 ⟨S _ _ P.top,S _ _ P.ht,P.tr.same S,S _ _ P.hg,P.gr.same S,S _ _ P.hf⟩
structure OkP (z:Nat) (tk gv:List (List Int)) (fs:List Int):Prop where
 z1:1≤z
 z6:z≤6
 t8:tk.length≤8
 gl:gv.length=tk.length
 tk:∀ r∈tk,okBag z r
 gv:∀ r∈gv,okBag z r
 fs:okBag z fs
def sixB:List Str:=[Str.ofString "ba",Str.ofString "bb",Str.ofString "bc",Str.ofString "bd",Str.ofString "be",Str.ofString "bf"]
abbrev vsixB:List V:=[V.str (Str.ofString "ba"),V.str (Str.ofString "bb"),V.str (Str.ofString "bc"),V.str (Str.ofString "bd"),V.str (Str.ofString "be"),V.str (Str.ofString "bf")]
def eitD:List Str:=[Str.ofString "da",Str.ofString "db",Str.ofString "dc",Str.ofString "dd",Str.ofString "de",Str.ofString "df",Str.ofString "dg",Str.ofString "dh"]
abbrev veitD:List V:=[V.str (Str.ofString "da"),V.str (Str.ofString "db"),V.str (Str.ofString "dc"),V.str (Str.ofString "dd"),V.str (Str.ofString "de"),V.str (Str.ofString "df"),V.str (Str.ofString "dg"),V.str (Str.ofString "dh")]
theorem sixB_ok:∀ y∈sixB,okName y=true:=by decide +kernel
theorem sixB_nd:sixB.Nodup:=by decide +kernel
theorem eitD_ok:∀ y∈eitD,okName y=true:=by decide +kernel
theorem eitD_nd:eitD.Nodup:=by decide +kernel
theorem cut_sixB (k:Nat):cutV vsixB none (some (k:Int))=vstrs (sixB.take k):=by
 rw [cut_take,vstrs,List.map_take]
 rfl
theorem cut_eitD (k:Nat):cutV veitD none (some (k:Int))=vstrs (eitD.take k):=by
 rw [cut_take,vstrs,List.map_take]
 rfl
def netP (tk gv:List (List Int)) (fs:List Int):NetV:=⟨sixB.take fs.length,eitD.take tk.length,tk,gv,fs⟩
theorem netP_len {tk gv:List (List Int)} {fs:List Int} (h6:fs.length≤6):(netP tk gv fs).bowls.length=fs.length:=by
 show (sixB.take fs.length).length=_
 rw [List.length_take]
 have:sixB.length=6:=rfl
 omega
theorem netP_ok {z:Nat} {tk gv:List (List Int)} {fs:List Int} (o:OkP z tk gv fs):(netP tk gv fs).Ok:=by
 have fl:=o.fs.1
 have z1:=o.z1
 have z6:=o.z6
 have t8:=o.t8
 have e:(netP tk gv fs).bowls.length=z:=by rw [netP_len (by omega),fl]
 have e2:(netP tk gv fs).doors.length=tk.length:=by
  show (eitD.take tk.length).length=_
  rw [List.length_take]
  have:eitD.length=8:=rfl
  omega
 refine ⟨by omega,by omega,by omega,fun y hy=>sixB_ok y (List.mem_of_mem_take hy),fun y hy=>eitD_ok y (List.mem_of_mem_take hy),sixB_nd.sublist (List.take_sublist ..),eitD_nd.sublist (List.take_sublist ..),e2.symm,by rw [e2]; exact o.gl,?_,?_,?_⟩
 ·rw [e]; exact o.tk
 ·rw [e]; exact o.gv
 ·rw [e]; exact o.fs
def nbK (kd:Nat) (n:Int):Prop:=0≤n∧n≤1000000000∧(kd≠2→n≤3)
def okK (kd z:Nat) (r:List Int):Prop:=r.length=z∧∀ x∈r,nbK kd x
inductive Sides (H:Hp):List Addr→List (List Int)→List (List Int)→Prop
 | nil:Sides H [] [] []
 | cons {s a b:Addr} {r q:List Int} {ss:List Addr} {tk gv:List (List Int)}:H s=some (.lst [.ref a,.ref b])→H a=some (.lst (vints r))→H b=some (.lst (vints q))→Sides H ss tk gv→Sides H (s::ss) (r::tk) (q::gv)
theorem Sides.same {H H':Hp} (S:Same H H'):∀ {ss:List Addr} {tk gv:List (List Int)},Sides H ss tk gv→Sides H' ss tk gv
 | _,_,_,.nil=>.nil
 | _,_,_,.cons h1 h2 h3 h=>.cons (S _ _ h1) (S _ _ h2) (S _ _ h3) (h.same S)
theorem Sides.snoc {H:Hp} {s a b:Addr} {r q:List Int} (h1:H s=some (.lst [.ref a,.ref b])) (h2:H a=some (.lst (vints r))) (h3:H b=some (.lst (vints q))):∀ {ss:List Addr} {tk gv:List (List Int)},Sides H ss tk gv→Sides H (ss++[s]) (tk++[r]) (gv++[q])
 | _,_,_,.nil=>.cons h1 h2 h3 .nil
 | _,_,_,.cons k1 k2 k3 h=>.cons k1 k2 k3 (h.snoc h1 h2 h3)
theorem Sides.lenT {H:Hp}:∀ {ss:List Addr} {tk gv:List (List Int)},Sides H ss tk gv→ss.length=tk.length
 | _,_,_,.nil=>rfl
 | _,_,_,.cons _ _ _ h=>congrArg (· + 1) h.lenT
theorem Sides.lenG {H:Hp}:∀ {ss:List Addr} {tk gv:List (List Int)},Sides H ss tk gv→gv.length=tk.length
 | _,_,_,.nil=>rfl
 | _,_,_,.cons _ _ _ h=>congrArg (· + 1) h.lenG
theorem Sides.get {H:Hp}:∀ {ss:List Addr} {tk gv:List (List Int)} {i:Nat} {s:Addr},Sides H ss tk gv→ss[i]?=some s→∃ a b,H s=some (.lst [.ref a,.ref b])∧H a=some (.lst (vints (tk.getD i [])))∧H b=some (.lst (vints (gv.getD i [])))
 | _,_,_,0,_,.cons h1 h2 h3 _,e=>by cases e; exact ⟨_,_,h1,h2,h3⟩
 | _,_,_,i+1,_,.cons _ _ _ h,e=>h.get (i:=i) (by simpa using e)
theorem range_map {α β:Type} (d:α) (f:α→β):∀ (l:List α),(List.range l.length).map (fun i=>f (l.getD i d))=l.map f:=fun l=>by
 refine List.ext_getElem (by simp) fun i h1 h2=>?_
 have hi:i<l.length:=by simpa using h1
 rw [List.getElem_map,List.getElem_map,List.getElem_range,List.getD_eq_getElem?_getD,List.getElem?_eq_getElem hi]
 rfl
def gnP (tk gv:List (List Int)):List (List Int):=(List.range tk.length).map fun d=>sub (gv.getD d []) (tk.getD d [])
theorem gnP_len (tk gv:List (List Int)):(gnP tk gv).length=tk.length:=by unfold gnP; rw [List.length_map,List.length_range]
theorem gnP_at {tk gv:List (List Int)} {d:Nat} (h:d<tk.length):(gnP tk gv).getD d []=sub (gv.getD d []) (tk.getD d []):=by
 unfold gnP
 rw [List.getD_eq_getElem?_getD,List.getElem?_map,List.getElem?_range h]
 rfl
theorem gnP_wd {z:Nat} {tk gv:List (List Int)} (wt:Wd z tk) (wg:Wd z gv) (gl:gv.length=tk.length):∀ r∈gnP tk gv,r.length=z:=fun r hr=>by
 obtain ⟨d,hd,rfl⟩:=List.mem_map.mp hr
 have:=List.mem_range.mp hd
 exact sub_len (wg.at (by omega)) (wt.at this)
theorem wsum_at {xs ys:List Int} {z:Nat} (h1:xs.length=z) (h2:ys.length=z):((List.range z).map fun k=>xs.getD k 0*ys.getD k 0).sum=wsum xs ys:=by
 unfold wsum
 congr 1
 refine List.ext_getElem (by simp [h1,h2]) fun i hi hj=>?_
 have hi':i<z:=by simpa using hi
 rw [List.getElem_map,List.getElem_range,List.getElem_zipWith,getD_at (by omega),getD_at (by omega)]
section
variable {X:Cx}
end
end L2
namespace L2
open PySem PySem.Spec PyProof.Rows SeqAt
theorem cut_from (xs:List V) (k:Nat):cutV xs (some (k:Int)) none=xs.drop k:=by
 unfold cutV
 rw [HT.sIx_none,HT.sIx_nat]
 by_cases h:k≤xs.length
 ·rw [Nat.min_eq_left h,List.take_of_length_le (by rw [List.length_drop]; omega)]
 ·rw [Nat.min_eq_right (by omega),List.drop_eq_nil_of_le (Nat.le_refl _),List.drop_eq_nil_of_le (by omega),List.take_nil]
theorem cut_turn (tk:List Int) (k:Nat):cutV (vints tk) (some (k:Int)) none++cutV (vints tk) none (some (k:Int))=vints (tk.drop k++tk.take k):=by
 rw [cut_from,cut_take]; unfold vints; rw [List.map_append,List.map_drop,List.map_take]
theorem okK_turn {kd z:Nat} {tk:List Int} (h:okK kd z tk) (k:Nat):okK kd z (tk.drop k++tk.take k):=by
 refine ⟨by rw [List.length_append,List.length_drop,List.length_take]; have:=h.1; omega,fun x hx=>?_⟩
 rcases List.mem_append.mp hx with q | q
 ·exact h.2 x (List.mem_of_mem_drop q)
 ·exact h.2 x (List.mem_of_mem_take q)
end L2
namespace L2
open PySem PySem.Spec PyProof.Rows SeqAt
theorem comp_boolsOf {K:PySem.W.Frag} {te:Blk→TE} {H1:Hp} {Z:List V→Hp→Prop} {a:Addr} {ss:List Addr} {τ:St} (f:Nat→Bool) (ha:SqL K H1 a (ss.map V.ref)) (hn:ss.length<sizeLine)
  (hs:∀ B i s H,ss[i]?=some s→Same H1 H→∀ Q':VK,(∀ H2,Same H H2→Q' (.bl (f i)) H2)→te B (some (.ref s)::τ) H Q')
  (hd:∀ H2,Same H1 H2→Z (((List.range ss.length).map f).map V.bl) H2) :
  ∃ W:Nat→Nat→List V→St→Hp→Prop,(∃ m,W 0 m [] (none::τ) H1)∧∀ B:Blk,CompW (Itl K a) (gName 0) tTrue (te B) W Z:=by
 refine comp_listP (g:=fun _=>gName 0) (tt:=fun _=>tTrue) (K:=K) (a:=a) (xs:=ss.map V.ref) (fun i ys σ H=>∃ v:Option V,σ=v::τ∧Same H1 H∧ys=((List.range i).map f).map V.bl) ⟨none,rfl,Same.refl _,rfl⟩ ?_ ?_ ?_
 ·rintro i ys σ H hi ⟨v,rfl,S,rfl⟩
  rw [List.length_map] at hi
  refine ⟨S.seq ha,?_⟩
  rw [List.length_map,List.length_map,List.length_range]; omega
 ·rintro B i x ys σ H hx ⟨v,rfl,S,rfl⟩
  obtain ⟨s,hs1,rfl⟩:=refs_get hx
  try dsimp only [gName,tTrue]
  rw [if_pos rfl]
  refine hs B i s H hs1 S _ fun H2 S2=>⟨_,rfl,S.trans S2,?_⟩
  rw [List.range_succ,List.map_append,List.map_append]
  rfl
 ·rintro ys σ H ⟨v,rfl,S,rfl⟩
  rw [List.length_map]
  exact hd H S
theorem all_range {α:Type} (d:α) (f:α→Bool) (l:List α):(((List.range l.length).map fun i=>f (l.getD i d)).all id)=l.all f:=by
 rw [range_map d f l,List.all_map]
 rfl
end L2
namespace L2
open PySem PySem.Spec PyProof.Rows SeqAt
end L2
namespace L2
open PySem PySem.Spec PyProof.Rows SeqAt
def CMulC (i j:Int):Prop:=i.natAbs<2^8999∧j.natAbs<2^8999
theorem op_mulC {X:Cx}:OpR X (binaryOp .Mult) (rI CMulC fun i j=>.int (i*j)):=opI fun _ _ _ _ _ _ _ hc q =>
 mul_int q (.of_bits (Nat.le_trans (bits_of_lt hc.1) (by decide)) (Nat.le_trans (bits_of_lt hc.2) (by decide)))
def CDivC (i j:Int):Prop:=0<j∧j.natAbs<2^8999
theorem op_fdivC {X:Cx}:OpR X (binaryOp .FloorDiv) (rI CDivC fun i j=>.int (i/j)):=opI fun i j _ _ _ _ _ hc q=>by
 have e:i.fdiv j=i/j:=Int.fdiv_eq_ediv_of_nonneg _ (Int.le_of_lt hc.1)
 refine floordiv_int (Int.ne_of_gt hc.1) (by rw [e]; exact q) (.inl (PyProof.noPylong_of_log2 ?_))
 have hx:j.natAbs≠0:=by have:=hc.1; omega
 exact Nat.lt_of_lt_of_le ((Nat.log2_lt hx).mpr hc.2) (by decide)
theorem low_by (xs:List Int):∃ g:Int,0<g∧(gcdL xs≠0→g=(gcdL xs:Int))∧∀ j,xs.getD j 0=g*(lowL xs).getD j 0:=by
 by_cases h0:gcdL xs=0
 ·refine ⟨1,by decide,fun h=>absurd h0 h,fun j=>?_⟩
  rw [lowL,if_pos h0,Int.one_mul]
 ·refine ⟨(gcdL xs:Int),by omega,fun _=>rfl,fun j=>?_⟩
  have hb:=low_back h0
  by_cases hj:j<xs.length
  ·have hl:j<(lowL xs).length:=by rw [lowL_len]; exact hj
   conv=>lhs; rw [← hb]
   rw [map_at hl]
  ·rw [List.getD_eq_getElem?_getD,List.getD_eq_getElem?_getD,List.getElem?_eq_none (by omega),List.getElem?_eq_none (by rw [lowL_len]; omega)]
   simp
def frd (r l:List Int) (p:Nat):List Int:=lowL (sub (r.map fun y=>l.getD p 0*y) (l.map fun y=>r.getD p 0*y))
theorem frd_by {r l:List Int} {z p:Nat} (hr:r.length=z) (hl:l.length=z):∃ g:Int,0<g∧∀ j,j<z→l.getD p 0*r.getD j 0-r.getD p 0*l.getD j 0=g*(frd r l p).getD j 0:=by
 obtain ⟨g,g0,_,hg⟩:=low_by (sub (r.map fun y=>l.getD p 0*y) (l.map fun y=>r.getD p 0*y))
 refine ⟨g,g0,fun j hj=>?_⟩
 have:=hg j
 rw [sub_at (z:=z) (by rw [List.length_map]; exact hr) (by rw [List.length_map]; exact hl) hj,map_at (by omega),map_at (by omega)] at this
 exact this
theorem frd_len {r l:List Int} {z p:Nat} (hr:r.length=z) (hl:l.length=z):(frd r l p).length=z:=by
 unfold frd
 rw [lowL_len]
 exact sub_len (by rw [List.length_map]; exact hr) (by rw [List.length_map]; exact hl)
def mkS (w n:Nat) (R:List (List Int)) (r:List Int) (b:Nat):Int:=((List.range n).map fun k=>r.getD (w+k) 0*(R.getD k []).getD b 0).sum
def Made (w n:Nat) (R:List (List Int)) (r:List Int):Prop:=∀ b,b<w→r.getD b 0=mkS w n R r b
theorem mkS_lin (w n:Nat) (R:List (List Int)) {r l f:List Int} {x y g:Int} {b:Nat} (h:∀ k,k<n→x*r.getD (w+k) 0-y*l.getD (w+k) 0=g*f.getD (w+k) 0):x*mkS w n R r b-y*mkS w n R l b=g*mkS w n R f b:=by
 unfold mkS
 have:∀ m,m≤n→x*((List.range m).map fun k=>r.getD (w+k) 0*(R.getD k []).getD b 0).sum-y*((List.range m).map fun k=>l.getD (w+k) 0*(R.getD k []).getD b 0).sum=g*((List.range m).map fun k=>f.getD (w+k) 0*(R.getD k []).getD b 0).sum:=by
  intro m
  induction m with
  | zero=>intro _; simp
  | succ m ih =>
   intro hm
   have i1:=ih (by omega)
   have i2:=h m (by omega)
   simp only [List.range_succ,List.map_append,List.map_cons,List.map_nil,List.sum_append,List.sum_cons,List.sum_nil,Int.add_zero,Int.mul_add]
   have e1:x*(r.getD (w+m) 0*(R.getD m []).getD b 0)-y*(l.getD (w+m) 0*(R.getD m []).getD b 0)=g*(f.getD (w+m) 0*(R.getD m []).getD b 0):=by
    rw [← Int.mul_assoc,← Int.mul_assoc,← Int.mul_assoc,← Int.sub_mul,i2]
   omega
 exact this n (Nat.le_refl _)
theorem frd_made {w n:Nat} {R:List (List Int)} {r l:List Int} {p:Nat} (hr:r.length=w+n) (hl:l.length=w+n) (mr:Made w n R r) (ml:Made w n R l):Made w n R (frd r l p):=fun b hb=>by
 obtain ⟨g,g0,hg⟩:=frd_by (p:=p) hr hl
 have h1:=hg b (by omega)
 have h2:=mkS_lin w n R (b:=b) (x:=l.getD p 0) (y:=r.getD p 0) (r:=r) (l:=l) (f:=frd r l p) (g:=g) fun k hk=>hg (w+k) (by omega)
 rw [mr b hb,ml b hb] at h1
 exact Int.eq_of_mul_eq_mul_left (by omega) (h1.symm.trans h2)
theorem frd_zero {r l:List Int} {z p j:Nat} (hr:r.length=z) (hl:l.length=z) (hj:j<z) (h:l.getD p 0*r.getD j 0=r.getD p 0*l.getD j 0):(frd r l p).getD j 0=0:=by
 obtain ⟨g,g0,hg⟩:=frd_by (p:=p) hr hl
 have h1:=hg j hj
 rw [h,Int.sub_self] at h1
 rcases Int.mul_eq_zero.mp h1.symm with q | q
 ·omega
 ·exact q
theorem frd_pos {r l:List Int} {z p j:Nat} (hr:r.length=z) (hl:l.length=z) (hj:j<z) (h0:l.getD j 0=0) (h1:0<l.getD p 0) (h2:0<r.getD j 0):0<(frd r l p).getD j 0:=by
 obtain ⟨g,g0,hg⟩:=frd_by (p:=p) hr hl
 have h3:=hg j hj
 rw [h0,Int.mul_zero,Int.sub_zero] at h3
 have h4:0<g*(frd r l p).getD j 0:=by rw [← h3]; exact Int.mul_pos h1 h2
 rw [Int.mul_comm] at h4
 exact Int.pos_of_mul_pos_left h4 g0
def upr (r:List Int) (p:Nat):List Int:=if r.getD p 0<0 then r.map fun y => -1*y else r
theorem upr_at {r:List Int} {z p:Nat} (hr:r.length=z):∀ j,j<z→(upr r p).getD j 0=if r.getD p 0<0 then -1*r.getD j 0 else r.getD j 0:=fun j hj=>by
 unfold upr
 split
 ·rw [map_at (by omega)]
 ·rfl
theorem upr_len {r:List Int} {z p:Nat} (hr:r.length=z):(upr r p).length=z:=by
 unfold upr
 split
 ·rw [List.length_map]; exact hr
 ·exact hr
end L2
namespace L2
open PySem PySem.Spec PyProof.Rows SeqAt
theorem comp_enumT {K:PySem.W.Frag} {g:Blk→TG} {tt:Blk→TT} {te:Blk→TE} {Z:List V→Hp→Prop} {σ0:St} {H1:Hp} {a:Addr} {xs:List V} (Pv:Nat→List V→St→Hp→Prop) (h0:Pv 0 [] σ0 H1) (hl:∀ i ys σ H,i≤xs.length→Pv i ys σ H→SqL K H a xs∧ys.length<sizeLine)
  (hs:∀ B i x p ys σ H,xs[i]?=some x→Pv i ys σ H→H p=none→g B (.ref p) σ (upd H p (.tup [.int (i:Nat),x])) fun σ2 H3=>tt B σ2 H3 fun b H4=>if b=true then te B σ2 H4 fun y H5=>Pv (i+1) (ys++[y]) σ2 H5 else Pv (i+1) ys σ2 H4)
  (hd:∀ ys σ H,Pv xs.length ys σ H→Z ys H):∃ W:Nat→Nat→List V→St→Hp→Prop,(∃ m,W 0 m [] σ0 H1)∧∀ B,CompW (Ite K a) (g B) (tt B) (te B) W Z:=by
 refine ⟨fun i m ys σ H=>m=xs.length-i∧i≤xs.length∧Pv i ys σ H,⟨xs.length,by simp,Nat.zero_le _,h0⟩,?_⟩
 rintro B i m ys σ H ⟨rfl,hi,p⟩
 obtain ⟨qa,hz⟩:=hl i ys σ H hi p
 by_cases hlt:i<xs.length
 ·refine .inr ⟨⟨xs,xs[i],qa,by simp [hlt]⟩,hz,Pv (i+1),fun zs σ' H' p'=>⟨xs.length-(i+1),by omega,rfl,hlt,p'⟩,fun v H' y=>?_⟩
  obtain ⟨q,x,hq,e1,e2,hx⟩:=y
  subst e1 e2
  exact hs B i x q ys σ H (hx xs qa) p hq
 ·have e:i=xs.length:=by omega
  subst e
  exact .inl ⟨⟨xs,qa,Nat.le_refl _⟩,hd ys σ H p⟩
def unitL (w p:Nat):List Int:=(List.range w).map fun j=>if j=p then 1 else 0
theorem unitL_len (w p:Nat):(unitL w p).length=w:=by unfold unitL; rw [List.length_map,List.length_range]
theorem unitL_at {w p j:Nat} (h:j<w):(unitL w p).getD j 0=if j=p then 1 else 0:=by
 unfold unitL
 rw [List.getD_eq_getElem?_getD,List.getElem?_map,List.getElem?_range h]
 rfl
def mkR (R:List (List Int)):List (List Int):=(List.range R.length).map fun i=>R.getD i []++unitL R.length i
theorem sum_unit (f:Nat→Int):∀ {n p:Nat},p<n→((List.range n).map fun k=>(if k=p then 1 else 0)*f k).sum=f p
 | 0,p,h=>by omega
 | n+1,p,h=>by
  simp only [List.range_succ,List.map_append,List.map_cons,List.map_nil,List.sum_append,List.sum_cons,List.sum_nil,Int.add_zero]
  by_cases e:p=n
  ·subst e
   have z:∀ m,m≤p→((List.range m).map fun k=>(if k=p then (1:Int) else 0)*f k).sum=0:=by
    intro m
    induction m with
    | zero=>intro _; rfl
    | succ m ih =>
     intro hm
     simp only [List.range_succ,List.map_append,List.map_cons,List.map_nil,List.sum_append,List.sum_cons,List.sum_nil,Int.add_zero]
     rw [ih (by omega),if_neg (by omega)]
     omega
   rw [z p (Nat.le_refl _),if_pos rfl]
   omega
  ·rw [sum_unit f (n:=n) (p:=p) (by omega),if_neg (by omega)]
   omega
def LnAt (H:Hp) (p:Addr×Addr) (c:Nat×List Int):Prop:=H p.1=some (.tup [.int (c.1:Int),.ref p.2])∧H p.2=some (.lst (vints c.2))
def Lns (H:Hp) (ps:List (Addr×Addr)) (S:List (Nat×List Int)):Prop:=Paired (LnAt H) ps S
theorem LnAt.same {H H':Hp} {p:Addr×Addr} {c:Nat×List Int} (h:LnAt H p c) (S:Same H H'):LnAt H' p c:=⟨S _ _ h.1,S _ _ h.2⟩
theorem Lns.same {H H':Hp} {ps:List (Addr×Addr)} {S:List (Nat×List Int)} (h:Lns H ps S) (s:Same H H'):Lns H' ps S:=Paired.mapP h fun _ _ e=>e.same s
theorem Lns.snoc {H:Hp} {ps:List (Addr×Addr)} {S:List (Nat×List Int)} {p:Addr×Addr} {c:Nat×List Int} (h:Lns H ps S) (e:LnAt H p c):Lns H (ps++[p]) (S++[c]):=Paired.snoc h e
theorem Lns.length {H:Hp} {ps:List (Addr×Addr)} {S:List (Nat×List Int)} (h:Lns H ps S):ps.length=S.length:=Paired.length h
theorem ref_int_ne {H:Hp} {p q:Addr} {r:List Int} {ss:List Addr} (h1:H p=some (.lst (vints r))) (h2:H q=some (.lst (ss.map V.ref))) (hr:1≤r.length):p≠q:=fun e=>by
 rw [e,h2] at h1
 injection h1 with h1
 injection h1 with h1
 cases r with
 | nil=>simp at hr
 | cons x r=>cases ss with
  | nil=>cases h1
  | cons s ss=>injection h1 with h1 _; cases h1
theorem Lns.lay {H:Hp} {q:Addr} {ss:List Addr} {o:HO} (h2:H q=some (.lst (ss.map V.ref))):∀ {ps:List (Addr×Addr)} {S:List (Nat×List Int)},Lns H ps S→(∀ c∈S,1≤c.2.length)→Lns (upd H q o) ps S
 | _,_,.nil,_=>.nil
 | _,_,.cons (a:=p) (b:=c) e t,hs=>by
  refine .cons ⟨?_,?_⟩ (Lns.lay h2 t fun d hd=>hs d (List.mem_cons_of_mem _ hd))
  ·rw [upd_ne (fun z=>by have e1:=e.1; rw [z,h2] at e1; cases e1)]; exact e.1
  ·rw [upd_ne (ref_int_ne e.2 h2 (hs c List.mem_cons_self))]; exact e.2
theorem rows_erase {H:Hp}:∀ {as:List Addr} {rs:List (List Int)} (k:Nat),Rows H as rs→Rows H (as.eraseIdx k) (rs.eraseIdx k)
 | _,_,_,.nil=>.nil
 | _,_,0,.cons _ t=>t
 | _,_,k+1,.cons e t=>.cons e (rows_erase k t)
theorem seqIx_at {k n:Nat} (h:k<n):seqIndex? (k:Int) n=some k:=by
 unfold seqIndex?
 have h1:¬ ((k:Int)<0):=by omega
 have h2:(decide (0≤(k:Int))&&decide ((k:Int)<(n:Int)))=true:=by simp; omega
 simp only [if_neg h1]
 rw [if_pos h2,Int.toNat_natCast]
theorem refs_er:∀ (as:List Addr) (k:Nat),(as.map V.ref).eraseIdx k=(as.eraseIdx k).map V.ref
 | [],_=>rfl
 | _::_,0=>rfl
 | a::as,k+1=>by show V.ref a::(as.map V.ref).eraseIdx k=_; rw [refs_er as k]; rfl
theorem lns_get {ps:List (Addr×Addr)} {i:Nat} {x:V} (h:(ps.map fun p=>V.ref p.1)[i]?=some x):∃ p,ps[i]?=some p∧x=V.ref p.1:=by
 rw [List.getElem?_map] at h
 cases e:ps[i]? with
 | none=>rw [e] at h; cases h
 | some n=>rw [e] at h; exact ⟨n,rfl,(Option.some.inj h).symm⟩
theorem comp_rowsF {K:PySem.W.Frag} {te:Blk→TE} {H1:Hp} {Z:List V→Hp→Prop} {a:Addr} {ss:List Addr} {rs:List (List Int)} {τ:St} (f:List Int→List Int) (ha:SqL K H1 a (ss.map V.ref)) (R:Rows H1 ss rs) (hn:rs.length<sizeLine)
  (hs:∀ B s r H,r∈rs→H s=some (.lst (vints r))→Same H1 H→∀ Q':VK,(∀ q H2,H q=none→Same H H2→H2 q=some (.lst (vints (f r)))→Q' (.ref q) H2)→te B (some (.ref s)::τ) H Q')
  (hd:∀ as H2,Same H1 H2→Rows H2 as (rs.map f)→(∀ b∈as,H1 b=none)→Z (as.map V.ref) H2) :
  ∃ W:Nat→Nat→List V→St→Hp→Prop,(∃ m,W 0 m [] (none::τ) H1)∧∀ B:Blk,CompW (Itl K a) (gName 0) tTrue (te B) W Z:=by
 have hl:=R.length
 refine comp_rowsOf (fun i=>f (rs.getD i [])) ha (by omega) (fun B i s H hs1 S Q' hq=>?_) (fun as H2 S R2 fr=>hd as H2 S ?_ fr)
 ·obtain ⟨r,hr,he⟩:=Paired.getL R hs1
  have er:rs.getD i []=r:=by rw [List.getD_eq_getElem?_getD,hr]; rfl
  rw [er] at hq
  exact hs B s r H (List.mem_of_getElem? hr) (S _ _ he) S Q' hq
 ·rw [hl,range_map [] f rs] at R2
  exact R2
def StAt (w:Nat) (H:Hp) (t:Addr×Addr×Addr) (c:Nat×List Int):Prop:=H t.1=some (.tup [.int (c.1:Int),.ref t.2.1,.ref t.2.2])∧H t.2.1=some (.lst (vints (lowL (c.2.take w))))∧H t.2.2=some (.lst (vints (c.2.drop w)))
def Sts (w:Nat) (H:Hp) (ts:List (Addr×Addr×Addr)) (S:List (Nat×List Int)):Prop:=Paired (StAt w H) ts S
theorem StAt.same {w:Nat} {H H':Hp} {t:Addr×Addr×Addr} {c:Nat×List Int} (h:StAt w H t c) (S:Same H H'):StAt w H' t c:=⟨S _ _ h.1,S _ _ h.2.1,S _ _ h.2.2⟩
theorem Sts.same {w:Nat} {H H':Hp} {ts:List (Addr×Addr×Addr)} {S:List (Nat×List Int)} (h:Sts w H ts S) (s:Same H H'):Sts w H' ts S:=Paired.mapP h fun _ _ e=>e.same s
end L2
namespace L2
open PySem PySem.Spec PyProof.Rows SeqAt
theorem paired_in {α β:Type} {F G:α→β→Prop}:∀ {l:List α} {m:List β},Paired F l m→(∀ a b,a∈l→F a b→G a b)→Paired G l m
 | _,_,.nil,_=>.nil
 | _,_,.cons e t,h=>.cons (h _ _ List.mem_cons_self e) (paired_in t fun a b ha=>h a b (List.mem_cons_of_mem _ ha))
end L2
namespace L2
end L2
namespace L2
open PySem PySem.Spec PyProof.Rows SeqAt
theorem range_get {w b:Nat} (f:Nat→Int) (h:b<w):((List.range w).map f).getD b 0=f b:=by
 rw [List.getD_eq_getElem?_getD,List.getElem?_map,List.getElem?_range h]
 rfl
theorem take_getD {l:List Int} {w b:Nat} (h:b<w):(l.take w).getD b 0=l.getD b 0:=by
 rw [List.getD_eq_getElem?_getD,List.getElem?_take_of_lt h,← List.getD_eq_getElem?_getD]
end L2
namespace L2
open PySem PySem.Spec PyProof.Rows SeqAt
theorem sts_get {ts:List (Addr×Addr×Addr)} {i:Nat} {x:V} (h:(ts.map fun t=>V.ref t.1)[i]?=some x):∃ t,ts[i]?=some t∧x=V.ref t.1:=by
 rw [List.getElem?_map] at h
 cases e:ts[i]? with
 | none=>rw [e] at h; cases h
 | some n=>rw [e] at h; exact ⟨n,rfl,(Option.some.inj h).symm⟩
end L2
namespace L2
open PySem PySem.Spec PyProof.Rows SeqAt
def bg (b k:Nat):Nat:=2^((b+1)*2^k-1)
theorem bg_two (b k:Nat):2*(bg b k*bg b k)=bg b (k+1):=by
 unfold bg
 have h:1≤(b+1)*2^k:=Nat.mul_pos (by omega) Nat.one_le_two_pow
 have e:∀ m,2*2^m=2^(m+1):=fun m=>by rw [Nat.pow_succ,Nat.mul_comm]
 rw [← Nat.pow_add,e]
 congr 1
 rw [Nat.pow_succ 2 k,← Nat.mul_assoc]
 omega
theorem bg_step {b k:Nat} {x y u v:Int} (hx:x.natAbs<bg b k) (hy:y.natAbs<bg b k) (hu:u.natAbs<bg b k) (hv:v.natAbs<bg b k):(x*y-u*v).natAbs<bg b (k+1):=by
 have h1:(x*y).natAbs<bg b k*bg b k:=by rw [Int.natAbs_mul]; exact Nat.mul_lt_mul'' hx hy
 have h2:(u*v).natAbs<bg b k*bg b k:=by rw [Int.natAbs_mul]; exact Nat.mul_lt_mul'' hu hv
 have:=bg_two b k
 omega
theorem bx_mono {b j k:Nat} (h:j≤k):(b+1)*2^j≤(b+1)*2^k:=Nat.mul_le_mul_left _ (Nat.pow_le_pow_right (by decide) h)
theorem bg_mono {b j k:Nat} (h:j≤k):bg b j≤bg b k:=by
 unfold bg
 refine Nat.pow_le_pow_right (by decide) ?_
 have:=bx_mono (b:=b) h
 omega
theorem bg_lt {b k n:Nat} (h:(b+1)*2^k≤9000) (hn:n<bg b k):n<2^8999:=by
 refine Nat.lt_of_lt_of_le hn ?_
 unfold bg
 exact Nat.pow_le_pow_right (by decide) (by omega)
theorem bg_zero {b n:Nat} (h:n<2^b):n<bg b 0:=by
 unfold bg
 rw [Nat.pow_zero,Nat.mul_one,Nat.add_sub_cancel]
 exact h
theorem frd_bg {b:Nat} {r l:List Int} {z p k:Nat} (hr:r.length=z) (hl:l.length=z) (hp:p<z) (br:∀ x∈r,x.natAbs<bg b k) (bl:∀ x∈l,x.natAbs<bg b k):∀ x∈frd r l p,x.natAbs<bg b (k+1):=by
 unfold frd
 refine low_abs fun x hx=>?_
 obtain ⟨j,hj,rfl⟩:=List.mem_iff_getElem.mp hx
 have l1:(r.map fun y=>l.getD p 0*y).length=z:=by rw [List.length_map]; exact hr
 have l2:(l.map fun y=>r.getD p 0*y).length=z:=by rw [List.length_map]; exact hl
 have hjz:j<z:=by rw [sub_len l1 l2] at hj; exact hj
 rw [← L2.getD_at hj,sub_at l1 l2 hjz,map_at (by omega),map_at (by omega)]
 exact bg_step (at_in (P:=fun x=>x.natAbs<bg b k) hl hp bl) (at_in (P:=fun x=>x.natAbs<bg b k) hr hjz br) (at_in (P:=fun x=>x.natAbs<bg b k) hr hp br) (at_in (P:=fun x=>x.natAbs<bg b k) hl hjz bl)
def RowB (b w n:Nat) (R:List (List Int)) (k:Nat) (r:List Int):Prop:=r.length=w+n∧(∀ x∈r,x.natAbs<bg b k)∧Made w n R r
theorem RowB.mono {b w n:Nat} {R:List (List Int)} {j k:Nat} {r:List Int} (h:RowB b w n R j r) (hj:j≤k):RowB b w n R k r:=⟨h.1,fun x hx=>Nat.lt_of_lt_of_le (h.2.1 x hx) (bg_mono hj),h.2.2⟩
theorem RowB.frd {b w n:Nat} {R:List (List Int)} {k p:Nat} {r l:List Int} (h:RowB b w n R k r) (hl:RowB b w n R k l) (hp:p<w):RowB b w n R (k+1) (frd r l p) :=
 ⟨frd_len h.1 hl.1,frd_bg h.1 hl.1 (by omega) h.2.1 hl.2.1,frd_made h.1 hl.1 h.2.2 hl.2.2⟩
theorem upr_made {w n:Nat} {R:List (List Int)} {p:Nat} {r:List Int} (hr:r.length=w+n) (h:Made w n R r):Made w n R (upr r p):=fun b hb=>by
 rw [upr_at hr b (by omega)]
 split
 ·rename_i hn
  have h2:=mkS_lin w n R (b:=b) (x := -1) (y:=0) (r:=r) (l:=r) (f:=upr r p) (g:=1) fun k hk=>by
   rw [upr_at hr (w+k) (by omega),if_pos hn]; omega
  rw [h b hb]
  omega
 ·rename_i hn
  have e:upr r p=r:=by unfold upr; rw [if_neg hn]
  rw [e]
  exact h b hb
theorem RowB.upr {b w n:Nat} {R:List (List Int)} {k p:Nat} {r:List Int} (h:RowB b w n R k r):RowB b w n R k (upr r p):=by
 refine ⟨upr_len h.1,fun x hx=>?_,upr_made h.1 h.2.2⟩
 unfold L2.upr at hx
 split at hx
 ·obtain ⟨y,hy,rfl⟩:=List.mem_map.mp hx
  have:=h.2.1 y hy
  rw [Int.natAbs_mul]
  show 1*y.natAbs<_
  omega
 ·exact h.2.1 x hx
def dotW (w:Nat) (y r:List Int):Int:=((List.range w).map fun j=>y.getD j 0*r.getD j 0).sum
theorem dot_lin {w:Nat} {y r l f:List Int} {x u g:Int} (h:∀ k,k<w→x*r.getD k 0-u*l.getD k 0=g*f.getD k 0):x*dotW w y r-u*dotW w y l=g*dotW w y f:=by
 unfold dotW
 have:∀ m,m≤w→x*((List.range m).map fun k=>y.getD k 0*r.getD k 0).sum-u*((List.range m).map fun k=>y.getD k 0*l.getD k 0).sum=g*((List.range m).map fun k=>y.getD k 0*f.getD k 0).sum:=by
  intro m
  induction m with
  | zero=>intro _; simp
  | succ m ih =>
   intro hm
   have i1:=ih (by omega)
   have i2:=h m (by omega)
   simp only [List.range_succ,List.map_append,List.map_cons,List.map_nil,List.sum_append,List.sum_cons,List.sum_nil,Int.add_zero,Int.mul_add]
   have e1:x*(y.getD m 0*r.getD m 0)-u*(y.getD m 0*l.getD m 0)=g*(y.getD m 0*f.getD m 0):=by
    rw [Int.mul_left_comm x,Int.mul_left_comm u,Int.mul_left_comm g,← Int.mul_sub,i2]
   omega
 exact this w (Nat.le_refl _)
theorem dot_zero {w:Nat} {y r:List Int} (h:∀ k,k<w→r.getD k 0=0):dotW w y r=0:=by
 have:=dot_lin (w:=w) (y:=y) (r:=r) (l:=r) (f:=r) (x:=0) (u:=0) (g:=1) fun k hk=>by rw [h k hk]; decide
 omega
structure InvB (b w n:Nat) (R:List (List Int)) (p:Nat) (L:List (List Int)) (S:List (Nat×List Int)):Prop where
 rl:∀ r∈L,RowB b w n R p r
 rz:∀ r∈L,∀ j,j<p→r.getD j 0=0
 sl:∀ c∈S,RowB b w n R p c.2
 sp:∀ c∈S,c.1<p∧0<c.2.getD c.1 0∧∀ j,j<c.1→c.2.getD j 0=0
 so:∀ c∈S,∀ d∈S,d.1≠c.1→c.2.getD d.1 0=0
 sg:(S.map Prod.fst).Pairwise (· < ·)
 an:∀ y:List Int,(∀ r∈L,dotW w y r=0)→(∀ c∈S,dotW w y c.2=0)→∀ r∈R,dotW w y r=0
theorem InvB.skip {b w n:Nat} {R:List (List Int)} {p:Nat} {L:List (List Int)} {S:List (Nat×List Int)} (h:InvB b w n R p L S) (hp:∀ r∈L,r.getD p 0=0):InvB b w n R (p+1) L S :=
 ⟨fun r hr=>(h.rl r hr).mono (Nat.le_succ _),fun r hr j hj=>by
  rcases Nat.lt_succ_iff_lt_or_eq.mp hj with q | q
  ·exact h.rz r hr j q
  ·rw [q]; exact hp r hr,fun c hc=>(h.sl c hc).mono (Nat.le_succ _),fun c hc=>⟨Nat.lt_succ_of_lt (h.sp c hc).1,(h.sp c hc).2⟩,h.so,h.sg,h.an⟩
theorem dot_of_frd {w z p:Nat} {y r l:List Int} (hr:r.length=z) (hl:l.length=z) (hz:w≤z) (l0:0<l.getD p 0) (h1:dotW w y l=0) (h2:dotW w y (frd r l p)=0):dotW w y r=0:=by
 obtain ⟨g,_,hg⟩:=frd_by (p:=p) hr hl
 have h3:=dot_lin (w:=w) (y:=y) (r:=r) (l:=l) (f:=frd r l p) (x:=l.getD p 0) (u:=r.getD p 0) (g:=g) fun k hk=>hg k (by omega)
 rw [h1,h2,Int.mul_zero,Int.mul_zero,Int.sub_zero] at h3
 rcases Int.mul_eq_zero.mp h3 with e | e
 ·omega
 ·exact e
theorem dot_upr {w z p:Nat} {y r:List Int} (hr:r.length=z) (hz:w≤z) (h:dotW w y (upr r p)=0):dotW w y r=0:=by
 by_cases hn:r.getD p 0<0
 ·have h3:=dot_lin (w:=w) (y:=y) (r:=r) (l:=r) (f:=upr r p) (x := -1) (u:=0) (g:=1) fun k hk=>by rw [upr_at hr k (by omega),if_pos hn]; omega
  omega
 ·have e:upr r p=r:=by unfold upr; rw [if_neg hn]
  rw [e] at h
  exact h
theorem InvB.take {b w n:Nat} {R:List (List Int)} {p:Nat} {L L':List (List Int)} {S:List (Nat×List Int)} {r0 ln:List Int} (h:InvB b w n R p L S) (hp:p<w) (hL:∀ r∈L',r∈L) (hL2:∀ r∈L,r∈L'∨r=r0) (hr0:r0.length=w+n) (eln:ln=L2.upr r0 p) (hl:RowB b w n R p ln) (lz:∀ j,j<p→ln.getD j 0=0) (l0:0<ln.getD p 0) :
  InvB b w n R (p+1) (L'.map fun r=>L2.frd r ln p) (S.map (fun c=>(c.1,L2.frd c.2 ln p))++[(p,ln)]):=by
 have ll:=hl.1
 refine ⟨fun r hr=>?_,fun r hr j hj=>?_,fun c hc=>?_,fun c hc=>?_,fun c hc d hd ne=>?_,?_,fun y h1 h2=>?_⟩
 ·obtain ⟨y,hy,rfl⟩:=List.mem_map.mp hr
  exact (h.rl y (hL y hy)).frd hl hp
 ·obtain ⟨y,hy,rfl⟩:=List.mem_map.mp hr
  have ry:=(h.rl y (hL y hy)).1
  refine frd_zero ry ll (by omega) ?_
  rcases Nat.lt_succ_iff_lt_or_eq.mp hj with q | q
  ·rw [h.rz y (hL y hy) j q,lz j q,Int.mul_zero,Int.mul_zero]
  ·rw [q,Int.mul_comm]
 ·rcases List.mem_append.mp hc with q | q
  ·obtain ⟨y,hy,rfl⟩:=List.mem_map.mp q
   exact (h.sl y hy).frd hl hp
  ·rw [List.mem_singleton.mp q]; exact hl.mono (Nat.le_succ _)
 ·rcases List.mem_append.mp hc with q | q
  ·obtain ⟨y,hy,rfl⟩:=List.mem_map.mp q
   obtain ⟨s1,s2,s3⟩:=h.sp y hy
   have ly:=(h.sl y hy).1
   refine ⟨by show y.1<p+1; omega,frd_pos ly ll (by omega) (lz _ s1) l0 s2,fun j hj=>?_⟩
   have hj:j<y.1:=hj
   refine frd_zero ly ll (by omega) ?_
   rw [s3 j hj,lz j (by omega),Int.mul_zero,Int.mul_zero]
  ·rw [List.mem_singleton.mp q]
   exact ⟨Nat.lt_succ_self _,l0,lz⟩
 ·rcases List.mem_append.mp hc with q | q
  ·obtain ⟨y,hy,rfl⟩:=List.mem_map.mp q
   have ly:=(h.sl y hy).1
   rcases List.mem_append.mp hd with q2 | q2
   ·obtain ⟨y2,hy2,rfl⟩:=List.mem_map.mp q2
    have:=(h.sp y2 hy2).1
    refine frd_zero ly ll (by show y2.1<w+n; omega) ?_
    show ln.getD p 0*y.2.getD y2.1 0=y.2.getD p 0*ln.getD y2.1 0
    rw [h.so y hy y2 hy2 ne,lz y2.1 this,Int.mul_zero,Int.mul_zero]
   ·rw [List.mem_singleton.mp q2]
    exact frd_zero ly ll (by show p<w+n; omega) (Int.mul_comm _ _)
  ·rw [List.mem_singleton.mp q] at ne ⊢
   rcases List.mem_append.mp hd with q2 | q2
   ·obtain ⟨y2,hy2,rfl⟩:=List.mem_map.mp q2
    exact lz y2.1 (h.sp y2 hy2).1
   ·rw [List.mem_singleton.mp q2] at ne
    exact absurd rfl ne
 ·rw [List.map_append,List.map_map]
  refine List.pairwise_append.mpr ⟨h.sg,by simp,fun x hx y hy=>?_⟩
  obtain ⟨c,hc,rfl⟩:=List.mem_map.mp hx
  rw [List.mem_singleton.mp hy]
  exact (h.sp c hc).1
 ·have k0:dotW w y ln=0:=h2 (p,ln) (List.mem_append_right _ (List.mem_singleton.mpr rfl))
  have kr0:dotW w y r0=0:=dot_upr hr0 (by omega) (eln ▸ k0)
  refine h.an y (fun r hr=>?_) (fun c hc=>?_)
  ·rcases hL2 r hr with q | q
   ·exact dot_of_frd (h.rl r hr).1 ll (by omega) l0 k0 (h1 _ (List.mem_map.mpr ⟨r,q,rfl⟩))
   ·rw [q]; exact kr0
  ·exact dot_of_frd (h.sl c hc).1 ll (by omega) l0 k0 (h2 (c.1,L2.frd c.2 ln p) (List.mem_append_left _ (List.mem_map.mpr ⟨c,hc,rfl⟩)))
theorem invB_start {b w:Nat} {R:List (List Int)} (hw:∀ r∈R,r.length=w) (hb:∀ r∈R,∀ x∈r,x.natAbs<2^b) (b1:1≤b):InvB b w R.length R 0 (mkR R) []:=by
 refine ⟨fun r hr=>?_,fun _ _ j h=>absurd h (Nat.not_lt_zero _),(by intro _ h; cases h),(by intro _ h; cases h),(by intro _ h; cases h),List.Pairwise.nil,fun y h1 _ r hr=>?_⟩
 ·obtain ⟨i,hi,rfl⟩:=List.mem_map.mp hr
  have hi:=List.mem_range.mp hi
  have e:=getDr hi
  have li:(R.getD i []).length=w:=by rw [e]; exact hw _ (List.getElem_mem hi)
  refine ⟨by rw [List.length_append,li,unitL_len],fun x hx=>?_,?_⟩
  ·rcases List.mem_append.mp hx with q | q
   ·rw [e] at q; exact bg_zero (hb _ (List.getElem_mem hi) x q)
   ·obtain ⟨j,_,rfl⟩:=List.mem_map.mp q
    refine bg_zero (Nat.lt_of_le_of_lt (show Int.natAbs (if j=i then 1 else 0)≤1 by split<;>decide) (Nat.one_lt_two_pow (by omega)))
  ·intro c hc
   have e1:(R.getD i []++unitL R.length i).getD c 0=(R.getD i []).getD c 0:=by
    rw [List.getD_eq_getElem?_getD,List.getElem?_append_left (by omega),← List.getD_eq_getElem?_getD]
   rw [e1]
   unfold mkS
   have e2:(List.range R.length).map (fun k=>(R.getD i []++unitL R.length i).getD (w+k) 0*(R.getD k []).getD c 0)=(List.range R.length).map (fun k=>(if k=i then 1 else 0)*(R.getD k []).getD c 0):=by
    refine List.map_congr_left fun k hk=>?_
    have hk:=List.mem_range.mp hk
    rw [List.getD_eq_getElem?_getD (l:=R.getD i []++unitL R.length i),List.getElem?_append_right (by omega),li,show w+k-w=k by omega,← List.getD_eq_getElem?_getD,unitL_at hk]
   rw [e2,sum_unit (fun k=>(R.getD k []).getD c 0) hi]
 ·obtain ⟨i,hi,rfl⟩:=List.mem_iff_getElem.mp hr
  have li:=hw _ (List.getElem_mem hi)
  have h2:=h1 (R.getD i []++unitL R.length i) (List.mem_map.mpr ⟨i,List.mem_range.mpr hi,rfl⟩)
  have h3:=dot_lin (w:=w) (y:=y) (r:=R[i]) (l:=R[i]) (f:=R.getD i []++unitL R.length i) (x:=1) (u:=0) (g:=1) fun k hk=>by
   rw [List.getD_eq_getElem?_getD (l:=R.getD i []++unitL R.length i),getDr hi,List.getElem?_append_left (by omega),← List.getD_eq_getElem?_getD]
   omega
  omega
structure StepB (b w n:Nat) (R:List (List Int)) (ps:List Nat) (at_:Nat) (lw mk:List Int):Prop where
 ll:lw.length=w
 ml:mk.length=n
 aw:at_<w
 pos:0<lw.getD at_ 0
 zer:∀ j,j<at_→lw.getD j 0=0
 oth:∀ q∈ps,q<w∧(q≠at_→lw.getD q 0=0)
 bl:∀ x∈lw,x.natAbs<bg b w
theorem stepB_ok {b w n:Nat} {R L:List (List Int)} {S:List (Nat×List Int)} (inv:InvB b w n R w L S) {c:Nat×List Int} (hc:c∈S):StepB b w n R (S.map Prod.fst) c.1 (lowL (c.2.take w)) (c.2.drop w)∧∃ g:Int,0<g∧∀ j,j<w→c.2.getD j 0=g*(lowL (c.2.take w)).getD j 0:=by
 obtain ⟨s1,s2,s3⟩:=inv.sp c hc
 obtain ⟨l1,l2,l3⟩:=inv.sl c hc
 obtain ⟨g,g0,hg,hgj⟩:=low_by (c.2.take w)
 have tl:(c.2.take w).length=w:=by rw [List.length_take]; omega
 have key:∀ j,j<w→c.2.getD j 0=g*(lowL (c.2.take w)).getD j 0:=fun j hj=>by rw [← hgj j,take_getD hj]
 refine ⟨⟨by rw [lowL_len]; exact tl,by rw [List.length_drop]; omega,s1,?_,fun j hj=>?_,fun q hq=>?_,low_abs (M:=bg b w) fun x hx=>l2 x (List.mem_of_mem_take hx)⟩,g,g0,key⟩
 ·have h1:=key c.1 s1
  rw [h1,Int.mul_comm] at s2
  exact Int.pos_of_mul_pos_left s2 g0
 ·have h1:=key j (by omega)
  rw [s3 j hj] at h1
  rcases Int.mul_eq_zero.mp h1.symm with e | e
  ·omega
  ·exact e
 ·obtain ⟨d,hd,rfl⟩:=List.mem_map.mp hq
  have hdw:=(inv.sp d hd).1
  refine ⟨hdw,fun ne=>?_⟩
  have h1:=key d.1 hdw
  rw [inv.so c hc d hd ne] at h1
  rcases Int.mul_eq_zero.mp h1.symm with e | e
  ·omega
  ·exact e
theorem kills {b w n:Nat} {R L:List (List Int)} {S:List (Nat×List Int)} (inv:InvB b w n R w L S) {y:List Int} (h:∀ c∈S,dotW w y (lowL (c.2.take w))=0):∀ r∈R,dotW w y r=0:=by
 refine inv.an y (fun r hr=>dot_zero fun k hk=>inv.rz r hr k hk) (fun c hc=>?_)
 obtain ⟨_,g,g0,key⟩:=stepB_ok inv hc
 have h3:=dot_lin (w:=w) (y:=y) (r:=c.2) (l:=c.2) (f:=lowL (c.2.take w)) (x:=1) (u:=0) (g:=g) fun k hk=>by rw [key k hk]; omega
 rw [h c hc,Int.mul_zero] at h3
 omega
end L2
namespace L2
open PySem PySem.Spec PyProof.Rows SeqAt
def fNZ:List (List Int)→Nat→Option Nat
 | [],_=>none
 | r::L,p=>if r.getD p 0=0 then (fNZ L p).map (· + 1) else some 0
theorem fNZ_some:∀ {L:List (List Int)} {p c:Nat},c<L.length→(L.getD c []).getD p 0≠0→(∀ i,i<c→(L.getD i []).getD p 0=0)→fNZ L p=some c
 | [],p,c,h,_,_=>absurd h (Nat.not_lt_zero _)
 | r::L,p,0,_,h,_=>by
  have h:r.getD p 0≠0:=h
  unfold fNZ
  rw [if_neg h]
 | r::L,p,c+1,hc,h,hz=>by
  have h0:r.getD p 0=0:=hz 0 (by omega)
  have ih:=fNZ_some (L:=L) (p:=p) (c:=c) (by simpa using hc) h (fun i hi=>hz (i+1) (by omega))
  unfold fNZ
  rw [if_pos h0,ih]
  rfl
theorem fNZ_none:∀ {L:List (List Int)} {p:Nat},(∀ r∈L,r.getD p 0=0)→fNZ L p=none
 | [],_,_=>rfl
 | r::L,p,h=>by
  unfold fNZ
  rw [if_pos (h r List.mem_cons_self),fNZ_none fun x hx=>h x (List.mem_cons_of_mem _ hx)]
  rfl
def stC (p:Nat) (s:List (List Int)×List (Nat×List Int)):List (List Int)×List (Nat×List Int) :=
 match fNZ s.1 p with
 | none=>s
 | some c=>((s.1.eraseIdx c).map (fun r=>frd r (upr (s.1.getD c []) p) p),s.2.map (fun d=>(d.1,frd d.2 (upr (s.1.getD c []) p) p))++[(p,upr (s.1.getD c []) p)])
def clrI (R:List (List Int)):Nat→List (List Int)×List (Nat×List Int)
 | 0=>(mkR R,[])
 | i+1=>stC i (clrI R i)
theorem clr_none {R:List (List Int)} {i:Nat} (h:∀ r∈(clrI R i).1,r.getD i 0=0):clrI R (i+1)=clrI R i:=by
 show stC i (clrI R i)=_
 unfold stC
 rw [fNZ_none h]
theorem clr_some {R:List (List Int)} {i c:Nat} (hc:c<(clrI R i).1.length) (h:((clrI R i).1.getD c []).getD i 0≠0) (hz:∀ j,j<c→((clrI R i).1.getD j []).getD i 0=0) :
  clrI R (i+1)=(((clrI R i).1.eraseIdx c).map (fun r=>frd r (upr ((clrI R i).1.getD c []) i) i),(clrI R i).2.map (fun d=>(d.1,frd d.2 (upr ((clrI R i).1.getD c []) i) i))++[(i,upr ((clrI R i).1.getD c []) i)]):=by
 show stC i (clrI R i)=_
 unfold stC
 rw [fNZ_some hc h hz]
theorem mem_erase_or {α:Type} {d:α}:∀ {L:List α} {c:Nat} {r:α},r∈L→r∈L.eraseIdx c∨r=L.getD c d
 | [],_,_,h=>by cases h
 | a::L,0,r,h=>by
  rcases List.mem_cons.mp h with q | q
  ·exact .inr q
  ·exact .inl q
 | a::L,c+1,r,h=>by
  rcases List.mem_cons.mp h with q | q
  ·exact .inl (by rw [q]; exact List.mem_cons_self)
  ·rcases mem_erase_or (d:=d) (c:=c) q with z | z
   ·exact .inl (List.mem_cons_of_mem _ z)
   ·exact .inr z
end L2
namespace L2
open PySem PySem.Spec PyProof.Rows SeqAt
def prodL (l:List Int):Int:=l.foldl (fun a x=>a*x) 1
theorem prodL_snoc (l:List Int) (x:Int):prodL (l++[x])=prodL l*x:=by unfold prodL; rw [List.foldl_append]; rfl
theorem fold_mul:∀ (l:List Int) (a:Int),l.foldl (fun a x=>a*x) a=a*prodL l
 | [],a=>by simp [prodL]
 | x::l,a=>by
  show l.foldl (fun a x=>a*x) (a*x)=a*(l.foldl (fun a x=>a*x) (1*x))
  rw [fold_mul l (a*x),fold_mul l (1*x),Int.one_mul,Int.mul_assoc]
theorem prodL_dvd:∀ {l:List Int} {x:Int},x∈l→x∣prodL l
 | y::l,x,h=>by
  have e:prodL (y::l)=y*prodL l:=by
   show l.foldl (fun a x=>a*x) (1*y)=_
   rw [fold_mul,Int.one_mul]
  rw [e]
  rcases List.mem_cons.mp h with q | q
  ·rw [q]; exact Int.dvd_mul_right ..
  ·exact Int.dvd_trans (prodL_dvd q) (Int.dvd_mul_left ..)
theorem prodL_pos:∀ {l:List Int},(∀ x∈l,0<x)→0<prodL l
 | [],_=>by decide
 | y::l,h=>by
  have e:prodL (y::l)=y*prodL l:=by
   show l.foldl (fun a x=>a*x) (1*y)=_
   rw [fold_mul,Int.one_mul]
  rw [e]
  exact Int.mul_pos (h y List.mem_cons_self) (prodL_pos fun x hx=>h x (List.mem_cons_of_mem _ hx))
theorem prodL_le {e:Nat}:∀ {l:List Int},(∀ x∈l,x.natAbs<2^e)→(prodL l).natAbs≤2^(e*l.length)
 | [],_=>by simp [prodL]
 | y::l,h=>by
  have e1:prodL (y::l)=y*prodL l:=by
   show l.foldl (fun a x=>a*x) (1*y)=_
   rw [fold_mul,Int.one_mul]
  rw [e1,Int.natAbs_mul,List.length_cons,Nat.mul_succ,Nat.add_comm,Nat.pow_add]
  exact Nat.mul_le_mul (Nat.le_of_lt (h y List.mem_cons_self)) (prodL_le fun x hx=>h x (List.mem_cons_of_mem _ hx))
abbrev toldL (w:Nat) (S:List (Nat×List Int)):List (Nat×List Int):=S.map fun c=>(c.1,lowL (c.2.take w))
def pivs (T:List (Nat×List Int)):List Int:=T.map fun c=>c.2.getD c.1 0
structure TOk (e w:Nat) (T:List (Nat×List Int)):Prop where
 ll:∀ c∈T,c.2.length=w
 aw:∀ c∈T,c.1<w
 pos:∀ c∈T,0<c.2.getD c.1 0
 zer:∀ c∈T,∀ j,j<c.1→c.2.getD j 0=0
 oth:∀ c∈T,∀ d∈T,d.1≠c.1→c.2.getD d.1 0=0
 bl:∀ c∈T,∀ x∈c.2,x.natAbs<2^e
 sg:(T.map Prod.fst).Pairwise (· < ·)
 tw:T.length≤w
theorem told_ok {b w n:Nat} {R L:List (List Int)} {S:List (Nat×List Int)} (inv:InvB b w n R w L S) (sw:S.length≤w):TOk ((b+1)*2^w-1) w (toldL w S):=by
 have get:∀ c∈toldL w S,∃ d∈S,c=(d.1,lowL (d.2.take w)):=fun c hc=>by
  obtain ⟨d,hd,rfl⟩:=List.mem_map.mp hc
  exact ⟨d,hd,rfl⟩
 refine ⟨fun c hc=>?_,fun c hc=>?_,fun c hc=>?_,fun c hc=>?_,fun c hc d hd ne=>?_,fun c hc=>?_,?_,by rw [List.length_map]; exact sw⟩
 ·obtain ⟨d,hd,rfl⟩:=get c hc; exact (stepB_ok inv hd).1.ll
 ·obtain ⟨d,hd,rfl⟩:=get c hc; exact (stepB_ok inv hd).1.aw
 ·obtain ⟨d,hd,rfl⟩:=get c hc; exact (stepB_ok inv hd).1.pos
 ·obtain ⟨d,hd,rfl⟩:=get c hc; exact (stepB_ok inv hd).1.zer
 ·obtain ⟨c',hc',rfl⟩:=get c hc
  obtain ⟨d',hd',rfl⟩:=get d hd
  exact ((stepB_ok inv hc').1.oth d'.1 (List.mem_map.mpr ⟨d',hd',rfl⟩)).2 ne
 ·obtain ⟨d,hd,rfl⟩:=get c hc; exact (stepB_ok inv hd).1.bl
 ·rw [List.map_map]; exact inv.sg
structure WRaw (w:Nat) (T:List (Nat×List Int)) (j:Nat) (sc:Int) (ws:List Int):Prop where
 ll:ws.length=w
 at_:ws.getD j 0=sc
 pv:∀ c∈T,ws.getD c.1 0 = -(c.2.getD j 0)*(sc/c.2.getD c.1 0)
 no:∀ k,k<w→k≠j→(∀ c∈T,c.1≠k)→ws.getD k 0=0
structure WOk3 (w:Nat) (R:List (List Int)) (ps:List Nat) (j:Nat) (wl:List Int):Prop where
 ll:wl.length=w
 jw:j<w
 pos:0<wl.getD j 0
 beh:∀ k,j<k→k<w→wl.getD k 0=0
 oth:∀ k,k<w→k≠j→k∉ps→wl.getD k 0=0
 gcd:gcdL wl=1
 kl:∀ r∈R,dotW w wl r=0
 bl:∀ x∈wl,x.natAbs<2^8999
theorem dot_two {w:Nat} {y r:List Int} {i j:Nat} (hi:i<w) (hj:j<w) (ne:i≠j) (h:∀ k,k<w→k≠i→k≠j→y.getD k 0*r.getD k 0=0):dotW w y r=y.getD i 0*r.getD i 0+y.getD j 0*r.getD j 0:=by
 unfold dotW
 have:∀ m,m≤w→((List.range m).map fun k=>y.getD k 0*r.getD k 0).sum=(if i<m then y.getD i 0*r.getD i 0 else 0)+(if j<m then y.getD j 0*r.getD j 0 else 0):=by
  intro m
  induction m with
  | zero=>intro _; simp
  | succ m ih =>
   intro hm
   simp only [List.range_succ,List.map_append,List.map_cons,List.map_nil,List.sum_append,List.sum_cons,List.sum_nil,Int.add_zero]
   rw [ih (by omega)]
   by_cases e1:m=i
   ·subst e1
    rw [if_neg (Nat.lt_irrefl m),if_pos (Nat.lt_succ_self m)]
    by_cases e3:j<m
    ·rw [if_pos e3,if_pos (by omega)]; omega
    ·rw [if_neg e3,if_neg (by omega)]; omega
   ·by_cases e2:m=j
    ·subst e2
     rw [if_neg (Nat.lt_irrefl m),if_pos (Nat.lt_succ_self m)]
     by_cases e3:i<m
     ·rw [if_pos e3,if_pos (by omega)]; omega
     ·rw [if_neg e3,if_neg (by omega)]; omega
    ·rw [h m (by omega) e1 e2]
     have a1:(i<m+1)=(i<m):=by simp; omega
     have a2:(j<m+1)=(j<m):=by simp; omega
     simp only [a1,a2,Int.add_zero]
 rw [this w (Nat.le_refl _),if_pos hi,if_pos hj]
theorem raw_kills {e w:Nat} {T:List (Nat×List Int)} (ok:TOk e w T) {j:Nat} {ws:List Int} (hj:j<w) (nj:∀ c∈T,c.1≠j) (h:WRaw w T j (prodL (pivs T)) ws):∀ c∈T,dotW w ws c.2=0:=fun c hc=>by
 have hp:=ok.pos c hc
 rw [dot_two (ok.aw c hc) hj (nj c hc) fun k hk n1 n2=>?_]
 ·rw [h.at_,h.pv c hc]
  have hd:c.2.getD c.1 0∣prodL (pivs T):=prodL_dvd (List.mem_map.mpr ⟨c,hc,rfl⟩)
  rw [Int.mul_assoc,Int.ediv_mul_cancel hd,Int.neg_mul,Int.mul_comm (prodL (pivs T))]
  omega
 ·by_cases q:∃ d∈T,d.1=k
  ·obtain ⟨d,hd,rfl⟩:=q
   rw [ok.oth c hc d hd n1,Int.mul_zero]
  ·rw [h.no k hk n2 fun d hd e=>q ⟨d,hd,e⟩,Int.zero_mul]
theorem raw_ok {b w n:Nat} {R L:List (List Int)} {S:List (Nat×List Int)} (inv:InvB b w n R w L S) (sw:S.length≤w) {j:Nat} {ws:List Int} (hj:j<w) (nj:∀ c∈toldL w S,c.1≠j) (h:WRaw w (toldL w S) j (prodL (pivs (toldL w S))) ws) (hb:∀ x∈ws,x.natAbs<2^8999):WOk3 w R (S.map Prod.fst) j (lowL ws):=by
 have ok:=told_ok inv sw
 obtain ⟨g,g0,hg,hgj⟩:=low_by ws
 have sp:0<prodL (pivs (toldL w S)):=prodL_pos fun x hx=>by
  obtain ⟨c,hc,rfl⟩:=List.mem_map.mp hx
  exact ok.pos c hc
 have hne:gcdL ws≠0:=fun e=>by
  have h1:ws.getD j 0=0:=at_in (P:=fun x=>x=0) h.ll hj (zero_of_gcdL e)
  rw [h.at_] at h1
  omega
 have zz:∀ k,ws.getD k 0=0→(lowL ws).getD k 0=0:=fun k hk=>by
  have h1:=hgj k
  rw [hk] at h1
  rcases Int.mul_eq_zero.mp h1.symm with q | q
  ·omega
  ·exact q
 have kd:=raw_kills ok hj nj h
 have kl:=kills inv (y:=ws) fun c hc=>kd (c.1,lowL (c.2.take w)) (List.mem_map.mpr ⟨c,hc,rfl⟩)
 refine ⟨by rw [lowL_len]; exact h.ll,hj,?_,fun k jk kw=>zz k ?_,fun k kw kj kn=>zz k (h.no k kw kj fun c hc e=>?_),low_prime hne,fun r hr=>?_,low_abs hb⟩
 ·have h1:=hgj j
  rw [h.at_] at h1
  rw [h1,Int.mul_comm] at sp
  exact Int.pos_of_mul_pos_left sp g0
 ·by_cases q:∃ d∈toldL w S,d.1=k
  ·obtain ⟨d,hd,rfl⟩:=q
   rw [h.pv d hd,ok.zer d hd j jk,Int.neg_zero,Int.zero_mul]
  ·exact h.no k kw (by omega) fun d hd e=>q ⟨d,hd,e⟩
 ·obtain ⟨d,hd,rfl⟩:=List.mem_map.mp hc
  exact kn (List.mem_map.mpr ⟨d,hd,e⟩)
 ·have h1:=kl r hr
  have h2:dotW w ws r=g*dotW w (lowL ws) r:=by
   unfold dotW
   have:∀ m,((List.range m).map fun k=>ws.getD k 0*r.getD k 0).sum=g*((List.range m).map fun k=>(lowL ws).getD k 0*r.getD k 0).sum:=by
    intro m
    induction m with
    | zero=>simp
    | succ m ih =>
     simp only [List.range_succ,List.map_append,List.map_cons,List.map_nil,List.sum_append,List.sum_cons,List.sum_nil,Int.add_zero,Int.mul_add]
     rw [ih,hgj m,Int.mul_assoc]
   exact this w
  rw [h1] at h2
  rcases Int.mul_eq_zero.mp h2.symm with q | q
  ·omega
  ·exact q
end L2
namespace L2
end L2
namespace L2
open PySem PySem.Spec PyProof.Rows SeqAt
section
variable {X:Cx}
theorem are_vals:∀ {its:List Value} {ns:List Int},IntsAre its ns→Vals (vints ns) its
 | [],ns,h=>by
  have:=h.length
  cases ns with
  | nil=>exact .nil
  | cons a b=>simp at this
 | v::its,ns,h=>by
  cases h with
  | cons n t r=>exact .cons ⟨t,rfl⟩ (are_vals r)
end
end L2
namespace L2
open PySem PySem.Spec PyProof.Rows SeqAt
theorem bt_sorted:bootBuiltins "sorted" = some (.builtin "sorted"):=by decide +kernel
theorem inV_i {x:Nat} {l:List Nat}:inV (.int (x:Int)) (vints (zs l))=decide (x∈l):=by
 unfold inV
 rw [Bool.eq_iff_iff,List.any_eq_true,decide_eq_true_eq]
 constructor
 ·rintro ⟨v,hv,h⟩
  obtain ⟨n,hn,rfl⟩:=ints_mem hv
  obtain ⟨m,hm,rfl⟩:=List.mem_map.mp hn
  have h:(m:Int)=(x:Int):=by simpa [eqV,Bool.beq_eq_decide_eq] using h
  rw [Int.ofNat.inj h] at hm
  exact hm
 ·intro h
  exact ⟨.int x,List.mem_map.mpr ⟨x,List.mem_map.mpr ⟨x,h,rfl⟩,rfl⟩,by simp [eqV]⟩
theorem flat_is (ns:List Int):(vints ns).all flatV=true:=by
 rw [List.all_eq_true]
 intro v hv
 obtain ⟨n,_,rfl⟩:=ints_mem hv
 rfl
end L2
namespace L2
open PySem PySem.Spec PyProof.Rows SeqAt
end L2
namespace L2
open PySem PySem.Spec PyProof.Rows SeqAt
end L2
namespace L2
open PySem PySem.Spec PyProof.Rows
section
variable {X:Cx}
end
end L2
namespace L2
open PySem PySem.Spec PyProof.Rows PySem.SeqAt
section
variable {X:Cx} {pins:List (Addr×Obj)} {σ:St} {H:Hp} {s:Shared} {A:Around} {a b:Addr}
end
end L2
namespace L2
open PySem PySem.Spec PyProof.Rows SeqAt
theorem dot_one {w:Nat} {y r:List Int} {i:Nat} (hi:i<w) (h:∀ k,k<w→k≠i→y.getD k 0*r.getD k 0=0):dotW w y r=y.getD i 0*r.getD i 0:=by
 unfold dotW
 have:∀ m,m≤w→((List.range m).map fun k=>y.getD k 0*r.getD k 0).sum=if i<m then y.getD i 0*r.getD i 0 else 0:=by
  intro m
  induction m with
  | zero=>intro _; simp
  | succ m ih =>
   intro hm
   simp only [List.range_succ,List.map_append,List.map_cons,List.map_nil,List.sum_append,List.sum_cons,List.sum_nil,Int.add_zero]
   rw [ih (by omega)]
   by_cases e1:m=i
   ·subst e1
    rw [if_neg (Nat.lt_irrefl m),if_pos (Nat.lt_succ_self m),Int.zero_add]
   ·rw [h m (by omega) e1,Int.add_zero]
    by_cases e3:i<m
    ·rw [if_pos e3,if_pos (by omega)]
    ·rw [if_neg e3,if_neg (by omega)]
 rw [this w (Nat.le_refl _),if_pos hi]
theorem dot_made {w n:Nat} {R:List (List Int)} {r y:List Int} (hn:R.length=n) (hm:Made w n R r) (h:∀ q∈R,dotW w y q=0):dotW w y r=0:=by
 have key:∀ m,m≤n→((List.range w).map fun b=>y.getD b 0*((List.range m).map fun k=>r.getD (w+k) 0*(R.getD k []).getD b 0).sum).sum=0:=by
  intro m
  induction m with
  | zero=>intro _; rw [show ((List.range w).map fun b=>y.getD b 0*((List.range 0).map fun k=>r.getD (w+k) 0*(R.getD k []).getD b 0).sum)=(List.range w).map fun _=>(0:Int) from List.map_congr_left fun b _=>by simp]; clear h hm; induction w with
   | zero=>rfl
   | succ w ih=>rw [List.range_succ,List.map_append,List.sum_append,ih]; rfl
  | succ m ih =>
   intro hm2
   have h1:=ih (by omega)
   have h2:dotW w y (R.getD m [])=0:=by
    rw [getDr (by omega)]
    exact h _ (List.getElem_mem _)
   have e:∀ v,v≤w→((List.range v).map fun b=>y.getD b 0*((List.range (m+1)).map fun k=>r.getD (w+k) 0*(R.getD k []).getD b 0).sum).sum=((List.range v).map fun b=>y.getD b 0*((List.range m).map fun k=>r.getD (w+k) 0*(R.getD k []).getD b 0).sum).sum+r.getD (w+m) 0*((List.range v).map fun b=>y.getD b 0*(R.getD m []).getD b 0).sum:=by
    intro v
    induction v with
    | zero=>intro _; simp
    | succ v ih2 =>
     intro hv
     have i2:=ih2 (by omega)
     simp only [List.range_succ,List.map_append,List.map_cons,List.map_nil,List.sum_append,List.sum_cons,List.sum_nil,Int.add_zero,Int.mul_add] at i2 ⊢
     rw [i2,Int.mul_left_comm (r.getD (w+m) 0)]
     omega
   have e2:=e w (Nat.le_refl _)
   rw [h1] at e2
   unfold dotW at h2
   rw [e2,h2]
   simp
 have h3:=key n (Nat.le_refl _)
 refine Eq.trans ?_ h3
 unfold dotW
 congr 1
 refine List.map_congr_left fun b hb=>?_
 rw [hm b (List.mem_range.mp hb)]
 rfl
theorem told_kills {b w:Nat} {R L:List (List Int)} {S:List (Nat×List Int)} (inv:InvB b w R.length R w L S) {y:List Int} (h:∀ r∈R,dotW w y r=0):∀ c∈toldL w S,dotW w y c.2=0:=fun c hc=>by
 obtain ⟨d,hd,rfl⟩:=List.mem_map.mp hc
 obtain ⟨_,g,g0,key⟩:=stepB_ok inv hd
 have h1:=dot_made (y:=y) rfl (inv.sl d hd).2.2 h
 have h3:=dot_lin (w:=w) (y:=y) (r:=d.2) (l:=d.2) (f:=lowL (d.2.take w)) (x:=1) (u:=0) (g:=g) fun k hk=>by rw [key k hk]; omega
 rw [h1] at h3
 rcases Int.mul_eq_zero.mp (show g*dotW w y (lowL (d.2.take w))=0 by omega) with e | e
 ·omega
 ·exact e
def rawW (w:Nat) (T:List (Nat×List Int)) (j:Nat):List Int:=(List.range w).map fun k=>if k=j then prodL (pivs T) else
 match T.find? (fun c=>decide (c.1=k)) with
 | some c => -(c.2.getD j 0)*(prodL (pivs T)/c.2.getD c.1 0)
 | none=>0
theorem same_of_fst {T:List (Nat×List Int)} (sg:(T.map Prod.fst).Pairwise (· < ·)) {c d:Nat×List Int} (hc:c∈T) (hd:d∈T) (h:c.1=d.1):c=d:=by
 obtain ⟨i,hi,rfl⟩:=List.mem_iff_getElem.mp hc
 obtain ⟨j,hj,rfl⟩:=List.mem_iff_getElem.mp hd
 have key:=List.pairwise_iff_getElem.mp sg
 rcases Nat.lt_trichotomy i j with q | q | q
 ·have:=key i j (by rw [List.length_map]; exact hi) (by rw [List.length_map]; exact hj) q
  rw [List.getElem_map,List.getElem_map] at this
  omega
 ·subst q; rfl
 ·have:=key j i (by rw [List.length_map]; exact hj) (by rw [List.length_map]; exact hi) q
  rw [List.getElem_map,List.getElem_map] at this
  omega
theorem rawW_ok {e w:Nat} {T:List (Nat×List Int)} (ok:TOk e w T) {j:Nat} (hj:j<w) (nj:∀ c∈T,c.1≠j):WRaw w T j (prodL (pivs T)) (rawW w T j):=by
 have at_:∀ k,k<w→(rawW w T j).getD k 0=if k=j then prodL (pivs T) else match T.find? (fun c=>decide (c.1=k)) with | some c => -(c.2.getD j 0)*(prodL (pivs T)/c.2.getD c.1 0) | none=>0:=fun k hk=>range_get _ hk
 refine ⟨by unfold rawW; simp,by rw [at_ j hj,if_pos rfl],fun c hc=>?_,fun k hk n1 n2=>?_⟩
 ·rw [at_ c.1 (ok.aw c hc),if_neg (nj c hc)]
  cases e:T.find? (fun d=>decide (d.1=c.1)) with
  | none=>exact absurd (List.find?_eq_none.mp e c hc) (by simp)
  | some d =>
   have h1:=List.mem_of_find?_eq_some e
   have h2:=List.find?_some e
   rw [same_of_fst ok.sg h1 hc (by simpa using h2)]
 ·rw [at_ k hk,if_neg n1]
  cases e:T.find? (fun d=>decide (d.1=k)) with
  | none=>rfl
  | some d=>exact absurd (by simpa using List.find?_some e) (n2 d (List.mem_of_find?_eq_some e))
theorem prod_pos {e w:Nat} {T:List (Nat×List Int)} (ok:TOk e w T):0<prodL (pivs T):=prodL_pos fun x hx=>by
 obtain ⟨c,hc,rfl⟩:=List.mem_map.mp hx
 exact ok.pos c hc
theorem piv_iff {e w:Nat} {T:List (Nat×List Int)} (ok:TOk e w T) {p:Nat} (hp:p<w):(p∈T.map Prod.fst)↔∀ y,(∀ c∈T,dotW w y c.2=0)→(∀ k,p<k→k<w→y.getD k 0=0)→y.getD p 0=0:=by
 constructor
 ·intro h y h1 h2
  obtain ⟨c,hc,rfl⟩:=List.mem_map.mp h
  have h3:=h1 c hc
  rw [dot_one hp fun k hk ne=>?_] at h3
  ·rcases Int.mul_eq_zero.mp h3 with z | z
   ·exact z
   ·have:=ok.pos c hc; omega
  ·rcases Nat.lt_or_ge k c.1 with z | z
   ·rw [ok.zer c hc k z,Int.mul_zero]
   ·rw [h2 k (by omega) hk,Int.zero_mul]
 ·intro h
  refine Classical.byContradiction fun q=>?_
  have nj:∀ c∈T,c.1≠p:=fun c hc e=>q (List.mem_map.mpr ⟨c,hc,e⟩)
  have rw_:=rawW_ok ok hp nj
  have h1:=h _ (raw_kills ok hp nj rw_) fun k pk kw=>?_
  ·rw [rw_.at_] at h1
   have:=prod_pos ok
   omega
  ·by_cases z:∃ c∈T,c.1=k
   ·obtain ⟨c,hc,rfl⟩:=z
    rw [rw_.pv c hc,ok.zer c hc p pk,Int.neg_zero,Int.zero_mul]
   ·exact rw_.no k kw (by omega) fun c hc e=>z ⟨c,hc,e⟩
theorem prime_dvd {m a:Nat} {xs:List Int} (hm:0<m) (hg:gcdL xs=1) (h:∀ x∈xs,m∣a*x.natAbs):m∣a:=by
 have g0:0<Nat.gcd m a:=Nat.gcd_pos_of_pos_left _ hm
 obtain ⟨m',hm'⟩:=Nat.gcd_dvd_left m a
 obtain ⟨a',ha'⟩:=Nat.gcd_dvd_right m a
 have cop:Nat.Coprime m' a':=by
  have h1:=Nat.coprime_div_gcd_div_gcd g0
  have e1:m/Nat.gcd m a=m':=by
   conv=>lhs; lhs; rw [hm']
   exact Nat.mul_div_cancel_left _ g0
  have e2:a/Nat.gcd m a=a':=by
   conv=>lhs; lhs; rw [ha']
   exact Nat.mul_div_cancel_left _ g0
  rw [e1,e2] at h1
  exact h1
 have h1:m'∣gcdL xs:=dvd_gcdL fun x hx=>by
  have h2:=h x hx
  obtain ⟨c,hc⟩:=h2
  refine cop.dvd_of_dvd_mul_left ⟨c,?_⟩
  refine Nat.eq_of_mul_eq_mul_left g0 ?_
  rw [← Nat.mul_assoc,← ha',hc,← Nat.mul_assoc,← hm']
 rw [hg] at h1
 have h2:m'=1:=Nat.dvd_one.mp h1
 rw [h2,Nat.mul_one] at hm'
 rw [hm']
 exact Nat.gcd_dvd_right m a
end L2
namespace L2
open PySem PySem.Spec PyProof.Rows SeqAt
section
variable {X:Cx} {e ek:Expr} {te:TE} {tk:TO} {pos p2:Pos}
end
end L2
namespace L2
open PySem PySem.Spec PyProof.Rows SeqAt
theorem told_iff {b w:Nat} {R L:List (List Int)} {S:List (Nat×List Int)} (inv:InvB b w R.length R w L S) (y:List Int):(∀ c∈toldL w S,dotW w y c.2=0)↔∀ r∈R,dotW w y r=0 :=
 ⟨fun h=>kills inv fun c hc=>h (c.1,lowL (c.2.take w)) (List.mem_map.mpr ⟨c,hc,rfl⟩),fun h=>told_kills inv h⟩
end L2
namespace L2
section
variable {n:Nat} {f:List Col→Int}
end
section
variable {n:Nat} {B:List Col}
end
end L2
namespace L2
section
variable {m N:Nat} {a:Nat→Col} {bs:List Nat}
section
variable {T:Nat} {P:Nat→List Nat} {E Q:Nat→Nat}
end
end
end L2
namespace L2
section
variable {R:List (List Int)} {rm cs:List Int} {m n:Nat}
end
section
variable {m N:Nat} {a:Nat→Col} {bs:List Nat} {c:Nat}
end
section
variable {R:List (List Int)} {rm cs:List Int} {m n:Nat} {bs:List Nat}
end
section
variable {R:List (List Int)} {rm cs:List Int} {m n:Nat}
end
end L2
namespace L2
open PySem PySem.Spec PyProof.Rows SeqAt
section
variable {m N:Nat} {a:Nat→Col} {bs:List Nat}
end
end L2
namespace L2
open PySem PySem.Spec PyProof.Rows SeqAt
end L2
namespace L2
open PySem PySem.Spec PyProof.Rows SeqAt
section
variable {R:List (List Int)} {rm cs:List Int} {m n:Nat}
end
end L2
namespace L2
open PySem PySem.Spec PyProof.Rows SeqAt
section
variable {m N:Nat} {a:Nat→Col} {bs:List Nat}
end
end L2
namespace L2
end L2
namespace L2
open PySem PySem.Spec PyProof.Rows SeqAt
section
variable {z k e:Nat} {G:List (List Int)} {fs:List Int}
end
section
variable {z k:Nat} {tk gv:List (List Int)} {fs:List Int}
end
end L2
namespace L2
open PySem PySem.Spec PyProof.Rows SeqAt
section
variable {z k:Nat} {tk gv:List (List Int)} {fs:List Int}
end
end L2
namespace L2
open PySem PySem.Spec PyProof.Rows SeqAt
end L2
namespace L2
open PySem PySem.Spec PyProof.Rows SeqAt
theorem first_ix {α:Type} {P:α→Prop} (d:α):∀ {L:List α},¬ (∀ r∈L,P r)→∃ c,c<L.length∧¬ P (L.getD c d)∧∀ j,j<c→P (L.getD j d)
 | [],h=>absurd (fun r hr=>nomatch hr) h
 | a::L,h=>by
  by_cases pa:P a
  ·obtain ⟨c,hc,h1,h2⟩:=first_ix (P:=P) d (L:=L) fun g=>h fun r hr=>by
    rcases List.mem_cons.mp hr with e | e
    ·rw [e]; exact pa
    ·exact g r e
   refine ⟨c+1,Nat.succ_lt_succ hc,h1,fun j hj=>?_⟩
   cases j with
   | zero=>exact pa
   | succ j=>exact h2 j (by omega)
  ·exact ⟨0,Nat.succ_pos _,pa,fun j hj=>absurd hj (Nat.not_lt_zero _)⟩
structure SmallC (b w n:Nat) (N:Nat) (P:List (List Int)×List (Nat×List Int)):Prop where
 ll:∀ r∈P.1,r.length=w+n
 sl:∀ c∈P.2,c.2.length=w+n
 lb:∀ r∈P.1,∀ x∈r,x.natAbs<bg b P.2.length
 sb:∀ c∈P.2,∀ x∈c.2,x.natAbs<bg b P.2.length
 ct:P.1.length+P.2.length=N
theorem clr_small {b w:Nat} {R:List (List Int)} (hw:∀ r∈R,r.length=w) (hb:∀ r∈R,∀ x∈r,x.natAbs<2^b) (b1:1≤b):∀ {i:Nat},i≤w→SmallC b w R.length R.length (clrI R i)
 | 0,_=>by
  have inv:=invB_start hw hb b1
  refine ⟨fun r hr=>(inv.rl r hr).1,(fun c hc=>nomatch hc),fun r hr=>(inv.rl r hr).2.1,(fun c hc=>nomatch hc),?_⟩
  show (mkR R).length+0=_
  unfold mkR
  rw [List.length_map,List.length_range]
  rfl
 | i+1,hi=>by
  have ih:=clr_small hw hb b1 (i:=i) (by omega)
  by_cases no:∀ r∈(clrI R i).1,r.getD i 0=0
  ·rw [clr_none no]
   exact ih
  ·obtain ⟨c,hc,h1,h2⟩:=first_ix [] no
   rw [clr_some hc h1 h2]
   generalize clrI R i=P at ih hc h1 h2
   obtain ⟨L,S⟩:=P
   have rm:L.getD c []∈L:=by
    rw [List.getD_eq_getElem?_getD,List.getElem?_eq_getElem hc]
    exact List.getElem_mem _
   have ul:(upr (L.getD c []) i).length=w+R.length:=upr_len (ih.ll _ rm)
   have ub:∀ x∈upr (L.getD c []) i,x.natAbs<bg b S.length:=fun x hx=>by
    unfold upr at hx
    split at hx
    ·obtain ⟨y,hy,rfl⟩:=List.mem_map.mp hx
     rw [Int.natAbs_mul]
     have h5:y.natAbs<bg b S.length:=ih.lb _ rm y hy
     show 1*y.natAbs<bg b S.length
     rw [Nat.one_mul]
     exact h5
    ·exact ih.lb _ rm x hx
   have sl:(S.map (fun d=>(d.1,frd d.2 (upr (L.getD c []) i) i))++[(i,upr (L.getD c []) i)]).length=S.length+1:=by rw [List.length_append,List.length_map]; rfl
   have er:∀ r∈L.eraseIdx c,r∈L:=fun r hr=>List.mem_of_mem_eraseIdx hr
   refine ⟨fun r hr=>?_,fun d hd=>?_,fun r hr=>?_,fun d hd=>?_,?_⟩
   ·obtain ⟨y,hy,rfl⟩:=List.mem_map.mp hr
    exact frd_len (ih.ll y (er y hy)) ul
   ·rcases List.mem_append.mp hd with q | q
    ·obtain ⟨y,hy,rfl⟩:=List.mem_map.mp q
     exact frd_len (ih.sl y hy) ul
    ·rw [List.mem_singleton.mp q]; exact ul
   ·show ∀ x∈r,x.natAbs<bg b (S.map (fun d=>(d.1,frd d.2 (upr (L.getD c []) i) i))++[(i,upr (L.getD c []) i)]).length
    rw [sl]
    obtain ⟨y,hy,rfl⟩:=List.mem_map.mp hr
    exact frd_bg (ih.ll y (er y hy)) ul (by omega) (ih.lb y (er y hy)) ub
   ·show ∀ x∈d.2,x.natAbs<bg b (S.map (fun d=>(d.1,frd d.2 (upr (L.getD c []) i) i))++[(i,upr (L.getD c []) i)]).length
    rw [sl]
    rcases List.mem_append.mp hd with q | q
    ·obtain ⟨y,hy,rfl⟩:=List.mem_map.mp q
     exact frd_bg (ih.sl y hy) ul (by omega) (ih.sb y hy) ub
    ·rw [List.mem_singleton.mp q]
     exact fun x hx=>Nat.lt_of_lt_of_le (ub x hx) (bg_mono (Nat.le_succ _))
   ·show ((L.eraseIdx c).map _).length+(S.map (fun d=>(d.1,frd d.2 (upr (L.getD c []) i) i))++[(i,upr (L.getD c []) i)]).length=_
    rw [sl,List.length_map,List.length_eraseIdx]
    have hc:c<L.length:=hc
    rw [if_pos hc]
    have:L.length+S.length=R.length:=ih.ct
    omega
theorem told_okS {b w n:Nat} {R L:List (List Int)} {S:List (Nat×List Int)} (inv:InvB b w n R w L S) (sw:S.length≤w) (sb:∀ c∈S,∀ x∈c.2,x.natAbs<bg b S.length):TOk ((b+1)*2^S.length-1) w (toldL w S):=by
 have ok:=told_ok inv sw
 refine ⟨ok.ll,ok.aw,ok.pos,ok.zer,ok.oth,fun c hc=>?_,ok.sg,ok.tw⟩
 obtain ⟨d,hd,rfl⟩:=List.mem_map.mp hc
 exact low_abs fun x hx=>sb d hd x (List.mem_of_mem_take hx)
theorem free_lt {l:List Nat} {w j:Nat} (hp:l.Pairwise (· < ·)) (hw:∀ k∈l,k<w) (jw:j<w) (jn:j∉l):l.length<w:=by
 have nd:(j::l).Nodup:=List.nodup_cons.mpr ⟨jn,hp.imp fun h=>Nat.ne_of_lt h⟩
 have lt:∀ k∈j::l,k<w:=fun k hk=>by
  rcases List.mem_cons.mp hk with e | e
  ·omega
  ·exact hw k e
 have key:∀ (w:Nat) (l:List Nat),l.Nodup→(∀ k∈l,k<w)→l.length≤w:=by
  intro w
  induction w with
  | zero =>
   intro l _ h
   cases l with
   | nil=>exact Nat.le_refl _
   | cons a l=>exact absurd (h a (List.mem_cons_self ..)) (Nat.not_lt_zero _)
  | succ w ih =>
   intro l nd h
   by_cases m:w∈l
   ·have:=ih (l.erase w) (nd.erase w) fun k hk=>by
     have h1:=h k (List.mem_of_mem_erase hk)
     have h2:k≠w:=fun e=>by
      rw [e] at hk
      exact (List.Nodup.not_mem_erase nd) hk
     omega
    rw [List.length_erase_of_mem m] at this
    omega
   ·have:=ih l nd fun k hk=>by
     have h1:=h k hk
     have h2:k≠w:=fun e=>m (e ▸ hk)
     omega
    omega
 exact key w (j::l) nd lt
end L2
namespace L2
open PySem PySem.Spec PyProof.Rows SeqAt
section
variable {X:Cx}
end
theorem dec_intS {i j:Int}:decide (V.int i=V.int j)=decide (i=j):=by
 by_cases h:i=j
 ·rw [h,decide_eq_true rfl,decide_eq_true rfl]
 ·rw [decide_eq_false h,decide_eq_false fun e=>h (by injection e)]
def mulP (n p:Int):Bool:=if p=0 then decide (n=0) else decide (n%p=0)
end L2
namespace L2
open PySem PySem.Spec PyProof.Rows SeqAt
theorem clr_inv {b w:Nat} {R:List (List Int)} (hw:∀ r∈R,r.length=w) (hb:∀ r∈R,∀ x∈r,x.natAbs<2^b) (b1:1≤b):∀ {i:Nat},i≤w→InvB b w R.length R i (clrI R i).1 (clrI R i).2∧(clrI R i).2.length≤i
 | 0,_=>⟨invB_start hw hb b1,Nat.le_refl _⟩
 | i+1,hi=>by
  obtain ⟨inv,sl⟩:=clr_inv hw hb b1 (i:=i) (by omega)
  by_cases no:∀ r∈(clrI R i).1,r.getD i 0=0
  ·rw [clr_none no]
   exact ⟨inv.skip no,by omega⟩
  ·obtain ⟨c,hc,h1,h2⟩:=first_ix [] no
   rw [clr_some hc h1 h2]
   generalize clrI R i=P at inv sl hc h1 h2
   obtain ⟨L,S⟩:=P
   have hc:c<L.length:=hc
   have rm:L.getD c []∈L:=by
    rw [List.getD_eq_getElem?_getD,List.getElem?_eq_getElem hc]
    exact List.getElem_mem _
   have rOk:=inv.rl _ rm
   have rzz:=inv.rz _ rm
   have h1:(L.getD c []).getD i 0≠0:=h1
   have ln0:0<(upr (L.getD c []) i).getD i 0:=by
    rw [upr_at rOk.1 i (by omega)]
    split<;>omega
   have lnz:∀ j,j<i→(upr (L.getD c []) i).getD j 0=0:=fun j hj=>by
    rw [upr_at rOk.1 j (by omega),rzz j hj]
    split<;>rfl
   have sl:S.length≤i:=sl
   exact ⟨inv.take (by omega) (fun y hy=>List.mem_of_mem_eraseIdx hy) (fun y hy=>mem_erase_or hy) rOk.1 rfl rOk.upr lnz ln0,by show (S.map _++[_]).length≤_; rw [List.length_append,List.length_map]; show S.length+1≤i+1; omega⟩
end L2
namespace L2
open PySem PySem.Spec PyProof.Rows SeqAt
abbrev tf (R:List (List Int)):Nat→Vc:=fun i k=>(R.getD i []).getD k 0
theorem lsm_sum (m:Nat) (f:Nat→Int):((List.range m).map f).sum=lsm m f:=by
 induction m with
 | zero=>rfl
 | succ m ih=>rw [List.range_succ,List.map_append,List.sum_append,ih]; show _+(f m+0)=lsm m f+f m; omega
theorem Lat.congrB {w m:Nat} {B B':Nat→Vc} {v:Vc} (e:∀ i,i<m→∀ k,k<w→B i k=B' i k) (h:Lat w m B v):Lat w m B' v:=let ⟨c,hc⟩:=h; ⟨c,fun k hk=>by rw [hc k hk]; exact lsm_congr fun i hi=>by rw [e i hi k hk]⟩
theorem lsm_swap (a b:Nat) (f:Nat→Nat→Int):lsm a (fun i=>lsm b fun j=>f i j)=lsm b fun j=>lsm a fun i=>f i j:=by
 induction a with
 | zero=>exact (lsm_zero fun _ _=>rfl).symm
 | succ a ih=>show lsm a _+lsm b _=_; rw [ih,← lsm_add]; rfl
theorem lat_dot {w:Nat} {R:List (List Int)} {v y:List Int} (h:Lat w R.length (tf R) fun k=>v.getD k 0) (hy:∀ r∈R,dotW w y r=0):dotW w y v=0:=by
 obtain ⟨c,hc⟩:=h
 unfold dotW
 rw [lsm_sum]
 have e1:(lsm w fun k=>y.getD k 0*v.getD k 0)=lsm w fun k=>lsm R.length fun i=>c i*(y.getD k 0*(R.getD i []).getD k 0):=lsm_congr fun k hk=>by
  rw [show v.getD k 0=_ from hc k hk,← lsm_mul]
  exact lsm_congr fun i _=>Int.mul_left_comm ..
 rw [e1,lsm_swap]
 refine lsm_zero fun i hi=>?_
 rw [lsm_mul]
 have h1:=hy _ (getDm hi)
 unfold dotW at h1
 rw [lsm_sum] at h1
 rw [h1,Int.mul_zero]
theorem made_lat {w:Nat} {R:List (List Int)} {r:List Int} (h:Made w R.length R r):Lat w R.length (tf R) fun k=>r.getD k 0:=⟨fun i=>r.getD (w+i) 0,fun k hk=>by
 show r.getD k 0=_
 rw [h k hk]
 unfold mkS
 exact lsm_sum ..⟩
theorem clr_keeps {R:List (List Int)} {p:Nat}:∀ {i:Nat},p+1≤i→p∈(clrI R i).2.map Prod.fst→p∈(clrI R (p+1)).2.map Prod.fst
 | i+1,hi,h=>by
  by_cases e:p=i
  ·subst e; exact h
  ·refine clr_keeps (i:=i) (by omega) ?_
   by_cases no:∀ r∈(clrI R i).1,r.getD i 0=0
   ·rw [clr_none no] at h; exact h
   ·obtain ⟨c,hc,h1,h2⟩:=first_ix [] no
    rw [clr_some hc h1 h2,List.map_append,List.map_map] at h
    rcases List.mem_append.mp h with z | z
    ·exact z
    ·have:p=i:=by simpa using z
     exact absurd this e
theorem tame_all {b w:Nat} {R:List (List Int)} (hw:∀ r∈R,r.length=w) (hb:∀ r∈R,∀ x∈r,x.natAbs<2^b) (b1:1≤b) (w6:w≤6) (e1:(b+1)*2^w≤1984):Tame w (tf R) R.length:=by
 obtain ⟨inv,sw⟩:=clr_inv hw hb b1 (i:=w) (Nat.le_refl _)
 have ok:=told_ok inv sw
 have fm:(toldL w (clrI R w).2).map Prod.fst=(clrI R w).2.map Prod.fst:=by rw [List.map_map]; rfl
 have lead:∀ p,p<w→Leads w (tf R) R.length p→p∈(toldL w (clrI R w).2).map Prod.fst:=fun p hp ⟨u,h1,h2,h3⟩=>by
  rw [piv_iff ok hp]
  intro y k1 k2
  have hu:∀ k,k<w→((List.range w).map u).getD k 0=u k:=fun k hk=>range_get u hk
  have d:=lat_dot (v:=(List.range w).map u) (h1.congr fun k hk=>hu k hk) ((told_iff inv y).mp k1)
  rw [dot_one hp fun k hk ne=>?_,hu p hp] at d
  ·rcases Int.mul_eq_zero.mp d with z | z
   ·exact z
   ·exact absurd z h3
  ·rw [hu k hk]
   rcases Nat.lt_or_gt_of_ne ne with z | z
   ·rw [h2 k z,Int.mul_zero]
   ·rw [k2 k z hk,Int.zero_mul]
 refine ⟨fun p hp h=>?_,fun v e hv hp k hk=>?_⟩
 ·have h1:=lead p hp h
  rw [fm] at h1
  have h2:=clr_keeps (show p+1≤w by omega) h1
  obtain ⟨inv',_⟩:=clr_inv hw hb b1 (i:=p) (by omega)
  by_cases no:∀ r∈(clrI R p).1,r.getD p 0=0
  ·rw [clr_none no] at h2
   obtain ⟨c,hc,e⟩:=List.mem_map.mp h2
   have:=(inv'.sp c hc).1
   omega
  ·obtain ⟨r,hr,nz⟩:∃ r,r∈(clrI R p).1∧r.getD p 0≠0:=by
    refine Classical.byContradiction fun q=>no fun r hr=>Classical.byContradiction fun z=>q ⟨r,hr,z⟩
   have rb:=inv'.rl r hr
   refine ⟨fun k=>r.getD k 0,made_lat rb.2.2,fun k hk=>inv'.rz r hr k hk,nz,?_⟩
   have lp:p<r.length:=by rw [rb.1]; omega
   have l1:(r.getD p 0).natAbs<bg b p:=by rw [L2.getD_at lp]; exact rb.2.1 _ (List.getElem_mem lp)
   refine Nat.lt_of_lt_of_le l1 (Nat.pow_le_pow_right (by decide) ?_)
   have e2:(b+1)*2^(p+1)≤(b+1)*2^w:=Nat.mul_le_mul_left _ (Nat.pow_le_pow_right (by decide) (by omega))
   rw [Nat.pow_succ,← Nat.mul_assoc] at e2
   omega
 ·by_cases hk1:k∈(toldL w (clrI R w).2).map Prod.fst
  ·refine (hp k hk ?_).mono (by omega)
   rw [fm] at hk1
   obtain ⟨c,hc,rfl⟩:=List.mem_map.mp hk1
   exact ⟨fun k=>c.2.getD k 0,made_lat (inv.sl c hc).2.2,(inv.sp c hc).2.2,Int.ne_of_gt (inv.sp c hc).2.1⟩
  ·have nj:∀ c∈toldL w (clrI R w).2,c.1≠k:=fun c hc e=>hk1 (List.mem_map.mpr ⟨c,hc,e⟩)
   have rw_:=rawW_ok ok hk nj
   have hu:∀ i,i<w→((List.range w).map v).getD i 0=v i:=fun i hi=>range_get v hi
   have kd:=(told_iff inv _).mp (raw_kills ok hk nj rw_)
   have d:=lat_dot (v:=(List.range w).map v) (hv.congr fun k hk=>hu k hk) kd
   have scp:=prod_pos ok
   generalize hsc:prodL (pivs (toldL w (clrI R w).2))=sc at rw_ scp
   have each:∀ i,i<w→i≠k→((rawW w (toldL w (clrI R w).2) k).getD i 0*v i).natAbs≤sc.natAbs*2^(1983+e):=fun i hi ne=>by
    by_cases q:∃ c∈toldL w (clrI R w).2,c.1=i
    ·obtain ⟨c,hc,rfl⟩:=q
     have vb:=hp c.1 hi (by
      have:c.1∈(clrI R w).2.map Prod.fst:=by rw [← fm]; exact List.mem_map.mpr ⟨c,hc,rfl⟩
      obtain ⟨d,hd,e⟩:=List.mem_map.mp this
      rw [← e]
      exact ⟨fun k=>d.2.getD k 0,made_lat (inv.sl d hd).2.2,(inv.sp d hd).2.2,Int.ne_of_gt (inv.sp d hd).2.1⟩)
     rw [rw_.pv c hc,Int.natAbs_mul,Int.natAbs_mul,Int.natAbs_neg]
     have l1:(c.2.getD k 0).natAbs≤2^1983:=by
      have lk:k<c.2.length:=by rw [ok.ll c hc]; exact hk
      rw [L2.getD_at lk]
      exact Nat.le_of_lt (Nat.lt_of_lt_of_le (ok.bl c hc _ (List.getElem_mem lk)) (Nat.pow_le_pow_right (by decide) (by omega)))
     have l2:(sc/c.2.getD c.1 0).natAbs≤sc.natAbs:=by
      have pc:=ok.pos c hc
      have a1:=Int.ediv_le_self (a:=sc) (c.2.getD c.1 0) (by omega)
      have a2:=Int.ediv_nonneg (a:=sc) (b:=c.2.getD c.1 0) (by omega) (by omega)
      omega
     have l3:(v c.1).natAbs≤2^e:=Nat.le_of_lt vb
     have m1:=Nat.mul_le_mul (Nat.mul_le_mul l1 l2) l3
     refine Nat.le_trans m1 (Nat.le_of_eq ?_)
     rw [Nat.pow_add,Nat.mul_comm (2^1983) sc.natAbs,Nat.mul_assoc]
    ·rw [rw_.no i hi ne fun c hc e=>q ⟨c,hc,e⟩,Int.zero_mul]
     exact Nat.zero_le _
   have tot:∀ m,m≤w→((List.range m).map fun i=>if i=k then 0 else (rawW w (toldL w (clrI R w).2) k).getD i 0*v i).sum.natAbs≤m*(sc.natAbs*2^(1983+e)):=by
    intro m
    induction m with
    | zero=>intro _; exact Nat.zero_le _
    | succ m ih =>
     intro hm
     rw [List.range_succ,List.map_append,List.sum_append,Nat.succ_mul]
     have i1:=ih (by omega)
     have i2:(([m].map fun i=>if i=k then 0 else (rawW w (toldL w (clrI R w).2) k).getD i 0*v i).sum).natAbs≤sc.natAbs*2^(1983+e):=by
      simp only [List.map_cons,List.map_nil,List.sum_cons,List.sum_nil,Int.add_zero]
      by_cases q:m=k
      ·rw [if_pos q]; exact Nat.zero_le _
      ·rw [if_neg q]; exact each m (by omega) q
     omega
   have spl:dotW w (rawW w (toldL w (clrI R w).2) k) ((List.range w).map v)=sc*v k+((List.range w).map fun i=>if i=k then 0 else (rawW w (toldL w (clrI R w).2) k).getD i 0*v i).sum:=by
    unfold dotW
    have:∀ m,m≤w→((List.range m).map fun i=>(rawW w (toldL w (clrI R w).2) k).getD i 0*((List.range w).map v).getD i 0).sum=(if k<m then sc*v k else 0)+((List.range m).map fun i=>if i=k then 0 else (rawW w (toldL w (clrI R w).2) k).getD i 0*v i).sum:=by
     intro m
     induction m with
     | zero=>intro _; simp
     | succ m ih =>
      intro hm
      simp only [List.range_succ,List.map_append,List.map_cons,List.map_nil,List.sum_append,List.sum_cons,List.sum_nil,Int.add_zero]
      rw [ih (by omega),hu m (by omega)]
      by_cases q:m=k
      ·subst q
       rw [if_neg (Nat.lt_irrefl m),if_pos (Nat.lt_succ_self m),if_pos rfl,rw_.at_]
       omega
      ·rw [if_neg q]
       by_cases z:k<m
       ·rw [if_pos z,if_pos (by omega)]; omega
       ·rw [if_neg z,if_neg (by omega)]; omega
    rw [this w (Nat.le_refl _),if_pos hk]
   rw [spl] at d
   have t6:=tot w (Nat.le_refl _)
   have a1:(sc*v k).natAbs≤w*(sc.natAbs*2^(1983+e)):=by
    have:sc*v k = - ((List.range w).map fun i=>if i=k then 0 else (rawW w (toldL w (clrI R w).2) k).getD i 0*v i).sum:=by omega
    rw [this,Int.natAbs_neg]
    exact t6
   rw [Int.natAbs_mul,Nat.mul_left_comm] at a1
   have a2:(v k).natAbs≤w*2^(1983+e):=Nat.le_of_mul_le_mul_left a1 (by omega)
   show (v k).natAbs<2^(e+1990)
   have a3:w*2^(1983+e)<2^3*2^(1983+e):=Nat.mul_lt_mul_of_pos_right (by omega) (Nat.two_pow_pos _)
   rw [← Nat.pow_add] at a3
   exact Nat.lt_of_lt_of_le (Nat.lt_of_le_of_lt a2 a3) (Nat.pow_le_pow_right (by decide) (by omega))
theorem tame_of {b w:Nat} {R:List (List Int)} (hw:∀ r∈R,r.length=w) (hb:∀ r∈R,∀ x∈r,x.natAbs<2^b) (b1:1≤b) (w6:w≤6) (e1:(b+1)*2^w≤1984) {m:Nat} (hm:m≤R.length):Tame w (tf R) m:=by
 have T:=tame_all (R:=R.take m) (fun r hr=>hw r (List.mem_of_mem_take hr)) (fun r hr=>hb r (List.mem_of_mem_take hr)) b1 w6 e1
 have lm:(R.take m).length=m:=by rw [List.length_take]; omega
 rw [lm] at T
 have e:∀ i,i<m→∀ k,k<w→tf (R.take m) i k=tf R i k:=fun i hi k _=>by
  have h:(R.take m).getD i []=R.getD i []:=by rw [List.getD_eq_getElem?_getD,List.getElem?_take,if_pos hi,← List.getD_eq_getElem?_getD]
  show ((R.take m).getD i []).getD k 0=(R.getD i []).getD k 0
  rw [h]
 have e':∀ i,i<m→∀ k,k<w→tf R i k=tf (R.take m) i k:=fun i hi k hk=>(e i hi k hk).symm
 refine ⟨fun p hp ⟨u,h1,h2,h3⟩=>?_,fun v d hv hp=>T.mb v d (hv.congrB e') fun p hp' ⟨u,h1,h2,h3⟩=>hp p hp' ⟨u,h1.congrB e,h2,h3⟩⟩
 obtain ⟨u,a1,a2,a3,a4⟩:=T.pv p hp ⟨u,h1.congrB e',h2,h3⟩
 exact ⟨u,a1.congrB e,a2,a3,a4⟩
end L2
namespace L2
structure SetB (w:Nat) (R:Nat→Vc) (m:Nat) (ζ:Nat→Nat) (q c:Nat) (D:Nat→Vc):Prop where
 ech:Ech w D
 la:∀ i,i<m→Lat w w D (R i)
 al:∀ q,q<w→Lat w m R (D q)
 st:∀ a b,q≤a→a<b→b<w→0<D b b→0≤D a b∧D a b<D b b
 old:∀ a,a<q→a<w→∀ k,Bd (ζ k+11199) (D a k)
 new:∀ a,q≤a→a<w→∀ k,Bd (ζ k+11199+(c-1)*19152) (D a k)
theorem PutE.setB {w:Nat} {R:Nat→Vc} {m:Nat} {ζ:Nat→Nat} {D:Nat→Vc} (h:PutE w R m ζ D):SetB w R m ζ w 0 D :=
 ⟨h.ech,h.la,h.al,fun a b wa ab hb=>absurd hb (by omega),fun a _ ha k=>h.dk a ha k,fun a wa ha=>absurd ha (by omega)⟩
theorem SetB.enter {w:Nat} {R:Nat→Vc} {m:Nat} {ζ:Nat→Nat} {q c:Nat} {D:Nat→Vc} (h:SetB w R m ζ q c D) (zm:∀ k,k<w→ζ k=2982) {p:Nat} (hp:p<q) (pw:p<w) (no:∀ a,p<a→a<q→a<w→D a a=0):Sett w R m ζ p (c-1) (p+1) 0 D:=by
 have z:∀ a,p<a→a<q→a<w→∀ k,D a k=0:=fun a pa aq aw=>h.ech.no a aw (no a pa aq aw)
 refine ⟨h.ech,h.la,h.al,fun a b pa ab hb pb=>?_,fun b qb bj=>absurd bj (by omega),fun a ap ha k=>h.old a (by omega) ha k,fun a pa ha k=>?_,fun k=>(h.old p hp pw k).mono (by omega),fun _ k=>h.old p hp pw k,fun k hk _=>by have:=h.old p hp pw k; rw [zm k hk] at this; exact this⟩
 ·by_cases e:a<q
  ·rw [z a pa e (by omega) b]; omega
  ·exact h.st a b (by omega) ab hb pb
 ·by_cases e:a<q
  ·rw [z a pa e ha k]; exact Bd.zero _
  ·exact h.new a (by omega) ha k
theorem Sett.upto {w:Nat} {R:Nat→Vc} {m:Nat} {ζ:Nat→Nat} {q s t:Nat} {D:Nat→Vc}:∀ {d j:Nat},Sett w R m ζ q s j t D→(∀ a,j≤a→a<j+d→q<a→a<w→D a a=0)→Sett w R m ζ q s (j+d) t D
 | 0,j,h,_=>h
 | d+1,j,h,no=>by
  have h1:=Sett.upto (d:=d) (j:=j+1) (h.pass fun ⟨a1,a2,a3⟩=>a3 (no j (Nat.le_refl _) (by omega) a1 a2)) fun a a1 a2=>no a (by omega) (by omega)
  rw [show j+1+d=j+(d+1) by omega] at h1
  exact h1
theorem Sett.leave {w:Nat} {R:Nat→Vc} {m:Nat} {ζ:Nat→Nat} {q c j t:Nat} {D:Nat→Vc} (h:Sett w R m ζ q (c-1) j t D) (qw:q<w) (hj:w≤j) (t5:t≤5) (tc:t≤c):SetB w R m ζ q (c+1) D:=by
 refine ⟨h.ech,h.la,h.al,fun a b qa ab hb pb=>?_,h.old,fun a qa ha k=>?_⟩
 ·by_cases e:a=q
  ·subst e; exact h.sq b ab (by omega) hb pb
  ·exact h.st a b (by omega) ab hb pb
 ·by_cases e:a=q
  ·subst e
   by_cases t0:t=0
   ·exact (h.ow0 t0 k).mono (by omega)
   ·exact (h.own k).mono (by omega)
  ·exact (h.new a (by omega) ha k).mono (by omega)
theorem SetB.done {w:Nat} {R:Nat→Vc} {m:Nat} {ζ:Nat→Nat} {q c:Nat} {D:Nat→Vc} (h:SetB w R m ζ q c D) (no:∀ a,a<q→a<w→D a a=0) (c6:c≤6):Lad w R m D∧∀ a,a<w→∀ k,Bd (ζ k+106959) (D a k):=by
 have z:∀ a,a<q→a<w→∀ k,D a k=0:=fun a aq aw=>h.ech.no a aw (no a aq aw)
 refine ⟨⟨h.ech,fun a b ab hb pb=>?_,h.la,h.al⟩,fun a ha k=>?_⟩
 ·by_cases e:a<q
  ·rw [z a e (by omega) b]; omega
  ·exact h.st a b (by omega) ab hb pb
 ·by_cases e:a<q
  ·rw [z a e ha k]; exact Bd.zero _
  ·exact (h.new a (by omega) ha k).mono (by omega)
theorem Lad.put {w:Nat} {R:Nat→Vc} {m:Nat} {ζ:Nat→Nat} {D:Nat→Vc} (L:Lad w R m D) (T:Tame w R m) (zm:∀ k,k<w→ζ k=2982) (hz:∀ a,a<w→∀ k,w≤k→Bd (ζ k) (D a k)) {r:Vc} (hr:∀ k,k<w→r k=R m k) (rb:∀ k,k<w→Bd 137 (r k)) (rk:∀ k,w≤k→Bd (ζ k) (r k)):Put w R m ζ 0 D r:=by
 have up:∀ {v},Lat w m R v→Lat w (m+1) R v:=fun h=>h.sub fun i hi=>Lat.gen (by omega)
 refine ⟨L.ech,fun k hk=>absurd hk (Nat.not_lt_zero _),fun i hi=>?_,fun q hq=>up (L.al q hq),(Lat.gen (show m<m+1 by omega)).congr hr,fun q k hq _ hk nk=>L.piv T hq hk nk,fun k _ hk _=>rb k hk,fun q _ hq k=>?_,fun q hq=>absurd hq (Nat.not_lt_zero _),fun k=>?_⟩
 ·by_cases e:i<m
  ·exact (L.la i e).sub fun q hq=>by
    have:=Lat.gen (w:=w) (B:=ext w D r) (show q<w+1 by omega)
    rw [ext_lt hq] at this
    exact this
  ·have:=Lat.gen (w:=w) (B:=ext w D r) (show w<w+1 by omega)
   rw [ext_eq] at this
   rw [show i=m by omega]
   exact this.congr fun k hk=>(hr k hk).symm
 ·by_cases e:k<w
  ·rw [zm k e]; exact L.main T hq e
  ·exact hz q hq k (by omega)
 ·by_cases e:k<w
  ·exact (rb k e).mono (by omega)
  ·exact (rk k (by omega)).mono (by omega)
theorem Lad.start (w:Nat) (R:Nat→Vc):Lad w R 0 fun _ _=>0 :=
 ⟨⟨fun _ _ _ _=>rfl,fun _ _=>Int.le_refl _,fun _ _ _ _=>rfl⟩,fun _ _ _ _ h=>absurd h (by decide),fun i hi=>absurd hi (Nat.not_lt_zero _),fun q _=>Lat.zero ..⟩
def MkV (w n:Nat) (R:Nat→Vc) (f:Vc):Prop:=∀ k,k<w→f k=lsm n fun i=>f (w+i)*R i k
theorem MkV.lin {w n:Nat} {R:Nat→Vc} {f g h:Vc} {x y:Int} (a:MkV w n R f) (b:MkV w n R g) (e:∀ k,h k=x*f k+y*g k):MkV w n R h:=fun k hk=>by
 rw [e k,a k hk,b k hk,← lsm_mul,← lsm_mul,← lsm_add]
 exact lsm_congr fun i _=>by rw [e (w+i),Int.add_mul,Int.mul_assoc,Int.mul_assoc]
theorem MkV.zero (w n:Nat) (R:Nat→Vc):MkV w n R fun _=>0:=fun k _=>(lsm_zero fun i _=>Int.zero_mul _).symm
theorem MkV.upr {w n:Nat} {R:Nat→Vc} {f:Vc} (p:Nat) (a:MkV w n R f):MkV w n R (uprV p f):=by
 rcases uprV_or p f with e | e
 ·exact a.lin (y:=0) a (x:=1) fun k=>by rw [e k]; omega
 ·exact a.lin (y:=0) a (x := -1) fun k=>by rw [e k]; omega
theorem MkV.wo {w n:Nat} {R:Nat→Vc} {f g:Vc} (p:Nat) (a:MkV w n R f) (b:MkV w n R g):MkV w n R (woV p f g):=a.lin (x:=1) (y := -((f p).fdiv (g p))) b fun k=>by
 show f k-_=_
 rw [Int.neg_mul]; omega
theorem Eu.mkV {w n:Nat} {R:Nat→Vc} {p:Nat} {A B one other:Vc} (E:Eu p A B one other) (a:MkV w n R A) (b:MkV w n R B):MkV w n R one∧MkV w n R other:=by
 obtain ⟨⟨x,y,x',y',e1,e2,_⟩,_⟩:=E
 exact ⟨a.lin b e1,a.lin b e2⟩
theorem EuW.bd {p:Nat} {A B one other:Vc} (E:EuW p A B one other) {k e:Nat} (bA:Bd 992 (A p)) (bB:Bd 5102 (B p)) (hA:Bd e (A k)) (hB:Bd (e+5102) (B k)):Bd (e+11204) (one k)∧Bd (e+11204) (other k):=by
 obtain ⟨⟨x,y,x',y',e1,e2,_,c1,c2,bx,by_⟩,nz,_⟩:=E
 have o1:1≤(one p).natAbs:=by omega
 have lx:x'.natAbs≤(B p).natAbs:=by have:=Nat.mul_le_mul_left x'.natAbs o1; omega
 have ly:y'.natAbs≤(A p).natAbs+2*(B p).natAbs:=by have:=Nat.mul_le_mul_left y'.natAbs o1; omega
 have cy:∀ {z:Int},z.natAbs≤(A p).natAbs+2*(B p).natAbs→Bd 5104 z:=fun {z} h=>by
  show z.natAbs<_
  have a1:(A p).natAbs<2^5102:=(bA.mono (by omega):Bd _ _)
  have a2:(B p).natAbs<2^5102:=bB
  rw [show 5104=5102+2 from rfl,Nat.pow_add _ _ 2]
  omega
 refine ⟨?_,?_⟩
 ·rw [e1 k]
  exact ((((Bd.of_le bB bx).mul hA).mono (show _≤e+11203 by omega)).add (((cy by_).mul hB).mono (by omega))).mono (by omega)
 ·rw [e2 k]
  exact ((((Bd.of_le bB lx).mul hA).mono (show _≤e+11203 by omega)).add (((cy ly).mul hB).mono (by omega))).mono (by omega)
end L2
namespace L2
open PySem PySem.Spec PyProof.Rows
end L2
namespace L2
open PySem PySem.Spec PyProof.Rows
end L2
namespace L2
open PySem PySem.Spec PyProof.Rows
end L2
namespace L2
open PySem PySem.Spec PyProof.Rows
end L2
namespace L2
open PySem PySem.Spec PyProof.Rows
end L2
namespace L2
open PySem PySem.Spec PyProof.Rows
end L2
namespace L2
open PySem PySem.Spec PyProof.Rows
end L2
namespace L2
open PySem PySem.Spec PyProof.Rows
end L2
namespace L2
open PySem PySem.Spec PyProof.Rows
end L2
namespace L2
open PySem PySem.Spec PyProof.Rows
end L2
namespace L2
open PySem PySem.Spec PyProof.Rows
section
variable {κ:Type} [DecidableEq κ]
def valV (kvs:List (κ×V)) (k:κ):Option V:=(kvs.find? fun kv=>decide (kv.1=k)).map (·.2)
def putK (kvs:List (κ×V)) (k:κ) (v:V):List (κ×V) :=
 if (kvs.any fun kv=>decide (kv.1=k))=true then kvs.map (fun kv=>if kv.1=k then (kv.1,v) else kv) else kvs++[(k,v)]
theorem valV_pos {p:κ×V} {r:List (κ×V)} {k:κ} (e:p.1=k):valV (p::r) k=some p.2:=by simp [valV,List.find?_cons,e]
theorem valV_neg {p:κ×V} {r:List (κ×V)} {k:κ} (e:¬ p.1=k):valV (p::r) k=valV r k:=by simp [valV,List.find?_cons,e]
theorem valV_any (k:κ):∀ kvs:List (κ×V),(kvs.any fun kv=>decide (kv.1=k))=(valV kvs k).isSome
 | []=>rfl
 | p::r=>by
  rw [List.any_cons]
  by_cases e:p.1=k
  ·simp only [valV_pos e,decide_eq_true e,Bool.true_or,Option.isSome_some]
  ·rw [valV_neg e,decide_eq_false e,Bool.false_or]; exact valV_any k r
theorem length_putK (kvs:List (κ×V)) (k:κ) (v:V):(putK kvs k v).length≤kvs.length+1:=by
 unfold putK
 split
 ·rw [List.length_map]; omega
 ·rw [List.length_append,List.length_cons,List.length_nil]; omega
theorem RelO.isSome_eq {o:Option V} {u:Option Value} (r:RelO o u):o.isSome=u.isSome:=by
 cases o with
 | none=>cases u with
  | none=>rfl
  | some _=>exact (show False from r).elim
 | some _=>cases u with
  | none=>exact (show False from r).elim
  | some _=>rfl
theorem KV.val {kvs:List (κ×V)} {vs:List (κ×Value)} (r:KV kvs vs) (k:κ):RelO (valV kvs k) (valueAt vs k):=by
 unfold KV at r
 induction r with
 | nil=>exact True.intro
 | @cons p q ps qs h t ih =>
  obtain ⟨h1,h2⟩:=h
  by_cases e:p.1=k
  ·have e':q.1=k:=h1.symm.trans e
   have b:valueAt (q::qs) k=some q.2:=by simp [valueAt,List.find?_cons,e']
   rw [valV_pos e,b]; exact h2
  ·have e':¬ q.1=k:=fun z=>e (h1.trans z)
   have b:valueAt (q::qs) k=valueAt qs k:=by simp [valueAt,List.find?_cons,e']
   rw [valV_neg e,b]; exact ih
theorem KV.any {kvs:List (κ×V)} {vs:List (κ×Value)} (r:KV kvs vs) (k:κ):(kvs.any fun kv=>decide (kv.1=k))=vs.any fun kv=>decide (kv.1=k):=by
 unfold KV at r
 induction r with
 | nil=>rfl
 | cons h t ih=>rw [List.any_cons,List.any_cons,ih,h.1]
theorem KV.repl {kvs:List (κ×V)} {vs:List (κ×Value)} (r:KV kvs vs) (k:κ) {y:V} {u:Value} (ry:RelV y u) :
  KV (kvs.map fun kv=>if kv.1=k then (kv.1,y) else kv) (vs.map fun kv=>if kv.1=k then (kv.1,u) else kv):=by
 unfold KV at r ⊢
 induction r with
 | nil=>exact .nil
 | @cons p q ps qs h t ih =>
  rw [List.map_cons,List.map_cons]
  refine .cons ?_ ih
  obtain ⟨h1,h2⟩:=h
  by_cases e:p.1=k
  ·rw [if_pos e,if_pos (h1.symm.trans e)]; exact ⟨h1,ry⟩
  ·rw [if_neg e,if_neg (fun z=>e (h1.trans z))]; exact ⟨h1,h2⟩
theorem KV.put {kvs:List (κ×V)} {vs:List (κ×Value)} (r:KV kvs vs) (k:κ) {y:V} {u:Value} (ry:RelV y u):KV (putK kvs k y) (stored vs k u):=by
 unfold putK stored
 rw [r.any k]
 by_cases e:(vs.any fun kv=>decide (kv.1=k))=true
 ·rw [if_pos e,if_pos e]; exact r.repl k ry
 ·rw [if_neg e,if_neg e]; exact Paired.snoc r ⟨rfl,ry⟩
theorem KV.keys {kvs:List (κ×V)} {vs:List (κ×Value)} (r:KV kvs vs):kvs.map (·.1)=vs.map (·.1):=by
 unfold KV at r
 induction r with
 | nil=>rfl
 | cons h t ih=>rw [List.map_cons,List.map_cons,ih,h.1]
theorem KV.length {kvs:List (κ×V)} {vs:List (κ×Value)} (r:KV kvs vs):kvs.length=vs.length:=Paired.length r
end
theorem kV_is {P:Program} {w:World} {k:Key} {u:Value} (r:RelV (kV k) u):(mixKind P w).is k u=true:=by
 cases k with
 | inl i=>obtain ⟨t,e⟩:=(show ∃ t,u=Value.int i t from r); subst e; exact mixKind_int P w i t
 | inr x=>obtain ⟨t,e⟩:=(show ∃ t,u=Value.str x t from r); subst e; exact mixKind_str P w x t
theorem items_are {P:Program} {w:World}:∀ {ks:List Key} {us:List Value},Vals (ks.map kV) us→ItemsAre (mixKind P w) ks us
 | [],_,r=>by rw [List.map_nil] at r; cases r; exact .nil
 | k::ks,_,r=>by
  rw [List.map_cons] at r
  cases r with
  | cons h t=>exact .cons (kV_is h) (items_are t)
abbrev KT (H:Hp):List (List Key×V)→List (List Key×Addr×Value)→Prop:=Paired fun p q=>p.1=q.1∧H q.2.1=some (.tup (p.1.map kV))∧RelV p.2 q.2.2
theorem KT.val {H:Hp} {kvs:List (List Key×V)} {xs:List (List Key×Addr×Value)} (r:KT H kvs xs) (k:List Key):RelO (valV kvs k) ((atKey xs k).map (·.2)):=by
 induction r with
 | nil=>exact True.intro
 | @cons p q ps qs h t ih =>
  obtain ⟨h1,_,h2⟩:=h
  by_cases e:p.1=k
  ·have e':q.1=k:=h1.symm.trans e
   have b:atKey (q::qs) k=some q.2:=by simp [atKey,List.find?_cons,e']
   rw [valV_pos e,b]; exact h2
  ·have e':¬ q.1=k:=fun z=>e (h1.trans z)
   have b:atKey (q::qs) k=atKey qs k:=by simp [atKey,List.find?_cons,e']
   rw [valV_neg e,b]; exact ih
theorem KT.repl {H:Hp} {kvs:List (List Key×V)} {xs:List (List Key×Addr×Value)} (r:KT H kvs xs) (k:List Key) {y:V} {u:Value} (ry:RelV y u) :
  KT H (kvs.map fun kv=>if kv.1=k then (kv.1,y) else kv) (xs.map (putAt k u)):=by
 induction r with
 | nil=>exact .nil
 | @cons p q ps qs h t ih =>
  rw [List.map_cons,List.map_cons]
  refine .cons ?_ ih
  obtain ⟨h1,h2,h3⟩:=h
  unfold putAt
  by_cases e:p.1=k
  ·rw [if_pos e,if_pos (h1.symm.trans e)]; exact ⟨h1,h2,ry⟩
  ·rw [if_neg e,if_neg (fun z=>e (h1.trans z))]; exact ⟨h1,h2,h3⟩
theorem KT.put {H:Hp} {kvs:List (List Key×V)} {xs:List (List Key×Addr×Value)} (r:KT H kvs xs) (k:List Key) {b:Addr} {y:V} {u:Value} (hb:H b=some (.tup (k.map kV))) (ry:RelV y u) :
  KT H (putK kvs k y) (storedH xs k b u):=by
 have e:(kvs.any fun kv=>decide (kv.1=k))=(atKey xs k).isSome:=by
  rw [valV_any,(r.val k).isSome_eq,Option.isSome_map]
 unfold putK storedH
 rw [e]
 by_cases q:(atKey xs k).isSome=true
 ·rw [if_pos q,if_pos q]; exact r.repl k ry
 ·rw [if_neg q,if_neg q]; exact Paired.snoc r ⟨rfl,hb,ry⟩
theorem KT.keeps {H H':Hp} {kvs:List (List Key×V)} {xs:List (List Key×Addr×Value)} (r:KT H kvs xs) (ht:∀ b ys,H b=some (.tup ys)→H' b=some (.tup ys)):KT H' kvs xs :=
 Paired.mapP r fun _ _ z=>⟨z.1,ht _ _ z.2.1,z.2.2⟩
section
variable {P:Program} {w:World} {H:Hp} {h:Heap} {a:Addr}
theorem rd_of {u:HO} (ok:HOk P w H h) (e:Rd H a u):ObjOk P w H h a u:=e.ok ok
theorem dk_rd {kvs:List (Key×V)} (ok:HOk P w H h) (e:Rd H a (.dK kvs)):kvs.length≤sizeLine∧(a==sysModules)=false∧∃ vs,KV kvs vs∧h.DictOf (mixKind P w) a vs :=
 show ObjOk P w H h a (.dK kvs) from rd_of ok e
theorem dk_of {kvs:List (Key×V)} (ok:HOk P w H h) (e:H a=some (.dK kvs)):kvs.length≤sizeLine∧(a==sysModules)=false∧∃ vs,KV kvs vs∧h.DictOf (mixKind P w) a vs:=dk_rd ok (.inl e)
theorem key_of {ks:List Key} (ok:HOk P w H h) (e:H a=some (.tup (ks.map kV))):(tupleKind (mixKind P w)).is h ks a:=by
 obtain ⟨_,its,r,o,h1,h2,n,h3⟩:=(show ObjOk P w H h a (.tup (ks.map kV)) from ok a _ e)
 exact ⟨o,its.toArray,n,h1,h2,h3,by simpa using items_are r⟩
theorem dt_rd {kvs:List (List Key×V)} (ok:HOk P w H h) (e:Rd H a (.dT kvs)):kvs.length≤sizeLine∧(a==sysModules)=false ∧
  ∃ xs,KT H kvs xs∧h.DictOfH (tupleKind (mixKind P w)) a xs:=by
 obtain ⟨z,y,xs,r,o,es,ep,h1,h2,h3,h4,h5⟩:=(show ObjOk P w H h a (.dT kvs) from rd_of ok e)
 refine ⟨z,y,xs,r,o,es,ep,h1,h2,h3,h4,fun x hx=>?_,h5⟩
 have all:∀ {l:List (List Key×V)} {m:List (List Key×Addr×Value)},KT H l m→∀ x∈m,(tupleKind (mixKind P w)).is h x.1 x.2.1:=by
  intro l m q
  induction q with
  | nil=>intro x hx; exact nomatch hx
  | @cons p q ps qs hq t ih =>
   intro x hx
   rcases List.mem_cons.mp hx with e | hx
   ·subst e
    exact key_of ok (by rw [← hq.1]; exact hq.2.1)
   ·exact ih x hx
 exact all r x hx
theorem dt_of {kvs:List (List Key×V)} (ok:HOk P w H h) (e:H a=some (.dT kvs)):kvs.length≤sizeLine∧(a==sysModules)=false ∧
  ∃ xs,KT H kvs xs∧h.DictOfH (tupleKind (mixKind P w)) a xs:=dt_rd ok (.inl e)
end
def DGet (H:Hp) (a:Addr) (y:V) (r:Option V):Prop :=
 (∃ kvs k,Rd H a (.dK kvs)∧y=kV k∧r=valV kvs k)∨∃ kvs k b,Rd H a (.dT kvs)∧y=.ref b∧H b=some (.tup (k.map kV))∧r=valV kvs k
def DPut (H:Hp) (a:Addr) (y v:V) (H':Hp):Prop :=
 (∃ kvs k,H a=some (.dK kvs)∧y=kV k∧kvs.length<sizeLine∧H'=upd H a (.dK (putK kvs k v))) ∨
 ∃ kvs k b,H a=some (.dT kvs)∧y=.ref b∧H b=some (.tup (k.map kV))∧kvs.length<sizeLine∧H'=upd H a (.dT (putK kvs k v))
theorem DGet.k {H:Hp} {a:Addr} {kvs:List (Key×V)} {k:Key} (e:H a=some (.dK kvs)):DGet H a (kV k) (valV kvs k):=.inl ⟨kvs,k,.inl e,rfl,rfl⟩
theorem DPut.k {H:Hp} {a:Addr} {kvs:List (Key×V)} {k:Key} {v:V} (e:H a=some (.dK kvs)) (hl:kvs.length<sizeLine):DPut H a (kV k) v (upd H a (.dK (putK kvs k v))):=.inl ⟨kvs,k,e,rfl,hl,rfl⟩
section
variable {X:Cx} {pins:List (Addr×Obj)} {σ:St} {H:Hp} {s:Shared} {a:Addr} {y v:V} {u r:Value} {o:Option V} {A:Around} {E:Value→Shared→Prop}
theorem Inv.big (I:Inv X pins σ H s):sysModules<s.heap.objs.size:=by
 have h:mainGlobals<s.heap.objs.size:=(I.mod.glob.keeps I.bk).lt
 exact Nat.lt_trans (by decide) h
theorem d_getItem {Q:Value→Shared→Prop} (hu:A.units+1<cLine) (I:Inv X pins σ H s) (g:DGet H a y (some v)) (ry:RelV y u) (h:∀ w' s',Inv X pins σ H s'→RelV v w'→Q w' s') :
  wpAny (model X.prog X.w) A (getItem (.ref a) u) Q E s:=by
 rcases g with ⟨kvs,k,e,ey,l⟩ | ⟨kvs,k,b,e,ey,eb,l⟩
 ·subst ey
  obtain ⟨z,hd,vs,rel,dd⟩:=dk_rd I.hok e
  obtain ⟨w',hw,rw'⟩:=RelO.some_of (v:=v) (o:=valueAt vs k) (by rw [l]; exact rel.val k)
  exact wpAny_getItem_of (kV_is ry) dd.mapOf hw (h w' _ (I.tok _) rw')
 ·subst ey
  cases (show u=Value.ref b from ry)
  obtain ⟨z,hd,xs,rel,dd⟩:=dt_rd I.hok e
  obtain ⟨w',hw,rw'⟩:=RelO.some_of (v:=v) (o:=(atKey xs k).map (·.2)) (by rw [l]; exact rel.val k)
  obtain ⟨p,hp,hp2⟩:=Option.map_eq_some_iff.mp hw
  refine wpAny_getItem_heap (tupleKind_room_in1 hu) (key_of I.hok eb) dd hp ?_
  rw [hp2]
  exact h w' _ (I.tok _) rw'
theorem d_notIn {Q:Value→Shared→Prop} (hu:A.units+1<cLine) (I:Inv X pins σ H s) (g:DGet H a y o) (ry:RelV y u) (h:∀ s',Inv X pins σ H s'→Q (.bool (!o.isSome)) s') :
  wpAny (model X.prog X.w) A (compareOp .NotIn u (.ref a)) Q E s:=by
 rcases g with ⟨kvs,k,e,ey,l⟩ | ⟨kvs,k,b,e,ey,eb,l⟩
 ·subst ey
  obtain ⟨z,hd,vs,rel,dd⟩:=dk_rd I.hok e
  refine wpAny_notIn_of (kV_is ry) hd dd.mapOf ?_
  rw [← (rel.val k).isSome_eq,← l]
  exact h _ (I.tok _)
 ·subst ey
  cases (show u=Value.ref b from ry)
  obtain ⟨z,hd,xs,rel,dd⟩:=dt_rd I.hok e
  refine wpAny_notIn_heap (tupleKind_room_in1 hu) (key_of I.hok eb) hd dd ?_
  have q:=(rel.val k).isSome_eq
  rw [Option.isSome_map] at q
  rw [← q,← l]
  exact h _ (I.tok _)
theorem d_write {h':Heap} {t':Nat} {ob:HO} (I:Inv X pins σ H s) (mu:Mut (H a)) (hs:Heap.SameBut a s.heap h') (he:∃ q,h'.get? a=some q) (new:ObjOk X.prog X.w (upd H a ob) h' a ob) :
  Inv X pins σ (upd H a ob) { s with heap:=h',toks:=t' } :=
 I.write (x:=a) (e:=a) mu (.inl rfl) (fun b q hb z=>(hs.2 b hb).trans z) he new
theorem dk_new {P:Program} {w:World} {H':Hp} {h':Heap} {kvs:List (Key×V)} {vs:List (Key×Value)} (z:kvs.length≤sizeLine) (hd:(a==sysModules)=false) (rel:KV kvs vs) (dd:h'.DictOf (mixKind P w) a vs) :
  ObjOk P w H' h' a (.dK kvs):=⟨z,hd,vs,rel,dd⟩
theorem d_setItem {H':Hp} {Q:Unit→Shared→Prop} (hu:A.units+1<cLine) (I:Inv X pins σ H s) (g:DPut H a y v H') (ry:RelV y u) (rv:RelV v r) (h:∀ s',Inv X pins σ H' s'→Q () s') :
  wpAny (model X.prog X.w) A (setItem (.ref a) u r) Q E s:=by
 rcases g with ⟨kvs,k,e,ey,l,eH⟩ | ⟨kvs,k,b,e,ey,eb,l,eH⟩
 ·subst ey eH
  obtain ⟨z,hd,vs,rel,dd⟩:=dk_of I.hok e
  have hz:vs.length≤sizeLine:=by rw [← rel.length]; exact z
  have hl:(putK kvs k v).length≤sizeLine:=by have:=length_putK kvs k v; omega
  refine wpAny_setItem_pairs (hsz:=hz) (kV_is ry) dd fun h' dd' hs=>h _ ?_
  have he:∃ q,h'.get? a=some q:=let ⟨q,_,_,hq,_⟩:=dd'; ⟨q,hq⟩
  exact d_write I (by rw [e]; exact True.intro) hs he (dk_new hl hd (rel.put k rv) dd')
 ·subst ey eH
  cases (show u=Value.ref b from ry)
  obtain ⟨z,hd,xs,rel,dd⟩:=dt_of I.hok e
  have hz:xs.length≤sizeLine:=by rw [← Paired.length rel]; exact z
  have hl:(putK kvs k v).length≤sizeLine:=by have:=length_putK kvs k v; omega
  refine wpAny_setItem_heap (hsz:=hz) (tupleKind_room_in1 hu) (key_of I.hok eb) dd fun h' dd' hs=>h _ ?_
  obtain ⟨q,es,ep,hq,h2,h3,h4,_,h5⟩:=dd'
  refine d_write I (by rw [e]; exact True.intro) hs ⟨q,hq⟩ ⟨hl,hd,_,(rel.put k eb rv).keeps fun c ys ec=>?_,q,es,ep,hq,h2,h3,h4,h5⟩
  rw [upd_ne (ne_of ec e (fun z=>nomatch z))]
  exact ec
end
def NoSl (i:Expr):Prop:=∀ ov iv,subscripted i false ov iv=operate [ov,iv] (getItem ov iv)
theorem subD_of {prog:Program} {w:World} {A:Around} {E:Value→Shared→Prop} {s:Shared} {env:Env} {value slice:Expr} {pos:Pos} {T id:String} {Q:Value→Shared→Prop}
  (hl:typeLookup (.type T) "__getitem__" = pure (some (.builtin id))) (hs:NoSl slice)
  (h:wpAny (model prog w) A (eval value env) (fun o s₁=>wpAny (model prog w) A (eval slice env) (fun i s₂=>s₂.TypeIs o T∧wpAny (model prog w) A (getItem o i) Q E s₂) E s₁) E s) :
  wpAny (model prog w) A (eval (.Subscript value slice pos) env) Q E s:=by
 refine Subscript_ (wpAny_mono h (fun o s₁ h₁=>wpAny_mono h₁ (fun i s₂ h₂=>?_) fun _ _ x=>x) fun _ _ x=>x)
 obtain ⟨hT,h₂⟩:=h₂
 unfold subscriptTail
 refine wpAny_bind ?_
 rw [getitemInPython_of_ne hT.not_modules]
 refine wpAny_bind (wpAny_specialOf hT hl ?_)
 have fin:wpAny (model prog w) A (subscripted slice false o i) (fun r s₃=>wpAny (model prog w) A (letTemporaryGo value o r >>= fun _=>pure r) Q E s₃) E s₂:=by
  rw [hs o i]
  exact wpAny_operating (wpAny_mono h₂ (fun r s₃ h₃=>wpAny_bind (wpAny_letTemporaryGo (wpAny_pure h₃))) fun _ _ x=>x)
 first
  | exact wpAny_pure (wpAny_bind fin)
  | exact wpAny_bind (wpAny_pure (wpAny_bind fin))
  | exact wpAny_bind fin
theorem dict_typeIs {X:Cx} {pins:List (Addr×Obj)} {σ:St} {H:Hp} {s:Shared} {a:Addr} {y:V} {o:Option V} (I:Inv X pins σ H s) (g:DGet H a y o):s.TypeIs (.ref a) "dict" := by
 rcases g with ⟨kvs,k,e,_,_⟩ | ⟨kvs,k,b,e,_,_,_⟩
 ·obtain ⟨_,_,vs,_,dd⟩:=dk_rd I.hok e
  exact dd.typeIs
 ·obtain ⟨_,_,xs,_,dd⟩:=dt_rd I.hok e
  exact dd.typeIs
def tDGet (td ty:TE):TE:=fun σ H Q=>td σ H fun x H1=>ty σ H1 fun y H2=>∃ a v,x=.ref a∧DGet H2 a y (some v)∧Q v H2
def tDNotIn (ty td:TE):TE:=fun σ H Q=>ty σ H fun y H1=>td σ H1 fun x H2=>∃ a o,x=.ref a∧DGet H2 a y o∧Q (.bl (!o.isSome)) H2
def sDPut (td ty tv:TE):TS:=fun D σ H=>tv σ H fun v H1=>td σ H1 fun x H2=>ty σ H2 fun y H3=>∃ a H4,x=.ref a∧DPut H3 a y v H4∧D.nx σ H4
section
variable {X:Cx} {o i e value:Expr} {pos pos' tpos:Pos} {td ty tv:TE}
theorem pe_dget (hu:X.A.units+1<cLine) (ho:PE X o td) (hi:PE X i ty) (hs:NoSl i):PE X (.Subscript o i pos) (tDGet td ty):=by
 intro pins s σ H Q I h
 refine subD_of PySem.F.slot_dict_getitem.lookup hs (thn (ho pins s σ H _ I h) fun u s1 ⟨x,H1,I1,rx,q1⟩=>thn (hi pins s1 σ H1 _ I1 q1) fun iv s2 ⟨y,H2,I2,ry,a,v,ex,g,q2⟩=>?_)
 subst ex
 obtain rfl:u=Value.ref a:=rx
 exact ⟨dict_typeIs I2 g,d_getItem hu I2 g ry fun w' s3 I3 rw'=>⟨v,H2,I3,rw',q2⟩⟩
theorem pc_dnotin (hu:X.A.units+1<cLine) (hi:PE X i ty) (ho:PE X o td):PC X .NotIn i o (tDNotIn ty td):=by
 intro pins s σ H Q I h
 refine thn (hi pins s σ H _ I h) fun iv s1 ⟨y,H1,I1,ry,q1⟩=>thn (ho pins s1 σ H1 _ I1 q1) fun u s2 ⟨x,H2,I2,rx,a,ov,ex,g,q2⟩=>?_
 subst ex
 obtain rfl:u=Value.ref a:=rx
 exact d_notIn hu I2 g ry fun s3 I3=>⟨.bl (!ov.isSome),H2,I3,rfl,q2⟩
theorem ps_dput (hu:X.A.units+1<cLine) (ho:PE X o td) (hi:PE X i ty) (hv:PE X value tv) (hs:swapsWith value (some (.Subscript o i pos')) pos.line X.env=pure false) :
  PS X (.Assign [.Subscript o i pos'] value pos) (sDPut td ty tv):=by
 intro pins s σ H D I h
 refine wpAny_Assign_Subscript (thn (hv pins s σ H _ I h) fun r s1 ⟨v,H1,I1,rv,q1⟩=>thn (ho pins s1 σ H1 _ I1 q1) fun u s2 ⟨x,H2,I2,rx,q2⟩=>thn (hi pins s2 σ H2 _ I2 q2) fun iv s3 ⟨y,H3,I3,ry,a,H4,ex,g,q3⟩=>?_) hs
 subst ex
 obtain rfl:u=Value.ref a:=rx
 exact d_setItem hu I3 g ry rv fun s4 I4=>⟨σ,H4,I4,q3⟩
end
theorem dk_empty {P:Program} {w:World} {H:Hp} (h:Heap) (hb:sysModules<h.objs.size):ObjOk P w H (h.push { cls:=.type "dict",data:=.dict #[] }) h.objs.size (.dK []) :=
 ⟨Nat.zero_le _,beq_eq_false_iff_ne.mpr (Ne.symm (Nat.ne_of_lt hb)),[],.nil,Heap.DictOf.new h⟩
def tDNewK:TE:=fun _ H Q=>∀ p,H p=none→Q (.ref p) (upd H p (.dK []))
section
variable {X:Cx} {pos:Pos}
theorem pe_dnewK:PE X (.Dict [] [] pos) tDNewK:=fun pins s σ H Q I h =>
 wpAny_Dict_empty ⟨.ref s.heap.objs.size,_,I.laid (a:=s.heap.objs.size) (o:=.dK []) (t':=s.toks) (fun _ _ q=>Heap.get?_push_of_some _ q) (Nat.le_refl _) (dk_empty s.heap I.big),rfl,h _ (I.hok.fresh (Nat.le_refl _))⟩
end
section
variable {X:Cx} {pins:List (Addr×Obj)} {σ:St} {H:Hp} {s:Shared} {a:Addr} {y d:V} {u r:Value} {o:Option V} {A:Around} {E:Value→Shared→Prop}
end
section
variable {X:Cx} {o e f:Expr} {apos cpos:Pos} {td ty tx:TE}
end
end L2
namespace Att
open PySem PySem.W PySem.Calls PyProof.Rows
end Att
namespace L2
open PySem PySem.Spec PyProof.Rows
end L2
namespace L2
open PySem PySem.Spec PyProof.Rows
end L2
/- THE LAST THEOREM (shape; LID,My.* are yours):
   My.Adr: a structure of the addresses that your layer names (classes,functions); My.Txt K t: a structure (Prop) of the equations over K;
   My.txt_mk:{K} {implicit addresses ..} (e1:nsIn K mainGlobals "law" = some (some (.ref f))) (e2:K.lookup f=some ⟨oc,od,.func (fnOf "law" "law" params body scope dV kV doc pm an cdv ct),sl⟩) (e3:codeIn K cdv "law" = true) .. : ∃ t,My.Txt K t
(the tactic k_is has no namespace: write k_is) -/
namespace L2
open PySem PySem.Spec PyProof.Rows
end L2
namespace L2
open PySem PySem.Spec PyProof.Rows SeqAt
abbrev dkv (D:List (Nat×Addr)):List (Key×V):=D.map fun x=>(Sum.inl (x.1:Int),V.ref x.2)
section
variable {prog:Program} {w:World} {A:Around} {E:Value→Shared→Prop} {s:Shared}
theorem collect_src {T:String} {r d:Addr} {n:Nat} {P:Nat→Value→Prop} {OK:Heap→Prop} {R:List Value→Shared→Prop} (K:W.KdlSrc prog w T r d n P OK) (hh:A.handled=none) (ok:OK s.heap) (hn:n≤sizeLine)
  (q:∀ (h':Heap) (tk:Nat) (acc:Array Value),(∀ b o,s.heap.get? b=some o→h'.get? b=some o)→s.heap.objs.size≤h'.objs.size→ItemsOf P acc n→R acc.toList { s with heap:=h',toks:=tk }) :
  wpAny (model prog w) A (collect (.ref r)) R E s:=by
 obtain ⟨t1,t2⟩:=K.there _ ok
 have hg:(s.heap.push { cls:=.type "list",data:=.seq #[] }).get? s.heap.objs.size=some { cls:=.type "list",data:=.seq #[] }:=Heap.get?_push_size _ rfl
 refine wpAny_bind (wpAny_runValue (codeAny_builtin entry_proto_collect' ?_))
 rw [Around.under_plainId F.plain_proto_collect _]
 show wpAny _ A.in1 (newList [] >>= _) _ _ s
 refine wpAny_bind (wpAny_newList ?_ (by simp))
 refine wpAny_pure ⟨plainId_quiet F.plain_list_iadd _,codeAny_builtin entry_list_iadd' ?_⟩
 rw [Around.under_plainId F.plain_list_iadd _]
 show wpAny _ A.in1 (slotArgs "__iadd__" 1 ⟨[.ref s.heap.objs.size,.ref r],[]⟩ >>= _) _ _ _
 refine wpAny_bind (wpAny_of_eq (show slotArgs "__iadd__" 1 ⟨[.ref s.heap.objs.size,.ref r],[]⟩=pure (.ref s.heap.objs.size,[.ref r]) from rfl) ?_)
 refine W.kdl_extend (R:=fun r s'=>match r with
  | .ok (.ret v)=>wpAny (model prog w) A (match v with
   | Value.ref a=>do
    let o ← load a
    match o.data with
    | Data.seq xs _=>pure xs.toList
    | _=>unsupported "internal:collect"
   | _=>unsupported "internal:collect") R E s'
  | .ok _=>False
  | .error e=>E e s') (s:={ s with heap:=s.heap.push { cls:=.type "list",data:=.seq #[] } }) K hh (K.keep _ _ ok fun b _ o e=>Heap.get?_push_of_some _ e) s.heap.objs.size (Nat.ne_of_gt t1) (Nat.ne_of_gt t2) (.ref s.heap.objs.size) 0 hg (fun h' tk acc c kp h1 it=>?_) hn
 refine wpAny_bind (wpAny_load h1 (wpAny_pure (q h' tk acc (fun b o e=>?_) (Nat.le_of_lt (Heap.lt_size h1)) it)))
 exact kp b o (Nat.ne_of_lt (Heap.lt_size e)) (Heap.get?_push_of_some _ e)
theorem keys_are {vs:List (Key×Value)} {ns:List Int} {acc:Array Value} (hk:vs.map (·.1)=ns.map Sum.inl) (it:ItemsOf (fun i v=>∃ k x,vs[i]?=some (k,x)∧(mixKind prog w).is k v=true) acc vs.length):IntsAre acc.toList ns:=by
 have hs:=it.1
 have key:∀ (vs:List (Key×Value)) (ns:List Int) (l:List Value),l.length=vs.length→vs.map (·.1)=ns.map Sum.inl→(∀ (j:Nat) (v:Value),l[j]?=some v→∃ k x,vs[j]?=some (k,x)∧(mixKind prog w).is k v=true)→IntsAre l ns:=by
  intro vs
  induction vs with
  | nil =>
   intro ns l h1 h2 _
   cases ns with
   | nil=>rw [List.length_eq_zero_iff.mp h1]; exact .nil
   | cons a b=>cases h2
  | cons y vs ih =>
   intro ns l h1 h2 h3
   cases l with
   | nil=>cases h1
   | cons v l =>
    cases ns with
    | nil=>cases h2
    | cons n ns =>
     rw [List.map_cons,List.map_cons] at h2
     injection h2 with e1 e2
     obtain ⟨k,x,e3,e4⟩:=h3 0 v rfl
     have e3:y=(k,x):=Option.some.inj e3
     rw [e3] at e1
     have e1:k=Sum.inl n:=e1
     rw [e1] at e4
     rcases keyIs_shape (show keyIs (Sum.inl n) v=true from e4) with ⟨i,t,e6,e5⟩ | ⟨z,t,e6,e5⟩
     ·injection e6 with e6
      subst e6
      subst e5
      exact .cons _ t (ih ns l (by simpa using h1) e2 fun j v hj=>h3 (j+1) v hj)
     ·cases e6
 exact key vs ns acc.toList (by rw [Array.length_toList]; exact hs) hk fun j v hj=>it.2 j v (by rw [← Array.getElem?_toList]; exact hj)
theorem sorted_rowD {a:Addr} {vs:List (Key×Value)} {ns:List Int} {Q:Value→Shared→Prop} (hh:A.handled=none) (hm:(a==sysModules)=false) (hd:s.heap.DictOf (mixKind prog w) a vs) (hk:vs.map (·.1)=ns.map Sum.inl) (hl:ns.length<64)
  (q:∀ (h':Heap) (tk:Nat) (p:Addr) (out:List Value) (ns':List Int) (c:Nat),(∀ b o,s.heap.get? b=some o→h'.get? b=some o)→s.heap.objs.size≤p→h'.get? p=some (seqObj "list" out.toArray c)→IntsAre out ns'→ns'.Perm ns→ns'.Pairwise (· ≤ ·)→Q (.ref p) { s with heap:=h',toks:=tk }) :
  wpAny (model prog w) A (call (.builtin "sorted") [.ref a]) Q E s:=by
 obtain ⟨o,es,ep,h1,h2,h3,h4,h5,h6⟩:=hd
 have vl:vs.length=ns.length:=by have:=congrArg List.length hk; rw [List.length_map,List.length_map] at this; exact this
 have big:ns.length≤sizeLine:=by rw [sizeLine_eq]; omega
 refine Calls.call_function_entry kind_sorted plain_sorted entry_sorted (args_sorted1 _) ?_
 show wpAny _ A.in1 (checkCount "sorted" 1 1 1 >>= _) _ _ s
 refine wpAny_bind (wpAny_pure ?_)
 refine wpAny_bind (collect_src (A:=A.in1) (W.kdl_dict (knd:=mixKind prog w) (kvs:=vs) (ep:=ep) hm) hh ⟨o,es,h1,h2,h3,h4,h5,h6⟩ (by omega) fun h' tk acc kp hsz it=>?_)
 have hi:IntsAre acc.toList ns:=keys_are hk it
 have al:acc.toList.length=ns.length:=by rw [Array.length_toList,it.1,vl]
 refine wpAny_bind (wpAny_newList ?_ (by omega))
 have hg:(h'.push { cls:=.type "list",data:=.seq acc.toList.toArray }).get? h'.objs.size=some (seqObj "list" acc.toList.toArray 0):=Heap.get?_push_size _ rfl
 refine wpAny_bind (wpAny_holding (wpAny_call_entry slot_list_sort ⟨_,hg,rfl⟩ entry_list_sort ?_ (args_list_sort _)))
 refine list_sort_tree (s:={ s with heap:=h'.push { cls:=.type "list",data:=.seq acc.toList.toArray },toks:=tk }) hg hi (by omega) fun out ns' a1 a2 a3=>?_
 refine ⟨_,rfl,wpAny_pure ⟨_,rfl,?_⟩⟩
 obtain ⟨c,hc⟩:=sortedHeap_at (out:=out) hg
 refine q _ tk _ out.toList ns' c (fun b o e=>?_) hsz (by rw [Array.toArray_toList]; exact hc) a1 a2 a3
 have hb:=Heap.lt_size (kp b o e)
 rw [sortedHeap_old (Nat.ne_of_lt hb) (by rw [size_push']; exact Nat.lt_succ_of_lt hb)]
 exact Heap.get?_push_of_some _ (kp b o e)
theorem sorted_rowR {a:Addr} {vs:List (Key×Value)} {ns:List Int} {b:Bool} {Q:Value→Shared→Prop} (hh:A.handled=none) (hm:(a==sysModules)=false) (hd:s.heap.DictOf (mixKind prog w) a vs) (hk:vs.map (·.1)=ns.map Sum.inl) (hl:ns.length<64)
  (q:∀ (h':Heap) (tk:Nat) (p:Addr) (out:List Value) (ns':List Int) (c:Nat),(∀ b o,s.heap.get? b=some o→h'.get? b=some o)→s.heap.objs.size≤p→h'.get? p=some (seqObj "list" out.toArray c)→IntsAre out ns'→ns'.Perm ns→Ordered b ns'→Q (.ref p) { s with heap:=h',toks:=tk }) :
  wpAny (model prog w) A (call (.builtin "sorted") [.ref a] [(Str.ofString "reverse",.bool b)]) Q E s:=by
 obtain ⟨o,es,ep,h1,h2,h3,h4,h5,h6⟩:=hd
 have vl:vs.length=ns.length:=by have:=congrArg List.length hk; rw [List.length_map,List.length_map] at this; exact this
 have big:ns.length≤sizeLine:=by rw [sizeLine_eq]; omega
 refine call_function_entry_kw kind_sorted plain_sorted entry_sorted (args_sorted_rev _ _) ?_
 show wpAny _ A.in1 (checkCount "sorted" 1 1 1 >>= _) _ _ s
 refine wpAny_bind (wpAny_pure ?_)
 refine wpAny_bind (collect_src (A:=A.in1) (W.kdl_dict (knd:=mixKind prog w) (kvs:=vs) (ep:=ep) hm) hh ⟨o,es,h1,h2,h3,h4,h5,h6⟩ (by omega) fun h' tk acc kp hsz it=>?_)
 have hi:IntsAre acc.toList ns:=keys_are hk it
 have al:acc.toList.length=ns.length:=by rw [Array.length_toList,it.1,vl]
 refine wpAny_bind (wpAny_newList ?_ (by omega))
 have hg:(h'.push { cls:=.type "list",data:=.seq acc.toList.toArray }).get? h'.objs.size=some (seqObj "list" acc.toList.toArray 0):=Heap.get?_push_size _ rfl
 refine wpAny_bind (wpAny_holding (wpAny_call_entry_kw slot_list_sort ⟨_,hg,rfl⟩ entry_list_sort ?_ (args_list_sort_rev _ _)))
 refine list_sort_tree_rev (s:={ s with heap:=h'.push { cls:=.type "list",data:=.seq acc.toList.toArray },toks:=tk }) hg hi (by omega) fun out ns' a1 a2 a3=>?_
 refine ⟨_,rfl,wpAny_pure ⟨_,rfl,?_⟩⟩
 obtain ⟨c,hc⟩:=sortedHeap_at (out:=out) hg
 refine q _ tk _ out.toList ns' c (fun b o e=>?_) hsz (by rw [Array.toArray_toList]; exact hc) a1 a2 a3
 have hb:=Heap.lt_size (kp b o e)
 rw [sortedHeap_old (Nat.ne_of_lt hb) (by rw [size_push']; exact Nat.lt_succ_of_lt hb)]
 exact Heap.get?_push_of_some _ (kp b o e)
end
section
variable {X:Cx}
theorem call_sortedD (hc:X.calm=true):CallR X (.builtin "sorted") (fun xs H Q=>∃ (a:Addr) (D:List (Nat×Addr)),xs=[.ref a]∧H a=some (.dK (dkv D))∧D.length<64∧∀ ns':List Int,ns'.Perm (zs (D.map (·.1)))→ns'.Pairwise (· ≤ ·)→∀ p,H p=none→Q (.ref p) (upd H p (.lst (vints ns')))):=by
 intro pins s σ H xs us Q I r h
 obtain ⟨a,D,e,hq,h64,q⟩:=h
 subst e
 obtain ⟨u,rfl,r1⟩:=vals1 r
 obtain rfl:u=Value.ref a:=r1
 obtain ⟨hz,hm,vs,rel,dd⟩:=dk_of I.hok hq
 have hk:vs.map (·.1)=(zs (D.map (·.1))).map Sum.inl:=by
  rw [← rel.keys]
  unfold dkv zs
  rw [List.map_map,List.map_map,List.map_map]
  rfl
 refine sorted_rowD (I.ok.hd hc) hm dd hk (by rw [zs_len,List.length_map]; exact h64) fun h' tk p out ns' c kp hp hg a1 a2 a3=>?_
 have hv:=are_vals a1
 refine ⟨.ref _,upd H p (.lst (vints ns')),I.laid (t':=tk) (h':=h') kp hp (show ObjOk X.prog X.w _ _ _ (.lst (vints ns')) from ⟨?_,out,c,hv,hg⟩),rfl,q ns' a2 a3 _ (I.hok.fresh hp)⟩
 rw [ints_len,a2.length_eq,zs_len,List.length_map]
 exact Nat.le_of_lt (small70 (by omega))
variable {p pos kp:Pos} {e e2:Expr} {t tk:TA}
def tSortR (t tk:TA):TE:=fun σ H Q=>t σ H fun vs H1=>tk σ H1 fun zz H2=>∃ (a:Addr) (D:List (Nat×Addr)) (b:Bool),vs=[.ref a]∧zz=[.bl b]∧H2 a=some (.dK (dkv D))∧D.length<64∧∀ ns':List Int,ns'.Perm (zs (D.map (·.1)))→Ordered b ns'→∀ p,H2 p=none→Q (.ref p) (upd H2 p (.lst (vints ns')))
theorem pe_sortR (hc:X.calm=true) (hg:Gl X "sorted") (hm:X.mg "sorted" = none) (ha:PA X [e] t) (hk:PK X [⟨some "reverse",e2,kp⟩] tk) (he:starEach [e] X.env=(false,eval e X.env)::starEach [] X.env:=by rfl) (hpl:(backTo pos (starEach [e] X.env)).any (·.1)=false:=by rfl) :
  PE X (.Call (.Name "sorted" p) [e] [⟨some "reverse",e2,kp⟩] pos) (tSortR t tk):=by
 intro pins s σ H Q I h
 refine wpAny_Call_Name_kw (ld_blt I hg hm bt_sorted ?_ (by decide) (by decide))
 refine callWith_kw (thn (ha pos pins s σ H _ I h) fun us s1 ⟨vs,H1,I1,r,q⟩=>?_) (by rw [he]; rfl) hpl
 refine thn (hk pos pins s1 σ H1 _ I1 q) fun ws s2 ⟨zz,H2,I2,rz,q2⟩=>?_
 obtain ⟨a,D,b,rfl,rfl,hq,h64,q⟩:=q2
 obtain ⟨u,rfl,r1⟩:=vals1 r
 obtain rfl:u=Value.ref a:=r1
 obtain ⟨u,rfl,r2⟩:=vals1 rz
 obtain rfl:u=Value.bool b:=r2
 obtain ⟨hz,hm2,vs,rel,dd⟩:=dk_of I2.hok hq
 have hk:vs.map (·.1)=(zs (D.map (·.1))).map Sum.inl:=by
  rw [← rel.keys]
  unfold dkv zs
  rw [List.map_map,List.map_map,List.map_map]
  rfl
 refine sorted_rowR (I2.ok.hd hc) hm2 dd hk (by rw [zs_len,List.length_map]; exact h64) fun h' tk p out ns' c kp hp hg a1 a2 a3=>?_
 have hv:=are_vals a1
 refine ⟨.ref _,upd H2 p (.lst (vints ns')),I2.laid (t':=tk) (h':=h') kp hp (show ObjOk X.prog X.w _ _ _ (.lst (vints ns')) from ⟨?_,out,c,hv,hg⟩),rfl,q ns' a2 a3 _ (I2.hok.fresh hp)⟩
 rw [ints_len,a2.length_eq,zs_len,List.length_map]
 exact Nat.le_of_lt (small70 (by omega))
end
end L2
namespace L2
def lpr (g:Nat→Int):Nat→Int
 | 0=>1
 | k+1=>lpr g k*g k
def lto (γ:Nat→Nat):Nat→Nat
 | 0=>0
 | k+1=>lto γ k+γ k
theorem lto_mono {γ:Nat→Nat} {a b:Nat} (h:a≤b):lto γ a≤lto γ b:=by
 induction b with
 | zero=>rw [Nat.le_zero.mp h]; exact Nat.le_refl _
 | succ b ih =>
  by_cases e:a=b+1
  ·rw [e]; exact Nat.le_refl _
  ·exact Nat.le_trans (ih (by omega)) (Nat.le_add_right _ _)
theorem lpr_dvd {g:Nat→Int} {a b:Nat} (h:a≤b):lpr g a∣lpr g b:=by
 induction b with
 | zero=>rw [Nat.le_zero.mp h]; exact Int.dvd_refl _
 | succ b ih =>
  by_cases e:a=b+1
  ·rw [e]; exact Int.dvd_refl _
  ·exact Int.dvd_trans (ih (by omega)) ⟨g b,rfl⟩
theorem lpr_pos {g:Nat→Int} {a:Nat} (h:∀ k,k<a→0<g k):0<lpr g a:=by
 induction a with
 | zero=>exact Int.one_pos
 | succ a ih=>exact Int.mul_pos (ih fun k hk=>h k (by omega)) (h a (by omega))
theorem lpr_bd {g:Nat→Int} {γ:Nat→Nat} {a:Nat} (h:∀ k,k<a→Bd (γ k) (g k)):Bd (1+lto γ a) (lpr g a):=by
 induction a with
 | zero=>show (1:Int).natAbs<2^(1+0); decide
 | succ a ih=>exact ((ih fun k hk=>h k (by omega)).mul (h a (by omega))).mono (by show 1+lto γ a+γ a≤1+(lto γ a+γ a); omega)
theorem lsm_dvd {m:Nat} {f:Nat→Int} {d:Int} (h:∀ i,i<m→d∣f i):d∣lsm m f:=by
 induction m with
 | zero=>exact Int.dvd_zero _
 | succ m ih=>exact Int.dvd_add (ih fun i hi=>h i (by omega)) (h m (by omega))
theorem lsm_abs {m M:Nat} {f:Nat→Int} (h:∀ i,i<m→(f i).natAbs≤M):(lsm m f).natAbs≤m*M:=by
 induction m with
 | zero=>exact Nat.zero_le _
 | succ m ih =>
  show (lsm m f+f m).natAbs≤_
  have h1:=ih fun i hi=>h i (by omega)
  have h2:=h m (by omega)
  rw [Nat.succ_mul]
  omega
structure RgI (w s:Nat) (P:Nat→Nat) (r:Nat→Vc) (γ:Nat→Nat):Prop where
 lt:∀ j,j≤s→P j<w
 up:∀ i j,i<j→j≤s→P i<P j
 lo:∀ j,j≤s→∀ k,k<P j→r j k=0
 pos:∀ j,j≤s→0<r j (P j)
 st:∀ i j,i<j→j≤s→0≤r i (P j)∧r i (P j)<r j (P j)
 gb:∀ j,j≤s→Bd (γ j) (r j (P j))
structure ScI (w s i:Nat) (P:Nat→Nat) (r:Nat→Vc) (γ:Nat→Nat) (ws:Vc):Prop where
 top:ws (P s)=lpr (fun k=>r k (P k)) s
 dv:∀ j,i≤j→j≤s→lpr (fun k=>r k (P k)) j∣ws (P j)
 zr:∀ k,k<w→(∀ j,i≤j→j≤s→k≠P j)→ws k=0
 kl:∀ j,i≤j→j<s→lsm w (fun k=>ws k*r j k)=0
 bd:∀ j,i≤j→j≤s→Bd (1+lto γ (s+1)+(lto γ (s+1)-lto γ (j+1))+3*(s-j)) (ws (P j))
theorem ScI.start {w s:Nat} {P:Nat→Nat} {r:Nat→Vc} {γ:Nat→Nat} (I:RgI w s P r γ) {ws:Vc} (h:∀ k,k<w→ws k=if k=P s then lpr (fun k=>r k (P k)) s else 0):ScI w s s P r γ ws:=by
 have e:=h (P s) (I.lt s (Nat.le_refl _))
 rw [if_pos rfl] at e
 refine ⟨e,fun j a b=>?_,fun k hk n=>by rw [h k hk,if_neg (n s (Nat.le_refl _) (Nat.le_refl _))],fun j a b=>absurd b (by omega),fun j a b=>?_⟩
 ·rw [show j=s by omega,e]; exact Int.dvd_refl _
 ·rw [show j=s by omega,e]
  exact (lpr_bd (γ:=γ) fun k hk=>I.gb k (by omega)).mono (by have:=lto_mono (γ:=γ) (show s≤s+1 by omega); omega)
theorem ScI.step {w s i:Nat} {P:Nat→Nat} {r:Nat→Vc} {γ:Nat→Nat} (w6:w≤6) (I:RgI w s P r γ) {ws:Vc} (h:ScI w s (i+1) P r γ ws) (hi:i<s) {v:Int} (hv:v = -(lsm w fun k=>ws k*r i k)/r i (P i)) {ws':Vc} (e:∀ k,k<w→ws' k=if k=P i then v else ws k) :
  ScI w s i P r γ ws'∧Bd (1+lto γ (s+1)+(lto γ (s+1)-lto γ (i+1))+3*(s-i)) (lsm w fun k=>ws k*r i k):=by
 have gp:=I.pos i (by omega)
 have pi:=I.lt i (by omega)
 have zi:ws (P i)=0:=h.zr (P i) pi fun j a b=>Nat.ne_of_lt (I.up i j (by omega) b)
 have pl:∀ k,k<w→(lpr (fun k=>r k (P k)) (i+1)∣ws k*r i k)∧(ws k*r i k).natAbs≤2^(1+lto γ (s+1)+(lto γ (s+1)-lto γ (i+1))+3*(s-(i+1))):=fun k hk=>by
  by_cases q:∃ j,i+1≤j∧j≤s∧k=P j
  ·obtain ⟨j,a,b,rfl⟩:=q
   refine ⟨Int.dvd_trans (Int.dvd_trans (lpr_dvd a) (h.dv j a b)) ⟨_,rfl⟩,?_⟩
   have st:=I.st i j (by omega) b
   have t:=(h.bd j a b).mul (Bd.of_le (I.gb j b) (show (r i (P j)).natAbs≤(r j (P j)).natAbs by omega))
   refine Nat.le_of_lt (t.mono ?_:Bd _ _)
   have m1:=lto_mono (γ:=γ) (show j+1≤s+1 by omega)
   have m2:=lto_mono (γ:=γ) (show i+1≤j by omega)
   have m3:lto γ (j+1)=lto γ j+γ j:=rfl
   omega
  ·rw [h.zr k hk fun j a b z=>q ⟨j,a,b,z⟩,Int.zero_mul]
   exact ⟨Int.dvd_zero _,Nat.zero_le _⟩
 have dS:=lsm_dvd fun k hk=>(pl k hk).1
 have bS:=lsm_abs fun k hk=>(pl k hk).2
 generalize hS:(lsm w fun k=>ws k*r i k)=S at hv dS bS
 have bS':Bd (1+lto γ (s+1)+(lto γ (s+1)-lto γ (i+1))+3*(s-i)) S:=by
  show S.natAbs<_
  have a1:w*2^(1+lto γ (s+1)+(lto γ (s+1)-lto γ (i+1))+3*(s-(i+1)))<2^3*2^(1+lto γ (s+1)+(lto γ (s+1)-lto γ (i+1))+3*(s-(i+1))):=Nat.mul_lt_mul_of_pos_right (by omega) (Nat.two_pow_pos _)
  rw [← Nat.pow_add] at a1
  exact Nat.lt_of_lt_of_le (Nat.lt_of_le_of_lt bS a1) (Nat.pow_le_pow_right (by decide) (by omega))
 obtain ⟨t,ht⟩:=dS
 have ht:S=lpr (fun k=>r k (P k)) i*r i (P i)*t:=ht
 have ev:v = -(lpr (fun k=>r k (P k)) i*t):=by
  rw [hv,ht,show -(lpr (fun k=>r k (P k)) i*r i (P i)*t) = -(lpr (fun k=>r k (P k)) i*t)*r i (P i) by rw [Int.neg_mul,Int.mul_assoc,Int.mul_assoc,Int.mul_comm (r i (P i))]]
  exact Int.mul_ediv_cancel _ (by omega)
 have vS:v*r i (P i) = -S:=by rw [ev,ht,Int.neg_mul,Int.mul_assoc,Int.mul_assoc,Int.mul_comm t]
 have ei:ws' (P i)=v:=by rw [e _ pi,if_pos rfl]
 have ej:∀ j,i+1≤j→j≤s→ws' (P j)=ws (P j):=fun j a b=>by rw [e _ (I.lt j b),if_neg (Nat.ne_of_gt (I.up i j (by omega) b))]
 have sm:∀ f:Nat→Int,lsm w (fun k=>ws' k*f k)=lsm w (fun k=>ws k*f k)+v*f (P i):=fun f=>by
  have e1:lsm w (fun k=>ws' k*f k)=lsm w fun k=>ws k*f k+(if k=P i then v*f (P i) else 0):=lsm_congr fun k hk=>by
   rw [e k hk]
   by_cases z:k=P i
   ·rw [if_pos z,if_pos z,z,zi]; omega
   ·rw [if_neg z,if_neg z]; omega
  rw [e1,lsm_add,lsm_one (j:=P i) (f:=fun k=>if k=P i then v*f (P i) else 0) pi fun k _ ne=>if_neg ne,if_pos rfl]
 refine ⟨⟨by rw [ej s (by omega) (Nat.le_refl _)]; exact h.top,fun j a b=>?_,fun k hk n=>?_,fun j a b=>?_,fun j a b=>?_⟩,bS'⟩
 ·by_cases z:j=i
  ·subst z; rw [ei,ev]; exact ⟨-t,by rw [Int.mul_neg]⟩
  ·rw [ej j (by omega) b]; exact h.dv j (by omega) b
 ·rw [e k hk,if_neg (n i (Nat.le_refl _) (by omega))]
  exact h.zr k hk fun j a b=>n j (by omega) b
 ·rw [sm]
  by_cases z:j=i
  ·subst z
   rw [hS,vS]; omega
  ·rw [h.kl j (by omega) b,I.lo j (by omega) (P i) (I.up i j (by omega) (by omega))]; omega
 ·by_cases z:j=i
  ·subst z
   rw [ei]
   refine Bd.of_le bS' ?_
   have:=congrArg Int.natAbs vS
   rw [Int.natAbs_mul,Int.natAbs_neg] at this
   have g1:1≤(r j (P j)).natAbs:=by omega
   have:=Nat.mul_le_mul_left v.natAbs g1
   omega
  ·rw [ej j (by omega) b]; exact h.bd j (by omega) b
theorem ScI.own {w s:Nat} {P:Nat→Nat} {r:Nat→Vc} {γ:Nat→Nat} (I:RgI w s P r γ) {ws:Vc} (h:ScI w s 0 P r γ ws):lsm w (fun k=>ws k*r s k)=lpr (fun k=>r k (P k)) (s+1):=by
 rw [lsm_one (j:=P s) (I.lt s (Nat.le_refl _)) fun k hk ne=>?_,h.top]
 ·rfl
 ·by_cases q:∃ j,j≤s∧k=P j
  ·obtain ⟨j,b,rfl⟩:=q
   by_cases z:j=s
   ·subst z; exact absurd rfl ne
   ·rw [I.lo s (Nat.le_refl _) (P j) (I.up j s (by omega) (Nat.le_refl _)),Int.mul_zero]
  ·rw [h.zr k hk fun j _ b z=>q ⟨j,b,z⟩,Int.zero_mul]
theorem ScI.off {w s:Nat} {P:Nat→Nat} {r:Nat→Vc} {γ:Nat→Nat} (I:RgI w s P r γ) {ws:Vc} (h:ScI w s 0 P r γ ws) {f:Vc} (hf:∀ j,j≤s→f (P j)=0):lsm w (fun k=>ws k*f k)=0:=by
 refine lsm_zero fun k hk=>?_
 by_cases q:∃ j,j≤s∧k=P j
 ·obtain ⟨j,b,rfl⟩:=q
  rw [hf j b,Int.mul_zero]
 ·rw [h.zr k hk fun j _ b z=>q ⟨j,b,z⟩,Int.zero_mul]
end L2
namespace L2
open PySem PySem.Spec PyProof.Rows SeqAt
def CMulL (i j:Int):Prop:=i.natAbs<2^1040000∧j.natAbs<2^1040000
theorem op_mulL {X:Cx}:OpR X (binaryOp .Mult) (rI CMulL fun i j=>.int (i*j)):=opI fun _ _ _ _ _ _ _ hc q =>
 mul_int q (.of_bits (Nat.le_trans (bits_of_lt hc.1) (by decide)) (Nat.le_trans (bits_of_lt hc.2) (by decide)))
def CDivL (i j:Int):Prop:=j≠0∧j.natAbs<2^8999
theorem op_fdivL {X:Cx}:OpR X (binaryOp .FloorDiv) (rI CDivL fun i j=>.int (i.fdiv j)):=opI fun i j _ _ _ _ _ hc q=>by
 refine floordiv_int hc.1 q (.inl (PyProof.noPylong_of_log2 ?_))
 have hx:j.natAbs≠0:=by have:=hc.1; omega
 exact Nat.lt_of_lt_of_le ((Nat.log2_lt hx).mpr hc.2) (by decide)
def fv (l:List Int):Vc:=fun k=>l.getD k 0
def putD (Dl:List (Nat×Addr)) (p:Nat) (a:Addr):List (Nat×Addr):=if p∈Dl.map (·.1) then Dl.map (fun x=>if x.1=p then (x.1,a) else x) else Dl++[(p,a)]
def SmX (d:Addr) (H H':Hp):Prop:=∀ a o,a≠d→H a=some o→H' a=some o
theorem SmX.refl (d:Addr) (H:Hp):SmX d H H:=fun _ _ _ h=>h
theorem SmX.trans {d:Addr} {H H1 H2:Hp} (a:SmX d H H1) (b:SmX d H1 H2):SmX d H H2:=fun c o n h=>b c o n (a c o n h)
theorem Same.toX {d:Addr} {H H':Hp} (S:Same H H'):SmX d H H':=fun a o _ h=>S a o h
theorem SmX.seq {K:PySem.W.Frag} {d a:Addr} {H H':Hp} {xs:List V} (S:SmX d H H') (n:a≠d) (h:SqL K H a xs):SqL K H' a xs:=by
 rcases h with (h | ⟨o,h⟩) | h
 ·exact .inl (.inl (S _ _ n h))
 ·exact .inl (.inr ⟨o,S _ _ n h⟩)
 ·exact .inr h
theorem SmX.upd {d:Addr} {H H':Hp} {o:HO} (S:SmX d H H'):SmX d H (upd H' d o):=fun a u n h=>by rw [upd_ne n]; exact S a u n h
structure Rgs (H:Hp) (d:Addr) (w L:Nat) (Dl:List (Nat×Addr)) (C:Nat→List Int):Prop where
 hd:H d=some (.dK (dkv Dl))
 nd:(Dl.map (·.1)).Nodup
 lt:∀ x∈Dl,x.1<w
 rw:∀ x∈Dl,H x.2=some (.lst (vints (C x.1)))∧(C x.1).length=L
def rgF (Dl:List (Nat×Addr)) (C:Nat→List Int):Nat→Vc:=fun q=>if q∈Dl.map (·.1) then fv (C q) else fun _=>0
theorem rgF_in {Dl:List (Nat×Addr)} {C:Nat→List Int} {q:Nat} (h:q∈Dl.map (·.1)):rgF Dl C q=fv (C q):=if_pos h
theorem rgF_no {Dl:List (Nat×Addr)} {C:Nat→List Int} {q:Nat} (h:q∉Dl.map (·.1)):rgF Dl C q=fun _=>0:=if_neg h
theorem Rgs.same {H H':Hp} {d:Addr} {w L:Nat} {Dl:List (Nat×Addr)} {C:Nat→List Int} (h:Rgs H d w L Dl C) (S:Same H H'):Rgs H' d w L Dl C:=⟨S _ _ h.hd,h.nd,h.lt,fun x hx=>⟨S _ _ (h.rw x hx).1,(h.rw x hx).2⟩⟩
theorem valV_dkv {p:Nat}:∀ {Dl:List (Nat×Addr)},(p∉Dl.map (·.1)→valV (dkv Dl) (Sum.inl (p:Int):Key)=none)∧(p∈Dl.map (·.1)→∃ a,(p,a)∈Dl∧valV (dkv Dl) (Sum.inl (p:Int):Key)=some (.ref a))
 | []=>⟨fun _=>rfl,fun h=>nomatch h⟩
 | x::Dl=>by
  obtain ⟨i1,i2⟩:=valV_dkv (p:=p) (Dl:=Dl)
  have e:dkv (x::Dl)=(Sum.inl (x.1:Int),V.ref x.2)::dkv Dl:=rfl
  by_cases h:x.1=p
  ·refine ⟨fun n=>absurd (by rw [List.map_cons,h]; exact List.mem_cons_self) n,fun _=>⟨x.2,by rw [← h]; exact List.mem_cons_self,?_⟩⟩
   rw [e]
   exact valV_pos (by rw [h])
  ·have hk:¬ (Sum.inl (x.1:Int):Key)=Sum.inl (p:Int):=fun z=>h (by injection z with z; omega)
   rw [e,valV_neg (p:=(Sum.inl (x.1:Int),V.ref x.2)) hk]
   refine ⟨fun n=>i1 fun z=>n (by rw [List.map_cons]; exact List.mem_cons_of_mem _ z),fun m=>?_⟩
   rw [List.map_cons] at m
   rcases List.mem_cons.mp m with z | z
   ·exact absurd z.symm h
   ·obtain ⟨a,h1,h2⟩:=i2 z
    exact ⟨a,List.mem_cons_of_mem _ h1,h2⟩
theorem dkv_any {p:Nat}:∀ {Dl:List (Nat×Addr)},((dkv Dl).any fun kv=>decide (kv.1=(Sum.inl (p:Int):Key)))=decide (p∈Dl.map (·.1)):=fun {Dl}=>by
 rw [valV_any]
 by_cases h:p∈Dl.map (·.1)
 ·obtain ⟨a,_,e⟩:=(valV_dkv (p:=p) (Dl:=Dl)).2 h
  rw [e,decide_eq_true h]
  rfl
 ·rw [(valV_dkv (p:=p) (Dl:=Dl)).1 h,decide_eq_false h]
  rfl
theorem dkv_put (Dl:List (Nat×Addr)) (p:Nat) (a:Addr):putK (dkv Dl) (Sum.inl (p:Int):Key) (.ref a)=dkv (putD Dl p a):=by
 unfold putK putD
 rw [dkv_any]
 by_cases h:p∈Dl.map (·.1)
 ·rw [if_pos h,if_pos (decide_eq_true h)]
  unfold dkv
  rw [List.map_map,List.map_map]
  refine List.map_congr_left fun x _=>?_
  show (if (Sum.inl (x.1:Int):Key)=Sum.inl (p:Int) then ((Sum.inl (x.1:Int):Key),V.ref a) else (Sum.inl (x.1:Int),V.ref x.2))=(Sum.inl ((if x.1=p then (x.1,a) else x).1:Int),V.ref (if x.1=p then (x.1,a) else x).2)
  by_cases e:x.1=p
  ·rw [if_pos e,if_pos (by rw [e])]
  ·rw [if_neg e,if_neg fun z=>e (by injection z with z; omega)]
 ·rw [if_neg h,if_neg (by rw [decide_eq_false h]; exact Bool.false_ne_true)]
  unfold dkv
  rw [List.map_append]
  rfl
theorem putD_keys (Dl:List (Nat×Addr)) (p:Nat) (a:Addr):(putD Dl p a).map (·.1)=if p∈Dl.map (·.1) then Dl.map (·.1) else Dl.map (·.1)++[p]:=by
 unfold putD
 split
 ·rw [List.map_map]
  refine List.map_congr_left fun x _=>?_
  show (if x.1=p then (x.1,a) else x).1=x.1
  split<;>rfl
 ·rw [List.map_append]; rfl
theorem putD_mem {Dl:List (Nat×Addr)} {p:Nat} {a:Addr} {x:Nat×Addr} (h:x∈putD Dl p a):(x=(p,a))∨(x∈Dl∧x.1≠p):=by
 unfold putD at h
 split at h
 ·obtain ⟨y,hy,rfl⟩:=List.mem_map.mp h
  by_cases e:y.1=p
  ·rw [if_pos e,e]; exact .inl rfl
  ·rw [if_neg e]; exact .inr ⟨hy,e⟩
 ·rename_i n
  rcases List.mem_append.mp h with z | z
  ·exact .inr ⟨z,fun e=>n (List.mem_map.mpr ⟨x,z,e⟩)⟩
  ·exact .inl (List.mem_singleton.mp z)
theorem Rgs.put {H:Hp} {d:Addr} {w L:Nat} {Dl:List (Nat×Addr)} {C:Nat→List Int} (h:Rgs H d w L Dl C) {p:Nat} {a:Addr} {xs:List Int} (hp:p<w) (ha:H a=some (.lst (vints xs))) (hl:xs.length=L) :
  Rgs (upd H d (.dK (dkv (putD Dl p a)))) d w L (putD Dl p a) (fun q=>if q=p then xs else C q)∧rgF (putD Dl p a) (fun q=>if q=p then xs else C q)=setV (rgF Dl C) p (fv xs):=by
 have ne:∀ {b:Addr} {ys:List V},H b=some (.lst ys)→b≠d:=fun e z=>by rw [z,h.hd] at e; cases e
 refine ⟨⟨upd_same,?_,fun x hx=>?_,fun x hx=>?_⟩,?_⟩
 ·rw [putD_keys]
  split
  ·exact h.nd
  ·rename_i n
   exact List.nodup_append.mpr ⟨h.nd,List.nodup_cons.mpr ⟨List.not_mem_nil,List.nodup_nil⟩,fun a ha b hb=>by rw [List.mem_singleton.mp hb]; exact fun z=>n (z ▸ ha)⟩
 ·rcases putD_mem hx with rfl | ⟨z,_⟩
  ·exact hp
  ·exact h.lt x z
 ·rcases putD_mem hx with rfl | ⟨z,np⟩
  ·refine ⟨?_,?_⟩
   ·show upd H d _ a=some (.lst (vints (if p=p then xs else C p)))
    rw [if_pos rfl,upd_ne (ne ha)]; exact ha
   ·show (if p=p then xs else C p).length=L
    rw [if_pos rfl]; exact hl
  ·obtain ⟨h1,h2⟩:=h.rw x z
   refine ⟨?_,?_⟩
   ·show upd H d _ x.2=some (.lst (vints (if x.1=p then xs else C x.1)))
    rw [if_neg np,upd_ne (ne h1)]; exact h1
   ·show (if x.1=p then xs else C x.1).length=L
    rw [if_neg np]; exact h2
 ·funext q
  show (if q∈(putD Dl p a).map (·.1) then fv (if q=p then xs else C q) else fun _=>0)=if q=p then fv xs else if q∈Dl.map (·.1) then fv (C q) else fun _=>0
  rw [putD_keys]
  by_cases e:q=p
  ·subst e
   rw [if_pos (show q=q from rfl),if_pos (show q=q from rfl),if_pos]
   split
   ·assumption
   ·exact List.mem_append_right _ (List.mem_singleton.mpr rfl)
  ·rw [if_neg e,if_neg e]
   by_cases m:q∈Dl.map (·.1)
   ·rw [if_pos m,if_pos]
    split
    ·exact m
    ·exact List.mem_append_left _ m
   ·rw [if_neg m,if_neg]
    split
    ·exact m
    ·intro z
     rcases List.mem_append.mp z with y | y
     ·exact m y
     ·exact e (List.mem_singleton.mp y)
theorem nd_lt:∀ {w:Nat} {l:List Nat},l.Nodup→(∀ x∈l,x<w)→l.length≤w
 | 0,l,_,h=>by
  cases l with
  | nil=>exact Nat.le_refl _
  | cons a l=>exact absurd (h a List.mem_cons_self) (Nat.not_lt_zero _)
 | w+1,l,nd,h=>by
  have h1:=nd_lt (w:=w) (l:=l.erase w) (nd.erase w) fun x hx=>by
   have:=h x (List.mem_of_mem_erase hx)
   have:x≠w:=fun e=>by subst e; exact nd.not_mem_erase hx
   omega
  rw [List.length_erase] at h1
  split at h1<;>omega
theorem Rgs.len {H:Hp} {d:Addr} {w L:Nat} {Dl:List (Nat×Addr)} {C:Nat→List Int} (h:Rgs H d w L Dl C):Dl.length≤w:=by
 have:=nd_lt h.nd fun x hx=>by obtain ⟨y,hy,rfl⟩:=List.mem_map.mp hx; exact h.lt y hy
 rw [List.length_map] at this
 exact this
theorem setV_mk {w n:Nat} {R:Nat→Vc} {D:Nat→Vc} {p:Nat} {v:Vc} (h:∀ q,q<w→MkV w n R (D q)) (hv:MkV w n R v):∀ q,q<w→MkV w n R (setV D p v q):=fun q hq=>by
 by_cases e:q=p
 ·subst e; rw [setD_sameV]; exact hv
 ·rw [setD_neV e]; exact h q hq
theorem setV_nz {Dl:List (Nat×Addr)} {C:Nat→List Int} {p:Nat} {a:Addr} {v:Vc} (h:∀ x∈Dl,rgF Dl C x.1 x.1≠0) (hv:v p≠0):∀ x∈putD Dl p a,setV (rgF Dl C) p v x.1 x.1≠0:=fun x hx=>by
 rcases putD_mem hx with rfl | ⟨z,np⟩
 ·rw [setD_sameV]; exact hv
 ·rw [setD_neV np]; exact h x z
def woL (p:Nat) (xs ys:List Int):List Int:=List.zipWith (fun a b=>a-b) xs (ys.map fun y=>(fv xs p).fdiv (fv ys p)*y)
theorem woL_len {p L:Nat} {xs ys:List Int} (h1:xs.length=L) (h2:ys.length=L):(woL p xs ys).length=L:=by unfold woL; rw [List.length_zipWith,List.length_map]; omega
theorem woL_fv {p L:Nat} {xs ys:List Int} (h1:xs.length=L) (h2:ys.length=L):fv (woL p xs ys)=woV p (fv xs) (fv ys):=by
 funext k
 show (woL p xs ys).getD k 0=xs.getD k 0-_*ys.getD k 0
 by_cases hk:k<L
 ·have l1:=woL_len (p:=p) h1 h2
  rw [List.getD_eq_getElem?_getD,List.getElem?_eq_getElem (by omega),List.getD_eq_getElem?_getD,List.getElem?_eq_getElem (show k<xs.length by omega),List.getD_eq_getElem?_getD,List.getElem?_eq_getElem (show k<ys.length by omega)]
  unfold woL
  simp only [Option.getD_some,List.getElem_zipWith,List.getElem_map]
 ·rw [List.getD_eq_getElem?_getD,List.getElem?_eq_none (by rw [woL_len h1 h2]; omega),List.getD_eq_getElem?_getD,List.getElem?_eq_none (by omega),List.getD_eq_getElem?_getD,List.getElem?_eq_none (by omega)]
  show (0:Int)=0-_*0
  omega
theorem fv_at {l:List Int} {k:Nat} (h:k<l.length):l[k]=fv l k:=by unfold fv; rw [L2.getD_at h]
theorem fv_bd {l:List Int} {e:Nat} (h:∀ k,Bd e (fv l k)):∀ x∈l,Bd e x:=fun x hx=>by
 obtain ⟨k,hk,rfl⟩:=List.mem_iff_getElem.mp hx
 rw [fv_at hk]
 exact h k
theorem upr_fv {L p:Nat} {xs:List Int} (h:xs.length=L):fv (upr xs p)=uprV p (fv xs):=by
 funext k
 unfold uprV
 show (upr xs p).getD k 0=(if xs.getD p 0<0 then fun k => -1*fv xs k else fv xs) k
 unfold upr
 split
 ·show (xs.map fun x => -1*x).getD k 0 = -1*xs.getD k 0
  by_cases hk:k<xs.length
  ·rw [List.getD_eq_getElem?_getD,List.getElem?_map,List.getElem?_eq_getElem hk,List.getD_eq_getElem?_getD,List.getElem?_eq_getElem hk]; rfl
  ·rw [List.getD_eq_getElem?_getD,List.getElem?_map,List.getElem?_eq_none (by omega),List.getD_eq_getElem?_getD,List.getElem?_eq_none (by omega)]; rfl
 ·rfl
theorem zs_perm {ns:List Int} {ks:List Nat} (h:ns.Perm (zs ks)):∃ ps:List Nat,ns=zs ps∧ps.Perm ks:=by
 refine ⟨ns.map Int.toNat,?_,?_⟩
 ·unfold zs
  rw [List.map_map]
  refine (List.map_id ns).symm.trans (List.map_congr_left fun x hx=>?_)
  obtain ⟨k,_,rfl⟩:=List.mem_map.mp (h.subset hx)
  show (k:Int)=((k:Int).toNat:Int)
  omega
 ·have:=h.map Int.toNat
  unfold zs at this
  rw [List.map_map] at this
  rw [show ks.map (Int.toNat ∘ fun n:Nat=>(n:Int))=ks from (List.map_congr_left fun n _=>Int.toNat_natCast n).trans (List.map_id _)] at this
  exact this
theorem sorted_up {ns:List Int} {ks:List Nat} (h:ns.Perm (zs ks)) (o:ns.Pairwise (· ≤ ·)) (nd:ks.Nodup):∃ ps:List Nat,ns=zs ps∧ps.Perm ks∧ps.Pairwise (· < ·):=by
 obtain ⟨ps,rfl,hp⟩:=zs_perm h
 refine ⟨ps,rfl,hp,?_⟩
 have n2:ps.Nodup:=hp.nodup_iff.mpr nd
 have o2:ps.Pairwise fun (a b:Nat)=>(a:Int)≤(b:Int):=List.pairwise_map.mp o
 exact (List.pairwise_and_iff.mpr ⟨o2,n2⟩).imp fun {a b} ⟨h1,h2⟩=>by omega
theorem sorted_down {ns:List Int} {ks:List Nat} (h:ns.Perm (zs ks)) (o:Ordered true ns) (nd:ks.Nodup):∃ ps:List Nat,ns=zs ps∧ps.Perm ks∧ps.Pairwise (· > ·):=by
 obtain ⟨ps,rfl,hp⟩:=zs_perm h
 refine ⟨ps,rfl,hp,?_⟩
 have n2:ps.Nodup:=hp.nodup_iff.mpr nd
 have o:(zs ps).Pairwise (· ≥ ·):=o
 have o2:ps.Pairwise fun (a b:Nat)=>(a:Int)≥(b:Int):=List.pairwise_map.mp o
 exact (List.pairwise_and_iff.mpr ⟨o2,n2⟩).imp fun {a b} ⟨h1,h2⟩=>by omega
theorem above {ps:List Nat} (o:ps.Pairwise (· > ·)) {i p:Nat} (h:ps[i]?=some p):(ps.filter fun a=>decide (p<a)).length=i:=by
 obtain ⟨hi,e⟩:=List.getElem?_eq_some_iff.mp h
 have key:=List.pairwise_iff_getElem.mp o
 have e1:ps=ps.take i++ps.drop i:=(List.take_append_drop i ps).symm
 rw [e1,List.filter_append,List.filter_eq_self.mpr,List.filter_eq_nil_iff.mpr,List.append_nil,List.length_take]
 ·omega
 ·intro a ha
  obtain ⟨j,hj,rfl⟩:=List.mem_iff_getElem.mp ha
  rw [List.getElem_drop]
  rw [List.length_drop] at hj
  rw [decide_eq_true_eq]
  rcases Nat.eq_zero_or_pos j with z | z
  ·subst z; simp only [Nat.add_zero]; omega
  ·have:=key i (i+j) hi (by omega) (by omega); omega
 ·intro a ha
  obtain ⟨j,hj,rfl⟩:=List.mem_iff_getElem.mp ha
  rw [List.getElem_take,decide_eq_true_eq]
  rw [List.length_take] at hj
  have:=key j i (by omega) hi (by omega)
  omega
theorem down_lt {ps:List Nat} (o:ps.Pairwise (· > ·)) {i a p:Nat} (hp:ps[i]?=some p) (ha:a∈ps):(a>p→a∈ps.take i)∧(a∈ps.take i→p<a):=by
 obtain ⟨hi,e⟩:=List.getElem?_eq_some_iff.mp hp
 have key:=List.pairwise_iff_getElem.mp o
 refine ⟨fun h=>?_,fun h=>?_⟩
 ·obtain ⟨j,hj,rfl⟩:=List.mem_iff_getElem.mp ha
  by_cases l:j<i
  ·exact List.mem_take_iff_getElem.mpr ⟨j,by omega,rfl⟩
  ·rcases Nat.eq_or_lt_of_le (Nat.not_lt.mp l) with z | z
   ·subst z; omega
   ·have:=key i j hi hj z; omega
 ·obtain ⟨j,hj,rfl⟩:=List.mem_take_iff_getElem.mp h
  have:=key j i (by omega) hi (by omega)
  omega
theorem Rgs.get {H:Hp} {d:Addr} {w L:Nat} {Dl:List (Nat×Addr)} {C:Nat→List Int} (h:Rgs H d w L Dl C) {p:Nat} (hp:p∈Dl.map (·.1)):∃ a,DGet H d (.int (p:Int)) (some (.ref a))∧H a=some (.lst (vints (C p)))∧(C p).length=L∧p<w∧rgF Dl C p=fv (C p):=by
 obtain ⟨a,ham,hav⟩:=(valV_dkv (p:=p) (Dl:=Dl)).2 hp
 obtain ⟨ha,la⟩:=h.rw _ ham
 have dg:DGet H d (kV (Sum.inl (p:Int):Key)) (valV (dkv Dl) (Sum.inl (p:Int):Key)):=DGet.k h.hd
 rw [hav] at dg
 exact ⟨a,dg,ha,la,h.lt _ ham,rgF_in hp⟩
theorem Rgs.putD {H:Hp} {d:Addr} {w L:Nat} {Dl:List (Nat×Addr)} {C:Nat→List Int} (h:Rgs H d w L Dl C) (w6:w≤6) {p:Nat} {a:Addr} {xs:List Int} (hp:p∈Dl.map (·.1)) (ha:H a=some (.lst (vints xs))) (hl:xs.length=L) :
  ∃ H' Dl' C',DPut H d (.int (p:Int)) (.ref a) H'∧SmX d H H'∧Rgs H' d w L Dl' C'∧Dl'.map (·.1)=Dl.map (·.1)∧rgF Dl' C'=setV (rgF Dl C) p (fv xs):=by
 have pw:p<w:=by obtain ⟨x,hx,rfl⟩:=List.mem_map.mp hp; exact h.lt x hx
 have dl:(dkv Dl).length<sizeLine:=by
  rw [List.length_map]
  have:=h.len
  exact small70 (by omega)
 have dp:DPut H d (kV (Sum.inl (p:Int):Key)) (.ref a) (upd H d (.dK (putK (dkv Dl) (Sum.inl (p:Int)) (.ref a)))):=DPut.k h.hd dl
 rw [dkv_put] at dp
 obtain ⟨rg,e⟩:=h.put pw ha hl
 exact ⟨_,_,_,dp,(SmX.refl d H).upd,rg,by rw [putD_keys,if_pos hp],e⟩
structure LadL (w:Nat) (R:List (List Int)) (ps:List Nat) (C:Nat→List Int):Prop where
 up:ps.Pairwise (· < ·)
 lt:∀ p∈ps,p<w
 ln:∀ p∈ps,(C p).length=w+R.length
 la:Lad w (tf R) R.length fun q=>if q∈ps then fv (C q) else fun _=>0
 nz:∀ p∈ps,fv (C p) p≠0
 mw:∀ p∈ps,MkV w R.length (tf R) (fv (C p))
 bd:∀ p∈ps,∀ k,Bd 900000 (fv (C p) k)
 bm:∀ p∈ps,∀ k,k<w→Bd 2982 (fv (C p) k)
def ladF (ps:List Nat) (C:Nat→List Int):Nat→Vc:=fun q=>if q∈ps then fv (C q) else fun _=>0
theorem ladF_in {ps:List Nat} {C:Nat→List Int} {q:Nat} (h:q∈ps):ladF ps C q=fv (C q):=if_pos h
theorem LadL.lad {w:Nat} {R:List (List Int)} {ps:List Nat} {C:Nat→List Int} (L:LadL w R ps C):Lad w (tf R) R.length (ladF ps C):=L.la
theorem LadL.lo {w:Nat} {R:List (List Int)} {ps:List Nat} {C:Nat→List Int} (L:LadL w R ps C) {p k:Nat} (hp:p∈ps) (hk:k<p):fv (C p) k=0:=by
 have:=L.lad.ech.lo p (L.lt p hp) k hk
 rw [ladF_in hp] at this
 exact this
theorem LadL.pos {w:Nat} {R:List (List Int)} {ps:List Nat} {C:Nat→List Int} (L:LadL w R ps C) {p:Nat} (hp:p∈ps):0<fv (C p) p:=by
 have:=L.lad.ech.nn p (L.lt p hp)
 rw [ladF_in hp] at this
 have:=L.nz p hp
 omega
theorem LadL.st {w:Nat} {R:List (List Int)} {ps:List Nat} {C:Nat→List Int} (L:LadL w R ps C) {e c:Nat} (he:e∈ps) (hc:c∈ps) (h:e<c):0≤fv (C e) c∧fv (C e) c<fv (C c) c:=by
 have:=L.lad.stl e c h (L.lt c hc) (by rw [ladF_in hc]; exact L.pos hc)
 rw [ladF_in he,ladF_in hc] at this
 exact this
theorem mkR_at {R:List (List Int)} {i:Nat} (hi:i<R.length):(mkR R)[i]?=some (R.getD i []++unitL R.length i):=by
 unfold mkR
 rw [List.getElem?_map,List.getElem?_range hi]
 rfl
theorem row_fv {w:Nat} {R:List (List Int)} (hw:∀ r∈R,r.length=w) {i:Nat} (hi:i<R.length):(R.getD i []++unitL R.length i).length=w+R.length∧(∀ k,k<w→fv (R.getD i []++unitL R.length i) k=tf R i k)∧(∀ j,fv (R.getD i []++unitL R.length i) (w+j)=if j=i then 1 else 0):=by
 have l1:(R.getD i []).length=w:=hw _ (getDm hi)
 refine ⟨by rw [List.length_append,l1,unitL_len],fun k hk=>?_,fun j=>?_⟩
 ·show (R.getD i []++unitL R.length i).getD k 0=(R.getD i []).getD k 0
  rw [List.getD_eq_getElem?_getD,List.getElem?_append_left (by omega),← List.getD_eq_getElem?_getD]
 ·show (R.getD i []++unitL R.length i).getD (w+j) 0=_
  rw [List.getD_eq_getElem?_getD,List.getElem?_append_right (by omega),← List.getD_eq_getElem?_getD,l1,Nat.add_sub_cancel_left]
  by_cases hj:j<R.length
  ·exact unitL_at hj
  ·rw [List.getD_eq_getElem?_getD,List.getElem?_eq_none (by rw [unitL_len]; omega),if_neg (by omega)]
   rfl
theorem row_mk {w:Nat} {R:List (List Int)} (hw:∀ r∈R,r.length=w) {i:Nat} (hi:i<R.length):MkV w R.length (tf R) (fv (R.getD i []++unitL R.length i)):=fun k hk=>by
 obtain ⟨_,h1,h2⟩:=row_fv hw hi
 rw [h1 k hk,lsm_one hi fun j _ ne=>by rw [h2 j,if_neg ne,Int.zero_mul],h2 i,if_pos rfl,Int.one_mul]
end L2
namespace L2
open PySem PySem.Spec PyProof.Rows SeqAt
section
variable {X:Cx}
end
def RgT (H:Hp) (ss:List (Addr×Addr×Addr)) (ps:List Nat) (X Y:Nat→List Int):Prop:=Paired (fun (s:Addr×Addr×Addr) (p:Nat)=>H s.1=some (.tup [.int (p:Int),.ref s.2.1,.ref s.2.2])∧H s.2.1=some (.lst (vints (X p)))∧H s.2.2=some (.lst (vints (Y p)))) ss ps
theorem RgT.same {H H':Hp} {ss:List (Addr×Addr×Addr)} {ps:List Nat} {X Y:Nat→List Int} (h:RgT H ss ps X Y) (S:Same H H'):RgT H' ss ps X Y:=Paired.mapP h fun s p ⟨a,b,c⟩=>⟨S _ _ a,S _ _ b,S _ _ c⟩
theorem unitL_abs' {w p:Nat}:∀ y∈unitL w p,y.natAbs≤1:=fun y hy=>by
 unfold unitL at hy
 obtain ⟨k,_,rfl⟩:=List.mem_map.mp hy
 split<;>decide
theorem wsum_lsm {n:Nat} {ws os:List Int} (h1:ws.length=n) (h2:os.length=n):wsum ws os=lsm n fun k=>fv ws k*fv os k:=by
 rw [← wsum_at h1 h2,lsm_sum]
 rfl
def ScT (H:Hp) (cs:List (Addr×Addr)) (W:Nat→List Int) (pt:Nat→Int):Prop:=∀ (j:Nat) (c:Addr×Addr),cs[j]?=some c→H c.1=some (.tup [.ref c.2,.int (pt j)])∧H c.2=some (.lst (vints (W j)))
theorem ScT.same {H H':Hp} {cs:List (Addr×Addr)} {W:Nat→List Int} {pt:Nat→Int} (h:ScT H cs W pt) (S:Same H H'):ScT H' cs W pt:=fun j c e=>⟨S _ _ (h j c e).1,S _ _ (h j c e).2⟩
theorem ScT.snoc {H H':Hp} {cs:List (Addr×Addr)} {W:Nat→List Int} {pt:Nat→Int} {i:Nat} {q l:Addr} {wl:List Int} {pn:Int} (h:ScT H cs W pt) (S:Same H H') (cl:cs.length=i) (hq:H' q=some (.tup [.ref l,.int pn])) (hl:H' l=some (.lst (vints wl))):ScT H' (cs++[(q,l)]) (fun s=>if s=i then wl else W s) (fun s=>if s=i then pn else pt s):=fun j c e=>by
 have lj:=(List.getElem?_eq_some_iff.mp e).1
 rw [List.length_append,List.length_singleton] at lj
 try dsimp only
 by_cases z:j<cs.length
 ·rw [List.getElem?_append_left z] at e
  rw [if_neg (by omega),if_neg (by omega)]
  exact ⟨S _ _ (h j c e).1,S _ _ (h j c e).2⟩
 ·rw [List.getElem?_append_right (by omega),show j-cs.length=0 by omega] at e
  obtain rfl:(q,l)=c:=by simpa using e
  rw [if_pos (by omega),if_pos (by omega)]
  exact ⟨hq,hl⟩
structure ScOk (w:Nat) (ps:List Nat) (X:Nat→List Int) (s:Nat) (wl:List Int) (pt:Int):Prop where
 ln:wl.length=w
 pos:0<pt
 bd:∀ x∈wl,x.natAbs<2^8999
 pb:Bd 4001 pt
 own:lsm w (fun k=>fv wl k*fv (X (ps.getD s 0)) k)=pt
 lo:∀ j,j<s→lsm w (fun k=>fv wl k*fv (X (ps.getD j 0)) k)=0
 hi:∀ f:Vc,(∀ j,j≤s→f (ps.getD j 0)=0)→lsm w (fun k=>fv wl k*f k)=0
section
variable {X:Cx}
end
theorem LadL.rgI {w:Nat} {R:List (List Int)} {ps:List Nat} {C:Nat→List Int} (L:LadL w R ps C) {γ:Nat→Nat} (hγ:∀ j,j<ps.length→Bd (γ j) (fv (C (ps.getD j 0)) (ps.getD j 0))) {s:Nat} (hs:s<ps.length):RgI w s (fun k=>ps.getD k 0) (fun k=>fv ((C (ps.getD k 0)).take w)) γ:=by
 have at_:∀ j,j≤s→ps.getD j 0∈ps:=fun j hj=>by
  rw [List.getD_eq_getElem?_getD,List.getElem?_eq_getElem (show j<ps.length by omega)]
  exact List.getElem_mem _
 have tk:∀ p k,k<w→fv ((C p).take w) k=fv (C p) k:=fun p k hk=>by
  unfold fv
  rw [List.getD_eq_getElem?_getD,List.getElem?_take,if_pos hk,← List.getD_eq_getElem?_getD]
 have up:∀ i j,i<j→j≤s→ps.getD i 0<ps.getD j 0:=fun i j ij js=>by
  have:=List.pairwise_iff_getElem.mp L.up i j (by omega) (by omega) ij
  rw [List.getD_eq_getElem?_getD,List.getElem?_eq_getElem (show i<ps.length by omega),List.getD_eq_getElem?_getD,List.getElem?_eq_getElem (show j<ps.length by omega)]
  exact this
 refine ⟨fun j hj=>L.lt _ (at_ j hj),up,fun j hj k hk=>?_,fun j hj=>?_,fun i j ij js=>?_,fun j hj=>?_⟩
 ·have:=L.lt _ (at_ j hj)
  rw [tk _ k (by omega)]
  exact L.lo (at_ j hj) hk
 ·rw [tk _ _ (L.lt _ (at_ j hj))]; exact L.pos (at_ j hj)
 ·rw [tk _ _ (L.lt _ (at_ j js)),tk _ _ (L.lt _ (at_ j js))]
  exact L.st (at_ i (by omega)) (at_ j js) (up i j ij js)
 ·rw [tk _ _ (L.lt _ (at_ j hj))]; exact hγ j (by omega)
end L2
namespace L2
open PySem PySem.Spec PyProof.Rows
def DK (h h':Heap):Prop:=∀ b o,h.get? b=some o→∃ o',h'.get? b=some o'∧o'.cls=o.cls∧o'.dict=o.dict
theorem DK.refl (h:Heap):DK h h:=fun _ o e=>⟨o,e,rfl,rfl⟩
theorem DK.trans {h1 h2 h3:Heap} (a:DK h1 h2) (b:DK h2 h3):DK h1 h3:=fun c o e =>
 let ⟨_,e1,c1,d1⟩:=a c o e
 let ⟨o2,e2,c2,d2⟩:=b c _ e1
 ⟨o2,e2,c2.trans c1,d2.trans d1⟩
structure KD {α:Type} (t:Sem α):Prop where
 out:∀ (M:Model) (G:PySem.Ctx) (P:α→Pos→Shared→Prop) (F:Value→Pos→Shared→Prop) (p:Pos) (s:Shared),Sem.wp M G t P F p s→Sem.wp M G t (fun a p' s'=>P a p' s'∧DK s.heap s'.heap) F p s
namespace KD
variable {α β:Type}
theorem ret (a:α):KD (Pure.pure a:Sem α):=⟨fun _ _ _ _ _ s h=>⟨h,DK.refl s.heap⟩⟩
theorem uns (w:String):KD (PySem.unsupported w:Sem α):=⟨fun _ _ _ _ _ _ h=>h⟩
theorem andThen {m:Sem α} {f:α→Sem β} (hm:KD m) (hf:∀ a,KD (f a)):KD (m >>= f):=⟨fun M G P F p s h=>by
 rw [Sem.wp_bind'] at h ⊢
 refine Sem.wp_mono M G m (fun a p' s' z=>?_) (fun _ _ _ x=>x) p s (hm.out M G _ F p s h)
 exact Sem.wp_mono M G (f a) (fun b p2 s2 y=>⟨y.1,z.2.trans y.2⟩) (fun _ _ _ x=>x) p' s' ((hf a).out M G P F p' s' z.1)⟩
theorem cond {c:Prop} [Decidable c] {t u:Sem α} (ht:KD t) (hu:KD u):KD (if c then t else u):=by split<;>assumption
theorem ld (a:Addr):KD (PySem.load a):=⟨fun _ _ _ _ _ s h=>by obtain ⟨o,e,q⟩:=h; exact ⟨o,e,q,DK.refl s.heap⟩⟩
theorem stk:KD PySem.stack:=⟨fun M G P F p s h=>by
 unfold PySem.stack at h ⊢
 rw [Sem.wp_stack] at h ⊢
 exact ⟨h,DK.refl s.heap⟩⟩
theorem new (o:Obj):KD (PySem.alloc o):=⟨fun M G P F p s h=>⟨h,fun b u e=>⟨u,Heap.get?_push_of_some _ e,rfl,rfl⟩⟩⟩
theorem upd (a:Addr) (f:Obj→Obj) (k:∀ o,(f o).isFreed=o.isFreed∧(f o).cls=o.cls∧(f o).dict=o.dict):KD (PySem.update a f):=⟨fun M G P F p s h=>by
 obtain ⟨e,q⟩:=h
 refine ⟨e,q,fun b o hb=>?_⟩
 show ∃ o',(s.heap.update a f).get? b=some o'∧_
 by_cases hba:b=a
 ·subst hba
  exact ⟨f o,Heap.get?_update_self f hb ((k o).1.trans (Heap.get?_some_iff.mp hb).2),(k o).2.1,(k o).2.2⟩
 ·exact ⟨o,(Heap.get?_update_other _ _ (Ne.symm hba)).trans hb,rfl,rfl⟩⟩
theorem fld (v:Value) (i:Nat):KD (PySem.field v i):=⟨fun _ G P F p s h=>by
 obtain ⟨a,o,vs,x,e,ho,hd,hx,q⟩:=(wp_field_iff G v i P F p s).mp h
 exact (wp_field_iff G v i _ F p s).mpr ⟨a,o,vs,x,e,ho,hd,hx,q,DK.refl s.heap⟩⟩
theorem setFld (v:Value) (i:Nat) (x:Value):KD (PySem.setField v i x):=⟨fun _ G P F p s h=>by
 obtain ⟨a,o,vs,e,ho,hd,hi,q⟩:=(wp_setField_iff G v i x P F p s).mp h
 refine (wp_setField_iff G v i x _ F p s).mpr ⟨a,o,vs,e,ho,hd,hi,q,fun b ob hb=>?_⟩
 show ∃ o',(s.heap.update a _).get? b=some o'∧_
 by_cases hba:b=a
 ·subst hba
  rw [ho] at hb
  cases hb
  have z:=Heap.get?_update_self (Obj.mapFields (·.setIfInBounds i x)) ho (Obj.isFreed_of_fields (Obj.data_mapFields hd _))
  refine ⟨_,z,Obj.cls_mapFields _ _,?_⟩
  obtain ⟨c,d,dt,sl⟩:=o
  cases dt<;>rfl
 ·exact ⟨ob,(Heap.get?_update_other _ _ (Ne.symm hba)).trans hb,rfl,rfl⟩⟩
theorem any {t:Sem α} (k:KD t) {M:Model} {A:Around} {Q:α→Shared→Prop} {E:Value→Shared→Prop} {s:Shared} (h:wpAny M A t Q E s):wpAny M A t (fun a s'=>Q a s'∧DK s.heap s'.heap) E s :=
 fun G p hG=>k.out M G _ _ p s (h G p hG)
end KD
theorem kd_import (env:Env) (outer:List Env):KD (behindIsImport env outer):=by
 unfold behindIsImport
 (repeat' with_reducible first | assumption | exact KD.ret _ | exact KD.uns _ | exact KD.fld _ _ | exact KD.setFld _ _ _ | exact KD.ld _ | exact KD.stk | exact KD.new _ | apply KD.cond | apply KD.andThen | intro _ | split)
theorem kd_caller:KD underTheClaimsCaller:=by
 unfold underTheClaimsCaller
 (repeat' with_reducible first | assumption | exact KD.ret _ | exact KD.uns _ | exact KD.fld _ _ | exact KD.setFld _ _ _ | exact KD.ld _ | exact KD.stk | exact KD.new _ | apply KD.cond | apply KD.andThen | intro _ | split)
theorem kd_back (env:Env) (i:Bool) (l:List Env):KD (keptBack env i l):=by
 have:=kd_caller
 cases l<;>unfold keptBack<;>(repeat' with_reducible first | assumption | exact KD.ret _ | exact KD.uns _ | exact KD.fld _ _ | exact KD.setFld _ _ _ | exact KD.ld _ | exact KD.stk | exact KD.new _ | apply KD.cond | apply KD.andThen | intro _ | split)
theorem kd_ready:∀ l:List Env,KD (readyFrames l)
 | []=>KD.ret _
 | env::outer=>by
  have ih:=kd_ready outer
  have h1:=kd_import env outer
  have h2:=fun i=>kd_back env i outer
  unfold readyFrames
  (repeat' with_reducible first | assumption | exact KD.ret _ | exact KD.uns _ | exact KD.fld _ _ | exact KD.setFld _ _ _ | exact KD.ld _ | exact KD.stk | exact KD.new _ | apply KD.cond | apply KD.andThen | intro _ | split)
  all_goals first | exact h2 _ | exact KD.upd _ _ (fun o=>⟨by obtain ⟨c,d,dt,sl⟩:=o; cases dt<;>rfl,rfl,rfl⟩) | skip
theorem kd_frameObject (l:List Env):KD (frameObject l):=by
 cases l with
 | nil=>exact KD.ret _
 | cons env outer =>
  have:=kd_ready (env::outer)
  unfold frameObject
  (repeat' with_reducible first | assumption | exact KD.ret _ | exact KD.uns _ | exact KD.fld _ _ | exact KD.setFld _ _ _ | exact KD.ld _ | exact KD.stk | exact KD.new _ | apply KD.cond | apply KD.andThen | intro _ | split)
theorem kd_frameOf (env:Env):KD (PySem.frameOf env):=by
 have h1:KD frameEnvs:=by unfold frameEnvs; (repeat' with_reducible first | assumption | exact KD.ret _ | exact KD.uns _ | exact KD.fld _ _ | exact KD.setFld _ _ _ | exact KD.ld _ | exact KD.stk | exact KD.new _ | apply KD.cond | apply KD.andThen | intro _ | split)
 have h2:=kd_frameObject
 unfold PySem.frameOf
 (repeat' with_reducible first | assumption | exact KD.ret _ | exact KD.uns _ | exact KD.fld _ _ | exact KD.setFld _ _ _ | exact KD.ld _ | exact KD.stk | exact KD.new _ | apply KD.cond | apply KD.andThen | intro _ | split)
 all_goals first | exact h2 _ | skip
theorem kd_place (f:Addr) (b:Bool):KD (entryPlaceOf f b):=by
 unfold entryPlaceOf
 (repeat' with_reducible first | assumption | exact KD.ret _ | exact KD.uns _ | exact KD.fld _ _ | exact KD.setFld _ _ _ | exact KD.ld _ | exact KD.stk | exact KD.new _ | apply KD.cond | apply KD.andThen | intro _ | split)
theorem kd_newObj (T:String) (vs:Array Value):KD (newObj (.type T) (.fields vs)):=by
 unfold newObj newObjAsIs
 try dsimp only
 (repeat' with_reducible first | assumption | exact KD.ret _ | exact KD.uns _ | exact KD.fld _ _ | exact KD.setFld _ _ _ | exact KD.ld _ | exact KD.stk | exact KD.new _ | apply KD.cond | apply KD.andThen | intro _ | split)
theorem kd_note (e:Value) (env:Env):KD (noteFrame e env):=by
 have h1:=kd_frameOf env
 have h2:=kd_place
 unfold noteFrame EntryCells.newEntry newFields
 (repeat' with_reducible first | assumption | exact KD.ret _ | exact KD.uns _ | exact KD.fld _ _ | exact KD.setFld _ _ _ | exact KD.ld _ | exact KD.stk | exact KD.new _ | apply KD.cond | apply KD.andThen | intro _ | split)
 all_goals first | exact h2 _ _ | exact kd_newObj _ _ | skip
theorem kd_flight (e:Value) (f:Option Addr):KD (setFlight e f):=by
 unfold setFlight
 (repeat' with_reducible first | assumption | exact KD.ret _ | exact KD.uns _ | exact KD.fld _ _ | exact KD.setFld _ _ _ | exact KD.ld _ | exact KD.stk | exact KD.new _ | apply KD.cond | apply KD.andThen | intro _ | split)
theorem kd_leaving (env:Env) (e:Value):KD (leaving env e):=by
 have h1:=kd_note e env
 have h2:=kd_flight e none
 unfold leaving
 (repeat' with_reducible first | assumption | exact KD.ret _ | exact KD.uns _ | exact KD.fld _ _ | exact KD.setFld _ _ _ | exact KD.ld _ | exact KD.stk | exact KD.new _ | apply KD.cond | apply KD.andThen | intro _ | split)
end L2
namespace L2
open PySem PySem.Spec PyProof.Rows
def Fly (l:List Env) (H:Hp) (h:Heap) (a:Addr) (cls:Value) (dx:Option Addr) (H':Hp) (h':Heap):Prop :=
 ∃ (B:Heap) (a0:Value),Heap.FlyingW B l a cls a0 h'∧(∀ b o,h.get? b=some o→H b=none→b∉frs l→B.get? b=some o)∧(∀ b u o,H' b=some u→h'.get? b=some o→B.get? b=some o)∧∃ oe,h'.get? a=some oe∧oe.dict=dx
def CXF (P:Program) (w:World):CXT:=fun outer H s E e s' =>
 ∃ (a:Addr) (cls:Value) (dx:Option Addr) (H':Hp),e=.ref a∧s'.os=s.os∧AllBare s'.gens∧Un (frs outer) [] H H' s.heap s'.heap∧HOk P w H' s'.heap∧H' a=none∧s.heap.get? a=none∧Fly outer H s.heap a cls dx H' s'.heap∧E cls dx H'
theorem ObjOk.has {P:Program} {w:World} {H:Hp} {h:Heap} {a:Addr} {o:HO} (x:ObjOk P w H h a o):∃ ob,h.get? a=some ob:=by
 cases o with
 | lst xs=>obtain ⟨_,_,_,_,e⟩:=x; exact ⟨_,e⟩
 | tup xs=>obtain ⟨_,_,_,ob,e,_⟩:=x; exact ⟨_,e⟩
 | dK kvs=>obtain ⟨_,_,_,_,o,_,_,e,_⟩:=x; exact ⟨_,e⟩
 | dT kvs=>obtain ⟨_,_,_,_,o,_,_,e,_⟩:=x; exact ⟨_,e⟩
 | set S n=>obtain ⟨o,_,_,_,e,_⟩:=x; exact ⟨_,e⟩
 | ins C dx fs=>obtain ⟨_,_,_,e,_⟩:=x; exact ⟨_,e⟩
 | own y=>obtain ⟨_,e⟩:=x; exact ⟨_,e⟩
 | xd fs=>obtain ⟨_,⟨_,_,_,e,_⟩,_⟩:=x; exact ⟨_,e⟩
 | rng lo hi=>obtain ⟨_,_,_,e⟩:=x; exact ⟨_,e⟩
 | frz ob u=>obtain ⟨e,_⟩:=x; exact ⟨_,e⟩
 | tbl ps=>exact ⟨_,x⟩
 | met f y=>exact ⟨_,x⟩
 | ext φ=>obtain ⟨_,⟨_,e⟩,_⟩:=x; exact ⟨_,e⟩
section
variable {P:Program} {w:World}
theorem HOk.based {H':Hp} {h' h'' B:Heap} (ok:HOk P w H' h') (T:∀ b u o,H' b=some u→h'.get? b=some o→B.get? b=some o) (st:B.StaysIn h''):HOk P w H' h'':=fun a o e=>by
 refine (ok a o e).stay (fun b u hb q=>?_) (fun _ q=>q) fun _ _ q=>q
 rcases hb with rfl | hb
 ·exact st b u (T b _ u e q)
 ·exact st b u (T b _ u hb q)
theorem Un.flown {l l':List Env} {H H':Hp} {h h' h'' B:Heap} {a:Addr} {cls a0:Value} (u:Un (frs l') [] H H' h h') (F:Heap.FlyingW B l a cls a0 h') (st:B.StaysIn h'') (up:h'.UpToSlots h'') (dk:DK h' h'')
  (old:∀ b o,h.get? b=some o→H b=none→b∉frs l→B.get? b=some o) (sub:∀ b∈frs l',b∈frs l) (nw:∀ b∈frs l,b∉frs l'→h.get? b=none):Un (frs l') [] H H' h h'' where
 keep:=fun b o e n hb _=>by
  by_cases hl:b∈frs l
  ·rw [nw b hl hb] at e; cases e
  ·exact st b o (old b o e n hl)
 slot:=fun b o e n hb hx=>by
  obtain ⟨sl,e1⟩:=u.slot b o e n hb hx
  obtain ⟨_,ob,ho,nf⟩:=F.2.2.1.mem (sub b hb)
  rw [e1] at ho
  cases ho
  obtain ⟨sl',e2⟩:=up b _ e1 nf
  exact ⟨sl',e2⟩
 free:=u.free
 there:=fun b o e hx=>by
  obtain ⟨o',e1⟩:=u.there b o e hx
  obtain ⟨o2,e2,_⟩:=dk b o' e1
  exact ⟨o2,e2⟩
 tups:=u.tups
 frzs:=u.frzs
 tbls:=u.tbls
variable {K:PySem.W.Frag} {mg:Str→Option Value} {base:Heap} {N:List Str} {qual:Str} {scope:Scope} {f:Addr} {cd:Value} {A:Around} {outer:List Env} {s:Shared} {H:Hp} {E:XK}
theorem frs_cons {env:Env} {l:List Env} {L:Addr} (h:env.frame=some L):frs (env::l)=L::frs l:=by
 unfold frs
 rw [List.filterMap_cons,h]
theorem passF:Passes (CXF P w) (cxOf (CXF P w) P w K mg base N qual scope f cd A outer s H E) E:=by
 intro pins σ H1 s1 e s' I hc
 obtain ⟨a,cls,dx,H',rfl,os,bare,un,hok,na,ha,⟨B,a0,F,b1,b2,oe,he,hd⟩,q⟩:=hc
 have J:=I.call' (H':=H') os un hok bare (fun b z=>absurd z (by simp))
 have eL:(cxOf (CXF P w) P w K mg base N qual scope f cd A outer s H E).env.frame=some s.heap.objs.size:=rfl
 have hfs:frs ((cxOf (CXF P w) P w K mg base N qual scope f cd A outer s H E).stack)=s.heap.objs.size::frs outer:=frs_cons eL
 show wpAny _ _ (leaving _ (.ref a)) _ _ _
 refine wpAny_mono ((kd_leaving _ _).any (wpAny_leaves_onW (Q:=fun _ s''=>Heap.FlyingW B outer a cls a0 s''.heap∧s'.heap.UpToSlots s''.heap∧s''={ s' with heap:=s''.heap }) I.ok.frames eL F fun h' F' U=>⟨F',U,rfl⟩)) (fun _ s'' z=>?_) fun _ _ z=>z
 obtain ⟨⟨F',U,es⟩,dk⟩:=z
 obtain ⟨oe',he',_,hd'⟩:=dk a oe he
 have old:∀ b o,s.heap.get? b=some o→H b=none→b∉frs ((cxOf (CXF P w) P w K mg base N qual scope f cd A outer s H E).stack)→B.get? b=some o:=fun b o e n hb=>by
  have hb':b∉frs outer:=fun z=>hb (by rw [hfs]; exact List.mem_cons_of_mem _ z)
  exact b1 b o (I.base.keep b o e n hb' (fun z=>absurd z (by simp [cxOf]))) (I.base.free b o e n (fun z=>absurd z (by simp [cxOf]))) hb
 have nw:∀ b∈frs ((cxOf (CXF P w) P w K mg base N qual scope f cd A outer s H E).stack),b∉frs outer→s.heap.get? b=none:=fun b hb nb=>by
  rw [hfs] at hb
  rcases List.mem_cons.mp hb with z | z
  ·rw [z]; exact Heap.get?_none_of_le (Nat.le_refl _)
  ·exact absurd z nb
 have sub:∀ b∈frs outer,b∈frs ((cxOf (CXF P w) P w K mg base N qual scope f cd A outer s H E).stack):=fun b hb=>by
  rw [hfs]; exact List.mem_cons_of_mem _ hb
 have na':s.heap.get? a=none:=by
  cases z:s.heap.get? a with
  | none=>rfl
  | some o=>obtain ⟨o',e'⟩:=I.base.there a o z (fun z=>absurd z (by simp [cxOf])); rw [ha] at e'; cases e'
 refine ⟨a,cls,dx,H',rfl,by rw [es]; exact J.os,by rw [es]; exact bare,J.base.flown F F'.1 U dk old sub nw,hok.based b2 F'.1,na,na',⟨B,a0,F',fun b o e n hb=>?_,fun b u o hu ho=>?_,oe',he',hd'.trans hd⟩,q⟩
 ·by_cases hs:b∈frs ((cxOf (CXF P w) P w K mg base N qual scope f cd A outer s H E).stack)
  ·rw [nw b hs hb] at e; cases e
  ·exact old b o e n hs
 ·obtain ⟨ob,hob⟩:=(hok b u hu).has
  have z:=b2 b u ob hu hob
  rw [F'.1 b ob z] at ho
  cases ho
  exact z
def RaiseOk (X:Cx) (C:Addr) (E:XK):Prop:=∀ (pins:List (Addr×Obj)) (σ:St) (H:Hp) (s:Shared) (e:Addr) (h':Heap) (vs:List Value),Inv X pins σ H s→Heap.MadeExcOf s.heap h' e (.ref C) vs→E (.ref C) none H→X.xe (.ref e) { s with heap:=h' }
theorem raiseF {C:Addr}:RaiseOk (cxOf (CXF P w) P w K mg base N qual scope f cd A outer s H E) C E:=by
 intro pins σ H1 s1 e h1 vs I hx q
 have eL:(cxOf (CXF P w) P w K mg base N qual scope f cd A outer s H E).env.frame=some s.heap.objs.size:=rfl
 generalize hl:frs ((cxOf (CXF P w) P w K mg base N qual scope f cd A outer s H E).stack)=fs
 have hfs:fs=s.heap.objs.size::frs outer:=by rw [← hl]; exact frs_cons eL
 have FF:=PySem.W.funFrames_hide (as:=fs) I.stack (fun env he a ha=>by rw [← hl]; exact List.mem_filterMap.mpr ⟨env,he,ha⟩)
 have st:(PySem.W.hideAll s1.heap fs).StaysIn s1.heap:=fun b o z=>PySem.W.of_hideAll _ z
 obtain ⟨t,het,_,_⟩:=hx.there
 have ne:H1 e=none:=by
  cases z:H1 e with
  | none=>rfl
  | some u=>obtain ⟨ob,hob⟩:=(I.hok e u z).has; rw [hx.new] at hob; cases hob
 show wpAny _ _ (leaving _ (.ref e)) _ _ _
 refine wpAny_mono ((kd_leaving _ _).any (wpAny_leaves_madeW (Q:=fun _ s''=>(∃ t,Heap.FlyingW (PySem.W.hideAll s1.heap fs) outer e (.ref C) (.ref t) s''.heap)∧h1.UpToSlots s''.heap∧s''={ s1 with heap:=s''.heap }) (s:={ s1 with heap:=h1 }) I.ok.frames eL st FF hx fun h' t F' _ _ U=>⟨⟨t,F'⟩,U,rfl⟩)) (fun _ s'' z=>?_) fun _ _ z=>z
 obtain ⟨⟨⟨t',F'⟩,U,es⟩,dk⟩:=z
 obtain ⟨oe',he',_,hd'⟩:=dk e _ het
 have kp:∀ b o,s1.heap.get? b=some o→b∉fs→(PySem.W.hideAll s1.heap fs).get? b=some o:=fun b o z nb=>PySem.W.hideAll_get _ z nb
 have exN:∀ b:Addr,b∉(cxOf (CXF P w) P w K mg base N qual scope f cd A outer s H E).ex:=fun b z=>absurd z (by simp [cxOf])
 have old:∀ b o,s.heap.get? b=some o→H b=none→b∉frs outer→(PySem.W.hideAll s1.heap fs).get? b=some o:=fun b o e' n hb=>by
  refine kp b o (I.base.keep b o e' n hb (exN b)) fun z=>?_
  rw [hfs] at z
  rcases List.mem_cons.mp z with z | z
  ·rw [z] at e'; exact absurd (Heap.lt_size e') (Nat.lt_irrefl _)
  ·exact hb z
 have trk:∀ b u o,H1 b=some u→s1.heap.get? b=some o→(PySem.W.hideAll s1.heap fs).get? b=some o:=fun b u o hu ho=>by
  refine kp b o ho fun z=>?_
  have:=I.stkFree b (by rw [hl]; exact z)
  rw [this] at hu; cases hu
 have trk':∀ b u o,H1 b=some u→s''.heap.get? b=some o→(PySem.W.hideAll s1.heap fs).get? b=some o:=fun b u o hu ho=>by
  obtain ⟨ob,hob⟩:=(I.hok b u hu).has
  have z:=trk b u ob hu hob
  rw [F'.1 b ob z] at ho
  cases ho
  exact z
 have na':s.heap.get? e=none:=by
  cases z:s.heap.get? e with
  | none=>rfl
  | some o=>obtain ⟨o',e'⟩:=I.base.there e o z (exN e); rw [hx.new] at e'; cases e'
 refine ⟨e,.ref C,none,H1,rfl,by rw [es]; exact I.os,by rw [es]; exact I.bare,⟨fun b o e' n hb _=>F'.1 b o (old b o e' n hb),fun b o e' n hb hx'=>?_,fun b o e' n hx'=>I.base.free b o e' n (exN b),fun b o e' hx'=>?_,I.base.tups,I.base.frzs,I.base.tbls⟩,I.hok.based trk F'.1,ne,na',⟨_,_,F',old,trk',oe',he',hd'⟩,q⟩
 ·obtain ⟨sl,e1⟩:=I.base.slot b o e' n hb (exN b)
  obtain ⟨_,ob,ho,nf⟩:=I.stack.mem (b:=b) (by show b∈frs _; rw [hl,hfs]; exact List.mem_cons_of_mem _ hb)
  rw [e1] at ho
  cases ho
  obtain ⟨sl',e2⟩:=U b _ (hx.keeps _ _ e1) nf
  exact ⟨sl',e2⟩
 ·obtain ⟨o',e1⟩:=I.base.there b o e' (exN b)
  obtain ⟨o2,e2,_⟩:=dk b o' (hx.keeps _ _ e1)
  exact ⟨o2,e2⟩
end
end L2
namespace L2
open PySem PySem.Spec PyProof.Rows
abbrev excMro:List Value:=[.type "ValueError",.type "Exception",.type "BaseException",.type "object"]
def ExcCls (h:Heap) (C:Addr) (bm:List Value) (N:Addr) (mN:Str→Option Value):Prop :=
 ∃ nm qn bs hdct sn sub ab col dd k0 k1 k2 k3 k5,h.get? C=some (excClassObj nm qn C N bs bm hdct sn sub ab col dd k0 k1 k2 k3 k5 "ValueError.__new__")∧h.Ns N mN∧OwnTail h excMro bm
def ecIn (K:PySem.W.Frag) (C:Addr) (bm:List Value):Bool:=match K.lookup C with
 | some ⟨.type "type",_,.cls cd,sl⟩=>(match cd.mro,sl.toList with
  | .ref C'::tl,[_,_,_,_,some (.builtin n),_]=>C'==C&&tl==bm&&n=="ValueError.__new__" && !cd.hasDel&&PySem.W.tailIn K excMro bm&&PySem.W.nsOkIn K cd.ns
  | _,_=>false)
 | _=>false
theorem ExcCls.of {K:PySem.W.Frag} {h:Heap} {C:Addr} {bm:List Value} (X:K.In h) (q:ecIn K C bm=true):∃ N mN,ExcCls h C bm N mN∧(PySem.W.clsIn K C).map (·.ns)=some N:=by
 unfold ecIn at q
 split at q
 case h_2=>cases q
 case h_1 d cd sl lk =>
  split at q
  case h_2=>cases q
  case h_1 C2 tl a b c d2 n e2 hm hs =>
   simp only [Bool.and_eq_true,beq_iff_eq,Bool.not_eq_true'] at q
   obtain ⟨⟨⟨⟨⟨c1,c2⟩,c3⟩,c4⟩,c5⟩,c6⟩:=q
   subst c1 c2 c3
   obtain ⟨l⟩:=sl
   try dsimp only at hs
   subst hs
   obtain ⟨nm,bs,mro,ns,qn,hd,sn,sub,ab,col,del⟩:=cd
   try dsimp only at hm c4 c6
   subst hm c4
   exact ⟨ns,_,⟨nm,qn,bs,hd,sn,sub,ab,col,d,a,b,c,d2,e2,X _ _ lk,.of_isNs (PySem.W.isNs_of_in X c6),PySem.W.tail_of_in X c5⟩,by unfold PySem.W.clsIn; rw [lk]; rfl⟩
theorem ExcCls.keeps {h h':Heap} {C:Addr} {bm:List Value} {N:Addr} {mN:Str→Option Value} (x:ExcCls h C bm N mN) (k:∀ b o,h.get? b=some o→h'.get? b=some o):ExcCls h' C bm N mN:=by
 obtain ⟨nm,qn,bs,hd,sn,sub,ab,col,dd,k0,k1,k2,k3,k5,e,n,t⟩:=x
 exact ⟨nm,qn,bs,hd,sn,sub,ab,col,dd,k0,k1,k2,k3,k5,k _ _ e,n.keeps k,t.keeps k⟩
structure XPlain (K:PySem.W.Frag) (C:Addr) (bm:List Value):Prop where
 ec:ecIn K C bm=true
 ni:((PySem.W.clsIn K C).map (·.ns)).bind (fun N=>PySem.W.nsIn K N "__init__")=some none
section
variable {X:Cx} {C:Addr} {bm:List Value} {E:XK}
def tRaise (C:Addr) (E:XK) (t:TA):TS:=fun _ σ H=>t σ H fun vs H1=>vs.length≤sizeLine∧E (.ref C) none H1
theorem ps_raise {x:Str} {np cpos pos:Pos} {e:Expr} {es:List Expr} {t:TA} (R:RaiseOk X C E) (c:XPlain X.K C bm) (hg:Gl X x) (hm:X.mg x=some (.ref C)) (ha:PA X (e::es) t) (hc:X.calm=true:=by rfl)
  (hdb:(x==("__debug__" : Str))=false:=by decide) (he:starEach (e::es) X.env=(false,eval e X.env)::starEach es X.env:=by rfl) (hpl:(backTo cpos (starEach (e::es) X.env)).any (·.1)=false:=by rfl) :
  PS X (.Raise (some (.Call (.Name x np) (e::es) [] cpos)) none pos) (tRaise C E t):=by
 intro pins s σ H D I h
 obtain ⟨N,mN,xc,hN⟩:=ExcCls.of I.ok.mod.kin c.ec
 have nin:mN "__init__" = none:=by
  have z:=c.ni
  rw [hN] at z
  obtain ⟨_,_,_,_,_,_,_,_,_,_,_,_,_,_,_,n,_⟩:=xc
  exact PySem.W.ns_none_of I.ok.mod.kin n z
 obtain ⟨nm,qn,bs,hd,sn,sub,ab,col,dd,k0,k1,k2,k3,k5,e0,n0,t0⟩:=xc
 refine wpAny_Raise_call_subT (C:=C) (N:=N) (mN:=mN) (nm:=nm) (q:=qn) (bs:=bs) (bm:=bm) (hdct:=hd) (sn:=sn) (sub:=sub) (ab:=ab) (col:=col) (dd:=dd) (k0:=k0) (k1:=k1) (k2:=k2) (k3:=k3) (k5:=k5) PySem.F.excBase_ValueError (t0.hasType PySem.F.excBase_ValueError.hasBase) (I.ok.hd hc) hpl nin (ld_glob I hg hm ⟨rfl,?_⟩ hdb)
 have z:=ha cpos pins s σ H _ I h
 rw [he] at z ⊢
 refine Calls.evalArgs_plain (thn z fun us s1 ⟨vs,H1,I1,r,hl,q⟩=>⟨rfl,by rw [← r.length]; exact hl,I1.bk _ _ e0,n0.keeps I1.bk,t0.keeps I1.bk,fun h' a hx=>R pins σ H1 s1 a h' _ I1 hx q⟩)
end
def PX (X:Cx) (ex:Expr) (tx:St→Hp→VK→XK→Prop):Prop :=
 ∀ (pins:List (Addr×Obj)) (s:Shared) (σ:St) (H:Hp) (Q:VK) (E:XK),Inv X pins σ H s→tx σ H Q E→wpAny (model X.prog X.w) X.A (eval ex X.env) (EP X pins σ Q) (fun e s'=>∃ H1 s1,Inv X pins σ H1 s1∧CXF X.prog X.w X.stack H1 s1 E e s') s
def PB (X:Cx) (body:List Stmt) (tb:Ends→XK→St→Hp→Prop):Prop :=
 ∀ (pins:List (Addr×Obj)) (s:Shared) (σ:St) (H:Hp) (D:Ends) (E:XK),Inv X pins σ H s→tb D E σ H→wpAny (model X.prog X.w) X.A (execs body X.env) (SP X pins D) (fun e s'=>∃ H1 s1,Inv X pins σ H1 s1∧CXF X.prog X.w X.stack H1 s1 E e s') s
section
variable {X:Cx} {k:Nat} {f:Addr} {fd:FuncData} {ps:List Str} {sp:Sp} {x:Str} {p pos:Pos} {e:Expr} {es:List Expr} {t:TA}
theorem px_call (F:FnOk X.prog X.w X.K X.mg X.base (CXF X.prog X.w) k f fd ps sp) (hr:Room k X.A) (hg:Gl X x) (hm:X.mg x=some (.ref f)) (hk:PySem.W.keepIn X.K (.ref f)=true) (hb:Binds X.K fd ps [])
  (ha:PA X.nox (e::es) t) (hdb:(x==("__debug__" : Str))=false:=by decide) (he:starEach (e::es) X.env=(false,eval e X.env)::starEach es X.env:=by rfl) (hpl:(backTo pos (starEach es X.env)).any (·.1)=false:=by rfl) :
  PX X (.Call (.Name x p) (e::es) [] pos) (fun σ H Q E=>t σ H fun vs H1=>sp vs H1 Q E):=by
 intro pins s σ H Q E I h
 refine wpAny_Call_Name_kw (ld_glob I hg hm ?_ hdb)
 refine PySem.W.callWith_K (h₀:=X.base) I.ok.mod.kin hk (wpAny_mono (ha pos pins s σ H _ (I.wish _) h) (fun us s1 ⟨vs,H1,I1',r,q⟩=>?_) fun _ _ z=>False.elim z) he hpl
 have I1:=I1'.unwish
 refine ⟨I1.kIn,?_⟩
 have hl:us.length=ps.length:=by rw [← r.length]; exact F.len _ _ _ _ q
 have bnd:=hb s1 us I1.kIn (by rw [List.append_nil]; exact hl)
 rw [List.append_nil] at bnd
 refine wpAny_call (codeAny_mono (F.run X.A X.stack s1 H1 ⟨us,[]⟩ us vs Q E hr I1.env0 bnd r q) fun r s' hq=>?_)
 cases r with
 | error e=>exact ⟨H1,s1,I1,hq⟩
 | ok fl =>
  cases fl with
  | ret u=>exact I1.after hq
  | next=>exact False.elim hq
  | brk=>exact False.elim hq
  | cont=>exact False.elim hq
theorem pb_expr {ex:Expr} {tx:St→Hp→VK→XK→Prop} (hx:PX X ex tx) (hs:swapsWith ex none pos.line X.env=pure false:=by rfl):PB X [.Expr ex pos] (fun D E σ H=>tx σ H (fun _ H1=>D.nx σ H1) E):=by
 intro pins s σ H D E I h
 refine wpAny_execs_cons (thn (wpAny_Expr_any (Q:=fun fl s1=>fl=.next∧SP X pins D .next s1) (thn (hx pins s σ H _ E I h) fun v s1 ⟨y,H1,I1,r1,q1⟩=>⟨rfl,σ,H1,I1,q1⟩) I.quiet hs) fun fl s1 q=>?_)
 obtain ⟨rfl,q⟩:=q
 exact wpAny_execs_nil q
end
end L2
namespace L2
open PySem PySem.Spec PyProof.Rows
abbrev Cx.hold (X:Cx) (e:Addr) (o:Obj):Cx:={ X with A:=X.A.mark (some (.ref e)),calm:=false,pn:=X.pn++[(e,o)],xe:=fun _ _=>False }
section
variable {X:Cx} {pins:List (Addr×Obj)} {σ:St} {H:Hp} {s:Shared} {a:Addr} {o:Obj}
theorem Cx.Ok.hold (ok:X.Ok) (e:Addr) (o:Obj):(X.hold e o).Ok :=
 ⟨ok.mod,ok.kind,ok.glob,ok.blt,ok.above,ok.inj,ok.has,ok.cab,(fun z=>Bool.noConfusion z),ok.frames,ok.stk,ok.exf,ok.bs,ok.bsz,ok.noex,ok.exfs,ok.funs,ok.frf⟩
theorem Inv.hold (I:Inv X pins σ H s) (h1:s.heap.get? a=some o) (h2:H a=none) (h3:a≠X.env.locals) (h4:a∉X.fs) (h5:∀ v,o.data≠.cell v):Inv (X.hold a o) pins σ H s:=by
 refine ⟨I.ok.hold a o,I.os,I.bare,I.base,I.loc,I.cell,I.free,I.freeC,fun p hp=>?_,I.hok,I.len⟩
 have hp:p∈(X.pn++[(a,o)])++pins:=hp
 rcases List.mem_append.mp hp with hp | hp
 ·rcases List.mem_append.mp hp with hp | hp
  ·exact I.pin p (List.mem_append_left _ hp)
  ·cases List.mem_singleton.mp hp
   exact ⟨h1,h2,h3,h4,h5⟩
 ·exact I.pin p (List.mem_append_right _ hp)
theorem Inv.unhold (ok:X.Ok) (I:Inv (X.hold a o) pins σ H s):Inv X pins σ H s:=by
 refine ⟨ok,I.os,I.bare,I.base,I.loc,I.cell,I.free,I.freeC,fun p hp=>I.pin p ?_,I.hok,I.len⟩
 show p∈(X.pn++[(a,o)])++pins
 rcases List.mem_append.mp hp with hp | hp
 ·exact List.mem_append_left _ (List.mem_append_left _ hp)
 ·exact List.mem_append_right _ hp
theorem gone_ok {M:Model} {A:Around} {E:Value→Shared→Prop} {i:Nat} {n:Str} {pos:Pos} {Q:Unit→Shared→Prop} (I:Inv X pins σ H s) (hN:X.N.Nodup) (hi:X.N[i]?=some n) (hl:X.env.scope.names.lookup n=some .local)
  (h:∀ s',Inv X pins (σ.set i none) H s'→Q () s'):wpAny M A (do bindName X.env n .none; unbindBehindTheSuite X.env n pos) Q E s:=by
 have hcls:(X.env.scope.kind==.class||(X.env.scope.kind==.module&&X.env.locals != X.env.globals))=false:=by rw [I.ok.kind]; rfl
 refine wpAny_bind (wpAny_bindName (store_ok I hN hi (.inl hl) (v:=.non) (u:=.none) rfl (fun s1 J=>?_) (.inr hl)))
 unfold unbindBehindTheSuite
 refine wpAny_onRaise ?_
 obtain ⟨m,hn,hlk⟩:=id J.loc
 have hiσ:i<σ.length:=by rw [I.len]; exact (List.getElem?_eq_some_iff.mp hi).1
 obtain ⟨u,_,lk⟩:=hlk i n .non hi (List.getElem?_set_self hiσ) (.inl hl)
 have hv:m n=some u:=by
  rcases lk with ⟨_,z⟩ | ⟨z,_⟩
  ·exact z
  ·have z:X.env.scope.names.lookup n=some .cell∨X.env.scope.names.lookup n=some .free:=z
   rw [hl] at z
   rcases z with z | z<;>cases z
 refine wpAny_unbindName_local hl hn hv hcls fun h' u' hn' hs=>?_
 obtain ⟨oL,_,_,hoL,_⟩:=id hn
 have cne:=J.cne
 have old:∀ b o,X.s₀.heap.get? b=some o→b≠X.env.locals:=fun b o e=>Nat.ne_of_lt (Nat.lt_of_lt_of_le (Heap.lt_size e) J.ok.above)
 refine h _ ⟨J.ok,J.os,J.bare,⟨fun b o e n hb hx=>(hs.2 b (old b o e)).trans (J.base.keep b o e n hb hx),fun b o e n hb hx=>?_,J.base.free,fun b o e hx=>?_,J.base.tups,J.base.frzs,J.base.tbls⟩,⟨_,hn',fun j y v' e1 e2 e3=>?_⟩,fun y c e=>?_,J.free,J.freeC,fun p hp=>?_,fun b ob e=>?_,by simpa using I.len⟩
 ·obtain ⟨sl,e1⟩:=J.base.slot b o e n hb hx
  exact ⟨sl,(hs.2 b (old b o e)).trans e1⟩
 ·obtain ⟨o',e1⟩:=J.base.there b o e hx
  exact ⟨o',(hs.2 b (old b o e)).trans e1⟩
 ·by_cases hj:j=i
  ·subst hj
   rw [List.getElem?_set_self hiσ] at e2
   cases e2
  ·rw [List.getElem?_set_ne (Ne.symm hj)] at e2
   obtain ⟨w',r',q⟩:=hlk j y v' e1 (by rw [List.getElem?_set_ne (Ne.symm hj)]; exact e2) e3
   refine ⟨w',r',?_⟩
   rcases q with ⟨k,e⟩ | ⟨k,c,e,z⟩
   ·refine .inl ⟨k,?_⟩
    have ne:y≠n:=fun e=>hj (nodup_ix hN e1 (e ▸ hi))
    show (if y=n then u' else m y)=some w'
    rw [if_neg ne]
    exact e
   ·exact .inr ⟨k,c,e,z.sameBut hs (cne y c e)⟩
 ·obtain ⟨w',z⟩:=J.cell y c e
  exact ⟨w',z.sameBut hs (cne y c e)⟩
 ·obtain ⟨e,n,ne,nf,d⟩:=J.pin p hp
  exact ⟨(hs.2 p.1 ne).trans e,n,ne,nf,d⟩
 ·refine (J.hok b ob e).stay (fun c w' hc q=>(hs.2 c ?_).trans q) (fun _ q=>q) fun _ _ q=>q
  rintro rfl
  rcases hc with z | hc
  ·rw [← z,J.free] at e; cases e
  ·rw [J.free] at hc; cases hc
end
theorem exc_matches {M:Model} {A:Around} {E:Value→Shared→Prop} {s:Shared} {e C D:Addr} {oe:Obj} {bm bd:List Value} {N N':Addr} {mN mN':Str→Option Value} {Q:Bool→Shared→Prop} (hC:ExcCls s.heap C bm N mN) (hD:ExcCls s.heap D bd N' mN')
  (he:s.heap.get? e=some oe) (hcls:oe.cls=.ref C) (q:Q ((Value.ref C::bm).contains (.ref D)) s):wpAny M A (excMatches (.ref e) (.ref D)) Q E s:=by
 obtain ⟨nm,qn,bs,hd,sn,sub,ab,col,dd,k0,k1,k2,k3,k5,e0,n0,t0⟩:=hC
 obtain ⟨nm',qn',bs',hd',sn',sub',ab',col',dd',k0',k1',k2',k3',k5',e0',n0',t0'⟩:=hD
 have hb:(Value.ref D::bd).contains (.type "BaseException")=true:=by rw [List.contains_cons,t0'.hasType PySem.F.excBase_ValueError.hasBase,Bool.or_true]
 have f:=tc_notTuple
 obtain ⟨hp,g,d,t,os⟩:=s
 generalize hr:(Value.ref C::bm).contains (.ref D)=r at q
 unfold excMatches
 repeat (first | (with_reducible refine wpAny_loadPart_at he ?_; rw [hcls]) | with_reducible refine wpAny_loadPart_at e0' ?_ | (with_reducible refine wpAny_isSubtype_exc e0' ?_; rw [hb]) | (with_reducible refine wpAny_isSubtype_exc e0 ?_; rw [hr]) | wp_step)
 cases r<;>(wp_walk; exact q)
end L2
namespace L2
open PySem PySem.Spec PyProof.Rows
structure XObj (o:Obj) (C:Addr) (dx:Option Addr):Prop where
 cls:o.cls=.ref C
 dict:o.dict=dx
 no:PySem.W.notCls o=true
structure Caught (K:PySem.W.Frag) (C D:Addr):Prop where
 w:∃ bm bd,ecIn K C bm=true∧ecIn K D bd=true∧(Value.ref C::bm).contains (.ref D)=true
def afterS (D:Ends) (i:Nat):Ends:={ nx:=fun σ H=>D.nx (σ.set i none) H,rt:=D.rt,bk:=fun σ H=>D.bk (σ.set i none) H,ct:=fun σ H=>D.ct (σ.set i none) H }
def tTryAs (K:PySem.W.Frag) (Dc:Addr) (i:Nat) (tb:Ends→XK→St→Hp→Prop) (th:Addr→Obj→TS):TS:=fun D σ H =>
 tb D (fun cls dx H'=>∃ C,cls=.ref C∧Caught K C Dc∧∀ e o,H' e=none→XObj o C dx→th e o (afterS D i) (σ.set i (some (.ref e))) H') σ H
section
variable {X:Cx} {body suite:List Stmt} {b₀:Stmt} {np hp pos:Pos} {cn n:Str} {i:Nat} {Dc:Addr} {tb:Ends→XK→St→Hp→Prop} {th:Addr→Obj→TS}
theorem to_suite {pins:List (Addr×Obj)} {σ:St} {a:Addr} {s':Shared} {name:Option Str} {Q:Flow→Shared→Prop} {W:Value→Option Addr→Hp→Prop} (hst:X.stack=X.env::X.outer) (hfr:X.env.frame=some X.env.locals)
  (hg:Gl X cn) (hm:X.mg cn=some (.ref Dc)) (hdb:(cn==("__debug__" : Str))=false)
  (z:∃ H1 s1,Inv X.nox pins σ H1 s1∧CXF X.prog X.w X.nox.stack H1 s1 (fun cls dx H'=>∃ C,cls=.ref C∧Caught X.K C Dc∧W cls dx H') (.ref a) s')
  (k:∀ (h5:Heap) (H':Hp) (C:Addr) (oe:Obj),Inv (X.nox.hold a oe) pins σ H' { s' with heap:=h5 }→H' a=none→oe.cls=.ref C→W (.ref C) oe.dict H' →
   (∀ Q':Unit→Shared→Prop,(∀ h6 oe6,Inv (X.nox.hold a oe6) pins σ H' { s' with heap:=h6 }→XObj oe6 C oe.dict→Q' () { s' with heap:=h6 })→∀ (A':Around) (E':Value→Shared→Prop),wpAny (model X.prog X.w) A' (setFlight (.ref a) none) Q' E' { s' with heap:=h5 }) →
   codeAny (model X.prog X.w) (X.A.mark (some (.ref a))) (.handlers (.ref a) [.ExceptHandler none name (b₀::suite) hp] X.env) (fun r s₂=>match r with
     | .ok f=>(match name with
      | none=>Q f s₂
      | some n=>wpAny (model X.prog X.w) X.A (do bindName X.env n .none; unbindBehindTheSuite X.env n hp) (fun _ s₃=>Q f s₃) (fun _ _=>False) s₂)
     | .error x=>cameBackBy (model X.prog X.w) X.A X.env (fun _ _=>False) x s₂) { s' with heap:=h5 }) :
  wpAny (model X.prog X.w) X.A (noteFrame (.ref a) X.env) (fun _ s₂=>wpAny (model X.prog X.w) X.A (setFlight (.ref a) none) (fun _ s₃ =>
   wpAny (model X.prog X.w) X.A (handleBy (.ref a) X.env [.ExceptHandler (some (.Name cn np)) name (b₀::suite) hp]) Q (fun _ _=>False) s₃) (fun _ _=>False) s₂) (fun _ _=>False) s':=by
 obtain ⟨H1,s1,I1,a',cls,dx,H',ea,os,bare,un,hok,na,ha,⟨B,a0,F,b1,b2,oe,he,hd⟩,C,rfl,⟨bm,bd,cc,cd,cm⟩,q⟩:=z
 cases ea
 have F:Heap.FlyingW B (X.env::X.outer) a (.ref C) a0 s'.heap:=hst ▸ F
 have fr:X.A.frames=some (X.env::X.outer):=hst ▸ I1.ok.frames
 have un:Un (frs (X.env::X.outer)) [] H1 H' s1.heap s'.heap:=hst ▸ un
 have b1:∀ b o,s1.heap.get? b=some o→H1 b=none→b∉frs (X.env::X.outer)→B.get? b=some o:=hst ▸ b1
 have aL:a≠X.env.locals:=fun z=>by
  obtain ⟨_,⟨o,_,_,ho,_⟩,_⟩:=I1.loc
  rw [z] at ha
  rw [show s1.heap.get? X.env.locals=some o from ho] at ha
  cases ha
 have aF:a∉X.fs:=fun z=>by
  obtain ⟨_,o,ho,_⟩:=I1.funs.mem z
  rw [ha] at ho; cases ho
 have land:∀ h5,Heap.FlyingW B (X.env::X.outer) a (.ref C) a0 h5→s'.heap.UpToSlots h5→DK s'.heap h5→∃ oe5,Inv (X.nox.hold a oe5) pins σ H' { s' with heap:=h5 }∧XObj oe5 C dx:=fun h5 F5 U5 K5=>by
  obtain ⟨oe5,he5,c5,d5⟩:=K5 a oe he
  obtain ⟨o',vs,ho',hc',hd',_⟩:=F5.first
  rw [he5] at ho'
  cases ho'
  have u5:=un.flown F F5.1 U5 K5 b1 (fun b hb=>hb) (fun b h1 h2=>absurd h1 h2)
  have J:=I1.call' (s':={ s' with heap:=h5 }) (ch:=[]) os (by show Un (frs X.stack) _ _ _ _ _; rw [hst]; exact u5) (hok.based b2 F5.1) bare (fun b z=>absurd z (by simp))
  exact ⟨oe5,J.hold he5 na aL aF (fun v z=>by rw [hd'] at z; cases z),hc',d5.trans hd,by unfold PySem.W.notCls; rw [hd']⟩
 refine wpAny_mono ((kd_note _ _).any (wpAny_looks_onW (Q:=fun _ s2=>∃ h4,s2={ s' with heap:=h4 }∧Heap.HeldW B (X.env::X.outer) a (.ref C) a0 X.env.locals h4∧s'.heap.UpToSlots h4) fr hfr F fun h4 x U=>⟨h4,rfl,x,U⟩)) (fun _ s2 z2=>?_) fun _ _ z=>z
 obtain ⟨⟨h4,rfl,held,U4⟩,dk4⟩:=z2
 refine wpAny_mono ((kd_flight _ _).any (wpAny_landsW (Q:=fun _ s3=>∃ h5,s3={ s' with heap:=h5 }∧Heap.FlyingW B (X.env::X.outer) a (.ref C) a0 h5∧h4.UpToSlots h5) held fun h5 x U=>⟨h5,rfl,x,U⟩)) (fun _ s3 z3=>?_) fun _ _ z=>z
 obtain ⟨⟨h5,rfl,F5,U5⟩,dk5⟩:=z3
 have dk:DK s'.heap h5:=dk4.trans dk5
 obtain ⟨oe5,J5,c5,d5,n5⟩:=land h5 F5 (U4.trans U5) dk
 obtain ⟨N,mN,xc,_⟩:=ExcCls.of I1.ok.mod.kin cc
 obtain ⟨N',mN',xd,_⟩:=ExcCls.of I1.ok.mod.kin cd
 have at5:=(J5.pin (a,oe5) (List.mem_append_left _ (List.mem_append_right _ (List.mem_singleton.mpr rfl)))).1
 refine wpAny_handleBy_cons (codeAny_handlers_test (ld_glob J5 hg hm ?_ hdb)) (by intro q; cases q)
 refine exc_matches (xc.keeps J5.bk) (xd.keeps J5.bk) at5 c5 ?_
 rw [cm]
 refine k h5 H' C oe5 J5 na c5 (by rw [d5]; exact q) fun Q' hQ A' E'=>?_
 refine wpAny_mono ((kd_flight _ _).any (lands_againW (Q:=fun _ s3=>∃ h6,s3={ s' with heap:=h6 }∧Heap.FlyingW B (X.env::X.outer) a (.ref C) a0 h6∧h5.UpToSlots h6) F5 fun h6 x U=>⟨h6,rfl,x,U⟩)) (fun _ s3 z3=>?_) fun _ _ z=>z
 obtain ⟨⟨h6,rfl,F6,U6⟩,dk6⟩:=z3
 obtain ⟨oe6,J6,c6,d6,n6⟩:=land h6 F6 ((U4.trans U5).trans U6) (dk.trans dk6)
 exact hQ h6 oe6 J6 ⟨c6,d6.trans d5.symm,n6⟩
theorem ps_tryAs (hN:X.N.Nodup) (hg:Gl X cn) (hm:X.mg cn=some (.ref Dc)) (hb:PB X.nox body tb) (hh:∀ e o,PSs (X.nox.hold e o) (b₀::suite) (th e o)) (hi:X.N[i]?=some n:=by rfl) (hl:X.env.scope.names.lookup n=some .local:=by rfl)
  (hst:X.stack=X.env::X.outer:=by rfl) (hfr:X.env.frame=some X.env.locals:=by rfl) (hdb:(cn==("__debug__" : Str))=false:=by decide) :
  PS X.nox (.Try body [.ExceptHandler (some (.Name cn np)) (some n) (b₀::suite) hp] [] [] pos) (tTryAs X.K Dc i tb th):=by
 intro pins s σ H D I h
 refine wpAny_Try_except (wpAny_mono (hb pins s σ H D _ I h) (fun fl s1 q=>?_) fun e s' z=>?_)
 ·cases fl with
  | next=>exact wpAny_execs_nil q
  | brk=>exact q
  | cont=>exact q
  | ret u=>exact q
 ·obtain ⟨a,rfl⟩:∃ a,e=.ref a:=by obtain ⟨_,_,_,a,_,_,_,ea,_⟩:=z; exact ⟨a,ea⟩
  refine to_suite (X:=X) (pins:=pins) (σ:=σ) (name:=some n) (W:=fun cls dx H'=>∃ C,cls=.ref C∧∀ e o,H' e=none→XObj o C dx→th e o (afterS D i) (σ.set i (some (.ref e))) H') hst hfr hg hm hdb ?_ fun h5 H' C oe J5 na c5 q land=>?_
  ·obtain ⟨H1,s1,I1,a',cls,dx,H',r1,r2,r3,r4,r5,r6,r7,r8,C,rfl,ct,q⟩:=z
   exact ⟨H1,s1,I1,a',_,dx,H',r1,r2,r3,r4,r5,r6,r7,r8,C,rfl,ct,C,rfl,q⟩
  ·obtain ⟨C',e',q⟩:=q
   cases e'
   refine codeAny_handlers_suite_as (land _ (fun h6 oe6 J6 x6=>?_) _ _)
   refine store_ok (X:=X.nox.hold a oe6) J6 hN hi (.inl hl) (v:=.ref a) (u:=.ref a) rfl (fun s7 J7=>?_) (.inr hl)
   refine wpAny_mono (hh a oe6 pins s7 _ H' (afterS D i) J7 (q a oe6 na x6)) (fun fl s8 z=>?_) (fun _ _ z=>False.elim z)
   cases fl with
   | next=>obtain ⟨σ',H2,J8,q8⟩:=z; exact gone_ok (X:=X.nox) (Inv.unhold I.ok J8) hN hi hl fun s9 J9=>⟨_,H2,J9,q8⟩
   | brk=>obtain ⟨σ',H2,J8,q8⟩:=z; exact gone_ok (X:=X.nox) (Inv.unhold I.ok J8) hN hi hl fun s9 J9=>⟨_,H2,J9,q8⟩
   | cont=>obtain ⟨σ',H2,J8,q8⟩:=z; exact gone_ok (X:=X.nox) (Inv.unhold I.ok J8) hN hi hl fun s9 J9=>⟨_,H2,J9,q8⟩
   | ret u=>obtain ⟨v,σ',H2,J8,r8,q8⟩:=z; exact gone_ok (X:=X.nox) (Inv.unhold I.ok J8) hN hi hl fun s9 J9=>⟨v,_,H2,J9,r8,q8⟩
end
end L2
namespace L2
open PySem PySem.Spec PyProof.Rows PySem.W
structure XAttr (K:PySem.W.Frag) (C:Addr):Prop where
 ga:findIn K (.ref C) "__getattribute__" = some (some (.builtin "BaseException.__getattribute__"))
 gh:findIn K (.ref C) "__getattr__" = some none
 mb:mroIn K C (.type "BaseException")=some true
 mo:mroIn K C (.type "object")=some true
 ca:findIn K (.ref C) "__class__" = some (some (.builtin "object.__class__"))
 cg:specialIn K (.builtin "object.__class__") "__get__" = some (some (.builtin "getset_descriptor.__get__"))
 ck:takesIn K (.builtin "object.__class__")=some true
section
variable {prog:Program} {w:World} {A:Around} {E:Value→Shared→Prop} {s:Shared} {K:PySem.W.Frag} {x C:Addr} {ox:Obj} {od:Option Obj} {name:Str} {tk:Tok}
theorem xa_check {M:Model} {nv:Value} {Q:Unit→Shared→Prop} (X:K.In s.heap) (I:InstAt s.heap x ox C od) (hb:mroIn K C (.type "BaseException")=some true) (hq:Q () s) :
  wpAny M A (checkBuiltinCall "BaseException.__getattribute__" ⟨[.ref x,nv],[]⟩) Q E s:=by
 have hk:builtinKind "BaseException.__getattribute__" = some .slot:=by decide +kernel
 have hs:splitId "BaseException.__getattribute__" = some ("BaseException","__getattribute__"):=by decide +kernel
 have ha:=F.args_bexc_ga (.ref x) nv
 have L:Looks M s.heap (isInstance (.ref x) (.type "BaseException")) true:=I.type.andThen (looks_mroIn X hb)
 obtain ⟨h,g,d,t,os⟩:=s
 simp only [checkBuiltinCall,hk,hs]
 refine wpAny_bind (L.at ?_)
 repeat (any_goals (first | assumption | wp_step))
theorem xa_by {fill expr:Bool} {Q:Value→Shared→Prop} (X:K.In s.heap) (I:InstAt s.heap x ox C od) (a:XAttr K C)
  (h:∀ A',wpAny (model prog w) A' (Builtin.«object.__getattribute__» ⟨[.ref x,.str name tk],[]⟩) (fun fin s'=>match fin with | .done (.ret v)=>wpAny (model prog w) A (handedOut v) Q E s' | _=>False) (fun _ _=>False) s) :
  wpAny (model prog w) A (getAttrBy (.ref x) (.str name tk) fill expr) Q E s:=by
 have L0:=I.type (M:=model prog w)
 have L1:=looks_findIn (M:=model prog w) X a.ga
 have L2:Looks (model prog w) s.heap (hookBefore (.ref C)) none:=looks_hook X (show findIn K (.ref C) "__getattr__" = _ from a.gh)
 obtain ⟨hh,g,d,t,os⟩:=s
 unfold getAttrBy
 refine wpAny_holding (wpAny_bind (L0.at (wpAny_bind (L1.at ?_))))
 have e1:(onTheHeap (.ref C)&&Value.builtin "BaseException.__getattribute__" == .builtin "object.__getattribute__")=false:=by
  rw [show (Value.builtin "BaseException.__getattribute__" == Value.builtin "object.__getattribute__")=false from by decide +kernel]; rfl
 show wpAny _ _ (if (onTheHeap (.ref C)&&Value.builtin "BaseException.__getattribute__" == .builtin "object.__getattribute__")=true then _ else _) _ _ _
 rw [if_neg (by rw [e1]; exact Bool.false_ne_true)]
 unfold getAttrByItsOwn
 refine wpAny_bind (L2.at (wpAny_bind (wpAny_attempt (wpAny_holding ?_))))
 unfold callGetattribute
 rw [if_neg (by cases expr<;>exact Bool.false_ne_true)]
 unfold boundAndCalled
 refine wpAny_bind (wpAny_of_eq (PySem.F.attr_ValueError.ga.bind (.ref x)) ?_)
 refine wpAny_call (codeAny_call_builtin PySem.F.attr_ValueError.ga.plain F.entry_bexc_ga (xa_check X I a.mb ?_))
 refine wpAny_mono (h _) (fun fin s' z=>?_) fun _ _ z=>False.elim z
 rcases fin with (_ | _ | _ | _) | _<;>first | exact z | exact z.elim
theorem fo_data {g a:Value} (hc:(clsIn K C).isSome=true) (e1:findIn K (.ref C) name=some (some a)) (e2:specialIn K a "__get__" = some (some g)) (e3:takesIn K a=some true):findObj K C od name=some (.bind g a):=by
 obtain ⟨cd,z⟩:=Option.isSome_iff_exists.mp hc
 unfold findObj
 rw [z]
 simp [e1,e2,e3]
theorem xa_class {Q:Option Value→Shared→Prop} (hc:(clsIn K C).isSome=true) (X:K.In s.heap) (I:InstAt s.heap x ox C od) (a:XAttr K C) (hq:Q (some (.ref C)) { s with toks:=s.toks+1 }) :
  wpAny (model prog w) A (getAttr? (.ref x) "__class__") Q E s:=by
 obtain ⟨hp,g,d,t,os⟩:=s
 unfold getAttr? getAttrBy?
 refine wpAny_bind (wpAny_mkText (wpAny_bind (wpAny_attempt (xa_by (s:=⟨hp,g,d,t+1,os⟩) X I a fun A'=>?_))))
 have L0:=I.type (M:=model prog w)
 have L1:=looks_find (M:=model prog w) X I (fo_data (od:=od) hc a.ca a.cg a.ck)
 unfold Builtin.«object.__getattribute__»
 refine wpAny_bind (wpAny_pure (wpAny_bind (wpAny_pure (wpAny_bind (L0.at (wpAny_bind (L1.at ?_)))))))
 refine wpAny_bind (wpAny_holding (wpAny_call (class_get (s:=⟨hp,g,d,t+1,os⟩) X I a.mo ?_)))
 exact wpAny_pure (wpAny_pure (wpAny_pure hq))
theorem kitx_exc (hc:(clsIn K C).isSome=true) (a:XAttr K C):KitX K (.ref x) (.ref C) (fun h=>InstAt h x ox C od) where
 ty:=fun _ _ _ I=>I.type
 it:=fun _ _ X _=>by
  unfold clsIn at hc
  split at hc
  case h_2=>cases hc
  case h_1 cd lk =>
   intro A1 Q1 E1 s1 k1 q1
   unfold isType loadHead
   exact wpAny_bind (wpAny_loadPart (k1 _ _ (X _ _ lk)) (wpAny_pure q1))
 ne:=fun h tp dd its n sl X htp=>by
  unfold clsIn at hc
  split at hc
  case h_2=>cases hc
  case h_1 cd lk =>
   refine Bool.eq_false_iff.mpr fun q=>?_
   have e:C=tp:=Value.ref.inj (beq_iff_eq.mp q)
   subst e
   have z:=(X _ _ lk).symm.trans htp
   cases z
 ca:=fun X I k=>xa_class hc X I a k
end
structure XIs (K:PySem.W.Frag) (C:Addr):Prop where
 cl:(clsIn K C).isSome=true
 at_:XAttr K C
section
variable {X:Cx} {pins:List (Addr×Obj)} {σ:St} {H:Hp} {s:Shared} {e C:Addr} {o:Obj} {dx:Option Addr}
def XDict (H:Hp) (dx:Option Addr):Prop:=∀ d,dx=some d→∃ fs,H d=some (.xd fs)
theorem Inv.held (I:Inv X pins σ H s) (hm:(e,o)∈X.pn) (x:XObj o C dx) (hd:XDict H dx):∃ od,InstAt s.heap e o C od:=by
 have at1:=(I.pin _ (List.mem_append_left _ hm)).1
 cases dx with
 | none=>exact ⟨none,at1,x.cls,x.no,by rw [x.dict]; trivial⟩
 | some d =>
  obtain ⟨fs,hf⟩:=hd d rfl
  obtain ⟨od,ho⟩:=(I.hok d _ hf).has
  exact ⟨some od,at1,x.cls,x.no,by rw [x.dict]; exact ho⟩
def clsV:V→Value→Prop:=fun v c=>(∃ n,v=.ty n∧c=.type n)∨(∃ D,v=.ref D∧c=.ref D)
theorem call_isX:CallR X (.builtin "isinstance") (fun xs H Q=>∃ (e:Addr) (o:Obj) (C:Addr) (dx:Option Addr) (v:V) (c:Value) (b:Bool),xs=[.ref e,v]∧(e,o)∈X.pn∧XObj o C dx∧XDict H dx∧XIs X.K C∧clsV v c∧kitOne X.K (.ref C) c=some b∧Q (.bl b) H):=by
 intro pins s σ H xs us Q I r h
 obtain ⟨e,o,C,dx,v,c,b,rfl,hm,xo,xd,xi,cv,k,q⟩:=h
 obtain ⟨u1,u2,rfl,r1,r2⟩:=vals2 r
 obtain rfl:u1=Value.ref e:=r1
 obtain ⟨od,J⟩:=I.held hm xo xd
 have e2:u2=c:=by
  rcases cv with ⟨n,rfl,rfl⟩ | ⟨D,rfl,rfl⟩
  ·exact r2
  ·exact r2
 subst e2
 exact kia_one (kitx_exc (od:=od) (ox:=o) xi.cl xi.at_) I.kIn J k (fun z=>nomatch z) fun tk=>⟨.bl b,H,I.tok tk,rfl,q⟩
end
theorem ec_lookup {K:PySem.W.Frag} {C:Addr} {bm:List Value} (q:ecIn K C bm=true):∃ d cd sl,K.lookup C=some ⟨.type "type",d,.cls cd,sl⟩∧cd.mro=.ref C::bm:=by
 unfold ecIn at q
 split at q
 case h_2=>cases q
 case h_1 d cd sl lk =>
  split at q
  case h_2=>cases q
  case h_1 C2 tl a b c d2 n e2 hm hs =>
   simp only [Bool.and_eq_true,beq_iff_eq,Bool.not_eq_true'] at q
   obtain ⟨⟨⟨⟨⟨c1,c2⟩,_⟩,_⟩,_⟩,_⟩:=q
   subst c1 c2
   exact ⟨d,cd,sl,lk,hm⟩
theorem ec_cls {K:PySem.W.Frag} {C:Addr} {bm:List Value} (q:ecIn K C bm=true):(clsIn K C).isSome=true:=by
 obtain ⟨d,cd,sl,lk,_⟩:=ec_lookup q
 unfold clsIn
 rw [lk]
 rfl
theorem ec_mro {K:PySem.W.Frag} {C:Addr} {bm:List Value} (q:ecIn K C bm=true) (v:Value):mroIn K C v=some ((Value.ref C::bm).contains v):=by
 obtain ⟨d,cd,sl,lk,hm⟩:=ec_lookup q
 unfold mroIn clsIn
 rw [lk]
 show (if cd.mro.isEmpty then none else some (cd.mro.contains v))=_
 rw [hm]
 rfl
theorem ec_one {K:PySem.W.Frag} {C D:Addr} {bm bd:List Value} (q:ecIn K C bm=true) (qd:ecIn K D bd=true):kitOne K (.ref C) (.ref D)=some ((Value.ref C::bm).contains (.ref D)):=by
 unfold kitOne
 by_cases z:(Value.ref C==Value.ref D)=true
 ·rw [if_pos z,List.contains_cons,show (Value.ref D==Value.ref C)=true from by rw [beq_iff_eq] at z ⊢; exact z.symm]
  rfl
 ·rw [if_neg z]
  unfold kitCls
  obtain ⟨d,cd,sl,lk,_⟩:=ec_lookup qd
  have ty:typeIn K (.ref D)=some (.type "type"):=by
   show Option.map (fun x=>x.cls) (K.lookup D)=_
   rw [lk]
   rfl
  show (if ((clsIn K D).isSome&&typeIn K (.ref D)==some (.type "type"))=true then subIn K (.ref C) (.ref D) else none)=_
  rw [ec_cls qd,ty]
  exact ec_mro q _
theorem ec_type {K:PySem.W.Frag} {C:Addr} {bm:List Value} (q:ecIn K C bm=true) {T:String} (hT:kitMeta T=true):kitOne K (.ref C) (.type T)=some ((Value.ref C::bm).contains (.type T)):=by
 unfold kitOne
 rw [if_neg (by simp)]
 unfold kitCls
 try dsimp only
 rw [if_pos hT]
 exact ec_mro q _
theorem kitMeta_VE:kitMeta "ValueError" = true:=by decide +kernel
end L2
namespace L2
open PySem PySem.Spec PyProof.Rows
theorem bt_ValueError:bootBuiltins "ValueError" = some (.type "ValueError"):=PyProof.Rows.Boot.«ValueError»
section
variable {P:Program} {w:World} {K:PySem.W.Frag} {mg:Str→Option Value} {base:Heap}
theorem Fun.okF {x qual:Str} {st:Stmt} {f:Addr} {fd:FuncData} {N ps:List Str} {k:Nat} {sp:Sp} (F:Fun K x qual st f fd) (S:FnScope N ps (defScope st)) (len:∀ vs H Q E,sp vs H Q E→vs.length=ps.length)
  (hb:∀ (cdv:Value) (A:Around) (outer:List Env) (s:Shared) (H:Hp) (vs:List V) (Q:VK) (E:XK),Room k (A.deeper (envOfC qual (defScope st) s.heap.objs.size f cdv))→sp vs H Q E →
   ∃ t,PSs (cxOf (CXF P w) P w K mg base N qual (defScope st) f cdv A outer s H E) (defBody st) t∧t { nx:=fun _ H'=>Q .non H',rt:=Q } (start N vs) H):FnOk P w K mg base (CXF P w) (k+1) f fd ps sp:=by
 obtain ⟨oc,od,kV,doc,pm,an,cdv,ct,osl,rfl,lk,hcd⟩:=F.ex
 exact fn_of lk hcd S len fun A outer s H vs Q E hr hsp=>hb cdv A outer s H vs Q E hr hsp
theorem FnOk.never {k:Nat} {f:Addr} {fd:FuncData} {ps:List Str} {sp:Sp} (F:FnOk P w K mg base (CXF P w) k f fd ps sp):FnOk P w K mg base CX0 k f fd ps (fun vs H Q _=>sp vs H Q E0):=by
 refine ⟨fun vs H Q E h=>F.len vs H Q E0 h,fun A outer s H args us vs Q E hr he hb r h=>codeAny_mono (F.run A outer s H args us vs Q E0 hr he hb r h) fun r s' q=>?_⟩
 cases r with
 | error e =>
  obtain ⟨_,_,_,_,_,_,_,_,_,_,_,_,z⟩:=q
  exact z
 | ok fl=>cases fl<;>exact q
end
section
open PySem.W
variable {K:PySem.W.Frag} {C D A:Addr} {bd:List Value}
theorem ec_up (q:ecIn K C (.ref A::excMro)=true) (qd:ecIn K A bd=true):kitOne K (.ref C) (.ref A)=some true:=by
 rw [ec_one q qd]
 simp
theorem ec_VE (q:ecIn K C (.ref A::excMro)=true):kitOne K (.ref C) (.type "ValueError")=some true:=by
 rw [ec_type q kitMeta_VE]
 simp
theorem caught_self (q:ecIn K C (.ref A::excMro)=true):Caught K C C:=⟨_,_,q,q,by simp⟩
theorem noDict {H:Hp}:XDict H none:=fun _ z=>nomatch z
end
end L2
namespace L2
open PySem PySem.Spec PyProof.Rows
section
variable {P:Program} {w:World} {K:PySem.W.Frag} {mg:Str→Option Value} {base:Heap} {N:List Str} {qual:Str} {scope:Scope} {f:Addr} {cd:Value} {A:Around} {outer:List Env} {s:Shared} {H:Hp} {E:XK}
end
end L2
namespace L2
open PySem PySem.Spec PyProof.Rows PySem.W PySem.Builtin PySem.Builtin.ObjectAttr
section
variable {prog:Program} {w:World} {A:Around} {E:Value→Shared→Prop} {K:PySem.W.Frag} {x C B:Addr} {name:Str} {v:Value}
end
end L2
namespace L2
open PySem PySem.Spec PyProof.Rows PySem.W
section
variable {X:Cx} {pins:List (Addr×Obj)} {σ:St} {H:Hp} {s:Shared} {e C B t:Addr}
end
end L2
namespace L2
open PySem PySem.Spec PyProof.Rows PySem.W
section
variable {X:Cx} {C f:Addr} {bm:List Value} {E:XK} {k:Nat} {fd:FuncData} {ps:List Str} {sp:Sp}
end
end L2
namespace L2
open PySem PySem.Spec PyProof.Rows
end L2
namespace L2
open PySem PySem.Spec PyProof.Rows SeqAt
def era (H:Hp) (p:Addr):Hp:=fun q=>if q=p then none else H q
theorem era_same (H:Hp) (p:Addr):Same (era H p) H:=fun q o e=>by
 unfold era at e
 split at e
 ·cases e
 ·exact e
theorem era_mono {H H':Hp} (S:Same H H') (p:Addr):Same (era H p) (era H' p):=fun q o e=>by
 unfold era at e ⊢
 split at e
 ·cases e
 ·rename_i h; rw [if_neg h]; exact S _ _ e
theorem era_upd (H:Hp) (p:Addr) (o:HO):era (upd H p o) p=era H p:=by
 funext q
 unfold era
 by_cases h:q=p
 ·rw [if_pos h,if_pos h]
 ·rw [if_neg h,if_neg h,upd_ne h]
theorem era_at {H:Hp} {p q:Addr} {o:HO} (h:q≠p) (e:H q=some o):era H p q=some o:=by
 unfold era
 rw [if_neg h]; exact e
theorem ints_ne_refs {H:Hp} {p q:Addr} {r:List Int} {ss:List Addr} (h1:H p=some (.lst (vints r))) (h2:H q=some (.lst (ss.map V.ref))) (hr:1≤r.length):p≠q:=fun e=>by
 rw [e,h2] at h1
 injection h1 with h1
 injection h1 with h1
 cases r with
 | nil=>simp at hr
 | cons x r=>cases ss with
  | nil=>cases h1
  | cons s ss=>injection h1 with h1 _; cases h1
theorem Sides.at {H:Hp} {ss:List Addr} {tk gv:List (List Int)} {i:Nat} (h:Sides H ss tk gv) (hi:i<ss.length):∃ s a b,atI (ss.map V.ref) (i:Int)=some (.ref s)∧H s=some (.lst [.ref a,.ref b])∧H a=some (.lst (vints (tk.getD i [])))∧H b=some (.lst (vints (gv.getD i []))):=by
 obtain ⟨a,b,h1,h2,h3⟩:=h.get (List.getElem?_eq_getElem hi)
 refine ⟨ss[i],a,b,?_,h1,h2,h3⟩
 exact atI_nat (by rw [List.getElem?_map,List.getElem?_eq_getElem hi]; rfl)
theorem comp_side {K:PySem.W.Frag} {te:Blk→TE} {H1:Hp} {Z:List V→Hp→Prop} {a:Addr} {ss:List Addr} {rs:List (List Int)} {τ:St} (ha:SqL K H1 a (ss.map V.ref)) (hn:ss.length<sizeLine) (hl:rs.length=ss.length)
  (hs:∀ B i s,ss[i]?=some s→∀ Q':VK,(∀ q,H1 q=some (.lst (vints (rs.getD i [])))→Q' (.ref q) H1)→te B (some (.ref s)::τ) H1 Q')
  (hd:∀ as,Rows H1 as rs→Z (as.map V.ref) H1) :
  ∃ W:Nat→Nat→List V→St→Hp→Prop,(∃ m,W 0 m [] (none::τ) H1)∧∀ B:Blk,CompW (Itl K a) (gName 0) tTrue (te B) W Z:=by
 refine comp_listP (g:=fun _=>gName 0) (tt:=fun _=>tTrue) (K:=K) (a:=a) (xs:=ss.map V.ref) (fun i ys σ H=>∃ (v:Option V) (as:List Addr),σ=v::τ∧H=H1∧ys=as.map V.ref∧Rows H1 as (rs.take i)) ⟨none,[],rfl,rfl,rfl,.nil⟩ ?_ ?_ ?_
 ·rintro i ys σ H hi ⟨v,as,rfl,rfl,rfl,R⟩
  rw [List.length_map] at hi
  refine ⟨ha,?_⟩
  rw [List.length_map,R.length,List.length_take]; omega
 ·rintro B i x ys σ H hx ⟨v,as,rfl,rfl,rfl,R⟩
  obtain ⟨s,hs1,rfl⟩:=refs_get hx
  have hi:=(List.getElem?_eq_some_iff.mp hs1).1
  try dsimp only [gName,tTrue]
  rw [if_pos rfl]
  refine hs B i s hs1 _ fun q hq=>⟨_,as++[q],rfl,rfl,(vrefs_snoc _ _).symm,?_⟩
  rw [List.take_add_one,List.getElem?_eq_getElem (by omega),Option.toList_some]
  rw [getDr (by omega)] at hq
  exact R.snoc hq
 ·rintro ys σ H ⟨v,as,rfl,rfl,rfl,R⟩
  rw [List.length_map,← hl,List.take_length] at R
  exact hd as R
def okS (z:Nat) (r:List Int):Prop:=r.length=z∧∀ x∈r,0≤x∧x≤3
theorem okS_of {kd z:Nat} {r:List Int} (h:okK kd z r) (hk:kd≠2):okS z r:=⟨h.1,fun x hx=>⟨(h.2 x hx).1,(h.2 x hx).2.2 hk⟩⟩
theorem okK_bag {kd z:Nat} {r:List Int} (h:okK kd z r):okBag z r:=⟨h.1,fun x hx=>⟨(h.2 x hx).1,(h.2 x hx).2.1⟩⟩
theorem okS_two {z:Nat} {r:List Int} (h:okS z r):okBag z (r.map fun x=>2*x):=⟨by rw [List.length_map]; exact h.1,fun x hx=>by
 obtain ⟨y,hy,rfl⟩:=List.mem_map.mp hx
 have:=h.2 y hy
 omega⟩
theorem cut_lastV (ws:List Int):cutV (vints ws) none (some (-1))=vints ws.dropLast:=by
 unfold cutV
 rw [HT.sIx_none,show HT.sIx (vints ws).length (vints ws).length (some (-1))=ws.length-1 from ?_,List.drop_zero,Nat.sub_zero,List.dropLast_eq_take]
 ·unfold vints
  rw [List.map_take]
 ·show (if (-1:Int)<0 then ((-1:Int)+((vints ws).length:Int)).toNat else min (-1:Int).toNat (vints ws).length)=_
  rw [ints_len,if_pos (by decide)]
  omega
end L2
namespace L2
open PySem PySem.Spec PyProof.Rows SeqAt
def okM (kd z:Nat) (r:List Int):Prop:=okBag z r∧(kd≠2→∀ x∈r,x≤4000)
theorem okM_K {kd z:Nat} {r:List Int} (h:okK kd z r):okM kd z r:=⟨okK_bag h,fun k x hx=>by have:=(h.2 x hx).2.2 k; omega⟩
theorem okM_two {kd z:Nat} {r:List Int} (h:okS z r):okM kd z (r.map fun x=>2*x):=⟨okS_two h,fun _ x hx=>by
 obtain ⟨y,hy,rfl⟩:=List.mem_map.mp hx
 have:=h.2 y hy
 omega⟩
theorem okM_of {kd z:Nat} {r:List Int} (l:r.length=z) (h:∀ x∈r,0≤x∧x≤4000):okM kd z r:=⟨⟨l,fun x hx=>by have:=h x hx; omega⟩,fun _ x hx=>(h x hx).2⟩
theorem part_four {pr t r:Int} (p1:2≤pr) (p2:pr≤1000) (t0:0≤t) (t3:t≤3) (r0:0≤r) (r1:r≤1000):0≤pr*t+r∧pr*t+r≤4000:=by
 have e:t=0∨t=1∨t=2∨t=3:=by omega
 rcases e with e | e | e | e<;>rw [e]<;>omega
def FewP (z:Nat) (tk gv:List (List Int)):Prop:=(z≤4∧tk.length≤4)∨((∀ r∈tk,∀ x∈r,x≤4000)∧∀ r∈gv,∀ x∈r,x≤4000)
theorem few_bits {z:Nat} {tk gv:List (List Int)} {fs:List Int} (o:OkP z tk gv fs) (f:FewP z tk gv):∃ bb,((bb=30∧z≤4∧tk.length≤4)∨bb=12)∧∀ r∈gnP tk gv,∀ y∈r,y.natAbs<2^bb:=by
 have gl:=o.gl
 have key:∀ r∈gnP tk gv,∃ a∈gv,∃ b∈tk,r=sub a b:=fun r hr=>by
  obtain ⟨j,hj,rfl⟩:=List.mem_map.mp hr
  have hj:=List.mem_range.mp hj
  exact ⟨_,List.getElem_mem (show j<gv.length by omega),_,List.getElem_mem hj,by rw [getDr hj,getDr (show j<gv.length by omega)]⟩
 rcases f with f | f
 ·refine ⟨30,.inl ⟨rfl,f⟩,fun r hr y hy=>?_⟩
  obtain ⟨a,ha,b,hb,rfl⟩:=key r hr
  exact Nat.lt_of_le_of_lt (sub_abs (o.gv a ha).1 (o.tk b hb).1 (o.gv a ha).2 (o.tk b hb).2 y hy) (by decide)
 ·refine ⟨12,.inr rfl,fun r hr y hy=>?_⟩
  obtain ⟨a,ha,b,hb,rfl⟩:=key r hr
  obtain ⟨j,hj,rfl⟩:=List.mem_iff_getElem.mp hy
  have la:=(o.gv a ha).1
  have lb:=(o.tk b hb).1
  have hjz:j<z:=by rw [sub_len la lb] at hj; exact hj
  rw [← L2.getD_at hj,sub_at la lb hjz]
  have h1:=at_in (P:=fun x=>0≤x∧x≤4000) la hjz fun x hx=>⟨((o.gv a ha).2 x hx).1,f.2 a ha x hx⟩
  have h2:=at_in (P:=fun x=>0≤x∧x≤4000) lb hjz fun x hx=>⟨((o.tk b hb).2 x hx).1,f.1 b hb x hx⟩
  show _<4096
  omega
theorem free_len {w:Nat} {pv:List Nat} (hp:pv.Pairwise (· < ·)) (hw:∀ k∈pv,k<w):((List.range w).filter (fun k=>decide (k∉pv))).length+pv.length=w:=by
 have hperm:((List.range w).filter (fun k=>decide (k∉pv))++pv).Perm (List.range w):=by
  refine (List.perm_ext_iff_of_nodup ?_ List.nodup_range).mpr fun k=>?_
  ·refine List.nodup_append.mpr ⟨List.nodup_range.filter _,hp.imp fun h=>Nat.ne_of_lt h,fun a ha b hb e=>?_⟩
   have:=(List.mem_filter.mp ha).2
   rw [e] at this
   simp [hb] at this
  ·rw [List.mem_append,List.mem_filter,List.mem_range]
   constructor
   ·rintro (h | h)
    ·exact h.1
    ·exact hw k h
   ·intro h
    by_cases q:k∈pv
    ·exact .inr q
    ·exact .inl ⟨h,by simpa using q⟩
 have:=hperm.length_eq
 rw [List.length_append,List.length_range] at this
 exact this
end L2
namespace L2
open PySem PySem.Spec PyProof.Rows SeqAt
theorem rng_get {n k:Nat} (f:Nat→Int) (h:k<n):((List.range n).map f).getD k 0=f k:=by
 rw [List.getD_eq_getElem?_getD,List.getElem?_map,List.getElem?_range h]
 rfl
end L2
namespace L2
open PySem PySem.Spec PyProof.Rows PySem.SeqAt
end L2
namespace L2
open PySem PySem.Spec PyProof.Rows
end L2
namespace L2
open PySem PySem.Spec PyProof.Rows PySem.SeqAt
section
variable {X:Cx} {pins:List (Addr×Obj)} {σ:St} {H:Hp} {s:Shared} {A:Around} {a b:Addr}
theorem op_isnotB:OpR X (compareOp .IsNot) (fun x y H Q=>∃ c d,x=.bl c∧y=.bl d∧Q (.bl (c != d)) H):=by
 intro pins s σ H x y v u Q I rx ry h
 obtain ⟨c,d,rfl,rfl,q⟩:=h
 cases rx
 cases ry
 exact isnot_bool (fin_bl I q rfl)
end
end L2
namespace L2
open PySem PySem.Spec PyProof.Rows SeqAt
theorem up104 {x:Int} (h:x.natAbs<2^8999):x.natAbs<2^1040000:=Nat.lt_of_lt_of_le h (Nat.pow_le_pow_right (by decide) (by decide))
theorem piv_fine {b w:Nat} {R:List (List Int)} (hw:∀ r∈R,r.length=w) (hb:∀ r∈R,∀ x∈r,x.natAbs<2^b) (b1:1≤b) {p:Nat} (hp:p<w) (h:Leads w (tf R) R.length p):∃ u,Lat w R.length (tf R) u∧(∀ k,k<p→u k=0)∧u p≠0∧Bd ((b+1)*2^p) (u p):=by
 obtain ⟨inv,sw⟩:=clr_inv hw hb b1 (i:=w) (Nat.le_refl _)
 have ok:=told_ok inv sw
 have fm:(toldL w (clrI R w).2).map Prod.fst=(clrI R w).2.map Prod.fst:=by rw [List.map_map]; rfl
 have h1:p∈(toldL w (clrI R w).2).map Prod.fst:=by
  obtain ⟨u,h1,h2,h3⟩:=h
  rw [piv_iff ok hp]
  intro y k1 k2
  have hu:∀ k,k<w→((List.range w).map u).getD k 0=u k:=fun k hk=>range_get u hk
  have d:=lat_dot (v:=(List.range w).map u) (h1.congr fun k hk=>hu k hk) ((told_iff inv y).mp k1)
  rw [dot_one hp fun k hk ne=>?_,hu p hp] at d
  ·rcases Int.mul_eq_zero.mp d with z | z
   ·exact z
   ·exact absurd z h3
  ·rw [hu k hk]
   rcases Nat.lt_or_gt_of_ne ne with z | z
   ·rw [h2 k z,Int.mul_zero]
   ·rw [k2 k z hk,Int.zero_mul]
 rw [fm] at h1
 have h2:=clr_keeps (show p+1≤w by omega) h1
 obtain ⟨inv',_⟩:=clr_inv hw hb b1 (i:=p) (by omega)
 by_cases no:∀ r∈(clrI R p).1,r.getD p 0=0
 ·rw [clr_none no] at h2
  obtain ⟨c,hc,e⟩:=List.mem_map.mp h2
  have:=(inv'.sp c hc).1
  omega
 ·obtain ⟨r,hr,nz⟩:∃ r,r∈(clrI R p).1∧r.getD p 0≠0:=by
   refine Classical.byContradiction fun q=>no fun r hr=>Classical.byContradiction fun z=>q ⟨r,hr,z⟩
  have rb:=inv'.rl r hr
  refine ⟨fun k=>r.getD k 0,made_lat rb.2.2,fun k hk=>inv'.rz r hr k hk,nz,?_⟩
  have lp:p<r.length:=by rw [rb.1]; omega
  have l1:(r.getD p 0).natAbs<bg b p:=by rw [L2.getD_at lp]; exact rb.2.1 _ (List.getElem_mem lp)
  refine Nat.lt_of_lt_of_le l1 (Nat.pow_le_pow_right (by decide) ?_)
  omega
theorem LadL.fine {b w:Nat} {R:List (List Int)} {ps:List Nat} {C:Nat→List Int} (L:LadL w R ps C) (hw:∀ r∈R,r.length=w) (hb:∀ r∈R,∀ x∈r,x.natAbs<2^b) (b1:1≤b) (e:(b+1)*2^w≤832) {p:Nat} (hp:p∈ps):Bd 416 (fv (C p) p):=by
 have pw:=L.lt p hp
 have M:=L.lad
 have ep:ladF ps C p=fv (C p):=ladF_in hp
 have nz:=L.nz p hp
 obtain ⟨u,h1,h2,h3,h4⟩:=piv_fine hw hb b1 pw ⟨ladF ps C p,M.al p pw,fun k hk=>M.ech.lo p pw k hk,by rw [ep]; exact nz⟩
 obtain ⟨c,hc⟩:=M.ech.lead (h1.sub M.la) pw h2
 rw [ep] at hc
 have c0:c≠0:=fun z=>h3 (by rw [hc,z,Int.zero_mul])
 have e2:(b+1)*2^(p+1)≤(b+1)*2^w:=Nat.mul_le_mul_left _ (Nat.pow_le_pow_right (by decide) (by omega))
 rw [Nat.pow_succ,← Nat.mul_assoc] at e2
 refine (Bd.of_le h4 ?_).mono (by omega)
 rw [hc,Int.natAbs_mul]
 have:1≤c.natAbs:=by omega
 have:=Nat.mul_le_mul_right (fv (C p) p).natAbs this
 omega
theorem lto_const {g:Nat}:∀ n,lto (fun _=>g) n=n*g
 | 0=>(Nat.zero_mul _).symm
 | n+1=>by show lto _ n+g=_; rw [lto_const n,Nat.succ_mul]
theorem lsm_subA {n:Nat} {f g:Nat→Int}:lsm n (fun k=>f k-g k)=lsm n f-lsm n g:=by
 induction n with
 | zero=>rfl
 | succ n ih=>show lsm n _+(f n-g n)=lsm n f+f n-(lsm n g+g n); rw [ih]; omega
theorem take_fv {l:List Int} {w k:Nat} (hk:k<w):fv (l.take w) k=fv l k:=by
 unfold fv
 rw [List.getD_eq_getElem?_getD,List.getElem?_take,if_pos hk,← List.getD_eq_getElem?_getD]
structure Scs (w:Nat) (ps:List Nat) (C:Nat→List Int) (W:Nat→List Int) (pt:Nat→Int):Prop where
 ok:∀ s,s<ps.length→ScOk w ps (fun p=>(C p).take w) s (W s) (pt s)
abbrev rg (ps:List Nat) (C:Nat→List Int) (j:Nat):Vc:=fv (C (ps.getD j 0))
theorem getD_memA {ps:List Nat} {j:Nat} (h:j<ps.length):ps.getD j 0∈ps:=by
 rw [List.getD_eq_getElem?_getD,List.getElem?_eq_getElem h]
 exact List.getElem_mem _
theorem getD_ltA {ps:List Nat} (up:ps.Pairwise (· < ·)) {i j:Nat} (ij:i<j) (h:j<ps.length):ps.getD i 0<ps.getD j 0:=by
 have:=List.pairwise_iff_getElem.mp up i j (by omega) h ij
 rw [List.getD_eq_getElem?_getD,List.getElem?_eq_getElem (show i<ps.length by omega),List.getD_eq_getElem?_getD,List.getElem?_eq_getElem h]
 exact this
theorem Scs.at_ {w:Nat} {R:List (List Int)} {ps:List Nat} {C:Nat→List Int} {W:Nat→List Int} {pt:Nat→Int} (S:Scs w ps C W pt) (L:LadL w R ps C) {s j:Nat} (hs:s<ps.length) (hj:j<ps.length):lsm w (fun k=>fv (W s) k*rg ps C j k)=if j=s then pt s else 0:=by
 have o:=S.ok s hs
 have e:∀ j,lsm w (fun k=>fv (W s) k*rg ps C j k)=lsm w (fun k=>fv (W s) k*fv ((C (ps.getD j 0)).take w) k):=fun j=>lsm_congr fun k hk=>by rw [take_fv hk]
 by_cases q:j=s
 ·subst q; rw [if_pos rfl,e]; exact o.own
 ·rw [if_neg q]
  by_cases z:j<s
  ·rw [e]; exact o.lo j z
  ·exact o.hi _ fun i hi=>L.lo (getD_memA hj) (getD_ltA L.up (by omega) hj)
theorem acc_piv {w:Nat} {R:List (List Int)} {ps:List Nat} {C:Nat→List Int} {W:Nat→List Int} {pt:Nat→Int} (S:Scs w ps C W pt) (L:LadL w R ps C) {u:Vc} (hu:∀ s,s<ps.length→lsm w (fun k=>fv (W s) k*u k)=0):∀ s,s<ps.length→u (ps.getD s 0)=0:=by
 intro s
 induction s using Nat.strongRecOn with
 | _ s ih =>
  intro hs
  have o:=S.ok s hs
  have h0:=o.hi (fun k=>rg ps C s (ps.getD s 0)*u k-u (ps.getD s 0)*rg ps C s k) fun j hj=>by
   by_cases q:j=s
   ·subst q; rw [Int.mul_comm,Int.sub_self]
   ·have z1:rg ps C s (ps.getD j 0)=0:=L.lo (getD_memA hs) (getD_ltA L.up (by omega) hs)
    rw [ih j (by omega) (by omega),z1,Int.mul_zero,Int.mul_zero,Int.sub_self]
  have e:lsm w (fun k=>fv (W s) k*(rg ps C s (ps.getD s 0)*u k-u (ps.getD s 0)*rg ps C s k))=rg ps C s (ps.getD s 0)*lsm w (fun k=>fv (W s) k*u k)-u (ps.getD s 0)*lsm w (fun k=>fv (W s) k*rg ps C s k):=by
   rw [← lsm_mul,← lsm_mul,← lsm_subA]
   refine lsm_congr fun k _=>?_
   rw [Int.mul_sub,Int.mul_left_comm,Int.mul_left_comm (fv (W s) k)]
  rw [e,hu s hs,S.at_ L hs hs,if_pos rfl,Int.mul_zero] at h0
  have pp:=o.pos
  have h1:u (ps.getD s 0)*pt s=0:=by omega
  rcases Int.mul_eq_zero.mp h1 with z | z
  ·exact z
  ·omega
theorem piv_inA {b w:Nat} {R:List (List Int)} {ps:List Nat} {C:Nat→List Int} (L:LadL w R ps C) (hw:∀ r∈R,r.length=w) (hb:∀ r∈R,∀ x∈r,x.natAbs<2^b) (b1:1≤b) {p:Nat} (h:p∈(clrI R w).2.map Prod.fst):p∈ps:=by
 obtain ⟨inv,sw⟩:=clr_inv hw hb b1 (i:=w) (Nat.le_refl _)
 obtain ⟨c,hc,rfl⟩:=List.mem_map.mp h
 have M:=L.lad
 have nz:=lead_has M.ech M.la (inv.sp c hc).1 ⟨fun k=>c.2.getD k 0,made_lat (inv.sl c hc).2.2,(inv.sp c hc).2.2,Int.ne_of_gt (inv.sp c hc).2.1⟩
 refine Classical.byContradiction fun q=>nz ?_
 unfold ladF
 rw [if_neg q]
def NoSum (w:Nat) (R:List (List Int)) (v:Vc):Prop:=∀ k,k<w→k∉(clrI R w).2.map Prod.fst→∃ y:List Int,WOk3 w R ((clrI R w).2.map Prod.fst) k y∧lsm w (fun i=>fv y i*v i)=0
theorem acc_zero {b w:Nat} {R:List (List Int)} {ps:List Nat} {C:Nat→List Int} {W:Nat→List Int} {pt:Nat→Int} (S:Scs w ps C W pt) (L:LadL w R ps C) (hw:∀ r∈R,r.length=w) (hb:∀ r∈R,∀ x∈r,x.natAbs<2^b) (b1:1≤b) {u:Vc} (hu:∀ s,s<ps.length→lsm w (fun k=>fv (W s) k*u k)=0) (ns:NoSum w R u):∀ k,k<w→u k=0:=fun k hk=>by
 have pz:∀ p∈ps,u p=0:=fun p hp=>by
  obtain ⟨j,hj,rfl⟩:=List.mem_iff_getElem.mp hp
  have:=acc_piv S L hu j hj
  rw [List.getD_eq_getElem?_getD,List.getElem?_eq_getElem hj] at this
  exact this
 by_cases q:k∈ps
 ·exact pz k q
 ·obtain ⟨y,oy,hy⟩:=ns k hk fun z=>q (piv_inA L hw hb b1 z)
  rw [lsm_one hk fun i hi ne=>?_] at hy
  ·have:=oy.pos
   rcases Int.mul_eq_zero.mp hy with z | z
   ·exact absurd z (by show y.getD k 0≠0; omega)
   ·exact z
  ·by_cases z:i∈(clrI R w).2.map Prod.fst
   ·rw [pz i (piv_inA L hw hb b1 z),Int.mul_zero]
   ·rw [show fv y i=0 from oy.oth i hi ne z,Int.zero_mul]
theorem acc_made {b w:Nat} {R:List (List Int)} {ps:List Nat} {C:Nat→List Int} {W:Nat→List Int} {pt:Nat→Int} (S:Scs w ps C W pt) (L:LadL w R ps C) (hw:∀ r∈R,r.length=w) (hb:∀ r∈R,∀ x∈r,x.natAbs<2^b) (b1:1≤b) {v:Vc} {t:Nat→Int} (hv:∀ s,s<ps.length→lsm w (fun k=>fv (W s) k*v k)=t s*pt s) (ns:NoSum w R v):∀ k,k<w→v k=lsm ps.length fun s=>t s*rg ps C s k:=by
 have sp:∀ x:Vc,lsm w (fun k=>x k*(v k-lsm ps.length fun s=>t s*rg ps C s k))=lsm w (fun k=>x k*v k)-lsm ps.length fun s=>t s*lsm w fun k=>x k*rg ps C s k:=fun x=>by
  have e1:(lsm w fun k=>x k*lsm ps.length fun s=>t s*rg ps C s k)=lsm ps.length fun s=>t s*lsm w fun k=>x k*rg ps C s k:=by
   have a1:(lsm w fun k=>x k*lsm ps.length fun s=>t s*rg ps C s k)=lsm w fun k=>lsm ps.length fun s=>t s*(x k*rg ps C s k):=lsm_congr fun k _=>by
    rw [← lsm_mul]
    exact lsm_congr fun s _=>Int.mul_left_comm ..
   rw [a1,lsm_swap]
   exact lsm_congr fun s _=>lsm_mul ..
  rw [← e1,← lsm_subA]
  exact lsm_congr fun k _=>Int.mul_sub ..
 have z:=acc_zero S L hw hb b1 (u:=fun k=>v k-lsm ps.length fun s=>t s*rg ps C s k) (fun s hs=>by
  rw [sp,hv s hs,lsm_one hs fun j hj ne=>by rw [S.at_ L hs hj,if_neg ne,Int.mul_zero],S.at_ L hs hs,if_pos rfl,Int.sub_self]) fun k hk n=>by
   obtain ⟨y,oy,hy⟩:=ns k hk n
   refine ⟨y,oy,?_⟩
   rw [sp,hy,lsm_zero fun j hj=>?_,Int.sub_self]
   have mem:=getD_memA hj
   have la:=L.lad.al _ (L.lt _ mem)
   rw [ladF_in mem] at la
   have:=lat_dot (v:=C (ps.getD j 0)) (y:=y) la oy.kl
   unfold dotW at this
   rw [lsm_sum] at this
   rw [show (lsm w fun k=>fv y k*rg ps C j k)=0 from this,Int.mul_zero]
 intro k hk
 have:=z k hk
 omega
theorem acc_tally {w:Nat} {R:List (List Int)} {ps:List Nat} {C:Nat→List Int} (L:LadL w R ps C) {v:Vc} {t:Nat→Int} {k:Nat} (hk:k<w) (e:v k=lsm ps.length fun s=>t s*rg ps C s k):(lsm R.length fun d=>(lsm ps.length fun s=>t s*rg ps C s (w+d))*tf R d k)=v k:=by
 rw [e]
 have a1:(lsm R.length fun d=>(lsm ps.length fun s=>t s*rg ps C s (w+d))*tf R d k)=lsm R.length fun d=>lsm ps.length fun s=>t s*(rg ps C s (w+d)*tf R d k):=lsm_congr fun d _=>by
  rw [Int.mul_comm,← lsm_mul]
  exact lsm_congr fun s _=>by rw [Int.mul_comm,Int.mul_assoc]
 rw [a1,lsm_swap]
 refine lsm_congr fun s hs=>?_
 rw [lsm_mul,show rg ps C s k=_ from L.mw _ (getD_memA hs) k hk]
theorem acc_div {w:Nat} {R:List (List Int)} {ps:List Nat} {C:Nat→List Int} {W:Nat→List Int} {pt:Nat→Int} (S:Scs w ps C W pt) (L:LadL w R ps C) {v:Vc} (h:Lat w R.length (tf R) v) {s:Nat} (hs:s<ps.length):pt s∣lsm w (fun k=>fv (W s) k*v k):=by
 obtain ⟨c,hc⟩:=h.sub L.lad.la
 have e:lsm w (fun k=>fv (W s) k*v k)=lsm w fun q=>c q*lsm w fun k=>fv (W s) k*ladF ps C q k:=by
  have a1:lsm w (fun k=>fv (W s) k*v k)=lsm w fun k=>lsm w fun q=>c q*(fv (W s) k*ladF ps C q k):=lsm_congr fun k hk=>by
   rw [hc k hk,← lsm_mul]
   exact lsm_congr fun q _=>Int.mul_left_comm ..
  rw [a1,lsm_swap]
  exact lsm_congr fun q _=>lsm_mul ..
 rw [e]
 refine lsm_dvd fun q hq=>?_
 refine Int.dvd_trans ?_ (Int.dvd_mul_left ..)
 by_cases m:q∈ps
 ·rw [ladF_in m]
  obtain ⟨j,hj,rfl⟩:=List.mem_iff_getElem.mp m
  have:=S.at_ L hs hj
  unfold rg at this
  rw [show ps.getD j 0=ps[j] by rw [List.getD_eq_getElem?_getD,List.getElem?_eq_getElem hj]; rfl] at this
  rw [this]
  split
  ·exact Int.dvd_refl _
  ·exact Int.dvd_zero _
 ·rw [lsm_zero fun k _=>by unfold ladF; rw [if_neg m]; exact Int.mul_zero _]
  exact Int.dvd_zero _
structure SumsA (w:Nat) (R:List (List Int)) (T:List (Nat×List Int)):Prop where
 pl:T.map Prod.fst=(List.range w).filter (fun k=>decide (k∉(clrI R w).2.map Prod.fst))
 ok:∀ c∈T,WOk3 w R ((clrI R w).2.map Prod.fst) c.1 c.2
 bd:∀ c∈T,∀ x∈c.2,x.natAbs<2^8998
theorem SumsA.noSum {w:Nat} {R:List (List Int)} {T:List (Nat×List Int)} (h:SumsA w R T) {v:List Int} (vl:v.length=w) (z:∀ c∈T,wsum c.2 v=0):NoSum w R (fv v):=fun k hk nk=>by
 have m:k∈T.map Prod.fst:=by
  rw [h.pl]
  exact List.mem_filter.mpr ⟨List.mem_range.mpr hk,decide_eq_true nk⟩
 obtain ⟨c,hc,rfl⟩:=List.mem_map.mp m
 refine ⟨c.2,h.ok c hc,?_⟩
 rw [← wsum_lsm (h.ok c hc).ll vl]
 exact z c hc
theorem SumsA.len {w:Nat} {R:List (List Int)} {T:List (Nat×List Int)} (h:SumsA w R T):T.length≤w:=by
 have h1:=congrArg List.length h.pl
 rw [List.length_map] at h1
 have:=List.length_filter_le (fun k=>decide (k∉(clrI R w).2.map Prod.fst)) (List.range w)
 rw [List.length_range] at this
 omega
theorem dot_linYA {w:Nat} {y z r:List Int} {x u:Int}:dotW w ((List.range w).map fun k=>x*y.getD k 0-u*z.getD k 0) r=x*dotW w y r-u*dotW w z r:=by
 unfold dotW
 have:∀ m,m≤w→((List.range m).map fun k=>((List.range w).map fun k=>x*y.getD k 0-u*z.getD k 0).getD k 0*r.getD k 0).sum=x*((List.range m).map fun k=>y.getD k 0*r.getD k 0).sum-u*((List.range m).map fun k=>z.getD k 0*r.getD k 0).sum:=by
  intro m
  induction m with
  | zero=>intro _; simp
  | succ m ih =>
   intro hm
   simp only [List.range_succ,List.map_append,List.map_cons,List.map_nil,List.sum_append,List.sum_cons,List.sum_nil,Int.add_zero,Int.mul_add]
   rw [ih (by omega),range_get (fun k=>x*y.getD k 0-u*z.getD k 0) (show m<w by omega),Int.sub_mul,Int.mul_assoc,Int.mul_assoc]
   omega
 exact this w (Nat.le_refl _)
theorem wok3_uniqA {b w:Nat} {R L:List (List Int)} {S:List (Nat×List Int)} (inv:InvB b w R.length R w L S) (sw:S.length≤w) {j:Nat} {u v:List Int} (hu:WOk3 w R (S.map Prod.fst) j u) (hv:WOk3 w R (S.map Prod.fst) j v):u=v:=by
 have ok:=told_ok inv sw
 have fm:(toldL w S).map Prod.fst=S.map Prod.fst:=by rw [List.map_map]; rfl
 have yk:=told_kills inv (y:=(List.range w).map fun k=>v.getD j 0*u.getD k 0-u.getD j 0*v.getD k 0) fun r hr=>by
  have h1:=hu.kl r hr
  have h2:=hv.kl r hr
  have h3:=dot_linYA (w:=w) (r:=r) (y:=u) (z:=v) (x:=v.getD j 0) (u:=u.getD j 0)
  rw [h3,h1,h2]
  omega
 have zz:∀ k,k<w→v.getD j 0*u.getD k 0=u.getD j 0*v.getD k 0:=fun k hk=>by
  by_cases e:k=j
  ·rw [e,Int.mul_comm]
  by_cases q:k∈S.map Prod.fst
  ·rw [← fm] at q
   obtain ⟨c,hc,rfl⟩:=List.mem_map.mp q
   have h:=yk c hc
   rw [dot_one (ok.aw c hc) fun m hm hmc=>?_,range_get (fun k=>v.getD j 0*u.getD k 0-u.getD j 0*v.getD k 0) (ok.aw c hc)] at h
   ·have hp:=ok.pos c hc
    rcases Int.mul_eq_zero.mp h with z | z
    ·omega
    ·omega
   ·rw [range_get (fun k=>v.getD j 0*u.getD k 0-u.getD j 0*v.getD k 0) hm]
    by_cases q2:m∈S.map Prod.fst
    ·rw [← fm] at q2
     obtain ⟨d,hd,rfl⟩:=List.mem_map.mp q2
     rw [ok.oth c hc d hd hmc,Int.mul_zero]
    ·by_cases e2:m=j
     ·rw [e2,Int.mul_comm (v.getD j 0)]
      simp
     ·rw [hu.oth m hm e2 q2,hv.oth m hm e2 q2]
      simp
  ·rw [hu.oth k hk e q,hv.oth k hk e q]
   simp
 have p1:=hu.pos
 have p2:=hv.pos
 have d1:(v.getD j 0).natAbs∣(u.getD j 0).natAbs:=prime_dvd (by omega) hv.gcd fun x hx=>by
  obtain ⟨k,hk,rfl⟩:=List.mem_iff_getElem.mp hx
  rw [← L2.getD_at hk,← Int.natAbs_mul,← zz k (by rw [hv.ll] at hk; exact hk),Int.natAbs_mul]
  exact Nat.dvd_mul_right ..
 have d2:(u.getD j 0).natAbs∣(v.getD j 0).natAbs:=prime_dvd (by omega) hu.gcd fun x hx=>by
  obtain ⟨k,hk,rfl⟩:=List.mem_iff_getElem.mp hx
  rw [← L2.getD_at hk,← Int.natAbs_mul,zz k (by rw [hu.ll] at hk; exact hk),Int.natAbs_mul]
  exact Nat.dvd_mul_right ..
 have ep:v.getD j 0=u.getD j 0:=by
  have:=Nat.dvd_antisymm d1 d2
  omega
 refine ext_at (z:=w) hu.ll hv.ll fun k hk=>?_
 have h3:=zz k hk
 rw [ep] at h3
 exact Int.eq_of_mul_eq_mul_left (by omega) h3
theorem SumsA.uniq {b w:Nat} {R:List (List Int)} (hw:∀ r∈R,r.length=w) (hb:∀ r∈R,∀ x∈r,x.natAbs<2^b) (b1:1≤b) {T T':List (Nat×List Int)} (h:SumsA w R T) (h':SumsA w R T'):T=T':=by
 obtain ⟨inv,sw⟩:=clr_inv hw hb b1 (i:=w) (Nat.le_refl _)
 have e:T.map Prod.fst=T'.map Prod.fst:=h.pl.trans h'.pl.symm
 refine List.ext_getElem (by have:=congrArg List.length e; rw [List.length_map,List.length_map] at this; exact this) fun i h1 h2=>?_
 have h3:(T.map Prod.fst)[i]'(by rw [List.length_map]; exact h1)=(T'.map Prod.fst)[i]'(by rw [List.length_map]; exact h2):=by simp only [e]
 rw [List.getElem_map,List.getElem_map] at h3
 refine Prod.ext h3 (wok3_uniqA inv sw (h.ok _ (List.getElem_mem h1)) ?_)
 rw [h3]
 exact h'.ok _ (List.getElem_mem h2)
structure AccPart (R:List (List Int)) (w:Nat) (v wl:List Int) (p:Int):Prop where
 ln:wl.length=w
 bd:∀ x∈wl,x.natAbs<2^8999
 p2:2≤p
 dv:∀ r∈R,p∣wsum wl r
 nd:¬ p∣wsum wl v
 nl:¬ Lat w R.length (tf R) (fv v)
structure AccTal (R:List (List Int)) (w:Nat) (v tl:List Int):Prop where
 ln:tl.length=R.length
 bd:∀ x∈tl,x.natAbs<2^1040000
 sm:∀ k,k<w→(lsm R.length fun d=>fv tl d*tf R d k)=fv v k
structure AccSum (R:List (List Int)) (w:Nat) (T:List (Nat×List Int)) (v wl:List Int) (p:Int):Prop where
 ln:wl.length=w
 bd:∀ x∈wl,x.natAbs<2^8999
 p0:0≤p
 p1:p≠1
 dv:∀ r∈R,mulP (wsum wl r) p=true
 nd:mulP (wsum wl v) p=false
 nl:¬ Lat w R.length (tf R) (fv v)
 wh:(p=0∧∃ (j k:Nat),T[j]?=some (k,wl)∧∀ (i:Nat) (d:Nat×List Int),i<j→T[i]?=some d→wsum d.2 v=0)∨(p≠0∧∀ c∈T,wsum c.2 v=0)
theorem mulP_dvd {n p:Int} (hp:p≠0):mulP n p=decide (p∣n):=by
 unfold mulP
 rw [if_neg hp]
 by_cases h:p∣n
 ·rw [decide_eq_true h,decide_eq_true (Int.emod_eq_zero_of_dvd h)]
 ·rw [decide_eq_false h,decide_eq_false fun z=>h (Int.dvd_of_emod_eq_zero z)]
theorem lat_row {w:Nat} {R:List (List Int)} {r:List Int} (h:r∈R):Lat w R.length (tf R) (fv r):=by
 obtain ⟨i,hi,rfl⟩:=List.mem_iff_getElem.mp h
 have:=Lat.gen (w:=w) (B:=tf R) hi
 unfold tf at this
 rw [show R.getD i []=R[i] by rw [List.getD_eq_getElem?_getD,List.getElem?_eq_getElem hi]; rfl] at this
 exact this
theorem Scs.part {w:Nat} {R:List (List Int)} {ps:List Nat} {C:Nat→List Int} {W:Nat→List Int} {pt:Nat→Int} (S:Scs w ps C W pt) (L:LadL w R ps C) (hw:∀ r∈R,r.length=w) {v:List Int} (vl:v.length=w) {s:Nat} (hs:s<ps.length) (h:¬ pt s∣wsum (W s) v):AccPart R w v (W s) (pt s):=by
 have o:=S.ok s hs
 refine ⟨o.ln,o.bd,?_,fun r hr=>?_,h,fun l=>h ?_⟩
 ·have:=o.pos
  refine Classical.byContradiction fun q=>h ?_
  rw [show pt s=1 by omega]
  exact Int.one_dvd _
 ·rw [wsum_lsm o.ln (hw r hr)]
  exact acc_div S L (lat_row hr) hs
 ·rw [wsum_lsm o.ln vl]
  exact acc_div S L l hs
theorem AccPart.sum {R:List (List Int)} {w:Nat} {T:List (Nat×List Int)} {v wl:List Int} {p:Int} (h:AccPart R w v wl p) (z:∀ c∈T,wsum c.2 v=0):AccSum R w T v wl p:=by
 have p2:=h.p2
 have p0:p≠0:=by omega
 exact ⟨h.ln,h.bd,by omega,by omega,fun r hr=>by rw [mulP_dvd p0]; exact decide_eq_true (h.dv r hr),by rw [mulP_dvd p0]; exact decide_eq_false h.nd,h.nl,.inr ⟨p0,z⟩⟩
theorem SumsA.acc {R:List (List Int)} {w:Nat} {T:List (Nat×List Int)} {v:List Int} (h:SumsA w R T) (hw:∀ r∈R,r.length=w) (vl:v.length=w) {j:Nat} {c:Nat×List Int} (hj:T[j]?=some c) (nz:wsum c.2 v≠0) (z:∀ (i:Nat) (d:Nat×List Int),i<j→T[i]?=some d→wsum d.2 v=0):AccSum R w T v c.2 0:=by
 have o:=h.ok c (List.mem_of_getElem? hj)
 refine ⟨o.ll,o.bl,by decide,by decide,fun r hr=>?_,decide_eq_false nz,fun l=>nz ?_,.inl ⟨rfl,j,c.1,hj,z⟩⟩
 ·have:=o.kl r hr
  unfold dotW at this
  rw [lsm_sum] at this
  refine decide_eq_true ?_
  rw [wsum_lsm o.ll (hw r hr)]
  exact this
 ·have:=lat_dot (v:=v) l o.kl
  unfold dotW at this
  rw [lsm_sum] at this
  rw [wsum_lsm o.ll vl]
  exact this
def tOf (w:Nat) (W:Nat→List Int) (pt:Nat→Int) (v:List Int) (s:Nat):Int:=wsum (W s) v/pt s
theorem ediv_bd {e:Nat} {x p:Int} (h:Bd e x) (hp:0<p):Bd e (x/p):=by
 refine Bd.of_le h ?_
 have h1:=Int.mul_ediv_add_emod x p
 have h2:=Int.emod_nonneg x (show p≠0 by omega)
 have h3:=Int.emod_lt_of_pos x hp
 rcases Int.le_total 0 x with z | z
 ·have:=Int.ediv_nonneg z (show 0≤p by omega)
  have:=Int.ediv_le_self p z
  omega
 ·have a1:x/p≤0:=by
   refine Int.le_of_lt_add_one ?_
   refine Int.ediv_lt_of_lt_mul hp ?_
   omega
  have a2:x≤x/p:=by
   rw [Int.le_ediv_iff_mul_le hp]
   have:x*p≤x*1:=Int.mul_le_mul_of_nonpos_left z (show 1≤p by omega)
   omega
  omega
theorem wsum_bd {w:Nat} {a v:List Int} (al:a.length=w) (vl:v.length=w) (w6:w≤6) (ha:∀ x∈a,x.natAbs<2^8999) (hv:∀ x∈v,x.natAbs<2^150):Bd 9152 (wsum a v):=by
 rw [wsum_lsm al vl]
 have:=lsm_abs (m:=w) (M:=2^9149) (f:=fun k=>fv a k*fv v k) fun k hk=>by
  have h1:Bd 8999 (fv a k):=at_in (P:=fun x=>x.natAbs<2^8999) al hk ha
  have h2:Bd 150 (fv v k):=at_in (P:=fun x=>x.natAbs<2^150) vl hk hv
  exact Nat.le_of_lt (h1.mul h2)
 have a1:w*2^9149<2^3*2^9149:=Nat.mul_lt_mul_of_pos_right (by omega) (Nat.two_pow_pos _)
 rw [← Nat.pow_add] at a1
 exact Nat.lt_of_le_of_lt this a1
theorem tally_bd {n:Nat} {ps:List Nat} {C:Nat→List Int} {t:Nat→Int} (n6:n≤6) (ht:∀ s,s<n→Bd 9152 (t s)) (hc:∀ s,s<n→∀ k,Bd 900000 (rg ps C s k)) {k:Nat}:Bd 909155 (lsm n fun s=>t s*rg ps C s k):=by
 have:=lsm_abs (m:=n) (M:=2^909152) (f:=fun s=>t s*rg ps C s k) fun s hs=>Nat.le_of_lt ((ht s hs).mul (hc s hs k))
 have a1:n*2^909152<2^3*2^909152:=Nat.mul_lt_mul_of_pos_right (by omega) (Nat.two_pow_pos _)
 rw [← Nat.pow_add] at a1
 exact Nat.lt_of_le_of_lt this a1
theorem Scs.tal {b w:Nat} {R:List (List Int)} {ps:List Nat} {C:Nat→List Int} {W:Nat→List Int} {pt:Nat→Int} (S:Scs w ps C W pt) (L:LadL w R ps C) (w6:w≤6) (p6:ps.length≤6) (hw:∀ r∈R,r.length=w) (hb:∀ r∈R,∀ x∈r,x.natAbs<2^b) (b1:1≤b) {v tl:List Int} (vl:v.length=w) (hv:∀ x∈v,x.natAbs<2^150) (dv:∀ s,s<ps.length→pt s∣wsum (W s) v) (ns:NoSum w R (fv v)) (ll:tl.length=R.length) (ht:∀ d,d<R.length→fv tl d=lsm ps.length fun s=>tOf w W pt v s*rg ps C s (w+d)):AccTal R w v tl:=by
 refine ⟨ll,fun x hx=>?_,fun k hk=>?_⟩
 ·obtain ⟨d,hd,rfl⟩:=List.mem_iff_getElem.mp hx
  rw [fv_at hd,ht d (by omega)]
  exact (tally_bd p6 (fun s hs=>ediv_bd (wsum_bd (S.ok s hs).ln vl w6 (S.ok s hs).bd hv) (S.ok s hs).pos) (fun s hs k=>L.bd _ (getD_memA hs) k):Bd 909155 _).mono (by decide)
 ·have e:=acc_made S L hw hb b1 (v:=fv v) (t:=tOf w W pt v) (fun s hs=>by
   rw [← wsum_lsm (S.ok s hs).ln vl]
   exact (Int.ediv_mul_cancel (dv s hs)).symm) ns k hk
  rw [← acc_tally L hk e]
  exact lsm_congr fun d hd=>by rw [ht d hd]
theorem dotW_wsum {z:Nat} {a r:List Int} (h1:a.length=z) (h2:r.length=z):dotW z a r=wsum a r:=wsum_at h1 h2
def BehO (w:Nat) (R:List (List Int)) (fs ms bag:List Int):Prop:=bag.length=w∧∀ k,k<w→fv bag k=fv fs k+lsm R.length fun d=>fv ms d*tf R d k
theorem BehO.lat {w:Nat} {R:List (List Int)} {fs ms bag:List Int} (h:BehO w R fs ms bag) (fl:fs.length=w):Lat w R.length (tf R) (fv (sub bag fs)):=⟨fv ms,fun k hk=>by
 show (sub bag fs).getD k 0=_
 rw [sub_at h.1 fl hk]
 have:=h.2 k hk
 unfold fv at this ⊢
 omega⟩
theorem BehO.eq {w:Nat} {R:List (List Int)} {fs tl bag bag':List Int} (h:BehO w R fs tl bag') (fl:fs.length=w) (bl:bag.length=w) (a:AccTal R w (sub bag fs) tl):bag'=bag:=ext_at (z:=w) h.1 bl fun k hk=>by
 have h1:=h.2 k hk
 have h2:=a.sm k hk
 rw [h2] at h1
 unfold fv at h1
 rw [sub_at bl fl hk] at h1
 omega
theorem BehO.bd {w:Nat} {R:List (List Int)} {fs ms bag:List Int} (h:BehO w R fs ms bag) (n8:R.length≤8) (fl:fs.length=w) (ml:ms.length=R.length) (hw:∀ r∈R,r.length=w) (fb:∀ x∈fs,0≤x∧x≤1000000000) (mb:∀ m∈ms,m.natAbs≤63000000000) (rb:∀ r∈R,∀ y∈r,y.natAbs≤1000000000):∀ y∈bag,y.natAbs≤10^30:=fun y hy=>by
 obtain ⟨k,hk,rfl⟩:=List.mem_iff_getElem.mp hy
 have hk2:k<w:=by rw [h.1] at hk; exact hk
 rw [fv_at hk,h.2 k hk2]
 have a1:0≤fv fs k∧fv fs k≤1000000000:=at_in (P:=fun x=>0≤x∧x≤1000000000) fl hk2 fb
 have a2:=lsm_abs (m:=R.length) (M:=63000000000*1000000000) (f:=fun d=>fv ms d*tf R d k) fun d hd=>by
  rw [Int.natAbs_mul]
  have rm:=List.getElem_mem hd
  refine Nat.mul_le_mul (at_in (P:=fun x=>x.natAbs≤63000000000) ml hd mb) ?_
  unfold tf
  rw [getDr hd]
  exact at_in (P:=fun x=>x.natAbs≤1000000000) (hw _ rm) hk2 (rb _ rm)
 have a3:R.length*(63000000000*1000000000)≤8*(63000000000*1000000000):=Nat.mul_le_mul_right _ n8
 omega
def seenZ (v:List Int) (l:List ((Addr×Addr)×(Nat×List Int))):List Addr:=(l.filter fun c=>!decide (V.int (wsum c.2.2 v)=V.int 0)).map fun c=>c.1.2
theorem filter_first {α:Type} {f:α→Bool} {l:List α}:∀ {j:Nat} {x:α},l[j]?=some x→f x=true→(∀ (i:Nat) (d:α),i<j→l[i]?=some d→f d=false)→∃ rest,l.filter f=x::rest:=by
 induction l with
 | nil=>intro j x h; simp at h
 | cons y l ih =>
  intro j x h hx z
  cases j with
  | zero =>
   obtain rfl:y=x:=by simpa using h
   exact ⟨l.filter f,List.filter_cons_of_pos hx⟩
  | succ j =>
   have hy:=z 0 y (Nat.succ_pos _) rfl
   obtain ⟨rest,e⟩:=ih (j:=j) (by simpa using h) hx fun i d hi hd=>z (i+1) d (by omega) (by simpa using hd)
   exact ⟨rest,by rw [List.filter_cons_of_neg (by rw [hy]; decide)]; exact e⟩
theorem zip_get {α β:Type} {l:List α} {m:List β} {i:Nat} {x:α} {y:β} (h1:l[i]?=some x) (h2:m[i]?=some y):(l.zip m)[i]?=some (x,y):=by
 rw [List.getElem?_zip_eq_some]
 exact ⟨h1,h2⟩
theorem gnP_1e9 {z:Nat} {tk gv:List (List Int)} {fs:List Int} (o:OkP z tk gv fs):∀ r∈gnP tk gv,∀ y∈r,y.natAbs≤1000000000:=fun r hr y hy=>by
 have gl:=o.gl
 obtain ⟨i,hi,rfl⟩:=List.mem_map.mp hr
 have hi:=List.mem_range.mp hi
 rw [getDr hi,getDr (by omega)] at hy
 exact sub_abs (o.gv _ (List.getElem_mem _)).1 (o.tk _ (List.getElem_mem _)).1 (o.gv _ (List.getElem_mem _)).2 (o.tk _ (List.getElem_mem _)).2 y hy
theorem seenZ_snoc {v:List Int} {l:List ((Addr×Addr)×(Nat×List Int))} {pr:Addr×Addr} {c:Nat×List Int}:seenZ v (l++[(pr,c)])=seenZ v l++(if (!decide (V.int (wsum c.2 v)=V.int 0))=true then [pr.2] else []):=by
 unfold seenZ
 rw [List.filter_append,List.map_append]
 congr 1
 by_cases zz:(!decide (V.int (wsum c.2 v)=V.int 0))=true
 ·rw [if_pos zz,List.filter_cons_of_pos (p:=fun (c:(Addr×Addr)×(Nat×List Int))=>!decide (V.int (wsum c.2.2 v)=V.int 0)) (a:=(pr,c)) zz]; rfl
 ·rw [if_neg zz,List.filter_cons_of_neg (p:=fun (c:(Addr×Addr)×(Nat×List Int))=>!decide (V.int (wsum c.2.2 v)=V.int 0)) (a:=(pr,c)) zz]; rfl
def AccIn (H:Hp) (q:Addr) (R:List (List Int)) (w:Nat) (T:List (Nat×List Int)) (v:List Int):Prop:=(∃ (l:Addr) (tl:List Int),H q=some (.tup [.str "tally",.ref l])∧H l=some (.lst (vints tl))∧AccTal R w v tl)∨∃ (l:Addr) (wl:List Int) (p:Int),H q=some (.tup [.str "sum",.ref l,.int p])∧H l=some (.lst (vints wl))∧AccSum R w T v wl p
theorem AccIn.same {H H':Hp} {q:Addr} {R:List (List Int)} {w:Nat} {T:List (Nat×List Int)} {v:List Int} (h:AccIn H q R w T v) (S:Same H H'):AccIn H' q R w T v:=by
 rcases h with ⟨l,tl,a,b,c⟩ | ⟨l,wl,p,a,b,c⟩
 ·exact .inl ⟨l,tl,S _ _ a,S _ _ b,c⟩
 ·exact .inr ⟨l,wl,p,S _ _ a,S _ _ b,c⟩
end L2
theorem PySem.W.Fast.tw11384745253046935897:True:=trivial
theorem PySem.W.Fast.tw11410597825034962700:True:=trivial
theorem PySem.W.Fast.tw11520816482559917813:True:=trivial
theorem PySem.W.Fast.tw11683556142686760788:True:=trivial
theorem PySem.W.Fast.tw11933588413382977370:True:=trivial
theorem PySem.W.Fast.tw1329329614086320875:True:=trivial
theorem PySem.W.Fast.tw13982134735217738980:True:=trivial
theorem PySem.W.Fast.tw15903485272859358615:True:=trivial
theorem PySem.W.Fast.tw17125369162672767023:True:=trivial
theorem PySem.W.Fast.tw17361568963483503065:True:=trivial
theorem PySem.W.Fast.tw17500229937640703942:True:=trivial
theorem PySem.W.Fast.tw1903985445376070108:True:=trivial
theorem PySem.W.Fast.tw2210018988859946512:True:=trivial
theorem PySem.W.Fast.tw271244064231788563:True:=trivial
theorem PySem.W.Fast.tw2792672864927267434:True:=trivial
theorem PySem.W.Fast.tw2919507177130818304:True:=trivial
theorem PySem.W.Fast.tw4882030513147148855:True:=trivial
theorem PySem.W.Fast.tw5320286025638188545:True:=trivial
theorem PySem.W.Fast.tw6338537553822764814:True:=trivial
theorem PySem.W.Fast.tw9349919257909965844:True:=trivial
theorem PySem.W.Fast.tw971528273680944935:True:=trivial
namespace Law
open PySem L2
def top (i:Nat):Stmt:=PySem.Challenge.pw_beadhall_k39_whole_account.main.body.getD i (.Pass ⟨0,0,0,0⟩)
abbrev s_law_mixed:Stmt:=top 52
abbrev s_law_number:Stmt:=top 53
abbrev s_law_door:Stmt:=top 54
abbrev s_law_net:Stmt:=top 55
abbrev s_law_gains:Stmt:=top 57
abbrev s_law_behind:Stmt:=top 60
abbrev s_law_tally:Stmt:=top 59
abbrev s_law_bag:Stmt:=top 61
abbrev s_is_name:Stmt:=top 38
abbrev s_refuse_bad_names:Stmt:=top 37
abbrev s_refuse_bad_bags:Stmt:=top 39
abbrev s_Net_init:Stmt:=inClass (top 36) 0
abbrev s_law_made:Stmt:=top 56
abbrev s_unit:Stmt:=top 16
abbrev s_with_makings:Stmt:=top 15
abbrev s_place_of_first:Stmt:=top 17
abbrev s_times:Stmt:=top 8
abbrev s_upright:Stmt:=top 18
abbrev s_common_divisor:Stmt:=top 11
abbrev s_measure:Stmt:=top 10
abbrev s_lowered:Stmt:=top 12
abbrev s_refuse_unlike:Stmt:=top 5
abbrev s_less:Stmt:=top 7
abbrev s_freed:Stmt:=top 19
abbrev s_cleared:Stmt:=top 14
abbrev s_weighing:Stmt:=top 21
abbrev s_weighings:Stmt:=top 20
abbrev s_gain:Stmt:=top 40
abbrev s_gains:Stmt:=top 42
abbrev s_sums:Stmt:=top 43
abbrev s_weighed:Stmt:=top 9
abbrev s_scale_of:Stmt:=top 29
abbrev s_scales:Stmt:=top 28
abbrev s_is_multiple:Stmt:=top 45
abbrev s_plus:Stmt:=top 6
abbrev s_by_rungs:Stmt:=top 48
abbrev s_without:Stmt:=top 26
abbrev s_shared_out:Stmt:=top 25
abbrev s_put_row:Stmt:=top 24
abbrev s_settle:Stmt:=top 27
abbrev s_ladder:Stmt:=top 23
abbrev s_accounted:Stmt:=top 47
abbrev s_law_whole:Stmt:=top 50
abbrev s_law_wholes:Stmt:=top 51
abbrev s_law_is_nought:Stmt:=top 62
abbrev s_law_weigh:Stmt:=top 58
abbrev s_law_sum_good:Stmt:=top 63
abbrev s_law_answer_good:Stmt:=top 64
abbrev s_unmoved:Stmt:=top 44
abbrev s_tells_apart:Stmt:=top 46
abbrev s_law_refused:Stmt:=top 65
abbrev s_law:Stmt:=top 66
inductive sp_law_mixed (K:PySem.W.Frag) (vs:List V) (H:Hp) (Q:VK) (z_3:XK):Prop
 | mk:∀ (a:Addr) (ns:List Int) (k:Nat),(vs=[.ref a,.int k])→(SqL K H a (vints ns))→(ns.length≤63)→(k<1000)→(∀ n:Int,0≤n→n<2147483647→Q (.int n) H)→sp_law_mixed K vs H Q z_3
inductive sp_law_number (K:PySem.W.Frag) (vs:List V) (H:Hp) (Q:VK) (z_3:XK):Prop
 | mk:∀ (a:Addr) (ns:List Int) (k kd:Nat),(vs=[.ref a,.int k,.int kd])→(SqL K H a (vints ns))→(ns.length≤63)→(k<1000)→(∀ n:Int,nbK kd n→Q (.int n) H)→sp_law_number K vs H Q z_3
inductive sp_law_door (K:PySem.W.Frag) (vs:List V) (H:Hp) (Q:VK) (z_3:XK):Prop
 | mk:∀ (a pa p0 p1:Addr) (ns t0 g0:List Int) (d z kd:Nat),(vs=[.ref a,.int d,.int z,.int kd,.ref pa])→(SqL K H a (vints ns))→(ns.length≤63)→(d≤8)→(1≤z)→(z≤6)→(SqL K H pa [.ref p0,.ref p1])→(SqL K H p0 (vints t0))→(SqL K H p1 (vints g0))→((kd=1→d%2=1→okS z t0∧okS z g0))→(∀ (p pt pg:Addr) (tk gv:List Int) (H':Hp),H p=none→Same H H'→H' p=some (.lst [.ref pt,.ref pg])→H' pt=some (.lst (vints tk))→H' pg=some (.lst (vints gv))→okM kd z tk→okM kd z gv→(kd=1→d%2=0→okS z tk∧okS z gv)→Q (.ref p) H')→sp_law_door K vs H Q z_3
inductive sp_law_net (K:PySem.W.Frag) (vs:List V) (H:Hp) (Q:VK) (z_3:XK):Prop
 | mk:∀ (a:Addr) (ns:List Int),(vs=[.ref a])→(SqL K H a (vints ns))→(ns.length≤63)→(∀ (p pt pg pf:Addr) (ts gs:List Addr) (z:Nat) (tk gv:List (List Int)) (fs:List Int) (H':Hp),H p=none→Same H H'→PlanP H' p pt pg pf ts gs tk gv fs→OkP z tk gv fs→FewP z tk gv→Q (.ref p) H')→sp_law_net K vs H Q z_3
inductive sp_law_gains (K:PySem.W.Frag) (vs:List V) (H:Hp) (Q:VK) (z_3:XK):Prop
 | mk:∀ (p pt pg pf:Addr) (ts gs:List Addr) (z:Nat) (tk gv:List (List Int)) (fs:List Int),(vs=[.ref p])→(PlanP H p pt pg pf ts gs tk gv fs)→(OkP z tk gv fs)→(∀ (q:Addr) (as:List Addr) (H':Hp),H q=none→Same H H'→H' q=some (.lst (as.map V.ref))→Rows H' as (gnP tk gv)→Q (.ref q) H')→sp_law_gains K vs H Q z_3
inductive sp_law_behind (K:PySem.W.Frag) (vs:List V) (H:Hp) (Q:VK) (z_3:XK):Prop
 | mk:∀ (p pt pg pf c:Addr) (ts gs:List Addr) (z:Nat) (tk gv:List (List Int)) (fs ms:List Int),(vs=[.ref p,.ref c])→(PlanP H p pt pg pf ts gs tk gv fs)→(OkP z tk gv fs)→(SqL K H c (vints ms))→(ms.length=tk.length)→((∀ m∈ms,m.natAbs<2^1040000))→(∀ (q:Addr) (bag:List Int) (H':Hp),H q=none→Same H H'→H' q=some (.lst (vints bag))→BehO z (gnP tk gv) fs ms bag→Q (.ref q) H')→sp_law_behind K vs H Q z_3
inductive sp_law_tally (K:PySem.W.Frag) (vs:List V) (H:Hp) (Q:VK) (z_3:XK):Prop
 | mk:∀ (a:Addr) (ns:List Int) (z:Nat),(vs=[.ref a,.int z])→(SqL K H a (vints ns))→(ns.length≤63)→(z≤8)→(∀ (p:Addr) (ms:List Int) (H':Hp),H p=none→Same H H'→H' p=some (.lst (vints ms))→ms.length=z→(∀ m∈ms,m.natAbs≤63000000000)→Q (.ref p) H')→sp_law_tally K vs H Q z_3
inductive sp_law_bag (K:PySem.W.Frag) (vs:List V) (H:Hp) (Q:VK) (z_3:XK):Prop
 | mk:∀ (a p pt pg pf:Addr) (ns:List Int) (ts gs:List Addr) (z:Nat) (tk gv:List (List Int)) (fs:List Int),(vs=[.ref a,.ref p])→(SqL K H a (vints ns))→(ns.length≤63)→(PlanP H p pt pg pf ts gs tk gv fs)→(OkP z tk gv fs)→(∀ (q:Addr) (bag:List Int) (H':Hp),H q=none→Same H H'→H' q=some (.lst (vints bag))→bag.length=z→(∀ y∈bag,y.natAbs≤10^32)→Q (.ref q) H')→sp_law_bag K vs H Q z_3
inductive sp_is_name (K:PySem.W.Frag) (vs:List V) (H:Hp) (Q:VK) (z_3:XK):Prop
 | mk:∀ (x:Str),(vs=[.str x])→(x.cps.all (· < 128)=true)→(x.length≤1000)→(∀ H',Same H H'→Q (.bl (okName x)) H')→sp_is_name K vs H Q z_3
inductive sp_refuse_bad_names (K:PySem.W.Frag) (vs:List V) (H:Hp) (Q:VK) (z_3:XK):Prop
 | mk:∀ (a:Addr) (ys:List Str) (lo hi:Int),(vs=[.ref a,.int lo,.int hi])→(SqL K H a (vstrs ys))→(lo≤ys.length)→(ys.length≤hi)→(ys.length≤60)→((∀ y∈ys,okName y=true))→(ys.Nodup)→(∀ H',Same H H'→Q .non H')→sp_refuse_bad_names K vs H Q z_3
inductive sp_refuse_bad_bags (K:PySem.W.Frag) (vs:List V) (H:Hp) (Q:VK) (z_3:XK):Prop
 | mk:∀ (a:Addr) (as:List Addr) (rs:List (List Int)) (n:Nat),(vs=[.ref a,.int rs.length,.int n])→(SqL K H a (as.map V.ref))→(Rows H as rs)→((∀ r∈rs,okBag n r))→(Q .non H)→sp_refuse_bad_bags K vs H Q z_3
inductive sp_Net_init (C:Addr) (K:PySem.W.Frag) (vs:List V) (H:Hp) (Q:VK) (z_3:XK):Prop
 | mk:∀ (x dx pb pd pt pg pf:Addr) (ts gs:List Addr) (N:NetV),(vs=[.ref x,.ref pb,.ref pd,.ref pt,.ref pg,.ref pf])→(H x=some (.ins C dx []))→(N.Ok)→(SqL K H pb (vstrs N.bowls))→(SqL K H pd (vstrs N.doors))→(SqL K H pt (ts.map V.ref))→(Rows H ts N.takes)→(SqL K H pg (gs.map V.ref))→(Rows H gs N.gives)→(H pf=some (.lst (vints N.first)))→(∀ (b d t g f:Addr) (ts' gs':List Addr) (H':Hp),(∀ a∈[b,d,t,g,f]++ts'++gs',H a=none)→(∀ q o,H q=some o→q≠x→H' q=some o)→NetIn C H' x dx b d t g f ts' gs' N→Q .non H')→sp_Net_init C K vs H Q z_3
inductive sp_law_made (C:Addr) (K:PySem.W.Frag) (vs:List V) (H:Hp) (Q:VK) (z_3:XK):Prop
 | mk:∀ (p pt pg pf:Addr) (ts gs:List Addr) (z:Nat) (tk gv:List (List Int)) (fs:List Int),(vs=[.ref p])→(PlanP H p pt pg pf ts gs tk gv fs)→(OkP z tk gv fs)→(∀ (x dx b d t g f:Addr) (ts' gs':List Addr) (H':Hp),H x=none→Same H H'→NetIn C H' x dx b d t g f ts' gs' (netP tk gv fs)→(netP tk gv fs).Ok→Q (.ref x) H')→sp_law_made C K vs H Q z_3
inductive sp_unit (K:PySem.W.Frag) (vs:List V) (H:Hp) (Q:VK) (z_3:XK):Prop
 | mk:∀ (p w:Nat),(vs=[.int p,.int w])→(w≤60)→(∀ (q:Addr) (H':Hp),H q=none→Same H H'→H' q=some (.lst (vints (unitL w p)))→Q (.ref q) H')→sp_unit K vs H Q z_3
inductive sp_with_makings (K:PySem.W.Frag) (vs:List V) (H:Hp) (Q:VK) (z_3:XK):Prop
 | mk:∀ (a:Addr) (as:List Addr) (R:List (List Int)),(vs=[.ref a])→(SqL K H a (as.map V.ref))→(Rows H as R)→(R.length≤9)→((∀ r∈R,r.length≤8))→(∀ (q:Addr) (ls:List Addr) (H':Hp),H q=none→Same H H'→H' q=some (.lst (ls.map V.ref))→Rows H' ls (mkR R)→Q (.ref q) H')→sp_with_makings K vs H Q z_3
inductive sp_place_of_first (K:PySem.W.Frag) (vs:List V) (H:Hp) (Q:VK) (z_3:XK):Prop
 | mk:∀ (a:Addr) (ls:List Addr) (L:List (List Int)) (z p:Nat),(vs=[.ref a,.int p])→(SqL K H a (ls.map V.ref))→(Rows H ls L)→((∀ r∈L,r.length=z))→(p<z)→((∀ c,c<L.length→(L.getD c []).getD p 0≠0→(∀ j,j<c→(L.getD j []).getD p 0=0)→∀ H',Same H H'→Q (.int (c:Nat)) H'))→(((∀ r∈L,r.getD p 0=0)→∀ H',Same H H'→Q (.int (-1)) H'))→sp_place_of_first K vs H Q z_3
inductive sp_times (K:PySem.W.Frag) (vs:List V) (H:Hp) (Q:VK) (z_3:XK):Prop
 | mk:∀ (m:Int) (b:Addr) (ys:List Int),(vs=[.int m,.ref b])→(SqL K H b (vints ys))→(ys.length≤70)→(m.natAbs<2^1040000)→((∀ y∈ys,y.natAbs<2^1040000))→(∀ (p:Addr) (H':Hp),H p=none→Same H H'→H' p=some (.lst (vints (ys.map fun y=>m*y)))→Q (.ref p) H')→sp_times K vs H Q z_3
inductive sp_upright (K:PySem.W.Frag) (vs:List V) (H:Hp) (Q:VK) (z_3:XK):Prop
 | mk:∀ (a:Addr) (r:List Int) (p:Nat),(vs=[.ref a,.int p])→(H a=some (.lst (vints r)))→(p<r.length)→(r.length≤70)→((∀ x∈r,x.natAbs<2^1040000))→(∀ (q:Addr) (H':Hp),Same H H'→H' q=some (.lst (vints (upr r p)))→Q (.ref q) H')→sp_upright K vs H Q z_3
inductive sp_common_divisor (K:PySem.W.Frag) (vs:List V) (H:Hp) (Q:VK) (z_3:XK):Prop
 | mk:∀ (x y:Nat),(vs=[.int x,.int y])→(Q (.int (Nat.gcd x y:Nat)) H)→sp_common_divisor K vs H Q z_3
inductive sp_measure (K:PySem.W.Frag) (vs:List V) (H:Hp) (Q:VK) (z_3:XK):Prop
 | mk:∀ (a:Addr) (xs:List Int),(vs=[.ref a])→(SqL K H a (vints xs))→(Q (.int (gcdL xs:Nat)) H)→sp_measure K vs H Q z_3
inductive sp_lowered (K:PySem.W.Frag) (vs:List V) (H:Hp) (Q:VK) (z_3:XK):Prop
 | mk:∀ (a:Addr) (xs:List Int),(vs=[.ref a])→(SqL K H a (vints xs))→(xs.length≤70)→((∀ x∈xs,x.natAbs<2^8999))→(∀ (p:Addr) (H':Hp),H p=none→Same H H'→H' p=some (.lst (vints (lowL xs)))→Q (.ref p) H')→sp_lowered K vs H Q z_3
inductive sp_refuse_unlike (C:Addr) (K:PySem.W.Frag) (vs:List V) (H:Hp) (Q:VK) (E:XK):Prop
 | mk:∀ (a b:Addr) (xs ys:List V),(vs=[.ref a,.ref b])→(SqL K H a xs)→(SqL K H b ys)→((xs.length=ys.length→Q .non H))→((xs.length≠ys.length→E (.ref C) none H))→sp_refuse_unlike C K vs H Q E
inductive sp_less (C:Addr) (K:PySem.W.Frag) (vs:List V) (H:Hp) (Q:VK) (E:XK):Prop
 | mk:∀ (a b:Addr) (xs ys:List Int),(vs=[.ref a,.ref b])→(SqL K H a (vints xs))→(SqL K H b (vints ys))→(xs.length≤70)→((xs.length=ys.length→∀ (p:Addr) (H':Hp),H p=none→Same H H'→H' p=some (.lst (vints (List.zipWith (fun i j=>i-j) xs ys)))→Q (.ref p) H'))→((xs.length≠ys.length→E (.ref C) none H))→sp_less C K vs H Q E
inductive sp_freed (K:PySem.W.Frag) (vs:List V) (H:Hp) (Q:VK) (z_3:XK):Prop
 | mk:∀ (a b:Addr) (r l:List Int) (z p k bb:Nat),(vs=[.ref a,.ref b,.int p])→(H a=some (.lst (vints r)))→(H b=some (.lst (vints l)))→(r.length=z)→(l.length=z)→(p<z)→(z≤70)→((bb+1)*2^(k+1)≤9000)→((∀ x∈r,x.natAbs<bg bb k))→((∀ x∈l,x.natAbs<bg bb k))→(∀ (q:Addr) (H':Hp),H q=none→Same H H'→H' q=some (.lst (vints (frd r l p)))→Q (.ref q) H')→sp_freed K vs H Q z_3
inductive sp_cleared (K:PySem.W.Frag) (vs:List V) (H:Hp) (Q:VK) (z_3:XK):Prop
 | mk:∀ (a:Addr) (as:List Addr) (R:List (List Int)) (w bb:Nat),(vs=[.ref a,.int w])→(SqL K H a (as.map V.ref))→(Rows H as R)→(R.length≤9)→(w≤8)→((∀ r∈R,r.length=w))→((∀ r∈R,∀ x∈r,x.natAbs<2^bb))→(1≤bb)→((bb+1)*2^w≤9000)→(∀ (q:Addr) (ts:List (Addr×Addr×Addr)) (H':Hp),H q=none→Same H H'→H' q=some (.lst (ts.map fun t=>V.ref t.1))→Sts w H' ts (clrI R w).2→InvB bb w R.length R w (clrI R w).1 (clrI R w).2→(clrI R w).2.length≤w→(∀ t∈ts,H t.2.1=none∧H t.2.2=none)→Q (.ref q) H')→sp_cleared K vs H Q z_3
inductive sp_weighing (K:PySem.W.Frag) (vs:List V) (H:Hp) (Q:VK) (z_3:XK):Prop
 | mk:∀ (a:Addr) (ts:List (Addr×Addr×Addr)) (S:List (Nat×List Int)) (R L:List (List Int)) (w n bb j:Nat),(vs=[.ref a,.int w,.int j])→(SqL K H a (ts.map fun t=>V.ref t.1))→(Sts w H ts S)→(InvB bb w n R w L S)→(S.length≤w)→(w≤8)→(j<w)→(j∉S.map Prod.fst)→((∀ c∈S,∀ x∈c.2,x.natAbs<bg bb S.length))→(((bb+1)*2^S.length-1)*(S.length+1)≤8996)→(∀ (q:Addr) (wl:List Int) (H':Hp),H q=none→Same H H'→H' q=some (.lst (vints wl))→WOk3 w R (S.map Prod.fst) j wl→(∀ x∈wl,x.natAbs<2^8998)→Q (.ref q) H')→sp_weighing K vs H Q z_3
inductive sp_weighings (K:PySem.W.Frag) (vs:List V) (H:Hp) (Q:VK) (z_3:XK):Prop
 | mk:∀ (a:Addr) (as:List Addr) (R:List (List Int)) (w bb:Nat),(vs=[.ref a,.int w])→(SqL K H a (as.map V.ref))→(Rows H as R)→(R.length≤8)→(w≤8)→((∀ r∈R,r.length=w))→((∀ r∈R,∀ x∈r,x.natAbs<2^bb))→(1≤bb)→((bb+1)*2^w≤9000)→((∀ s,s<w→s≤R.length→((bb+1)*2^s-1)*(s+1)≤8996))→(∀ (q:Addr) (ps:List (Addr×Addr)) (T:List (Nat×List Int)) (H':Hp),H q=none→Same H H'→H' q=some (.lst (ps.map fun p=>V.ref p.1))→Lns H' ps T→T.map Prod.fst=(List.range w).filter (fun k=>decide (k∉(clrI R w).2.map Prod.fst))→(∀ c∈T,WOk3 w R ((clrI R w).2.map Prod.fst) c.1 c.2∧∀ x∈c.2,x.natAbs<2^8998)→(∀ p∈ps,H p.2=none)→Q (.ref q) H')→sp_weighings K vs H Q z_3
inductive sp_gain (C:Addr) (K:PySem.W.Frag) (vs:List V) (H:Hp) (Q:VK) (z_3:XK):Prop
 | mk:∀ (x dx b d t g f:Addr) (ts gs:List Addr) (N:NetV) (k:Nat) (ht:k<N.takes.length) (hg:k<N.gives.length),(vs=[.ref x,.int k])→(NetIn C H x dx b d t g f ts gs N)→(N.Ok)→(∀ (p:Addr) (H':Hp),H p=none→Same H H'→H' p=some (.lst (vints (List.zipWith (fun i j=>i-j) N.gives[k] N.takes[k])))→Q (.ref p) H')→sp_gain C K vs H Q z_3
inductive sp_gains (C:Addr) (K:PySem.W.Frag) (vs:List V) (H:Hp) (Q:VK) (z_3:XK):Prop
 | mk:∀ (x dx b d t g f:Addr) (ts gs:List Addr) (N:NetV),(vs=[.ref x])→(NetIn C H x dx b d t g f ts gs N)→(N.Ok)→(∀ (q:Addr) (as:List Addr) (H':Hp),H q=none→Same H H'→H' q=some (.lst (as.map V.ref))→Rows H' as (gnP N.takes N.gives)→Q (.ref q) H')→sp_gains C K vs H Q z_3
inductive sp_sums (C:Addr) (K:PySem.W.Frag) (vs:List V) (H:Hp) (Q:VK) (z_3:XK):Prop
 | mk:∀ (x dx b d t g f:Addr) (ts gs:List Addr) (N:NetV),(vs=[.ref x])→(NetIn C H x dx b d t g f ts gs N)→(N.Ok)→(∀ (q:Addr) (ps:List (Addr×Addr)) (T:List (Nat×List Int)) (H':Hp),H q=none→Same H H'→H' q=some (.lst (ps.map fun p=>V.ref p.1))→Lns H' ps T→T.map Prod.fst=(List.range N.bowls.length).filter (fun k=>decide (k∉(clrI (gnP N.takes N.gives) N.bowls.length).2.map Prod.fst))→(∀ c∈T,WOk3 N.bowls.length (gnP N.takes N.gives) ((clrI (gnP N.takes N.gives) N.bowls.length).2.map Prod.fst) c.1 c.2∧∀ x∈c.2,x.natAbs<2^8998)→(∀ p∈ps,H p.2=none)→Q (.ref q) H')→sp_sums C K vs H Q z_3
inductive sp_weighed (K:PySem.W.Frag) (vs:List V) (H:Hp) (Q:VK) (z_3:XK):Prop
 | mk:∀ (a b:Addr) (xs ys:List Int),(vs=[.ref a,.ref b])→(SqL K H a (vints xs))→(SqL K H b (vints ys))→(xs.length=ys.length)→(xs.length≤70)→((∀ x∈xs,x.natAbs<2^8999))→((∀ y∈ys,y.natAbs<2^8999))→(∀ (H':Hp),Same H H'→Q (.int (wsum xs ys)) H')→sp_weighed K vs H Q z_3
inductive sp_scale_of (K:PySem.W.Frag) (vs:List V) (H:Hp) (Q:VK) (z_3:XK):Prop
 | mk:∀ (a:Addr) (ss:List (Addr×Addr×Addr)) (ps:List Nat) (X Y:Nat→List Int) (w s:Nat) (γ:Nat→Nat),(vs=[.ref a,.int (w:Int),.int (s:Int)])→(SqL K H a (ss.map fun t=>V.ref t.1))→(RgT H ss ps X Y)→(ss.length≤6)→(s<ps.length)→(w≤6)→((∀ p∈ps,(X p).length=w))→((∀ p∈ps,∀ x∈X p,x.natAbs<2^8999))→(RgI w s (fun k=>ps.getD k 0) (fun k=>fv (X (ps.getD k 0))) γ)→(lto γ (s+1)≤4000)→(∀ (q l:Addr) (wl:List Int) (pt:Int) (H':Hp),H q=none→H l=none→Same H H'→H' q=some (.tup [.ref l,.int pt])→H' l=some (.lst (vints wl))→wl.length=w→0<pt→(∀ x∈wl,x.natAbs<2^8999)→Bd 4001 pt→lsm w (fun k=>fv wl k*fv (X (ps.getD s 0)) k)=pt→(∀ j,j<s→lsm w (fun k=>fv wl k*fv (X (ps.getD j 0)) k)=0)→(∀ f:Vc,(∀ j,j≤s→f (ps.getD j 0)=0)→lsm w (fun k=>fv wl k*f k)=0)→Q (.ref q) H')→sp_scale_of K vs H Q z_3
inductive sp_scales (K:PySem.W.Frag) (vs:List V) (H:Hp) (Q:VK) (z_3:XK):Prop
 | mk:∀ (a:Addr) (ss:List (Addr×Addr×Addr)) (ps:List Nat) (X Y:Nat→List Int) (w:Nat) (γ:Nat→Nat),(vs=[.ref a,.int (w:Int)])→(SqL K H a (ss.map fun t=>V.ref t.1))→(RgT H ss ps X Y)→(ss.length≤6)→(w≤6)→((∀ p∈ps,(X p).length=w))→((∀ p∈ps,∀ x∈X p,x.natAbs<2^8999))→((∀ s,s<ps.length→RgI w s (fun k=>ps.getD k 0) (fun k=>fv (X (ps.getD k 0))) γ))→(lto γ ps.length≤4000)→(∀ (q:Addr) (cs:List (Addr×Addr)) (W:Nat→List Int) (pt:Nat→Int) (H':Hp),H q=none→Same H H'→H' q=some (.lst (cs.map fun c=>V.ref c.1))→ScT H' cs W pt→cs.length=ps.length→(∀ c∈cs,H c.1=none∧H c.2=none)→(∀ s,s<ps.length→ScOk w ps X s (W s) (pt s))→Q (.ref q) H')→sp_scales K vs H Q z_3
inductive sp_is_multiple (K:PySem.W.Frag) (vs:List V) (H:Hp) (Q:VK) (z_3:XK):Prop
 | mk:∀ (n p:Int),(vs=[.int n,.int p])→(0≤p)→(Q (.bl (mulP n p)) H)→sp_is_multiple K vs H Q z_3
abbrev sp_plus:PySem.W.Frag→Sp:=sp_zipd (fun i j=>i+j)
inductive sp_by_rungs (K:PySem.W.Frag) (vs:List V) (H:Hp) (Q:VK) (z_3:XK):Prop
 | mk:∀ (a c:Addr) (ss:List (Addr×Addr×Addr)) (ps:List Nat) (C:Nat→List Int) (R:List (List Int)) (v:List Int) (w b:Nat),(vs=[.ref a,.ref c,.int (R.length:Int)])→(H a=some (.lst (ss.map fun t=>V.ref t.1)))→(RgT H ss ps (fun p=>(C p).take w) (fun p=>(C p).drop w))→(LadL w R ps C)→(H c=some (.lst (vints v)))→(v.length=w)→(w≤6)→(R.length≤8)→((∀ r∈R,r.length=w))→((∀ r∈R,∀ x∈r,x.natAbs<2^b))→(1≤b)→((b+1)*2^w≤832)→((∀ x∈v,x.natAbs<2^150))→(NoSum w R (fv v))→((∀ (q l:Addr) (wl:List Int) (p:Int) (H':Hp),Same H H'→H' q=some (.tup [.str "sum",.ref l,.int p])→H' l=some (.lst (vints wl))→AccPart R w v wl p→Q (.ref q) H'))→(∀ (q l:Addr) (tl:List Int) (H':Hp),Same H H'→H' q=some (.tup [.str "tally",.ref l])→H' l=some (.lst (vints tl))→AccTal R w v tl→Q (.ref q) H')→sp_by_rungs K vs H Q z_3
inductive sp_without (K:PySem.W.Frag) (vs:List V) (H:Hp) (Q:VK) (z_3:XK):Prop
 | mk:∀ (a b:Addr) (xs ys:List Int) (p L:Nat),(vs=[.ref a,.ref b,.int (p:Int)])→(SqL K H a (vints xs))→(SqL K H b (vints ys))→(xs.length=L)→(ys.length=L)→(L≤70)→(p<L)→(fv ys p≠0)→(Bd 8999 (fv ys p))→(Bd 1040000 ((fv xs p).fdiv (fv ys p)))→((∀ y∈ys,Bd 1040000 y))→(∀ (q:Addr) (H':Hp),H q=none→Same H H'→H' q=some (.lst (vints (woL p xs ys)))→Q (.ref q) H')→sp_without K vs H Q z_3
inductive sp_shared_out (K:PySem.W.Frag) (vs:List V) (H:Hp) (Q:VK) (z_3:XK):Prop
 | mk:∀ (a b:Addr) (xs ys:List Int) (p L:Nat) (ζ:Nat→Nat),(vs=[.ref a,.ref b,.int (p:Int)])→(H a=some (.lst (vints xs)))→(H b=some (.lst (vints ys)))→(xs.length=L)→(ys.length=L)→(L≤70)→(p<L)→(fv xs p≠0)→(fv ys p≠0)→(Bd 992 (fv xs p))→(Bd 5102 (fv ys p))→((∀ k,ζ k≤1000000))→((∀ k,Bd (ζ k) (fv xs k)))→((∀ k,Bd (ζ k+5102) (fv ys k)))→(∀ (q c d:Addr) (us vs:List Int) (H':Hp),Same H H'→H' q=some (.tup [.ref c,.ref d])→H' c=some (.lst (vints us))→H' d=some (.lst (vints vs))→us.length=L→vs.length=L→Eu p (fv xs) (fv ys) (fv us) (fv vs)→Q (.ref q) H')→sp_shared_out K vs H Q z_3
inductive sp_put_row (K:PySem.W.Frag) (vs:List V) (H:Hp) (Q:VK) (z_3:XK):Prop
 | mk:∀ (d pr:Addr) (w n m:Nat) (Dl:List (Nat×Addr)) (C:Nat→List Int) (rs:List Int) (R:Nat→Vc) (ζ:Nat→Nat),(vs=[.ref d,.ref pr,.int (w:Int)])→(w≤6)→(n≤8)→(Rgs H d w (w+n) Dl C)→(H pr=some (.lst (vints rs)))→(rs.length=w+n)→(Put w R m ζ 0 (rgF Dl C) (fv rs))→((∀ k,ζ k≤1000000))→((∀ x∈Dl,rgF Dl C x.1 x.1≠0))→((∀ q,q<w→MkV w n R (rgF Dl C q)))→(MkV w n R (fv rs))→(∀ (H':Hp) (Dl':List (Nat×Addr)) (C':Nat→List Int),SmX d H H'→Rgs H' d w (w+n) Dl' C'→PutE w R (m+1) ζ (rgF Dl' C')→(∀ x∈Dl',rgF Dl' C' x.1 x.1≠0)→(∀ q,q<w→MkV w n R (rgF Dl' C' q))→Q .non H')→sp_put_row K vs H Q z_3
inductive sp_settle (K:PySem.W.Frag) (vs:List V) (H:Hp) (Q:VK) (z_3:XK):Prop
 | mk:∀ (d:Addr) (w n m:Nat) (Dl:List (Nat×Addr)) (C:Nat→List Int) (R:Nat→Vc) (ζ:Nat→Nat),(vs=[.ref d])→(w≤6)→(n≤8)→(Rgs H d w (w+n) Dl C)→(PutE w R m ζ (rgF Dl C))→(Tame w R m)→((∀ k,k<w→ζ k=2982))→((∀ k,ζ k≤900000))→((∀ x∈Dl,rgF Dl C x.1 x.1≠0))→((∀ q,q<w→MkV w n R (rgF Dl C q)))→(∀ (H':Hp) (Dl':List (Nat×Addr)) (C':Nat→List Int),SmX d H H'→Rgs H' d w (w+n) Dl' C'→Lad w R m (rgF Dl' C')→(∀ a,a<w→∀ k,Bd (ζ k+106959) (rgF Dl' C' a k))→(∀ x∈Dl',rgF Dl' C' x.1 x.1≠0)→(∀ q,q<w→MkV w n R (rgF Dl' C' q))→Q .non H')→sp_settle K vs H Q z_3
inductive sp_ladder (K:PySem.W.Frag) (vs:List V) (H:Hp) (Q:VK) (z_3:XK):Prop
 | mk:∀ (a:Addr) (as:List Addr) (R:List (List Int)) (w b:Nat),(vs=[.ref a,.int (w:Int)])→(H a=some (.lst (as.map V.ref)))→(Rows H as R)→((∀ r∈R,r.length=w))→(R.length≤8)→(w≤6)→((∀ r∈R,∀ x∈r,x.natAbs<2^b))→(1≤b)→(b≤137)→((b+1)*2^w≤1984)→(∀ (q:Addr) (ss:List (Addr×Addr×Addr)) (ps:List Nat) (C:Nat→List Int) (H':Hp),H q=none→Same H H'→H' q=some (.lst (ss.map fun s=>V.ref s.1))→Paired (fun (s:Addr×Addr×Addr) (p:Nat)=>H' s.1=some (.tup [.int (p:Int),.ref s.2.1,.ref s.2.2])∧H' s.2.1=some (.lst (vints ((C p).take w)))∧H' s.2.2=some (.lst (vints ((C p).drop w)))) ss ps→(∀ s∈ss,H s.1=none∧H s.2.1=none∧H s.2.2=none)→LadL w R ps C→Q (.ref q) H')→sp_ladder K vs H Q z_3
inductive sp_accounted (C G:Addr) (K:PySem.W.Frag) (vs:List V) (H:Hp) (Q:VK) (E:XK):Prop
 | mk:∀ (x dx b d t g f c:Addr) (ts gs:List Addr) (N:NetV) (bs:List Int) (bb:Nat),(vs=[.ref x,.ref c])→(NetIn C H x dx b d t g f ts gs N)→(N.Ok)→(H c=some (.lst (vints bs)))→(bs.length≤70)→((∀ y∈bs,y.natAbs<10^40))→(1≤bb)→(bb≤137)→((bb+1)*2^N.bowls.length≤832)→((∀ r∈gnP N.takes N.gives,∀ y∈r,y.natAbs<2^bb))→((bs.length=N.bowls.length→∀ (q l:Addr) (wl:List Int) (p:Int) (TT:List (Nat×List Int)) (H':Hp),Same H H'→H' q=some (.tup [.str "sum",.ref l,.int p])→H' l=some (.lst (vints wl))→SumsA N.bowls.length (gnP N.takes N.gives) TT→AccSum (gnP N.takes N.gives) N.bowls.length TT (sub bs N.first) wl p→Q (.ref q) H'))→((bs.length=N.bowls.length→∀ (q l:Addr) (tl:List Int) (H':Hp),Same H H'→H' q=some (.tup [.str "tally",.ref l])→H' l=some (.lst (vints tl))→AccTal (gnP N.takes N.gives) N.bowls.length (sub bs N.first) tl→Q (.ref q) H'))→((bs.length≠N.bowls.length→E (.ref G) none H))→sp_accounted C G K vs H Q E
inductive sp_law_whole (K:PySem.W.Frag) (vs:List V) (H:Hp) (Q:VK) (z_3:XK):Prop
 | mk:∀ (i:Int),(vs=[.int i])→(Q (.bl true) H)→sp_law_whole K vs H Q z_3
inductive sp_law_wholes (K:PySem.W.Frag) (vs:List V) (H:Hp) (Q:VK) (z_3:XK):Prop
 | mk:∀ (a:Addr) (r:List Int) (z:Nat),(vs=[.ref a,.int z])→(H a=some (.lst (vints r)))→(r.length=z)→(Q (.bl true) H)→sp_law_wholes K vs H Q z_3
inductive sp_law_is_nought (K:PySem.W.Frag) (vs:List V) (H:Hp) (Q:VK) (z_3:XK):Prop
 | mk:∀ (n p:Int),(vs=[.int n,.int p])→(0≤p)→(Q (.bl (mulP n p)) H)→sp_law_is_nought K vs H Q z_3
inductive sp_law_weigh (K:PySem.W.Frag) (vs:List V) (H:Hp) (Q:VK) (z_3:XK):Prop
 | mk:∀ (a b:Addr) (ws os:List Int),(vs=[.ref a,.ref b])→(SqL K H a (vints ws))→(SqL K H b (vints os))→(ws.length=os.length)→(os.length≤70)→((∀ x∈ws,x.natAbs<2^8999))→((∀ y∈os,y.natAbs<2^8999))→(∀ (H':Hp),Same H H'→Q (.int (dotW os.length ws os)) H')→sp_law_weigh K vs H Q z_3
inductive sp_law_sum_good (K:PySem.W.Frag) (vs:List V) (H:Hp) (Q:VK) (z_3:XK):Prop
 | mk:∀ (q l p pt pg pf pgp pd:Addr) (ts gs:List Addr) (z bb:Nat) (tk gv:List (List Int)) (fs v wl:List Int) (pp:Int) (pq:List (Addr×Addr)) (TT:List (Nat×List Int)),(vs=[.ref q,.ref p,.ref pgp,.ref pd])→(H q=some (.tup [.str "sum",.ref l,.int pp]))→(H l=some (.lst (vints wl)))→(PlanP H p pt pg pf ts gs tk gv fs)→(OkP z tk gv fs)→(H pgp=some (.lst (vints v)))→(v.length=z)→((∀ x∈v,x.natAbs<2^8999))→(H pd=some (.lst (pq.map fun p=>V.ref p.1)))→(Lns H pq TT)→(SumsA z (gnP tk gv) TT)→(AccSum (gnP tk gv) z TT v wl pp)→(∀ H',Same H H'→Q (.bl true) H')→sp_law_sum_good K vs H Q z_3
inductive sp_law_answer_good (K:PySem.W.Frag) (vs:List V) (H:Hp) (Q:VK) (z_3:XK):Prop
 | mk:∀ (q p pt pg pf pb pd:Addr) (ts gs:List Addr) (z:Nat) (tk gv:List (List Int)) (fs bs:List Int) (pq:List (Addr×Addr)) (TT:List (Nat×List Int)),(vs=[.ref q,.ref p,.ref pb,.ref pd])→(PlanP H p pt pg pf ts gs tk gv fs)→(OkP z tk gv fs)→(H pb=some (.lst (vints bs)))→(bs.length=z)→((∀ x∈bs,x.natAbs<10^40))→(H pd=some (.lst (pq.map fun p=>V.ref p.1)))→(Lns H pq TT)→(SumsA z (gnP tk gv) TT)→(AccIn H q (gnP tk gv) z TT (sub bs fs))→(∀ H',Same H H'→Q (.bl true) H')→sp_law_answer_good K vs H Q z_3
inductive sp_unmoved (C:Addr) (K:PySem.W.Frag) (vs:List V) (H:Hp) (Q:VK) (z_3:XK):Prop
 | mk:∀ (x dx b d t g f c:Addr) (ts gs:List Addr) (N:NetV) (ws:List Int) (p:Int),(vs=[.ref x,.ref c,.int p])→(NetIn C H x dx b d t g f ts gs N)→(N.Ok)→(SqL K H c (vints ws))→((∀ w∈ws,w.natAbs<2^8999))→(N.bowls.length=ws.length)→(0≤p)→(∀ (H':Hp),Same H H'→Q (.bl ((gnP N.takes N.gives).all fun r=>mulP (wsum ws r) p)) H')→sp_unmoved C K vs H Q z_3
inductive sp_tells_apart (C:Addr) (K:PySem.W.Frag) (vs:List V) (H:Hp) (Q:VK) (z_3:XK):Prop
 | mk:∀ (x dx b d t g f c e:Addr) (ts gs:List Addr) (N:NetV) (ws bs:List Int) (p:Int),(vs=[.ref x,.ref c,.int p,.ref e])→(NetIn C H x dx b d t g f ts gs N)→(N.Ok)→(SqL K H c (vints ws))→(SqL K H e (vints bs))→((∀ w∈ws,w.natAbs<2^8999))→((∀ y∈bs,y.natAbs<10^40))→(bs.length=N.bowls.length)→(N.bowls.length=ws.length)→(0≤p)→(∀ (H':Hp),Same H H'→Q (.bl (((gnP N.takes N.gives).all fun r=>mulP (wsum ws r) p)&&!mulP (wsum ws (sub bs N.first)) p)) H')→sp_tells_apart C K vs H Q z_3
inductive sp_law_refused (C:Addr) (K:PySem.W.Frag) (vs:List V) (H:Hp) (Q:VK) (z_3:XK):Prop
 | mk:∀ (x dx b d t g f c:Addr) (ts gs:List Addr) (N:NetV) (bs:List Int) (bb:Nat),(vs=[.ref x,.ref c])→(NetIn C H x dx b d t g f ts gs N)→(N.Ok)→(H c=some (.lst (vints bs)))→(bs.length≤70)→((∀ y∈bs,y.natAbs<10^40))→(1≤bb)→(bb≤137)→((bb+1)*2^N.bowls.length≤832)→((∀ r∈gnP N.takes N.gives,∀ y∈r,y.natAbs<2^bb))→(bs.length≠N.bowls.length)→(∀ H',Same H H'→Q (.bl true) H')→sp_law_refused C K vs H Q z_3
inductive sp_law (K:PySem.W.Frag) (vs:List V) (H:Hp) (Q:VK) (z_3:XK):Prop
 | mk:∀ (a:Addr) (ns:List Int),(vs=[.ref a])→(SqL K H a (vints ns))→(ns.length≤63)→(∀ H',Q (.bl true) H')→sp_law K vs H Q z_3
theorem kx1 (CX:CXT) (P:Program) (w:World) (K:PySem.W.Frag) (mg:Str→Option Value) (base:Heap) (N:List Str) (q:Str) (sc:Scope) (f:Addr) (cd:Value) (A:Around) (outer:List Env) (s:Shared) (H:Hp) (E:XK):(cxOf CX P w K mg base N q sc f cd A outer s H E).K=K:=rfl
theorem kx2 (X:Cx) (N:List Str) (sc:Scope) (B:Blk):(cxComp X N sc B).K=X.K:=rfl
theorem kx3 (X:Cx) (N:List Str) (sc:Scope) (B:Blk):(cxCompC X N sc B).K=X.K:=rfl
set_option genInjectivity false in
set_option genSizeOf false in
structure Adr where
 f_law_mixed:Addr
 f_law_number:Addr
 f_law_door:Addr
 f_law_net:Addr
 f_law_gains:Addr
 f_law_behind:Addr
 f_law_tally:Addr
 f_law_bag:Addr
 f_is_name:Addr
 f_refuse_bad_names:Addr
 f_refuse_bad_bags:Addr
 f_Net_init:Addr
 f_law_made:Addr
 f_unit:Addr
 f_with_makings:Addr
 f_place_of_first:Addr
 f_times:Addr
 f_upright:Addr
 f_common_divisor:Addr
 f_measure:Addr
 f_lowered:Addr
 f_refuse_unlike:Addr
 f_less:Addr
 f_freed:Addr
 f_cleared:Addr
 f_weighing:Addr
 f_weighings:Addr
 f_gain:Addr
 f_gains:Addr
 f_sums:Addr
 f_weighed:Addr
 f_scale_of:Addr
 f_scales:Addr
 f_is_multiple:Addr
 f_plus:Addr
 f_by_rungs:Addr
 f_without:Addr
 f_shared_out:Addr
 f_put_row:Addr
 f_settle:Addr
 f_ladder:Addr
 f_accounted:Addr
 f_law_whole:Addr
 f_law_wholes:Addr
 f_law_is_nought:Addr
 f_law_weigh:Addr
 f_law_sum_good:Addr
 f_law_answer_good:Addr
 f_unmoved:Addr
 f_tells_apart:Addr
 f_law_refused:Addr
 f_law:Addr
 C_Net:Addr
 C_HallError:Addr
 C_Unlike:Addr
set_option genInjectivity false in
set_option genSizeOf false in
structure Fds where
 d_law_mixed:FuncData
 d_law_number:FuncData
 d_law_door:FuncData
 d_law_net:FuncData
 d_law_gains:FuncData
 d_law_behind:FuncData
 d_law_tally:FuncData
 d_law_bag:FuncData
 d_is_name:FuncData
 d_refuse_bad_names:FuncData
 d_refuse_bad_bags:FuncData
 d_Net_init:FuncData
 d_law_made:FuncData
 d_unit:FuncData
 d_with_makings:FuncData
 d_place_of_first:FuncData
 d_times:FuncData
 d_upright:FuncData
 d_common_divisor:FuncData
 d_measure:FuncData
 d_lowered:FuncData
 d_refuse_unlike:FuncData
 d_less:FuncData
 d_freed:FuncData
 d_cleared:FuncData
 d_weighing:FuncData
 d_weighings:FuncData
 d_gain:FuncData
 d_gains:FuncData
 d_sums:FuncData
 d_weighed:FuncData
 d_scale_of:FuncData
 d_scales:FuncData
 d_is_multiple:FuncData
 d_plus:FuncData
 d_by_rungs:FuncData
 d_without:FuncData
 d_shared_out:FuncData
 d_put_row:FuncData
 d_settle:FuncData
 d_ladder:FuncData
 d_accounted:FuncData
 d_law_whole:FuncData
 d_law_wholes:FuncData
 d_law_is_nought:FuncData
 d_law_weigh:FuncData
 d_law_sum_good:FuncData
 d_law_answer_good:FuncData
 d_unmoved:FuncData
 d_tells_apart:FuncData
 d_law_refused:FuncData
 d_law:FuncData
structure Txt (K:PySem.W.Frag) (mg:Str→Option Value) (AR:Adr) (FR:Fds):Prop where
 u_law_mixed:Df K mg "_law_mixed" "_law_mixed" s_law_mixed AR.f_law_mixed FR.d_law_mixed ["script","k"]
 u_law_number:Df K mg "_law_number" "_law_number" s_law_number AR.f_law_number FR.d_law_number ["script","k","kind"]
 u_law_door:Df K mg "_law_door" "_law_door" s_law_door AR.f_law_door FR.d_law_door ["script","d","size","kind","ahead"]
 u_law_net:Df K mg "_law_net" "_law_net" s_law_net AR.f_law_net FR.d_law_net ["script"]
 u_law_gains:Df K mg "_law_gains" "_law_gains" s_law_gains AR.f_law_gains FR.d_law_gains ["parts"]
 u_law_behind:Df K mg "_law_behind" "_law_behind" s_law_behind AR.f_law_behind FR.d_law_behind ["parts","tally"]
 u_law_tally:Df K mg "_law_tally" "_law_tally" s_law_tally AR.f_law_tally FR.d_law_tally ["script","many"]
 u_law_bag:Df K mg "_law_bag" "_law_bag" s_law_bag AR.f_law_bag FR.d_law_bag ["script","parts"]
 u_is_name:Df K mg "is_name" "is_name" s_is_name AR.f_is_name FR.d_is_name ["word"]
 u_refuse_bad_names:Df K mg "refuse_bad_names" "refuse_bad_names" s_refuse_bad_names AR.f_refuse_bad_names FR.d_refuse_bad_names ["names","least","most"]
 u_refuse_bad_bags:Df K mg "refuse_bad_bags" "refuse_bad_bags" s_refuse_bad_bags AR.f_refuse_bad_bags FR.d_refuse_bad_bags ["bags","many","width"]
 F_Net_init:Fun K "__init__" "Net.__init__" s_Net_init AR.f_Net_init FR.d_Net_init
 b_Net_init:Binds K FR.d_Net_init ["self","bowls","doors","takes","gives","first"] []
 u_law_made:Df K mg "_law_made" "_law_made" s_law_made AR.f_law_made FR.d_law_made ["parts"]
 u_unit:Df K mg "unit" "unit" s_unit AR.f_unit FR.d_unit ["place","width"]
 u_with_makings:Df K mg "with_makings" "with_makings" s_with_makings AR.f_with_makings FR.d_with_makings ["rows"]
 u_place_of_first:Df K mg "place_of_first" "place_of_first" s_place_of_first AR.f_place_of_first FR.d_place_of_first ["rows","place"]
 u_times:Df K mg "times" "times" s_times AR.f_times FR.d_times ["many","ones"]
 u_upright:Df K mg "upright" "upright" s_upright AR.f_upright FR.d_upright ["row","place"]
 u_common_divisor:Df K mg "common_divisor" "common_divisor" s_common_divisor AR.f_common_divisor FR.d_common_divisor ["one","other"]
 u_measure:Df K mg "measure" "measure" s_measure AR.f_measure FR.d_measure ["ones"]
 u_lowered:Df K mg "lowered" "lowered" s_lowered AR.f_lowered FR.d_lowered ["ones"]
 u_refuse_unlike:Df K mg "refuse_unlike" "refuse_unlike" s_refuse_unlike AR.f_refuse_unlike FR.d_refuse_unlike ["ones","others"]
 u_less:Df K mg "less" "less" s_less AR.f_less FR.d_less ["ones","others"]
 u_freed:Df K mg "freed" "freed" s_freed AR.f_freed FR.d_freed ["row","line","place"]
 u_cleared:Df K mg "cleared" "cleared" s_cleared AR.f_cleared FR.d_cleared ["rows","width"]
 u_weighing:Df K mg "weighing" "weighing" s_weighing AR.f_weighing FR.d_weighing ["lines","width","place"]
 u_weighings:Df K mg "weighings" "weighings" s_weighings AR.f_weighings FR.d_weighings ["rows","width"]
 u_gain:Df K mg "gain" "gain" s_gain AR.f_gain FR.d_gain ["net","door"]
 u_gains:Df K mg "gains" "gains" s_gains AR.f_gains FR.d_gains ["net"]
 u_sums:Df K mg "sums" "sums" s_sums AR.f_sums FR.d_sums ["net"]
 u_weighed:Df K mg "weighed" "weighed" s_weighed AR.f_weighed FR.d_weighed ["weights","ones"]
 u_scale_of:Df K mg "scale_of" "scale_of" s_scale_of AR.f_scale_of FR.d_scale_of ["rungs","width","place"]
 u_scales:Df K mg "scales" "scales" s_scales AR.f_scales FR.d_scales ["rungs","width"]
 u_is_multiple:Df K mg "is_multiple" "is_multiple" s_is_multiple AR.f_is_multiple FR.d_is_multiple ["number","part"]
 u_plus:Df K mg "plus" "plus" s_plus AR.f_plus FR.d_plus ["ones","others"]
 u_by_rungs:Df K mg "by_rungs" "by_rungs" s_by_rungs AR.f_by_rungs FR.d_by_rungs ["rungs","changed","doors"]
 u_without:Df K mg "without" "without" s_without AR.f_without FR.d_without ["row","rung","place"]
 u_shared_out:Df K mg "shared_out" "shared_out" s_shared_out AR.f_shared_out FR.d_shared_out ["one","other","place"]
 u_put_row:Df K mg "put_row" "put_row" s_put_row AR.f_put_row FR.d_put_row ["rungs","row","width"]
 u_settle:Df K mg "settle" "settle" s_settle AR.f_settle FR.d_settle ["rungs"]
 u_ladder:Df K mg "ladder" "ladder" s_ladder AR.f_ladder FR.d_ladder ["rows","width"]
 u_accounted:Df K mg "accounted" "accounted" s_accounted AR.f_accounted FR.d_accounted ["net","bag"]
 u_law_whole:Df K mg "_law_whole" "_law_whole" s_law_whole AR.f_law_whole FR.d_law_whole ["found"]
 u_law_wholes:Df K mg "_law_wholes" "_law_wholes" s_law_wholes AR.f_law_wholes FR.d_law_wholes ["found","size"]
 u_law_is_nought:Df K mg "_law_is_nought" "_law_is_nought" s_law_is_nought AR.f_law_is_nought FR.d_law_is_nought ["number","part"]
 u_law_weigh:Df K mg "_law_weigh" "_law_weigh" s_law_weigh AR.f_law_weigh FR.d_law_weigh ["weights","ones"]
 u_law_sum_good:Df K mg "_law_sum_good" "_law_sum_good" s_law_sum_good AR.f_law_sum_good FR.d_law_sum_good ["found","parts","gap","told"]
 u_law_answer_good:Df K mg "_law_answer_good" "_law_answer_good" s_law_answer_good AR.f_law_answer_good FR.d_law_answer_good ["found","parts","bag","told"]
 u_unmoved:Df K mg "unmoved" "unmoved" s_unmoved AR.f_unmoved FR.d_unmoved ["net","weights","part"]
 u_tells_apart:Df K mg "tells_apart" "tells_apart" s_tells_apart AR.f_tells_apart FR.d_tells_apart ["net","weights","part","bag"]
 u_law_refused:Df K mg "_law_refused" "_law_refused" s_law_refused AR.f_law_refused FR.d_law_refused ["net","bag"]
 u_law:Df K mg "law" "law" s_law AR.f_law FR.d_law ["script"]
 z_len:mg "len" = none
 z_range:mg "range" = none
 z_min:mg "min" = none
 z_list:mg "list" = none
 z_all:mg "all" = none
 z_set:mg "set" = none
 z_enumerate:mg "enumerate" = none
 z_abs:mg "abs" = none
 z_zip:mg "zip" = none
 z_sum:mg "sum" = none
 z_reversed:mg "reversed" = none
 z_sorted:mg "sorted" = none
 z_isinstance:mg "isinstance" = none
 z_int:mg "int" = none
 z_bool:mg "bool" = none
 z_tuple:mg "tuple" = none
 z_str:mg "str" = none
 z_ValueError:mg "ValueError" = none
 cl_Net:Cls K AR.C_Net
 mC_Net:mg "Net" = some (.ref AR.C_Net)
 mk_Net:Mk K AR.C_Net AR.f_Net_init
 n_Net_bowls:NoAttr K AR.C_Net "bowls"
 n_Net_doors:NoAttr K AR.C_Net "doors"
 n_Net_takes:NoAttr K AR.C_Net "takes"
 n_Net_gives:NoAttr K AR.C_Net "gives"
 n_Net_first:NoAttr K AR.C_Net "first"
 mC_HallError:mg "HallError" = some (.ref AR.C_HallError)
 ec_HallError:ecIn K AR.C_HallError excMro=true
 xp_HallError:XPlain K AR.C_HallError excMro
 mC_Unlike:mg "Unlike" = some (.ref AR.C_Unlike)
 ec_Unlike:ecIn K AR.C_Unlike (.ref AR.C_HallError::excMro)=true
 xi_Unlike:XIs K AR.C_Unlike
 xp_Unlike:XPlain K AR.C_Unlike (.ref AR.C_HallError::excMro)
 c_MOST_SIGNS:∃ t,mg "MOST_SIGNS" = some (.int 8 t)
 c_MOST_BEADS:∃ t,mg "MOST_BEADS" = some (.int 1000000000 t)
 c_LEAST_BOWLS:∃ t,mg "LEAST_BOWLS" = some (.int 1 t)
 c_MOST_BOWLS:∃ t,mg "MOST_BOWLS" = some (.int 6 t)
 c_MOST_DOORS:∃ t,mg "MOST_DOORS" = some (.int 8 t)
section
variable {P:Program} {w:World} {K:PySem.W.Frag} {mg:Str→Option Value} {base:Heap} {AR:Adr} {FR:Fds}
theorem sc_law_mixed:FnScope ["script","k","cell"] ["script","k"] (defScope s_law_mixed):=⟨rfl,rfl,rfl,by decide +kernel,rfl,by decide +kernel,by decide +kernel⟩
set_option maxHeartbeats 4000000 in
theorem ok_law_mixed (T:Txt K mg AR FR):FnOk P w K mg base CX0 1 AR.f_law_mixed FR.d_law_mixed ["script","k"] (sp_law_mixed K):=by
 refine T.u_law_mixed.F.ok sc_law_mixed (fun vs H Q E h=>?_) (fun cdv A outer s H vs Q E hr h=>?_)
 ·obtain ⟨a,ns,k,rfl,hS,h63,k1,hQ⟩:=h
  rfl
 ·obtain ⟨a,ns,k,rfl,hS,h63,k1,hQ⟩:=h
  refine ⟨_,(pss_cons (ps_set (i:=2) sc_law_mixed.nd rfl (Or.inl rfl) pe_int)
   (pss_cons (ps_if (pt_cmpR op_gt (pe_callB call_len_seq (by rfl) T.z_len bt_len (pa_cons (pv 0) pa_nil)) pe_int (nomark _)) (pss_one (ps_set (i:=2) sc_law_mixed.nd rfl (Or.inl rfl) (pe_op op_mod (pe_ix ix_list (pv 0) (pe_op op_mod (pv 1) (pe_callB call_len_seq (by rfl) T.z_len bt_len (pa_cons (pv 0) pa_nil))) (fun _ _=>rfl)) pe_int))) pss_nil)
   (pss_one (ps_ret (pe_op op_mod (pe_op op_mul (pe_op op_add (pe_op op_add (pv 2) (pe_op op_mul pe_int (pv 1))) pe_int) (pe_op op_add pe_int (pe_op op_mul (pe_op op_mul pe_int (pv 1)) (pv 1)))) pe_int))))),?_⟩
  try dsimp only [kx1,kx2,kx3,Cx.nox,Cx.wish]
  have vl:(vints ns).length=ns.length:=ints_len ns
  try dsimp only [tNext]
  refine seq_join (fun σ' H'=>σ'=[some (.ref a),some (.int k),some (.int 0)]∧H=H') ?_ (fun N hN=>hN _ _ ⟨rfl,rfl⟩)
  rintro _ _ ⟨rfl,rfl⟩
  refine seq_join (fun σ' H'=>∃ c:Int,σ'=[some (.ref a),some (.int k),some (.int c)]∧H'=H∧0≤c∧c<2147483647) ?_ ?_
  ·rintro _ _ ⟨c,rfl,rfl,c0,c1⟩
   refine ⟨_,rfl,_,rfl,_,_,rfl,rfl,.inl ⟨by decide,by decide⟩,_,_,rfl,rfl,_,_,rfl,rfl,_,rfl,_,_,rfl,rfl,.inl ⟨by decide,by decide⟩,_,rfl,_,_,rfl,rfl,.inr ⟨by omega,by omega⟩,_,_,rfl,rfl,_,_,rfl,rfl,.inl ⟨by omega,by omega⟩,_,_,rfl,rfl,(by show (0:Int)<2147483647; decide),?_⟩
   exact hQ _ (Int.emod_nonneg _ (by decide)) (Int.emod_lt_of_pos _ (by decide))
  intro N hN
  refine ⟨_,rfl,a,_,rfl,.inl hS,_,_,rfl,rfl,_,rfl,?_⟩
  rw [vl]
  refine iteD (fun h=>?_) (fun _=>hN _ _ ⟨0,rfl,rfl,by decide,by decide⟩)
  have h:(0:Int)<ns.length:=h
  obtain ⟨i,hi⟩:=Int.eq_ofNat_of_zero_le (Int.emod_nonneg (k:Int) (show (ns.length:Int)≠0 by omega))
  have hi2:=Int.emod_lt_of_pos (k:Int) h
  have il:i<ns.length:=by omega
  refine ⟨_,rfl,_,rfl,_,rfl,a,_,rfl,.inl hS,_,_,rfl,rfl,by show (0:Int)<_; rw [vl]; exact h,?_⟩
  rw [vl]
  try dsimp only
  rw [hi]
  refine ⟨a,_,_,_,rfl,rfl,hS,at_zs il,_,_,rfl,rfl,(by show (0:Int)<2147483647; decide),hN _ _ ⟨_,rfl,rfl,Int.emod_nonneg _ (by decide),Int.emod_lt_of_pos _ (by decide)⟩⟩
theorem sc_law_number:FnScope ["script","k","kind","drawn"] ["script","k","kind"] (defScope s_law_number):=⟨rfl,rfl,rfl,by decide +kernel,rfl,by decide +kernel,by decide +kernel⟩
set_option maxHeartbeats 4000000 in
theorem ok_law_number (T:Txt K mg AR FR):FnOk P w K mg base CX0 2 AR.f_law_number FR.d_law_number ["script","k","kind"] (sp_law_number K):=by
 have G_law_mixed:FnOk P w K mg base CX0 1 AR.f_law_mixed FR.d_law_mixed _ (sp_law_mixed K):=ok_law_mixed T
 refine T.u_law_number.F.ok sc_law_number (fun vs H Q E h=>?_) (fun cdv A outer s H vs Q E hr h=>?_)
 ·obtain ⟨a,ns,k,kd,rfl,hS,h63,k1,hQ⟩:=h
  rfl
 ·obtain ⟨a,ns,k,kd,rfl,hS,h63,k1,hQ⟩:=h
  refine ⟨_,(pss_cons (ps_set (i:=3) sc_law_number.nd rfl (Or.inl rfl) (pe_call G_law_mixed (hr.mono (by decide)) (by rfl) T.u_law_mixed.m T.u_law_mixed.F.kp T.u_law_mixed.b .nil pass0 (pa_cons (pv 0) (pa_cons (pv 1) pa_nil))))
   (pss_cons (ps_if (pt_cmpR op_eq (pv 2) pe_int (nomark _)) (pss_one (ps_ret (pe_op op_mod (pv 3) pe_int))) pss_nil)
   (pss_cons (ps_if (pt_cmpR op_eq (pe_op op_mod (pv 3) pe_int) pe_int (nomark _)) (pss_one (ps_ret pe_int)) pss_nil)
   (pss_one (ps_ret (pe_op op_mod (pe_op op_fdiv (pv 3) pe_int) pe_int)))))),?_⟩
  try dsimp only [kx1,kx2,kx3,Cx.nox,Cx.wish]
  refine ⟨_,rfl,_,rfl,a,ns,k,rfl,hS,h63,k1,fun n n0 n1=>?_⟩
  refine ⟨_,rfl,rfl,_,rfl,?_⟩
  refine iteD (fun h=>?_) (fun h=>?_)
  ·have e:kd=2:=by injection h with h; omega
   have a1:0≤n%1000000001:=Int.emod_nonneg _ (by decide)
   have a2:n%1000000001<1000000001:=Int.emod_lt_of_pos _ (by decide)
   exact ⟨_,rfl,_,_,rfl,rfl,(by show (0:Int)<1000000001; decide),hQ _ ⟨a1,by omega,fun h=>absurd e h⟩⟩
  refine ⟨_,rfl,_,_,rfl,rfl,(by show (0:Int)<3; decide),rfl,_,rfl,?_⟩
  refine iteD (fun _=>hQ 0 ⟨by decide,by decide,fun _=>by decide⟩) (fun _=>?_)
  have a1:0≤n/3%4:=Int.emod_nonneg _ (by decide)
  have a2:n/3%4<4:=Int.emod_lt_of_pos _ (by decide)
  exact ⟨_,rfl,_,_,rfl,rfl,⟨by decide,by decide⟩,_,_,rfl,rfl,(by show (0:Int)<4; decide),hQ _ ⟨a1,by omega,fun _=>by omega⟩⟩
theorem sc_law_door:FnScope ["script","d","size","kind","ahead","take","give","part","turn","rest"] ["script","d","size","kind","ahead"] (defScope s_law_door):=⟨rfl,rfl,rfl,by decide +kernel,rfl,by decide +kernel,by decide +kernel⟩
set_option maxHeartbeats 4000000 in
theorem ok_law_door (T:Txt K mg AR FR):FnOk P w K mg base CX0 3 AR.f_law_door FR.d_law_door ["script","d","size","kind","ahead"] (sp_law_door K):=by
 have G_law_number:FnOk P w K mg base CX0 2 AR.f_law_number FR.d_law_number _ (sp_law_number K):=ok_law_number T
 have G_law_mixed:FnOk P w K mg base CX0 1 AR.f_law_mixed FR.d_law_mixed _ (sp_law_mixed K):=ok_law_mixed T
 refine T.u_law_door.F.ok sc_law_door (fun vs H Q E h=>?_) (fun cdv A outer s H vs Q E hr h=>?_)
 ·obtain ⟨a,pa,p0,p1,ns,t0,g0,d,z,kd,rfl,hS,h63,hd,z1,z6,hpa,hp0,hp1,hsm,hQ⟩:=h
  rfl
 ·obtain ⟨a,pa,p0,p1,ns,t0,g0,d,z,kd,rfl,hS,h63,hd,z1,z6,hpa,hp0,hp1,hsm,hQ⟩:=h
  refine ⟨_,(pss_cons (ps_set (i:=5) sc_law_door.nd rfl (Or.inr rfl) (pe_comp (N':=["b","script","d","kind"]) (nt:=1) (caps:=[0,1,3]) _ _ (CompScope.of (by kernel_rfl)) (pi_range1 (by rfl) T.z_range (pa_cons (pv 2) pa_nil)) (fun _=>(pg_nameC (i:=0) ["b","script","d","kind"] (by decide +kernel) (by rfl))) (fun _=>pts_nil) (fun _=>(pe_call G_law_number (hr.mono (by decide)) (by rfl) T.u_law_number.m T.u_law_number.F.kp T.u_law_number.b .nil pass0 (pa_cons (pv 1) (pa_cons (pe_op op_add (pe_op op_add pe_int (pe_op op_mul pe_int (pv 2))) (pv 0)) (pa_cons (pv 3) pa_nil)))))))
   (pss_cons (ps_set (i:=6) sc_law_door.nd rfl (Or.inr rfl) (pe_comp (N':=["b","script","d","kind"]) (nt:=1) (caps:=[0,1,3]) _ _ (CompScope.of (by kernel_rfl)) (pi_range1 (by rfl) T.z_range (pa_cons (pv 2) pa_nil)) (fun _=>(pg_nameC (i:=0) ["b","script","d","kind"] (by decide +kernel) (by rfl))) (fun _=>pts_nil) (fun _=>(pe_call G_law_number (hr.mono (by decide)) (by rfl) T.u_law_number.m T.u_law_number.F.kp T.u_law_number.b .nil pass0 (pa_cons (pv 1) (pa_cons (pe_op op_add (pe_op op_add pe_int (pe_op op_mul pe_int (pv 2))) (pv 0)) (pa_cons (pv 3) pa_nil)))))))
   (pss_cons (ps_set (i:=7) sc_law_door.nd rfl (Or.inr rfl) (pe_op op_add pe_int (pe_op op_mod (pe_op op_fdiv (pe_call G_law_mixed (hr.mono (by decide)) (by rfl) T.u_law_mixed.m T.u_law_mixed.F.kp T.u_law_mixed.b .nil pass0 (pa_cons (pv 0) (pa_cons pe_int pa_nil))) pe_int) pe_int)))
   (pss_cons (ps_if (PW.pt (pw_and (pt_cmpR op_eq (pv 3) pe_int (nomark _)) (pw_and1 (pt_cmpR op_eq (pe_op op_mod (pv 1) pe_int) pe_int (nomark _))))) (pss_one (ps_ret (pe_lst (pa_cons (pe_comp (N':=["one"]) (nt:=1) (caps:=[]) _ _ (CompScope.of (by kernel_rfl)) (pi_list (pe_ix ix_list (pv 4) pe_int (fun _ _=>rfl))) (fun _=>(pg_nameC (i:=0) ["one"] (by decide +kernel) (by rfl))) (fun _=>pts_nil) (fun _=>(pe_op op_mul pe_int (pv 0)))) (pa_cons (pe_comp (N':=["one"]) (nt:=1) (caps:=[]) _ _ (CompScope.of (by kernel_rfl)) (pi_list (pe_ix ix_list (pv 4) pe_int (fun _ _=>rfl))) (fun _=>(pg_nameC (i:=0) ["one"] (by decide +kernel) (by rfl))) (fun _=>pts_nil) (fun _=>(pe_op op_mul pe_int (pv 0)))) pa_nil))))) pss_nil)
   (pss_cons (ps_if (pt_cmpR op_eq (pv 3) pe_int (nomark _)) (pss_cons (ps_set (i:=8) sc_law_door.nd rfl (Or.inl rfl) (pe_op op_mod (pe_op op_add pe_int (pv 1)) (pv 2)))
   (pss_one (ps_ret (pe_lst (pa_cons (pv 5) (pa_cons (pe_op op_cat (pe_slice sl_list (pv 5) (po_some (pv 8)) po_none) (pe_slice sl_list (pv 5) po_none (po_some (pv 8)))) pa_nil)))))) pss_nil)
   (pss_cons (ps_if (pt_cmpR op_eq (pv 3) pe_int (nomark _)) (pss_cons (ps_set (i:=9) sc_law_door.nd rfl (Or.inr rfl) (pe_comp (N':=["b","script","part"]) (nt:=1) (caps:=[0,7]) _ _ (CompScope.of (by kernel_rfl)) (pi_range1 (by rfl) T.z_range (pa_cons (pv 2) pa_nil)) (fun _=>(pg_nameC (i:=0) ["b","script","part"] (by decide +kernel) (by rfl))) (fun _=>pts_nil) (fun _=>(pe_op op_mod (pe_call G_law_mixed (hr.mono (by decide)) (by rfl) T.u_law_mixed.m T.u_law_mixed.F.kp T.u_law_mixed.b .nil pass0 (pa_cons (pv 1) (pa_cons (pe_op op_add pe_int (pv 0)) pa_nil))) (pv 2)))))
   (pss_cons (ps_set (i:=5) sc_law_door.nd rfl (Or.inr rfl) (pe_comp (N':=["b","part","take","rest"]) (nt:=1) (caps:=[7,5,9]) _ _ (CompScope.of (by kernel_rfl)) (pi_range1 (by rfl) T.z_range (pa_cons (pv 2) pa_nil)) (fun _=>(pg_nameC (i:=0) ["b","part","take","rest"] (by decide +kernel) (by rfl))) (fun _=>pts_nil) (fun _=>(pe_op op_add (pe_op op_mul (pv 1) (pe_ix ix_list (pv 2) (pv 0) (fun _ _=>rfl))) (pe_ix ix_list (pv 3) (pv 0) (fun _ _=>rfl))))))
   (pss_one (ps_set (i:=6) sc_law_door.nd rfl (Or.inr rfl) (pe_comp (N':=["b","part","give","rest"]) (nt:=1) (caps:=[7,6,9]) _ _ (CompScope.of (by kernel_rfl)) (pi_range1 (by rfl) T.z_range (pa_cons (pv 2) pa_nil)) (fun _=>(pg_nameC (i:=0) ["b","part","give","rest"] (by decide +kernel) (by rfl))) (fun _=>pts_nil) (fun _=>(pe_op op_add (pe_op op_mul (pv 1) (pe_ix ix_list (pv 2) (pv 0) (fun _ _=>rfl))) (pe_ix ix_list (pv 3) (pv 0) (fun _ _=>rfl))))))))) pss_nil)
   (pss_one (ps_ret (pe_lst (pa_cons (pv 5) (pa_cons (pv 6) pa_nil))))))))))),?_⟩
  try dsimp only [kx1,kx2,kx3,Cx.nox,Cx.wish]
  have zr1 : -(2^62)≤(z:Int):=by omega
  have zr2:(z:Int)<2^62:=by omega
  have zs70:z<sizeLine:=small70 (by omega)
  refine ⟨_,rfl,_,rfl,zr1,zr2,?_⟩
  rw [Int.toNat_natCast]
  refine comp_ints (τ:=[some (.ref a),some (.int d),some (.int kd)]) (nbK kd) zs70 (fun B j H2 hj S2 Q' hq=>?_) ?_
  ·exact ⟨_,rfl,_,rfl,_,_,rfl,rfl,.inl ⟨by decide,by decide⟩,_,_,rfl,rfl,_,rfl,_,_,rfl,rfl,_,rfl,a,ns,4+12*d+j,kd,by rw [show ((4+12*d+j:Nat):Int)=4+12*(d:Int)+(0+(j:Int)) by omega]; rfl,S2.seq hS,h63,by omega,fun n hn=>hq n H2 hn (Same.refl _)⟩
  intro tk H2 S2 l0 b0 q0 nq0
  have T2:=S2.upd nq0 (o:=.lst (vints tk))
  have e0:=upd_same (H:=H2) (a:=q0) (o:=.lst (vints tk))
  generalize upd H2 q0 (.lst (vints tk))=H3 at T2 e0 ⊢
  refine ⟨_,rfl,_,rfl,zr1,zr2,?_⟩
  rw [Int.toNat_natCast]
  refine comp_ints (τ:=[some (.ref a),some (.int d),some (.int kd)]) (nbK kd) zs70 (fun B j H4 hj S4 Q' hq=>?_) ?_
  ·exact ⟨_,rfl,_,rfl,_,_,rfl,rfl,.inl ⟨by decide,by decide⟩,_,_,rfl,rfl,_,rfl,_,_,rfl,rfl,_,rfl,a,ns,10+12*d+j,kd,by rw [show ((10+12*d+j:Nat):Int)=10+12*(d:Int)+(0+(j:Int)) by omega]; rfl,(T2.trans S4).seq hS,h63,by omega,fun n hn=>hq n H4 hn (Same.refl _)⟩
  intro gv H4 S4 m0 c0 q1 nq1
  have T4:=S4.upd nq1 (o:=.lst (vints gv))
  have e1:=upd_same (H:=H4) (a:=q1) (o:=.lst (vints gv))
  have U4:=T2.trans T4
  have e0':=T4 _ _ e0
  generalize upd H4 q1 (.lst (vints gv))=H5 at T4 e1 U4 e0' ⊢
  clear T4 T2 S4 S2 e0 nq1 nq0
  have kt:okK kd z tk:=⟨l0,b0⟩
  have kg:okK kd z gv:=⟨m0,c0⟩
  refine ⟨_,rfl,a,ns,3,rfl,U4.seq hS,h63,by decide,fun c3 _ _=>?_⟩
  have a1:0≤c3/7%999:=Int.emod_nonneg _ (by decide)
  have a2:c3/7%999<999:=Int.emod_lt_of_pos _ (by decide)
  refine ⟨_,_,rfl,rfl,⟨by decide,by decide⟩,_,_,rfl,rfl,(by show (0:Int)<999; decide),_,_,rfl,rfl,?_⟩
  try dsimp only
  generalize epr:2+c3/7%999=pr
  have p1':2≤pr:=by omega
  have p2':pr≤1000:=by omega
  clear epr a1 a2
  refine seq_join (fun σ' H'=>σ'=[some (.ref a),some (.int d),some (.int z),some (.int kd),some (.ref pa),some (.ref q0),some (.ref q1),some (.int pr),none,none]∧H5=H'∧(kd=1→d%2=0)) ?_ ?_
  rotate_left
  ·intro N hN
   refine ⟨_,rfl,rfl,_,rfl,?_⟩
   refine iteD (fun hk1=>?_) (fun hk1=>hN _ _ ⟨rfl,rfl,fun e=>absurd (by rw [e]; rfl) hk1⟩)
   have hk1:kd=1:=by injection hk1 with h; omega
   refine ⟨_,rfl,_,_,rfl,rfl,(by show (0:Int)<2; decide),rfl,_,rfl,?_⟩
   refine iteD (fun hd1=>?_) (fun hd1=>hN _ _ ⟨rfl,rfl,fun _=>?_⟩)
   rotate_left
   ·have hd1:¬ ((d:Int)%2=1):=fun e=>hd1 (by show V.int ((d:Int)%2)=V.int 1; rw [e])
    omega
   have hd1:d%2=1:=by injection hd1 with h; omega
   obtain ⟨s0,s1⟩:=hsm hk1 hd1
   refine ⟨_,rfl,pa,_,_,_,rfl,rfl,U4.seq hpa,rfl,p1,rfl,⟨_,U4.seq hp1⟩,?_⟩
   refine comp_mapI (K:=K) (τ:=[]) (fun x=>2*x) (U4.seq hp1) (small70 (by rw [s1.1]; omega)) (fun B x H6 hx S6 Q'' hq2=>⟨_,rfl,_,_,rfl,rfl,.inl ⟨by decide,by decide⟩,hq2 _ (Same.refl _)⟩) fun H6 S6 q6 nq6=>?_
   have V6:=S6.upd nq6 (o:=.lst (vints (g0.map fun x=>2*x)))
   have e6:=upd_same (H:=H6) (a:=q6) (o:=.lst (vints (g0.map fun x=>2*x)))
   have U6:=U4.trans V6
   generalize upd H6 q6 (.lst (vints (g0.map fun x=>2*x)))=H7 at V6 e6 U6 ⊢
   refine ⟨_,rfl,pa,_,_,_,rfl,rfl,U6.seq hpa,rfl,p0,rfl,⟨_,U6.seq hp0⟩,?_⟩
   refine comp_mapI (K:=K) (τ:=[]) (fun x=>2*x) (U6.seq hp0) (small70 (by rw [s0.1]; omega)) (fun B x H8 hx S8 Q'' hq2=>⟨_,rfl,_,_,rfl,rfl,.inl ⟨by decide,by decide⟩,hq2 _ (Same.refl _)⟩) fun H8 S8 q8 nq8=>?_
   have V8:=S8.upd nq8 (o:=.lst (vints (t0.map fun x=>2*x)))
   have e8:=upd_same (H:=H8) (a:=q8) (o:=.lst (vints (t0.map fun x=>2*x)))
   have U8:=U6.trans V8
   have e6':=V8 _ _ e6
   generalize upd H8 q8 (.lst (vints (t0.map fun x=>2*x)))=H9 at V8 e8 U8 e6' ⊢
   refine ⟨by show 2≤sizeLine; decide,fun p np=>?_⟩
   have X:=(Same.refl H9).upd np (o:=.lst [V.ref q6,V.ref q8])
   exact hQ p q6 q8 _ _ _ (U8.free np) (U8.trans X) upd_same (X _ _ e6') (X _ _ e8) (okM_two s1) (okM_two s0) (fun _ h=>absurd hd1 (by omega))
  rintro _ _ ⟨rfl,rfl,hev⟩
  have sm:kd=1→d%2=0→okS z tk∧okS z gv:=fun h _=>⟨okS_of kt (by omega),okS_of kg (by omega)⟩
  refine seq_join (fun σ' H'=>σ'=[some (.ref a),some (.int d),some (.int z),some (.int kd),some (.ref pa),some (.ref q0),some (.ref q1),some (.int pr),none,none]∧H5=H') ?_ ?_
  rotate_left
  ·intro N hN
   refine ⟨_,rfl,rfl,_,rfl,?_⟩
   refine iteD (fun hk3=>?_) (fun _=>hN _ _ ⟨rfl,rfl⟩)
   have hk3:kd=3:=by injection hk3 with h; omega
   obtain ⟨tn,htn⟩:=Int.eq_ofNat_of_zero_le (Int.emod_nonneg (1+(d:Int)) (show (z:Int)≠0 by omega))
   refine ⟨_,rfl,_,_,rfl,rfl,_,rfl,_,_,rfl,rfl,(by show (0:Int)<z; omega),?_⟩
   try dsimp only
   rw [htn]
   refine ⟨_,rfl,_,rfl,_,rfl,_,rfl,q0,_,rfl,SqL.of e0',fun p1 np1=>?_⟩
   have U7:=(Same.refl H5).upd np1 (o:=.lst (cutV (vints tk) (some (tn:Int)) none))
   refine ⟨_,rfl,_,rfl,_,rfl,q0,_,rfl,SqL.of (U7 _ _ e0'),fun p2 np2=>?_⟩
   have U8:=U7.upd np2 (o:=.lst (cutV (vints tk) none (some (tn:Int))))
   have p12:p1≠p2:=ne_of_none upd_same np2
   have ll:=congrArg List.length (cut_turn tk tn)
   rw [List.length_append,ints_len,(okK_turn kt tn).1] at ll
   refine ⟨p1,p2,_,_,rfl,rfl,by rw [upd_ne p12,upd_same],upd_same,by omega,fun p3 np3=>?_⟩
   rw [cut_turn]
   have U9:=U8.upd np3 (o:=.lst (vints (tk.drop tn++tk.take tn)))
   refine ⟨by show 2≤sizeLine; decide,fun p np=>?_⟩
   have X:=U9.upd np (o:=.lst [V.ref q0,V.ref p3])
   refine hQ p q0 p3 tk _ _ ((U4.trans U9).free np) (U4.trans X) upd_same (X _ _ e0') ?_ (okM_K kt) (okM_K (okK_turn kt tn)) (fun h=>absurd h (by omega))
   rw [upd_ne (ne_of_none upd_same np),upd_same]
  rintro _ _ ⟨rfl,rfl⟩
  refine seq_join (fun σ' H'=>∃ (qt qg:Addr) (o:Option V) (t g:List Int),σ'=[some (.ref a),some (.int d),some (.int z),some (.int kd),some (.ref pa),some (.ref qt),some (.ref qg),some (.int pr),none,o]∧Same H H'∧H' qt=some (.lst (vints t))∧H' qg=some (.lst (vints g))∧okM kd z t∧okM kd z g∧(kd=1→d%2=0→okS z t∧okS z g)) ?_ ?_
  rotate_left
  ·intro N hN
   refine ⟨_,rfl,rfl,_,rfl,?_⟩
   refine iteD (fun hk4=>?_) (fun _=>hN _ _ ⟨q0,q1,none,tk,gv,rfl,U4,e0',e1,okM_K kt,okM_K kg,sm⟩)
   have hk4:kd=4:=by injection hk4 with h; omega
   have ts:=okS_of kt (by omega)
   have gs:=okS_of kg (by omega)
   refine ⟨_,rfl,_,rfl,zr1,zr2,?_⟩
   rw [Int.toNat_natCast]
   refine comp_ints (τ:=[some (.ref a),some (.int pr)]) (fun m=>0≤m∧m≤1000) zs70 (fun B j H6 hj S6 Q' hq=>?_) ?_
   ·refine ⟨_,rfl,_,rfl,_,_,rfl,rfl,a,ns,5+j,by rw [Int.zero_add]; rfl,(U4.trans S6).seq hS,h63,by omega,fun c _ _=>?_⟩
    have r1:0≤c%pr:=Int.emod_nonneg _ (by omega)
    have r2:c%pr<pr:=Int.emod_lt_of_pos _ (by omega)
    exact ⟨_,rfl,_,_,rfl,rfl,(by show (0:Int)<pr; omega),hq _ _ ⟨r1,by omega⟩ (Same.refl _)⟩
   intro rs H6 S6 rl rb q6 nq6
   have V6:=S6.upd nq6 (o:=.lst (vints rs))
   have e6:=upd_same (H:=H6) (a:=q6) (o:=.lst (vints rs))
   have U6:=U4.trans V6
   have f0:=V6 _ _ e0'
   have f1:=V6 _ _ e1
   generalize upd H6 q6 (.lst (vints rs))=H7 at V6 e6 U6 f0 f1 ⊢
   refine ⟨_,rfl,_,rfl,zr1,zr2,?_⟩
   rw [Int.toNat_natCast]
   refine comp_ints (τ:=[some (.int pr),some (.ref q0),some (.ref q6)]) (fun m=>0≤m∧m≤4000) zs70 (fun B j H8 hj S8 Q' hq=>?_) ?_
   ·have ht:=at_in (P:=fun x=>0≤x∧x≤3) ts.1 hj ts.2
    have hr':=at_in (P:=fun x=>0≤x∧x≤1000) rl hj rb
    exact ⟨_,rfl,_,rfl,_,rfl,q0,_,_,_,rfl,rfl,SqL.of (S8 _ _ f0),at_place ts.1 hj,_,_,rfl,rfl,.inl ⟨by omega,by omega⟩,_,rfl,_,rfl,q6,_,_,_,rfl,rfl,SqL.of (S8 _ _ e6),at_place rl hj,_,_,rfl,rfl,hq _ _ (part_four p1' p2' ht.1 ht.2 hr'.1 hr'.2) (Same.refl _)⟩
   intro t8 H8 S8 l8 b8 q8 nq8
   have V8:=S8.upd nq8 (o:=.lst (vints t8))
   have e8:=upd_same (H:=H8) (a:=q8) (o:=.lst (vints t8))
   have U8:=U6.trans V8
   have f1':=V8 _ _ f1
   have e6':=V8 _ _ e6
   generalize upd H8 q8 (.lst (vints t8))=H9 at V8 e8 U8 f1' e6' ⊢
   refine ⟨_,rfl,_,rfl,zr1,zr2,?_⟩
   rw [Int.toNat_natCast]
   refine comp_ints (τ:=[some (.int pr),some (.ref q1),some (.ref q6)]) (fun m=>0≤m∧m≤4000) zs70 (fun B j H10 hj S10 Q' hq=>?_) ?_
   ·have ht:=at_in (P:=fun x=>0≤x∧x≤3) gs.1 hj gs.2
    have hr':=at_in (P:=fun x=>0≤x∧x≤1000) rl hj rb
    exact ⟨_,rfl,_,rfl,_,rfl,q1,_,_,_,rfl,rfl,SqL.of (S10 _ _ f1'),at_place gs.1 hj,_,_,rfl,rfl,.inl ⟨by omega,by omega⟩,_,rfl,_,rfl,q6,_,_,_,rfl,rfl,SqL.of (S10 _ _ e6'),at_place rl hj,_,_,rfl,rfl,hq _ _ (part_four p1' p2' ht.1 ht.2 hr'.1 hr'.2) (Same.refl _)⟩
   intro g9 H10 S10 l9 b9 q9 nq9
   have V10:=S10.upd nq9 (o:=.lst (vints g9))
   exact hN _ _ ⟨q8,q9,_,t8,g9,rfl,U8.trans V10,V10 _ _ e8,upd_same,okM_of l8 b8,okM_of l9 b9,fun h=>absurd h (by omega)⟩
  rintro _ H6 ⟨qt,qg,o,t,g,rfl,S6,h1,h2,k1,k2,k3⟩
  refine ⟨_,rfl,_,rfl,by show 2≤sizeLine; decide,fun p np=>?_⟩
  have X:=(Same.refl H6).upd np (o:=.lst [V.ref qt,V.ref qg])
  exact hQ p qt qg t g _ (S6.free np) (S6.trans X) upd_same (X _ _ h1) (X _ _ h2) k1 k2 k3
theorem sc_law_net:FnScope ["script","size","many","kind","sides","d","ahead","first"] ["script"] (defScope s_law_net):=⟨rfl,rfl,rfl,by decide +kernel,rfl,by decide +kernel,by decide +kernel⟩
set_option maxHeartbeats 40000000 in
theorem ok_law_net (T:Txt K mg AR FR):FnOk P w K mg base CX0 4 AR.f_law_net FR.d_law_net ["script"] (sp_law_net K):=by
 have G_law_mixed:FnOk P w K mg base CX0 1 AR.f_law_mixed FR.d_law_mixed _ (sp_law_mixed K):=ok_law_mixed T
 have G_law_door:FnOk P w K mg base CX0 3 AR.f_law_door FR.d_law_door _ (sp_law_door K):=ok_law_door T
 have G_law_number:FnOk P w K mg base CX0 2 AR.f_law_number FR.d_law_number _ (sp_law_number K):=ok_law_number T
 refine T.u_law_net.F.ok sc_law_net (fun vs H Q E h=>?_) (fun cdv A outer s H vs Q E hr h=>?_)
 ·obtain ⟨a,ns,rfl,hS,h63,hQ⟩:=h
  rfl
 ·obtain ⟨a,ns,rfl,hS,h63,hQ⟩:=h
  refine ⟨_,(pss_cons (ps_set (i:=1) sc_law_net.nd rfl (Or.inl rfl) (pe_op op_add pe_int (pe_op op_mod (pe_call G_law_mixed (hr.mono (by decide)) (by rfl) T.u_law_mixed.m T.u_law_mixed.F.kp T.u_law_mixed.b .nil pass0 (pa_cons (pv 0) (pa_cons pe_int pa_nil))) pe_int)))
   (pss_cons (ps_set (i:=2) sc_law_net.nd rfl (Or.inl rfl) (pe_op op_mod (pe_op op_fdiv (pe_call G_law_mixed (hr.mono (by decide)) (by rfl) T.u_law_mixed.m T.u_law_mixed.F.kp T.u_law_mixed.b .nil pass0 (pa_cons (pv 0) (pa_cons pe_int pa_nil))) pe_int) pe_int))
   (pss_cons (ps_set (i:=3) sc_law_net.nd rfl (Or.inr rfl) (pe_op op_mod (pe_op op_fdiv (pe_call G_law_mixed (hr.mono (by decide)) (by rfl) T.u_law_mixed.m T.u_law_mixed.F.kp T.u_law_mixed.b .nil pass0 (pa_cons (pv 0) (pa_cons pe_int pa_nil))) pe_int) pe_int))
   (pss_cons (ps_if (pt_cmpR op_eq (pv 3) pe_int (nomark _)) (pss_cons (ps_set (i:=1) sc_law_net.nd rfl (Or.inl rfl) (pe_callB (call_min2 rfl) (by rfl) T.z_min bt_min (pa_cons (pv 1) (pa_cons pe_int pa_nil))))
   (pss_one (ps_set (i:=2) sc_law_net.nd rfl (Or.inl rfl) (pe_callB (call_min2 rfl) (by rfl) T.z_min bt_min (pa_cons (pv 2) (pa_cons pe_int pa_nil)))))) pss_nil)
   (pss_cons (ps_set (i:=4) sc_law_net.nd rfl (Or.inl rfl) (pe_lst pa_nil))
   (pss_cons (ps_for PassesOwn.never rfl (pi_range1 (by rfl) T.z_range (pa_cons (pv 2) pa_nil)) (pg_name (i:=5) sc_law_net.nd (by rfl) (Or.inl rfl))
   (pss_cons (ps_set (i:=6) sc_law_net.nd rfl (Or.inl rfl) (pe_lst (pa_cons (pe_lst pa_nil) (pa_cons (pe_lst pa_nil) pa_nil))))
   (pss_cons (ps_if (pt_cmpR op_gt (pv 5) pe_int (nomark _)) (pss_one (ps_set (i:=6) sc_law_net.nd rfl (Or.inl rfl) (pe_ix ix_list (pv 4) (pe_op op_sub (pv 5) pe_int) (fun _ _=>rfl)))) pss_nil)
   (pss_one (ps_expr (pe_bm PySem.F.plainAttrs_list PySem.F.slot_list_append PySem.F.type_list_append mt_append (pv 4) (pa_cons (pe_call G_law_door (hr.mono (by decide)) (by rfl) T.u_law_door.m T.u_law_door.F.kp T.u_law_door.b .nil pass0 (pa_cons (pv 0) (pa_cons (pv 5) (pa_cons (pv 1) (pa_cons (pv 3) (pa_cons (pv 6) pa_nil)))))) pa_nil)))))))
   (pss_cons (ps_setComp (i:=7) (N':=["b","script","kind"]) (nt:=1) (caps:=[0,3]) _ _ (CompScope.of (by kernel_rfl)) sc_law_net.nd rfl rfl (pi_range1 (by rfl) T.z_range (pa_cons (pv 1) pa_nil)) (fun _=>(pg_nameC (i:=0) ["b","script","kind"] (by decide +kernel) (by rfl))) (fun _=>pts_nil) (fun _=>(pe_call G_law_number (hr.mono (by decide)) (by rfl) T.u_law_number.m T.u_law_number.F.kp T.u_law_number.b .nil pass0 (pa_cons (pv 1) (pa_cons (pe_op op_add pe_int (pv 0)) (pa_cons (pv 2) pa_nil))))))
   (pss_one (ps_ret (pe_lst (pa_cons (pe_comp (N':=["side"]) (nt:=1) (caps:=[]) _ _ (CompScope.of (by kernel_rfl)) (pi_list (pv 4)) (fun _=>(pg_nameC (i:=0) ["side"] (by decide +kernel) (by rfl))) (fun _=>pts_nil) (fun _=>(pe_ix ix_list (pv 0) pe_int (fun _ _=>rfl)))) (pa_cons (pe_comp (N':=["side"]) (nt:=1) (caps:=[]) _ _ (CompScope.of (by kernel_rfl)) (pi_list (pv 4)) (fun _=>(pg_nameC (i:=0) ["side"] (by decide +kernel) (by rfl))) (fun _=>pts_nil) (fun _=>(pe_ix ix_list (pv 0) pe_int (fun _ _=>rfl)))) (pa_cons (pv 7) pa_nil))))))))))))),?_⟩
  try dsimp only [kx1,kx2,kx3,Cx.nox,Cx.wish]
  refine ⟨_,rfl,a,ns,0,rfl,hS,h63,by decide,fun c0 _ _=>?_⟩
  refine ⟨_,_,rfl,rfl,(by show (0:Int)<6; decide),_,_,rfl,rfl,?_⟩
  obtain ⟨z0,ez,z1,z6⟩:=size6 c0
  try dsimp only
  rw [ez]
  refine ⟨_,rfl,a,ns,1,rfl,hS,h63,by decide,fun c1 _ _=>?_⟩
  obtain ⟨d0,ed,d8⟩:=size9 (c1/5)
  refine ⟨_,_,rfl,rfl,⟨by decide,by decide⟩,_,_,rfl,rfl,(by show (0:Int)<9; decide),?_⟩
  try dsimp only
  rw [ed]
  refine ⟨_,rfl,a,ns,2,rfl,hS,h63,by decide,fun c2 _ _=>?_⟩
  obtain ⟨kd,ek⟩:=Int.eq_ofNat_of_zero_le (Int.emod_nonneg (c2/3) (show (5:Int)≠0 by decide))
  refine ⟨_,_,rfl,rfl,⟨by decide,by decide⟩,_,_,rfl,rfl,(by show (0:Int)<5; decide),?_⟩
  try dsimp only
  rw [ek]
  refine seq_join (fun σ' H'=>∃ (z dn:Nat),σ'=[some (.ref a),some (.int z),some (.int dn),some (.int kd),none,none,none,none]∧H=H'∧1≤z∧z≤6∧dn≤8∧(kd=2→z≤4∧dn≤4)) ?_ ?_
  rotate_left
  ·intro N hN
   refine ⟨_,rfl,rfl,_,rfl,?_⟩
   refine iteD (fun h=>?_) (fun h=>hN _ _ ⟨z0,d0,rfl,rfl,z1,z6,d8,fun e=>absurd (by rw [e]; rfl) h⟩)
   obtain ⟨z,e1,h1,h2⟩:∃ z:Nat,(if (4:Int)<(z0:Int) then 4 else (z0:Int))=(z:Int)∧1≤z∧z≤4:=by
    split
    ·exact ⟨4,rfl,by decide,by decide⟩
    ·exact ⟨z0,rfl,z1,by omega⟩
   obtain ⟨dn,e2,h3⟩:∃ z:Nat,(if (4:Int)<(d0:Int) then 4 else (d0:Int))=(z:Int)∧z≤4:=by
    split
    ·exact ⟨4,rfl,by decide⟩
    ·exact ⟨d0,rfl,by omega⟩
   refine ⟨_,rfl,_,_,rfl,?_⟩
   rw [e1]
   refine ⟨_,rfl,_,_,rfl,?_⟩
   rw [e2]
   exact hN _ _ ⟨z,dn,rfl,rfl,h1,by omega,by omega,fun _=>⟨h2,h3⟩⟩
  clear ez ed ek z1 z6 d8
  rintro _ _ ⟨z,dn,rfl,rfl,z1,z6,d8,zfew⟩
  refine ⟨by decide,fun ps nps=>?_⟩
  have U0:=(Same.refl H).upd nps (o:=.lst [])
  have e0:=upd_same (H:=H) (a:=ps) (o:=.lst [])
  generalize upd H ps (.lst [])=H0 at U0 e0 ⊢
  refine ⟨_,rfl,_,rfl,by omega,by omega,?_⟩
  rw [Int.toNat_natCast]
  refine for_range (n:=_) (fun i σ H2=>∃ (o5 o6:Option V) (ss:List Addr) (tk gv:List (List Int)),σ=[some (.ref a),some (.int z),some (.int dn),some (.int kd),some (.ref ps),o5,o6,none]∧Same H H2∧H2 ps=some (.lst (ss.map V.ref))∧Sides (era H2 ps) ss tk gv∧tk.length=i∧(∀ r∈tk,okM kd z r)∧(∀ r∈gv,okM kd z r)∧(kd=1→∀ j,j<i→j%2=0→okS z (tk.getD j [])∧okS z (gv.getD j [])))
   ⟨none,none,[],[],[],rfl,U0,e0,.nil,rfl,(fun r hr=>nomatch hr),(fun r hr=>nomatch hr),fun _ j h=>absurd h (Nat.not_lt_zero _)⟩ ?_ ?_
  ·rintro i σ H2 hi ⟨o5,o6,ss,tk,gv,rfl,S2,hps,R,tl,okt,okg,sm⟩
   have hi:i<dn:=hi
   have sl:=R.lenT
   have gl:=R.lenG
   refine ⟨by show 0≤sizeLine; decide,fun l1 n1=>?_⟩
   have U1:=(Same.refl H2).upd n1 (o:=.lst [])
   refine ⟨by show 0≤sizeLine; decide,fun l2 n2=>?_⟩
   have U2:=U1.upd n2 (o:=.lst [])
   have h12:l1≠l2:=ne_of_none upd_same n2
   have h1:upd (upd H2 l1 (.lst [])) l2 (.lst []) l1=some (.lst (vints [])):=by rw [upd_ne h12,upd_same]; rfl
   have h2:upd (upd H2 l1 (.lst [])) l2 (.lst []) l2=some (.lst (vints [])):=by rw [upd_same]; rfl
   generalize upd (upd H2 l1 (.lst [])) l2 (.lst [])=H3 at U2 h1 h2 ⊢
   refine ⟨by show 2≤sizeLine; decide,fun l3 n3=>?_⟩
   have U3:=U2.upd n3 (o:=.lst [V.ref l1,V.ref l2])
   have h3:=upd_same (H:=H3) (a:=l3) (o:=.lst [V.ref l1,V.ref l2])
   have V3:=(Same.refl H3).upd n3 (o:=.lst [V.ref l1,V.ref l2])
   have h1':=V3 _ _ h1
   have h2':=V3 _ _ h2
   generalize upd H3 l3 (.lst [V.ref l1,V.ref l2])=H4 at U3 V3 h3 h1' h2' ⊢
   clear V3 h1 h2 h12 U1 U2 n1 n2 n3
   try dsimp only [tNext]
   refine seq_join (fun σ' H'=>∃ (pa p0 p1:Addr) (t0 g0:List Int),σ'=[some (.ref a),some (.int z),some (.int dn),some (.int kd),some (.ref ps),some (.int (0+(i:Int))),some (.ref pa),none]∧H4=H'∧H4 pa=some (.lst [.ref p0,.ref p1])∧H4 p0=some (.lst (vints t0))∧H4 p1=some (.lst (vints g0))∧(kd=1→i%2=1→okS z t0∧okS z g0)) ?_ ?_
   rotate_left
   ·intro N hN
    refine ⟨_,rfl,_,_,rfl,rfl,_,rfl,?_⟩
    refine iteD (fun h=>?_) (fun h=>hN _ _ ⟨l3,l1,l2,[],[],rfl,rfl,h3,h1',h2',fun _ h1=>by omega⟩)
    obtain ⟨j,rfl⟩:∃ j,i=j+1:=⟨i-1,by omega⟩
    obtain ⟨s,p0,p1,es,k1,k2,k3⟩:=R.at (i:=j) (by omega)
    have S4:=(era_same H2 ps).trans U3
    refine ⟨_,rfl,_,rfl,_,_,rfl,rfl,ps,_,_,_,rfl,rfl,SqL.of (U3 _ _ hps),?_,hN _ _ ⟨s,p0,p1,_,_,rfl,rfl,S4 _ _ k1,S4 _ _ k2,S4 _ _ k3,fun hk h1=>sm hk j (by omega) (by omega)⟩⟩
    rw [show (0:Int)+((j+1:Nat):Int)-1=(j:Int) by omega]
    exact es
   rintro _ _ ⟨pa,p0,p1,t0,g0,rfl,rfl,hpa,hp0,hp1,hsm⟩
   refine ⟨_,rfl,.inl ⟨rfl,_,SqL.of (U3 _ _ hps)⟩,_,rfl,_,rfl,_,rfl,_,rfl,_,rfl,a,pa,p0,p1,ns,t0,g0,i,z,kd,by rw [Int.zero_add]; rfl,(S2.trans U3).seq hS,h63,by omega,z1,z6,SqL.of hpa,SqL.of hp0,SqL.of hp1,hsm,fun p pt pg t g H5 np S5 hp ht hg k1 k2 k3=>?_⟩
   have hps5:=S5 _ _ (U3 _ _ hps)
   have S25:=U3.trans S5
   refine ⟨ps,_,_,rfl,rfl,hps5,by rw [List.length_map]; exact small70 (by omega),?_⟩
   refine ⟨_,_,ss++[p],tk++[t],gv++[g],rfl,(S2.trans S25).upd' nps,by rw [upd_same,vrefs_snoc],?_,by rw [List.length_append,tl]; rfl,fun r hr=>?_,fun r hr=>?_,fun hk j hj h0=>?_⟩
   ·rw [era_upd]
    refine (R.same (era_mono S25 ps)).snoc (era_at (fun e=>?_) hp) (era_at (ints_ne_refs ht hps5 (by rw [k1.1.1]; exact z1)) ht) (era_at (ints_ne_refs hg hps5 (by rw [k2.1.1]; exact z1)) hg)
    rw [e,U3 _ _ hps] at np
    cases np
   ·rcases List.mem_append.mp hr with w | w
    ·exact okt r w
    ·rw [List.mem_singleton.mp w]; exact k1
   ·rcases List.mem_append.mp hr with w | w
    ·exact okg r w
    ·rw [List.mem_singleton.mp w]; exact k2
   ·rw [List.getD_eq_getElem?_getD,List.getD_eq_getElem?_getD]
    by_cases hji:j<i
    ·rw [List.getElem?_append_left (by omega),List.getElem?_append_left (by omega),← List.getD_eq_getElem?_getD,← List.getD_eq_getElem?_getD]
     exact sm hk j hji h0
    ·have e:j=i:=by omega
     rw [List.getElem?_append_right (by omega),List.getElem?_append_right (by omega),show j-tk.length=0 by omega,show j-gv.length=0 by omega]
     exact k3 hk (by omega)
  rintro σ H2 ⟨o5,o6,ss,tk,gv,rfl,S2,hps,R0,tl,okt,okg,_⟩
  have R:=R0.same (era_same H2 ps)
  have sl:=R.lenT
  have gl:=R.lenG
  refine ⟨_,rfl,_,rfl,by omega,by omega,?_⟩
  rw [Int.toNat_natCast]
  refine comp_ints (τ:=[some (.ref a),some (.int kd)]) (nbK kd) (small70 (by omega)) (fun B j H3 hj S3 Q' hq=>?_) ?_
  ·exact ⟨_,rfl,_,rfl,_,_,rfl,rfl,_,rfl,a,ns,100+j,kd,by rw [Int.zero_add]; rfl,(S2.trans S3).seq hS,h63,by omega,fun n hn=>hq n H3 hn (Same.refl _)⟩
  intro fs H3 S3 fl fb pf npf
  have V3:=S3.upd npf (o:=.lst (vints fs))
  have hf3:=upd_same (H:=H3) (a:=pf) (o:=.lst (vints fs))
  generalize upd H3 pf (.lst (vints fs))=H4 at V3 hf3 ⊢
  have U4:=S2.trans V3
  have R4:=R.same V3
  have hps4:=V3 _ _ hps
  refine ⟨_,rfl,ps,rfl,⟨_,SqL.of hps4⟩,?_⟩
  refine comp_side (K:=K) (τ:=[]) (rs:=tk) (SqL.of hps4) (small70 (by omega)) sl.symm (fun B i s hs Q' hq=>?_) fun ts Rt pt npt=>?_
  ·obtain ⟨x,y,k1,k2,k3⟩:=R4.get hs
   exact ⟨_,rfl,s,_,_,_,rfl,rfl,SqL.of k1,rfl,hq x k2⟩
  have V5:=(Same.refl H4).upd npt (o:=.lst (ts.map V.ref))
  have ht5:=upd_same (H:=H4) (a:=pt) (o:=.lst (ts.map V.ref))
  generalize upd H4 pt (.lst (ts.map V.ref))=H5 at V5 ht5 ⊢
  have R5:=R4.same V5
  have hps5:=V5 _ _ hps4
  refine ⟨_,rfl,ps,rfl,⟨_,SqL.of hps5⟩,?_⟩
  refine comp_side (K:=K) (τ:=[]) (rs:=gv) (SqL.of hps5) (small70 (by omega)) (by omega) (fun B i s hs Q' hq=>?_) fun gs Rg pg npg=>?_
  ·obtain ⟨x,y,k1,k2,k3⟩:=R5.get hs
   exact ⟨_,rfl,s,_,_,_,rfl,rfl,SqL.of k1,rfl,hq y k3⟩
  have V6:=(Same.refl H5).upd npg (o:=.lst (gs.map V.ref))
  have hg6:=upd_same (H:=H5) (a:=pg) (o:=.lst (gs.map V.ref))
  generalize upd H5 pg (.lst (gs.map V.ref))=H6 at V6 hg6 ⊢
  refine ⟨_,rfl,by show 3≤sizeLine; decide,fun p np=>?_⟩
  have X:=(Same.refl H6).upd np (o:=.lst [V.ref pt,V.ref pg,V.ref pf])
  have W6:=V6.trans X
  have W5:=V5.trans W6
  have UU:=U4.trans (V5.trans V6)
  have fw:FewP z tk gv:=by
   by_cases e:kd=2
   ·obtain ⟨f1,f2⟩:=zfew e
    exact .inl ⟨f1,by omega⟩
   ·exact .inr ⟨fun r hr=>(okt r hr).2 e,fun r hr=>(okg r hr).2 e⟩
  exact hQ p pt pg pf ts gs z tk gv fs _ (UU.free np) (UU.trans X) ⟨upd_same,W6 _ _ ht5,Rt.same W5,X _ _ hg6,Rg.same W6,W5 _ _ hf3⟩ ⟨z1,z6,by omega,by omega,fun r hr=>(okt r hr).1,fun r hr=>(okg r hr).1,⟨fl,fun x hx=>⟨(fb x hx).1,(fb x hx).2.1⟩⟩⟩ fw
theorem sc_law_gains:FnScope ["parts","size"] ["parts"] (defScope s_law_gains):=⟨rfl,rfl,rfl,by decide +kernel,rfl,by decide +kernel,by decide +kernel⟩
set_option maxHeartbeats 4000000 in
theorem ok_law_gains (T:Txt K mg AR FR):FnOk P w K mg base CX0 1 AR.f_law_gains FR.d_law_gains ["parts"] (sp_law_gains K):=by
 refine T.u_law_gains.F.ok sc_law_gains (fun vs H Q E h=>?_) (fun cdv A outer s H vs Q E hr h=>?_)
 ·obtain ⟨p,pt,pg,pf,ts,gs,z,tk,gv,fs,rfl,P,o,hQ⟩:=h
  rfl
 ·obtain ⟨p,pt,pg,pf,ts,gs,z,tk,gv,fs,rfl,P,o,hQ⟩:=h
  refine ⟨_,(pss_cons (ps_set (i:=1) sc_law_gains.nd rfl (Or.inr rfl) (pe_callB call_len_seq (by rfl) T.z_len bt_len (pa_cons (pe_ix ix_list (pv 0) pe_int (fun _ _=>rfl)) pa_nil)))
   (pss_one (ps_ret (pe_compC (N':=["d","size","parts"]) (nt:=1) (caps:=[1,0]) _ _ (CompScopeC.of (by kernel_rfl)) (pi_range1 (by rfl) T.z_range (pa_cons (pe_callB call_len_seq (by rfl) T.z_len bt_len (pa_cons (pe_ix ix_list (pv 0) pe_int (fun _ _=>rfl)) pa_nil)) pa_nil)) (fun _=>(pg_nameK (i:=0) ["d","size","parts"] (by decide +kernel) (by rfl))) (fun _=>pts_nil) (fun _=>(pe_comp (N':=["b","parts","d"]) (nt:=1) (caps:=[2,0]) _ _ (CompScope.of (by kernel_rfl)) (pi_range1 (by rfl) T.z_range (pa_cons (pv 1) pa_nil)) (fun _=>(pg_nameC (i:=0) ["b","parts","d"] (by decide +kernel) (by rfl))) (fun _=>pts_nil) (fun _=>(pe_op op_sub (pe_ix ix_list (pe_ix ix_list (pe_ix ix_list (pv 1) pe_int (fun _ _=>rfl)) (pv 2) (fun _ _=>rfl)) (pv 0) (fun _ _=>rfl)) (pe_ix ix_list (pe_ix ix_list (pe_ix ix_list (pv 1) pe_int (fun _ _=>rfl)) (pv 2) (fun _ _=>rfl)) (pv 0) (fun _ _=>rfl)))))))))),?_⟩
  try dsimp only [kx1,kx2,kx3,Cx.nox,Cx.wish]
  have z6:=o.z6
  have t8:=o.t8
  have gl:=o.gl
  have fl:=o.fs.1
  have vf:(vints fs).length=fs.length:=ints_len fs
  have tl:(ts.map V.ref).length=tk.length:=by rw [List.length_map,P.tr.length]
  refine ⟨_,rfl,p,_,_,_,rfl,rfl,SqL.of P.top,rfl,pf,_,rfl,.inl (SqL.of P.hf),?_⟩
  rw [vf,fl]
  refine ⟨_,rfl,p,_,_,_,rfl,rfl,SqL.of P.top,rfl,pt,_,rfl,.inl (SqL.of P.ht),_,rfl,by rw [tl]; omega,by rw [tl]; omega,?_⟩
  rw [tl,Int.toNat_natCast]
  refine comp_rowsAt (τ:=[some (.int z),some (.ref p)]) (fun d=>sub (gv.getD d []) (tk.getD d [])) (small70 (by omega)) (fun B d H2 hd S2 Q' hq=>?_) ?_
  ·have P2:=P.same S2
   have hg:d<gv.length:=by omega
   obtain ⟨qt,et,ft⟩:=rows_at P2.tr hd
   obtain ⟨qg,eg,fg⟩:=rows_at P2.gr hg
   have zt:=(o.tk _ (List.getElem_mem hd)).1
   have zg:=(o.gv _ (List.getElem_mem hg)).1
   refine ⟨_,rfl,_,rfl,by omega,by omega,?_⟩
   rw [Int.toNat_natCast]
   refine comp_at (τ:=[some (.ref p),some (.int (0+(d:Int)))]) (fun b=>gv[d].getD b 0-tk[d].getD b 0) (small70 (by omega)) (fun B b H3 hb S3 Q'' hq2=>?_) fun H3 S3 p3 np3=>?_
   ·have P3:=P2.same S3
    exact ⟨_,rfl,p,_,_,_,rfl,rfl,SqL.of P3.top,rfl,_,rfl,pg,_,_,_,rfl,rfl,SqL.of P3.hg,by rw [Int.zero_add]; exact eg,_,rfl,qg,_,_,_,rfl,rfl,SqL.of (S3 _ _ fg),at_place zg hb,_,rfl,p,_,_,_,rfl,rfl,SqL.of P3.top,rfl,_,rfl,pt,_,_,_,rfl,rfl,SqL.of P3.ht,by rw [Int.zero_add]; exact et,_,rfl,qt,_,_,_,rfl,rfl,SqL.of (S3 _ _ ft),at_place zt hb,_,_,rfl,rfl,hq2 _ (Same.refl _)⟩
   ·refine hq p3 _ (S3.free np3) (S3.upd np3) ?_
    rw [upd_same,getDr hd,getDr hg]
    congr 3
    refine ext_at (z:=z) (by simp) (sub_len zg zt) fun k hk=>?_
    rw [sub_at zg zt hk,List.getD_eq_getElem?_getD,List.getElem?_map,List.getElem?_range hk]
    rfl
  ·intro as H2 S2 R2 _ q nq
   exact hQ q as _ (S2.free nq) (S2.upd nq) upd_same (R2.same ((Same.refl H2).upd nq))
theorem sc_law_behind:FnScope ["parts","tally","bag","rows","d"] ["parts","tally"] (defScope s_law_behind):=⟨rfl,rfl,rfl,by decide +kernel,rfl,by decide +kernel,by decide +kernel⟩
set_option maxHeartbeats 4000000 in
theorem ok_law_behind (T:Txt K mg AR FR):FnOk P w K mg base CX0 2 AR.f_law_behind FR.d_law_behind ["parts","tally"] (sp_law_behind K):=by
 have G_law_gains:FnOk P w K mg base CX0 1 AR.f_law_gains FR.d_law_gains _ (sp_law_gains K):=ok_law_gains T
 refine T.u_law_behind.F.ok sc_law_behind (fun vs H Q E h=>?_) (fun cdv A outer s H vs Q E hr h=>?_)
 ·obtain ⟨p,pt,pg,pf,c,ts,gs,z,tk,gv,fs,ms,rfl,P,o,hc,ml,mb,hQ⟩:=h
  rfl
 ·obtain ⟨p,pt,pg,pf,c,ts,gs,z,tk,gv,fs,ms,rfl,P,o,hc,ml,mb,hQ⟩:=h
  refine ⟨_,(pss_cons (ps_set (i:=2) sc_law_behind.nd rfl (Or.inr rfl) (pe_callTy call_list_of (by rfl) T.z_list bt_list (pa_cons (pe_ix ix_list (pv 0) pe_int (fun _ _=>rfl)) pa_nil)))
   (pss_cons (ps_set (i:=3) sc_law_behind.nd rfl (Or.inr rfl) (pe_call G_law_gains (hr.mono (by decide)) (by rfl) T.u_law_gains.m T.u_law_gains.F.kp T.u_law_gains.b .nil pass0 (pa_cons (pv 0) pa_nil)))
   (pss_cons (ps_for PassesOwn.never rfl (pi_range1 (by rfl) T.z_range (pa_cons (pe_callB call_len_seq (by rfl) T.z_len bt_len (pa_cons (pv 3) pa_nil)) pa_nil)) (pg_name (i:=4) sc_law_behind.nd (by rfl) (Or.inr rfl))
   (pss_one (ps_set (i:=2) sc_law_behind.nd rfl (Or.inr rfl) (pe_comp (N':=["b","bag","tally","d","rows"]) (nt:=1) (caps:=[2,1,4,3]) _ _ (CompScope.of (by kernel_rfl)) (pi_range1 (by rfl) T.z_range (pa_cons (pe_callB call_len_seq (by rfl) T.z_len bt_len (pa_cons (pv 2) pa_nil)) pa_nil)) (fun _=>(pg_nameC (i:=0) ["b","bag","tally","d","rows"] (by decide +kernel) (by rfl))) (fun _=>pts_nil) (fun _=>(pe_op op_add (pe_ix ix_list (pv 1) (pv 0) (fun _ _=>rfl)) (pe_op op_mulL (pe_ix ix_list (pv 2) (pv 3) (fun _ _=>rfl)) (pe_ix ix_list (pe_ix ix_list (pv 4) (pv 3) (fun _ _=>rfl)) (pv 0) (fun _ _=>rfl)))))))))
   (pss_one (ps_ret (pv 2)))))),?_⟩
  try dsimp only [kx1,kx2,kx3,Cx.nox,Cx.wish]
  have z6:=o.z6
  have t8:=o.t8
  have gl:=o.gl
  have fl:=o.fs.1
  have wt:=wd_of o.tk
  have wg:=wd_of o.gv
  refine ⟨_,rfl,p,_,_,_,rfl,rfl,SqL.of P.top,rfl,pf,_,rfl,.inl (SqL.of P.hf),fun p0 np0=>?_⟩
  have U2:=(Same.refl H).upd np0 (o:=.lst (vints fs))
  have e0:=upd_same (H:=H) (a:=p0) (o:=.lst (vints fs))
  generalize upd H p0 (.lst (vints fs))=H1 at U2 e0 ⊢
  refine ⟨_,rfl,p,pt,pg,pf,ts,gs,z,tk,gv,fs,rfl,P.same U2,o,fun q1 as H2 nq1 S2 hq1 R1=>?_⟩
  have U3:=U2.trans S2
  have al:(as.map V.ref).length=tk.length:=by rw [List.length_map,R1.length,gnP_len]
  refine ⟨_,rfl,q1,_,rfl,.inl (SqL.of hq1),_,rfl,by rw [al]; omega,by rw [al]; omega,?_⟩
  rw [al,Int.toNat_natCast]
  refine for_range (n:=_) (fun i σ H4=>∃ (q:Addr) (o4:Option V) (bag:List Int),σ=[some (.ref p),some (.ref c),some (.ref q),some (.ref q1),o4]∧Same H2 H4∧H q=none∧H4 q=some (.lst (vints bag))∧bag.length=z∧∀ k,k<z→fv bag k=fv fs k+lsm i fun d=>fv ms d*tf (gnP tk gv) d k) ⟨p0,none,fs,rfl,Same.refl _,np0,S2 _ _ e0,fl,fun k _=>(Int.add_zero _).symm⟩ ?_ ?_
  ·rintro i σ H4 hi ⟨q,o4,bag,rfl,S4,fq,hq,bl,bbd⟩
   have hi:i<tk.length:=hi
   have gi:i<(gnP tk gv).length:=by rw [gnP_len]; exact hi
   obtain ⟨qr,er,fr⟩:=rows_at R1 gi
   have lr:(gnP tk gv)[i].length=z:=gnP_wd wt wg gl _ (List.getElem_mem gi)
   have vq:(vints bag).length=z:=by rw [ints_len,bl]
   have gb:∀ y∈(gnP tk gv)[i],y.natAbs≤1000000000:=fun y hy=>by
    have e:(gnP tk gv)[i]=sub gv[i] tk[i]:=by rw [← getDr gi,gnP_at hi,getDr hi,getDr (by omega)]
    rw [e] at hy
    exact sub_abs (o.gv _ (List.getElem_mem _)).1 (o.tk _ (List.getElem_mem _)).1 (o.gv _ (List.getElem_mem _)).2 (o.tk _ (List.getElem_mem _)).2 y hy
   refine ⟨_,rfl,q,_,rfl,.inl (SqL.of hq),_,rfl,by rw [vq]; omega,by rw [vq]; omega,?_⟩
   rw [vq,Int.toNat_natCast]
   refine comp_at (τ:=[some (.ref q),some (.ref c),some (.int (0+(i:Int))),some (.ref q1)]) (fun b=>bag.getD b 0+ms.getD i 0*(gnP tk gv)[i].getD b 0) (small70 (by omega)) (fun B b H5 hb S5 Q' hq2=>?_) fun H5 S5 p5 np5=>?_
   ·have S45:=S4.trans S5
    exact ⟨_,rfl,_,rfl,q,_,_,_,rfl,rfl,SqL.of (S5 _ _ hq),at_place bl hb,_,rfl,_,rfl,c,_,_,_,rfl,rfl,(U3.trans S45).seq hc,at_place ml hi,_,rfl,_,rfl,q1,_,_,_,rfl,rfl,SqL.of (S45 _ _ hq1),by rw [Int.zero_add]; exact er,_,rfl,qr,_,_,_,rfl,rfl,SqL.of (S45 _ _ fr),at_place lr hb,_,_,rfl,rfl,⟨at_in (P:=fun x=>x.natAbs<2^1040000) ml hi mb,Nat.lt_of_le_of_lt (at_in (P:=fun x=>x.natAbs≤1000000000) lr hb gb) (Nat.lt_of_lt_of_le (show 1000000000<2^36 by decide) (Nat.pow_le_pow_right (by decide) (by decide)))⟩,_,_,rfl,rfl,hq2 _ (Same.refl _)⟩
   ·refine ⟨p5,_,_,rfl,(S4.trans S5).upd np5,(U3.trans (S4.trans S5)).free np5,upd_same,by simp,fun k hk=>?_⟩
    show ((List.range z).map fun b=>bag.getD b 0+ms.getD i 0*(gnP tk gv)[i].getD b 0).getD k 0=fv fs k+((lsm i fun d=>fv ms d*tf (gnP tk gv) d k)+fv ms i*tf (gnP tk gv) i k)
    rw [range_get _ hk]
    have:=bbd k hk
    unfold tf fv at this ⊢
    rw [getDr gi]
    omega
  ·rintro σ H4 ⟨q,o4,bag,rfl,S4,fq,hq,bl,bbd⟩
   exact ⟨_,rfl,hQ q bag H4 fq (U3.trans S4) hq ⟨bl,by rw [gnP_len]; exact bbd⟩⟩
theorem sc_law_tally:FnScope ["script","many","tally","k","at"] ["script","many"] (defScope s_law_tally):=⟨rfl,rfl,rfl,by decide +kernel,rfl,by decide +kernel,by decide +kernel⟩
set_option maxHeartbeats 4000000 in
theorem ok_law_tally (T:Txt K mg AR FR):FnOk P w K mg base CX0 1 AR.f_law_tally FR.d_law_tally ["script","many"] (sp_law_tally K):=by
 refine T.u_law_tally.F.ok sc_law_tally (fun vs H Q E h=>?_) (fun cdv A outer s H vs Q E hr h=>?_)
 ·obtain ⟨a,ns,z,rfl,hS,h63,z8,hQ⟩:=h
  rfl
 ·obtain ⟨a,ns,z,rfl,hS,h63,z8,hQ⟩:=h
  refine ⟨_,(pss_cons (ps_set (i:=2) sc_law_tally.nd rfl (Or.inl rfl) (pe_op op_rep (pe_lst (pa_cons pe_int pa_nil)) (pv 1)))
   (pss_cons (ps_for PassesOwn.never rfl (pi_range1 (by rfl) T.z_range (pa_cons (pe_callB call_len_seq (by rfl) T.z_len bt_len (pa_cons (pv 0) pa_nil)) pa_nil)) (pg_name (i:=3) sc_law_tally.nd (by rfl) (Or.inl rfl))
   (pss_one (ps_if (pt_cmpR op_gt (pv 1) pe_int (nomark _)) (pss_cons (ps_set (i:=4) sc_law_tally.nd rfl (Or.inl rfl) (pe_op op_mod (pe_op op_add (pv 3) (pe_op op_fdiv (pv 3) (pv 1))) (pv 1)))
   (pss_one (ps_asg (pe_op op_sub (pe_op op_add (pe_ix ix_list (pv 2) (pv 4) (fun _ _=>rfl)) (pe_op op_mod (pe_ix ix_list (pv 0) (pv 3) (fun _ _=>rfl)) pe_int)) pe_int) (pg_sub (pv 2) (pv 4) set_list)))) pss_nil)))
   (pss_one (ps_ret (pv 2))))),?_⟩
  try dsimp only [kx1,kx2,kx3,Cx.nox,Cx.wish]
  have zs70:z<sizeLine:=small70 (show z≤70 by omega)
  have vn:(vints ns).length=ns.length:=ints_len ns
  refine ⟨by decide,fun l nl=>⟨_,rfl,l,_,_,rfl,rfl,upd_same,by omega,by omega,by rw [Int.toNat_natCast]; show 1*z≤_; omega,fun pm npm=>?_⟩⟩
  rw [Int.toNat_natCast,rep_flat]
  have U0:=(Same.refl H).upd nl (o:=.lst [V.int 0])
  have U1:=U0.upd npm (o:=.lst (vints (List.replicate z 0)))
  have e1:=upd_same (H:=upd H l (.lst [V.int 0])) (a:=pm) (o:=.lst (vints (List.replicate z 0)))
  have fpm:=U0.free npm
  generalize upd (upd H l (.lst [V.int 0])) pm (.lst (vints (List.replicate z 0)))=H1 at U1 e1 ⊢
  refine ⟨_,rfl,a,_,rfl,.inl (U1.seq hS),_,rfl,by rw [vn]; omega,by rw [vn]; omega,?_⟩
  rw [vn,Int.toNat_natCast]
  refine for_range (n:=_) (fun i σ H2=>∃ (o3 o4:Option V) (ms:List Int),σ=[some (.ref a),some (.int z),some (.ref pm),o3,o4]∧Same H H2∧H2 pm=some (.lst (vints ms))∧ms.length=z∧∀ m∈ms,m.natAbs≤i*1000000000) ⟨none,none,_,rfl,U1,e1,List.length_replicate,fun m hm=>by rw [(List.mem_replicate.mp hm).2]; omega⟩ ?_ ?_
  ·rintro i σ H2 hi ⟨o3,o4,ms,rfl,S,hm,ml,mb⟩
   have hi:i<ns.length:=hi
   have mono:∀ m∈ms,m.natAbs≤(i+1)*1000000000:=fun m hm=>Nat.le_trans (mb m hm) (Nat.mul_le_mul_right _ (Nat.le_succ i))
   refine ⟨_,rfl,_,_,rfl,rfl,_,rfl,?_⟩
   refine iteD (fun hz=>?_) (fun _=>⟨_,_,ms,rfl,S,hm,ml,mono⟩)
   have hz:(0:Int)<z:=hz
   refine ⟨_,rfl,_,rfl,_,rfl,_,_,rfl,rfl,⟨by omega,by omega⟩,_,_,rfl,rfl,_,rfl,_,_,rfl,rfl,hz,?_⟩
   try dsimp only
   obtain ⟨k,ek⟩:=Int.eq_ofNat_of_zero_le (Int.emod_nonneg (0+(i:Int)+(0+(i:Int))/(z:Int)) (show (z:Int)≠0 by omega))
   have ek2:=Int.emod_lt_of_pos (0+(i:Int)+(0+(i:Int))/(z:Int)) hz
   rw [ek]
   have kz:k<z:=by omega
   have r1:0≤ns.getD i 0%2000000001:=Int.emod_nonneg _ (by decide)
   have r2:ns.getD i 0%2000000001<2000000001:=Int.emod_lt_of_pos _ (by decide)
   refine ⟨_,rfl,_,rfl,pm,_,_,_,rfl,rfl,SqL.of hm,at_zs (by omega),_,rfl,_,rfl,a,_,_,_,rfl,rfl,S.seq hS,at_place rfl hi,_,_,rfl,rfl,(by show (0:Int)<2000000001; decide),_,_,rfl,rfl,_,_,rfl,rfl,?_⟩
   have ix:ixN (vints ms).length (k:Int)=some k:=by
    unfold ixN
    rw [ints_len,ml,if_pos (by omega),if_pos (by omega),Int.toNat_natCast]
   have mk:=at_in (P:=fun m=>m.natAbs≤i*1000000000) ml kz mb
   refine ⟨_,rfl,_,rfl,pm,_,_,k,rfl,rfl,hm,ix,?_⟩
   refine ⟨_,_,ms.set k (ms.getD k 0+ns.getD i 0%2000000001-1000000000),rfl,S.upd' fpm,?_,by rw [List.length_set]; exact ml,fun m hm=>?_⟩
   ·rw [upd_same]
    unfold vints
    rw [List.map_set]
   ·rcases List.mem_or_eq_of_mem_set hm with q | q
    ·exact mono m q
    ·rw [q,Nat.succ_mul]
     generalize i*1000000000=B1 at mk
     omega
  ·rintro σ H2 ⟨o3,o4,ms,rfl,S,hm,ml,mb⟩
   exact ⟨_,rfl,hQ pm ms H2 fpm S hm ml fun m hm=>Nat.le_trans (mb m hm) (Nat.mul_le_mul_right 1000000000 h63)⟩
theorem sc_law_bag:FnScope ["script","parts","bag","way","at"] ["script","parts"] (defScope s_law_bag):=⟨rfl,rfl,rfl,by decide +kernel,rfl,by decide +kernel,by decide +kernel⟩
set_option maxHeartbeats 4000000 in
theorem ok_law_bag (T:Txt K mg AR FR):FnOk P w K mg base CX0 3 AR.f_law_bag FR.d_law_bag ["script","parts"] (sp_law_bag K):=by
 have G_law_behind:FnOk P w K mg base CX0 2 AR.f_law_behind FR.d_law_behind _ (sp_law_behind K):=ok_law_behind T
 have G_law_tally:FnOk P w K mg base CX0 1 AR.f_law_tally FR.d_law_tally _ (sp_law_tally K):=ok_law_tally T
 have G_law_mixed:FnOk P w K mg base CX0 1 AR.f_law_mixed FR.d_law_mixed _ (sp_law_mixed K):=ok_law_mixed T
 refine T.u_law_bag.F.ok sc_law_bag (fun vs H Q E h=>?_) (fun cdv A outer s H vs Q E hr h=>?_)
 ·obtain ⟨a,p,pt,pg,pf,ns,ts,gs,z,tk,gv,fs,rfl,hS,h63,P,o,hQ⟩:=h
  rfl
 ·obtain ⟨a,p,pt,pg,pf,ns,ts,gs,z,tk,gv,fs,rfl,hS,h63,P,o,hQ⟩:=h
  refine ⟨_,(pss_cons (ps_set (i:=2) sc_law_bag.nd rfl (Or.inl rfl) (pe_call G_law_behind (hr.mono (by decide)) (by rfl) T.u_law_behind.m T.u_law_behind.F.kp T.u_law_behind.b .nil pass0 (pa_cons (pv 1) (pa_cons (pe_call G_law_tally (hr.mono (by decide)) (by rfl) T.u_law_tally.m T.u_law_tally.F.kp T.u_law_tally.b .nil pass0 (pa_cons (pv 0) (pa_cons (pe_callB call_len_seq (by rfl) T.z_len bt_len (pa_cons (pe_ix ix_list (pv 1) pe_int (fun _ _=>rfl)) pa_nil)) pa_nil))) pa_nil))))
   (pss_cons (ps_set (i:=3) sc_law_bag.nd rfl (Or.inl rfl) (pe_op op_mod (pe_op op_fdiv (pe_call G_law_mixed (hr.mono (by decide)) (by rfl) T.u_law_mixed.m T.u_law_mixed.F.kp T.u_law_mixed.b .nil pass0 (pa_cons (pv 0) (pa_cons pe_int pa_nil))) pe_int) pe_int))
   (pss_cons (ps_set (i:=4) sc_law_bag.nd rfl (Or.inl rfl) (pe_op op_mod (pe_op op_fdiv (pe_call G_law_mixed (hr.mono (by decide)) (by rfl) T.u_law_mixed.m T.u_law_mixed.F.kp T.u_law_mixed.b .nil pass0 (pa_cons (pv 0) (pa_cons pe_int pa_nil))) pe_int) (pe_callB call_len_seq (by rfl) T.z_len bt_len (pa_cons (pv 2) pa_nil))))
   (pss_cons (ps_if (pt_cmpR op_eq (pv 3) pe_int (nomark _)) (pss_one (ps_asg (pe_op op_sub (pe_op op_add (pe_ix ix_list (pv 2) (pv 4) (fun _ _=>rfl)) pe_int) (pe_op op_mul pe_int (pe_op op_mod (pe_op op_fdiv (pe_call G_law_mixed (hr.mono (by decide)) (by rfl) T.u_law_mixed.m T.u_law_mixed.F.kp T.u_law_mixed.b .nil pass0 (pa_cons (pv 0) (pa_cons pe_int pa_nil))) pe_int) pe_int))) (pg_sub (pv 2) (pv 4) set_list))) pss_nil)
   (pss_cons (ps_if (pt_cmpR op_eq (pv 3) pe_int (nomark _)) (pss_one (ps_asg (pe_op op_sub (pe_op op_add (pe_ix ix_list (pv 2) (pv 4) (fun _ _=>rfl)) (pe_op op_mod (pe_call G_law_mixed (hr.mono (by decide)) (by rfl) T.u_law_mixed.m T.u_law_mixed.F.kp T.u_law_mixed.b .nil pass0 (pa_cons (pv 0) (pa_cons pe_int pa_nil))) pe_int)) pe_int) (pg_sub (pv 2) (pv 4) set_list))) pss_nil)
   (pss_cons (ps_if (pt_cmpR op_eq (pv 3) pe_int (nomark _)) (pss_one (ps_setComp (i:=2) (N':=["b","script"]) (nt:=1) (caps:=[0]) _ _ (CompScope.of (by kernel_rfl)) sc_law_bag.nd rfl rfl (pi_range1 (by rfl) T.z_range (pa_cons (pe_callB call_len_seq (by rfl) T.z_len bt_len (pa_cons (pv 2) pa_nil)) pa_nil)) (fun _=>(pg_nameC (i:=0) ["b","script"] (by decide +kernel) (by rfl))) (fun _=>pts_nil) (fun _=>(pe_op op_sub (pe_op op_mod (pe_call G_law_mixed (hr.mono (by decide)) (by rfl) T.u_law_mixed.m T.u_law_mixed.F.kp T.u_law_mixed.b .nil pass0 (pa_cons (pv 1) (pa_cons (pe_op op_add pe_int (pv 0)) pa_nil))) pe_int) pe_int)))) pss_nil)
   (pss_one (ps_ret (pv 2))))))))),?_⟩
  try dsimp only [kx1,kx2,kx3,Cx.nox,Cx.wish]
  have z1:=o.z1
  have z6:=o.z6
  have t8:=o.t8
  have tl:(ts.map V.ref).length=tk.length:=by rw [List.length_map,P.tr.length]
  refine ⟨_,rfl,_,rfl,_,rfl,p,_,_,_,rfl,rfl,SqL.of P.top,rfl,pt,_,rfl,.inl (SqL.of P.ht),a,ns,tk.length,by rw [tl]; rfl,hS,h63,t8,fun c ms H1 nc S1 hc ml mb=>?_⟩
  refine ⟨p,pt,pg,pf,c,ts,gs,z,tk,gv,fs,ms,rfl,P.same S1,o,SqL.of hc,ml,fun m hm=>Nat.lt_of_le_of_lt (mb m hm) (Nat.lt_of_lt_of_le (show 63000000000<2^36 by decide) (Nat.pow_le_pow_right (by decide) (by decide))),fun q bag H2 nq S2 hq bo=>?_⟩
  have bl:=bo.1
  have bb:=bo.bd (by rw [gnP_len]; exact t8) o.fs.1 (by rw [gnP_len]; exact ml) (gnP_wd (wd_of o.tk) (wd_of o.gv) o.gl) o.fs.2 mb (gnP_1e9 o)
  have S12:=S1.trans S2
  have fq:=S1.free nq
  have vq:(vints bag).length=z:=by rw [ints_len,bl]
  refine ⟨_,rfl,a,ns,131,rfl,S12.seq hS,h63,by decide,fun c1 _ _=>?_⟩
  refine ⟨_,_,rfl,rfl,⟨by decide,by decide⟩,_,_,rfl,rfl,(by show (0:Int)<4; decide),?_⟩
  try dsimp only
  generalize c1/3%4=way
  refine ⟨_,rfl,a,ns,132,rfl,S12.seq hS,h63,by decide,fun c2 _ _=>?_⟩
  refine ⟨_,_,rfl,rfl,⟨by decide,by decide⟩,_,rfl,q,_,rfl,.inl (SqL.of hq),_,_,rfl,rfl,(by show (0:Int)<_; rw [vq]; omega),?_⟩
  try dsimp only
  rw [vq]
  obtain ⟨k,ek⟩:=Int.eq_ofNat_of_zero_le (Int.emod_nonneg (c2/5) (show (z:Int)≠0 by omega))
  have ek2:=Int.emod_lt_of_pos (c2/5) (show (0:Int)<z by omega)
  rw [ek]
  have kz:k<z:=by omega
  refine seq_join (fun σ' H'=>∃ (bag2:List Int),σ'=[some (.ref a),some (.ref p),some (.ref q),some (.int way),some (.int k)]∧Same H H'∧H' q=some (.lst (vints bag2))∧bag2.length=z∧∀ y∈bag2,y.natAbs≤10^31) ?_ ?_
  rotate_left
  ·intro N hN
   have b31:∀ y∈bag,y.natAbs≤10^31:=fun y hy=>Nat.le_trans (bb y hy) (by decide +kernel)
   refine ⟨_,rfl,rfl,_,rfl,?_⟩
   refine iteD (fun _=>?_) (fun _=>hN _ _ ⟨bag,rfl,S12,hq,bl,b31⟩)
   refine ⟨_,rfl,_,rfl,q,_,_,_,rfl,rfl,SqL.of hq,at_zs (by omega),_,_,rfl,rfl,_,rfl,a,ns,133,rfl,S12.seq hS,h63,by decide,fun c3 _ _=>?_⟩
   have r1:0≤c3/7%2:=Int.emod_nonneg _ (by decide)
   have r2:c3/7%2<2:=Int.emod_lt_of_pos _ (by decide)
   refine ⟨_,_,rfl,rfl,⟨by decide,by decide⟩,_,_,rfl,rfl,(by show (0:Int)<2; decide),_,_,rfl,rfl,.inl ⟨by decide,by decide⟩,_,_,rfl,rfl,?_⟩
   have ix:ixN (vints bag).length (k:Int)=some k:=by
    unfold ixN
    rw [ints_len,bl,if_pos (by omega),if_pos (by omega),Int.toNat_natCast]
   have mk:=at_in (P:=fun m=>m.natAbs≤10^30) bl kz bb
   refine ⟨_,rfl,_,rfl,q,_,_,k,rfl,rfl,hq,ix,hN _ _ ⟨bag.set k (bag.getD k 0+1-2*(c3/7%2)),rfl,S12.upd' fq,?_,by rw [List.length_set]; exact bl,fun y hy=>?_⟩⟩
   ·rw [upd_same]
    unfold vints
    rw [List.map_set]
   ·rcases List.mem_or_eq_of_mem_set hy with w | w
    ·exact b31 y w
    ·rw [w]
     refine Nat.le_trans (show _≤(bag.getD k 0).natAbs+3 by omega) (Nat.le_trans (Nat.add_le_add_right mk 3) (by decide +kernel))
  rintro _ H3 ⟨bag2,rfl,S3,hq3,bl3,bb3⟩
  refine seq_join (fun σ' H'=>∃ (bag2:List Int),σ'=[some (.ref a),some (.ref p),some (.ref q),some (.int way),some (.int k)]∧Same H H'∧H' q=some (.lst (vints bag2))∧bag2.length=z∧∀ y∈bag2,y.natAbs≤10^32) ?_ ?_
  rotate_left
  ·intro N hN
   have b31:∀ y∈bag2,y.natAbs≤10^32:=fun y hy=>Nat.le_trans (bb3 y hy) (by decide +kernel)
   refine ⟨_,rfl,rfl,_,rfl,?_⟩
   refine iteD (fun _=>?_) (fun _=>hN _ _ ⟨bag2,rfl,S3,hq3,bl3,b31⟩)
   refine ⟨_,rfl,_,rfl,q,_,_,_,rfl,rfl,SqL.of hq3,at_zs (by omega),_,rfl,a,ns,133,rfl,S3.seq hS,h63,by decide,fun c3 _ _=>?_⟩
   have r1:0≤c3%2000000001:=Int.emod_nonneg _ (by decide)
   have r2:c3%2000000001<2000000001:=Int.emod_lt_of_pos _ (by decide)
   refine ⟨_,_,rfl,rfl,(by show (0:Int)<2000000001; decide),_,_,rfl,rfl,_,_,rfl,rfl,?_⟩
   have ix:ixN (vints bag2).length (k:Int)=some k:=by
    unfold ixN
    rw [ints_len,bl3,if_pos (by omega),if_pos (by omega),Int.toNat_natCast]
   have mk:=at_in (P:=fun m=>m.natAbs≤10^31) bl3 kz bb3
   refine ⟨_,rfl,_,rfl,q,_,_,k,rfl,rfl,hq3,ix,hN _ _ ⟨bag2.set k (bag2.getD k 0+c3%2000000001-1000000000),rfl,S3.upd' fq,?_,by rw [List.length_set]; exact bl3,fun y hy=>?_⟩⟩
   ·rw [upd_same]
    unfold vints
    rw [List.map_set]
   ·rcases List.mem_or_eq_of_mem_set hy with w | w
    ·exact b31 y w
    ·rw [w]
     refine Nat.le_trans (show _≤(bag2.getD k 0).natAbs+3000000001 by omega) (Nat.le_trans (Nat.add_le_add_right mk 3000000001) (by decide +kernel))
  clear hq3 bl3 bb3 S3 bag2
  rintro _ H3 ⟨bag2,rfl,S3,hq3,bl3,bb3⟩
  have vq3:(vints bag2).length=z:=by rw [ints_len,bl3]
  refine seq_join (fun σ' H'=>∃ (q4:Addr) (bag4:List Int),σ'=[some (.ref a),some (.ref p),some (.ref q4),some (.int way),some (.int k)]∧H q4=none∧Same H H'∧H' q4=some (.lst (vints bag4))∧bag4.length=z∧∀ y∈bag4,y.natAbs≤10^32) ?_ ?_
  rotate_left
  ·intro N hN
   refine ⟨_,rfl,rfl,_,rfl,?_⟩
   refine iteD (fun _=>?_) (fun _=>hN _ _ ⟨q,bag2,rfl,fq,S3,hq3,bl3,bb3⟩)
   refine ⟨_,rfl,q,_,rfl,.inl (SqL.of hq3),_,rfl,by rw [vq3]; omega,by rw [vq3]; omega,?_⟩
   rw [vq3,Int.toNat_natCast]
   refine comp_ints (n:=z) (τ:=[some (.ref a)]) (fun m=>m.natAbs≤10^32) (small70 (by omega)) (fun B j H4 hj S4 Q' hq4=>?_) fun ms4 H4 S4 l4 b4 p4 np4=>hN _ _ ⟨p4,ms4,rfl,(S3.trans S4).free np4,(S3.trans S4).upd np4,upd_same,l4,b4⟩
   refine ⟨_,rfl,_,rfl,_,_,rfl,rfl,a,ns,134+j,by rw [Int.zero_add]; rfl,(S3.trans S4).seq hS,h63,by omega,fun c5 _ _=>?_⟩
   have r1:0≤c5%2000000001:=Int.emod_nonneg _ (by decide)
   have r2:c5%2000000001<2000000001:=Int.emod_lt_of_pos _ (by decide)
   refine ⟨_,_,rfl,rfl,(by show (0:Int)<2000000001; decide),_,_,rfl,rfl,hq4 _ _ ?_ (Same.refl _)⟩
   exact Nat.le_trans (show _≤2000000001 by omega) (by decide +kernel)
  rintro _ H4 ⟨q4,bag4,rfl,f4,S4,hq4,bl4,bb4⟩
  exact ⟨_,rfl,hQ q4 bag4 H4 f4 S4 hq4 bl4 bb4⟩
theorem sc_is_name:FnScope ["word"] ["word"] (defScope s_is_name):=⟨rfl,rfl,rfl,by decide +kernel,rfl,by decide +kernel,by decide +kernel⟩
set_option maxHeartbeats 4000000 in
theorem ok_is_name (T:Txt K mg AR FR):FnOk P w K mg base CX0 1 AR.f_is_name FR.d_is_name ["word"] (sp_is_name K):=by
 obtain ⟨_,cc_MOST_SIGNS⟩:=T.c_MOST_SIGNS
 refine T.u_is_name.F.ok sc_is_name (fun vs H Q E h=>?_) (fun cdv A outer s H vs Q E hr h=>?_)
 ·obtain ⟨x,rfl,hx,hz,hQ⟩:=h
  rfl
 ·obtain ⟨x,rfl,hx,hz,hQ⟩:=h
  refine ⟨_,(pss_one (ps_ret (pe_and (pe_chain op_le op_le pe_int (pe_callB call_len_str (by rfl) T.z_len bt_len (pa_cons (pv 0) pa_nil)) (pe_glob (v:=.int 8) (by rfl) cc_MOST_SIGNS ⟨_,rfl⟩)) (pe_one (pe_callB (call_all_list rfl) (by rfl) T.z_all bt_all (pa_cons (pe_comp (N':=["sign"]) (nt:=1) (caps:=[]) _ _ (CompScope.of (by kernel_rfl)) (pi_str (pv 0)) (fun _=>(pg_nameC (i:=0) ["sign"] (by decide +kernel) (by rfl))) (fun _=>pts_nil) (fun _=>(pe_chain op_le_str op_le_str pe_str (pv 0) pe_str))) pa_nil)))))),?_⟩
  try dsimp only [kx1,kx2,kx3,Cx.nox,Cx.wish]
  have hcs:x.cps.size=x.length:=rfl
  refine ⟨_,rfl,x,rfl,Nat.le_trans hz (by decide),_,_,rfl,rfl,_,rfl,?_⟩
  have key:∀ (k:Bool) (H':Hp),Same H H'→okName x=k→Q (.bl k) H':=fun k H' S e=>e ▸ hQ H' S
  refine iteD (fun h1=>?_) (fun h1=>?_)
  ·refine ⟨_,_,rfl,rfl,_,rfl,?_⟩
   refine iteD (fun h8=>?_) (fun h8=>?_)
   ·refine ⟨_,rfl,x,rfl,hx,?_⟩
    refine comp_strP (fun i zs σ H2=>(∃ v,σ=[v])∧Same H H2∧zs=((x.cps.toList.take i).map okSign).map V.bl) ⟨⟨none,rfl⟩,Same.refl _,rfl⟩ ?_ ?_ ?_
    ·rintro i zs σ H2 hi ⟨_,S,rfl⟩
     rw [List.length_map,List.length_map,List.length_take]
     exact small70 (by omega)
    ·rintro B i c zs σ H2 hc ⟨⟨v,rfl⟩,S,rfl⟩
     try dsimp only [gName,tTrue]
     rw [if_pos rfl]
     have hc':x.cps.toList[i]?=some c:=by simpa using hc
     have fin:∀ k:Bool,okSign c=k→(((x.cps.toList.take i).map okSign).map V.bl++[V.bl k])=((x.cps.toList.take (i+1)).map okSign).map V.bl:=fun k e=>by
      rw [List.take_add_one,hc',Option.toList_some,List.map_append,List.map_append,← e]
      rfl
     refine ⟨_,rfl,_,_,rfl,rfl,_,rfl,?_⟩
     have ea:(!decide ((⟨#[c]⟩:Str).cps.toList<(Str.ofString "a").cps.toList))=decide (97≤c):=le_one
     have ez:(!decide ((Str.ofString "z").cps.toList<(⟨#[c]⟩:Str).cps.toList))=decide (c≤122):=le_one
     rw [ea]
     refine iteD (fun g1=>?_) (fun g1=>?_)
     ·refine ⟨_,_,rfl,rfl,⟨_,rfl⟩,S,?_⟩
      rw [ez]
      exact fin _ (by unfold okSign; simp [g1])
     ·exact ⟨⟨_,rfl⟩,S,fin _ (by unfold okSign; simp [g1])⟩
    ·rintro zs σ H2 ⟨_,S,rfl⟩ p hp
     rw [← Array.length_toList,List.take_length]
     refine ⟨p,_,rfl,SqL.of upd_same,key _ _ (S.upd hp) ?_⟩
     rw [all_map_sign]
     unfold okName
     simp [show 1≤x.length by omega,show x.length≤8 by omega]
   ·refine key _ _ (Same.refl _) ?_
    unfold okName
    simp [show ¬ x.length≤8 by omega]
  ·refine ⟨_,rfl,?_⟩
   refine iteF (key _ _ (Same.refl _) ?_)
   unfold okName
   simp [show ¬ 1≤x.length by omega]
theorem sc_refuse_bad_names:FnScope ["names","least","most","name"] ["names","least","most"] (defScope s_refuse_bad_names):=⟨rfl,rfl,rfl,by decide +kernel,rfl,by decide +kernel,by decide +kernel⟩
set_option maxHeartbeats 4000000 in
theorem ok_refuse_bad_names (T:Txt K mg AR FR):FnOk P w K mg base CX0 2 AR.f_refuse_bad_names FR.d_refuse_bad_names ["names","least","most"] (sp_refuse_bad_names K):=by
 have G_is_name:FnOk P w K mg base CX0 1 AR.f_is_name FR.d_is_name _ (sp_is_name K):=ok_is_name T
 refine T.u_refuse_bad_names.F.ok sc_refuse_bad_names (fun vs H Q E h=>?_) (fun cdv A outer s H vs Q E hr h=>?_)
 ·obtain ⟨a,ys,lo,hi,rfl,ha,h1,h2,h6,hn,hd,hQ⟩:=h
  rfl
 ·obtain ⟨a,ys,lo,hi,rfl,ha,h1,h2,h6,hn,hd,hQ⟩:=h
  refine ⟨_,(pss_cons (ps_if (pt_not (pt_chain op_le op_le (pv 1) (pe_callB call_len_seq (by rfl) T.z_len bt_len (pa_cons (pv 0) pa_nil)) (pv 2))) (pss_one ps_never) pss_nil)
   (pss_cons (ps_for PassesOwn.never rfl (pi_list (pv 0)) (pg_name (i:=3) sc_refuse_bad_names.nd (by rfl) (Or.inl rfl))
   (pss_one (ps_if (pt_not (pt_val (pe_call G_is_name (hr.mono (by decide)) (by rfl) T.u_is_name.m T.u_is_name.F.kp T.u_is_name.b .nil pass0 (pa_cons (pv 3) pa_nil)))) (pss_one ps_never) pss_nil)))
   (pss_one (ps_if (pt_cmpR op_ne (pe_callB call_len_setS (by rfl) T.z_len bt_len (pa_cons (pe_callTy (call_set_strs rfl) (by rfl) T.z_set bt_set (pa_cons (pv 0) pa_nil)) pa_nil)) (pe_callB call_len_seq (by rfl) T.z_len bt_len (pa_cons (pv 0) pa_nil)) (nomark _)) (pss_one ps_never) pss_nil)))),?_⟩
  try dsimp only [kx1,kx2,kx3,Cx.nox,Cx.wish]
  have hL:(vstrs ys).length=ys.length:=List.length_map ..
  refine ⟨_,rfl,_,rfl,a,_,rfl,.inl ha,_,_,rfl,rfl,_,rfl,?_⟩
  refine iteD (fun _=>?_) (fun g=>absurd (by rw [hL]; omega) g)
  refine ⟨_,rfl,_,_,rfl,rfl,_,rfl,?_⟩
  refine iteND (fun g=>absurd (by rw [hL]; omega) g) (fun _=>?_)
  refine ⟨_,rfl,a,rfl,⟨_,ha⟩,for_list (K:=K) (a:=a) (xs:=vstrs ys) (fun i σ H2=>∃ o,σ=[some (.ref a),some (.int lo),some (.int hi),o]∧Same H H2) ⟨none,rfl,Same.refl _⟩ (fun i σ H2 _ hp4=>by obtain ⟨_,_,S⟩:=hp4; exact S.seq ha) ?_ ?_⟩
  ·rintro i x σ H2 hx ⟨o,rfl,S⟩
   obtain ⟨y,hy,rfl⟩:=strs_get hx
   have ok:=hn y (List.mem_of_getElem? hy)
   have ol:y.length≤8:=by
    unfold okName at ok
    rw [Bool.and_eq_true,Bool.and_eq_true,decide_eq_true_eq,decide_eq_true_eq] at ok
    exact ok.1.2
   refine ⟨_,rfl,y,rfl,okName_ascii ok,by omega,fun H3 S3=>⟨_,rfl,?_⟩⟩
   rw [ok]
   refine iteF ?_
   exact ⟨_,rfl,S.trans S3⟩
  ·rintro σ H2 ⟨o,rfl,S⟩
   refine ⟨_,rfl,a,ys,rfl,S.seq ha,by omega,fun p hp=>?_⟩
   refine ⟨p,_,rfl,upd_same,_,rfl,a,_,rfl,.inl ((S.upd hp).seq ha),rfl,_,rfl,?_⟩
   refine iteNS (by rw [metS_all hd,hL]) ?_
   exact hQ _ (S.upd hp)
theorem sc_refuse_bad_bags:FnScope ["bags","many","width","bag","number"] ["bags","many","width"] (defScope s_refuse_bad_bags):=⟨rfl,rfl,rfl,by decide +kernel,rfl,by decide +kernel,by decide +kernel⟩
set_option maxHeartbeats 4000000 in
theorem ok_refuse_bad_bags (T:Txt K mg AR FR):FnOk P w K mg base CX0 1 AR.f_refuse_bad_bags FR.d_refuse_bad_bags ["bags","many","width"] (sp_refuse_bad_bags K):=by
 obtain ⟨_,cc_MOST_BEADS⟩:=T.c_MOST_BEADS
 refine T.u_refuse_bad_bags.F.ok sc_refuse_bad_bags (fun vs H Q E h=>?_) (fun cdv A outer s H vs Q E hr h=>?_)
 ·obtain ⟨a,as,rs,n,rfl,ha,R,ok,hQ⟩:=h
  rfl
 ·obtain ⟨a,as,rs,n,rfl,ha,R,ok,hQ⟩:=h
  refine ⟨_,(pss_cons (ps_if (pt_cmpR op_ne (pe_callB call_len_seq (by rfl) T.z_len bt_len (pa_cons (pv 0) pa_nil)) (pv 1) (nomark _)) (pss_one ps_never) pss_nil)
   (pss_one (ps_for PassesOwn.never rfl (pi_list (pv 0)) (pg_name (i:=3) sc_refuse_bad_bags.nd (by rfl) (Or.inl rfl))
   (pss_cons (ps_if (pt_cmpR op_ne (pe_callB call_len_seq (by rfl) T.z_len bt_len (pa_cons (pv 3) pa_nil)) (pv 2) (nomark _)) (pss_one ps_never) pss_nil)
   (pss_one (ps_for PassesOwn.never rfl (pi_list (pv 3)) (pg_name (i:=4) sc_refuse_bad_bags.nd (by rfl) (Or.inl rfl))
   (pss_one (ps_if (pt_not (pt_chain op_le op_le pe_int (pv 4) (pe_glob (v:=.int 1000000000) (by rfl) cc_MOST_BEADS ⟨_,rfl⟩))) (pss_one ps_never) pss_nil)))))))),?_⟩
  try dsimp only [kx1,kx2,kx3,Cx.nox,Cx.wish]
  have hal:=R.length
  refine ⟨_,rfl,a,_,rfl,.inl ha,_,rfl,rfl,_,rfl,?_⟩
  refine iteNS (by rw [List.length_map,hal]) ?_
  refine ⟨_,rfl,a,rfl,⟨_,ha⟩,for_list (K:=K) (a:=a) (xs:=as.map V.ref) (fun i σ H2=>∃ o3 o4,σ=[some (.ref a),some (.int rs.length),some (.int n),o3,o4]∧H2=H) ⟨none,none,rfl,rfl⟩ (fun i σ H2 _ hp4=>by obtain ⟨_,_,_,e⟩:=hp4; exact e ▸ ha) ?_ ?_⟩
  ·rintro i x σ H2 hx ⟨o3,o4,rfl,rfl⟩
   obtain ⟨b,hb1,rfl⟩:=refs_get hx
   obtain ⟨r,hr1,hb⟩:=Paired.getL R hb1
   obtain ⟨hrl,hrb⟩:=ok r (List.mem_of_getElem? hr1)
   refine ⟨_,rfl,b,_,rfl,.inl (SqL.of hb),_,rfl,rfl,_,rfl,?_⟩
   refine iteNS (by rw [ints_len,hrl]) ?_
   refine ⟨_,rfl,b,rfl,⟨_,SqL.of hb⟩,for_list (K:=K) (a:=b) (xs:=vints r) (fun i' σ H3=>∃ o4,σ=[some (.ref a),some (.int rs.length),some (.int n),some (.ref b),o4]∧H3=H2) ⟨_,rfl,rfl⟩ (fun i σ H3 _ hp4=>by obtain ⟨_,_,e⟩:=hp4; exact e ▸ SqL.of hb) ?_ ?_⟩
   ·rintro i' y σ H3 hy ⟨o,rfl,rfl⟩
    obtain ⟨m,hm,rfl⟩:=ints_get hy
    obtain ⟨g1,g2⟩:=hrb m (List.mem_of_getElem? hm)
    refine ⟨_,rfl,_,_,rfl,rfl,_,rfl,?_⟩
    refine iteD (fun _=>?_) (fun g=>absurd g1 g)
    refine ⟨_,_,rfl,rfl,_,rfl,?_⟩
    refine iteND (fun g=>absurd g2 g) (fun _=>?_)
    exact ⟨_,rfl,rfl⟩
   ·rintro σ H3 ⟨o,rfl,rfl⟩
    exact ⟨_,_,rfl,rfl⟩
  ·rintro σ H2 ⟨o3,o4,rfl,rfl⟩
   exact hQ
theorem sc_Net_init:FnScope ["self","bowls","doors","takes","gives","first"] ["self","bowls","doors","takes","gives","first"] (defScope s_Net_init):=⟨rfl,rfl,rfl,by decide +kernel,rfl,by decide +kernel,by decide +kernel⟩
set_option maxHeartbeats 4000000 in
theorem ok_Net_init (T:Txt K mg AR FR):FnOk P w K mg base CX0 3 AR.f_Net_init FR.d_Net_init ["self","bowls","doors","takes","gives","first"] (sp_Net_init AR.C_Net K):=by
 obtain ⟨_,cc_LEAST_BOWLS⟩:=T.c_LEAST_BOWLS
 obtain ⟨_,cc_MOST_BOWLS⟩:=T.c_MOST_BOWLS
 obtain ⟨_,cc_MOST_DOORS⟩:=T.c_MOST_DOORS
 have G_refuse_bad_names:FnOk P w K mg base CX0 2 AR.f_refuse_bad_names FR.d_refuse_bad_names _ (sp_refuse_bad_names K):=ok_refuse_bad_names T
 have G_refuse_bad_bags:FnOk P w K mg base CX0 1 AR.f_refuse_bad_bags FR.d_refuse_bad_bags _ (sp_refuse_bad_bags K):=ok_refuse_bad_bags T
 refine T.F_Net_init.ok sc_Net_init (fun vs H Q E h=>?_) (fun cdv A outer s H vs Q E hr h=>?_)
 ·obtain ⟨x,dx,pb,pd,pt,pg,pf,ts,gs,N,rfl,hx,ok,hb,hd,ht,tr,hg,gr,hf,hQ⟩:=h
  rfl
 ·obtain ⟨x,dx,pb,pd,pt,pg,pf,ts,gs,N,rfl,hx,ok,hb,hd,ht,tr,hg,gr,hf,hQ⟩:=h
  refine ⟨_,(pss_cons (ps_expr (pe_call G_refuse_bad_names (hr.mono (by decide)) (by rfl) T.u_refuse_bad_names.m T.u_refuse_bad_names.F.kp T.u_refuse_bad_names.b .nil pass0 (pa_cons (pv 1) (pa_cons (pe_glob (v:=.int 1) (by rfl) cc_LEAST_BOWLS ⟨_,rfl⟩) (pa_cons (pe_glob (v:=.int 6) (by rfl) cc_MOST_BOWLS ⟨_,rfl⟩) pa_nil)))))
   (pss_cons (ps_expr (pe_call G_refuse_bad_names (hr.mono (by decide)) (by rfl) T.u_refuse_bad_names.m T.u_refuse_bad_names.F.kp T.u_refuse_bad_names.b .nil pass0 (pa_cons (pv 2) (pa_cons pe_int (pa_cons (pe_glob (v:=.int 8) (by rfl) cc_MOST_DOORS ⟨_,rfl⟩) pa_nil)))))
   (pss_cons (ps_expr (pe_call G_refuse_bad_bags (hr.mono (by decide)) (by rfl) T.u_refuse_bad_bags.m T.u_refuse_bad_bags.F.kp T.u_refuse_bad_bags.b .nil pass0 (pa_cons (pv 3) (pa_cons (pe_callB call_len_seq (by rfl) T.z_len bt_len (pa_cons (pv 2) pa_nil)) (pa_cons (pe_callB call_len_seq (by rfl) T.z_len bt_len (pa_cons (pv 1) pa_nil)) pa_nil)))))
   (pss_cons (ps_expr (pe_call G_refuse_bad_bags (hr.mono (by decide)) (by rfl) T.u_refuse_bad_bags.m T.u_refuse_bad_bags.F.kp T.u_refuse_bad_bags.b .nil pass0 (pa_cons (pv 4) (pa_cons (pe_callB call_len_seq (by rfl) T.z_len bt_len (pa_cons (pv 2) pa_nil)) (pa_cons (pe_callB call_len_seq (by rfl) T.z_len bt_len (pa_cons (pv 1) pa_nil)) pa_nil)))))
   (pss_cons (ps_expr (pe_call G_refuse_bad_bags (hr.mono (by decide)) (by rfl) T.u_refuse_bad_bags.m T.u_refuse_bad_bags.F.kp T.u_refuse_bad_bags.b .nil pass0 (pa_cons (pe_lst (pa_cons (pv 5) pa_nil)) (pa_cons pe_int (pa_cons (pe_callB call_len_seq (by rfl) T.z_len bt_len (pa_cons (pv 1) pa_nil)) pa_nil)))))
   (pss_cons (ps_fld (pv 0) (pe_callTy call_list_of (by rfl) T.z_list bt_list (pa_cons (pv 1) pa_nil)) rfl)
   (pss_cons (ps_fld (pv 0) (pe_callTy call_list_of (by rfl) T.z_list bt_list (pa_cons (pv 2) pa_nil)) rfl)
   (pss_cons (ps_fld (pv 0) (pe_comp (N':=["bag"]) (nt:=1) (caps:=[]) _ _ (CompScope.of (by kernel_rfl)) (pi_list (pv 3)) (fun _=>(pg_nameC (i:=0) ["bag"] (by decide +kernel) (by rfl))) (fun _=>pts_nil) (fun _=>(pe_callTy call_list_of (by rfl) T.z_list bt_list (pa_cons (pv 0) pa_nil)))) rfl)
   (pss_cons (ps_fld (pv 0) (pe_comp (N':=["bag"]) (nt:=1) (caps:=[]) _ _ (CompScope.of (by kernel_rfl)) (pi_list (pv 4)) (fun _=>(pg_nameC (i:=0) ["bag"] (by decide +kernel) (by rfl))) (fun _=>pts_nil) (fun _=>(pe_callTy call_list_of (by rfl) T.z_list bt_list (pa_cons (pv 0) pa_nil)))) rfl)
   (pss_one (ps_fld (pv 0) (pe_callTy call_list_of (by rfl) T.z_list bt_list (pa_cons (pv 5) pa_nil)) rfl))))))))))),?_⟩
  try dsimp only [kx1,kx2,kx3,Cx.nox,Cx.wish]
  have tl:=tr.length
  have gl:=gr.length
  have lb:(vstrs N.bowls).length=N.bowls.length:=List.length_map ..
  have ld:(vstrs N.doors).length=N.doors.length:=List.length_map ..
  refine ⟨_,rfl,pb,N.bowls,1,6,rfl,hb,by have:=ok.b1; omega,by have:=ok.b6; omega,by have:=ok.b6; omega,ok.bn,ok.bd,fun H1 S1=>?_⟩
  refine ⟨_,rfl,pd,N.doors,0,8,rfl,S1.seq hd,by omega,by have:=ok.d8; omega,by have:=ok.d8; omega,ok.dn,ok.dd,fun H2 S2=>?_⟩
  have S12:=S1.trans S2
  refine ⟨_,rfl,_,rfl,pd,_,rfl,.inl (S12.seq hd),_,rfl,pb,_,rfl,.inl (S12.seq hb),pt,ts,N.takes,N.bowls.length,by rw [ld,lb,ok.tl]; rfl,S12.seq ht,tr.same S12,ok.tk,?_⟩
  refine ⟨_,rfl,_,rfl,pd,_,rfl,.inl (S12.seq hd),_,rfl,pb,_,rfl,.inl (S12.seq hb),pg,gs,N.gives,N.bowls.length,by rw [ld,lb,ok.gl]; rfl,S12.seq hg,gr.same S12,ok.gv,?_⟩
  refine ⟨_,rfl,by show 1≤sizeLine; decide,fun q0 m0=>?_⟩
  have U0:=S12.upd m0 (o:=.lst [V.ref pf])
  refine ⟨_,rfl,pb,_,rfl,.inl (U0.seq hb),q0,[pf],[N.first],N.bowls.length,by rw [lb]; rfl,SqL.of upd_same,.cons (U0 _ _ hf) .nil,(fun r hr=>by rw [List.mem_singleton.mp hr]; exact ok.fs),?_⟩
  generalize upd H2 q0 (.lst [V.ref pf])=H3 at U0
  have x3:=U0 _ _ hx
  have k3:But x H H3:=U0.but
  refine ⟨_,rfl,pb,_,rfl,.inl (U0.seq hb),fun b nb=>?_⟩
  have nxb:x≠b:=ne_of_none x3 nb
  refine ⟨_,rfl,x,AR.C_Net,dx,[],rfl,by rw [upd_ne nxb]; exact x3,T.cl_Net,T.n_Net_bowls,by show 0<1000; decide,?_⟩
  have k4:But x H3 _:=But.step (x:=x) (o:=.lst (vstrs N.bowls)) (o':=.ins AR.C_Net dx (nf1 (.ref b))) nb
  have x4:=upd_same (H:=upd H3 b (.lst (vstrs N.bowls))) (a:=x) (o:=.ins AR.C_Net dx (nf1 (.ref b)))
  have b4:upd (upd H3 b (.lst (vstrs N.bowls))) x (.ins AR.C_Net dx (nf1 (.ref b))) b=some (.lst (vstrs N.bowls)):=by rw [upd_ne (Ne.symm nxb),upd_same]
  generalize hH4:upd (upd H3 b (.lst (vstrs N.bowls))) x (.ins AR.C_Net dx (nf1 (.ref b)))=H4 at k4 x4 b4
  have a4:=k3.trans k4
  refine ⟨_,rfl,pd,_,rfl,.inl (by rw [show upd (upd H3 b (.lst (vstrs N.bowls))) x (.ins AR.C_Net dx (putF "bowls" (V.ref b) []))=H4 from hH4]; exact a4.seq hx hd),?_⟩
  rw [show upd (upd H3 b (.lst (vstrs N.bowls))) x (.ins AR.C_Net dx (putF "bowls" (V.ref b) []))=H4 from hH4]
  intro d nd
  have nxd:x≠d:=ne_of_none x4 nd
  refine ⟨_,rfl,x,AR.C_Net,dx,_,rfl,by rw [upd_ne nxd]; exact x4,T.cl_Net,T.n_Net_doors,by show 1<1000; decide,?_⟩
  rw [put_n2]
  have k5:But x H4 _:=But.step (x:=x) (o:=.lst (vstrs N.doors)) (o':=.ins AR.C_Net dx (nf2 (.ref b) (.ref d))) nd
  have x5:=upd_same (H:=upd H4 d (.lst (vstrs N.doors))) (a:=x) (o:=.ins AR.C_Net dx (nf2 (.ref b) (.ref d)))
  have d5:upd (upd H4 d (.lst (vstrs N.doors))) x (.ins AR.C_Net dx (nf2 (.ref b) (.ref d))) d=some (.lst (vstrs N.doors)):=by rw [upd_ne (Ne.symm nxd),upd_same]
  have b5:=k5 _ _ b4 (Ne.symm nxb)
  generalize upd (upd H4 d (.lst (vstrs N.doors))) x (.ins AR.C_Net dx (nf2 (.ref b) (.ref d)))=H5 at k5 x5 d5 b5 ⊢
  have a5:=a4.trans k5
  refine ⟨_,rfl,pt,rfl,⟨_,a5.seq hx ht⟩,?_⟩
  refine comp_copies (K:=K) (τ:=[]) (fun _=>rfl) (a5.seq hx ht) (a5.rows hx tr) (by have:=ok.tl; have:=ok.d8; omega) fun H6 ts' S6 R6 f6 t nt=>?_
  have x6:=S6 _ _ x5
  have nxt:x≠t:=ne_of_none x6 nt
  refine ⟨_,rfl,x,AR.C_Net,dx,_,rfl,by rw [upd_ne nxt]; exact x6,T.cl_Net,T.n_Net_takes,by show 2<1000; decide,?_⟩
  rw [put_n3]
  have k7:But x H6 _:=But.step (x:=x) (o:=.lst (ts'.map V.ref)) (o':=.ins AR.C_Net dx (nf3 (.ref b) (.ref d) (.ref t))) nt
  have x7:=upd_same (H:=upd H6 t (.lst (ts'.map V.ref))) (a:=x) (o:=.ins AR.C_Net dx (nf3 (.ref b) (.ref d) (.ref t)))
  have t7:upd (upd H6 t (.lst (ts'.map V.ref))) x (.ins AR.C_Net dx (nf3 (.ref b) (.ref d) (.ref t))) t=some (.lst (ts'.map V.ref)):=by rw [upd_ne (Ne.symm nxt),upd_same]
  have b7:=k7 _ _ (S6 _ _ b5) (Ne.symm nxb)
  have d7:=k7 _ _ (S6 _ _ d5) (Ne.symm nxd)
  have r7:=k7.rows x6 R6
  generalize upd (upd H6 t (.lst (ts'.map V.ref))) x (.ins AR.C_Net dx (nf3 (.ref b) (.ref d) (.ref t)))=H7 at k7 x7 t7 b7 d7 r7 ⊢
  have a7:=a5.trans (S6.but.trans k7)
  refine ⟨_,rfl,pg,rfl,⟨_,a7.seq hx hg⟩,?_⟩
  refine comp_copies (K:=K) (τ:=[]) (fun _=>rfl) (a7.seq hx hg) (a7.rows hx gr) (by have:=ok.gl; have:=ok.d8; omega) fun H8 gs' S8 R8 f8 g ng=>?_
  have x8:=S8 _ _ x7
  have nxg:x≠g:=ne_of_none x8 ng
  refine ⟨_,rfl,x,AR.C_Net,dx,_,rfl,by rw [upd_ne nxg]; exact x8,T.cl_Net,T.n_Net_gives,by show 3<1000; decide,?_⟩
  rw [put_n4]
  have k9:But x H8 _:=But.step (x:=x) (o:=.lst (gs'.map V.ref)) (o':=.ins AR.C_Net dx (nf4 (.ref b) (.ref d) (.ref t) (.ref g))) ng
  have x9:=upd_same (H:=upd H8 g (.lst (gs'.map V.ref))) (a:=x) (o:=.ins AR.C_Net dx (nf4 (.ref b) (.ref d) (.ref t) (.ref g)))
  have g9:upd (upd H8 g (.lst (gs'.map V.ref))) x (.ins AR.C_Net dx (nf4 (.ref b) (.ref d) (.ref t) (.ref g))) g=some (.lst (gs'.map V.ref)):=by rw [upd_ne (Ne.symm nxg),upd_same]
  have b9:=k9 _ _ (S8 _ _ b7) (Ne.symm nxb)
  have d9:=k9 _ _ (S8 _ _ d7) (Ne.symm nxd)
  have t9:=k9 _ _ (S8 _ _ t7) (Ne.symm nxt)
  have r9:=k9.rows x8 (r7.same S8)
  have q9:=k9.rows x8 R8
  generalize upd (upd H8 g (.lst (gs'.map V.ref))) x (.ins AR.C_Net dx (nf4 (.ref b) (.ref d) (.ref t) (.ref g)))=H9 at k9 x9 g9 b9 d9 t9 r9 q9 ⊢
  have a9:=a7.trans (S8.but.trans k9)
  refine ⟨_,rfl,pf,_,rfl,.inl (a9.seq hx (SqL.of hf)),fun f nf=>?_⟩
  have nxf:x≠f:=ne_of_none x9 nf
  refine ⟨_,rfl,x,AR.C_Net,dx,_,rfl,by rw [upd_ne nxf]; exact x9,T.cl_Net,T.n_Net_first,by show 4<1000; decide,?_⟩
  rw [put_n5]
  have k10:But x H9 _:=But.step (x:=x) (o:=.lst (vints N.first)) (o':=.ins AR.C_Net dx (netF b d t g f)) nf
  have free:∀ {Ha:Hp} {q:Addr} {o:HO},But x H Ha→Ha x=some o→Ha q=none→H q=none:=fun k e n=>k.free (C:=AR.C_Net) (dx:=dx) (fs:=[]) e n
  refine hQ b d t g f ts' gs' _ (fun a ha=>?_) (fun q o e n=>k10 _ _ (a9 _ _ e n) n) ⟨upd_same,k10 _ _ b9 (Ne.symm nxb),k10 _ _ d9 (Ne.symm nxd),k10 _ _ t9 (Ne.symm nxt),k10.rows x9 r9,k10 _ _ g9 (Ne.symm nxg),k10.rows x9 q9,by rw [upd_ne (Ne.symm nxf),upd_same]⟩
  rcases List.mem_append.mp ha with ha | ha
  ·rcases List.mem_append.mp ha with ha | ha
   ·simp only [List.mem_cons,List.not_mem_nil,or_false] at ha
    rcases ha with rfl | rfl | rfl | rfl | rfl
    ·exact free k3 x3 nb
    ·exact free a4 x4 nd
    ·exact free (a5.trans S6.but) x6 nt
    ·exact free (a7.trans S8.but) x8 ng
    ·exact free a9 x9 nf
   ·exact free a5 x5 (f6 a ha)
  ·exact free a7 x7 (f8 a ha)
theorem sc_law_made:FnScope ["parts","bowls","doors"] ["parts"] (defScope s_law_made):=⟨rfl,rfl,rfl,by decide +kernel,rfl,by decide +kernel,by decide +kernel⟩
set_option maxHeartbeats 4000000 in
theorem ok_law_made (T:Txt K mg AR FR):FnOk P w K mg base CX0 5 AR.f_law_made FR.d_law_made ["parts"] (sp_law_made AR.C_Net K):=by
 have G_Net_init:FnOk P w K mg base CX0 3 AR.f_Net_init FR.d_Net_init _ (sp_Net_init AR.C_Net K):=ok_Net_init T
 refine T.u_law_made.F.ok sc_law_made (fun vs H Q E h=>?_) (fun cdv A outer s H vs Q E hr h=>?_)
 ·obtain ⟨p,pt,pg,pf,ts,gs,z,tk,gv,fs,rfl,P,o,hQ⟩:=h
  rfl
 ·obtain ⟨p,pt,pg,pf,ts,gs,z,tk,gv,fs,rfl,P,o,hQ⟩:=h
  refine ⟨_,(pss_cons (ps_set (i:=1) sc_law_made.nd rfl (Or.inl rfl) (pe_slice sl_list (pe_lst (pa_cons pe_str (pa_cons pe_str (pa_cons pe_str (pa_cons pe_str (pa_cons pe_str (pa_cons pe_str pa_nil))))))) po_none (po_some (pe_callB call_len_seq (by rfl) T.z_len bt_len (pa_cons (pe_ix ix_list (pv 0) pe_int (fun _ _=>rfl)) pa_nil)))))
   (pss_cons (ps_set (i:=2) sc_law_made.nd rfl (Or.inl rfl) (pe_slice sl_list (pe_lst (pa_cons pe_str (pa_cons pe_str (pa_cons pe_str (pa_cons pe_str (pa_cons pe_str (pa_cons pe_str (pa_cons pe_str (pa_cons pe_str pa_nil))))))))) po_none (po_some (pe_callB call_len_seq (by rfl) T.z_len bt_len (pa_cons (pe_ix ix_list (pv 0) pe_int (fun _ _=>rfl)) pa_nil)))))
   (pss_one (ps_ret (pe_make T.mk_Net G_Net_init (hr.mono (by decide)) (by rfl) T.mC_Net T.b_Net_init .nil pass0 (pa_cons (pv 1) (pa_cons (pv 2) (pa_cons (pe_comp (N':=["one"]) (nt:=1) (caps:=[]) _ _ (CompScope.of (by kernel_rfl)) (pi_list (pe_ix ix_list (pv 0) pe_int (fun _ _=>rfl))) (fun _=>(pg_nameC (i:=0) ["one"] (by decide +kernel) (by rfl))) (fun _=>pts_nil) (fun _=>(pe_callTy call_list_of (by rfl) T.z_list bt_list (pa_cons (pv 0) pa_nil)))) (pa_cons (pe_comp (N':=["one"]) (nt:=1) (caps:=[]) _ _ (CompScope.of (by kernel_rfl)) (pi_list (pe_ix ix_list (pv 0) pe_int (fun _ _=>rfl))) (fun _=>(pg_nameC (i:=0) ["one"] (by decide +kernel) (by rfl))) (fun _=>pts_nil) (fun _=>(pe_callTy call_list_of (by rfl) T.z_list bt_list (pa_cons (pv 0) pa_nil)))) (pa_cons (pe_callTy call_list_of (by rfl) T.z_list bt_list (pa_cons (pe_ix ix_list (pv 0) pe_int (fun _ _=>rfl)) pa_nil)) pa_nil)))))))))),?_⟩
  try dsimp only [kx1,kx2,kx3,Cx.nox,Cx.wish]
  have ok:=netP_ok o
  have z6:=o.z6
  have t8:=o.t8
  have gl:=o.gl
  have tl:=P.tr.length
  refine ⟨by show 6≤sizeLine; decide,fun l1 n1=>?_⟩
  have U1:=(Same.refl H).upd n1 (o:=.lst vsixB)
  have P1:=P.same U1
  refine ⟨_,rfl,p,_,_,_,rfl,rfl,SqL.of P1.top,rfl,pf,_,rfl,.inl (SqL.of P1.hf),_,rfl,l1,vsixB,rfl,SqL.of upd_same,fun b1 nb1=>?_⟩
  rw [ints_len,cut_sixB]
  have U2:=U1.upd nb1 (o:=.lst (vstrs (sixB.take fs.length)))
  have hb1:=upd_same (H:=upd H l1 (.lst vsixB)) (a:=b1) (o:=.lst (vstrs (sixB.take fs.length)))
  generalize upd (upd H l1 (.lst vsixB)) b1 (.lst (vstrs (sixB.take fs.length)))=H1 at U2 hb1 ⊢
  have P2:=P.same U2
  refine ⟨by show 8≤sizeLine; decide,fun l2 n2=>?_⟩
  have U3:=(Same.refl H1).upd n2 (o:=.lst veitD)
  have P3:=P2.same U3
  refine ⟨_,rfl,p,_,_,_,rfl,rfl,SqL.of P3.top,rfl,pt,_,rfl,.inl (SqL.of P3.ht),_,rfl,l2,veitD,rfl,SqL.of upd_same,fun d1 nd1=>?_⟩
  rw [List.length_map,tl,cut_eitD]
  have U4:=U3.upd nd1 (o:=.lst (vstrs (eitD.take tk.length)))
  have hd1:=upd_same (H:=upd H1 l2 (.lst veitD)) (a:=d1) (o:=.lst (vstrs (eitD.take tk.length)))
  have hb2:=U4 _ _ hb1
  have U5:=U2.trans U4
  generalize upd (upd H1 l2 (.lst veitD)) d1 (.lst (vstrs (eitD.take tk.length)))=H2 at U4 U5 hb2 hd1 ⊢
  have P5:=P.same U5
  refine ⟨_,rfl,_,rfl,_,rfl,p,_,_,_,rfl,rfl,SqL.of P5.top,rfl,pt,rfl,⟨_,SqL.of P5.ht⟩,?_⟩
  refine comp_copies (K:=K) (τ:=[]) (fun _=>rfl) (SqL.of P5.ht) P5.tr (by omega) fun H6 ts' S6 R6 f6 t nt=>?_
  have V6:=S6.upd nt (o:=.lst (ts'.map V.ref))
  have ht6:=upd_same (H:=H6) (a:=t) (o:=.lst (ts'.map V.ref))
  have R6':=R6.same ((Same.refl H6).upd nt (o:=.lst (ts'.map V.ref)))
  generalize upd H6 t (.lst (ts'.map V.ref))=H7 at V6 ht6 R6' ⊢
  have P7:=P5.same V6
  refine ⟨_,rfl,p,_,_,_,rfl,rfl,SqL.of P7.top,rfl,pg,rfl,⟨_,SqL.of P7.hg⟩,?_⟩
  refine comp_copies (K:=K) (τ:=[]) (fun _=>rfl) (SqL.of P7.hg) P7.gr (by omega) fun H8 gs' S8 R8 f8 g ng=>?_
  have V8:=S8.upd ng (o:=.lst (gs'.map V.ref))
  have hg8:=upd_same (H:=H8) (a:=g) (o:=.lst (gs'.map V.ref))
  have R8':=R8.same ((Same.refl H8).upd ng (o:=.lst (gs'.map V.ref)))
  generalize upd H8 g (.lst (gs'.map V.ref))=H9 at V8 hg8 R8' ⊢
  have P9:=P7.same V8
  refine ⟨_,rfl,p,_,_,_,rfl,rfl,SqL.of P9.top,rfl,pf,_,rfl,.inl (SqL.of P9.hf),fun f nf=>?_⟩
  have V10:=(Same.refl H9).upd nf (o:=.lst (vints fs))
  have hf10:=upd_same (H:=H9) (a:=f) (o:=.lst (vints fs))
  generalize upd H9 f (.lst (vints fs))=H10 at V10 hf10 ⊢
  have U10:=((U5.trans V6).trans V8).trans V10
  intro x dx nx ndx ne
  have nx':upd H10 dx (.own x) x=none:=by rw [upd_ne (Ne.symm ne)]; exact nx
  have U:=((Same.refl H10).upd ndx (o:=.own x)).upd nx' (o:=.ins AR.C_Net dx [])
  have W6:=(V8.trans V10).trans U
  have W7:=V6.trans W6
  refine ⟨x,dx,b1,d1,t,g,f,ts',gs',netP tk gv fs,rfl,upd_same,ok,SqL.of (W7 _ _ hb2),SqL.of (W7 _ _ hd1),SqL.of (W6 _ _ ht6),R6'.same W6,SqL.of ((V10.trans U) _ _ hg8),R8'.same (V10.trans U),U _ _ hf10,fun b2 d2 t2 g2 f2 ts2 gs2 H2 fr kp NI=>⟨rfl,?_⟩⟩
  exact hQ x dx b2 d2 t2 g2 f2 ts2 gs2 H2 (U10.free nx) (U10.trans fun q o e=>kp q o (U q o e) (ne_of_none e nx)) NI ok
theorem sc_unit:FnScope ["place","width"] ["place","width"] (defScope s_unit):=⟨rfl,rfl,rfl,by decide +kernel,rfl,by decide +kernel,by decide +kernel⟩
set_option maxHeartbeats 4000000 in
theorem ok_unit (T:Txt K mg AR FR):FnOk P w K mg base CX0 1 AR.f_unit FR.d_unit ["place","width"] (sp_unit K):=by
 refine T.u_unit.F.ok sc_unit (fun vs H Q E h=>?_) (fun cdv A outer s H vs Q E hr h=>?_)
 ·obtain ⟨p,w',rfl,hw,hQ⟩:=h
  rfl
 ·obtain ⟨p,w',rfl,hw,hQ⟩:=h
  refine ⟨_,(pss_one (ps_ret (pe_comp (N':=["other","place"]) (nt:=1) (caps:=[0]) _ _ (CompScope.of (by kernel_rfl)) (pi_range1 (by rfl) T.z_range (pa_cons (pv 1) pa_nil)) (fun _=>(pg_nameC (i:=0) ["other","place"] (by decide +kernel) (by rfl))) (fun _=>pts_nil) (fun _=>(pe_ifExp (pt_cmpR op_eq (pv 0) (pv 1) (nomark _)) pe_int pe_int))))),?_⟩
  try dsimp only [kx1,kx2,kx3,Cx.nox,Cx.wish]
  refine ⟨_,rfl,_,rfl,by omega,by omega,?_⟩
  rw [Int.toNat_natCast]
  refine comp_at (τ:=[some (.int p)]) (fun j=>if j=p then 1 else 0) (small70 (by omega)) (fun B j H2 hj S2 Q' hq=>?_) fun H2 S2 q nq=>hQ q _ (S2.free nq) (S2.upd nq) upd_same
  have h:=hq H2 (Same.refl _)
  refine ⟨_,rfl,_,rfl,rfl,_,rfl,?_⟩
  refine iteD (fun e=>?_) (fun e=>?_)
  ·rw [if_pos (by injection e with e; omega)] at h
   exact h
  ·rw [if_neg (fun z=>e (by rw [z,Int.zero_add]))] at h
   exact h
theorem sc_with_makings:FnScope ["rows"] ["rows"] (defScope s_with_makings):=⟨rfl,rfl,rfl,by decide +kernel,rfl,by decide +kernel,by decide +kernel⟩
set_option maxHeartbeats 4000000 in
theorem ok_with_makings (T:Txt K mg AR FR):FnOk P w K mg base CX0 2 AR.f_with_makings FR.d_with_makings ["rows"] (sp_with_makings K):=by
 have G_unit:FnOk P w K mg base CX0 1 AR.f_unit FR.d_unit _ (sp_unit K):=ok_unit T
 refine T.u_with_makings.F.ok sc_with_makings (fun vs H Q E h=>?_) (fun cdv A outer s H vs Q E hr h=>?_)
 ·obtain ⟨a,as,R,rfl,ha,hR,r8,hw,hQ⟩:=h
  rfl
 ·obtain ⟨a,as,R,rfl,ha,hR,r8,hw,hQ⟩:=h
  refine ⟨_,(pss_one (ps_ret (pe_comp (N':=["place","row","rows"]) (nt:=2) (caps:=[0]) _ _ (CompScope.of (by kernel_rfl)) (pi_enum (by rfl) T.z_enumerate (pa_cons (pv 0) pa_nil)) (fun _=>(pg_tup (by rfl) (pgs_cons (pg_nameC (i:=0) ["place","row","rows"] (by decide +kernel) (by rfl)) (pgs_cons (pg_nameC (i:=1) ["place","row","rows"] (by decide +kernel) (by rfl)) pgs_nil)))) (fun _=>pts_nil) (fun _=>(pe_op op_cat (pe_callTy call_list_of (by rfl) T.z_list bt_list (pa_cons (pv 1) pa_nil)) (pe_call G_unit (hr.mono (by decide)) (by rfl) T.u_unit.m T.u_unit.F.kp T.u_unit.b .nil pass0 (pa_cons (pv 0) (pa_cons (pe_callB call_len_seq (by rfl) T.z_len bt_len (pa_cons (pv 2) pa_nil)) pa_nil)))))))),?_⟩
  try dsimp only [kx1,kx2,kx3,Cx.nox,Cx.wish]
  have al:(as.map V.ref).length=R.length:=by rw [List.length_map,hR.length]
  refine ⟨_,rfl,a,_,rfl,ha,?_⟩
  refine comp_enumT (K:=K) (a:=a) (xs:=as.map V.ref) (fun i ys σ H2=>∃ (v w:Option V) (ls:List Addr),σ=[v,w,some (.ref a)]∧Same H H2∧ys=ls.map V.ref∧Rows H2 ls ((mkR R).take i)) ⟨none,none,[],rfl,Same.refl _,rfl,.nil⟩ ?_ ?_ ?_
  ·rintro i ys σ H2 hi ⟨v,w,ls,rfl,S,rfl,B⟩
   refine ⟨S.seq ha,?_⟩
   rw [List.length_map,B.length,List.length_take]
   have mkl:(mkR R).length=R.length:=by unfold mkR; rw [List.length_map,List.length_range]
   exact small70 (by omega)
  ·rintro B i y q0 ys σ H2 hy ⟨v,w,ls,rfl,S,rfl,Bk⟩ nq0
   obtain ⟨s,hs,rfl⟩:=refs_get hy
   obtain ⟨r,hr,he⟩:=Paired.getL hR hs
   have hi:=(List.getElem?_eq_some_iff.mp hr).1
   have rl:=hw r (List.mem_of_getElem? hr)
   have U:=(Same.refl H2).upd nq0 (o:=.tup [.int (i:Nat),.ref s])
   refine ⟨q0,[_,_],rfl,SqT.of upd_same,rfl,_,[_],rfl,_,[],rfl,rfl,?_⟩
   try dsimp only [gName,gNil,tTrue]
   rw [if_pos rfl]
   generalize upd H2 q0 (.tup [.int (i:Nat),.ref s])=H3 at U ⊢
   have he3:=(S.trans U) _ _ he
   refine ⟨_,rfl,s,_,rfl,.inl (SqL.of he3),fun l nl=>?_⟩
   have V1:=(Same.refl H3).upd nl (o:=.lst (vints r))
   have hl:=upd_same (H:=H3) (a:=l) (o:=.lst (vints r))
   generalize upd H3 l (.lst (vints r))=H4 at V1 hl ⊢
   refine ⟨_,rfl,_,rfl,a,_,rfl,.inl (((S.trans U).trans V1).seq ha),i,R.length,by rw [al]; rfl,by omega,fun q H5 nq S5 hq=>?_⟩
   refine ⟨l,q,_,_,rfl,rfl,S5 _ _ hl,hq,by rw [ints_len,ints_len,unitL_len]; exact Nat.le_of_lt (small70 (by omega)),fun p np=>?_⟩
   have V5:=((U.trans V1).trans S5).upd np (o:=.lst (vints r++vints (unitL R.length i)))
   refine ⟨_,_,ls++[p],rfl,S.trans V5,(vrefs_snoc _ _).symm,?_⟩
   have er:R.getD i []=r:=by rw [List.getD_eq_getElem?_getD,hr]; rfl
   have em:(mkR R)[i]?=some (r++unitL R.length i):=by
    unfold mkR
    rw [List.getElem?_map,List.getElem?_range hi,Option.map_some,er]
   rw [List.take_add_one,em,Option.toList_some]
   refine (Bk.same V5).snoc ?_
   rw [upd_same]
   unfold vints
   rw [List.map_append]
  ·rintro ys σ H2 ⟨v,w,ls,rfl,S,rfl,B⟩ p np
   have ml:(mkR R).length=R.length:=by unfold mkR; rw [List.length_map,List.length_range]
   rw [al,← ml,List.take_length] at B
   exact hQ p ls _ (S.free np) (S.upd np) upd_same (B.same ((Same.refl H2).upd np))
theorem sc_place_of_first:FnScope ["rows","place","chosen","row"] ["rows","place"] (defScope s_place_of_first):=⟨rfl,rfl,rfl,by decide +kernel,rfl,by decide +kernel,by decide +kernel⟩
set_option maxHeartbeats 4000000 in
theorem ok_place_of_first (T:Txt K mg AR FR):FnOk P w K mg base CX0 1 AR.f_place_of_first FR.d_place_of_first ["rows","place"] (sp_place_of_first K):=by
 refine T.u_place_of_first.F.ok sc_place_of_first (fun vs H Q E h=>?_) (fun cdv A outer s H vs Q E hr h=>?_)
 ·obtain ⟨a,ls,L,z,p,rfl,ha,R,hz,hp,hC,hN⟩:=h
  rfl
 ·obtain ⟨a,ls,L,z,p,rfl,ha,R,hz,hp,hC,hN⟩:=h
  refine ⟨_,(pss_cons (ps_for PassesOwn.never rfl (pi_enum (by rfl) T.z_enumerate (pa_cons (pv 0) pa_nil)) (pg_tup (by rfl) (pgs_cons (pg_name (i:=2) sc_place_of_first.nd (by rfl) (Or.inl rfl)) (pgs_cons (pg_name (i:=3) sc_place_of_first.nd (by rfl) (Or.inl rfl)) pgs_nil)))
   (pss_one (ps_if (pt_cmpR op_ne (pe_ix ix_list (pv 3) (pv 1) (fun _ _=>rfl)) pe_int (nomark _)) (pss_one (ps_ret (pv 2))) pss_nil)))
   (pss_one (ps_ret (pe_un un_neg pe_int)))),?_⟩
  try dsimp only [kx1,kx2,kx3,Cx.nox,Cx.wish]
  refine ⟨_,rfl,a,_,rfl,ha,?_⟩
  refine for_enum (K:=K) (a:=a) (xs:=ls.map V.ref) (fun i σ H2=>∃ (o2 o3:Option V),σ=[some (.ref a),some (.int p),o2,o3]∧Same H H2∧∀ j,j<i→(L.getD j []).getD p 0=0) ⟨none,none,rfl,Same.refl _,fun j h=>absurd h (Nat.not_lt_zero _)⟩ (fun i σ H2 _ hp4=>by obtain ⟨_,_,_,S,_⟩:=hp4; exact S.seq ha) ?_ ?_
  ·rintro i y q0 σ H2 hy ⟨o2,o3,rfl,S,hd⟩ nq0
   obtain ⟨s,hs,rfl⟩:=refs_get hy
   obtain ⟨r,hr,he⟩:=Paired.getL R hs
   have hi:=(List.getElem?_eq_some_iff.mp hr).1
   have rz:=hz r (List.mem_of_getElem? hr)
   have er:L.getD i []=r:=by rw [List.getD_eq_getElem?_getD,hr]; rfl
   have U:=(Same.refl H2).upd nq0 (o:=.tup [.int (i:Nat),.ref s])
   refine ⟨q0,[_,_],rfl,SqT.of upd_same,rfl,_,[_],rfl,_,[],rfl,rfl,?_⟩
   try dsimp only [gName,gNil]
   generalize upd H2 q0 (.tup [.int (i:Nat),.ref s])=H3 at U ⊢
   refine ⟨_,rfl,_,rfl,s,_,_,_,rfl,rfl,SqL.of ((S.trans U) _ _ he),at_zs (by omega),rfl,_,rfl,?_⟩
   refine iteND (fun hne=>?_) (fun he0=>?_)
   ·exact ⟨_,rfl,hC i hi (by rw [er]; exact fun z=>hne (by rw [z])) hd _ (S.trans U)⟩
   ·refine ⟨_,_,rfl,S.trans U,fun j hj=>?_⟩
    rcases Nat.lt_succ_iff_lt_or_eq.mp hj with w | w
    ·exact hd j w
    ·rw [w,er]; exact vint_eq.mp he0
  ·rintro σ H2 ⟨o2,o3,rfl,S,hd⟩
   rw [List.length_map,R.length] at hd
   refine ⟨_,rfl,hN (fun r hr=>?_) _ S⟩
   obtain ⟨j,hj,rfl⟩:=List.mem_iff_getElem.mp hr
   rw [← getDr hj]
   exact hd j hj
theorem sc_times:FnScope ["many","ones"] ["many","ones"] (defScope s_times):=⟨rfl,rfl,rfl,by decide +kernel,rfl,by decide +kernel,by decide +kernel⟩
set_option maxHeartbeats 4000000 in
theorem ok_times (T:Txt K mg AR FR):FnOk P w K mg base CX0 1 AR.f_times FR.d_times ["many","ones"] (sp_times K):=by
 refine T.u_times.F.ok sc_times (fun vs H Q E h=>?_) (fun cdv A outer s H vs Q E hr h=>?_)
 ·obtain ⟨m,b,ys,rfl,hb,hz,hm,hy,hQ⟩:=h
  rfl
 ·obtain ⟨m,b,ys,rfl,hb,hz,hm,hy,hQ⟩:=h
  refine ⟨_,(pss_one (ps_ret (pe_comp (N':=["one","many"]) (nt:=1) (caps:=[0]) _ _ (CompScope.of (by kernel_rfl)) (pi_list (pv 1)) (fun _=>(pg_nameC (i:=0) ["one","many"] (by decide +kernel) (by rfl))) (fun _=>pts_nil) (fun _=>(pe_op op_mulL (pv 1) (pv 0)))))),?_⟩
  try dsimp only [kx1,kx2,kx3,Cx.nox,Cx.wish]
  refine ⟨_,rfl,b,rfl,⟨_,hb⟩,?_⟩
  exact comp_mapI (K:=K) (τ:=[some (.int m)]) (fun y=>m*y) hb (small70 hz) (fun B x H2 hx S2 Q' hq=>⟨_,rfl,_,rfl,_,_,rfl,rfl,⟨hm,hy x hx⟩,hq _ (Same.refl _)⟩) fun H2 S2 p np=>hQ p _ (S2.free np) (S2.upd np) upd_same
theorem sc_upright:FnScope ["row","place"] ["row","place"] (defScope s_upright):=⟨rfl,rfl,rfl,by decide +kernel,rfl,by decide +kernel,by decide +kernel⟩
set_option maxHeartbeats 4000000 in
theorem ok_upright (T:Txt K mg AR FR):FnOk P w K mg base CX0 2 AR.f_upright FR.d_upright ["row","place"] (sp_upright K):=by
 have G_times:FnOk P w K mg base CX0 1 AR.f_times FR.d_times _ (sp_times K):=ok_times T
 refine T.u_upright.F.ok sc_upright (fun vs H Q E h=>?_) (fun cdv A outer s H vs Q E hr h=>?_)
 ·obtain ⟨a,r,p,rfl,ha,hp,r70,hb,hQ⟩:=h
  rfl
 ·obtain ⟨a,r,p,rfl,ha,hp,r70,hb,hQ⟩:=h
  refine ⟨_,(pss_one (ps_ret (pe_ifExp (pt_cmpR op_lt (pe_ix ix_list (pv 0) (pv 1) (fun _ _=>rfl)) pe_int (nomark _)) (pe_call G_times (hr.mono (by decide)) (by rfl) T.u_times.m T.u_times.F.kp T.u_times.b .nil pass0 (pa_cons (pe_un un_neg pe_int) (pa_cons (pv 0) pa_nil))) (pv 0)))),?_⟩
  try dsimp only [kx1,kx2,kx3,Cx.nox,Cx.wish]
  unfold upr at hQ
  refine ⟨_,rfl,_,rfl,a,_,_,_,rfl,rfl,SqL.of ha,at_zs hp,_,_,rfl,rfl,_,rfl,?_⟩
  refine iteD (fun h=>?_) (fun h=>?_)
  ·rw [if_pos h] at hQ
   refine ⟨_,rfl,_,rfl,-1,a,r,rfl,SqL.of ha,r70,by show 1<2^1040000; exact Nat.one_lt_two_pow (by decide),hb,fun q H' nq S hq=>hQ q H' S hq⟩
  ·rw [if_neg h] at hQ
   exact ⟨_,rfl,hQ a H (Same.refl _) ha⟩
theorem sc_common_divisor:FnScope ["one","other","rest"] ["one","other"] (defScope s_common_divisor):=⟨rfl,rfl,rfl,by decide +kernel,rfl,by decide +kernel,by decide +kernel⟩
set_option maxHeartbeats 4000000 in
theorem ok_common_divisor (T:Txt K mg AR FR):FnOk P w K mg base CX0 1 AR.f_common_divisor FR.d_common_divisor ["one","other"] (sp_common_divisor K):=by
 refine T.u_common_divisor.F.ok sc_common_divisor (fun vs H Q E h=>?_) (fun cdv A outer s H vs Q E hr h=>?_)
 ·obtain ⟨x,y,rfl,hQ⟩:=h
  rfl
 ·obtain ⟨x,y,rfl,hQ⟩:=h
  refine ⟨_,(pss_cons (ps_while PassesOwn.never (pt_cmpR op_ne (pv 1) pe_int (nomark _))
   (pss_cons (ps_set (i:=2) sc_common_divisor.nd rfl (Or.inl rfl) (pe_op op_mod (pv 0) (pv 1)))
   (pss_cons (ps_set (i:=0) sc_common_divisor.nd rfl (Or.inl rfl) (pv 1))
   (pss_one (ps_set (i:=1) sc_common_divisor.nd rfl (Or.inl rfl) (pv 2))))))
   (pss_one (ps_ret (pv 0)))),?_⟩
  try dsimp only [kx1,kx2,kx3,Cx.nox,Cx.wish]
  refine while_by (fun σ H2=>∃ (u v:Nat) (o:Option V),σ=[some (.int u),some (.int v),o]∧H2=H∧Nat.gcd u v=Nat.gcd x y) (fun σ _=>match σ with | [_,some (.int v),_]=>v.toNat | _=>0) ⟨x,y,none,rfl,rfl,rfl⟩ ?_ ?_
  ·rintro σ H2 ⟨u,v,o,rfl,rfl,hg⟩
   refine ⟨_,rfl,rfl,_,rfl,?_⟩
   refine iteND (fun hne=>?_) (fun he=>?_)
   ·have hv:0<v:=by
     rcases Nat.eq_zero_or_pos v with e | e
     ·exact absurd (by rw [e]; rfl) hne
     ·exact e
    refine ⟨_,rfl,_,rfl,_,_,rfl,rfl,(by show (0:Int)<(v:Int); omega),?_⟩
    refine ⟨_,rfl,_,rfl,?_⟩
    have em:(u:Int)%(v:Int)=((u%v:Nat):Int):=by simp
    refine ⟨⟨v,u%v,some (.int ((u%v:Nat):Int)),?_,rfl,?_⟩,?_⟩
    ·try dsimp only
     rw [em]
     rfl
    ·rw [← hg,Nat.gcd_comm u v,Nat.gcd_rec v u]
     exact Nat.gcd_comm _ _
    ·show ((u:Int)%(v:Int)).toNat<(v:Int).toNat
     rw [em]
     exact Nat.mod_lt _ hv
   ·have hv:v=0:=by have:=vint_eq.mp he; omega
    subst hv
    rw [Nat.gcd_zero_right] at hg
    subst hg
    exact ⟨_,rfl,hQ⟩
  ·rintro σ H2 Q1 Q2 h12 ⟨v1,e1,hs,b,e2,hq⟩
   exact ⟨v1,e1,hs,b,e2,h12 _ _ hq⟩
theorem sc_measure:FnScope ["ones","found","one"] ["ones"] (defScope s_measure):=⟨rfl,rfl,rfl,by decide +kernel,rfl,by decide +kernel,by decide +kernel⟩
set_option maxHeartbeats 4000000 in
theorem ok_measure (T:Txt K mg AR FR):FnOk P w K mg base CX0 2 AR.f_measure FR.d_measure ["ones"] (sp_measure K):=by
 have G_common_divisor:FnOk P w K mg base CX0 1 AR.f_common_divisor FR.d_common_divisor _ (sp_common_divisor K):=ok_common_divisor T
 refine T.u_measure.F.ok sc_measure (fun vs H Q E h=>?_) (fun cdv A outer s H vs Q E hr h=>?_)
 ·obtain ⟨a,xs,rfl,ha,hQ⟩:=h
  rfl
 ·obtain ⟨a,xs,rfl,ha,hQ⟩:=h
  refine ⟨_,(pss_cons (ps_set (i:=1) sc_measure.nd rfl (Or.inl rfl) pe_int)
   (pss_cons (ps_for PassesOwn.never rfl (pi_list (pv 0)) (pg_name (i:=2) sc_measure.nd (by rfl) (Or.inl rfl))
   (pss_one (ps_set (i:=1) sc_measure.nd rfl (Or.inl rfl) (pe_call G_common_divisor (hr.mono (by decide)) (by rfl) T.u_common_divisor.m T.u_common_divisor.F.kp T.u_common_divisor.b .nil pass0 (pa_cons (pv 1) (pa_cons (pe_callB call_abs (by rfl) T.z_abs bt_abs (pa_cons (pv 2) pa_nil)) pa_nil))))))
   (pss_one (ps_ret (pv 1))))),?_⟩
  try dsimp only [kx1,kx2,kx3,Cx.nox,Cx.wish]
  refine ⟨_,rfl,a,rfl,⟨_,ha⟩,for_list (K:=K) (a:=a) (xs:=vints xs) (fun i σ H2=>∃ o,σ=[some (.ref a),some (.int (gcdL (xs.take i):Nat)),o]∧H2=H) ⟨none,rfl,rfl⟩ (fun i σ H2 _ hp4=>by obtain ⟨_,_,e⟩:=hp4; exact e ▸ ha) ?_ ?_⟩
  ·rintro i x σ H2 hx ⟨o,rfl,rfl⟩
   obtain ⟨n,hn,rfl⟩:=ints_get hx
   refine ⟨_,rfl,_,rfl,n,rfl,?_⟩
   have ea:(if n<0 then -n else n)=((n.natAbs:Nat):Int):=by split<;>omega
   rw [ea]
   refine ⟨gcdL (xs.take i),n.natAbs,rfl,some (.int n),?_,rfl⟩
   rw [List.take_add_one,hn,Option.toList_some,gcdL_snoc]
   rfl
  ·rintro σ H2 ⟨o,rfl,rfl⟩
   rw [ints_len,List.take_length]
   exact ⟨_,rfl,hQ⟩
theorem sc_lowered:FnScope ["ones","divisor"] ["ones"] (defScope s_lowered):=⟨rfl,rfl,rfl,by decide +kernel,rfl,by decide +kernel,by decide +kernel⟩
set_option maxHeartbeats 4000000 in
theorem ok_lowered (T:Txt K mg AR FR):FnOk P w K mg base CX0 3 AR.f_lowered FR.d_lowered ["ones"] (sp_lowered K):=by
 have G_measure:FnOk P w K mg base CX0 2 AR.f_measure FR.d_measure _ (sp_measure K):=ok_measure T
 refine T.u_lowered.F.ok sc_lowered (fun vs H Q E h=>?_) (fun cdv A outer s H vs Q E hr h=>?_)
 ·obtain ⟨a,xs,rfl,ha,hz,hx,hQ⟩:=h
  rfl
 ·obtain ⟨a,xs,rfl,ha,hz,hx,hQ⟩:=h
  refine ⟨_,(pss_cons (ps_set (i:=1) sc_lowered.nd rfl (Or.inr rfl) (pe_call G_measure (hr.mono (by decide)) (by rfl) T.u_measure.m T.u_measure.F.kp T.u_measure.b .nil pass0 (pa_cons (pv 0) pa_nil)))
   (pss_cons (ps_if (pt_cmpR op_eq (pv 1) pe_int (nomark _)) (pss_one (ps_ret (pe_callTy call_list_of (by rfl) T.z_list bt_list (pa_cons (pv 0) pa_nil)))) pss_nil)
   (pss_one (ps_ret (pe_comp (N':=["one","divisor"]) (nt:=1) (caps:=[1]) _ _ (CompScope.of (by kernel_rfl)) (pi_list (pv 0)) (fun _=>(pg_nameC (i:=0) ["one","divisor"] (by decide +kernel) (by rfl))) (fun _=>pts_nil) (fun _=>(pe_op op_fdivC (pv 0) (pv 1)))))))),?_⟩
  try dsimp only [kx1,kx2,kx3,Cx.nox,Cx.wish]
  refine ⟨_,rfl,a,xs,rfl,ha,?_⟩
  refine ⟨_,rfl,rfl,_,rfl,?_⟩
  refine iteD (fun h0=>?_) (fun h0=>?_)
  ·have h0:gcdL xs=0:=by have:=vint_eq.mp h0; omega
   refine ⟨_,rfl,a,_,rfl,.inl ha,fun p hp=>hQ p _ hp ((Same.refl H).upd hp) ?_⟩
   rw [upd_same,lowL,if_pos h0]
  ·have h0:gcdL xs≠0:=fun e=>h0 (by rw [e]; rfl)
   have hlt:(gcdL xs:Int).natAbs<2^8999:=by
    rw [Int.natAbs_natCast]
    rcases gcdL_lt hx with q | q
    ·exact q
    ·exact absurd (gcdL_zero q) h0
   refine ⟨_,rfl,a,rfl,⟨_,ha⟩,?_⟩
   refine comp_mapI (K:=K) (τ:=[some (.int (gcdL xs:Nat))]) (fun y=>y/(gcdL xs:Int)) ha (small70 hz) (fun B x H2 hx S2 Q' hq=>⟨_,rfl,_,rfl,_,_,rfl,rfl,⟨by omega,hlt⟩,hq _ (Same.refl _)⟩) fun H2 S2 p np=>hQ p _ (S2.free np) (S2.upd np) ?_
   rw [upd_same,lowL,if_neg h0]
theorem sc_refuse_unlike:FnScope ["ones","others"] ["ones","others"] (defScope s_refuse_unlike):=⟨rfl,rfl,rfl,by decide +kernel,rfl,by decide +kernel,by decide +kernel⟩
set_option maxHeartbeats 4000000 in
theorem ok_refuse_unlike (T:Txt K mg AR FR):FnOk P w K mg base (CXF P w) 1 AR.f_refuse_unlike FR.d_refuse_unlike ["ones","others"] (sp_refuse_unlike AR.C_Unlike K):=by
 refine T.u_refuse_unlike.F.okF sc_refuse_unlike (fun vs H Q E h=>?_) (fun cdv A outer s H vs Q E hr h=>?_)
 ·obtain ⟨a,b,xs,ys,rfl,ha,hb,hQ,hE⟩:=h
  rfl
 ·obtain ⟨a,b,xs,ys,rfl,ha,hb,hQ,hE⟩:=h
  refine ⟨_,(pss_one (ps_if (pt_cmpR op_ne (pe_callB call_len_seq (by rfl) T.z_len bt_len (pa_cons (pv 0) pa_nil)) (pe_callB call_len_seq (by rfl) T.z_len bt_len (pa_cons (pv 1) pa_nil)) (nomark _)) (pss_one (ps_raise raiseF T.xp_Unlike (by rfl) T.mC_Unlike (pa_cons pe_str pa_nil))) pss_nil)),?_⟩
  try dsimp only [kx1,kx2,kx3,Cx.nox,Cx.wish]
  refine ⟨_,rfl,a,_,rfl,.inl ha,_,rfl,b,_,rfl,.inl hb,rfl,_,rfl,?_⟩
  refine iteND (fun hne=>?_) (fun he=>hQ (by have:=vint_eq.mp he; omega))
  exact ⟨by show 1≤sizeLine; decide,hE (fun z=>hne (by rw [z]))⟩
theorem sc_less:FnScope ["ones","others"] ["ones","others"] (defScope s_less):=⟨rfl,rfl,rfl,by decide +kernel,rfl,by decide +kernel,by decide +kernel⟩
set_option maxHeartbeats 4000000 in
theorem ok_less (T:Txt K mg AR FR):FnOk P w K mg base (CXF P w) 2 AR.f_less FR.d_less ["ones","others"] (sp_less AR.C_Unlike K):=by
 have G_refuse_unlike:FnOk P w K mg base (CXF P w) 1 AR.f_refuse_unlike FR.d_refuse_unlike _ (sp_refuse_unlike AR.C_Unlike K):=ok_refuse_unlike T
 refine T.u_less.F.okF sc_less (fun vs H Q E h=>?_) (fun cdv A outer s H vs Q E hr h=>?_)
 ·obtain ⟨a,b,xs,ys,rfl,ha,hb,hz,hQ,hE⟩:=h
  rfl
 ·obtain ⟨a,b,xs,ys,rfl,ha,hb,hz,hQ,hE⟩:=h
  refine ⟨_,(pss_cons (ps_expr (pe_call G_refuse_unlike (hr.mono (by decide)) (by rfl) T.u_refuse_unlike.m T.u_refuse_unlike.F.kp T.u_refuse_unlike.b .nil passF (pa_cons (pv 0) (pa_cons (pv 1) pa_nil))))
   (pss_one (ps_ret (pe_comp (N':=["one","other"]) (nt:=2) (caps:=[]) _ _ (CompScope.of (by kernel_rfl)) (pi_zip (by rfl) T.z_zip (pa_cons (pv 0) (pa_cons (pv 1) pa_nil))) (fun _=>(pg_tup (by rfl) (pgs_cons (pg_nameC (i:=0) ["one","other"] (by decide +kernel) (by rfl)) (pgs_cons (pg_nameC (i:=1) ["one","other"] (by decide +kernel) (by rfl)) pgs_nil)))) (fun _=>pts_nil) (fun _=>(pe_op op_sub (pv 0) (pv 1))))))),?_⟩
  try dsimp only [kx1,kx2,kx3,Cx.nox,Cx.wish]
  refine ⟨_,rfl,_,rfl,a,b,_,_,rfl,ha,hb,fun hl=>?_,fun h=>hE (by rw [ints_len,ints_len] at h; exact h)⟩
  rw [ints_len,ints_len] at hl
  refine ⟨_,rfl,_,rfl,a,b,_,_,rfl,ha,hb,?_⟩
  refine comp_zip1 (τ:=[]) (gInt fun i j=>i-j) (by rw [ints_len,ints_len]; exact hl) (by rw [ints_len]; exact small70 hz) ha hb ?_ ?_
  ·intro B x w H2 hx hw S Q' hq
   obtain ⟨i,_,rfl⟩:=ints_mem hx
   obtain ⟨j,_,rfl⟩:=ints_mem hw
   exact ⟨_,rfl,_,rfl,_,_,rfl,rfl,hq H2 (Same.refl _)⟩
  ·intro H2 S p hp
   rw [zip_ints (f:=fun i j=>i-j) fun _ _=>rfl]
   exact hQ hl p _ (S.free hp) (S.upd hp) upd_same
theorem sc_freed:FnScope ["row","line","place"] ["row","line","place"] (defScope s_freed):=⟨rfl,rfl,rfl,by decide +kernel,rfl,by decide +kernel,by decide +kernel⟩
set_option maxHeartbeats 4000000 in
theorem ok_freed (T:Txt K mg AR FR):FnOk P w K mg base CX0 4 AR.f_freed FR.d_freed ["row","line","place"] (sp_freed K):=by
 have G_lowered:FnOk P w K mg base CX0 3 AR.f_lowered FR.d_lowered _ (sp_lowered K):=ok_lowered T
 have G_less:FnOk P w K mg base (CXF P w) 2 AR.f_less FR.d_less _ (sp_less AR.C_Unlike K):=ok_less T
 have G_times:FnOk P w K mg base CX0 1 AR.f_times FR.d_times _ (sp_times K):=ok_times T
 refine T.u_freed.F.ok sc_freed (fun vs H Q E h=>?_) (fun cdv A outer s H vs Q E hr h=>?_)
 ·obtain ⟨a,b,r,l,z,p,k,bb,rfl,ha,hb,hr',hl,hp,z70,k5,br,bl,hQ⟩:=h
  rfl
 ·obtain ⟨a,b,r,l,z,p,k,bb,rfl,ha,hb,hr',hl,hp,z70,k5,br,bl,hQ⟩:=h
  refine ⟨_,(pss_one (ps_ret (pe_call G_lowered (hr.mono (by decide)) (by rfl) T.u_lowered.m T.u_lowered.F.kp T.u_lowered.b .nil pass0 (pa_cons (pe_call G_less.never (hr.mono (by decide)) (by rfl) T.u_less.m T.u_less.F.kp T.u_less.b .nil pass0 (pa_cons (pe_call G_times (hr.mono (by decide)) (by rfl) T.u_times.m T.u_times.F.kp T.u_times.b .nil pass0 (pa_cons (pe_ix ix_list (pv 1) (pv 2) (fun _ _=>rfl)) (pa_cons (pv 0) pa_nil))) (pa_cons (pe_call G_times (hr.mono (by decide)) (by rfl) T.u_times.m T.u_times.F.kp T.u_times.b .nil pass0 (pa_cons (pe_ix ix_list (pv 0) (pv 2) (fun _ _=>rfl)) (pa_cons (pv 1) pa_nil))) pa_nil))) pa_nil)))),?_⟩
  try dsimp only [kx1,kx2,kx3,Cx.nox,Cx.wish]
  have br':∀ x∈r,x.natAbs<2^8999:=fun x hx=>bg_lt (Nat.le_trans (bx_mono (Nat.le_succ k)) k5) (br x hx)
  have bl':∀ x∈l,x.natAbs<2^8999:=fun x hx=>bg_lt (Nat.le_trans (bx_mono (Nat.le_succ k)) k5) (bl x hx)
  refine ⟨_,rfl,_,rfl,b,_,_,_,rfl,rfl,SqL.of hb,at_zs (by omega),_,rfl,_,a,r,rfl,SqL.of ha,by omega,up104 (at_in (P:=fun x=>x.natAbs<2^8999) hl hp bl'),fun x hx=>up104 (br' x hx),fun q1 H1 nq1 S1 hq1=>?_⟩
  refine ⟨_,rfl,_,rfl,a,_,_,_,rfl,rfl,SqL.of (S1 _ _ ha),at_zs (by omega),_,rfl,_,b,l,rfl,SqL.of (S1 _ _ hb),by omega,up104 (at_in (P:=fun x=>x.natAbs<2^8999) hr' hp br'),fun x hx=>up104 (bl' x hx),fun q2 H2 nq2 S2 hq2=>?_⟩
  have l1:(r.map fun y=>l.getD p 0*y).length=z:=by rw [List.length_map]; exact hr'
  have l2:(l.map fun y=>r.getD p 0*y).length=z:=by rw [List.length_map]; exact hl
  refine ⟨q1,q2,_,_,rfl,SqL.of (S2 _ _ hq1),SqL.of hq2,by omega,fun _ q3 H3 nq3 S3 hq3=>?_,fun h=>absurd (by omega) h⟩
  refine ⟨q3,sub (r.map fun y=>l.getD p 0*y) (l.map fun y=>r.getD p 0*y),rfl,SqL.of hq3,by rw [sub_len l1 l2]; exact z70,fun x hx=>?_,fun q4 H4 nq4 S4 hq4=>hQ q4 H4 (((S1.trans S2).trans S3).free nq4) (((S1.trans S2).trans S3).trans S4) hq4⟩
  obtain ⟨j,hj,rfl⟩:=List.mem_iff_getElem.mp hx
  have hjz:j<z:=by rw [sub_len l1 l2] at hj; exact hj
  rw [← L2.getD_at hj,sub_at l1 l2 hjz,map_at (by omega),map_at (by omega)]
  exact bg_lt (k:=k+1) k5 (bg_step (at_in (P:=fun x=>x.natAbs<bg bb k) hl hp bl) (at_in (P:=fun x=>x.natAbs<bg bb k) hr' hjz br) (at_in (P:=fun x=>x.natAbs<bg bb k) hr' hp br) (at_in (P:=fun x=>x.natAbs<bg bb k) hl hjz bl))
theorem sc_cleared:FnScope ["rows","width","left","lines","place","chosen","line"] ["rows","width"] (defScope s_cleared):=⟨rfl,rfl,rfl,by decide +kernel,rfl,by decide +kernel,by decide +kernel⟩
set_option maxHeartbeats 4000000 in
theorem ok_cleared (T:Txt K mg AR FR):FnOk P w K mg base CX0 5 AR.f_cleared FR.d_cleared ["rows","width"] (sp_cleared K):=by
 have G_with_makings:FnOk P w K mg base CX0 2 AR.f_with_makings FR.d_with_makings _ (sp_with_makings K):=ok_with_makings T
 have G_place_of_first:FnOk P w K mg base CX0 1 AR.f_place_of_first FR.d_place_of_first _ (sp_place_of_first K):=ok_place_of_first T
 have G_upright:FnOk P w K mg base CX0 2 AR.f_upright FR.d_upright _ (sp_upright K):=ok_upright T
 have G_freed:FnOk P w K mg base CX0 4 AR.f_freed FR.d_freed _ (sp_freed K):=ok_freed T
 have G_lowered:FnOk P w K mg base CX0 3 AR.f_lowered FR.d_lowered _ (sp_lowered K):=ok_lowered T
 refine T.u_cleared.F.ok sc_cleared (fun vs H Q E h=>?_) (fun cdv A outer s H vs Q E hr h=>?_)
 ·obtain ⟨a,as,R,w',bb,rfl,ha,hR,r8,w6,hw,hb,b1,bw,hQ⟩:=h
  rfl
 ·obtain ⟨a,as,R,w',bb,rfl,ha,hR,r8,w6,hw,hb,b1,bw,hQ⟩:=h
  refine ⟨_,(pss_cons (ps_set (i:=2) sc_cleared.nd rfl (Or.inl rfl) (pe_call G_with_makings (hr.mono (by decide)) (by rfl) T.u_with_makings.m T.u_with_makings.F.kp T.u_with_makings.b .nil pass0 (pa_cons (pv 0) pa_nil)))
   (pss_cons (ps_set (i:=3) sc_cleared.nd rfl (Or.inl rfl) (pe_lst pa_nil))
   (pss_cons (ps_for PassesOwn.never rfl (pi_range1 (by rfl) T.z_range (pa_cons (pv 1) pa_nil)) (pg_name (i:=4) sc_cleared.nd (by rfl) (Or.inr rfl))
   (pss_cons (ps_set (i:=5) sc_cleared.nd rfl (Or.inl rfl) (pe_call G_place_of_first (hr.mono (by decide)) (by rfl) T.u_place_of_first.m T.u_place_of_first.F.kp T.u_place_of_first.b .nil pass0 (pa_cons (pv 2) (pa_cons (pv 4) pa_nil))))
   (pss_one (ps_if (pt_cmpR op_ge (pv 5) pe_int (nomark _)) (pss_cons (ps_set (i:=6) sc_cleared.nd rfl (Or.inr rfl) (pe_call G_upright (hr.mono (by decide)) (by rfl) T.u_upright.m T.u_upright.F.kp T.u_upright.b .nil pass0 (pa_cons (pe_bm PySem.F.plainAttrs_list PySem.F.slot_list_pop PySem.F.type_list_pop mt_popAt (pv 2) (pa_cons (pv 5) pa_nil)) (pa_cons (pv 4) pa_nil))))
   (pss_cons (ps_setComp (i:=2) (N':=["other","line","place"]) (nt:=1) (caps:=[6,4]) _ _ (CompScope.of (by kernel_rfl)) sc_cleared.nd rfl rfl (pi_list (pv 2)) (fun _=>(pg_nameC (i:=0) ["other","line","place"] (by decide +kernel) (by rfl))) (fun _=>pts_nil) (fun _=>(pe_call G_freed (hr.mono (by decide)) (by rfl) T.u_freed.m T.u_freed.F.kp T.u_freed.b .nil pass0 (pa_cons (pv 0) (pa_cons (pv 1) (pa_cons (pv 2) pa_nil))))))
   (pss_cons (ps_setComp (i:=3) (N':=["pivot","other","line","place"]) (nt:=2) (caps:=[6,4]) _ _ (CompScope.of (by kernel_rfl)) sc_cleared.nd rfl rfl (pi_list (pv 3)) (fun _=>(pg_tup (by rfl) (pgs_cons (pg_nameC (i:=0) ["pivot","other","line","place"] (by decide +kernel) (by rfl)) (pgs_cons (pg_nameC (i:=1) ["pivot","other","line","place"] (by decide +kernel) (by rfl)) pgs_nil)))) (fun _=>pts_nil) (fun _=>(pe_tup (pa_cons (pv 0) (pa_cons (pe_call G_freed (hr.mono (by decide)) (by rfl) T.u_freed.m T.u_freed.F.kp T.u_freed.b .nil pass0 (pa_cons (pv 1) (pa_cons (pv 2) (pa_cons (pv 3) pa_nil)))) pa_nil)))))
   (pss_one (ps_expr (pe_bm PySem.F.plainAttrs_list PySem.F.slot_list_append PySem.F.type_list_append mt_append (pv 3) (pa_cons (pe_tup (pa_cons (pv 4) (pa_cons (pv 6) pa_nil))) pa_nil))))))) pss_nil))))
   (pss_one (ps_ret (pe_comp (N':=["pivot","line","width"]) (nt:=2) (caps:=[1]) _ _ (CompScope.of (by kernel_rfl)) (pi_list (pv 3)) (fun _=>(pg_tup (by rfl) (pgs_cons (pg_nameC (i:=0) ["pivot","line","width"] (by decide +kernel) (by rfl)) (pgs_cons (pg_nameC (i:=1) ["pivot","line","width"] (by decide +kernel) (by rfl)) pgs_nil)))) (fun _=>pts_nil) (fun _=>(pe_tup (pa_cons (pv 0) (pa_cons (pe_call G_lowered (hr.mono (by decide)) (by rfl) T.u_lowered.m T.u_lowered.F.kp T.u_lowered.b .nil pass0 (pa_cons (pe_slice sl_list (pv 1) po_none (po_some (pv 2))) pa_nil)) (pa_cons (pe_slice sl_list (pv 1) (po_some (pv 2)) po_none) pa_nil))))))))))),?_⟩
  try dsimp only [kx1,kx2,kx3,Cx.nox,Cx.wish]
  refine ⟨_,rfl,a,as,R,rfl,ha,hR,r8,fun r hr=>by rw [hw r hr]; exact w6,fun pl ls H1 npl S1 hpl R1=>?_⟩
  refine ⟨by decide,fun pn npn=>?_⟩
  have U1:=S1.upd npn (o:=.lst [])
  have V1:=(Same.refl H1).upd npn (o:=.lst [])
  have e1:=upd_same (H:=H1) (a:=pn) (o:=.lst [])
  have fpn:=S1.free npn
  have hpl1:=V1 _ _ hpl
  have R2:=R1.same V1
  generalize upd H1 pn (.lst [])=H2 at U1 V1 e1 hpl1 R2 ⊢
  have ml:(mkR R).length=R.length:=by unfold mkR; rw [List.length_map,List.length_range]
  refine ⟨_,rfl,_,rfl,by omega,by omega,?_⟩
  rw [Int.toNat_natCast]
  refine for_range (n:=_) (fun i σ H3=>∃ (ql qn:Addr) (o4 o5 o6:Option V) (la:List Addr) (ps:List (Addr×Addr)) (L:List (List Int)) (S:List (Nat×List Int)),σ=[some (.ref a),some (.int w'),some (.ref ql),some (.ref qn),o4,o5,o6]∧Same H H3∧H ql=none∧H qn=none∧H3 ql=some (.lst (la.map V.ref))∧Rows H3 la L∧H3 qn=some (.lst (ps.map fun p=>V.ref p.1))∧Lns H3 ps S∧(L,S)=clrI R i∧InvB bb w' R.length R i L S∧L.length≤9∧S.length≤i∧ql≠qn)
   ⟨pl,pn,none,none,none,ls,[],mkR R,[],rfl,U1,npl,fpn,hpl1,R2,e1,.nil,rfl,invB_start hw hb b1,by omega,Nat.le_refl _,ne_of_none hpl npn⟩ ?_ ?_
  ·rintro i σ H3 hi ⟨ql,qn,o4,o5,o6,la,ps,L,S,rfl,S3,fql,fqn,hql,Rl,hqn,Ln,eLS,inv,l8,si,qne⟩
   have hi:i<w':=hi
   have Lz:∀ r∈L,r.length=w'+R.length:=fun r hr=>(inv.rl r hr).1
   refine ⟨_,rfl,_,rfl,ql,la,L,w'+R.length,i,by rw [Int.zero_add]; rfl,SqL.of hql,Rl,Lz,by omega,fun c hc hne hzc H4 S4=>?_,fun hno H4 S4=>?_⟩
   rotate_left
   ·refine ⟨_,rfl,_,_,rfl,rfl,_,rfl,?_⟩
    exact iteD (fun h=>absurd h (by decide)) (fun _=>⟨ql,qn,_,_,_,la,ps,L,S,rfl,S3.trans S4,fql,fqn,S4 _ _ hql,Rl.same S4,S4 _ _ hqn,Ln.same S4,by rw [clr_none (by rw [← eLS]; exact hno),← eLS],inv.skip hno,l8,by omega,qne⟩)
   refine ⟨_,rfl,_,_,rfl,rfl,_,rfl,?_⟩
   refine iteD (fun _=>?_) (fun h=>absurd (Int.natCast_nonneg c) h)
   have hql4:=S4 _ _ hql
   have Rl4:=Rl.same S4
   have Ln4:=Ln.same S4
   have hqn4:=S4 _ _ hqn
   have T4:=S3.trans S4
   have lal:=Rl4.length
   obtain ⟨s,hs,he⟩:=Rl4.get hc
   have rOk:=inv.rl _ (List.getElem_mem hc)
   have rzz:=inv.rz _ (List.getElem_mem hc)
   have rm:=List.getElem_mem hc
   have eS1:(clrI R i).1=L:=by rw [← eLS]
   have eS2:(clrI R i).2=S:=by rw [← eLS]
   have eNx:=clr_some (R:=R) (i:=i) (c:=c) (by rw [eS1]; exact hc) (by rw [eS1]; exact hne) (by rw [eS1]; exact hzc)
   rw [eS1,eS2] at eNx
   have mo:∀ y∈L,y∈L.eraseIdx c∨y=L.getD c []:=fun y hy=>mem_erase_or hy
   have b0:∀ j,j≤w'→(bb+1)*2^j≤9000:=fun j hj=>Nat.le_trans (bx_mono hj) bw
   rw [getDr hc] at hne eNx mo
   generalize L[c]=r at he rOk rzz hne rm eNx mo
   refine ⟨_,rfl,.inl ⟨rfl,_,SqL.of hql4⟩,_,rfl,ql,_,_,c,_,rfl,rfl,hql4,by omega,by omega,by rw [List.length_map,lal]; exact seqIx_at hc,by rw [List.getElem?_map,hs]; rfl,?_⟩
   have er:(la.map V.ref).eraseIdx c=(la.eraseIdx c).map V.ref:=refs_er la c
   rw [er]
   have T5:=Same.upd' T4 fql (o:=.lst ((la.eraseIdx c).map V.ref))
   have hql5:=upd_same (H:=H4) (a:=ql) (o:=.lst ((la.eraseIdx c).map V.ref))
   have Rl5:Rows (upd H4 ql (.lst ((la.eraseIdx c).map V.ref))) (la.eraseIdx c) (L.eraseIdx c):=Rows.lay (rows_erase c Rl4) fun b hb=>Rl4.apart hql4 b (List.mem_of_mem_eraseIdx hb)
   have he5:upd H4 ql (.lst ((la.eraseIdx c).map V.ref)) s=some (.lst (vints r)):=by
    rw [upd_ne (ref_int_ne he hql4 (by rw [rOk.1]; omega))]; exact he
   have Ln5:Lns (upd H4 ql (.lst ((la.eraseIdx c).map V.ref))) ps S:=Lns.lay hql4 Ln4 fun d hd=>by rw [(inv.sl d hd).1]; omega
   have hqn5:upd H4 ql (.lst ((la.eraseIdx c).map V.ref)) qn=some (.lst (ps.map fun p=>V.ref p.1)):=by rw [upd_ne (Ne.symm qne)]; exact hqn4
   have Lz5:∀ y∈L.eraseIdx c,y∈L:=fun y hy=>List.mem_of_mem_eraseIdx hy
   have le5:(L.eraseIdx c).length≤L.length:=List.length_eraseIdx_le ..
   generalize upd H4 ql (.lst ((la.eraseIdx c).map V.ref))=H5 at T5 hql5 Rl5 he5 Ln5 hqn5 ⊢
   have i6:i≤8:=by omega
   refine ⟨_,rfl,s,r,i,by rw [Int.zero_add]; rfl,he5,by rw [rOk.1]; omega,by rw [rOk.1]; omega,fun x hx=>up104 (bg_lt (b0 i (by omega)) (rOk.2.1 x hx)),fun qv H6 S6 hqv=>?_⟩
   have lnOk:=rOk.upr (p:=i)
   have ln0:0<(upr r i).getD i 0:=by
    rw [upr_at rOk.1 i (by omega)]
    split<;>omega
   have lnz:∀ j,j<i→(upr r i).getD j 0=0:=fun j hj=>by
    rw [upr_at rOk.1 j (by omega),rzz j hj]
    split<;>rfl
   generalize eln:upr r i=ln at hqv lnOk ln0 lnz eNx
   refine ⟨_,rfl,ql,rfl,⟨_,SqL.of (S6 _ _ hql5)⟩,?_⟩
   refine comp_rowsF (K:=K) (τ:=[some (.ref qv),some (.int (0+(i:Int)))]) (fun y=>frd y ln i) (SqL.of (S6 _ _ hql5)) (Rl5.same S6) (small70 (by omega)) (fun B s' y H7 hy he' S7 Q' hq=>?_) ?_
   ·have yOk:=inv.rl y (Lz5 y hy)
    exact ⟨_,rfl,_,rfl,_,rfl,s',qv,y,ln,w'+R.length,i,i,bb,by rw [Int.zero_add]; rfl,he',S7 _ _ hqv,yOk.1,lnOk.1,by omega,by omega,b0 (i+1) (by omega),yOk.2.1,lnOk.2.1,fun q H8 nq S8 hq8=>hq q H8 nq S8 hq8⟩
   intro la2 H7 S7 Rl7 fr7 q1 nq1
   have T7:=(T5.trans S6).trans S7
   have U7:=(Same.refl H7).upd nq1 (o:=.lst (la2.map V.ref))
   have hq1:=upd_same (H:=H7) (a:=q1) (o:=.lst (la2.map V.ref))
   have fq1:=T7.free nq1
   have Rl8:=Rl7.same U7
   have T8:=T7.trans U7
   have W8:=(S6.trans S7).trans U7
   have hqv8:=(S7.trans U7) _ _ hqv
   generalize upd H7 q1 (.lst (la2.map V.ref))=H8 at U7 hq1 Rl8 T8 W8 hqv8 ⊢
   have Ln8:=Ln5.same W8
   have hqn8:=W8 _ _ hqn5
   have pl:=Ln8.length
   refine ⟨_,rfl,qn,rfl,⟨_,SqL.of hqn8⟩,?_⟩
   refine comp_listP (K:=K) (a:=qn) (xs:=ps.map fun p=>V.ref p.1) (fun j ys σ H9=>∃ (v w:Option V) (qs:List (Addr×Addr)),σ=[v,w,some (.ref qv),some (.int (0+(i:Int)))]∧Same H8 H9∧ys=qs.map (fun p=>V.ref p.1)∧Lns H9 qs ((S.map fun d=>(d.1,frd d.2 ln i)).take j)) ⟨none,none,[],rfl,Same.refl _,rfl,.nil⟩ ?_ ?_ ?_
   ·rintro j ys σ H9 hj ⟨v,w,qs,rfl,S9,rfl,B9⟩
    refine ⟨SqL.of (S9 _ _ hqn8),?_⟩
    rw [List.length_map,B9.length,List.length_take,List.length_map]
    exact small70 (by omega)
   ·rintro B j y ys σ H9 hy ⟨v,w,qs,rfl,S9,rfl,B9⟩
    obtain ⟨p9,hp9,rfl⟩:=lns_get hy
    obtain ⟨d,hd,hB⟩:=Paired.getL Ln8 hp9
    have dm:=List.mem_of_getElem? hd
    have dOk:=inv.sl d dm
    refine ⟨p9.1,[_,_],rfl,SqT.of (S9 _ _ hB.1),rfl,_,[_],rfl,_,[],rfl,rfl,?_⟩
    try dsimp only [gName,gNil,tTrue]
    rw [if_pos rfl]
    refine ⟨_,rfl,_,rfl,_,rfl,_,rfl,p9.2,qv,d.2,ln,w'+R.length,i,i,bb,by rw [Int.zero_add]; rfl,S9 _ _ hB.2,S9 _ _ hqv8,dOk.1,lnOk.1,by omega,by omega,b0 (i+1) (by omega),dOk.2.1,lnOk.2.1,fun q9 H10 nq9 S10 hq9=>?_⟩
    refine ⟨by show 2≤sizeLine; decide,fun pt npt=>?_⟩
    have V10:=(Same.refl H10).upd npt (o:=.tup [V.int (d.1:Int),V.ref q9])
    refine ⟨_,_,qs++[(pt,q9)],rfl,(S9.trans S10).trans V10,by simp,?_⟩
    rw [List.take_add_one,List.getElem?_map,hd,Option.map_some,Option.toList_some]
    exact (B9.same (S10.trans V10)).snoc ⟨upd_same,V10 _ _ hq9⟩
   rintro ys σ H9 ⟨v,w,qs,rfl,S9,rfl,B9⟩ q2 nq2
   rw [List.length_map,pl,← List.length_map (f:=fun d:Nat×List Int=>(d.1,frd d.2 ln i)),List.take_length] at B9
   have U9:=(Same.refl H9).upd nq2 (o:=.lst (qs.map fun p=>V.ref p.1))
   have hq2:=upd_same (H:=H9) (a:=q2) (o:=.lst (qs.map fun p=>V.ref p.1))
   have fq2:=(T8.trans S9).free nq2
   have q12:q1≠q2:=ne_of_none (S9 _ _ hq1) nq2
   have B10:=B9.same U9
   have W10:=S9.trans U9
   have T10:=T8.trans W10
   generalize upd H9 q2 (.lst (qs.map fun p=>V.ref p.1))=H10 at U9 hq2 B10 W10 T10 ⊢
   refine ⟨_,rfl,.inl ⟨rfl,_,SqL.of hq2⟩,_,rfl,_,rfl,by show 2≤sizeLine; decide,fun pt npt=>?_⟩
   have V11:=(Same.refl H10).upd npt (o:=.tup [V.int (0+(i:Int)),V.ref qv])
   have hpt:=upd_same (H:=H10) (a:=pt) (o:=.tup [V.int (0+(i:Int)),V.ref qv])
   have hq2':=V11 _ _ hq2
   have B11:=B10.same V11
   have W11:=W10.trans V11
   have T11:=T10.trans V11
   generalize upd H10 pt (.tup [V.int (0+(i:Int)),V.ref qv])=H11 at V11 hpt hq2' B11 W11 T11 ⊢
   have ql11:qs.length=S.length:=by rw [B11.length,List.length_map]
   refine ⟨q2,_,_,rfl,rfl,hq2',by rw [List.length_map,ql11]; exact small70 (by omega),?_⟩
   have hq1':=W11 _ _ hq1
   have hqv11:=W11 _ _ hqv8
   have Rl11:=Rl8.same W11
   have keep:∀ q o,H11 q=some o→q≠q2→upd H11 q2 (.lst ((qs.map fun p=>V.ref p.1)++[V.ref pt])) q=some o:=fun q o e n=>by rw [upd_ne n]; exact e
   have ne2:∀ {q:Addr} {o:HO},H9 q=some o→q≠q2:=fun e=>ne_of_none e nq2
   refine ⟨q1,q2,_,_,_,la2,qs++[(pt,qv)],(L.eraseIdx c).map (fun y=>frd y ln i),S.map (fun d=>(d.1,frd d.2 ln i))++[(i,ln)],rfl,Same.upd' T11 fq2,fq1,fq2,keep _ _ hq1' q12,?_,by rw [upd_same]; simp,?_,eNx.symm,inv.take hi Lz5 mo rOk.1 eln.symm lnOk lnz ln0,by rw [List.length_map]; omega,by rw [List.length_append,List.length_map]; show S.length+1≤i+1; omega,q12⟩
   ·refine Rows.lay Rl11 fun b hb=>?_
    obtain ⟨y,hy,hey⟩:=Rows.mem Rl8 hb
    exact ne2 (S9 _ _ hey)
   ·have Bl:Lns (upd H11 q2 (.lst ((qs.map fun p=>V.ref p.1)++[V.ref pt]))) qs (S.map fun d=>(d.1,frd d.2 ln i)):=by
     have h9:∀ p∈qs,p.1≠q2∧p.2≠q2:=fun p hp=>by
      obtain ⟨k,hk,rfl⟩:=List.mem_iff_getElem.mp hp
      obtain ⟨d,_,hB⟩:=Paired.getL B9 (List.getElem?_eq_getElem hk)
      exact ⟨ne2 hB.1,ne2 hB.2⟩
     exact paired_in B11 fun p d hp e=>⟨keep _ _ e.1 (h9 p hp).1,keep _ _ e.2 (h9 p hp).2⟩
    refine Bl.snoc ⟨keep _ _ (by rw [hpt,Int.zero_add]) (fun z=>?_),keep _ _ hqv11 (ne2 (S9 _ _ hqv8))⟩
    have z:pt=q2:=z
    rw [z,hq2] at npt
    cases npt
  ·rintro σ H3 ⟨ql,qn,o4,o5,o6,la,ps,L,S,rfl,S3,fql,fqn,hql,Rl,hqn,Ln,eLS,inv,l8,si,qne⟩
   have pl:=Ln.length
   refine ⟨_,rfl,qn,rfl,⟨_,SqL.of hqn⟩,?_⟩
   refine comp_listP (K:=K) (a:=qn) (xs:=ps.map fun p=>V.ref p.1) (fun j ys σ H9=>∃ (v w:Option V) (ts:List (Addr×Addr×Addr)),σ=[v,w,some (.int w')]∧Same H3 H9∧ys=ts.map (fun t=>V.ref t.1)∧Sts w' H9 ts (S.take j)∧∀ t∈ts,H t.2.1=none∧H t.2.2=none) ⟨none,none,[],rfl,Same.refl _,rfl,.nil,fun t ht=>nomatch ht⟩ ?_ ?_ ?_
   ·rintro j ys σ H9 hj ⟨v,w,ts,rfl,S9,rfl,B9,_⟩
    refine ⟨SqL.of (S9 _ _ hqn),?_⟩
    rw [List.length_map,show ts.length=(S.take j).length from Paired.length B9,List.length_take]
    exact small70 (by omega)
   ·rintro B j y ys σ H9 hy ⟨v,w,ts,rfl,S9,rfl,B9,fr9⟩
    obtain ⟨p9,hp9,rfl⟩:=lns_get hy
    obtain ⟨d,hd,hB⟩:=Paired.getL Ln hp9
    have dOk:=inv.sl d (List.mem_of_getElem? hd)
    refine ⟨p9.1,[_,_],rfl,SqT.of (S9 _ _ hB.1),rfl,_,[_],rfl,_,[],rfl,rfl,?_⟩
    try dsimp only [gName,gNil,tTrue]
    rw [if_pos rfl]
    have h9:=S9 _ _ hB.2
    refine ⟨_,rfl,_,rfl,_,rfl,_,rfl,p9.2,_,rfl,SqL.of h9,fun l1 n1=>?_⟩
    rw [cut_take,show (vints d.2).take w'=vints (d.2.take w') by unfold vints; rw [List.map_take]]
    have V1:=(Same.refl H9).upd n1 (o:=.lst (vints (d.2.take w')))
    have hl1:=upd_same (H:=H9) (a:=l1) (o:=.lst (vints (d.2.take w')))
    generalize upd H9 l1 (.lst (vints (d.2.take w')))=H10 at V1 hl1 ⊢
    refine ⟨l1,_,rfl,SqL.of hl1,by rw [List.length_take]; omega,fun x hx=>bg_lt bw (dOk.2.1 x (List.mem_of_mem_take hx)),fun l2 H11 n2 S11 hl2=>?_⟩
    refine ⟨_,rfl,_,rfl,_,rfl,p9.2,_,rfl,SqL.of (S11 _ _ (V1 _ _ h9)),fun l3 n3=>?_⟩
    rw [cut_from,show (vints d.2).drop w'=vints (d.2.drop w') by unfold vints; rw [List.map_drop]]
    have V3:=(Same.refl H11).upd n3 (o:=.lst (vints (d.2.drop w')))
    have hl3:=upd_same (H:=H11) (a:=l3) (o:=.lst (vints (d.2.drop w')))
    have hl2':=V3 _ _ hl2
    generalize upd H11 l3 (.lst (vints (d.2.drop w')))=H12 at V3 hl3 hl2' ⊢
    refine ⟨by show 3≤sizeLine; decide,fun pt npt=>?_⟩
    have V4:=(Same.refl H12).upd npt (o:=.tup [V.int (d.1:Int),V.ref l2,V.ref l3])
    have SS:=((V1.trans S11).trans V3).trans V4
    refine ⟨_,_,ts++[(pt,l2,l3)],rfl,S9.trans SS,by simp,?_,fun t ht=>?_⟩
    ·rw [List.take_add_one,hd,Option.toList_some]
     exact Paired.snoc (Sts.same B9 SS) ⟨upd_same,V4 _ _ hl2',V4 _ _ hl3⟩
    ·rcases List.mem_append.mp ht with q | q
     ·exact fr9 t q
     ·rw [List.mem_singleton.mp q]
      exact ⟨(S3.trans (S9.trans V1)).free n2,(S3.trans ((S9.trans V1).trans S11)).free n3⟩
   ·rintro ys σ H9 ⟨v,w,ts,rfl,S9,rfl,B9,fr9⟩ p np
    rw [List.length_map,pl,List.take_length] at B9
    have eS1:(clrI R w').1=L:=by rw [← eLS]
    have eS2:(clrI R w').2=S:=by rw [← eLS]
    rw [eS1,eS2] at hQ
    exact hQ p ts _ ((S3.trans S9).free np) ((S3.trans S9).upd np) upd_same (Sts.same B9 ((Same.refl H9).upd np)) inv si fr9
theorem sc_weighing:FnScope ["lines","width","place","scale","pivot","line","making","weights"] ["lines","width","place"] (defScope s_weighing):=⟨rfl,rfl,rfl,by decide +kernel,rfl,by decide +kernel,by decide +kernel⟩
set_option maxHeartbeats 4000000 in
theorem ok_weighing (T:Txt K mg AR FR):FnOk P w K mg base CX0 4 AR.f_weighing FR.d_weighing ["lines","width","place"] (sp_weighing K):=by
 have G_times:FnOk P w K mg base CX0 1 AR.f_times FR.d_times _ (sp_times K):=ok_times T
 have G_unit:FnOk P w K mg base CX0 1 AR.f_unit FR.d_unit _ (sp_unit K):=ok_unit T
 have G_lowered:FnOk P w K mg base CX0 3 AR.f_lowered FR.d_lowered _ (sp_lowered K):=ok_lowered T
 refine T.u_weighing.F.ok sc_weighing (fun vs H Q E h=>?_) (fun cdv A outer s H vs Q E hr h=>?_)
 ·obtain ⟨a,ts,S,R,L,w',n,bb,j,rfl,ha,St,inv,sw,w6,jw,jn,sb,be,hQ⟩:=h
  rfl
 ·obtain ⟨a,ts,S,R,L,w',n,bb,j,rfl,ha,St,inv,sw,w6,jw,jn,sb,be,hQ⟩:=h
  refine ⟨_,(pss_cons (ps_set (i:=3) sc_weighing.nd rfl (Or.inl rfl) pe_int)
   (pss_cons (ps_for PassesOwn.never rfl (pi_list (pv 0)) (pg_tup (by rfl) (pgs_cons (pg_name (i:=4) sc_weighing.nd (by rfl) (Or.inl rfl)) (pgs_cons (pg_name (i:=5) sc_weighing.nd (by rfl) (Or.inl rfl)) (pgs_cons (pg_name (i:=6) sc_weighing.nd (by rfl) (Or.inl rfl)) pgs_nil))))
   (pss_one (ps_set (i:=3) sc_weighing.nd rfl (Or.inl rfl) (pe_op op_mulC (pv 3) (pe_ix ix_list (pv 5) (pv 4) (fun _ _=>rfl))))))
   (pss_cons (ps_set (i:=7) sc_weighing.nd rfl (Or.inl rfl) (pe_call G_times (hr.mono (by decide)) (by rfl) T.u_times.m T.u_times.F.kp T.u_times.b .nil pass0 (pa_cons (pv 3) (pa_cons (pe_call G_unit (hr.mono (by decide)) (by rfl) T.u_unit.m T.u_unit.F.kp T.u_unit.b .nil pass0 (pa_cons (pv 2) (pa_cons (pv 1) pa_nil))) pa_nil))))
   (pss_cons (ps_for PassesOwn.never rfl (pi_list (pv 0)) (pg_tup (by rfl) (pgs_cons (pg_name (i:=4) sc_weighing.nd (by rfl) (Or.inl rfl)) (pgs_cons (pg_name (i:=5) sc_weighing.nd (by rfl) (Or.inl rfl)) (pgs_cons (pg_name (i:=6) sc_weighing.nd (by rfl) (Or.inl rfl)) pgs_nil))))
   (pss_one (ps_asg (pe_op op_mulC (pe_un un_neg (pe_ix ix_list (pv 5) (pv 2) (fun _ _=>rfl))) (pe_op op_fdivC (pv 3) (pe_ix ix_list (pv 5) (pv 4) (fun _ _=>rfl)))) (pg_sub (pv 7) (pv 4) set_list))))
   (pss_one (ps_ret (pe_call G_lowered (hr.mono (by decide)) (by rfl) T.u_lowered.m T.u_lowered.F.kp T.u_lowered.b .nil pass0 (pa_cons (pv 7) pa_nil)))))))),?_⟩
  try dsimp only [kx1,kx2,kx3,Cx.nox,Cx.wish]
  have ok:=told_okS inv sw sb
  have tl:ts.length=S.length:=Paired.length St
  generalize hT:toldL w' S=T at ok
  have Tl:T.length=S.length:=by rw [← hT,List.length_map]
  generalize he:(bb+1)*2^S.length-1=e at ok be
  have e89:e≤8996:=Nat.le_trans (Nat.le_mul_of_pos_right e (Nat.succ_pos S.length)) be
  have Tn:∀ c∈T,c.1≠j:=fun c hc z=>by
   rw [← hT] at hc
   obtain ⟨d,hd,rfl⟩:=List.mem_map.mp hc
   exact jn (List.mem_map.mpr ⟨d,hd,z⟩)
  have At:∀ {i:Nat} {t:Addr×Addr×Addr},ts[i]?=some t→∃ c,T[i]?=some c∧H t.1=some (.tup [.int (c.1:Int),.ref t.2.1,.ref t.2.2])∧H t.2.1=some (.lst (vints c.2)):=fun {i t} ht=>by
   obtain ⟨d,hd,hB⟩:=Paired.getL St ht
   refine ⟨(d.1,lowL (d.2.take w')),?_,hB.1,hB.2.1⟩
   rw [← hT,List.getElem?_map,hd]
   rfl
  have pe:∀ i,(prodL (pivs (T.take i))).natAbs≤2^(e*S.length):=fun i=>by
   refine Nat.le_trans (prodL_le (e:=e) fun x hx=>?_) (Nat.pow_le_pow_right (by decide) (Nat.mul_le_mul_left _ ?_))
   ·obtain ⟨c,hc,rfl⟩:=List.mem_map.mp hx
    have hc:=List.mem_of_mem_take hc
    exact at_in (P:=fun x=>x.natAbs<2^e) (ok.ll c hc) (ok.aw c hc) (ok.bl c hc)
   ·unfold pivs
    rw [List.length_map,List.length_take]
    omega
  have ew:e*S.length+e≤8996:=by rw [← Nat.mul_succ]; exact be
  have pb:∀ i,(prodL (pivs (T.take i))).natAbs<2^8999:=fun i=>Nat.lt_of_le_of_lt (pe i) (Nat.pow_lt_pow_right (by decide) (by omega))
  have lb:∀ c∈T,∀ x∈c.2,x.natAbs<2^8999:=fun c hc x hx=>Nat.lt_of_lt_of_le (ok.bl c hc x hx) (Nat.pow_le_pow_right (by decide) (by omega))
  refine seq_join (fun σ' H'=>σ'=[some (.ref a),some (.int w'),some (.int j),some (.int 1),none,none,none,none]∧H=H') ?_ (fun N hN=>hN _ _ ⟨rfl,rfl⟩)
  rintro _ _ ⟨rfl,rfl⟩
  refine ⟨_,rfl,a,rfl,⟨_,ha⟩,?_⟩
  refine for_list (K:=K) (a:=a) (xs:=ts.map fun t=>V.ref t.1) (fun i σ H2=>∃ (o4 o5 o6:Option V),σ=[some (.ref a),some (.int w'),some (.int j),some (.int (prodL (pivs (T.take i)))),o4,o5,o6,none]∧H2=H) ⟨none,none,none,rfl,rfl⟩ (fun i σ H2 _ hp4=>by obtain ⟨_,_,_,_,e⟩:=hp4; exact e ▸ ha) ?_ ?_
  ·rintro i y σ H2 hy ⟨o4,o5,o6,rfl,rfl⟩
   obtain ⟨t,ht,rfl⟩:=sts_get hy
   obtain ⟨c,hc,h1,h2⟩:=At ht
   have cm:=List.mem_of_getElem? hc
   have cl:=ok.ll c cm
   have ca:=ok.aw c cm
   refine ⟨t.1,[_,_,_],rfl,SqT.of h1,rfl,_,[_,_],rfl,_,[_],rfl,_,[],rfl,rfl,?_⟩
   try dsimp only [gName,gNil]
   have ep:prodL (pivs (T.take (i+1)))=prodL (pivs (T.take i))*c.2.getD c.1 0:=by
    rw [List.take_add_one,hc,Option.toList_some,pivs,List.map_append]
    exact prodL_snoc _ _
   exact ⟨_,rfl,_,rfl,_,rfl,t.2.1,_,_,_,rfl,rfl,SqL.of h2,at_zs (by omega),_,_,rfl,rfl,⟨pb i,at_in (P:=fun x=>x.natAbs<2^8999) cl ca (lb c cm)⟩,some (.int (c.1:Int)),some (.ref t.2.1),some (.ref t.2.2),by rw [ep]; rfl,rfl⟩
  rintro σ H2 ⟨o4,o5,o6,rfl,rfl⟩
  rw [List.length_map,tl,← Tl,List.take_length]
  have pbT:=pb T.length
  have pb8:(prodL (pivs T)).natAbs<2^8998:=by
   have h:=pe T.length
   rw [List.take_length] at h
   exact Nat.lt_of_le_of_lt h (Nat.pow_lt_pow_right (by decide) (by omega))
  have peT:=pe T.length
  rw [List.take_length] at pbT peT
  refine ⟨_,rfl,_,rfl,_,rfl,j,w',rfl,by omega,fun qu H3 nqu S3 hqu=>?_⟩
  refine ⟨_,qu,_,rfl,SqL.of hqu,by rw [unitL_len]; omega,up104 pbT,fun y hy=>?_,fun qw H4 nqw S4 hqw=>?_⟩
  ·obtain ⟨k,_,rfl⟩:=List.mem_map.mp hy
   exact Nat.lt_of_le_of_lt (show Int.natAbs (if k=j then 1 else 0)≤1 by split<;>decide) (Nat.one_lt_two_pow (by decide))
  have S24:=S3.trans S4
  have fqw:=S3.free nqw
  have w0l:((unitL w' j).map fun y=>prodL (pivs T)*y).length=w':=by rw [List.length_map,unitL_len]
  have w0a:∀ k,k<w'→((unitL w' j).map fun y=>prodL (pivs T)*y).getD k 0=if k=j then prodL (pivs T) else 0:=fun k hk=>by
   rw [map_at (by rw [unitL_len]; exact hk),unitL_at hk]
   split<;>simp
  generalize (unitL w' j).map (fun y=>prodL (pivs T)*y)=ws0 at hqw w0l w0a
  have sp:0<prodL (pivs T):=prodL_pos fun x hx=>by
   obtain ⟨c,hc,rfl⟩:=List.mem_map.mp hx
   exact ok.pos c hc
  generalize hsc:prodL (pivs T)=sc at w0a sp pbT peT pb8
  have raw0:WRaw w' (T.take 0) j sc ws0:=⟨w0l,by rw [w0a j jw,if_pos rfl],(by intro c hc; cases hc),fun k hk n1 _=>by rw [w0a k hk,if_neg n1]⟩
  have wb0:∀ x∈ws0,x.natAbs<2^8998:=fun x hx=>by
   obtain ⟨k,hk,rfl⟩:=List.mem_iff_getElem.mp hx
   rw [← L2.getD_at hk,w0a k (by omega)]
   split
   ·exact pb8
   ·exact Nat.two_pow_pos _
  refine ⟨_,rfl,a,rfl,⟨_,S24.seq ha⟩,?_⟩
  refine for_list (K:=K) (a:=a) (xs:=ts.map fun t=>V.ref t.1) (fun i σ H5=>∃ (o4 o5 o6:Option V) (ws:List Int),σ=[some (.ref a),some (.int w'),some (.int j),some (.int sc),o4,o5,o6,some (.ref qw)]∧Same H2 H5∧H5 qw=some (.lst (vints ws))∧WRaw w' (T.take i) j sc ws∧∀ x∈ws,x.natAbs<2^8998) ⟨_,_,_,ws0,rfl,S24,hqw,raw0,wb0⟩ (fun i σ H5 _ hp4=>by obtain ⟨_,_,_,_,_,S5,_⟩:=hp4; exact S5.seq ha) ?_ ?_
  ·rintro i y σ H5 hy ⟨o4',o5',o6',ws,rfl,S5,hws,raw,wb⟩
   obtain ⟨t,ht,rfl⟩:=sts_get hy
   obtain ⟨c,hc,h1,h2⟩:=At ht
   have cm:=List.mem_of_getElem? hc
   have cl:=ok.ll c cm
   have ca:=ok.aw c cm
   have ci:=(List.getElem?_eq_some_iff.mp hc).1
   have h1':=S5 _ _ h1
   have h2':=S5 _ _ h2
   have xj:=at_in (P:=fun x=>x.natAbs<2^e) cl jw (ok.bl c cm)
   have bq:(sc/c.2.getD c.1 0).natAbs≤sc.natAbs:=Int.natAbs_ediv_le_natAbs _ _
   have vb:(-(c.2.getD j 0)*(sc/c.2.getD c.1 0)).natAbs<2^8998:=by
    rw [Int.natAbs_mul,Int.natAbs_neg]
    refine Nat.lt_of_le_of_lt (Nat.mul_le_mul (Nat.le_of_lt xj) (Nat.le_trans bq peT)) ?_
    rw [← Nat.pow_add]
    exact Nat.pow_lt_pow_right (by decide) (by omega)
   have ix:ixN (vints ws).length (c.1:Int)=some c.1:=by
    unfold ixN
    rw [ints_len,raw.ll,if_pos (by omega),if_pos (by omega),Int.toNat_natCast]
   have apart:∀ d∈T.take i,d.1≠c.1:=fun d hd=>by
    obtain ⟨k,hk,rfl⟩:=List.mem_iff_getElem.mp hd
    have hki:k<i:=by rw [List.length_take] at hk; omega
    have hp:=List.pairwise_iff_getElem.mp ok.sg k i (by rw [List.length_map]; omega) (by rw [List.length_map]; omega) hki
    rw [List.getElem_map,List.getElem_map] at hp
    rw [List.getElem?_eq_getElem ci] at hc
    rw [Option.some.inj hc] at hp
    rw [List.getElem_take]
    exact Nat.ne_of_lt hp
   refine ⟨t.1,[_,_,_],rfl,SqT.of h1',rfl,_,[_,_],rfl,_,[_],rfl,_,[],rfl,rfl,?_⟩
   try dsimp only [gName,gNil]
   refine ⟨_,rfl,_,rfl,t.2.1,_,_,_,rfl,rfl,SqL.of h2',at_zs (by omega),_,rfl,_,rfl,_,rfl,_,rfl,t.2.1,_,_,_,rfl,rfl,SqL.of h2',at_zs (by omega),_,_,rfl,rfl,⟨ok.pos c cm,at_in (P:=fun x=>x.natAbs<2^8999) cl ca (lb c cm)⟩,_,_,rfl,rfl,⟨by rw [Int.natAbs_neg]; exact at_in (P:=fun x=>x.natAbs<2^8999) cl jw (lb c cm),Nat.lt_of_le_of_lt bq pbT⟩,_,rfl,_,rfl,qw,_,_,c.1,rfl,rfl,hws,ix,?_⟩
   have cw:c.1<ws.length:=by rw [raw.ll]; exact ca
   refine ⟨_,_,_,ws.set c.1 (-(c.2.getD j 0)*(sc/c.2.getD c.1 0)),rfl,Same.upd' S5 fqw,?_,⟨by rw [List.length_set]; exact raw.ll,by rw [set_ne (Tn c cm)]; exact raw.at_,fun d hd=>?_,fun k hk n1 n2=>?_⟩,fun x hx=>?_⟩
   ·rw [upd_same]
    unfold vints
    rw [List.map_set]
   ·rw [List.take_add_one,hc,Option.toList_some] at hd
    rcases List.mem_append.mp hd with q | q
    ·rw [set_ne (Ne.symm (apart d q))]; exact raw.pv d q
    ·rw [List.mem_singleton.mp q,set_at cw]
   ·rw [List.take_add_one,hc,Option.toList_some] at n2
    rw [set_ne (n2 c (List.mem_append_right _ (List.mem_singleton.mpr rfl)))]
    exact raw.no k hk n1 fun d hd=>n2 d (List.mem_append_left _ hd)
   ·rcases List.mem_or_eq_of_mem_set hx with q | q
    ·exact wb x q
    ·rw [q]; exact vb
  rintro σ H5 ⟨o4',o5',o6',ws,rfl,S5,hws,raw,wb⟩
  rw [List.length_map,tl,← Tl,List.take_length,← hsc,← hT] at raw
  have wb9:∀ x∈ws,x.natAbs<2^8999:=fun x hx=>Nat.lt_of_lt_of_le (wb x hx) (Nat.pow_le_pow_right (by decide) (by decide))
  exact ⟨_,rfl,qw,ws,rfl,SqL.of hws,by have:=raw.ll; omega,wb9,fun p H6 np S6 hp=>hQ p (lowL ws) H6 (S5.free np) (S5.trans S6) hp (raw_ok inv sw jw (by rw [hT]; exact Tn) raw wb9) (low_abs wb)⟩
theorem sc_weighings:FnScope ["rows","width","lines","pivots"] ["rows","width"] (defScope s_weighings):=⟨rfl,rfl,rfl,by decide +kernel,rfl,by decide +kernel,by decide +kernel⟩
set_option maxHeartbeats 4000000 in
theorem ok_weighings (T:Txt K mg AR FR):FnOk P w K mg base CX0 6 AR.f_weighings FR.d_weighings ["rows","width"] (sp_weighings K):=by
 have G_cleared:FnOk P w K mg base CX0 5 AR.f_cleared FR.d_cleared _ (sp_cleared K):=ok_cleared T
 have G_weighing:FnOk P w K mg base CX0 4 AR.f_weighing FR.d_weighing _ (sp_weighing K):=ok_weighing T
 refine T.u_weighings.F.ok sc_weighings (fun vs H Q E h=>?_) (fun cdv A outer s H vs Q E hr h=>?_)
 ·obtain ⟨a,as,R,w',bb,rfl,ha,hR,r8,w6,hw,hb,b1,bw,be,hQ⟩:=h
  rfl
 ·obtain ⟨a,as,R,w',bb,rfl,ha,hR,r8,w6,hw,hb,b1,bw,be,hQ⟩:=h
  refine ⟨_,(pss_cons (ps_set (i:=2) sc_weighings.nd rfl (Or.inr rfl) (pe_call G_cleared (hr.mono (by decide)) (by rfl) T.u_cleared.m T.u_cleared.F.kp T.u_cleared.b .nil pass0 (pa_cons (pv 0) (pa_cons (pv 1) pa_nil))))
   (pss_cons (ps_set (i:=3) sc_weighings.nd rfl (Or.inr rfl) (pe_comp (N':=["pivot","line","making"]) (nt:=3) (caps:=[]) _ _ (CompScope.of (by kernel_rfl)) (pi_list (pv 2)) (fun _=>(pg_tup (by rfl) (pgs_cons (pg_nameC (i:=0) ["pivot","line","making"] (by decide +kernel) (by rfl)) (pgs_cons (pg_nameC (i:=1) ["pivot","line","making"] (by decide +kernel) (by rfl)) (pgs_cons (pg_nameC (i:=2) ["pivot","line","making"] (by decide +kernel) (by rfl)) pgs_nil))))) (fun _=>pts_nil) (fun _=>(pv 0))))
   (pss_one (ps_ret (pe_comp (N':=["place","lines","width","pivots"]) (nt:=1) (caps:=[2,1,3]) _ _ (CompScope.of (by kernel_rfl)) (pi_range1 (by rfl) T.z_range (pa_cons (pv 1) pa_nil)) (fun _=>(pg_nameC (i:=0) ["place","lines","width","pivots"] (by decide +kernel) (by rfl))) (fun _=>(pts_one (pt_cmpR op_notIn_seq (pv 0) (pv 3) (by with_unfolding_all rfl)))) (fun _=>(pe_tup (pa_cons (pv 0) (pa_cons (pe_call G_weighing (hr.mono (by decide)) (by rfl) T.u_weighing.m T.u_weighing.F.kp T.u_weighing.b .nil pass0 (pa_cons (pv 1) (pa_cons (pv 2) (pa_cons (pv 0) pa_nil)))) pa_nil))))))))),?_⟩
  try dsimp only [kx1,kx2,kx3,Cx.nox,Cx.wish]
  refine ⟨_,rfl,_,rfl,a,as,R,w',bb,rfl,ha,hR,by omega,w6,hw,hb,b1,bw,fun q ts H1 nq S1 hq St inv sw fr=>?_⟩
  have sc:=clr_small hw hb b1 (i:=w') (Nat.le_refl _)
  have sb:=sc.sb
  have ct:=sc.ct
  generalize hS:(clrI R w').2=S at St inv sw hQ sb ct
  generalize (clrI R w').1=L at inv ct
  have fr1:∀ j,j<w'→j∉S.map Prod.fst→S.length<w':=fun j jw jn=>by
   have:=free_lt inv.sg (fun k hk=>by
    obtain ⟨c,hc,rfl⟩:=List.mem_map.mp hk
    exact (inv.sp c hc).1) jw jn
   rw [List.length_map] at this
   exact this
  have tl:ts.length=S.length:=Paired.length St
  refine ⟨_,rfl,q,rfl,⟨_,SqL.of hq⟩,?_⟩
  refine comp_listP (K:=K) (a:=q) (xs:=ts.map fun t=>V.ref t.1) (fun i ys σ H2=>∃ (v w u:Option V),σ=[v,w,u]∧H2=H1∧ys=vints (zs ((S.map Prod.fst).take i))) ⟨none,none,none,rfl,rfl,rfl⟩ ?_ ?_ ?_
  ·rintro i ys σ H2 hi ⟨v,w,u,rfl,rfl,rfl⟩
   refine ⟨SqL.of hq,?_⟩
   rw [ints_len,zs_len,List.length_take,List.length_map]
   exact small70 (by omega)
  ·rintro B i y ys σ H2 hy ⟨v,w,u,rfl,rfl,rfl⟩
   obtain ⟨t,ht,rfl⟩:=sts_get hy
   obtain ⟨c,hc,hB⟩:=Paired.getL St ht
   refine ⟨t.1,[_,_,_],rfl,SqT.of hB.1,rfl,_,[_,_],rfl,_,[_],rfl,_,[],rfl,rfl,?_⟩
   try dsimp only [gName,gNil,tTrue]
   rw [if_pos rfl]
   refine ⟨_,rfl,_,_,_,rfl,rfl,?_⟩
   have e1:(S.map Prod.fst)[i]?=some c.1:=by rw [List.getElem?_map,hc]; rfl
   rw [List.take_add_one,e1,Option.toList_some]
   unfold zs vints
   simp
  rintro ys σ H2 ⟨v,w,u,rfl,rfl,rfl⟩ pp npp
  rw [List.length_map,tl,← List.length_map (f:=Prod.fst),List.take_length]
  have V2:=(Same.refl H2).upd npp (o:=.lst (vints (zs (S.map Prod.fst))))
  have hpp:=upd_same (H:=H2) (a:=pp) (o:=.lst (vints (zs (S.map Prod.fst))))
  generalize upd H2 pp (.lst (vints (zs (S.map Prod.fst))))=H3 at V2 hpp ⊢
  have hq3:=V2 _ _ hq
  have St3:=Sts.same St V2
  have S13:=S1.trans V2
  refine ⟨_,rfl,_,rfl,by omega,by omega,?_⟩
  rw [Int.toNat_natCast]
  refine comp_rangeP (fun i ys σ H4=>∃ (v:Option V) (ps:List (Addr×Addr)) (T:List (Nat×List Int)),σ=[v,some (.ref q),some (.int w'),some (.ref pp)]∧Same H3 H4∧ys=ps.map (fun p=>V.ref p.1)∧Lns H4 ps T∧T.map Prod.fst=(List.range i).filter (fun k=>decide (k∉S.map Prod.fst))∧(∀ c∈T,WOk3 w' R (S.map Prod.fst) c.1 c.2∧∀ x∈c.2,x.natAbs<2^8998)∧(∀ p∈ps,H p.2=none)) ⟨none,[],[],rfl,Same.refl _,rfl,.nil,rfl,(fun c hc=>nomatch hc),fun c hc=>nomatch hc⟩ ?_ ?_ ?_
  ·rintro i ys σ H4 hi ⟨v,ps,T,rfl,S4,rfl,B4,eT,_⟩
   have:T.length≤i:=by
    have h:=congrArg List.length eT
    rw [List.length_map] at h
    have h2:=List.length_filter_le (fun k=>decide (k∉S.map Prod.fst)) (List.range i)
    rw [List.length_range] at h2
    omega
   rw [List.length_map,B4.length]
   exact small70 (by omega)
  ·rintro B i ys σ H4 hi ⟨v,ps,T,rfl,S4,rfl,B4,eT,okT,frT⟩
   try dsimp only [gName,gNil]
   refine ⟨_,rfl,_,rfl,pp,_,rfl,.inl (SqL.of (S4 _ _ hpp)),rfl,flat_is _,?_⟩
   rw [Int.zero_add,if_pos rfl,inV_i]
   refine ⟨_,rfl,?_⟩
   try dsimp only
   have er:(List.range (i+1)).filter (fun k=>decide (k∉S.map Prod.fst))=(List.range i).filter (fun k=>decide (k∉S.map Prod.fst))++(if i∈S.map Prod.fst then [] else [i]):=by
    rw [List.range_succ,List.filter_append]
    by_cases h:i∈S.map Prod.fst
    ·rw [if_pos h,List.filter_cons_of_neg (by simpa using h)]; rfl
    ·rw [if_neg h,List.filter_cons_of_pos (by simpa using h)]; rfl
   by_cases h:i∈S.map Prod.fst
   ·rw [decide_eq_true h]
    rw [if_pos h,List.append_nil] at er
    exact ⟨_,ps,T,rfl,S4,rfl,B4,by rw [er]; exact eT,okT,frT⟩
   ·rw [decide_eq_false h]
    rw [if_neg h] at er
    refine ⟨_,rfl,_,rfl,_,rfl,_,rfl,q,ts,S,R,L,w',R.length,bb,i,rfl,SqL.of (S4 _ _ hq3),Sts.same St3 S4,inv,sw,w6,hi,h,sb,be S.length (fr1 i hi h) (by omega),fun p wl H5 np S5 hp ok okb=>?_⟩
    refine ⟨by show 2≤sizeLine; decide,fun p2 np2=>?_⟩
    have U:=(Same.refl H5).upd np2 (o:=.tup [.int (i:Nat),.ref p])
    refine ⟨_,ps++[(p2,p)],T++[(i,wl)],rfl,(S4.trans S5).trans U,by rw [List.map_append]; rfl,Lns.snoc (B4.same (S5.trans U)) ⟨upd_same,U _ _ hp⟩,by rw [er,List.map_append,eT]; rfl,fun c hc=>?_,fun c hc=>?_⟩
    ·rcases List.mem_append.mp hc with z | z
     ·exact okT c z
     ·rw [List.mem_singleton.mp z]; exact ⟨ok,okb⟩
    ·rcases List.mem_append.mp hc with z | z
     ·exact frT c z
     ·rw [List.mem_singleton.mp z]; exact (S13.trans S4).free np
  ·rintro ys σ H4 ⟨v,ps,T,rfl,S4,rfl,B4,eT,okT,frT⟩ p np
   have U:=(Same.refl H4).upd np (o:=.lst (ps.map fun p=>V.ref p.1))
   exact hQ p ps T _ ((S13.trans S4).free np) ((S13.trans S4).trans U) upd_same (B4.same U) eT okT frT
theorem sc_gain:FnScope ["net","door"] ["net","door"] (defScope s_gain):=⟨rfl,rfl,rfl,by decide +kernel,rfl,by decide +kernel,by decide +kernel⟩
set_option maxHeartbeats 4000000 in
theorem ok_gain (T:Txt K mg AR FR):FnOk P w K mg base CX0 5 AR.f_gain FR.d_gain ["net","door"] (sp_gain AR.C_Net K):=by
 have G_Net_init:FnOk P w K mg base CX0 3 AR.f_Net_init FR.d_Net_init _ (sp_Net_init AR.C_Net K):=ok_Net_init T
 have G_less:FnOk P w K mg base (CXF P w) 2 AR.f_less FR.d_less _ (sp_less AR.C_Unlike K):=ok_less T
 refine T.u_gain.F.ok sc_gain (fun vs H Q E h=>?_) (fun cdv A outer s H vs Q E hr h=>?_)
 ·obtain ⟨x,dx,b,d,t,g,f,ts,gs,N,k,kt,kg,rfl,n,ok,hQ⟩:=h
  rfl
 ·obtain ⟨x,dx,b,d,t,g,f,ts,gs,N,k,kt,kg,rfl,n,ok,hQ⟩:=h
  refine ⟨_,(pss_one (ps_ret (pe_call G_less.never (hr.mono (by decide)) (by rfl) T.u_less.m T.u_less.F.kp T.u_less.b .nil pass0 (pa_cons (pe_ix ix_list (pe_fld (pv 0) rfl) (pv 1) (fun _ _=>rfl)) (pa_cons (pe_ix ix_list (pe_fld (pv 0) rfl) (pv 1) (fun _ _=>rfl)) pa_nil))))),?_⟩
  try dsimp only [kx1,kx2,kx3,Cx.nox,Cx.wish]
  obtain ⟨qg,eg,fg⟩:=rows_at n.gr kg
  obtain ⟨qt,et,ft⟩:=rows_at n.tr kt
  have lg:=(ok.gv _ (List.getElem_mem kg)).1
  have lt:=(ok.tk _ (List.getElem_mem kt)).1
  have b6:=ok.b6
  exact ⟨_,rfl,x,_,dx,_,_,rfl,n.ob,T.cl_Net,T.n_Net_gives,rfl,_,rfl,g,_,_,_,rfl,rfl,SqL.of n.hg,eg,_,rfl,x,_,dx,_,_,rfl,n.ob,T.cl_Net,T.n_Net_takes,rfl,_,rfl,t,_,_,_,rfl,rfl,SqL.of n.ht,et,qg,qt,_,_,rfl,SqL.of fg,SqL.of ft,by omega,fun _=>hQ,fun h=>absurd (by omega) h⟩
theorem sc_gains:FnScope ["net"] ["net"] (defScope s_gains):=⟨rfl,rfl,rfl,by decide +kernel,rfl,by decide +kernel,by decide +kernel⟩
set_option maxHeartbeats 4000000 in
theorem ok_gains (T:Txt K mg AR FR):FnOk P w K mg base CX0 6 AR.f_gains FR.d_gains ["net"] (sp_gains AR.C_Net K):=by
 have G_Net_init:FnOk P w K mg base CX0 3 AR.f_Net_init FR.d_Net_init _ (sp_Net_init AR.C_Net K):=ok_Net_init T
 have G_gain:FnOk P w K mg base CX0 5 AR.f_gain FR.d_gain _ (sp_gain AR.C_Net K):=ok_gain T
 refine T.u_gains.F.ok sc_gains (fun vs H Q E h=>?_) (fun cdv A outer s H vs Q E hr h=>?_)
 ·obtain ⟨x,dx,b,d,t,g,f,ts,gs,N,rfl,n,ok,hQ⟩:=h
  rfl
 ·obtain ⟨x,dx,b,d,t,g,f,ts,gs,N,rfl,n,ok,hQ⟩:=h
  refine ⟨_,(pss_one (ps_ret (pe_comp (N':=["door","net"]) (nt:=1) (caps:=[0]) _ _ (CompScope.of (by kernel_rfl)) (pi_range1 (by rfl) T.z_range (pa_cons (pe_callB call_len_seq (by rfl) T.z_len bt_len (pa_cons (pe_fld (pv 0) rfl) pa_nil)) pa_nil)) (fun _=>(pg_nameC (i:=0) ["door","net"] (by decide +kernel) (by rfl))) (fun _=>pts_nil) (fun _=>(pe_call G_gain (hr.mono (by decide)) (by rfl) T.u_gain.m T.u_gain.F.kp T.u_gain.b .nil pass0 (pa_cons (pv 1) (pa_cons (pv 0) pa_nil))))))),?_⟩
  try dsimp only [kx1,kx2,kx3,Cx.nox,Cx.wish]
  have d8:=ok.d8
  have tl:=ok.tl
  have gl:=ok.gl
  have vd:(vstrs N.doors).length=N.takes.length:=by unfold vstrs; rw [List.length_map,tl]
  refine ⟨_,rfl,x,_,dx,_,_,rfl,n.ob,T.cl_Net,T.n_Net_doors,rfl,d,_,rfl,.inl (SqL.of n.hd),_,rfl,by rw [vd]; omega,by rw [vd]; omega,?_⟩
  rw [vd,Int.toNat_natCast]
  refine comp_rowsAt (τ:=[some (.ref x)]) (fun d=>sub (N.gives.getD d []) (N.takes.getD d [])) (small70 (by omega)) (fun B i H2 hi S2 Q' hq=>?_) fun as H2 S2 R2 _ q nq=>hQ q as _ (S2.free nq) (S2.upd nq) upd_same (R2.same ((Same.refl H2).upd nq))
  have hg:i<N.gives.length:=by omega
  refine ⟨_,rfl,_,rfl,x,dx,b,d,t,g,f,ts,gs,N,i,hi,hg,by rw [Int.zero_add]; rfl,n.same S2,ok,fun q H3 nq S3 hq3=>hq q H3 nq S3 ?_⟩
  rw [hq3,getDr hi,getDr hg]
  rfl
theorem sc_sums:FnScope ["net"] ["net"] (defScope s_sums):=⟨rfl,rfl,rfl,by decide +kernel,rfl,by decide +kernel,by decide +kernel⟩
set_option maxHeartbeats 4000000 in
theorem ok_sums (T:Txt K mg AR FR):FnOk P w K mg base CX0 7 AR.f_sums FR.d_sums ["net"] (sp_sums AR.C_Net K):=by
 have G_Net_init:FnOk P w K mg base CX0 3 AR.f_Net_init FR.d_Net_init _ (sp_Net_init AR.C_Net K):=ok_Net_init T
 have G_weighings:FnOk P w K mg base CX0 6 AR.f_weighings FR.d_weighings _ (sp_weighings K):=ok_weighings T
 have G_gains:FnOk P w K mg base CX0 6 AR.f_gains FR.d_gains _ (sp_gains AR.C_Net K):=ok_gains T
 refine T.u_sums.F.ok sc_sums (fun vs H Q E h=>?_) (fun cdv A outer s H vs Q E hr h=>?_)
 ·obtain ⟨x,dx,b,d,t,g,f,ts,gs,N,rfl,n,ok,hQ⟩:=h
  rfl
 ·obtain ⟨x,dx,b,d,t,g,f,ts,gs,N,rfl,n,ok,hQ⟩:=h
  refine ⟨_,(pss_one (ps_ret (pe_call G_weighings (hr.mono (by decide)) (by rfl) T.u_weighings.m T.u_weighings.F.kp T.u_weighings.b .nil pass0 (pa_cons (pe_call G_gains (hr.mono (by decide)) (by rfl) T.u_gains.m T.u_gains.F.kp T.u_gains.b .nil pass0 (pa_cons (pv 0) pa_nil)) (pa_cons (pe_callB call_len_seq (by rfl) T.z_len bt_len (pa_cons (pe_fld (pv 0) rfl) pa_nil)) pa_nil))))),?_⟩
  try dsimp only [kx1,kx2,kx3,Cx.nox,Cx.wish]
  have d8:=ok.d8
  have b6:=ok.b6
  have tl:=ok.tl
  have gl:=ok.gl
  have gl':N.gives.length=N.takes.length:=by omega
  have vb:(vstrs N.bowls).length=N.bowls.length:=List.length_map ..
  have gb:∀ r∈gnP N.takes N.gives,∀ y∈r,y.natAbs<2^30:=fun r hr y hy=>by
   obtain ⟨j,hj,rfl⟩:=List.mem_map.mp hr
   have hj:=List.mem_range.mp hj
   have h1:=ok.gv _ (List.getElem_mem (show j<N.gives.length by omega))
   have h2:=ok.tk _ (List.getElem_mem hj)
   rw [getDr hj,getDr (show j<N.gives.length by omega)] at hy
   exact Nat.lt_of_le_of_lt (sub_abs h1.1 h2.1 h1.2 h2.2 y hy) (by decide)
  refine ⟨_,rfl,x,dx,b,d,t,g,f,ts,gs,N,rfl,n,ok,fun pr as H1 npr S1 hpr R1=>?_⟩
  have n1:=n.same S1
  have c1:∀ v,v≤6→(30+1)*2^v≤9000:=by decide
  have c2:∀ v,v≤5→((30+1)*2^v-1)*(v+1)≤8996:=by decide
  refine ⟨_,rfl,x,_,dx,_,_,rfl,n1.ob,T.cl_Net,T.n_Net_bowls,rfl,b,_,rfl,.inl (SqL.of n1.hb),pr,as,gnP N.takes N.gives,N.bowls.length,30,by rw [vb]; rfl,SqL.of hpr,R1,by rw [gnP_len]; omega,by omega,gnP_wd (wd_of ok.tk) (wd_of ok.gv) gl',gb,by decide,c1 _ b6,fun s sw _=>c2 s (by omega),fun q ps TT H2 nq S2 hq L2' e1 o2 f2=>?_⟩
  exact hQ q ps TT H2 (S1.free nq) (S1.trans S2) hq L2' e1 o2 fun p hp=>S1.free (f2 p hp)
theorem sc_weighed:FnScope ["weights","ones"] ["weights","ones"] (defScope s_weighed):=⟨rfl,rfl,rfl,by decide +kernel,rfl,by decide +kernel,by decide +kernel⟩
set_option maxHeartbeats 4000000 in
theorem ok_weighed (T:Txt K mg AR FR):FnOk P w K mg base CX0 2 AR.f_weighed FR.d_weighed ["weights","ones"] (sp_weighed K):=by
 have G_refuse_unlike:FnOk P w K mg base (CXF P w) 1 AR.f_refuse_unlike FR.d_refuse_unlike _ (sp_refuse_unlike AR.C_Unlike K):=ok_refuse_unlike T
 refine T.u_weighed.F.ok sc_weighed (fun vs H Q E h=>?_) (fun cdv A outer s H vs Q E hr h=>?_)
 ·obtain ⟨a,b,xs,ys,rfl,ha,hb,hl,hz,hx,hy,hQ⟩:=h
  rfl
 ·obtain ⟨a,b,xs,ys,rfl,ha,hb,hl,hz,hx,hy,hQ⟩:=h
  refine ⟨_,(pss_cons (ps_expr (pe_call G_refuse_unlike.never (hr.mono (by decide)) (by rfl) T.u_refuse_unlike.m T.u_refuse_unlike.F.kp T.u_refuse_unlike.b .nil pass0 (pa_cons (pv 0) (pa_cons (pv 1) pa_nil))))
   (pss_one (ps_ret (pe_callB (call_sum_list rfl) (by rfl) T.z_sum bt_sum (pa_cons (pe_comp (N':=["weight","one"]) (nt:=2) (caps:=[]) _ _ (CompScope.of (by kernel_rfl)) (pi_zip (by rfl) T.z_zip (pa_cons (pv 0) (pa_cons (pv 1) pa_nil))) (fun _=>(pg_tup (by rfl) (pgs_cons (pg_nameC (i:=0) ["weight","one"] (by decide +kernel) (by rfl)) (pgs_cons (pg_nameC (i:=1) ["weight","one"] (by decide +kernel) (by rfl)) pgs_nil)))) (fun _=>pts_nil) (fun _=>(pe_op op_mulC (pv 0) (pv 1)))) pa_nil))))),?_⟩
  try dsimp only [kx1,kx2,kx3,Cx.nox,Cx.wish]
  refine ⟨_,rfl,_,rfl,a,b,_,_,rfl,ha,hb,fun _=>?_,fun h=>absurd (by rw [ints_len,ints_len]; exact hl) h⟩
  refine ⟨_,rfl,_,rfl,a,b,_,_,rfl,ha,hb,?_⟩
  refine comp_zip1 (τ:=[]) (gInt fun i j=>i*j) (by rw [ints_len,ints_len]; exact hl) (by rw [ints_len]; exact small70 hz) ha hb ?_ ?_
  ·intro B x w H2 hx' hw S Q' hq
   obtain ⟨i,hi,rfl⟩:=ints_mem hx'
   obtain ⟨j,hj,rfl⟩:=ints_mem hw
   exact ⟨_,rfl,_,rfl,_,_,rfl,rfl,⟨hx i hi,hy j hj⟩,hq H2 (Same.refl _)⟩
  ·intro H2 S p hp
   rw [zip_ints (f:=fun i j=>i*j) fun _ _=>rfl]
   exact ⟨p,_,rfl,SqL.of upd_same,hQ _ (S.upd hp)⟩
theorem sc_scale_of:FnScope ["rungs","width","place","part","pivot","rung","making","weights"] ["rungs","width","place"] (defScope s_scale_of):=⟨rfl,rfl,rfl,by decide +kernel,rfl,by decide +kernel,by decide +kernel⟩
set_option maxHeartbeats 4000000 in
theorem ok_scale_of (T:Txt K mg AR FR):FnOk P w K mg base CX0 4 AR.f_scale_of FR.d_scale_of ["rungs","width","place"] (sp_scale_of K):=by
 have G_times:FnOk P w K mg base CX0 1 AR.f_times FR.d_times _ (sp_times K):=ok_times T
 have G_unit:FnOk P w K mg base CX0 1 AR.f_unit FR.d_unit _ (sp_unit K):=ok_unit T
 have G_weighed:FnOk P w K mg base CX0 2 AR.f_weighed FR.d_weighed _ (sp_weighed K):=ok_weighed T
 have G_lowered:FnOk P w K mg base CX0 3 AR.f_lowered FR.d_lowered _ (sp_lowered K):=ok_lowered T
 refine T.u_scale_of.F.ok sc_scale_of (fun vs H Q E h=>?_) (fun cdv A outer s H vs Q E hr h=>?_)
 ·obtain ⟨a,ss,ps,X,Y,w',s',γ,rfl,ha,St,s6,sl,w6,lx,bx,I,g4,hQ⟩:=h
  rfl
 ·obtain ⟨a,ss,ps,X,Y,w',s',γ,rfl,ha,St,s6,sl,w6,lx,bx,I,g4,hQ⟩:=h
  refine ⟨_,(pss_cons (ps_set (i:=3) sc_scale_of.nd rfl (Or.inl rfl) pe_int)
   (pss_cons (ps_for PassesOwn.never rfl (pi_list (pe_slice sl_list (pv 0) po_none (po_some (pe_op op_add (pv 2) pe_int)))) (pg_tup (by rfl) (pgs_cons (pg_name (i:=4) sc_scale_of.nd (by rfl) (Or.inl rfl)) (pgs_cons (pg_name (i:=5) sc_scale_of.nd (by rfl) (Or.inl rfl)) (pgs_cons (pg_name (i:=6) sc_scale_of.nd (by rfl) (Or.inl rfl)) pgs_nil))))
   (pss_one (ps_set (i:=3) sc_scale_of.nd rfl (Or.inl rfl) (pe_op op_mulL (pv 3) (pe_ix ix_list (pv 5) (pv 4) (fun _ _=>rfl))))))
   (pss_cons (ps_set (i:=7) sc_scale_of.nd rfl (Or.inl rfl) (pe_call G_times (hr.mono (by decide)) (by rfl) T.u_times.m T.u_times.F.kp T.u_times.b .nil pass0 (pa_cons (pe_op op_fdivC (pv 3) (pe_ix ix_list (pe_ix ix_tup (pe_ix ix_list (pv 0) (pv 2) (fun _ _=>rfl)) pe_int (fun _ _=>rfl)) (pe_ix ix_tup (pe_ix ix_list (pv 0) (pv 2) (fun _ _=>rfl)) pe_int (fun _ _=>rfl)) (fun _ _=>rfl))) (pa_cons (pe_call G_unit (hr.mono (by decide)) (by rfl) T.u_unit.m T.u_unit.F.kp T.u_unit.b .nil pass0 (pa_cons (pe_ix ix_tup (pe_ix ix_list (pv 0) (pv 2) (fun _ _=>rfl)) pe_int (fun _ _=>rfl)) (pa_cons (pv 1) pa_nil))) pa_nil))))
   (pss_cons (ps_for PassesOwn.never rfl (pi_rev (by rfl) T.z_reversed (pa_cons (pe_slice sl_list (pv 0) po_none (po_some (pv 2))) pa_nil)) (pg_tup (by rfl) (pgs_cons (pg_name (i:=4) sc_scale_of.nd (by rfl) (Or.inl rfl)) (pgs_cons (pg_name (i:=5) sc_scale_of.nd (by rfl) (Or.inl rfl)) (pgs_cons (pg_name (i:=6) sc_scale_of.nd (by rfl) (Or.inl rfl)) pgs_nil))))
   (pss_one (ps_asg (pe_op op_fdivC (pe_un un_neg (pe_call G_weighed (hr.mono (by decide)) (by rfl) T.u_weighed.m T.u_weighed.F.kp T.u_weighed.b .nil pass0 (pa_cons (pv 7) (pa_cons (pv 5) pa_nil)))) (pe_ix ix_list (pv 5) (pv 4) (fun _ _=>rfl))) (pg_sub (pv 7) (pv 4) set_list))))
   (pss_cons (ps_set (i:=7) sc_scale_of.nd rfl (Or.inl rfl) (pe_call G_lowered (hr.mono (by decide)) (by rfl) T.u_lowered.m T.u_lowered.F.kp T.u_lowered.b .nil pass0 (pa_cons (pv 7) pa_nil)))
   (pss_one (ps_ret (pe_tup (pa_cons (pv 7) (pa_cons (pe_call G_weighed (hr.mono (by decide)) (by rfl) T.u_weighed.m T.u_weighed.F.kp T.u_weighed.b .nil pass0 (pa_cons (pv 7) (pa_cons (pe_ix ix_tup (pe_ix ix_list (pv 0) (pv 2) (fun _ _=>rfl)) pe_int (fun _ _=>rfl)) pa_nil))) pa_nil)))))))))),?_⟩
  try dsimp only [kx1,kx2,kx3,Cx.nox,Cx.wish]
  have tl:ss.length=ps.length:=Paired.length St
  have At:∀ {i:Nat} {t:Addr×Addr×Addr},ss[i]?=some t→∃ p,ps[i]?=some p∧ps.getD i 0=p∧p∈ps∧H t.1=some (.tup [.int (p:Int),.ref t.2.1,.ref t.2.2])∧H t.2.1=some (.lst (vints (X p))):=fun {i t} ht=>by
   obtain ⟨p,hp,hB⟩:=Paired.getL St ht
   exact ⟨p,hp,by rw [List.getD_eq_getElem?_getD,hp]; rfl,List.mem_of_getElem? hp,hB.1,hB.2.1⟩
  have gb:∀ j,j≤s'+1→Bd 4001 (lpr (fun k=>fv (X (ps.getD k 0)) (ps.getD k 0)) j):=fun j hj=>(lpr_bd (γ:=γ) fun k hk=>I.gb k (by omega)).mono (by have:=lto_mono (γ:=γ) hj; omega)
  refine seq_join (fun σ' H'=>σ'=[some (.ref a),some (.int (w':Int)),some (.int (s':Int)),some (.int 1),none,none,none,none]∧H=H') ?_ (fun N hN=>hN _ _ ⟨rfl,rfl⟩)
  rintro _ _ ⟨rfl,rfl⟩
  refine ⟨_,rfl,_,rfl,_,_,rfl,rfl,_,rfl,a,_,rfl,ha,fun l1 n1=>?_⟩
  rw [show ((s':Int)+1)=((s'+1:Nat):Int) by omega,cut_take]
  have V1:=(Same.refl H).upd n1 (o:=.lst ((ss.map fun t=>V.ref t.1).take (s'+1)))
  have h1:=upd_same (H:=H) (a:=l1) (o:=.lst ((ss.map fun t=>V.ref t.1).take (s'+1)))
  generalize upd H l1 (.lst ((ss.map fun t=>V.ref t.1).take (s'+1)))=H1 at V1 h1 ⊢
  refine ⟨l1,rfl,⟨_,SqL.of h1⟩,?_⟩
  refine for_list (K:=K) (a:=l1) (xs:=(ss.map fun t=>V.ref t.1).take (s'+1)) (fun i σ H2=>∃ (o4 o5 o6:Option V),σ=[some (.ref a),some (.int (w':Int)),some (.int (s':Int)),some (.int (lpr (fun k=>fv (X (ps.getD k 0)) (ps.getD k 0)) i)),o4,o5,o6,none]∧H2=H1) ⟨none,none,none,rfl,rfl⟩ (fun i σ H2 _ hp4=>by obtain ⟨_,_,_,_,e⟩:=hp4; exact e ▸ SqL.of h1) ?_ ?_
  ·rintro i y σ H2 hy ⟨o4,o5,o6,rfl,rfl⟩
   have is:i<s'+1:=by have:=(List.getElem?_eq_some_iff.mp hy).1; rw [List.length_take] at this; omega
   rw [List.getElem?_take,if_pos is] at hy
   obtain ⟨t,ht,rfl⟩:=sts_get hy
   obtain ⟨p,hp,ep,pm,f1,f2⟩:=At ht
   have pw:=I.lt i (by omega)
   rw [ep] at pw
   refine ⟨t.1,[_,_,_],rfl,SqT.of (V1 _ _ f1),rfl,_,[_,_],rfl,_,[_],rfl,_,[],rfl,rfl,?_⟩
   try dsimp only [gName,gNil]
   refine ⟨_,rfl,_,rfl,_,rfl,t.2.1,_,_,_,rfl,rfl,SqL.of (V1 _ _ f2),at_zs (by rw [lx p pm]; exact pw),_,_,rfl,rfl,⟨((gb i (by omega)).mono (by decide):Bd 1040000 _),Nat.lt_of_lt_of_le (at_in (P:=fun x=>x.natAbs<2^8999) (lx p pm) pw (bx p pm)) (Nat.pow_le_pow_right (by decide) (by decide))⟩,some (.int (p:Int)),some (.ref t.2.1),some (.ref t.2.2),?_,rfl⟩
   show _=[_,_,_,some (V.int (lpr (fun k=>fv (X (ps.getD k 0)) (ps.getD k 0)) i*fv (X (ps.getD i 0)) (ps.getD i 0))),_,_,_,_]
   rw [ep]
   rfl
  rintro σ H2 ⟨o4,o5,o6,rfl,rfl⟩
  have el:((ss.map fun t=>V.ref t.1).take (s'+1)).length=s'+1:=by rw [List.length_take,List.length_map]; omega
  rw [el]
  have hs1:ss[s']?=some ss[s']:=List.getElem?_eq_getElem (by omega)
  generalize ss[s']=t at hs1
  obtain ⟨p,hp,ep,pm,f1,f2⟩:=At hs1
  have pw:=I.lt s' (Nat.le_refl _)
  rw [ep] at pw
  have pos:=I.pos s' (Nat.le_refl _)
  rw [ep] at pos
  have hv:(ss.map fun t=>V.ref t.1)[s']?=some (V.ref t.1):=by rw [List.getElem?_map,hs1]; rfl
  have g1:=V1 _ _ f1
  have g2:=V1 _ _ f2
  have ha1:=V1.seq ha
  have bpp:(fv (X p) p).natAbs<2^8999:=at_in (P:=fun x=>x.natAbs<2^8999) (lx p pm) pw (bx p pm)
  refine ⟨_,rfl,_,rfl,_,rfl,a,_,_,_,rfl,rfl,ha1,atI_nat hv,t.1,_,_,_,rfl,rfl,SqT.of g1,rfl,_,rfl,_,rfl,a,_,_,_,rfl,rfl,ha1,atI_nat hv,t.1,_,_,_,rfl,rfl,SqT.of g1,rfl,t.2.1,_,_,_,rfl,rfl,SqL.of g2,at_zs (by rw [lx p pm]; exact pw),_,_,rfl,rfl,⟨pos,bpp⟩,_,rfl,_,rfl,a,_,_,_,rfl,rfl,ha1,atI_nat hv,t.1,_,_,_,rfl,rfl,SqT.of g1,rfl,_,rfl,p,w',rfl,by omega,fun qu H3 nqu S3 hqu=>?_⟩
  have eq:lpr (fun k=>fv (X (ps.getD k 0)) (ps.getD k 0)) (s'+1)/(X p).getD p 0=lpr (fun k=>fv (X (ps.getD k 0)) (ps.getD k 0)) s':=by
   show lpr (fun k=>fv (X (ps.getD k 0)) (ps.getD k 0)) s'*fv (X (ps.getD s' 0)) (ps.getD s' 0)/fv (X p) p=_
   rw [ep]
   exact Int.mul_ediv_cancel _ (by omega)
  try dsimp only
  rw [eq]
  refine ⟨_,qu,_,rfl,SqL.of hqu,by rw [unitL_len]; omega,((gb s' (by omega)).mono (by decide):Bd 1040000 _),fun y hy=>Nat.lt_of_le_of_lt (unitL_abs' y hy) (Nat.one_lt_two_pow (by decide)),fun qw H4 nqw S4 hqw=>?_⟩
  have S24:=S3.trans S4
  have fqw:=V1.free (S3.free nqw)
  have S04:=V1.trans S24
  have w0l:((unitL w' p).map fun y=>lpr (fun k=>fv (X (ps.getD k 0)) (ps.getD k 0)) s'*y).length=w':=by rw [List.length_map,unitL_len]
  have w0a:∀ k,k<w'→fv ((unitL w' p).map fun y=>lpr (fun k=>fv (X (ps.getD k 0)) (ps.getD k 0)) s'*y) k=if k=ps.getD s' 0 then lpr (fun k=>fv (X (ps.getD k 0)) (ps.getD k 0)) s' else 0:=fun k hk=>by
   unfold fv
   rw [ep,map_at (by rw [unitL_len]; exact hk),unitL_at hk]
   split<;>simp
  have I0:=ScI.start I w0a
  generalize (unitL w' p).map (fun y=>lpr (fun k=>fv (X (ps.getD k 0)) (ps.getD k 0)) s'*y)=ws0 at hqw w0l I0
  have BB:∀ j,j≤s'→1+lto γ (s'+1)+(lto γ (s'+1)-lto γ (j+1))+3*(s'-j)≤8990:=fun j hj=>by omega
  refine ⟨_,rfl,_,rfl,_,rfl,a,_,rfl,S04.seq ha,fun l2 n2=>?_⟩
  rw [cut_take]
  have V5:=(Same.refl H4).upd n2 (o:=.lst ((ss.map fun t=>V.ref t.1).take s'))
  have h5:=upd_same (H:=H4) (a:=l2) (o:=.lst ((ss.map fun t=>V.ref t.1).take s'))
  have hqw5:=V5 _ _ hqw
  have ql:l2≠qw:=fun z=>by rw [z,hqw] at n2; cases n2
  generalize upd H4 l2 (.lst ((ss.map fun t=>V.ref t.1).take s'))=H5 at V5 h5 hqw5 ⊢
  have S05:=S04.trans V5
  have el2:((ss.map fun t=>V.ref t.1).take s').length=s':=by rw [List.length_take,List.length_map]; omega
  refine ⟨l2,_,rfl,SqL.of h5,?_⟩
  refine for_rev (K:=K) (a:=l2) (xs:=(ss.map fun t=>V.ref t.1).take s') (fun i σ H6=>∃ (o4 o5 o6:Option V) (ws:List Int),σ=[some (.ref a),some (.int (w':Int)),some (.int (s':Int)),some (.int (lpr (fun k=>fv (X (ps.getD k 0)) (ps.getD k 0)) (s'+1))),o4,o5,o6,some (.ref qw)]∧Same H H6∧H6 l2=some (.lst ((ss.map fun t=>V.ref t.1).take s'))∧H6 qw=some (.lst (vints ws))∧ws.length=w'∧ScI w' s' (s'-i) (fun k=>ps.getD k 0) (fun k=>fv (X (ps.getD k 0))) γ (fv ws)) ⟨_,_,_,ws0,rfl,S05,h5,hqw5,w0l,I0⟩ (fun i σ H6 _ hp4=>by obtain ⟨_,_,_,_,_,_,h,_⟩:=hp4; exact SqL.of h) ?_ ?_
  ·rintro i y σ H6 hy ⟨o4',o5',o6',ws,rfl,S6,hl2,hws,wsl,inv⟩
   have hi:i<s':=by have:=(List.getElem?_eq_some_iff.mp hy).1; rw [List.length_reverse,el2] at this; exact this
   rw [List.getElem?_reverse (by rw [el2]; exact hi),el2,List.getElem?_take,if_pos (by omega)] at hy
   obtain ⟨u,hu,rfl⟩:=sts_get hy
   obtain ⟨c,hc,ec,cm,k1,k2⟩:=At hu
   have ej:s'-i=(s'-1-i)+1:=by omega
   rw [ej] at inv
   generalize hj:s'-1-i=j at inv hu hc ec ej
   have js:j<s':=by omega
   have cw:=I.lt j (by omega)
   rw [ec] at cw
   have cpos:=I.pos j (by omega)
   rw [ec] at cpos
   have wsb:∀ x∈ws,x.natAbs<2^8999:=fun x hx=>by
    obtain ⟨k,hk,rfl⟩:=List.mem_iff_getElem.mp hx
    rw [fv_at hk]
    by_cases q:∃ l,j+1≤l∧l≤s'∧k=ps.getD l 0
    ·obtain ⟨l,q1,q2,rfl⟩:=q
     exact ((inv.bd l q1 q2).mono (by have:=BB l q2; omega):Bd 8999 _)
    ·rw [inv.zr k (by omega) fun l q1 q2 z=>q ⟨l,q1,q2,z⟩]
     exact Nat.two_pow_pos _
   have S06:=S6
   have f1':=S6 _ _ k1
   have f2':=S6 _ _ k2
   refine ⟨u.1,[_,_,_],rfl,SqT.of f1',rfl,_,[_,_],rfl,_,[_],rfl,_,[],rfl,rfl,?_⟩
   try dsimp only [gName,gNil]
   refine ⟨_,rfl,_,rfl,qw,u.2.1,ws,X c,rfl,SqL.of hws,SqL.of f2',by rw [wsl,lx c cm],by omega,wsb,bx c cm,fun H7 S7=>?_⟩
   have hws7:=S7 _ _ hws
   have hl7:=S7 _ _ hl2
   have ix:ixN (vints ws).length (c:Int)=some c:=ixN_nat (by rw [ints_len,wsl]; exact cw)
   refine ⟨_,rfl,_,rfl,_,rfl,u.2.1,_,_,_,rfl,rfl,SqL.of (S7 _ _ f2'),at_zs (by rw [lx c cm]; exact cw),_,_,rfl,rfl,⟨cpos,at_in (P:=fun x=>x.natAbs<2^8999) (lx c cm) cw (bx c cm)⟩,_,rfl,_,rfl,qw,_,_,c,rfl,rfl,hws7,ix,?_⟩
   rw [set_ints]
   have st:=inv.step w6 I js (v := -(wsum ws (X c))/(X c).getD c 0) (by rw [wsum_lsm wsl (lx c cm),ec]; rfl) (ws':=fv (ws.set c (-(wsum ws (X c))/(X c).getD c 0))) fun k hk=>by
    rw [ec]
    unfold fv
    by_cases z:k=c
    ·subst z; rw [if_pos rfl,set_at (by omega)]
    ·rw [if_neg z,set_ne (Ne.symm z)]
   refine ⟨_,_,_,_,rfl,Same.upd' (S6.trans S7) fqw,by rw [upd_ne ql]; exact hl7,upd_same,by rw [List.length_set]; exact wsl,?_⟩
   rw [show s'-(i+1)=j by omega]
   exact st.1
  rintro σ H6 ⟨o4',o5',o6',ws,rfl,S6,hl2,hws,wsl,inv⟩
  rw [el2,Nat.sub_self] at inv
  have wsb:∀ x∈ws,x.natAbs<2^8999:=fun x hx=>by
   obtain ⟨k,hk,rfl⟩:=List.mem_iff_getElem.mp hx
   rw [fv_at hk]
   by_cases q:∃ l,l≤s'∧k=ps.getD l 0
   ·obtain ⟨l,q2,rfl⟩:=q
    exact ((inv.bd l (Nat.zero_le _) q2).mono (by have:=BB l q2; omega):Bd 8999 _)
   ·rw [inv.zr k (by omega) fun l _ q2 z=>q ⟨l,q2,z⟩]
    exact Nat.two_pow_pos _
  refine ⟨_,rfl,qw,ws,rfl,SqL.of hws,by omega,wsb,fun ql' H7 nq7 S7 hq7=>?_⟩
  obtain ⟨g,g0,_,hgj⟩:=low_by ws
  have ll:(lowL ws).length=w':=by rw [lowL_len]; exact wsl
  have sc:∀ f:Vc,lsm w' (fun k=>fv ws k*f k)=g*lsm w' (fun k=>fv (lowL ws) k*f k):=fun f=>by
   rw [← lsm_mul]
   refine lsm_congr fun k _=>?_
   show ws.getD k 0*f k=g*((lowL ws).getD k 0*f k)
   rw [hgj k,Int.mul_assoc]
  have S07:=S6.trans S7
  refine ⟨_,rfl,_,rfl,_,rfl,_,rfl,a,_,_,_,rfl,rfl,S07.seq ha,atI_nat hv,t.1,_,_,_,rfl,rfl,SqT.of (S07 _ _ f1),rfl,ql',t.2.1,_,X p,rfl,SqL.of hq7,SqL.of (S07 _ _ f2),by rw [ll,lx p pm],by omega,low_abs wsb,bx p pm,fun H8 S8=>⟨(show 2≤sizeLine by decide),fun q nq=>?_⟩⟩
  have own:=inv.own I
  rw [sc] at own
  have hpt:wsum (lowL ws) (X p)=lsm w' (fun k=>fv (lowL ws) k*fv (X (ps.getD s' 0)) k):=by rw [ep]; exact wsum_lsm ll (lx p pm)
  have lp:=lpr_pos (g:=fun k=>fv (X (ps.getD k 0)) (ps.getD k 0)) (a:=s'+1) fun k hk=>I.pos k (by omega)
  have ptpos:0<lsm w' (fun k=>fv (lowL ws) k*fv (X (ps.getD s' 0)) k):=by
   refine Int.pos_of_mul_pos_left ?_ g0 |> fun z=>z
   rw [Int.mul_comm,own]; exact lp
  rw [hpt]
  have S08:=S07.trans S8
  refine hQ q ql' (lowL ws) _ _ (S08.free nq) (S6.free nq7) (S08.upd nq) upd_same ((Same.refl H8).upd nq _ _ (S8 _ _ hq7)) ll ptpos (low_abs wsb) ?_ rfl (fun j hj=>?_) (fun f hf=>?_)
  ·refine Bd.of_le (gb (s'+1) (Nat.le_refl _)) ?_
   rw [← own,Int.natAbs_mul]
   have:1≤g.natAbs:=by omega
   have:=Nat.mul_le_mul_right (lsm w' (fun k=>fv (lowL ws) k*fv (X (ps.getD s' 0)) k)).natAbs this
   omega
  ·have:=inv.kl j (Nat.zero_le _) hj
   rw [sc] at this
   rcases Int.mul_eq_zero.mp this with z | z
   ·omega
   ·exact z
  ·have:=inv.off I hf
   rw [sc] at this
   rcases Int.mul_eq_zero.mp this with z | z
   ·omega
   ·exact z
theorem sc_scales:FnScope ["rungs","width"] ["rungs","width"] (defScope s_scales):=⟨rfl,rfl,rfl,by decide +kernel,rfl,by decide +kernel,by decide +kernel⟩
set_option maxHeartbeats 4000000 in
theorem ok_scales (T:Txt K mg AR FR):FnOk P w K mg base CX0 5 AR.f_scales FR.d_scales ["rungs","width"] (sp_scales K):=by
 have G_scale_of:FnOk P w K mg base CX0 4 AR.f_scale_of FR.d_scale_of _ (sp_scale_of K):=ok_scale_of T
 refine T.u_scales.F.ok sc_scales (fun vs H Q E h=>?_) (fun cdv A outer s H vs Q E hr h=>?_)
 ·obtain ⟨a,ss,ps,X,Y,w',γ,rfl,ha,St,s6,w6,lx,bx,I,g4,hQ⟩:=h
  rfl
 ·obtain ⟨a,ss,ps,X,Y,w',γ,rfl,ha,St,s6,w6,lx,bx,I,g4,hQ⟩:=h
  refine ⟨_,(pss_one (ps_ret (pe_comp (N':=["place","rungs","width"]) (nt:=1) (caps:=[0,1]) _ _ (CompScope.of (by kernel_rfl)) (pi_range1 (by rfl) T.z_range (pa_cons (pe_callB call_len_seq (by rfl) T.z_len bt_len (pa_cons (pv 0) pa_nil)) pa_nil)) (fun _=>(pg_nameC (i:=0) ["place","rungs","width"] (by decide +kernel) (by rfl))) (fun _=>pts_nil) (fun _=>(pe_call G_scale_of (hr.mono (by decide)) (by rfl) T.u_scale_of.m T.u_scale_of.F.kp T.u_scale_of.b .nil pass0 (pa_cons (pv 1) (pa_cons (pv 2) (pa_cons (pv 0) pa_nil)))))))),?_⟩
  try dsimp only [kx1,kx2,kx3,Cx.nox,Cx.wish]
  have tl:ss.length=ps.length:=Paired.length St
  have vl:(ss.map fun t=>V.ref t.1).length=ps.length:=by rw [List.length_map,tl]
  refine ⟨_,rfl,a,_,rfl,.inl ha,_,rfl,by omega,by rw [vl]; omega,?_⟩
  rw [Int.toNat_natCast,vl]
  refine comp_rangeP (fun i ys σ H2=>∃ (v:Option V) (cs:List (Addr×Addr)) (W:Nat→List Int) (pt:Nat→Int),σ=[v,some (.ref a),some (.int (w':Int))]∧Same H H2∧ys=cs.map (fun c=>V.ref c.1)∧ScT H2 cs W pt∧cs.length=i∧(∀ c∈cs,H c.1=none∧H c.2=none)∧∀ s,s<i→ScOk w' ps X s (W s) (pt s)) ⟨none,[],fun _=>[],fun _=>0,rfl,Same.refl _,rfl,fun j c h=>by simp at h,rfl,fun c hc=>(nomatch hc),fun s hs=>absurd hs (Nat.not_lt_zero _)⟩ ?_ ?_ ?_
  ·rintro i ys σ H2 hi ⟨v,cs,W,pt,rfl,S2,rfl,T2,cl,_⟩
   rw [List.length_map,cl]
   exact small70 (by omega)
  ·rintro B i ys σ H2 hi ⟨v,cs,W,pt,rfl,S2,rfl,T2,cl,fr,ok⟩
   have e0:(0:Int)+(i:Int)=((i:Nat):Int):=Int.zero_add _
   try dsimp only [gName,tTrue]
   rw [if_pos rfl,e0]
   refine ⟨_,rfl,_,rfl,_,rfl,a,ss,ps,X,Y,w',i,γ,rfl,S2.seq ha,St.same S2,s6,hi,w6,lx,bx,I i hi,Nat.le_trans (lto_mono (by omega)) g4,fun q l wl pn H3 nq nl S3 hq hl l1 l2 l3 l4 l5 l6 l7=>?_⟩
   refine ⟨_,cs++[(q,l)],(fun s=>if s=i then wl else W s),(fun s=>if s=i then pn else pt s),rfl,S2.trans S3,by rw [List.map_append]; rfl,?_,by rw [List.length_append,cl]; rfl,fun c hc=>?_,fun s hs=>?_⟩
   ·exact T2.snoc S3 cl hq hl
   ·rcases List.mem_append.mp hc with z | z
    ·exact fr c z
    ·rw [List.mem_singleton.mp z]; exact ⟨S2.free nq,S2.free nl⟩
   ·try dsimp only
    by_cases e:s=i
    ·subst e
     rw [if_pos rfl,if_pos rfl]
     exact ⟨l1,l2,l3,l4,l5,l6,l7⟩
    ·rw [if_neg e,if_neg e]
     exact ok s (by omega)
  ·rintro ys σ H2 ⟨v,cs,W,pt,rfl,S2,rfl,T2,cl,fr,ok⟩ q nq
   exact hQ q cs W pt _ (S2.free nq) (S2.upd nq) upd_same (T2.same ((Same.refl H2).upd nq)) cl fr ok
theorem sc_is_multiple:FnScope ["number","part"] ["number","part"] (defScope s_is_multiple):=⟨rfl,rfl,rfl,by decide +kernel,rfl,by decide +kernel,by decide +kernel⟩
set_option maxHeartbeats 4000000 in
theorem ok_is_multiple (T:Txt K mg AR FR):FnOk P w K mg base CX0 1 AR.f_is_multiple FR.d_is_multiple ["number","part"] (sp_is_multiple K):=by
 refine T.u_is_multiple.F.ok sc_is_multiple (fun vs H Q E h=>?_) (fun cdv A outer s H vs Q E hr h=>?_)
 ·obtain ⟨n,p,rfl,p0,hQ⟩:=h
  rfl
 ·obtain ⟨n,p,rfl,p0,hQ⟩:=h
  refine ⟨_,(pss_cons (ps_if (pt_cmpR op_eq (pv 1) pe_int (nomark _)) (pss_one (ps_ret (pe_cmpR op_eq (pv 0) pe_int (nomark _)))) pss_nil)
   (pss_one (ps_ret (pe_cmpR op_eq (pe_op op_mod (pv 0) (pv 1)) pe_int (nomark _))))),?_⟩
  try dsimp only [kx1,kx2,kx3,Cx.nox,Cx.wish]
  unfold mulP at hQ
  refine ⟨_,rfl,rfl,_,rfl,?_⟩
  refine iteD (fun h=>?_) (fun h=>?_)
  ·have e:p=0:=by injection h
   rw [if_pos e] at hQ
   refine ⟨_,rfl,rfl,?_⟩
   rw [dec_intS]
   exact hQ
  ·have e:p≠0:=fun e=>h (by rw [e])
   rw [if_neg e] at hQ
   refine ⟨_,rfl,_,rfl,_,_,rfl,rfl,(by show (0:Int)<p; omega),rfl,?_⟩
   rw [dec_intS]
   exact hQ
theorem sc_plus:FnScope ["ones","others"] ["ones","others"] (defScope s_plus):=⟨rfl,rfl,rfl,by decide +kernel,rfl,by decide +kernel,by decide +kernel⟩
set_option maxHeartbeats 4000000 in
theorem ok_plus (T:Txt K mg AR FR):FnOk P w K mg base CX0 2 AR.f_plus FR.d_plus ["ones","others"] (sp_plus K):=by
 have G_refuse_unlike:FnOk P w K mg base (CXF P w) 1 AR.f_refuse_unlike FR.d_refuse_unlike _ (sp_refuse_unlike AR.C_Unlike K):=ok_refuse_unlike T
 refine T.u_plus.F.ok sc_plus (fun vs H Q E h=>?_) (fun cdv A outer s H vs Q E hr h=>?_)
 ·obtain ⟨a,b,xs,ys,rfl,ha,hb,hl,hz,hQ⟩:=h
  rfl
 ·obtain ⟨a,b,xs,ys,rfl,ha,hb,hl,hz,hQ⟩:=h
  refine ⟨_,(pss_cons (ps_expr (pe_call G_refuse_unlike.never (hr.mono (by decide)) (by rfl) T.u_refuse_unlike.m T.u_refuse_unlike.F.kp T.u_refuse_unlike.b .nil pass0 (pa_cons (pv 0) (pa_cons (pv 1) pa_nil))))
   (pss_one (ps_ret (pe_comp (N':=["one","other"]) (nt:=2) (caps:=[]) _ _ (CompScope.of (by kernel_rfl)) (pi_zip (by rfl) T.z_zip (pa_cons (pv 0) (pa_cons (pv 1) pa_nil))) (fun _=>(pg_tup (by rfl) (pgs_cons (pg_nameC (i:=0) ["one","other"] (by decide +kernel) (by rfl)) (pgs_cons (pg_nameC (i:=1) ["one","other"] (by decide +kernel) (by rfl)) pgs_nil)))) (fun _=>pts_nil) (fun _=>(pe_op op_add (pv 0) (pv 1))))))),?_⟩
  try dsimp only [kx1,kx2,kx3,Cx.nox,Cx.wish]
  refine ⟨_,rfl,_,rfl,a,b,_,_,rfl,ha,hb,fun _=>?_,fun h=>absurd (by rw [ints_len,ints_len]; exact hl) h⟩
  refine ⟨_,rfl,_,rfl,a,b,_,_,rfl,ha,hb,?_⟩
  refine comp_zip1 (τ:=[]) (gInt fun i j=>i+j) (by rw [ints_len,ints_len]; exact hl) (by rw [ints_len]; exact small70 hz) ha hb ?_ ?_
  ·intro B x w H2 hx hw S Q' hq
   obtain ⟨i,_,rfl⟩:=ints_mem hx
   obtain ⟨j,_,rfl⟩:=ints_mem hw
   exact ⟨_,rfl,_,rfl,_,_,rfl,rfl,hq H2 (Same.refl _)⟩
  ·intro H2 S p hp
   rw [zip_ints (f:=fun i j=>i+j) fun _ _=>rfl]
   exact hQ p _ (S.free hp) (S.upd hp) upd_same
theorem sc_by_rungs:FnScope ["rungs","changed","doors","tally","place","scale","found"] ["rungs","changed","doors"] (defScope s_by_rungs):=⟨rfl,rfl,rfl,by decide +kernel,rfl,by decide +kernel,by decide +kernel⟩
set_option maxHeartbeats 4000000 in
theorem ok_by_rungs (T:Txt K mg AR FR):FnOk P w K mg base CX0 6 AR.f_by_rungs FR.d_by_rungs ["rungs","changed","doors"] (sp_by_rungs K):=by
 have G_scales:FnOk P w K mg base CX0 5 AR.f_scales FR.d_scales _ (sp_scales K):=ok_scales T
 have G_weighed:FnOk P w K mg base CX0 2 AR.f_weighed FR.d_weighed _ (sp_weighed K):=ok_weighed T
 have G_is_multiple:FnOk P w K mg base CX0 1 AR.f_is_multiple FR.d_is_multiple _ (sp_is_multiple K):=ok_is_multiple T
 have G_plus:FnOk P w K mg base CX0 2 AR.f_plus FR.d_plus _ (sp_plus K):=ok_plus T
 have G_times:FnOk P w K mg base CX0 1 AR.f_times FR.d_times _ (sp_times K):=ok_times T
 refine T.u_by_rungs.F.ok sc_by_rungs (fun vs H Q E h=>?_) (fun cdv A outer s H vs Q E hr h=>?_)
 ·obtain ⟨a,c,ss,ps,C,R,v,w',b,rfl,ha,St,L,hc,vl,w6,n8,hw,hb,b1,e8,hv,ns,hS,hT⟩:=h
  rfl
 ·obtain ⟨a,c,ss,ps,C,R,v,w',b,rfl,ha,St,L,hc,vl,w6,n8,hw,hb,b1,e8,hv,ns,hS,hT⟩:=h
  refine ⟨_,(pss_cons (ps_set (i:=3) sc_by_rungs.nd rfl (Or.inl rfl) (pe_op op_rep (pe_lst (pa_cons pe_int pa_nil)) (pv 2)))
   (pss_cons (ps_for PassesOwn.never rfl (pi_enum (by rfl) T.z_enumerate (pa_cons (pe_call G_scales (hr.mono (by decide)) (by rfl) T.u_scales.m T.u_scales.F.kp T.u_scales.b .nil pass0 (pa_cons (pv 0) (pa_cons (pe_callB call_len_seq (by rfl) T.z_len bt_len (pa_cons (pv 1) pa_nil)) pa_nil))) pa_nil)) (pg_tup (by rfl) (pgs_cons (pg_name (i:=4) sc_by_rungs.nd (by rfl) (Or.inl rfl)) (pgs_cons (pg_name (i:=5) sc_by_rungs.nd (by rfl) (Or.inl rfl)) pgs_nil)))
   (pss_cons (ps_set (i:=6) sc_by_rungs.nd rfl (Or.inl rfl) (pe_call G_weighed (hr.mono (by decide)) (by rfl) T.u_weighed.m T.u_weighed.F.kp T.u_weighed.b .nil pass0 (pa_cons (pe_ix ix_tup (pv 5) pe_int (fun _ _=>rfl)) (pa_cons (pv 1) pa_nil))))
   (pss_cons (ps_if (pt_not (pt_val (pe_call G_is_multiple (hr.mono (by decide)) (by rfl) T.u_is_multiple.m T.u_is_multiple.F.kp T.u_is_multiple.b .nil pass0 (pa_cons (pv 6) (pa_cons (pe_ix ix_tup (pv 5) pe_int (fun _ _=>rfl)) pa_nil))))) (pss_one (ps_ret (pe_tup (pa_cons pe_str (pa_cons (pe_ix ix_tup (pv 5) pe_int (fun _ _=>rfl)) (pa_cons (pe_ix ix_tup (pv 5) pe_int (fun _ _=>rfl)) pa_nil)))))) pss_nil)
   (pss_one (ps_set (i:=3) sc_by_rungs.nd rfl (Or.inl rfl) (pe_call G_plus (hr.mono (by decide)) (by rfl) T.u_plus.m T.u_plus.F.kp T.u_plus.b .nil pass0 (pa_cons (pv 3) (pa_cons (pe_call G_times (hr.mono (by decide)) (by rfl) T.u_times.m T.u_times.F.kp T.u_times.b .nil pass0 (pa_cons (pe_op op_fdivC (pv 6) (pe_ix ix_tup (pv 5) pe_int (fun _ _=>rfl))) (pa_cons (pe_ix ix_tup (pe_ix ix_list (pv 0) (pv 4) (fun _ _=>rfl)) pe_int (fun _ _=>rfl)) pa_nil))) pa_nil))))))))
   (pss_one (ps_ret (pe_tup (pa_cons pe_str (pa_cons (pv 3) pa_nil))))))),?_⟩
  try dsimp only [kx1,kx2,kx3,Cx.nox,Cx.wish]
  have tl:ss.length=ps.length:=Paired.length St
  have p6:ps.length≤6:=by
   have:=free_len L.up L.lt
   omega
  have vc:(vints v).length=w':=by rw [ints_len,vl]
  have v9:∀ x∈v,x.natAbs<2^8999:=fun x hx=>Nat.lt_of_lt_of_le (hv x hx) (Nat.pow_le_pow_right (by decide) (by decide))
  refine ⟨by decide,fun l nl=>⟨_,rfl,l,_,_,rfl,rfl,upd_same,by omega,by omega,by rw [Int.toNat_natCast]; show 1*R.length≤_; have:=small70 (show R.length≤70 by omega); omega,fun pm npm=>?_⟩⟩
  rw [Int.toNat_natCast,rep_flat]
  have U0:=(Same.refl H).upd nl (o:=.lst [V.int 0])
  have U1:=U0.upd npm (o:=.lst (vints (List.replicate R.length 0)))
  have e1:=upd_same (H:=upd H l (.lst [V.int 0])) (a:=pm) (o:=.lst (vints (List.replicate R.length 0)))
  generalize upd (upd H l (.lst [V.int 0])) pm (.lst (vints (List.replicate R.length 0)))=H1 at U1 e1 ⊢
  have I:∀ s,s<ps.length→RgI w' s (fun k=>ps.getD k 0) (fun k=>fv ((C (ps.getD k 0)).take w')) (fun _=>416):=fun s hs=>L.rgI (γ:=fun _=>416) (fun j hj=>L.fine hw hb b1 e8 (getD_memA hj)) hs
  refine ⟨_,rfl,_,rfl,c,_,rfl,.inl (SqL.of (U1 _ _ hc)),a,ss,ps,(fun p=>(C p).take w'),(fun p=>(C p).drop w'),w',(fun _=>416),by rw [vc]; rfl,SqL.of (U1 _ _ ha),St.same U1,by omega,w6,fun p hp=>by rw [List.length_take,L.ln p hp]; omega,fun p hp x hx=>?_,I,by rw [lto_const]; omega,fun q cs W pt H2 nq S2 hq T2 cl _ ok=>?_⟩
  ·obtain ⟨k,hk,rfl⟩:=List.mem_iff_getElem.mp hx
   have hk2:k<w':=by rw [List.length_take] at hk; omega
   rw [fv_at hk,take_fv hk2]
   exact ((L.bm p hp k hk2).mono (by decide):Bd 8999 _)
  have S:Scs w' ps C W pt:=⟨ok⟩
  have U2:=U1.trans S2
  refine ⟨q,_,rfl,SqL.of hq,?_⟩
  refine for_enum (K:=K) (a:=q) (xs:=cs.map fun c=>V.ref c.1) (fun i σ H3=>∃ (tq:Addr) (tv:List Int) (o4 o5 o6:Option V),σ=[some (.ref a),some (.ref c),some (.int (R.length:Int)),some (.ref tq),o4,o5,o6]∧Same H2 H3∧H3 tq=some (.lst (vints tv))∧tv.length=R.length∧(∀ d,d<R.length→fv tv d=lsm i fun s=>tOf w' W pt v s*rg ps C s (w'+d))∧∀ s,s<i→pt s∣wsum (W s) v) ⟨pm,_,none,none,none,rfl,Same.refl _,S2 _ _ e1,List.length_replicate,fun d hd=>?_,fun s hs=>absurd hs (Nat.not_lt_zero _)⟩ (fun i σ H3 _ hp4=>by obtain ⟨_,_,_,_,_,_,s3,_⟩:=hp4; exact SqL.of (s3 _ _ hq)) ?_ ?_
  ·unfold fv
   rw [List.getD_eq_getElem?_getD,List.getElem?_replicate,if_pos hd]
   rfl
  ·rintro i y q0 σ H3 hy ⟨tq,tv,o4,o5,o6,rfl,S3,htq,tvl,tve,tvd⟩ nq0
   have hi:i<ps.length:=by have:=(List.getElem?_eq_some_iff.mp hy).1; rw [List.length_map] at this; omega
   have hc1:cs[i]?=some cs[i]:=List.getElem?_eq_getElem (by omega)
   generalize cs[i]=cc at hc1
   rw [List.getElem?_map,hc1] at hy
   obtain rfl:V.ref cc.1=y:=Option.some.inj hy
   obtain ⟨k1,k2⟩:=T2 i cc hc1
   have U:=(Same.refl H3).upd nq0 (o:=.tup [.int (i:Nat),.ref cc.1])
   have S3':=S3.trans U
   have htq':=U _ _ htq
   have o:=ok i hi
   refine ⟨q0,[_,_],rfl,SqT.of upd_same,rfl,_,[_],rfl,_,[],rfl,rfl,?_⟩
   try dsimp only [gName,gNil]
   generalize upd H3 q0 (.tup [.int (i:Nat),.ref cc.1])=H4 at U S3' htq' ⊢
   have g1:=S3' _ _ k1
   have g2:=S3' _ _ k2
   have gc:=(U2.trans S3') _ _ hc
   refine ⟨_,rfl,cc.1,_,_,_,rfl,rfl,SqT.of g1,rfl,_,rfl,cc.2,c,W i,v,rfl,SqL.of g2,SqL.of gc,by rw [o.ln,vl],by rw [o.ln]; omega,o.bd,v9,fun H5 S5=>?_⟩
   have S25:=S3'.trans S5
   have g1:=S5 _ _ g1
   have g2:=S5 _ _ g2
   refine ⟨_,rfl,_,rfl,cc.1,_,_,_,rfl,rfl,SqT.of g1,rfl,_,pt i,rfl,Int.le_of_lt o.pos,_,rfl,?_⟩
   have hp0:pt i≠0:=by have:=o.pos; omega
   rw [mulP_dvd hp0]
   by_cases dv:pt i∣wsum (W i) v
   ·rw [decide_eq_true dv]
    refine iteF ?_
    have hs1:ss[i]?=some ss[i]:=List.getElem?_eq_getElem (by omega)
    generalize ss[i]=t at hs1
    obtain ⟨p,hp,hB1,_,hB3⟩:=Paired.getL St hs1
    have pm':=List.mem_of_getElem? hp
    have ep:ps.getD i 0=p:=by rw [List.getD_eq_getElem?_getD,hp]; rfl
    have hv':(ss.map fun t=>V.ref t.1)[i]?=some (V.ref t.1):=by rw [List.getElem?_map,hs1]; rfl
    have S05:=U2.trans S25
    have tb:Bd 9152 (wsum (W i) v/pt i):=ediv_bd (wsum_bd o.ln vl w6 o.bd hv) o.pos
    have dl:((C p).drop w').length=R.length:=by rw [List.length_drop,L.ln p pm']; omega
    refine ⟨_,rfl,_,rfl,_,rfl,cc.1,_,_,_,rfl,rfl,SqT.of g1,rfl,_,_,rfl,rfl,⟨o.pos,(o.pb.mono (by decide):Bd 8999 _)⟩,_,rfl,_,rfl,a,_,_,_,rfl,rfl,SqL.of (S05 _ _ ha),atI_nat hv',t.1,_,_,_,rfl,rfl,SqT.of (S05 _ _ hB1),rfl,_,t.2.2,(C p).drop w',rfl,SqL.of (S05 _ _ hB3),by omega,(tb.mono (by decide):Bd 1040000 _),fun x hx=>?_,fun q6 H6 nq6 S6 hq6=>?_⟩
    ·obtain ⟨k,hk,rfl⟩:=List.mem_iff_getElem.mp hx
     rw [List.getElem_drop,fv_at]
     exact ((L.bd p pm' _).mono (by decide):Bd 1040000 _)
    have ml:(((C p).drop w').map fun y=>wsum (W i) v/pt i*y).length=R.length:=by rw [List.length_map,dl]
    refine ⟨tq,q6,tv,_,rfl,SqL.of ((S5.trans S6) _ _ htq'),SqL.of hq6,by rw [tvl,ml],by omega,fun q7 H7 nq7 S7 hq7=>?_⟩
    refine ⟨q7,_,_,_,_,rfl,(S25.trans S6).trans S7,hq7,by rw [List.length_zipWith,tvl,ml,Nat.min_self],fun d hd=>?_,fun s hs=>?_⟩
    ·show _=(lsm i fun s=>tOf w' W pt v s*rg ps C s (w'+d))+tOf w' W pt v i*rg ps C i (w'+d)
     rw [← tve d hd]
     unfold fv
     rw [zip_at (fun i j=>i+j) (by omega) (by rw [ml]; exact hd),map_at (by omega)]
     unfold tOf rg fv
     rw [ep,List.getD_eq_getElem?_getD (l:=List.drop w' (C p)),List.getElem?_drop,← List.getD_eq_getElem?_getD]
    ·rcases Nat.lt_succ_iff_lt_or_eq.mp hs with z | z
     ·exact tvd s z
     ·rw [z]; exact dv
   ·rw [decide_eq_false dv]
    refine iteT ?_
    refine ⟨_,rfl,cc.1,_,_,_,rfl,rfl,SqT.of g1,rfl,_,rfl,cc.1,_,_,_,rfl,rfl,SqT.of g1,rfl,(show 3≤sizeLine by decide),fun q6 nq6=>?_⟩
    exact hS q6 cc.2 (W i) (pt i) _ ((U2.trans S25).upd nq6) upd_same ((Same.refl H5).upd nq6 _ _ g2) (S.part L hw vl hi dv)
  ·rintro σ H3 ⟨tq,tv,o4,o5,o6,rfl,S3,htq,tvl,tve,tvd⟩
   rw [List.length_map,cl] at tve tvd
   refine ⟨_,rfl,(show 2≤sizeLine by decide),fun q6 nq6=>?_⟩
   exact hT q6 tq tv _ ((U2.trans S3).upd nq6) upd_same ((Same.refl H3).upd nq6 _ _ htq) (S.tal L w6 p6 hw hb b1 vl hv tvd ns tvl tve)
theorem sc_without:FnScope ["row","rung","place"] ["row","rung","place"] (defScope s_without):=⟨rfl,rfl,rfl,by decide +kernel,rfl,by decide +kernel,by decide +kernel⟩
set_option maxHeartbeats 4000000 in
theorem ok_without (T:Txt K mg AR FR):FnOk P w K mg base CX0 3 AR.f_without FR.d_without ["row","rung","place"] (sp_without K):=by
 have G_less:FnOk P w K mg base (CXF P w) 2 AR.f_less FR.d_less _ (sp_less AR.C_Unlike K):=ok_less T
 have G_times:FnOk P w K mg base CX0 1 AR.f_times FR.d_times _ (sp_times K):=ok_times T
 refine T.u_without.F.ok sc_without (fun vs H Q E h=>?_) (fun cdv A outer s H vs Q E hr h=>?_)
 ·obtain ⟨a,b,xs,ys,p,L,rfl,ha,hb,l1,l2,l70,hp,nz,b1,b2,b3,hQ⟩:=h
  rfl
 ·obtain ⟨a,b,xs,ys,p,L,rfl,ha,hb,l1,l2,l70,hp,nz,b1,b2,b3,hQ⟩:=h
  refine ⟨_,(pss_one (ps_ret (pe_call G_less.never (hr.mono (by decide)) (by rfl) T.u_less.m T.u_less.F.kp T.u_less.b .nil pass0 (pa_cons (pv 0) (pa_cons (pe_call G_times (hr.mono (by decide)) (by rfl) T.u_times.m T.u_times.F.kp T.u_times.b .nil pass0 (pa_cons (pe_op op_fdivL (pe_ix ix_list (pv 0) (pv 2) (fun _ _=>rfl)) (pe_ix ix_list (pv 1) (pv 2) (fun _ _=>rfl))) (pa_cons (pv 1) pa_nil))) pa_nil))))),?_⟩
  try dsimp only [kx1,kx2,kx3,Cx.nox,Cx.wish]
  refine ⟨_,rfl,_,rfl,_,rfl,a,_,_,_,rfl,rfl,ha,at_zs (by omega),_,rfl,_,rfl,b,_,_,_,rfl,rfl,hb,at_zs (by omega),_,_,rfl,rfl,⟨nz,b1⟩,_,rfl,_,b,ys,rfl,hb,by omega,b2,b3,fun q H1 nq S1 hq=>?_⟩
  refine ⟨a,q,xs,_,rfl,S1.seq ha,SqL.of hq,by omega,fun _ q2 H2 nq2 S2 hq2=>?_,fun h=>absurd (by rw [List.length_map]; omega) h⟩
  exact hQ q2 H2 (S1.free nq2) (S1.trans S2) hq2
theorem sc_shared_out:FnScope ["one","other","place","rest"] ["one","other","place"] (defScope s_shared_out):=⟨rfl,rfl,rfl,by decide +kernel,rfl,by decide +kernel,by decide +kernel⟩
set_option maxHeartbeats 4000000 in
theorem ok_shared_out (T:Txt K mg AR FR):FnOk P w K mg base CX0 4 AR.f_shared_out FR.d_shared_out ["one","other","place"] (sp_shared_out K):=by
 have G_without:FnOk P w K mg base CX0 3 AR.f_without FR.d_without _ (sp_without K):=ok_without T
 refine T.u_shared_out.F.ok sc_shared_out (fun vs H Q E h=>?_) (fun cdv A outer s H vs Q E hr h=>?_)
 ·obtain ⟨a,b,xs,ys,p,L,ζ,rfl,ha,hb,l1,l2,l70,hp,nx,ny,bx,by_,z0,zx,zy,hQ⟩:=h
  rfl
 ·obtain ⟨a,b,xs,ys,p,L,ζ,rfl,ha,hb,l1,l2,l70,hp,nx,ny,bx,by_,z0,zx,zy,hQ⟩:=h
  refine ⟨_,(pss_cons (ps_while PassesOwn.never (pt_cmpR op_ne (pe_ix ix_list (pv 1) (pv 2) (fun _ _=>rfl)) pe_int (nomark _))
   (pss_cons (ps_set (i:=3) sc_shared_out.nd rfl (Or.inl rfl) (pe_call G_without (hr.mono (by decide)) (by rfl) T.u_without.m T.u_without.F.kp T.u_without.b .nil pass0 (pa_cons (pv 0) (pa_cons (pv 1) (pa_cons (pv 2) pa_nil)))))
   (pss_cons (ps_set (i:=0) sc_shared_out.nd rfl (Or.inl rfl) (pv 1))
   (pss_one (ps_set (i:=1) sc_shared_out.nd rfl (Or.inl rfl) (pv 3))))))
   (pss_one (ps_ret (pe_tup (pa_cons (pv 0) (pa_cons (pv 1) pa_nil)))))),?_⟩
  try dsimp only [kx1,kx2,kx3,Cx.nox,Cx.wish]
  refine while_rel (fun m σ H2=>∃ (c d:Addr) (us vs:List Int) (o3:Option V),m=(fv vs p).natAbs∧σ=[some (.ref c),some (.ref d),some (.int (p:Int)),o3]∧Same H H2∧H2 c=some (.lst (vints us))∧H2 d=some (.lst (vints vs))∧us.length=L∧vs.length=L∧((us=xs∧vs=ys)∨(EuW p (fv xs) (fv ys) (fv us) (fv vs)∧(fv vs p).natAbs≤(fv ys p).natAbs∧(fv us p).natAbs≤(fv ys p).natAbs))) ⟨_,a,b,xs,ys,none,rfl,rfl,Same.refl _,ha,hb,l1,l2,.inl ⟨rfl,rfl⟩⟩ ?_ ?_
  ·rintro m σ H2 ⟨c,d,us,vs',o3,rfl,rfl,S2,hc,hd,lu,lv,inv⟩
   refine ⟨_,rfl,_,rfl,d,_,_,_,rfl,rfl,SqL.of hd,at_zs (by omega),rfl,_,rfl,?_⟩
   refine iteND (fun hne=>?_) (fun he=>?_)
   ·have nv:fv vs' p≠0:=fun z=>hne (by show V.int (fv vs' p)=V.int 0; rw [z])
    have facts:Bd 5102 (fv vs' p)∧Bd 5102 (fv us p)∧(∀ k,Bd (ζ k+11204) (fv vs' k))∧EuW p (fv xs) (fv ys) (fv vs') (woV p (fv us) (fv vs'))∧(fv vs' p).natAbs≤(fv ys p).natAbs:=by
     rcases inv with ⟨rfl,rfl⟩ | ⟨E,e1,e2⟩
     ·exact ⟨by_,bx.mono (by omega),fun k=>(zy k).mono (by omega),EuW.start ny,Nat.le_refl _⟩
     ·exact ⟨Bd.of_le by_ e1,Bd.of_le by_ e2,fun k=>(E.bd bx by_ (zx k) (zy k)).2,E.step nv,e1⟩
    obtain ⟨f1,f2,f3,f4,f5⟩:=facts
    have lt:=(fdiv_abs (a:=fv us p) nv).2.2
    have qb:Bd 1040000 ((fv us p).fdiv (fv vs' p)):=by
     have h1:=(fdiv_abs (a:=fv us p) nv).1
     have h2:1≤(fv vs' p).natAbs:=by omega
     have h3:=Nat.mul_le_mul_left ((fv us p).fdiv (fv vs' p)).natAbs h2
     show ((fv us p).fdiv (fv vs' p)).natAbs<_
     have g1:(fv us p).natAbs<2^5102:=f2
     have g2:(fv vs' p).natAbs<2^5102:=f1
     have g3:2^5104≤2^1040000:=Nat.pow_le_pow_right (by decide) (by decide)
     rw [show 5104=5102+2 from rfl,Nat.pow_add _ _ 2] at g3
     generalize 2^1040000=G at g3 ⊢
     generalize 2^5102=G' at g1 g2 g3
     omega
    refine ⟨_,rfl,_,rfl,_,rfl,c,d,us,vs',p,L,rfl,SqL.of hc,SqL.of hd,lu,lv,l70,hp,nv,f1.mono (by decide),qb,fv_bd fun k=>(f3 k).mono (by have:=z0 k; omega),fun q H3 nq S3 hq=>?_⟩
    refine ⟨_,rfl,_,rfl,?_⟩
    refine ⟨_,?_,d,q,vs',woL p us vs',some (.ref q),rfl,rfl,S2.trans S3,S3 _ _ hd,hq,lv,woL_len lu lv,.inr ⟨by rw [woL_fv lu lv]; exact f4,?_,f5⟩⟩
    ·rw [woL_fv lu lv]; exact lt
    ·rw [woL_fv lu lv]
     show (fv us p-(fv us p).fdiv (fv vs' p)*fv vs' p).natAbs≤_
     omega
   ·have he:fv vs' p=0:=V.int.inj he
    rcases inv with ⟨rfl,rfl⟩ | ⟨E,e1,e2⟩
    ·exact absurd he ny
    ·exact ⟨_,rfl,_,rfl,(show 2≤sizeLine by decide),fun q nq=>hQ q c d us vs' _ (S2.upd nq) upd_same ((Same.refl H2).upd nq _ _ hc) ((Same.refl H2).upd nq _ _ hd) lu lv (E.done nx he)⟩
  ·rintro σ H2 Q1 Q2 h12 h
   obtain ⟨v1,e1,v2,e2,d,xs',i,y,e3,e4,e5,e6,e7,b,e8,e9⟩:=h
   exact ⟨v1,e1,v2,e2,d,xs',i,y,e3,e4,e5,e6,e7,b,e8,h12 _ _ e9⟩
theorem sc_put_row:FnScope ["rungs","row","width","place","shared"] ["rungs","row","width"] (defScope s_put_row):=⟨rfl,rfl,rfl,by decide +kernel,rfl,by decide +kernel,by decide +kernel⟩
set_option maxHeartbeats 4000000 in
theorem ok_put_row (T:Txt K mg AR FR):FnOk P w K mg base CX0 5 AR.f_put_row FR.d_put_row ["rungs","row","width"] (sp_put_row K):=by
 have G_upright:FnOk P w K mg base CX0 2 AR.f_upright FR.d_upright _ (sp_upright K):=ok_upright T
 have G_shared_out:FnOk P w K mg base CX0 4 AR.f_shared_out FR.d_shared_out _ (sp_shared_out K):=ok_shared_out T
 refine T.u_put_row.F.ok sc_put_row (fun vs H Q E h=>?_) (fun cdv A outer s H vs Q E hr h=>?_)
 ·obtain ⟨d,pr,w',n,m,Dl,C,rs,R,ζ,rfl,w6,n8,rg,hpr,rl,pt,z0,pz,mkd,mkr,hQ⟩:=h
  rfl
 ·obtain ⟨d,pr,w',n,m,Dl,C,rs,R,ζ,rfl,w6,n8,rg,hpr,rl,pt,z0,pz,mkd,mkr,hQ⟩:=h
  refine ⟨_,(pss_one (ps_for PassesOwn.never rfl (pi_range1 (by rfl) T.z_range (pa_cons (pv 2) pa_nil)) (pg_name (i:=3) sc_put_row.nd (by rfl) (Or.inl rfl))
   (pss_cons (ps_if (PW.pt (pw_and (pt_cmpR op_ne (pe_ix ix_list (pv 1) (pv 3) (fun _ _=>rfl)) pe_int (nomark _)) (pw_and1 (pt_cmp (pc_dnotin (hu_of hr) (pv 3) (pv 0)))))) (pss_cons (ps_dput (hu_of hr) (pv 0) (pv 3) (pe_call G_upright (hr.mono (by decide)) (by rfl) T.u_upright.m T.u_upright.F.kp T.u_upright.b .nil pass0 (pa_cons (pv 1) (pa_cons (pv 3) pa_nil))) rfl)
   (pss_one ps_retN)) pss_nil)
   (pss_one (ps_if (pt_cmpR op_ne (pe_ix ix_list (pv 1) (pv 3) (fun _ _=>rfl)) pe_int (nomark _)) (pss_cons (ps_set (i:=4) sc_put_row.nd rfl (Or.inl rfl) (pe_call G_shared_out (hr.mono (by decide)) (by rfl) T.u_shared_out.m T.u_shared_out.F.kp T.u_shared_out.b .nil pass0 (pa_cons (pe_dget (hu_of hr) (pv 0) (pv 3) (fun _ _=>rfl)) (pa_cons (pv 1) (pa_cons (pv 3) pa_nil)))))
   (pss_cons (ps_dput (hu_of hr) (pv 0) (pv 3) (pe_call G_upright (hr.mono (by decide)) (by rfl) T.u_upright.m T.u_upright.F.kp T.u_upright.b .nil pass0 (pa_cons (pe_ix ix_tup (pv 4) pe_int (fun _ _=>rfl)) (pa_cons (pv 3) pa_nil))) rfl)
   (pss_one (ps_set (i:=1) sc_put_row.nd rfl (Or.inl rfl) (pe_ix ix_tup (pv 4) pe_int (fun _ _=>rfl)))))) pss_nil))))),?_⟩
  try dsimp only [kx1,kx2,kx3,Cx.nox,Cx.wish]
  refine ⟨_,rfl,_,rfl,by omega,by omega,?_⟩
  rw [Int.toNat_natCast]
  refine for_range (n:=_) (fun i σ H2=>∃ (pr:Addr) (Dl:List (Nat×Addr)) (C:Nat→List Int) (rs:List Int) (o3 o4:Option V),σ=[some (.ref d),some (.ref pr),some (.int (w':Int)),o3,o4]∧SmX d H H2∧Rgs H2 d w' (w'+n) Dl C∧H2 pr=some (.lst (vints rs))∧rs.length=w'+n∧Put w' R m ζ i (rgF Dl C) (fv rs)∧(∀ x∈Dl,rgF Dl C x.1 x.1≠0)∧(∀ q,q<w'→MkV w' n R (rgF Dl C q))∧MkV w' n R (fv rs)) ⟨pr,Dl,C,rs,none,none,rfl,SmX.refl _ _,rg,hpr,rl,pt,pz,mkd,mkr⟩ ?_ ?_
  ·rintro i σ H2 hi ⟨pr,Dl,C,rs,o3,o4,rfl,S2,rg,hpr,rl,pt,pz,mkd,mkr⟩
   have e0:(0:Int)+(i:Int)=((i:Nat):Int):=Int.zero_add _
   try dsimp only [gName]
   rw [e0]
   have nd:∀ {b:Addr} {ys:List V} {H:Hp},H d=some (.dK (dkv Dl))→H b=some (.lst ys)→b≠d:=fun h e z=>by rw [z,h] at e; cases e
   have rkb:∀ x∈rs,x.natAbs<2^1040000:=fv_bd fun k=>(pt.rk k).mono (by have:=z0 k; omega)
   have dnz:∀ q,q∈Dl.map (·.1)→rgF Dl C q q≠0:=fun q hq=>by
    obtain ⟨x,hx,rfl⟩:=List.mem_map.mp hq
    exact pz x hx
   by_cases r0:fv rs i=0
   ·-- nought here
    refine ⟨_,rfl,_,rfl,pr,_,_,_,rfl,rfl,SqL.of hpr,at_zs (by omega),rfl,_,rfl,?_⟩
    refine iteND (fun h=>absurd (by show V.int (fv rs i)=V.int 0; rw [r0]) h) fun _=>iteF ?_
    try dsimp only [tNext]
    refine ⟨_,rfl,_,rfl,pr,_,_,_,rfl,rfl,SqL.of hpr,at_zs (by omega),rfl,_,rfl,?_⟩
    refine iteND (fun h=>absurd (by show V.int (fv rs i)=V.int 0; rw [r0]) h) fun _=>?_
    exact ⟨pr,Dl,C,rs,_,_,rfl,S2,rg,hpr,rl,pt.skip r0,pz,mkd,mkr⟩
   have rne:¬ V.int (rs.getD i 0)=V.int 0:=fun z=>r0 (V.int.inj z)
   by_cases hin:i∈Dl.map (·.1)
   ·-- shared with the rung there
    obtain ⟨a,ham,hav⟩:=(valV_dkv (p:=i) (Dl:=Dl)).2 hin
    obtain ⟨ha,la⟩:=rg.rw _ ham
    have hD:=dnz i hin
    have eD:rgF Dl C i=fv (C i):=rgF_in hin
    have dg:DGet H2 d (kV (Sum.inl (i:Int):Key)) (valV (dkv Dl) (Sum.inl (i:Int):Key)):=DGet.k rg.hd
    rw [hav] at dg
    refine ⟨_,rfl,_,rfl,pr,_,_,_,rfl,rfl,SqL.of hpr,at_zs (by omega),rfl,_,rfl,?_⟩
    refine iteND (fun _=>?_) fun h=>absurd h rne
    refine ⟨_,rfl,_,rfl,d,_,rfl,dg,_,rfl,?_⟩
    refine iteF ?_
    try dsimp only [tNext]
    refine ⟨_,rfl,_,rfl,pr,_,_,_,rfl,rfl,SqL.of hpr,at_zs (by omega),rfl,_,rfl,?_⟩
    refine iteND (fun _=>?_) fun h=>absurd h rne
    have bA:Bd 992 (fv (C i) i):=by rw [← eD]; exact pt.pg i i hi (Nat.le_refl _) hi hD
    have bB:Bd 5102 (fv rs i):=(pt.rp i (Nat.le_refl _) hi hD).mono (by omega)
    have nzA:fv (C i) i≠0:=by rw [← eD]; exact hD
    refine ⟨_,rfl,_,rfl,d,_,rfl,dg,_,rfl,_,rfl,a,pr,C i,rs,i,w'+n,ζ,rfl,ha,hpr,la,rl,by omega,by omega,nzA,r0,bA,bB,z0,fun k=>by rw [← eD]; exact pt.dz i (Nat.le_refl _) hi k,fun k=>(pt.rk k).mono (by omega),fun q c e us vs H3 S3 hq hc he lu lv E=>?_⟩
    rw [← eD] at E
    have pt2:=pt.share w6 hi hD E
    obtain ⟨mk1,mk2⟩:=E.mkV (mkd i hi) mkr
    have ub:∀ x∈us,x.natAbs<2^1040000:=fv_bd fun k=>by
     have h:=pt2.dp i (by omega) hi k
     rw [setD_sameV] at h
     exact (Bd.of_le h (by rw [uprV_abs]; exact Nat.le_refl _)).mono (by have:=z0 k; omega)
    refine ⟨_,rfl,q,_,_,_,rfl,rfl,SqT.of hq,rfl,_,rfl,c,us,i,rfl,hc,by omega,by omega,ub,fun q2 H4 S4 hq2=>?_⟩
    have S34:=S3.trans S4
    have rg4:=rg.same S34
    have dl:(dkv Dl).length<sizeLine:=by
     rw [List.length_map]
     have:=rg.len
     exact small70 (by omega)
    have dp:DPut H4 d (kV (Sum.inl (i:Int):Key)) (.ref q2) (upd H4 d (.dK (putK (dkv Dl) (Sum.inl (i:Int)) (.ref q2)))):=DPut.k rg4.hd dl
    rw [dkv_put] at dp
    obtain ⟨rg5,e5⟩:=rg4.put (p:=i) hi hq2 (upr_len lu)
    rw [upr_fv lu] at e5
    have nd4:∀ {b:Addr} {o:HO},H4 b=some o→(∀ kvs,o≠.dK kvs)→b≠d:=fun h n z=>by rw [z,rg4.hd] at h; exact n _ (Option.some.inj h).symm
    have hq4:=S4 _ _ hq
    have he4:=S4 _ _ he
    refine ⟨_,rfl,_,rfl,d,_,rfl,dp,?_⟩
    refine ⟨_,rfl,q,_,_,_,rfl,rfl,SqT.of (by rw [upd_ne (nd4 hq4 fun _ z=>nomatch z)]; exact hq4),rfl,?_⟩
    refine ⟨e,_,_,vs,_,_,rfl,(S2.trans S34.toX).upd,rg5,by rw [upd_ne (nd4 he4 fun _ z=>nomatch z)]; exact he4,lv,?_,?_,?_,mk2⟩
    ·rw [e5]; exact pt2
    ·rw [e5]; exact setV_nz pz (Int.ne_of_gt (uprV_pos E.nz))
    ·rw [e5]; exact setV_mk mkd (mk1.upr i)
   ·-- a new rung
    have hD:rgF Dl C i i=0:=by rw [rgF_no hin]
    have dg:DGet H2 d (kV (Sum.inl (i:Int):Key)) (valV (dkv Dl) (Sum.inl (i:Int):Key)):=DGet.k rg.hd
    rw [(valV_dkv (p:=i) (Dl:=Dl)).1 hin] at dg
    refine ⟨_,rfl,_,rfl,pr,_,_,_,rfl,rfl,SqL.of hpr,at_zs (by omega),rfl,_,rfl,?_⟩
    refine iteND (fun _=>?_) fun h=>absurd h rne
    refine ⟨_,rfl,_,rfl,d,_,rfl,dg,_,rfl,?_⟩
    refine iteT ?_
    refine ⟨_,rfl,_,rfl,pr,rs,i,rfl,hpr,by omega,by omega,rkb,fun q2 H4 S4 hq2=>?_⟩
    have rg4:=rg.same S4
    have dl:(dkv Dl).length<sizeLine:=by
     rw [List.length_map]
     have:=rg.len
     exact small70 (by omega)
    have dp:DPut H4 d (kV (Sum.inl (i:Int):Key)) (.ref q2) (upd H4 d (.dK (putK (dkv Dl) (Sum.inl (i:Int)) (.ref q2)))):=DPut.k rg4.hd dl
    rw [dkv_put] at dp
    obtain ⟨rg5,e5⟩:=rg4.put (p:=i) hi hq2 (upr_len rl)
    rw [upr_fv rl] at e5
    refine ⟨_,rfl,_,rfl,d,_,rfl,dp,?_⟩
    refine hQ _ _ _ (S2.trans S4.toX).upd rg5 ?_ ?_ ?_
    ·rw [e5]; exact pt.ins w6 hi r0 hD
    ·rw [e5]; exact setV_nz pz (Int.ne_of_gt (uprV_pos r0))
    ·rw [e5]; exact setV_mk mkd (mkr.upr i)
  ·rintro σ H2 ⟨pr,Dl,C,rs,o3,o4,rfl,S2,rg,hpr,rl,pt,pz,mkd,mkr⟩
   exact hQ _ _ _ S2 rg pt.fin pz mkd
theorem sc_settle:FnScope ["rungs","pivot","later"] ["rungs"] (defScope s_settle):=⟨rfl,rfl,rfl,by decide +kernel,rfl,by decide +kernel,by decide +kernel⟩
set_option maxHeartbeats 4000000 in
theorem ok_settle (T:Txt K mg AR FR):FnOk P w K mg base CX0 4 AR.f_settle FR.d_settle ["rungs"] (sp_settle K):=by
 have G_without:FnOk P w K mg base CX0 3 AR.f_without FR.d_without _ (sp_without K):=ok_without T
 refine T.u_settle.F.ok sc_settle (fun vs H Q E h=>?_) (fun cdv A outer s H vs Q E hr h=>?_)
 ·obtain ⟨d,w',n,m,Dl,C,R,ζ,rfl,w6,n8,rg,pt,tm,zm,z0,pz,mkd,hQ⟩:=h
  rfl
 ·obtain ⟨d,w',n,m,Dl,C,R,ζ,rfl,w6,n8,rg,pt,tm,zm,z0,pz,mkd,hQ⟩:=h
  refine ⟨_,(pss_one (ps_for PassesOwn.never rfl (pi_list (pe_sortR rfl (by rfl) T.z_sorted (pa_cons (pv 0) pa_nil) (pk_cons pe_bl pk_nil))) (pg_name (i:=1) sc_settle.nd (by rfl) (Or.inl rfl))
   (pss_one (ps_for PassesOwn.never rfl (pi_list (pe_callB (call_sortedD rfl) (by rfl) T.z_sorted bt_sorted (pa_cons (pv 0) pa_nil))) (pg_name (i:=2) sc_settle.nd (by rfl) (Or.inl rfl))
   (pss_one (ps_if (pt_cmpR op_gt (pv 2) (pv 1) (nomark _)) (pss_one (ps_dput (hu_of hr) (pv 0) (pv 1) (pe_call G_without (hr.mono (by decide)) (by rfl) T.u_without.m T.u_without.F.kp T.u_without.b .nil pass0 (pa_cons (pe_dget (hu_of hr) (pv 0) (pv 1) (fun _ _=>rfl)) (pa_cons (pe_dget (hu_of hr) (pv 0) (pv 2) (fun _ _=>rfl)) (pa_cons (pv 2) pa_nil)))) rfl)) pss_nil)))))),?_⟩
  try dsimp only [kx1,kx2,kx3,Cx.nox,Cx.wish]
  have kl:=rg.len
  refine ⟨_,rfl,d,Dl,true,rfl,rfl,rg.hd,by omega,fun ns p1 p2 a na=>?_⟩
  obtain ⟨ps,rfl,pm,po⟩:=sorted_down p1 p2 rg.nd
  have V1:=(Same.refl H).upd na (o:=.lst (vints (zs ps)))
  have ha:=upd_same (H:=H) (a:=a) (o:=.lst (vints (zs ps)))
  have rg1:=rg.same V1
  have ad:a≠d:=fun z=>by rw [z,rg.hd] at na; cases na
  generalize upd H a (.lst (vints (zs ps)))=H1 at V1 ha rg1 ⊢
  have psl:ps.length≤6:=by rw [pm.length_eq,List.length_map]; omega
  have vz:(vints (zs ps)).length=ps.length:=by rw [ints_len,zs_len]
  have has:∀ {D:Nat→Vc} {Dl':List (Nat×Addr)} {C':Nat→List Int},Dl'.map (·.1)=Dl.map (·.1)→D=rgF Dl' C'→∀ q,D q q≠0→q∈ps:=fun {D Dl' C'} e eD q hq=>by
   refine pm.mem_iff.mpr ?_
   rw [← e]
   exact Classical.byContradiction fun z=>hq (by rw [eD,rgF_no z])
  refine ⟨a,rfl,⟨_,SqL.of ha⟩,?_⟩
  refine for_list (K:=K) (a:=a) (xs:=vints (zs ps)) (fun i σ H2=>∃ (Dl2:List (Nat×Addr)) (C2:Nat→List Int) (o1 o2:Option V),σ=[some (.ref d),o1,o2]∧SmX d H1 H2∧Rgs H2 d w' (w'+n) Dl2 C2∧Dl2.map (·.1)=Dl.map (·.1)∧SetB w' R m ζ (if i=0 then w' else ps.getD (i-1) 0) i (rgF Dl2 C2)∧(∀ q,q∈Dl2.map (·.1)→rgF Dl2 C2 q q≠0)∧(∀ q,q<w'→MkV w' n R (rgF Dl2 C2 q))) ⟨Dl,C,none,none,rfl,SmX.refl _ _,rg1,rfl,pt.setB,fun q hq=>by obtain ⟨x,hx,rfl⟩:=List.mem_map.mp hq; exact pz x hx,mkd⟩ (fun i σ H2 _ hp4=>by obtain ⟨_,_,_,_,_,S,_⟩:=hp4; exact S.seq ad (SqL.of ha)) ?_ ?_
  ·rintro i y σ H2 hy ⟨Dl2,C2,o1,o2,rfl,S2,rg2,ek,sb,nz,mk2⟩
   obtain ⟨p,hp,rfl⟩:=zs_get hy
   have hi:i<ps.length:=(List.getElem?_eq_some_iff.mp hp).1
   have pin:p∈Dl2.map (·.1):=by rw [ek]; exact pm.mem_iff.mp (List.mem_of_getElem? hp)
   have pw:p<w':=by obtain ⟨x,hx,rfl⟩:=List.mem_map.mp pin; exact rg2.lt x hx
   have at1:∀ {l:List Nat} {j x:Nat},l[j]?=some x→l.getD j 0=x:=fun h=>by rw [List.getD_eq_getElem?_getD,h]; rfl
   have pq:p<(if i=0 then w' else ps.getD (i-1) 0):=by
    split
    ·exact pw
    ·rename_i ni
     have h1:ps[i-1]?=some ps[i-1]:=List.getElem?_eq_getElem (by omega)
     rw [at1 h1]
     exact (down_lt po hp (List.getElem_mem _)).2 (List.mem_take_iff_getElem.mpr ⟨i-1,by omega,rfl⟩)
   have no:∀ b,p<b→b<(if i=0 then w' else ps.getD (i-1) 0)→b<w'→rgF Dl2 C2 b b=0:=fun b pb bq bw=>by
    refine Classical.byContradiction fun z=>?_
    have bm:=has ek rfl b z
    have bt:=(down_lt po hp bm).1 pb
    obtain ⟨j,hj,rfl⟩:=List.mem_take_iff_getElem.mp bt
    rw [if_neg (by omega)] at bq
    have h1:ps[i-1]?=some ps[i-1]:=List.getElem?_eq_getElem (by omega)
    rw [at1 h1] at bq
    rcases Nat.eq_or_lt_of_le (show j≤i-1 by omega) with e | e
    ·subst e; omega
    ·have:=List.pairwise_iff_getElem.mp po j (i-1) (by omega) (by omega) e
     omega
   have se:=sb.enter zm pq pw no
   try dsimp only [gName]
   refine ⟨_,rfl,d,Dl2,rfl,rg2.hd,by have:=rg2.len; omega,fun ns q1 q2 b nb=>?_⟩
   obtain ⟨qs,rfl,qm,qo⟩:=sorted_up q1 q2 rg2.nd
   have V2:=(Same.refl H2).upd nb (o:=.lst (vints (zs qs)))
   have hb:=upd_same (H:=H2) (a:=b) (o:=.lst (vints (zs qs)))
   have rg3:=rg2.same V2
   have bd:b≠d:=fun z=>by rw [z,rg2.hd] at nb; cases nb
   generalize upd H2 b (.lst (vints (zs qs)))=H3 at V2 hb rg3 ⊢
   have hcount:(qs.filter fun a=>decide (p<a)).length=i:=by
    have qp:qs.Perm ps:=qm.trans (by rw [ek]; exact pm.symm)
    rw [(qp.filter _).length_eq]
    exact above po hp
   refine ⟨b,rfl,⟨_,SqL.of hb⟩,?_⟩
   refine for_list (K:=K) (a:=b) (xs:=vints (zs qs)) (fun l σ H4=>∃ (Dl4:List (Nat×Addr)) (C4:Nat→List Int) (o2:Option V) (j t:Nat),σ=[some (.ref d),some (.int (p:Int)),o2]∧SmX d H3 H4∧Rgs H4 d w' (w'+n) Dl4 C4∧Dl4.map (·.1)=Dl.map (·.1)∧Sett w' R m ζ p (i-1) j t (rgF Dl4 C4)∧p+1≤j∧j≤w'∧(∀ x∈qs.take l,p<x→x<j)∧(∀ x∈qs.drop l,p<x→j≤x)∧t+((qs.drop l).filter fun a=>decide (p<a)).length=i∧(∀ q,q∈Dl4.map (·.1)→rgF Dl4 C4 q q≠0)∧(∀ q,q<w'→MkV w' n R (rgF Dl4 C4 q))) ⟨Dl2,C2,_,p+1,0,rfl,SmX.refl _ _,rg3,ek,se,Nat.le_refl _,pw,fun x hx=>by simp at hx,fun x _ px=>px,by rw [List.drop_zero,hcount,Nat.zero_add],nz,mk2⟩ (fun l σ H4 _ hp4=>by obtain ⟨_,_,_,_,_,_,S,_⟩:=hp4; exact S.seq bd (SqL.of hb)) ?_ ?_
   ·rintro l y σ H4 hy ⟨Dl4,C4,o2,j,t,rfl,S4,rg4,ek4,st,pj,jw,A1,A2,tc,nz4,mk4⟩
    obtain ⟨x,hx,rfl⟩:=zs_get hy
    have hl:l<qs.length:=(List.getElem?_eq_some_iff.mp hx).1
    have ed:qs.drop l=x::qs.drop (l+1):=by rw [List.drop_eq_getElem_cons hl,(List.getElem?_eq_some_iff.mp hx).2]
    have et:qs.take (l+1)=qs.take l++[x]:=by rw [List.take_add_one,hx]; rfl
    try dsimp only [gName]
    refine ⟨_,rfl,_,rfl,_,_,rfl,rfl,_,rfl,?_⟩
    have xin:x∈Dl4.map (·.1):=by rw [ek4,← ek]; exact qm.mem_iff.mp (List.mem_of_getElem? hx)
    refine iteD (fun h=>?_) (fun h=>?_)
    ·have px:p<x:=by have h:(p:Int)<(x:Int):=h; omega
     have pin4:p∈Dl4.map (·.1):=by rw [ek4,← ek]; exact pin
     obtain ⟨a1,dg1,ha1,la1,_,ea1⟩:=rg4.get pin4
     obtain ⟨a2,dg2,ha2,la2,xw,ea2⟩:=rg4.get xin
     have jx:j≤x:=A2 x (by rw [ed]; exact List.mem_cons_self) px
     have st2:Sett w' R m ζ p (i-1) x t (rgF Dl4 C4):=by
      have:=Sett.upto (d:=x-j) st fun b jb bx pb bw=>Classical.byContradiction fun z=>?_
      ·rw [show j+(x-j)=x by omega] at this; exact this
      ·have bm:b∈qs:=qm.mem_iff.mpr (by rw [ek]; exact pm.mem_iff.mp (has ek4 rfl b z))
       rw [← List.take_append_drop l qs] at bm
       rcases List.mem_append.mp bm with y | y
       ·have:=A1 b y pb; omega
       ·rw [ed] at y
        rcases List.mem_cons.mp y with e | e
        ·omega
        ·have:=(List.pairwise_cons.mp (ed ▸ qo.drop (i:=l):(x::qs.drop (l+1)).Pairwise (· < ·))).1 b e
         omega
     have xnz:=nz4 x xin
     have xpos:0<rgF Dl4 C4 x x:=by have:=st.ech.nn x xw; omega
     rw [ed,List.filter_cons,if_pos (decide_eq_true px),List.length_cons] at tc
     have t4:t<5:=by omega
     have st3:=st2.sub tm zm t4 pw px xw xnz
     rw [ea1,ea2] at st3
     have bq:Bd 1040000 ((fv (C4 p) x).fdiv (fv (C4 x) x)):=by
      rw [← ea1,← ea2]
      exact (Bd.of_le (st.owm x xw xnz) (fdiv_le xpos)).mono (by omega)
     have b99:Bd 8999 (fv (C4 x) x):=by rw [← ea2]; exact (piv_lt st.ech st.la st.al tm xw).mono (by decide)
     have bx:∀ y∈C4 x,Bd 1040000 y:=fv_bd fun k=>by
      rw [← ea2]
      exact (st.new x px xw k).mono (by have:=z0 k; omega)
     refine ⟨_,rfl,_,rfl,d,_,rfl,dg1,_,rfl,_,rfl,d,_,rfl,dg2,_,rfl,a1,a2,C4 p,C4 x,x,w'+n,rfl,SqL.of ha1,SqL.of ha2,la1,la2,by omega,by omega,by rw [← ea2]; exact xnz,b99,bq,bx,fun q H5 nq S5 hq=>?_⟩
     obtain ⟨H6,Dl6,C6,dp,S6,rg6,ek6,e6⟩:=(rg4.same S5).putD w6 pin4 hq (woL_len la1 la2)
     rw [woL_fv la1 la2] at e6
     refine ⟨_,rfl,_,rfl,d,_,rfl,dp,?_⟩
     have piv:∀ k,setV (rgF Dl4 C4) p (woV x (fv (C4 p)) (fv (C4 x))) k k=rgF Dl4 C4 k k:=fun k=>by
      by_cases e:k=p
      ·subst e
       rw [setD_sameV,ea1]
       show fv (C4 k) k-_*fv (C4 x) k=_
       have:=st.ech.lo x xw k px
       rw [ea2] at this
       rw [this]; omega
      ·rw [setD_neV e]
     refine ⟨Dl6,C6,_,x+1,t+1,rfl,(S4.trans S5.toX).trans S6,rg6,by rw [ek6,ek4],by rw [e6]; exact st3,by omega,by omega,fun y hy py=>?_,fun y hy py=>?_,by omega,fun q hq'=>?_,?_⟩
     ·rw [et] at hy
      rcases List.mem_append.mp hy with z | z
      ·have:=A1 y z py; omega
      ·rw [List.mem_singleton.mp z]; omega
     ·have:=(List.pairwise_cons.mp (ed ▸ qo.drop (i:=l):(x::qs.drop (l+1)).Pairwise (· < ·))).1 y hy
      omega
     ·rw [e6,piv q]; rw [ek6] at hq'; exact nz4 q hq'
     ·rw [e6]
      refine setV_mk mk4 ?_
      have m1:=mk4 p pw
      have m2:=mk4 x xw
      rw [ea1] at m1
      rw [ea2] at m2
      exact m1.wo x m2
    ·have px:¬ p<x:=fun z=>h (by show (p:Int)<(x:Int); omega)
     rw [ed,List.filter_cons,if_neg (by rw [decide_eq_true_eq]; exact px)] at tc
     refine ⟨Dl4,C4,_,j,t,rfl,S4,rg4,ek4,st,pj,jw,fun y hy py=>?_,fun y hy py=>A2 y (by rw [ed]; exact List.mem_cons_of_mem _ hy) py,tc,nz4,mk4⟩
     rw [et] at hy
     rcases List.mem_append.mp hy with z | z
     ·exact A1 y z py
     ·rw [List.mem_singleton.mp z] at py; exact absurd py px
   ·rintro σ H4 ⟨Dl4,C4,o2,j,t,rfl,S4,rg4,ek4,st,pj,jw,A1,A2,tc,nz4,mk4⟩
    have vq:(vints (zs qs)).length=qs.length:=by rw [ints_len,zs_len]
    rw [vq,List.take_length] at A1
    rw [vq,List.drop_length] at tc
    have tc:t=i:=by simpa using tc
    have st2:Sett w' R m ζ p (i-1) w' t (rgF Dl4 C4):=by
     have:=Sett.upto (d:=w'-j) st fun b jb bx pb bw=>Classical.byContradiction fun z=>?_
     ·rw [show j+(w'-j)=w' by omega] at this; exact this
     ·have bm:b∈qs:=qm.mem_iff.mpr (by rw [ek]; exact pm.mem_iff.mp (has ek4 rfl b z))
      have:=A1 b bm pb
      omega
    have sb2:=st2.leave pw (Nat.le_refl _) (by omega) (by omega)
    refine ⟨Dl4,C4,_,_,rfl,(S2.trans V2.toX).trans S4,rg4,ek4,?_,nz4,mk4⟩
    rw [if_neg (by omega),show i+1-1=i by omega,at1 hp]
    exact sb2
  ·rintro σ H2 ⟨Dl2,C2,o1,o2,rfl,S2,rg2,ek,sb,nz,mk2⟩
   rw [vz] at sb
   have fin:=sb.done (fun b bq bw=>Classical.byContradiction fun z=>by
    have bm:=has ek rfl b z
    obtain ⟨j,hj,e⟩:=List.mem_iff_getElem.mp bm
    rw [if_neg (by omega),List.getD_eq_getElem?_getD,List.getElem?_eq_getElem (show ps.length-1<ps.length by omega)] at bq
    have bq:b<ps[ps.length-1]:=bq
    rcases Nat.eq_or_lt_of_le (show j≤ps.length-1 by omega) with e' | e'
    ·subst e'; omega
    ·have:=List.pairwise_iff_getElem.mp po j (ps.length-1) (by omega) (by omega) e'
     omega) (by omega)
   exact hQ _ _ _ (V1.toX.trans S2) rg2 fin.1 fin.2 (fun x hx=>nz _ (List.mem_map.mpr ⟨x,hx,rfl⟩)) mk2
theorem sc_ladder:FnScope ["rows","width","rungs","row"] ["rows","width"] (defScope s_ladder):=⟨rfl,rfl,rfl,by decide +kernel,rfl,by decide +kernel,by decide +kernel⟩
set_option maxHeartbeats 4000000 in
theorem ok_ladder (T:Txt K mg AR FR):FnOk P w K mg base CX0 6 AR.f_ladder FR.d_ladder ["rows","width"] (sp_ladder K):=by
 have G_with_makings:FnOk P w K mg base CX0 2 AR.f_with_makings FR.d_with_makings _ (sp_with_makings K):=ok_with_makings T
 have G_put_row:FnOk P w K mg base CX0 5 AR.f_put_row FR.d_put_row _ (sp_put_row K):=ok_put_row T
 have G_settle:FnOk P w K mg base CX0 4 AR.f_settle FR.d_settle _ (sp_settle K):=ok_settle T
 refine T.u_ladder.F.ok sc_ladder (fun vs H Q E h=>?_) (fun cdv A outer s H vs Q E hr h=>?_)
 ·obtain ⟨a,as,R,w',b,rfl,ha,rw',hw,n8,w6,hb,b1,b101,eb,hQ⟩:=h
  rfl
 ·obtain ⟨a,as,R,w',b,rfl,ha,rw',hw,n8,w6,hb,b1,b101,eb,hQ⟩:=h
  refine ⟨_,(pss_cons (ps_set (i:=2) sc_ladder.nd rfl (Or.inr rfl) pe_dnewK)
   (pss_cons (ps_for PassesOwn.never rfl (pi_list (pe_call G_with_makings (hr.mono (by decide)) (by rfl) T.u_with_makings.m T.u_with_makings.F.kp T.u_with_makings.b .nil pass0 (pa_cons (pv 0) pa_nil))) (pg_name (i:=3) sc_ladder.nd (by rfl) (Or.inl rfl))
   (pss_cons (ps_expr (pe_call G_put_row (hr.mono (by decide)) (by rfl) T.u_put_row.m T.u_put_row.F.kp T.u_put_row.b .nil pass0 (pa_cons (pv 2) (pa_cons (pv 3) (pa_cons (pv 1) pa_nil)))))
   (pss_one (ps_expr (pe_call G_settle (hr.mono (by decide)) (by rfl) T.u_settle.m T.u_settle.F.kp T.u_settle.b .nil pass0 (pa_cons (pv 2) pa_nil))))))
   (pss_one (ps_ret (pe_comp (N':=["pivot","rungs","width"]) (nt:=1) (caps:=[2,1]) _ _ (CompScope.of (by kernel_rfl)) (pi_list (pe_callB (call_sortedD rfl) (by rfl) T.z_sorted bt_sorted (pa_cons (pv 2) pa_nil))) (fun _=>(pg_nameC (i:=0) ["pivot","rungs","width"] (by decide +kernel) (by rfl))) (fun _=>pts_nil) (fun _=>(pe_tup (pa_cons (pv 0) (pa_cons (pe_slice sl_list (pe_dget (hu_of hr) (pv 1) (pv 0) (fun _ _=>rfl)) po_none (po_some (pv 2))) (pa_cons (pe_slice sl_list (pe_dget (hu_of hr) (pv 1) (pv 0) (fun _ _=>rfl)) (po_some (pv 2)) po_none) pa_nil)))))))))),?_⟩
  try dsimp only [kx1,kx2,kx3,Cx.nox,Cx.wish]
  have tame:∀ m,m≤R.length→Tame w' (tf R) m:=fun m hm=>tame_of hw hb b1 w6 eb hm
  refine fun d nd=>?_
  have V1:=(Same.refl H).upd nd (o:=.dK [])
  have hd:=upd_same (H:=H) (a:=d) (o:=.dK [])
  generalize upd H d (.dK [])=H1 at V1 hd ⊢
  refine ⟨_,rfl,a,as,R,rfl,SqL.of (V1 _ _ ha),rw'.same V1,by omega,fun r hr=>by rw [hw r hr]; omega,fun q ls H3 nq S3 hq rl=>?_⟩
  have hd3:=S3 _ _ hd
  have ne3:∀ {b:Addr} {ys:List V},H3 b=some (.lst ys)→b≠d:=fun h z=>by rw [z,hd3] at h; cases h
  have ml:(mkR R).length=R.length:=by unfold mkR; rw [List.length_map,List.length_range]
  have S03:=V1.trans S3
  refine ⟨q,rfl,⟨_,SqL.of hq⟩,?_⟩
  refine for_list (K:=K) (a:=q) (xs:=ls.map V.ref) (fun i σ H4=>∃ (Dl:List (Nat×Addr)) (C:Nat→List Int) (o3:Option V),σ=[some (.ref a),some (.int (w':Int)),some (.ref d),o3]∧SmX d H3 H4∧Rgs H4 d w' (w'+R.length) Dl C∧Lad w' (tf R) i (rgF Dl C)∧(∀ a,a<w'→∀ k,w'≤k→Bd (1+106959*i) (rgF Dl C a k))∧(∀ x∈Dl,rgF Dl C x.1 x.1≠0)∧(∀ q,q<w'→MkV w' R.length (tf R) (rgF Dl C q))) ⟨[],fun _=>[],none,rfl,SmX.refl _ _,⟨hd3,List.nodup_nil,fun x hx=>(nomatch hx),fun x hx=>(nomatch hx)⟩,Lad.start _ _,fun a _ k _=>Bd.zero _,fun x hx=>(nomatch hx),fun q _=>MkV.zero _ _ _⟩ (fun i σ H4 _ hp4=>by obtain ⟨_,_,_,_,S,_⟩:=hp4; exact S.seq (ne3 hq) (SqL.of hq)) ?_ ?_
  ·rintro i y σ H4 hy ⟨Dl,C,o3,rfl,S4,rg,la,bz,pz,mkd⟩
   obtain ⟨c,hc,rfl⟩:=refs_get hy
   obtain ⟨r,hr1,hr2⟩:=Paired.getL rl hc
   have hi:i<R.length:=by have:=(List.getElem?_eq_some_iff.mp hr1).1; omega
   rw [mkR_at hi] at hr1
   obtain rfl:=Option.some.inj hr1
   obtain ⟨r1,r2,r3⟩:=row_fv hw hi
   have hc4:=S4 _ _ (ne3 hr2) hr2
   have zm:∀ k,k<w'→(fun k=>if k<w' then 2982 else 1+106959*i) k=2982:=fun k hk=>if_pos hk
   have z9:∀ k,(fun k=>if k<w' then 2982 else 1+106959*i) k≤900000:=fun k=>by dsimp only; split<;>omega
   have put:=la.put (ζ:=fun k=>if k<w' then 2982 else 1+106959*i) (r:=fv (R.getD i []++unitL R.length i)) (tame i (by omega)) zm (fun a' ha' k hk=>by rw [if_neg (by omega)]; exact bz a' ha' k hk) r2 (fun k hk=>by
    rw [r2 k hk]
    have lr:(R.getD i []).length=w':=hw _ (getDm hi)
    show ((R.getD i []).getD k 0).natAbs<2^137
    rw [L2.getD_at (show k<(R.getD i []).length by omega)]
    exact Nat.lt_of_lt_of_le (hb _ (getDm hi) _ (List.getElem_mem _)) (Nat.pow_le_pow_right (by decide) b101)) (fun k hk=>by
    rw [if_neg (by omega),show k=w'+(k-w') by omega,r3]
    have:Bd 1 (if k-w'=i then 1 else 0):=by unfold Bd; split<;>decide
    exact this.mono (by omega))
   try dsimp only [gName]
   refine ⟨_,rfl,_,rfl,_,rfl,d,c,w',R.length,i,Dl,C,_,tf R,_,rfl,w6,n8,rg,hc4,r1,put,fun k=>Nat.le_trans (z9 k) (by decide),pz,mkd,row_mk hw hi,fun H5 Dl5 C5 S5 rg5 pe5 pz5 mk5=>?_⟩
   refine ⟨_,rfl,d,w',R.length,i+1,Dl5,C5,tf R,_,rfl,w6,n8,rg5,pe5,tame (i+1) (by omega),zm,z9,pz5,mk5,fun H6 Dl6 C6 S6 rg6 la6 b6 pz6 mk6=>?_⟩
   refine ⟨Dl6,C6,_,rfl,(S4.trans S5).trans S6,rg6,la6,fun a' ha' k hk=>?_,pz6,mk6⟩
   have h:=b6 a' ha' k
   rw [if_neg (by omega)] at h
   exact h.mono (by omega)
  ·rintro σ H4 ⟨Dl,C,o3,rfl,S4,rg,la,bz,pz,mkd⟩
   have el:(ls.map V.ref).length=R.length:=by rw [List.length_map,rl.length,ml]
   rw [el] at la bz
   have S04:Same H H4:=fun b o h=>S4 b o (fun z=>by rw [z,nd] at h; cases h) (S03 b o h)
   refine ⟨_,rfl,d,Dl,rfl,rg.hd,by have:=rg.len; omega,fun ns q1 q2 p0 np0=>?_⟩
   obtain ⟨ps,rfl,pm,po⟩:=sorted_up q1 q2 rg.nd
   have V5:=(Same.refl H4).upd np0 (o:=.lst (vints (zs ps)))
   have hp0:=upd_same (H:=H4) (a:=p0) (o:=.lst (vints (zs ps)))
   have rg5:=rg.same V5
   generalize upd H4 p0 (.lst (vints (zs ps)))=H5 at V5 hp0 rg5 ⊢
   have S05:=S04.trans V5
   have psl:ps.length≤6:=by rw [pm.length_eq,List.length_map]; have:=rg.len; omega
   have pk:∀ p,p∈ps↔p∈Dl.map (·.1):=fun p=>pm.mem_iff
   refine ⟨p0,rfl,⟨_,SqL.of hp0⟩,?_⟩
   refine comp_listP (g:=fun _=>gName 0) (tt:=fun _=>tTrue) (K:=K) (a:=p0) (xs:=vints (zs ps)) (fun j ys σ H6=>∃ (v:Option V) (ss:List (Addr×Addr×Addr)),σ=[v,some (.ref d),some (.int (w':Int))]∧Same H5 H6∧ys=ss.map (fun s=>V.ref s.1)∧Paired (fun (s:Addr×Addr×Addr) (p:Nat)=>H6 s.1=some (.tup [.int (p:Int),.ref s.2.1,.ref s.2.2])∧H6 s.2.1=some (.lst (vints ((C p).take w')))∧H6 s.2.2=some (.lst (vints ((C p).drop w')))) ss (ps.take j)∧∀ s∈ss,H s.1=none∧H s.2.1=none∧H s.2.2=none) ⟨none,[],rfl,Same.refl _,rfl,.nil,fun s hs=>nomatch hs⟩ ?_ ?_ ?_
   ·rintro j ys σ H6 hj ⟨v,ss,rfl,S6,rfl,B6,_⟩
    refine ⟨SqL.of (S6 _ _ hp0),?_⟩
    rw [List.length_map,Paired.length B6,List.length_take]
    exact small70 (by omega)
   ·rintro B j y ys σ H6 hy ⟨v,ss,rfl,S6,rfl,B6,fr6⟩
    obtain ⟨p,hp,rfl⟩:=zs_get hy
    have pin:p∈Dl.map (·.1):=(pk p).mp (List.mem_of_getElem? hp)
    have rg6:=rg5.same S6
    obtain ⟨a1,dg,ha1,la1,_,ea1⟩:=rg6.get pin
    try dsimp only [gName,tTrue]
    rw [if_pos rfl]
    refine ⟨_,rfl,_,rfl,_,rfl,d,_,rfl,dg,_,rfl,_,rfl,a1,_,rfl,SqL.of ha1,fun l1 n1=>?_⟩
    rw [cut_take,show (vints (C p)).take w'=vints ((C p).take w') by unfold vints; rw [List.map_take]]
    have W1:=(Same.refl H6).upd n1 (o:=.lst (vints ((C p).take w')))
    have hl1:=upd_same (H:=H6) (a:=l1) (o:=.lst (vints ((C p).take w')))
    generalize upd H6 l1 (.lst (vints ((C p).take w')))=H7 at W1 hl1 ⊢
    obtain ⟨a2,dg2,ha2,_⟩:=(rg6.same W1).get pin
    refine ⟨_,rfl,_,rfl,d,_,rfl,dg2,_,rfl,_,rfl,a2,_,rfl,SqL.of ha2,fun l2 n2=>?_⟩
    rw [cut_from,show (vints (C p)).drop w'=vints ((C p).drop w') by unfold vints; rw [List.map_drop]]
    have W2:=(Same.refl H7).upd n2 (o:=.lst (vints ((C p).drop w')))
    have hl2:=upd_same (H:=H7) (a:=l2) (o:=.lst (vints ((C p).drop w')))
    have hl1':=W2 _ _ hl1
    generalize upd H7 l2 (.lst (vints ((C p).drop w')))=H8 at W2 hl2 hl1' ⊢
    refine ⟨by show 3≤sizeLine; decide,fun pt npt=>?_⟩
    have W3:=(Same.refl H8).upd npt (o:=.tup [V.int (p:Int),V.ref l1,V.ref l2])
    have SS:=(W1.trans W2).trans W3
    refine ⟨_,ss++[(pt,l1,l2)],rfl,S6.trans SS,by simp,?_,fun s hs=>?_⟩
    ·rw [List.take_add_one,hp,Option.toList_some]
     exact Paired.snoc (Paired.mapP B6 fun s p ⟨x1,x2,x3⟩=>⟨SS _ _ x1,SS _ _ x2,SS _ _ x3⟩) ⟨upd_same,W3 _ _ hl1',W3 _ _ hl2⟩
    ·rcases List.mem_append.mp hs with z | z
     ·exact fr6 s z
     ·rw [List.mem_singleton.mp z]
      have S06:=S05.trans S6
      exact ⟨((S06.trans W1).trans W2).free npt,S06.free n1,(S06.trans W1).free n2⟩
   ·rintro ys σ H6 ⟨v,ss,rfl,S6,rfl,B6,fr6⟩ r0 nr0
    rw [ints_len,zs_len,List.take_length] at B6
    have S06:=S05.trans S6
    have eD:(fun q=>if q∈ps then fv (C q) else fun _=>0)=rgF Dl C:=by
     funext q
     unfold rgF
     by_cases h:q∈ps
     ·rw [if_pos h,if_pos ((pk q).mp h)]
     ·rw [if_neg h,if_neg fun z=>h ((pk q).mpr z)]
    have inn:∀ p∈ps,p<w'∧(C p).length=w'+R.length∧rgF Dl C p=fv (C p)∧rgF Dl C p p≠0:=fun p hp=>by
     obtain ⟨x,hx,rfl⟩:=List.mem_map.mp ((pk p).mp hp)
     exact ⟨rg.lt x hx,(rg.rw x hx).2,rgF_in ((pk x.1).mp hp),pz x hx⟩
    refine hQ r0 ss ps C _ (S06.free nr0) (S06.upd nr0) upd_same (Paired.mapP B6 fun s p ⟨x1,x2,x3⟩=>⟨(Same.refl H6).upd nr0 _ _ x1,(Same.refl H6).upd nr0 _ _ x2,(Same.refl H6).upd nr0 _ _ x3⟩) fr6 ⟨po,fun p hp=>(inn p hp).1,fun p hp=>(inn p hp).2.1,by rw [eD]; exact la,fun p hp=>?_,fun p hp=>?_,fun p hp k=>?_,fun p hp k hk=>?_⟩
    ·obtain ⟨_,_,e,z⟩:=inn p hp
     rw [e] at z; exact z
    ·obtain ⟨h1,_,e,_⟩:=inn p hp
     rw [← e]; exact mkd p h1
    ·obtain ⟨h1,_,e,_⟩:=inn p hp
     rw [← e]
     by_cases hk:k<w'
     ·exact (la.main (tame _ (Nat.le_refl _)) h1 hk).mono (by decide)
     ·exact (bz p h1 k (by omega)).mono (by omega)
    ·obtain ⟨h1,_,e,_⟩:=inn p hp
     rw [← e]
     exact la.main (tame _ (Nat.le_refl _)) h1 hk
theorem sc_accounted:FnScope ["net","bag","changed","bowl","weights"] ["net","bag"] (defScope s_accounted):=⟨rfl,rfl,rfl,by decide +kernel,rfl,by decide +kernel,by decide +kernel⟩
set_option maxHeartbeats 4000000 in
theorem ok_accounted (T:Txt K mg AR FR):FnOk P w K mg base (CXF P w) 8 AR.f_accounted FR.d_accounted ["net","bag"] (sp_accounted AR.C_Net AR.C_Unlike K):=by
 have G_Net_init:FnOk P w K mg base CX0 3 AR.f_Net_init FR.d_Net_init _ (sp_Net_init AR.C_Net K):=ok_Net_init T
 have G_less:FnOk P w K mg base (CXF P w) 2 AR.f_less FR.d_less _ (sp_less AR.C_Unlike K):=ok_less T
 have G_sums:FnOk P w K mg base CX0 7 AR.f_sums FR.d_sums _ (sp_sums AR.C_Net K):=ok_sums T
 have G_weighed:FnOk P w K mg base CX0 2 AR.f_weighed FR.d_weighed _ (sp_weighed K):=ok_weighed T
 have G_by_rungs:FnOk P w K mg base CX0 6 AR.f_by_rungs FR.d_by_rungs _ (sp_by_rungs K):=ok_by_rungs T
 have G_ladder:FnOk P w K mg base CX0 6 AR.f_ladder FR.d_ladder _ (sp_ladder K):=ok_ladder T
 have G_gains:FnOk P w K mg base CX0 6 AR.f_gains FR.d_gains _ (sp_gains AR.C_Net K):=ok_gains T
 refine T.u_accounted.F.okF sc_accounted (fun vs H Q E h=>?_) (fun cdv A outer s H vs Q E hr h=>?_)
 ·obtain ⟨x,dx,b,d,t,g,f,c,ts,gs,N,bs,bb,rfl,n,ok,hc,b70,hbs,b1,b137,e8,gb,hS,hT,hE⟩:=h
  rfl
 ·obtain ⟨x,dx,b,d,t,g,f,c,ts,gs,N,bs,bb,rfl,n,ok,hc,b70,hbs,b1,b137,e8,gb,hS,hT,hE⟩:=h
  refine ⟨_,(pss_cons (ps_set (i:=2) sc_accounted.nd rfl (Or.inl rfl) (pe_call G_less (hr.mono (by decide)) (by rfl) T.u_less.m T.u_less.F.kp T.u_less.b .nil passF (pa_cons (pv 1) (pa_cons (pe_fld (pv 0) rfl) pa_nil))))
   (pss_cons (ps_for PassesOwn.leaving rfl (pi_list (pe_call G_sums (hr.mono (by decide)) (by rfl) T.u_sums.m T.u_sums.F.kp T.u_sums.b .nil pass0 (pa_cons (pv 0) pa_nil))) (pg_tup (by rfl) (pgs_cons (pg_name (i:=3) sc_accounted.nd (by rfl) (Or.inl rfl)) (pgs_cons (pg_name (i:=4) sc_accounted.nd (by rfl) (Or.inl rfl)) pgs_nil)))
   (pss_one (ps_if (pt_cmpR op_ne (pe_call G_weighed (hr.mono (by decide)) (by rfl) T.u_weighed.m T.u_weighed.F.kp T.u_weighed.b .nil pass0 (pa_cons (pv 4) (pa_cons (pv 2) pa_nil))) pe_int (nomark _)) (pss_one (ps_ret (pe_tup (pa_cons pe_str (pa_cons (pv 4) (pa_cons pe_int pa_nil)))))) pss_nil)))
   (pss_one (ps_ret (pe_call G_by_rungs (hr.mono (by decide)) (by rfl) T.u_by_rungs.m T.u_by_rungs.F.kp T.u_by_rungs.b .nil pass0 (pa_cons (pe_call G_ladder (hr.mono (by decide)) (by rfl) T.u_ladder.m T.u_ladder.F.kp T.u_ladder.b .nil pass0 (pa_cons (pe_call G_gains (hr.mono (by decide)) (by rfl) T.u_gains.m T.u_gains.F.kp T.u_gains.b .nil pass0 (pa_cons (pv 0) pa_nil)) (pa_cons (pe_callB call_len_seq (by rfl) T.z_len bt_len (pa_cons (pe_fld (pv 0) rfl) pa_nil)) pa_nil))) (pa_cons (pv 2) (pa_cons (pe_callB call_len_seq (by rfl) T.z_len bt_len (pa_cons (pe_fld (pv 0) rfl) pa_nil)) pa_nil)))))))),?_⟩
  try dsimp only [kx1,kx2,kx3,Cx.nox,Cx.wish]
  have b6:=ok.b6
  have d8:=ok.d8
  have tl:=ok.tl
  have gl:=ok.gl
  have fl:=ok.fs.1
  have gl':N.gives.length=N.takes.length:=by omega
  have vb:(vstrs N.bowls).length=N.bowls.length:=List.length_map ..
  have vd:(vstrs N.doors).length=(gnP N.takes N.gives).length:=by unfold vstrs; rw [List.length_map,gnP_len,tl]
  have gw:=gnP_wd (wd_of ok.tk) (wd_of ok.gv) gl'
  have gn:(gnP N.takes N.gives).length≤8:=by rw [gnP_len]; omega
  refine ⟨_,rfl,_,rfl,x,_,dx,_,_,rfl,n.ob,T.cl_Net,T.n_Net_first,rfl,c,f,bs,_,rfl,SqL.of hc,SqL.of n.hf,b70,fun hl q H1 nq S1 hq=>?_,fun h=>hE (fun z=>h (by omega))⟩
  have hl2:bs.length=N.bowls.length:=by omega
  have hS:=hS hl2
  have hT:=hT hl2
  have vl:(sub bs N.first).length=N.bowls.length:=sub_len hl2 fl
  have vb150:∀ y∈sub bs N.first,y.natAbs<2^150:=fun y hy=>by
   obtain ⟨k,hk,rfl⟩:=List.mem_iff_getElem.mp hy
   have hk2:k<N.bowls.length:=by omega
   rw [← L2.getD_at hk,sub_at hl2 fl hk2]
   have a1:=at_in (P:=fun y=>y.natAbs<10^40) hl2 hk2 hbs
   have a2:=at_in (P:=fun y=>0≤y∧y≤1000000000) fl hk2 ok.fs.2
   exact Nat.lt_of_lt_of_le (show _<2*10^40 by omega) (by decide +kernel)
  have v9:∀ x∈sub bs N.first,x.natAbs<2^8999:=fun x hx=>Nat.lt_of_lt_of_le (vb150 x hx) (Nat.pow_le_pow_right (by decide) (by decide))
  have hq:H1 q=some (.lst (vints (sub bs N.first))):=hq
  generalize hvv:sub bs N.first=v at hq vl vb150 v9 hS hT
  generalize hRR:gnP N.takes N.gives=R at gb gw gn vd hS hT
  have n1:=n.same S1
  refine ⟨_,rfl,x,dx,b,d,t,g,f,ts,gs,N,rfl,n1,ok,fun qs pq TT H2 nqs S2 hqs L2' e2 o2 f2=>?_⟩
  rw [hRR] at e2 o2
  have SA:SumsA N.bowls.length R TT:=⟨e2,fun c hc=>(o2 c hc).1,fun c hc=>(o2 c hc).2⟩
  have S12:=S1.trans S2
  refine ⟨qs,rfl,⟨_,SqL.of hqs⟩,?_⟩
  refine for_list (K:=K) (a:=qs) (xs:=pq.map fun p=>V.ref p.1) (fun i σ H3=>∃ (o3 o4:Option V),σ=[some (.ref x),some (.ref c),some (.ref q),o3,o4]∧Same H2 H3∧∀ (j:Nat) (d:Nat×List Int),j<i→TT[j]?=some d→wsum d.2 v=0) ⟨none,none,rfl,Same.refl _,fun j d h=>absurd h (Nat.not_lt_zero _)⟩ (fun i σ H3 _ hp4=>by obtain ⟨_,_,_,S,_⟩:=hp4; exact SqL.of (S _ _ hqs)) ?_ ?_
  ·rintro i y σ H3 hy ⟨o3,o4,rfl,S3,z3⟩
   rw [List.getElem?_map] at hy
   cases hp1:pq[i]? with
   | none=>rw [hp1] at hy; cases hy
   | some pp =>
    rw [hp1] at hy
    obtain rfl:V.ref pp.1=y:=Option.some.inj hy
    obtain ⟨cc,hc1,hc2⟩:=Paired.getL L2' hp1
    have ln:=hc2.same S3
    have o:=SA.ok cc (List.mem_of_getElem? hc1)
    refine ⟨pp.1,[_,_],rfl,SqT.of ln.1,rfl,_,[_],rfl,_,[],rfl,rfl,?_⟩
    try dsimp only [gName,gNil]
    refine ⟨_,rfl,_,rfl,pp.2,q,cc.2,v,rfl,SqL.of ln.2,SqL.of ((S2.trans S3) _ _ hq),by rw [o.ll,vl],by rw [o.ll]; omega,o.bl,v9,fun H4 S4=>⟨rfl,_,rfl,?_⟩⟩
    refine iteND (fun hne=>?_) (fun he0=>?_)
    ·refine ⟨_,rfl,(show 3≤sizeLine by decide),fun q6 nq6=>?_⟩
     exact hS q6 pp.2 cc.2 0 TT _ (((S12.trans S3).trans S4).upd nq6) upd_same ((Same.refl H4).upd nq6 _ _ (S4 _ _ ln.2)) SA (SA.acc gw vl hc1 (fun z=>hne (by rw [z])) z3)
    ·refine ⟨_,_,rfl,S3.trans S4,fun j d hj hd=>?_⟩
     rcases Nat.lt_succ_iff_lt_or_eq.mp hj with z | z
     ·exact z3 j d z hd
     ·rw [z,hc1] at hd
      rw [← Option.some.inj hd]
      exact vint_eq.mp he0
  rintro σ H3 ⟨o3,o4,rfl,S3,z3⟩
  rw [List.length_map,L2'.length] at z3
  have za:∀ c∈TT,wsum c.2 v=0:=fun c hc=>by
   obtain ⟨j,hj,rfl⟩:=List.mem_iff_getElem.mp hc
   exact z3 j _ hj (List.getElem?_eq_getElem hj)
  have S13:=S12.trans S3
  have n3:=n.same S13
  refine ⟨_,rfl,x,dx,b,d,t,g,f,ts,gs,N,rfl,n3,ok,fun qg as H4 nqg S4 hqg R4=>?_⟩
  rw [hRR] at R4
  have n4:=n3.same S4
  refine ⟨_,rfl,x,_,dx,_,_,rfl,n4.ob,T.cl_Net,T.n_Net_bowls,rfl,b,_,rfl,.inl (SqL.of n4.hb),qg,as,R,N.bowls.length,bb,by rw [vb]; rfl,hqg,R4,gw,gn,b6,gb,b1,b137,by omega,fun ql ss ps C H5 nql S5 hql Pr fr L=>?_⟩
  have n5:=n4.same S5
  have S15:=(S13.trans S4).trans S5
  refine ⟨_,rfl,_,rfl,x,_,dx,_,_,rfl,n5.ob,T.cl_Net,T.n_Net_doors,rfl,d,_,rfl,.inl (SqL.of n5.hd),ql,q,ss,ps,C,R,v,N.bowls.length,bb,by rw [vd]; rfl,hql,Pr,L,((S2.trans S3).trans (S4.trans S5)) _ _ hq,vl,b6,gn,gw,gb,b1,e8,vb150,SA.noSum vl za,fun q6 l6 wl p H6 S6 h1 h2 h3=>?_,fun q6 l6 tv H6 S6 h1 h2 h3=>?_⟩
  ·exact hS q6 l6 wl p TT H6 (S15.trans S6) h1 h2 SA (h3.sum za)
  ·exact hT q6 l6 tv H6 (S15.trans S6) h1 h2 h3
theorem sc_law_whole:FnScope ["found"] ["found"] (defScope s_law_whole):=⟨rfl,rfl,rfl,by decide +kernel,rfl,by decide +kernel,by decide +kernel⟩
set_option maxHeartbeats 4000000 in
theorem ok_law_whole (T:Txt K mg AR FR):FnOk P w K mg base CX0 1 AR.f_law_whole FR.d_law_whole ["found"] (sp_law_whole K):=by
 refine T.u_law_whole.F.ok sc_law_whole (fun vs H Q E h=>?_) (fun cdv A outer s H vs Q E hr h=>?_)
 ·obtain ⟨i,rfl,hQ⟩:=h
  rfl
 ·obtain ⟨i,rfl,hQ⟩:=h
  refine ⟨_,(pss_one (ps_ret (pe_and (pe_callB call_isinst (by rfl) T.z_isinstance bt_isinstance (pa_cons (pv 0) (pa_cons (pe_bltn (v:=.ty "int") (by rfl) T.z_int bt_int rfl) pa_nil))) (pe_one (pe_not (pe_callB call_isinst (by rfl) T.z_isinstance bt_isinstance (pa_cons (pv 0) (pa_cons (pe_bltn (v:=.ty "bool") (by rfl) T.z_bool bt_bool rfl) pa_nil)))))))),?_⟩
  try dsimp only [kx1,kx2,kx3,Cx.nox,Cx.wish]
  refine ⟨_,rfl,_,_,_,_,rfl,.int i,by rfl,_,rfl,?_⟩
  refine iteT ?_
  exact ⟨_,rfl,_,_,_,false,rfl,.int i,by rfl,false,rfl,hQ⟩
theorem sc_law_wholes:FnScope ["found","size","one"] ["found","size"] (defScope s_law_wholes):=⟨rfl,rfl,rfl,by decide +kernel,rfl,by decide +kernel,by decide +kernel⟩
set_option maxHeartbeats 4000000 in
theorem ok_law_wholes (T:Txt K mg AR FR):FnOk P w K mg base CX0 2 AR.f_law_wholes FR.d_law_wholes ["found","size"] (sp_law_wholes K):=by
 have G_law_whole:FnOk P w K mg base CX0 1 AR.f_law_whole FR.d_law_whole _ (sp_law_whole K):=ok_law_whole T
 refine T.u_law_wholes.F.ok sc_law_wholes (fun vs H Q E h=>?_) (fun cdv A outer s H vs Q E hr h=>?_)
 ·obtain ⟨a,r,z,rfl,ha,rl,hQ⟩:=h
  rfl
 ·obtain ⟨a,r,z,rfl,ha,rl,hQ⟩:=h
  refine ⟨_,(pss_cons (ps_if (PW.pt (pw_or (pt_not (pt_val (pe_callB call_isinst (by rfl) T.z_isinstance bt_isinstance (pa_cons (pv 0) (pa_cons (pe_bltn (v:=.ty "list") (by rfl) T.z_list bt_list rfl) pa_nil))))) (pw_or1 (pt_cmpR op_ne (pe_callB call_len_seq (by rfl) T.z_len bt_len (pa_cons (pv 0) pa_nil)) (pv 1) (nomark _))))) (pss_one (ps_ret pe_bl)) pss_nil)
   (pss_cons (ps_for PassesOwn.never rfl (pi_list (pv 0)) (pg_name (i:=2) sc_law_wholes.nd (by rfl) (Or.inl rfl))
   (pss_one (ps_if (pt_not (pt_val (pe_call G_law_whole (hr.mono (by decide)) (by rfl) T.u_law_whole.m T.u_law_whole.F.kp T.u_law_whole.b .nil pass0 (pa_cons (pv 2) pa_nil)))) (pss_one (ps_ret pe_bl)) pss_nil)))
   (pss_one (ps_ret pe_bl)))),?_⟩
  try dsimp only [kx1,kx2,kx3,Cx.nox,Cx.wish]
  have vr:(vints r).length=z:=by rw [ints_len,rl]
  refine ⟨_,rfl,_,_,_,_,rfl,.lst ha,by rfl,_,rfl,?_⟩
  refine iteF ?_
  refine ⟨_,rfl,a,_,rfl,.inl (SqL.of ha),_,rfl,rfl,_,rfl,?_⟩
  rw [vr]
  refine iteND (fun g=>absurd rfl g) (fun _=>?_)
  refine ⟨_,rfl,a,rfl,⟨_,SqL.of ha⟩,?_⟩
  refine for_list (K:=K) (a:=a) (xs:=vints r) (fun i σ H2=>∃ v,σ=[some (.ref a),some (.int z),v]∧H2=H) ⟨none,rfl,rfl⟩ (fun i σ H2 _ hp4=>by obtain ⟨_,_,e⟩:=hp4; exact e ▸ SqL.of ha) ?_ ?_
  ·rintro i y σ H2 hy ⟨v,rfl,rfl⟩
   obtain ⟨m,hm,rfl⟩:=ints_get hy
   exact ⟨_,rfl,m,rfl,_,rfl,iteF ⟨_,rfl,rfl⟩⟩
  ·rintro σ H2 ⟨v,rfl,rfl⟩
   exact hQ
theorem sc_law_is_nought:FnScope ["number","part"] ["number","part"] (defScope s_law_is_nought):=⟨rfl,rfl,rfl,by decide +kernel,rfl,by decide +kernel,by decide +kernel⟩
set_option maxHeartbeats 4000000 in
theorem ok_law_is_nought (T:Txt K mg AR FR):FnOk P w K mg base CX0 1 AR.f_law_is_nought FR.d_law_is_nought ["number","part"] (sp_law_is_nought K):=by
 refine T.u_law_is_nought.F.ok sc_law_is_nought (fun vs H Q E h=>?_) (fun cdv A outer s H vs Q E hr h=>?_)
 ·obtain ⟨n,p,rfl,p0,hQ⟩:=h
  rfl
 ·obtain ⟨n,p,rfl,p0,hQ⟩:=h
  refine ⟨_,(pss_cons (ps_if (pt_cmpR op_eq (pv 1) pe_int (nomark _)) (pss_one (ps_ret (pe_cmpR op_eq (pv 0) pe_int (nomark _)))) pss_nil)
   (pss_one (ps_ret (pe_cmpR op_eq (pe_op op_mod (pv 0) (pv 1)) pe_int (nomark _))))),?_⟩
  try dsimp only [kx1,kx2,kx3,Cx.nox,Cx.wish]
  unfold mulP at hQ
  refine ⟨_,rfl,rfl,_,rfl,?_⟩
  refine iteD (fun h=>?_) (fun h=>?_)
  ·have e:p=0:=by injection h
   rw [if_pos e] at hQ
   refine ⟨_,rfl,rfl,?_⟩
   rw [dec_intS]
   exact hQ
  ·have e:p≠0:=fun e=>h (by rw [e])
   rw [if_neg e] at hQ
   refine ⟨_,rfl,_,rfl,_,_,rfl,rfl,(by show (0:Int)<p; omega),rfl,?_⟩
   rw [dec_intS]
   exact hQ
theorem sc_law_weigh:FnScope ["weights","ones"] ["weights","ones"] (defScope s_law_weigh):=⟨rfl,rfl,rfl,by decide +kernel,rfl,by decide +kernel,by decide +kernel⟩
set_option maxHeartbeats 4000000 in
theorem ok_law_weigh (T:Txt K mg AR FR):FnOk P w K mg base CX0 1 AR.f_law_weigh FR.d_law_weigh ["weights","ones"] (sp_law_weigh K):=by
 refine T.u_law_weigh.F.ok sc_law_weigh (fun vs H Q E h=>?_) (fun cdv A outer s H vs Q E hr h=>?_)
 ·obtain ⟨a,b,ws,os,rfl,ha,hb,hl,l70,bw,bo,hQ⟩:=h
  rfl
 ·obtain ⟨a,b,ws,os,rfl,ha,hb,hl,l70,bw,bo,hQ⟩:=h
  refine ⟨_,(pss_one (ps_ret (pe_callB (call_sum_list rfl) (by rfl) T.z_sum bt_sum (pa_cons (pe_comp (N':=["k","weights","ones"]) (nt:=1) (caps:=[0,1]) _ _ (CompScope.of (by kernel_rfl)) (pi_range1 (by rfl) T.z_range (pa_cons (pe_callB call_len_seq (by rfl) T.z_len bt_len (pa_cons (pv 1) pa_nil)) pa_nil)) (fun _=>(pg_nameC (i:=0) ["k","weights","ones"] (by decide +kernel) (by rfl))) (fun _=>pts_nil) (fun _=>(pe_op op_mulC (pe_ix ix_list (pv 1) (pv 0) (fun _ _=>rfl)) (pe_ix ix_list (pv 2) (pv 0) (fun _ _=>rfl))))) pa_nil)))),?_⟩
  try dsimp only [kx1,kx2,kx3,Cx.nox,Cx.wish]
  have vl:(vints os).length=os.length:=ints_len os
  refine ⟨_,rfl,b,_,rfl,.inl hb,_,rfl,by rw [vl]; omega,by rw [vl]; omega,?_⟩
  rw [vl,Int.toNat_natCast]
  refine comp_at (τ:=[some (.ref a),some (.ref b)]) (fun k=>ws.getD k 0*os.getD k 0) (small70 l70) (fun B k H2 hk S2 Q' hq=>?_) fun H2 S2 p np=>?_
  ·exact ⟨_,rfl,_,rfl,a,_,_,_,rfl,rfl,S2.seq ha,at_place hl hk,_,rfl,_,rfl,b,_,_,_,rfl,rfl,S2.seq hb,at_place rfl hk,_,_,rfl,rfl,⟨at_in (P:=fun x=>x.natAbs<2^8999) hl hk bw,at_in (P:=fun x=>x.natAbs<2^8999) rfl hk bo⟩,hq _ (Same.refl _)⟩
  ·rw [show vints ((List.range os.length).map fun k=>ws.getD k 0*os.getD k 0)=((List.range os.length).map fun k=>ws.getD k 0*os.getD k 0).map V.int from rfl]
   exact ⟨p,_,rfl,SqL.of upd_same,hQ _ (S2.upd np)⟩
theorem sc_law_sum_good:FnScope ["found","parts","gap","told","row","seen"] ["found","parts","gap","told"] (defScope s_law_sum_good):=⟨rfl,rfl,rfl,by decide +kernel,rfl,by decide +kernel,by decide +kernel⟩
set_option maxHeartbeats 4000000 in
theorem ok_law_sum_good (T:Txt K mg AR FR):FnOk P w K mg base CX0 3 AR.f_law_sum_good FR.d_law_sum_good ["found","parts","gap","told"] (sp_law_sum_good K):=by
 have G_law_wholes:FnOk P w K mg base CX0 2 AR.f_law_wholes FR.d_law_wholes _ (sp_law_wholes K):=ok_law_wholes T
 have G_law_whole:FnOk P w K mg base CX0 1 AR.f_law_whole FR.d_law_whole _ (sp_law_whole K):=ok_law_whole T
 have G_law_gains:FnOk P w K mg base CX0 1 AR.f_law_gains FR.d_law_gains _ (sp_law_gains K):=ok_law_gains T
 have G_law_is_nought:FnOk P w K mg base CX0 1 AR.f_law_is_nought FR.d_law_is_nought _ (sp_law_is_nought K):=ok_law_is_nought T
 have G_law_weigh:FnOk P w K mg base CX0 1 AR.f_law_weigh FR.d_law_weigh _ (sp_law_weigh K):=ok_law_weigh T
 refine T.u_law_sum_good.F.ok sc_law_sum_good (fun vs H Q E h=>?_) (fun cdv A outer s H vs Q E hr h=>?_)
 ·obtain ⟨q,l,p,pt,pg,pf,pgp,pd,ts,gs,z,bb,tk,gv,fs,v,wl,pp,pq,TT,rfl,hq,hl,P,o,hv,vl,vb,hd,Ln,SA,A,hQ⟩:=h
  rfl
 ·obtain ⟨q,l,p,pt,pg,pf,pgp,pd,ts,gs,z,bb,tk,gv,fs,v,wl,pp,pq,TT,rfl,hq,hl,P,o,hv,vl,vb,hd,Ln,SA,A,hQ⟩:=h
  refine ⟨_,(pss_cons (ps_if (PW.pt (pw_or (pt_cmpR op_ne (pe_callB call_len_seq (by rfl) T.z_len bt_len (pa_cons (pv 0) pa_nil)) pe_int (nomark _)) (pw_or1 (pt_not (pt_val (pe_call G_law_wholes (hr.mono (by decide)) (by rfl) T.u_law_wholes.m T.u_law_wholes.F.kp T.u_law_wholes.b .nil pass0 (pa_cons (pe_ix ix_tup (pv 0) pe_int (fun _ _=>rfl)) (pa_cons (pe_callB call_len_seq (by rfl) T.z_len bt_len (pa_cons (pv 2) pa_nil)) pa_nil)))))))) (pss_one (ps_ret pe_bl)) pss_nil)
   (pss_cons (ps_if (PW.pt (pw_or (pt_not (pt_val (pe_call G_law_whole (hr.mono (by decide)) (by rfl) T.u_law_whole.m T.u_law_whole.F.kp T.u_law_whole.b .nil pass0 (pa_cons (pe_ix ix_tup (pv 0) pe_int (fun _ _=>rfl)) pa_nil)))) (pw_or (pt_cmpR op_lt (pe_ix ix_tup (pv 0) pe_int (fun _ _=>rfl)) pe_int (nomark _)) (pw_or1 (pt_cmpR op_eq (pe_ix ix_tup (pv 0) pe_int (fun _ _=>rfl)) pe_int (nomark _)))))) (pss_one (ps_ret pe_bl)) pss_nil)
   (pss_cons (ps_for PassesOwn.never rfl (pi_list (pe_call G_law_gains (hr.mono (by decide)) (by rfl) T.u_law_gains.m T.u_law_gains.F.kp T.u_law_gains.b .nil pass0 (pa_cons (pv 1) pa_nil))) (pg_name (i:=4) sc_law_sum_good.nd (by rfl) (Or.inl rfl))
   (pss_one (ps_if (pt_not (pt_val (pe_call G_law_is_nought (hr.mono (by decide)) (by rfl) T.u_law_is_nought.m T.u_law_is_nought.F.kp T.u_law_is_nought.b .nil pass0 (pa_cons (pe_call G_law_weigh (hr.mono (by decide)) (by rfl) T.u_law_weigh.m T.u_law_weigh.F.kp T.u_law_weigh.b .nil pass0 (pa_cons (pe_ix ix_tup (pv 0) pe_int (fun _ _=>rfl)) (pa_cons (pv 4) pa_nil))) (pa_cons (pe_ix ix_tup (pv 0) pe_int (fun _ _=>rfl)) pa_nil))))) (pss_one (ps_ret pe_bl)) pss_nil)))
   (pss_cons (ps_setComp (i:=5) (N':=["one","gap"]) (nt:=1) (caps:=[2]) _ _ (CompScope.of (by kernel_rfl)) sc_law_sum_good.nd rfl rfl (pi_list (pv 3)) (fun _=>(pg_nameC (i:=0) ["one","gap"] (by decide +kernel) (by rfl))) (fun _=>(pts_one (pt_cmpR op_ne (pe_call G_law_weigh (hr.mono (by decide)) (by rfl) T.u_law_weigh.m T.u_law_weigh.F.kp T.u_law_weigh.b .nil pass0 (pa_cons (pe_ix ix_tup (pv 0) pe_int (fun _ _=>rfl)) (pa_cons (pv 1) pa_nil))) pe_int (nomark _)))) (fun _=>(pe_ix ix_tup (pv 0) pe_int (fun _ _=>rfl))))
   (pss_cons (ps_if (PW.pt (pw_or (PW.pt (pw_and (pt_truth (pv 5) (fun _=>rfl)) (pw_and1 (PW.pt (pw_or (pt_cmpR op_ne (pe_ix ix_tup (pv 0) pe_int (fun _ _=>rfl)) pe_int (nomark _)) (pw_or1 (pt_cmpR (op_neL (hu0_of hr)) (pe_ix ix_tup (pv 0) pe_int (fun _ _=>rfl)) (pe_ix ix_list (pv 5) pe_int (fun _ _=>rfl)) (nomark _)))))))) (pw_or1 (PW.pt (pw_and (pt_not (pt_truth (pv 5) (fun _=>rfl))) (pw_and1 (pt_cmpR op_eq (pe_ix ix_tup (pv 0) pe_int (fun _ _=>rfl)) pe_int (nomark _)))))))) (pss_one (ps_ret pe_bl)) pss_nil)
   (pss_one (ps_ret (pe_not (pe_call G_law_is_nought (hr.mono (by decide)) (by rfl) T.u_law_is_nought.m T.u_law_is_nought.F.kp T.u_law_is_nought.b .nil pass0 (pa_cons (pe_call G_law_weigh (hr.mono (by decide)) (by rfl) T.u_law_weigh.m T.u_law_weigh.F.kp T.u_law_weigh.b .nil pass0 (pa_cons (pe_ix ix_tup (pv 0) pe_int (fun _ _=>rfl)) (pa_cons (pv 2) pa_nil))) (pa_cons (pe_ix ix_tup (pv 0) pe_int (fun _ _=>rfl)) pa_nil))))))))))),?_⟩
  try dsimp only [kx1,kx2,kx3,Cx.nox,Cx.wish]
  have z6:=o.z6
  have t8:=o.t8
  have gl:=o.gl
  have gw:=gnP_wd (wd_of o.tk) (wd_of o.gv) gl
  have vv:(vints v).length=z:=by rw [ints_len,vl]
  have gb9:∀ r∈gnP tk gv,∀ y∈r,y.natAbs<2^8999:=fun r hr y hy=>Nat.lt_of_le_of_lt (gnP_1e9 o r hr y hy) (Nat.lt_of_lt_of_le (show 1000000000<2^36 by decide) (Nat.pow_le_pow_right (by decide) (by decide)))
  have tl:=Ln.length
  have tz:=SA.len
  refine ⟨_,rfl,q,_,rfl,.inr (SqT.of hq),rfl,_,rfl,?_⟩
  refine iteND (fun h=>absurd rfl h) (fun _=>?_)
  refine ⟨_,rfl,q,_,_,_,rfl,rfl,SqT.of hq,rfl,_,rfl,pgp,_,rfl,.inl (SqL.of hv),l,wl,z,by rw [vv]; rfl,hl,A.ln,_,rfl,?_⟩
  refine iteF ?_
  try dsimp only [tNext]
  refine ⟨_,rfl,q,_,_,_,rfl,rfl,SqT.of hq,rfl,pp,rfl,_,rfl,?_⟩
  refine iteF ?_
  refine ⟨_,rfl,q,_,_,_,rfl,rfl,SqT.of hq,rfl,_,_,rfl,rfl,_,rfl,?_⟩
  refine iteD (fun h=>?_) (fun _=>?_)
  ·have h:pp<0:=h
   have:=A.p0
   omega
  refine ⟨_,rfl,q,_,_,_,rfl,rfl,SqT.of hq,rfl,rfl,_,rfl,?_⟩
  refine iteD (fun h=>absurd (by injection h) A.p1) (fun _=>?_)
  try dsimp only [tNext]
  refine ⟨_,rfl,p,pt,pg,pf,ts,gs,z,tk,gv,fs,rfl,P,o,fun qg as H1 nqg S1 hqg R1=>?_⟩
  refine ⟨qg,rfl,⟨_,SqL.of hqg⟩,?_⟩
  refine for_list (K:=K) (a:=qg) (xs:=as.map V.ref) (fun i σ H2=>∃ (o4:Option V),σ=[some (.ref q),some (.ref p),some (.ref pgp),some (.ref pd),o4,none]∧Same H1 H2) ⟨none,rfl,Same.refl _⟩ (fun i σ H2 _ hp4=>by obtain ⟨_,_,S⟩:=hp4; exact SqL.of (S _ _ hqg)) ?_ ?_
  ·rintro i y σ H2 hy ⟨o4,rfl,S2⟩
   obtain ⟨s,hs,rfl⟩:=refs_get hy
   obtain ⟨r,hr,he⟩:=Paired.getL R1 hs
   have rm:=List.mem_of_getElem? hr
   have S12:=S1.trans S2
   refine ⟨_,rfl,q,_,_,_,rfl,rfl,SqT.of (S12 _ _ hq),rfl,_,rfl,l,s,wl,r,rfl,SqL.of (S12 _ _ hl),SqL.of (S2 _ _ he),by rw [A.ln,gw r rm],by rw [gw r rm]; omega,A.bd,gb9 r rm,fun H3 S3=>?_⟩
   rw [gw r rm,dotW_wsum A.ln (gw r rm)]
   refine ⟨_,rfl,q,_,_,_,rfl,rfl,SqT.of ((S12.trans S3) _ _ hq),rfl,_,pp,rfl,A.p0,_,rfl,?_⟩
   rw [A.dv r rm]
   exact iteF ⟨_,rfl,S2.trans S3⟩
  rintro σ H2 ⟨o4,rfl,S2⟩
  have S12:=S1.trans S2
  have hq2:=S12 _ _ hq
  have hl2:=S12 _ _ hl
  have hv2:=S12 _ _ hv
  have hd2:=S12 _ _ hd
  have Ln2:=Ln.same S12
  refine ⟨_,rfl,pd,rfl,⟨_,SqL.of hd2⟩,?_⟩
  refine comp_listP (K:=K) (a:=pd) (xs:=pq.map fun p=>V.ref p.1) (fun i ys σ H3=>∃ (v1:Option V),σ=[v1,some (.ref pgp)]∧Same H2 H3∧ys=(seenZ v ((pq.zip TT).take i)).map V.ref) ⟨none,rfl,Same.refl _,rfl⟩ ?_ ?_ ?_
  ·rintro i ys σ H3 hi ⟨v1,rfl,S3,rfl⟩
   refine ⟨SqL.of (S3 _ _ hd2),?_⟩
   unfold seenZ
   rw [List.length_map,List.length_map]
   have h1:=List.length_filter_le (fun (c:(Addr×Addr)×(Nat×List Int))=>!decide (V.int (wsum c.2.2 v)=V.int 0)) ((pq.zip TT).take i)
   rw [List.length_take,List.length_zip] at h1
   exact small70 (by omega)
  ·rintro B i y ys σ H3 hy ⟨v1,rfl,S3,rfl⟩
   rw [List.getElem?_map] at hy
   cases hp1:pq[i]? with
   | none=>rw [hp1] at hy; cases hy
   | some pr =>
    rw [hp1] at hy
    obtain rfl:V.ref pr.1=y:=Option.some.inj hy
    obtain ⟨c,hc1,hc2⟩:=Paired.getL Ln2 hp1
    have ln:=hc2.same S3
    have oc:=SA.ok c (List.mem_of_getElem? hc1)
    try dsimp only [gName]
    refine ⟨_,rfl,pr.1,_,_,_,rfl,rfl,SqT.of ln.1,rfl,_,rfl,pr.2,pgp,c.2,v,rfl,SqL.of ln.2,SqL.of (S3 _ _ hv2),by rw [oc.ll,vl],by omega,oc.bl,vb,fun H4 S4=>⟨rfl,_,rfl,?_⟩⟩
    rw [vl,dotW_wsum oc.ll vl]
    have et:seenZ v ((pq.zip TT).take (i+1))=seenZ v ((pq.zip TT).take i)++(if (!decide (V.int (wsum c.2 v)=V.int 0))=true then [pr.2] else []):=by
     rw [List.take_add_one,zip_get hp1 hc1,Option.toList_some,seenZ_snoc]
    refine iteND (fun hn=>?_) (fun hn=>?_)
    ·refine ⟨_,rfl,pr.1,_,_,_,rfl,rfl,SqT.of (S4 _ _ ln.1),rfl,_,rfl,S3.trans S4,?_⟩
     rw [et,if_pos (by rw [decide_eq_false hn]; rfl),List.map_append]
     rfl
    ·refine ⟨_,rfl,S3.trans S4,?_⟩
     rw [et,if_neg (by rw [decide_eq_true hn]; decide),List.append_nil]
  rintro ys σ H3 ⟨v1,rfl,S3,rfl⟩ pS npS
  have ez:(pq.zip TT).take (pq.map fun p=>V.ref p.1).length=pq.zip TT:=List.take_of_length_le (by rw [List.length_zip,List.length_map]; omega)
  rw [ez]
  have U:=S3.upd npS (o:=.lst ((seenZ v (pq.zip TT)).map V.ref))
  have hS:=upd_same (H:=H3) (a:=pS) (o:=.lst ((seenZ v (pq.zip TT)).map V.ref))
  generalize upd H3 pS (.lst ((seenZ v (pq.zip TT)).map V.ref))=H4 at U hS ⊢
  have hq4:=U _ _ hq2
  have hl4:=U _ _ hl2
  have Ln4:=Ln2.same U
  have S14:=S12.trans U
  have fin:∀ H',Same H4 H'→Q (.bl true) H':=fun H' s=>hQ H' (S14.trans s)
  try dsimp only [gName]
  refine seq_join (fun σ' H'=>∃ o4 o5,σ'=[some (.ref q),some (.ref p),some (.ref pgp),some (.ref pd),o4,o5]∧H'=H4) ?_ ?_
  rotate_left
  ·intro N hN
   rcases A.wh with ⟨e0,j,k,hj,zj⟩ | ⟨ne,za⟩
   ·have pj:j<pq.length:=by have:=(List.getElem?_eq_some_iff.mp hj).1; omega
    have hpj:pq[j]?=some pq[j]:=List.getElem?_eq_getElem pj
    generalize pq[j]=pr at hpj
    obtain ⟨c,hc1,hc2⟩:=Paired.getL Ln4 hpj
    obtain rfl:(k,wl)=c:=by rw [hj] at hc1; exact Option.some.inj hc1
    obtain ⟨rest,er⟩:=filter_first (f:=fun (c:(Addr×Addr)×(Nat×List Int))=>!decide (V.int (wsum c.2.2 v)=V.int 0)) (zip_get hpj hj) (by
     have:=A.nd
     rw [e0] at this
     have n0:wsum wl v≠0:=fun zz=>by rw [zz] at this; cases this
     show (!decide (V.int (wsum wl v)=V.int 0))=true
     rw [decide_eq_false fun w=>n0 (by injection w)]; rfl) fun i d hi hd'=>by
      rw [List.getElem?_zip_eq_some] at hd'
      show (!decide (V.int (wsum d.2.2 v)=V.int 0))=false
      rw [zj i d.2 hi hd'.2]; rfl
    have es:seenZ v (pq.zip TT)=pr.2::rest.map fun c=>c.1.2:=by unfold seenZ; rw [er]; rfl
    rw [es] at hS
    refine ⟨_,rfl,true,.inl ⟨_,SqL.of hS,rfl⟩,?_⟩
    refine iteT ?_
    refine ⟨_,rfl,q,_,_,_,rfl,rfl,SqT.of hq4,rfl,rfl,_,rfl,?_⟩
    refine iteND (fun h=>absurd (by rw [e0]) h) (fun _=>?_)
    refine ⟨_,rfl,q,_,_,_,rfl,rfl,SqT.of hq4,rfl,_,rfl,pS,_,_,_,rfl,rfl,SqL.of hS,(show atI _ ((0:Nat):Int)=_ from atI_nat rfl),l,pr.2,wl,wl,rfl,rfl,SqL.of hl4,SqL.of hc2.2,_,rfl,?_⟩
    rw [decide_eq_true (p:=wl=wl) rfl]
    refine iteF ?_
    refine ⟨_,rfl,true,.inl ⟨_,SqL.of hS,rfl⟩,?_⟩
    refine iteF ?_
    exact hN _ _ ⟨_,_,rfl,rfl⟩
   ·have es:seenZ v (pq.zip TT)=[]:=by
     unfold seenZ
     rw [List.filter_eq_nil_iff.mpr fun c hc=>?_]
     ·rfl
     ·rw [za c.2 (List.of_mem_zip hc).2]; decide
    rw [es] at hS
    refine ⟨_,rfl,false,.inl ⟨_,SqL.of hS,rfl⟩,?_⟩
    refine iteF ?_
    refine ⟨_,rfl,false,.inl ⟨_,SqL.of hS,rfl⟩,?_⟩
    refine iteT ?_
    refine ⟨_,rfl,q,_,_,_,rfl,rfl,SqT.of hq4,rfl,rfl,_,rfl,?_⟩
    refine iteD (fun h=>absurd (by injection h) ne) (fun _=>?_)
    exact hN _ _ ⟨_,_,rfl,rfl⟩
  rintro _ _ ⟨o4,o5,rfl,rfl⟩
  refine ⟨_,rfl,q,_,_,_,rfl,rfl,SqT.of hq4,rfl,_,rfl,l,pgp,wl,v,rfl,SqL.of hl4,SqL.of (U _ _ hv2),by rw [A.ln,vl],by omega,A.bd,vb,fun H5 S5=>?_⟩
  rw [vl,dotW_wsum A.ln vl]
  refine ⟨_,rfl,q,_,_,_,rfl,rfl,SqT.of (S5 _ _ hq4),rfl,_,pp,rfl,A.p0,?_⟩
  rw [A.nd]
  exact ⟨_,rfl,fin _ S5⟩
theorem sc_law_answer_good:FnScope ["found","parts","bag","told","gap"] ["found","parts","bag","told"] (defScope s_law_answer_good):=⟨rfl,rfl,rfl,by decide +kernel,rfl,by decide +kernel,by decide +kernel⟩
set_option maxHeartbeats 4000000 in
theorem ok_law_answer_good (T:Txt K mg AR FR):FnOk P w K mg base CX0 4 AR.f_law_answer_good FR.d_law_answer_good ["found","parts","bag","told"] (sp_law_answer_good K):=by
 have G_law_wholes:FnOk P w K mg base CX0 2 AR.f_law_wholes FR.d_law_wholes _ (sp_law_wholes K):=ok_law_wholes T
 have G_law_behind:FnOk P w K mg base CX0 2 AR.f_law_behind FR.d_law_behind _ (sp_law_behind K):=ok_law_behind T
 have G_law_sum_good:FnOk P w K mg base CX0 3 AR.f_law_sum_good FR.d_law_sum_good _ (sp_law_sum_good K):=ok_law_sum_good T
 refine T.u_law_answer_good.F.ok sc_law_answer_good (fun vs H Q E h=>?_) (fun cdv A outer s H vs Q E hr h=>?_)
 ·obtain ⟨q,p,pt,pg,pf,pb,pd,ts,gs,z,tk,gv,fs,bs,pq,TT,rfl,P,o,hb,bl,bb,hd,Ln,SA,told,hQ⟩:=h
  rfl
 ·obtain ⟨q,p,pt,pg,pf,pb,pd,ts,gs,z,tk,gv,fs,bs,pq,TT,rfl,P,o,hb,bl,bb,hd,Ln,SA,told,hQ⟩:=h
  refine ⟨_,(pss_cons (ps_if (PW.pt (pw_or (pt_not (pt_val (pe_callB call_isinst (by rfl) T.z_isinstance bt_isinstance (pa_cons (pv 0) (pa_cons (pe_bltn (v:=.ty "tuple") (by rfl) T.z_tuple bt_tuple rfl) pa_nil))))) (pw_or (pt_cmpR op_lt (pe_callB call_len_seq (by rfl) T.z_len bt_len (pa_cons (pv 0) pa_nil)) pe_int (nomark _)) (pw_or1 (pt_not (pt_val (pe_callB call_isinst (by rfl) T.z_isinstance bt_isinstance (pa_cons (pe_ix ix_tup (pv 0) pe_int (fun _ _=>rfl)) (pa_cons (pe_bltn (v:=.ty "str") (by rfl) T.z_str bt_str rfl) pa_nil))))))))) (pss_one (ps_ret pe_bl)) pss_nil)
   (pss_cons (ps_if (pt_cmpR op_eq (pe_ix ix_tup (pv 0) pe_int (fun _ _=>rfl)) pe_str (nomark _)) (pss_one (ps_ret (pe_and (pe_cmpR op_eq (pe_callB call_len_seq (by rfl) T.z_len bt_len (pa_cons (pv 0) pa_nil)) pe_int (nomark _)) (pe_and (pe_call G_law_wholes (hr.mono (by decide)) (by rfl) T.u_law_wholes.m T.u_law_wholes.F.kp T.u_law_wholes.b .nil pass0 (pa_cons (pe_ix ix_tup (pv 0) pe_int (fun _ _=>rfl)) (pa_cons (pe_callB call_len_seq (by rfl) T.z_len bt_len (pa_cons (pe_ix ix_list (pv 1) pe_int (fun _ _=>rfl)) pa_nil)) pa_nil))) (pe_one (pe_cmpR (op_eqL (hu0_of hr)) (pe_call G_law_behind (hr.mono (by decide)) (by rfl) T.u_law_behind.m T.u_law_behind.F.kp T.u_law_behind.b .nil pass0 (pa_cons (pv 1) (pa_cons (pe_ix ix_tup (pv 0) pe_int (fun _ _=>rfl)) pa_nil))) (pv 2) (nomark _))))))) pss_nil)
   (pss_cons (ps_setComp (i:=4) (N':=["b","bag","parts"]) (nt:=1) (caps:=[2,1]) _ _ (CompScope.of (by kernel_rfl)) sc_law_answer_good.nd rfl rfl (pi_range1 (by rfl) T.z_range (pa_cons (pe_callB call_len_seq (by rfl) T.z_len bt_len (pa_cons (pv 2) pa_nil)) pa_nil)) (fun _=>(pg_nameC (i:=0) ["b","bag","parts"] (by decide +kernel) (by rfl))) (fun _=>pts_nil) (fun _=>(pe_op op_sub (pe_ix ix_list (pv 1) (pv 0) (fun _ _=>rfl)) (pe_ix ix_list (pe_ix ix_list (pv 2) pe_int (fun _ _=>rfl)) (pv 0) (fun _ _=>rfl)))))
   (pss_one (ps_ret (pe_and (pe_cmpR op_eq (pe_ix ix_tup (pv 0) pe_int (fun _ _=>rfl)) pe_str (nomark _)) (pe_one (pe_call G_law_sum_good (hr.mono (by decide)) (by rfl) T.u_law_sum_good.m T.u_law_sum_good.F.kp T.u_law_sum_good.b .nil pass0 (pa_cons (pv 0) (pa_cons (pv 1) (pa_cons (pv 4) (pa_cons (pv 3) pa_nil)))))))))))),?_⟩
  try dsimp only [kx1,kx2,kx3,Cx.nox,Cx.wish]
  have z1:=o.z1
  have z6:=o.z6
  have t8:=o.t8
  have fl:=o.fs.1
  have vt:(ts.map V.ref).length=tk.length:=by rw [List.length_map,P.tr.length]
  have vq:(vints bs).length=z:=by rw [ints_len,bl]
  rcases told with ⟨l,tl,hq,hl,A⟩ | ⟨l,wl,pp,hq,hl,A⟩
  ·refine ⟨_,rfl,_,_,_,true,rfl,.tup hq,by rfl,true,rfl,?_⟩
   refine iteF ?_
   refine ⟨_,rfl,q,_,rfl,.inr (SqT.of hq),_,_,rfl,rfl,_,rfl,?_⟩
   refine iteD (fun z=>absurd z (by show ¬ ((2:Nat):Int)<2; decide)) (fun _=>?_)
   refine ⟨_,rfl,q,_,_,_,rfl,rfl,SqT.of hq,rfl,_,_,_,true,rfl,.str _,by rfl,true,rfl,?_⟩
   refine iteF ?_
   refine ⟨_,rfl,q,_,_,_,rfl,rfl,SqT.of hq,rfl,rfl,_,rfl,?_⟩
   refine iteD (fun _=>?_) (fun z=>absurd rfl z)
   refine ⟨_,rfl,q,_,rfl,.inr (SqT.of hq),rfl,_,rfl,?_⟩
   refine iteD (fun _=>?_) (fun z=>absurd rfl z)
   refine ⟨_,rfl,q,_,_,_,rfl,rfl,SqT.of hq,rfl,_,rfl,p,_,_,_,rfl,rfl,SqL.of P.top,rfl,pt,_,rfl,.inl (SqL.of P.ht),l,tl,tk.length,by rw [vt]; rfl,hl,by rw [A.ln,gnP_len],_,rfl,?_⟩
   refine iteT ?_
   refine ⟨_,rfl,_,rfl,q,_,_,_,rfl,rfl,SqT.of hq,rfl,p,pt,pg,pf,l,ts,gs,z,tk,gv,fs,tl,rfl,P,o,SqL.of hl,by rw [A.ln,gnP_len],A.bd,fun q1 bag H1 nq1 S1 hq1 bo=>?_⟩
   refine ⟨_,rfl,q1,pb,bag,bs,rfl,rfl,SqL.of hq1,SqL.of (S1 _ _ hb),?_⟩
   rw [decide_eq_true (bo.eq fl bl A)]
   exact hQ H1 S1
  ·refine ⟨_,rfl,_,_,_,true,rfl,.tup hq,by rfl,true,rfl,?_⟩
   refine iteF ?_
   refine ⟨_,rfl,q,_,rfl,.inr (SqT.of hq),_,_,rfl,rfl,_,rfl,?_⟩
   refine iteD (fun z=>absurd z (by show ¬ ((3:Nat):Int)<2; decide)) (fun _=>?_)
   refine ⟨_,rfl,q,_,_,_,rfl,rfl,SqT.of hq,rfl,_,_,_,true,rfl,.str _,by rfl,true,rfl,?_⟩
   refine iteF ?_
   refine ⟨_,rfl,q,_,_,_,rfl,rfl,SqT.of hq,rfl,rfl,_,rfl,?_⟩
   refine iteD (fun z=>absurd z (by decide +kernel)) (fun _=>?_)
   try dsimp only [tNext]
   refine ⟨_,rfl,pb,_,rfl,.inl (SqL.of hb),_,rfl,by rw [vq]; omega,by rw [vq]; omega,?_⟩
   rw [vq,Int.toNat_natCast]
   have es:((List.range z).map fun b=>bs.getD b 0-fs.getD b 0)=sub bs fs:=ext_at (z:=z) (by simp) (sub_len bl fl) fun k hk=>by rw [rng_get (fun b=>bs.getD b 0-fs.getD b 0) hk,sub_at bl fl hk]
   refine comp_at (n:=z) (τ:=[some (.ref pb),some (.ref p)]) (fun b=>bs.getD b 0-fs.getD b 0) (small70 (by omega)) (fun B b H5 hb2 S5 Q' hq2=>?_) fun H5 S5 p5 np5=>?_
   ·exact ⟨_,rfl,_,rfl,pb,_,_,_,rfl,rfl,SqL.of (S5 _ _ hb),at_place bl hb2,_,rfl,p,_,_,_,rfl,rfl,SqL.of (S5 _ _ P.top),rfl,_,rfl,pf,_,_,_,rfl,rfl,SqL.of (S5 _ _ P.hf),at_place fl hb2,_,_,rfl,rfl,hq2 _ (Same.refl _)⟩
   rw [es]
   have U5:=S5.upd np5 (o:=.lst (vints (sub bs fs)))
   have h5:=upd_same (H:=H5) (a:=p5) (o:=.lst (vints (sub bs fs)))
   generalize upd H5 p5 (.lst (vints (sub bs fs)))=H6 at U5 h5 ⊢
   refine ⟨_,rfl,q,_,_,_,rfl,rfl,SqT.of (U5 _ _ hq),rfl,rfl,_,rfl,?_⟩
   refine iteD (fun _=>?_) (fun z=>absurd rfl z)
   refine ⟨_,rfl,_,rfl,_,rfl,_,rfl,q,l,p,pt,pg,pf,p5,pd,ts,gs,z,0,tk,gv,fs,sub bs fs,wl,pp,pq,TT,rfl,U5 _ _ hq,U5 _ _ hl,P.same U5,o,h5,sub_len bl fl,fun y hy=>?_,U5 _ _ hd,Ln.same U5,SA,A,fun H7 S7=>hQ H7 (U5.trans S7)⟩
   obtain ⟨k,hk,rfl⟩:=List.mem_iff_getElem.mp hy
   have hk2:k<z:=by rw [sub_len bl fl] at hk; exact hk
   rw [← L2.getD_at hk,sub_at bl fl hk2]
   have a1:=at_in (P:=fun y=>y.natAbs<10^40) bl hk2 bb
   have a2:=at_in (P:=fun y=>0≤y∧y≤1000000000) fl hk2 o.fs.2
   exact Nat.lt_of_lt_of_le (show _<2*10^40 by omega) (by decide +kernel)
theorem sc_unmoved:FnScope ["net","weights","part"] ["net","weights","part"] (defScope s_unmoved):=⟨rfl,rfl,rfl,by decide +kernel,rfl,by decide +kernel,by decide +kernel⟩
set_option maxHeartbeats 4000000 in
theorem ok_unmoved (T:Txt K mg AR FR):FnOk P w K mg base CX0 7 AR.f_unmoved FR.d_unmoved ["net","weights","part"] (sp_unmoved AR.C_Net K):=by
 have G_Net_init:FnOk P w K mg base CX0 3 AR.f_Net_init FR.d_Net_init _ (sp_Net_init AR.C_Net K):=ok_Net_init T
 have G_refuse_unlike:FnOk P w K mg base (CXF P w) 1 AR.f_refuse_unlike FR.d_refuse_unlike _ (sp_refuse_unlike AR.C_Unlike K):=ok_refuse_unlike T
 have G_gains:FnOk P w K mg base CX0 6 AR.f_gains FR.d_gains _ (sp_gains AR.C_Net K):=ok_gains T
 have G_is_multiple:FnOk P w K mg base CX0 1 AR.f_is_multiple FR.d_is_multiple _ (sp_is_multiple K):=ok_is_multiple T
 have G_weighed:FnOk P w K mg base CX0 2 AR.f_weighed FR.d_weighed _ (sp_weighed K):=ok_weighed T
 refine T.u_unmoved.F.ok sc_unmoved (fun vs H Q E h=>?_) (fun cdv A outer s H vs Q E hr h=>?_)
 ·obtain ⟨x,dx,b,d,t,g,f,c,ts,gs,N,ws,p,rfl,n,ok,hc,wb,hl,p0,hQ⟩:=h
  rfl
 ·obtain ⟨x,dx,b,d,t,g,f,c,ts,gs,N,ws,p,rfl,n,ok,hc,wb,hl,p0,hQ⟩:=h
  refine ⟨_,(pss_cons (ps_expr (pe_call G_refuse_unlike.never (hr.mono (by decide)) (by rfl) T.u_refuse_unlike.m T.u_refuse_unlike.F.kp T.u_refuse_unlike.b .nil pass0 (pa_cons (pe_fld (pv 0) rfl) (pa_cons (pv 1) pa_nil))))
   (pss_one (ps_ret (pe_callB (call_all_list rfl) (by rfl) T.z_all bt_all (pa_cons (pe_comp (N':=["row","weights","part"]) (nt:=1) (caps:=[1,2]) _ _ (CompScope.of (by kernel_rfl)) (pi_list (pe_call G_gains (hr.mono (by decide)) (by rfl) T.u_gains.m T.u_gains.F.kp T.u_gains.b .nil pass0 (pa_cons (pv 0) pa_nil))) (fun _=>(pg_nameC (i:=0) ["row","weights","part"] (by decide +kernel) (by rfl))) (fun _=>pts_nil) (fun _=>(pe_call G_is_multiple (hr.mono (by decide)) (by rfl) T.u_is_multiple.m T.u_is_multiple.F.kp T.u_is_multiple.b .nil pass0 (pa_cons (pe_call G_weighed (hr.mono (by decide)) (by rfl) T.u_weighed.m T.u_weighed.F.kp T.u_weighed.b .nil pass0 (pa_cons (pv 1) (pa_cons (pv 0) pa_nil))) (pa_cons (pv 2) pa_nil))))) pa_nil))))),?_⟩
  try dsimp only [kx1,kx2,kx3,Cx.nox,Cx.wish]
  have d8:=ok.d8
  have b6:=ok.b6
  have tl:=ok.tl
  have gl:=ok.gl
  have vb:(vstrs N.bowls).length=N.bowls.length:=List.length_map ..
  refine ⟨_,rfl,x,_,dx,_,_,rfl,n.ob,T.cl_Net,T.n_Net_bowls,rfl,_,rfl,b,c,_,_,rfl,SqL.of n.hb,hc,fun _=>?_,fun h=>absurd (by rw [vb,ints_len]; exact hl) h⟩
  refine ⟨_,rfl,x,dx,b,d,t,g,f,ts,gs,N,rfl,n,ok,fun q as H1 nq S1 hq R1=>?_⟩
  have al:as.length=N.takes.length:=by rw [R1.length,gnP_len]
  refine ⟨q,rfl,⟨_,SqL.of hq⟩,?_⟩
  refine comp_boolsOf (K:=K) (τ:=[some (.ref c),some (.int p)]) (fun i=>mulP (wsum ws ((gnP N.takes N.gives).getD i [])) p) (SqL.of hq) (small70 (by omega)) (fun B i s H2 hs S2 Q' hq2=>?_) fun H2 S2 pp np=>?_
  ·have hi:i<N.takes.length:=by have:=(List.getElem?_eq_some_iff.mp hs).1; omega
   have hg:i<N.gives.length:=by omega
   obtain ⟨r,hr,he⟩:=Paired.getL R1 hs
   have e:(gnP N.takes N.gives).getD i []=r:=by rw [List.getD_eq_getElem?_getD,hr]; rfl
   have e2:=gnP_at (gv:=N.gives) hi
   rw [getDr hi,getDr hg] at e2
   have lg:=(ok.gv _ (List.getElem_mem hg)).1
   have lt:=(ok.tk _ (List.getElem_mem hi)).1
   have lr:r.length=N.bowls.length:=by rw [← e,e2]; exact sub_len lg lt
   rw [e] at hq2
   refine ⟨_,rfl,_,rfl,c,s,ws,r,rfl,(S1.trans S2).seq hc,SqL.of (S2 _ _ he),by omega,by omega,wb,fun y hy=>?_,fun H3 S3=>⟨_,rfl,_,p,rfl,p0,hq2 H3 S3⟩⟩
   rw [← e,e2] at hy
   exact Nat.lt_of_le_of_lt (sub_abs lg lt (ok.gv _ (List.getElem_mem hg)).2 (ok.tk _ (List.getElem_mem hi)).2 y hy) (by decide +kernel)
  ·refine ⟨pp,_,rfl,SqL.of upd_same,?_⟩
   rw [al,← gnP_len N.takes N.gives,all_range [] (fun r=>mulP (wsum ws r) p)]
   exact hQ _ ((S1.trans S2).upd np)
theorem sc_tells_apart:FnScope ["net","weights","part","bag","changed"] ["net","weights","part","bag"] (defScope s_tells_apart):=⟨rfl,rfl,rfl,by decide +kernel,rfl,by decide +kernel,by decide +kernel⟩
set_option maxHeartbeats 4000000 in
theorem ok_tells_apart (T:Txt K mg AR FR):FnOk P w K mg base CX0 8 AR.f_tells_apart FR.d_tells_apart ["net","weights","part","bag"] (sp_tells_apart AR.C_Net K):=by
 have G_Net_init:FnOk P w K mg base CX0 3 AR.f_Net_init FR.d_Net_init _ (sp_Net_init AR.C_Net K):=ok_Net_init T
 have G_less:FnOk P w K mg base (CXF P w) 2 AR.f_less FR.d_less _ (sp_less AR.C_Unlike K):=ok_less T
 have G_unmoved:FnOk P w K mg base CX0 7 AR.f_unmoved FR.d_unmoved _ (sp_unmoved AR.C_Net K):=ok_unmoved T
 have G_is_multiple:FnOk P w K mg base CX0 1 AR.f_is_multiple FR.d_is_multiple _ (sp_is_multiple K):=ok_is_multiple T
 have G_weighed:FnOk P w K mg base CX0 2 AR.f_weighed FR.d_weighed _ (sp_weighed K):=ok_weighed T
 refine T.u_tells_apart.F.ok sc_tells_apart (fun vs H Q E h=>?_) (fun cdv A outer s H vs Q E hr h=>?_)
 ·obtain ⟨x,dx,b,d,t,g,f,c,e,ts,gs,N,ws,bs,p,rfl,n,ok,hc,he,wb,bb,hl2,hw,p0,hQ⟩:=h
  rfl
 ·obtain ⟨x,dx,b,d,t,g,f,c,e,ts,gs,N,ws,bs,p,rfl,n,ok,hc,he,wb,bb,hl2,hw,p0,hQ⟩:=h
  refine ⟨_,(pss_cons (ps_set (i:=4) sc_tells_apart.nd rfl (Or.inl rfl) (pe_call G_less.never (hr.mono (by decide)) (by rfl) T.u_less.m T.u_less.F.kp T.u_less.b .nil pass0 (pa_cons (pv 3) (pa_cons (pe_fld (pv 0) rfl) pa_nil))))
   (pss_one (ps_ret (pe_and (pe_call G_unmoved (hr.mono (by decide)) (by rfl) T.u_unmoved.m T.u_unmoved.F.kp T.u_unmoved.b .nil pass0 (pa_cons (pv 0) (pa_cons (pv 1) (pa_cons (pv 2) pa_nil)))) (pe_one (pe_not (pe_call G_is_multiple (hr.mono (by decide)) (by rfl) T.u_is_multiple.m T.u_is_multiple.F.kp T.u_is_multiple.b .nil pass0 (pa_cons (pe_call G_weighed (hr.mono (by decide)) (by rfl) T.u_weighed.m T.u_weighed.F.kp T.u_weighed.b .nil pass0 (pa_cons (pv 1) (pa_cons (pv 4) pa_nil))) (pa_cons (pv 2) pa_nil))))))))),?_⟩
  try dsimp only [kx1,kx2,kx3,Cx.nox,Cx.wish]
  have b6:=ok.b6
  have fl:=ok.fs.1
  refine ⟨_,rfl,_,rfl,x,_,dx,_,_,rfl,n.ob,T.cl_Net,T.n_Net_first,rfl,e,f,bs,_,rfl,he,SqL.of n.hf,by omega,fun hl q H1 nq S1 hq=>?_,fun h=>absurd (by omega) h⟩
  refine ⟨_,rfl,_,rfl,_,rfl,x,dx,b,d,t,g,f,c,ts,gs,N,ws,p,rfl,n.same S1,ok,S1.seq hc,wb,hw,p0,fun H2 S2=>?_⟩
  refine ⟨_,rfl,?_⟩
  cases hu:(gnP N.takes N.gives).all fun r=>mulP (wsum ws r) p with
  | false =>
   rw [hu] at hQ
   exact hQ _ (S1.trans S2)
  | true =>
   rw [hu] at hQ
   refine iteT ?_
   have ls:(sub bs N.first).length=N.bowls.length:=sub_len hl2 fl
   refine ⟨_,rfl,_,rfl,c,q,ws,sub bs N.first,rfl,(S1.trans S2).seq hc,SqL.of (S2 _ _ hq),by omega,by omega,wb,fun y hy=>?_,fun H3 S3=>⟨_,rfl,_,p,rfl,p0,_,rfl,hQ _ ((S1.trans S2).trans S3)⟩⟩
   obtain ⟨k,hk,rfl⟩:=List.mem_iff_getElem.mp hy
   have hk2:k<N.bowls.length:=by omega
   rw [← L2.getD_at hk,sub_at hl2 fl hk2]
   have a1:=at_in (P:=fun y=>y.natAbs<10^40) hl2 hk2 bb
   have a2:=at_in (P:=fun y=>0≤y∧y≤1000000000) fl hk2 ok.fs.2
   exact Nat.lt_of_lt_of_le (show _<2*10^40 by omega) (by decide +kernel)
theorem sc_law_refused:FnScope ["net","bag","e"] ["net","bag"] (defScope s_law_refused):=⟨rfl,rfl,rfl,by decide +kernel,rfl,by decide +kernel,by decide +kernel⟩
set_option maxHeartbeats 4000000 in
theorem ok_law_refused (T:Txt K mg AR FR):FnOk P w K mg base CX0 9 AR.f_law_refused FR.d_law_refused ["net","bag"] (sp_law_refused AR.C_Net K):=by
 have G_Net_init:FnOk P w K mg base CX0 3 AR.f_Net_init FR.d_Net_init _ (sp_Net_init AR.C_Net K):=ok_Net_init T
 have G_accounted:FnOk P w K mg base (CXF P w) 8 AR.f_accounted FR.d_accounted _ (sp_accounted AR.C_Net AR.C_Unlike K):=ok_accounted T
 refine T.u_law_refused.F.ok sc_law_refused (fun vs H Q E h=>?_) (fun cdv A outer s H vs Q E hr h=>?_)
 ·obtain ⟨x,dx,b,d,t,g,f,c,ts,gs,N,bs,bb,rfl,n,ok,hc,b70,hbs,b1,b137,e8,gb,hl,hQ⟩:=h
  rfl
 ·obtain ⟨x,dx,b,d,t,g,f,c,ts,gs,N,bs,bb,rfl,n,ok,hc,b70,hbs,b1,b137,e8,gb,hl,hQ⟩:=h
  refine ⟨_,(pss_cons (ps_tryAs (i:=2) sc_law_refused.nd (by rfl) T.mC_Unlike (pb_expr (px_call G_accounted (hr.mono (by decide)) (by rfl) T.u_accounted.m T.u_accounted.F.kp T.u_accounted.b (pa_cons (pv 0) (pa_cons (pv 1) pa_nil)))) (fun _ _=>(pss_one (ps_ret (pe_and (pe_callB call_isX (by rfl) T.z_isinstance bt_isinstance (pa_cons (pv 2) (pa_cons (pe_glob (v:=.ref AR.C_HallError) (by rfl) T.mC_HallError rfl) pa_nil))) (pe_one (pe_callB call_isX (by rfl) T.z_isinstance bt_isinstance (pa_cons (pv 2) (pa_cons (pe_bltn (v:=.ty "ValueError") (by rfl) T.z_ValueError bt_ValueError rfl) pa_nil)))))))))
   (pss_one (ps_ret pe_bl))),?_⟩
  try dsimp only [kx1,kx2,kx3,Cx.nox,Cx.wish]
  refine ⟨_,rfl,_,rfl,x,dx,b,d,t,g,f,c,ts,gs,N,bs,bb,rfl,n,ok,hc,b70,hbs,b1,b137,e8,gb,fun h=>absurd h hl,fun h=>absurd h hl,fun _=>?_⟩
  refine ⟨_,rfl,caught_self T.ec_Unlike,fun e o ne xo=>?_⟩
  have m:(e,o)∈([]++[(e,o)]:List (Addr×Obj)):=by simp
  refine ⟨_,rfl,e,o,_,_,_,_,true,rfl,m,xo,noDict,T.xi_Unlike,.inr ⟨_,rfl,rfl⟩,ec_up T.ec_Unlike T.ec_HallError,_,rfl,?_⟩
  refine iteT ?_
  exact ⟨_,rfl,e,o,_,_,_,_,true,rfl,m,xo,noDict,T.xi_Unlike,.inl ⟨_,rfl,rfl⟩,ec_VE T.ec_Unlike,hQ _ (Same.refl _)⟩
theorem sc_law:FnScope ["script","parts","bag","net","told","handed","found","plain","other"] ["script"] (defScope s_law):=⟨rfl,rfl,rfl,by decide +kernel,rfl,by decide +kernel,by decide +kernel⟩
set_option maxHeartbeats 40000000 in
theorem ok_law (T:Txt K mg AR FR):FnOk P w K mg base CX0 10 AR.f_law FR.d_law ["script"] (sp_law K):=by
 have G_law_net:FnOk P w K mg base CX0 4 AR.f_law_net FR.d_law_net _ (sp_law_net K):=ok_law_net T
 have G_law_bag:FnOk P w K mg base CX0 3 AR.f_law_bag FR.d_law_bag _ (sp_law_bag K):=ok_law_bag T
 have G_law_made:FnOk P w K mg base CX0 5 AR.f_law_made FR.d_law_made _ (sp_law_made AR.C_Net K):=ok_law_made T
 have G_sums:FnOk P w K mg base CX0 7 AR.f_sums FR.d_sums _ (sp_sums AR.C_Net K):=ok_sums T
 have G_accounted:FnOk P w K mg base (CXF P w) 8 AR.f_accounted FR.d_accounted _ (sp_accounted AR.C_Net AR.C_Unlike K):=ok_accounted T
 have G_law_answer_good:FnOk P w K mg base CX0 4 AR.f_law_answer_good FR.d_law_answer_good _ (sp_law_answer_good K):=ok_law_answer_good T
 have G_tells_apart:FnOk P w K mg base CX0 8 AR.f_tells_apart FR.d_tells_apart _ (sp_tells_apart AR.C_Net K):=ok_tells_apart T
 have G_law_behind:FnOk P w K mg base CX0 2 AR.f_law_behind FR.d_law_behind _ (sp_law_behind K):=ok_law_behind T
 have G_law_tally:FnOk P w K mg base CX0 1 AR.f_law_tally FR.d_law_tally _ (sp_law_tally K):=ok_law_tally T
 have G_law_refused:FnOk P w K mg base CX0 9 AR.f_law_refused FR.d_law_refused _ (sp_law_refused AR.C_Net K):=ok_law_refused T
 refine T.u_law.F.ok sc_law (fun vs H Q E h=>?_) (fun cdv A outer s H vs Q E hr h=>?_)
 ·obtain ⟨a,ns,rfl,hS,hlen,hQ⟩:=h
  rfl
 ·obtain ⟨a,ns,rfl,hS,hlen,hQ⟩:=h
  refine ⟨_,(pss_cons (ps_set (i:=1) sc_law.nd rfl (Or.inl rfl) (pe_call G_law_net (hr.mono (by decide)) (by rfl) T.u_law_net.m T.u_law_net.F.kp T.u_law_net.b .nil pass0 (pa_cons (pv 0) pa_nil)))
   (pss_cons (ps_set (i:=2) sc_law.nd rfl (Or.inl rfl) (pe_call G_law_bag (hr.mono (by decide)) (by rfl) T.u_law_bag.m T.u_law_bag.F.kp T.u_law_bag.b .nil pass0 (pa_cons (pv 0) (pa_cons (pv 1) pa_nil))))
   (pss_cons (ps_set (i:=3) sc_law.nd rfl (Or.inl rfl) (pe_call G_law_made (hr.mono (by decide)) (by rfl) T.u_law_made.m T.u_law_made.F.kp T.u_law_made.b .nil pass0 (pa_cons (pv 1) pa_nil)))
   (pss_cons (ps_set (i:=4) sc_law.nd rfl (Or.inl rfl) (pe_call G_sums (hr.mono (by decide)) (by rfl) T.u_sums.m T.u_sums.F.kp T.u_sums.b .nil pass0 (pa_cons (pv 3) pa_nil)))
   (pss_cons (ps_set (i:=5) sc_law.nd rfl (Or.inl rfl) (pe_callTy call_list_of (by rfl) T.z_list bt_list (pa_cons (pv 2) pa_nil)))
   (pss_cons (ps_set (i:=6) sc_law.nd rfl (Or.inl rfl) (pe_call G_accounted.never (hr.mono (by decide)) (by rfl) T.u_accounted.m T.u_accounted.F.kp T.u_accounted.b .nil pass0 (pa_cons (pv 3) (pa_cons (pv 5) pa_nil))))
   (pss_cons (ps_if (PW.pt (pw_or (pt_cmpR (op_neL (hu0_of hr)) (pv 5) (pv 2) (nomark _)) (pw_or1 (pt_not (pt_val (pe_call G_law_answer_good (hr.mono (by decide)) (by rfl) T.u_law_answer_good.m T.u_law_answer_good.F.kp T.u_law_answer_good.b .nil pass0 (pa_cons (pv 6) (pa_cons (pv 1) (pa_cons (pv 2) (pa_cons (pv 4) pa_nil)))))))))) (pss_one (ps_ret pe_bl)) pss_nil)
   (pss_cons (ps_if (PW.pt (pw_and (pt_cmpR op_eq (pe_ix ix_tup (pv 6) pe_int (fun _ _=>rfl)) pe_str (nomark _)) (pw_and1 (pt_cmpR op_isnotB (pe_call G_tells_apart (hr.mono (by decide)) (by rfl) T.u_tells_apart.m T.u_tells_apart.F.kp T.u_tells_apart.b .nil pass0 (pa_cons (pv 3) (pa_cons (pe_callTy call_list_of (by rfl) T.z_list bt_list (pa_cons (pe_ix ix_tup (pv 6) pe_int (fun _ _=>rfl)) pa_nil)) (pa_cons (pe_ix ix_tup (pv 6) pe_int (fun _ _=>rfl)) (pa_cons (pv 2) pa_nil))))) pe_bl (nomark _))))) (pss_one (ps_ret pe_bl)) pss_nil)
   (pss_cons (ps_set (i:=7) sc_law.nd rfl (Or.inl rfl) (pe_call G_law_behind (hr.mono (by decide)) (by rfl) T.u_law_behind.m T.u_law_behind.F.kp T.u_law_behind.b .nil pass0 (pa_cons (pv 1) (pa_cons (pe_call G_law_tally (hr.mono (by decide)) (by rfl) T.u_law_tally.m T.u_law_tally.F.kp T.u_law_tally.b .nil pass0 (pa_cons (pv 0) (pa_cons (pe_callB call_len_seq (by rfl) T.z_len bt_len (pa_cons (pe_ix ix_list (pv 1) pe_int (fun _ _=>rfl)) pa_nil)) pa_nil))) pa_nil))))
   (pss_cons (ps_set (i:=8) sc_law.nd rfl (Or.inl rfl) (pe_call G_accounted.never (hr.mono (by decide)) (by rfl) T.u_accounted.m T.u_accounted.F.kp T.u_accounted.b .nil pass0 (pa_cons (pv 3) (pa_cons (pe_callTy call_list_of (by rfl) T.z_list bt_list (pa_cons (pv 7) pa_nil)) pa_nil))))
   (pss_cons (ps_if (PW.pt (pw_or (pt_cmpR op_ne (pe_ix ix_tup (pv 8) pe_int (fun _ _=>rfl)) pe_str (nomark _)) (pw_or1 (pt_not (pt_val (pe_call G_law_answer_good (hr.mono (by decide)) (by rfl) T.u_law_answer_good.m T.u_law_answer_good.F.kp T.u_law_answer_good.b .nil pass0 (pa_cons (pv 8) (pa_cons (pv 1) (pa_cons (pv 7) (pa_cons (pv 4) pa_nil)))))))))) (pss_one (ps_ret pe_bl)) pss_nil)
   (pss_one (ps_ret (pe_and (pe_call G_law_refused (hr.mono (by decide)) (by rfl) T.u_law_refused.m T.u_law_refused.F.kp T.u_law_refused.b .nil pass0 (pa_cons (pv 3) (pa_cons (pe_op op_cat (pv 2) (pe_lst (pa_cons pe_int pa_nil))) pa_nil))) (pe_one (pe_call G_law_refused (hr.mono (by decide)) (by rfl) T.u_law_refused.m T.u_law_refused.F.kp T.u_law_refused.b .nil pass0 (pa_cons (pv 3) (pa_cons (pe_slice sl_list (pv 2) po_none (po_some (pe_un un_neg pe_int))) pa_nil)))))))))))))))))),?_⟩
  try dsimp only [kx1,kx2,kx3,Cx.nox,Cx.wish]
  refine ⟨_,rfl,a,ns,rfl,hS,hlen,fun p pt pg pf ts gs z tk gv fs H1 np S1 P o fw=>?_⟩
  have z1:=o.z1
  have z6:=o.z6
  have t8:=o.t8
  have gl:=o.gl
  have fl:=o.fs.1
  have gw:=gnP_wd (wd_of o.tk) (wd_of o.gv) gl
  obtain ⟨bb,hbb,gb⟩:=few_bits o fw
  have b1:1≤bb:=by omega
  have b137:bb≤137:=by omega
  have e8:(bb+1)*2^z≤832:=by
   rcases hbb with ⟨rfl,z4,_⟩ | rfl
   ·exact Nat.le_trans (Nat.mul_le_mul_left _ (Nat.pow_le_pow_right (by decide) z4)) (by decide)
   ·exact Nat.le_trans (Nat.mul_le_mul_left _ (Nat.pow_le_pow_right (by decide) z6)) (by decide)
  refine ⟨_,rfl,_,rfl,a,p,pt,pg,pf,ns,ts,gs,z,tk,gv,fs,rfl,S1.seq hS,hlen,P,o,fun pb bs H2 npb S2 hb bl bb32=>?_⟩
  have bb40:∀ y∈bs,y.natAbs<10^40:=fun y hy=>Nat.lt_of_le_of_lt (bb32 y hy) (by decide +kernel)
  have P2:=P.same S2
  refine ⟨_,rfl,p,pt,pg,pf,ts,gs,z,tk,gv,fs,rfl,P2,o,fun x dx b d t g f ts' gs' H3 nx S3 NI ok=>?_⟩
  have eB:(netP tk gv fs).bowls.length=z:=by rw [netP_len (by omega),fl]
  have eT:(netP tk gv fs).takes=tk:=rfl
  have eG:(netP tk gv fs).gives=gv:=rfl
  have eF:(netP tk gv fs).first=fs:=rfl
  generalize hN0:netP tk gv fs=N0 at NI ok eB eT eG eF
  refine ⟨_,rfl,x,dx,b,d,t,g,f,ts',gs',_,rfl,NI,ok,fun qd pq TT H4 nqd S4 hqd Ln e4 o4 f4=>?_⟩
  rw [eB,eT,eG] at e4 o4
  have SA:SumsA z (gnP tk gv) TT:=⟨e4,fun c hc=>(o4 c hc).1,fun c hc=>(o4 c hc).2⟩
  have hb4:=(S3.trans S4) _ _ hb
  refine ⟨_,rfl,pb,_,rfl,.inl (SqL.of hb4),fun qh nqh=>?_⟩
  have V5:=(Same.refl H4).upd nqh (o:=.lst (vints bs))
  have hqh:=upd_same (H:=H4) (a:=qh) (o:=.lst (vints bs))
  generalize upd H4 qh (.lst (vints bs))=H5 at V5 hqh ⊢
  have S25:=(S3.trans S4).trans V5
  have P5:=P2.same S25
  have N5:=NI.same (S4.trans V5)
  have hqd:=V5 _ _ hqd
  have Ln:=Ln.same V5
  have hb5:=V5 _ _ hb4
  have hS5:=((S1.trans S2).trans S25).seq hS
  clear hb4
  try dsimp only [gName]
  have uq:∀ {T':List (Nat×List Int)},SumsA z (gnP tk gv) T'→T'=TT:=fun h=>h.uniq gw gb b1 SA
  refine seq_join (fun σ' H'=>∃ (q:Addr),σ'=[some (.ref a),some (.ref p),some (.ref pb),some (.ref x),some (.ref qd),some (.ref qh),some (.ref q),none,none]∧Same H5 H'∧AccIn H' q (gnP tk gv) z TT (sub bs fs)) ?_ ?_
  rotate_left
  ·intro N hN
   refine ⟨_,rfl,_,rfl,x,dx,b,d,t,g,f,qh,ts',gs',N0,bs,bb,rfl,N5,ok,hqh,by omega,bb40,b1,b137,by rw [eB]; exact e8,by rw [eT,eG]; exact gb,fun _ q l wl pp T' H6 S6 hq hl SA' A=>?_,fun _ q l tl H6 S6 hq hl A=>?_,fun h=>absurd (by rw [eB]; exact bl) h⟩
   ·rw [eT,eG,eB] at SA' A
    rw [eF] at A
    rw [uq SA'] at A
    exact hN _ _ ⟨q,rfl,S6,.inr ⟨l,wl,pp,hq,hl,A⟩⟩
   ·rw [eT,eG,eB,eF] at A
    exact hN _ _ ⟨q,rfl,S6,.inl ⟨l,tl,hq,hl,A⟩⟩
  rintro _ H6 ⟨q,rfl,S6,AI⟩
  refine ⟨_,rfl,_,rfl,qh,pb,bs,bs,rfl,rfl,SqL.of (S6 _ _ hqh),SqL.of (S6 _ _ hb5),_,rfl,?_⟩
  rw [decide_eq_true (p:=bs=bs) rfl]
  refine iteF ?_
  refine ⟨_,rfl,_,rfl,_,rfl,_,rfl,q,p,pt,pg,pf,pb,qd,ts,gs,z,tk,gv,fs,bs,pq,TT,rfl,P5.same S6,o,S6 _ _ hb5,bl,bb40,S6 _ _ hqd,Ln.same S6,SA,AI,fun H7 S7=>⟨_,rfl,?_⟩⟩
  refine iteF ?_
  try dsimp only [tNext]
  have S57:=S6.trans S7
  have AI7:=AI.same S7
  refine seq_join (fun σ' H'=>σ'=[some (.ref a),some (.ref p),some (.ref pb),some (.ref x),some (.ref qd),some (.ref qh),some (.ref q),none,none]∧Same H5 H') ?_ ?_
  rotate_left
  ·intro N hN
   rcases AI7 with ⟨l,tl,hq,hl,A⟩ | ⟨l,wl,pp,hq,hl,A⟩
   ·refine ⟨_,rfl,q,_,_,_,rfl,rfl,SqT.of hq,rfl,rfl,_,rfl,?_⟩
    refine iteD (fun z=>absurd z (by decide +kernel)) (fun _=>?_)
    exact hN _ _ ⟨rfl,S57⟩
   ·refine ⟨_,rfl,q,_,_,_,rfl,rfl,SqT.of hq,rfl,rfl,_,rfl,?_⟩
    refine iteD (fun _=>?_) (fun z=>absurd rfl z)
    refine ⟨_,rfl,_,rfl,q,_,_,_,rfl,rfl,SqT.of hq,rfl,l,_,rfl,.inl (SqL.of hl),fun q7 n7=>?_⟩
    have V7:=(Same.refl H7).upd n7 (o:=.lst (vints wl))
    have h7:=upd_same (H:=H7) (a:=q7) (o:=.lst (vints wl))
    generalize upd H7 q7 (.lst (vints wl))=H8 at V7 h7 ⊢
    have S58:=S57.trans V7
    refine ⟨_,rfl,q,_,_,_,rfl,rfl,SqT.of (V7 _ _ hq),rfl,_,rfl,x,dx,b,d,t,g,f,q7,pb,ts',gs',N0,wl,bs,pp,rfl,N5.same S58,ok,SqL.of h7,SqL.of (S58 _ _ hb5),A.bd,bb40,by rw [eB]; exact bl,by rw [eB,A.ln],A.p0,fun H9 S9=>⟨_,_,rfl,rfl,_,rfl,?_⟩⟩
    have et:((gnP N0.takes N0.gives).all fun r=>mulP (wsum wl r) pp)=true:=by
     rw [eT,eG]
     exact List.all_eq_true.mpr fun r hr=>A.dv r hr
    rw [et,eF,A.nd]
    refine iteF ?_
    exact hN _ _ ⟨rfl,S58.trans S9⟩
  rintro _ H8 ⟨rfl,S58⟩
  have P8:=P5.same S58
  have tl:(ts.map V.ref).length=tk.length:=by rw [List.length_map,P.tr.length]
  refine ⟨_,rfl,_,rfl,_,rfl,p,_,_,_,rfl,rfl,SqL.of P8.top,rfl,pt,_,rfl,.inl (SqL.of P8.ht),a,ns,tk.length,by rw [tl]; rfl,S58.seq hS5,hlen,t8,fun c ms H9 nc S9 hc ml mb=>?_⟩
  refine ⟨p,pt,pg,pf,c,ts,gs,z,tk,gv,fs,ms,rfl,P8.same S9,o,SqL.of hc,ml,fun m hm=>Nat.lt_of_le_of_lt (mb m hm) (Nat.lt_of_lt_of_le (show 63000000000<2^36 by decide) (Nat.pow_le_pow_right (by decide) (by decide))),fun qp bag H10 nqp S10 hqp bo=>?_⟩
  have bagl:=bo.1
  have bagb:=bo.bd (by rw [gnP_len]; exact t8) o.fs.1 (by rw [gnP_len]; exact ml) gw o.fs.2 mb (gnP_1e9 o)
  have bag40:∀ y∈bag,y.natAbs<10^40:=fun y hy=>Nat.lt_of_le_of_lt (bagb y hy) (by decide +kernel)
  have S510:=(S58.trans S9).trans S10
  refine ⟨_,rfl,_,rfl,qp,_,rfl,.inl (SqL.of hqp),fun q11 n11=>?_⟩
  have V11:=(Same.refl H10).upd n11 (o:=.lst (vints bag))
  have h11:=upd_same (H:=H10) (a:=q11) (o:=.lst (vints bag))
  have hqp:=V11 _ _ hqp
  generalize upd H10 q11 (.lst (vints bag))=H11 at V11 h11 hqp ⊢
  have S511:=S510.trans V11
  refine ⟨x,dx,b,d,t,g,f,q11,ts',gs',N0,bag,bb,rfl,N5.same S511,ok,h11,by omega,bag40,b1,b137,by rw [eB]; exact e8,by rw [eT,eG]; exact gb,fun _ q' l wl pp T' H12 S12 hq hl SA' A=>?_,fun _ q' l tl H12 S12 hq hl A=>?_,fun h=>absurd (by rw [eB]; exact bagl) h⟩
  ·rw [eT,eG,eB,eF] at A
   exact absurd (bo.lat fl) A.nl
  rw [eT,eG,eB,eF] at A
  have S512:=S511.trans S12
  refine ⟨_,rfl,q',_,_,_,rfl,rfl,SqT.of hq,rfl,rfl,_,rfl,?_⟩
  refine iteND (fun h=>absurd rfl h) (fun _=>?_)
  refine ⟨_,rfl,_,rfl,_,rfl,_,rfl,q',p,pt,pg,pf,qp,qd,ts,gs,z,tk,gv,fs,bag,pq,TT,rfl,P5.same S512,o,S12 _ _ hqp,bagl,bag40,S512 _ _ hqd,Ln.same S512,SA,.inl ⟨l,tl,hq,hl,A⟩,fun H13 S13=>⟨_,rfl,?_⟩⟩
  refine iteF ?_
  try dsimp only [tNext]
  have S513:=S512.trans S13
  have N13:=N5.same S513
  have hb13:=S513 _ _ hb5
  refine ⟨_,rfl,_,rfl,by show 1≤sizeLine; decide,fun l1 m1=>?_⟩
  have W1:=(Same.refl H13).upd m1 (o:=.lst [V.int 0])
  refine ⟨pb,l1,_,_,rfl,rfl,W1 _ _ hb13,upd_same,by rw [ints_len,bl]; show z+1≤_; exact Nat.le_of_lt (small70 (by omega)),fun l2 m2=>?_⟩
  have W2:=W1.upd m2 (o:=.lst (vints bs++[V.int 0]))
  have e2:=upd_same (H:=upd H13 l1 (.lst [V.int 0])) (a:=l2) (o:=.lst (vints bs++[V.int 0]))
  generalize upd (upd H13 l1 (.lst [V.int 0])) l2 (.lst (vints bs++[V.int 0]))=H15 at W2 e2 ⊢
  refine ⟨x,dx,b,d,t,g,f,l2,ts',gs',N0,bs++[0],bb,rfl,N13.same W2,ok,by rw [vints_snoc]; exact e2,by rw [List.length_append]; show bs.length+1≤70; omega,fun y hy=>?_,b1,b137,by rw [eB]; exact e8,by rw [eT,eG]; exact gb,by rw [eB,List.length_append]; show bs.length+1≠z; omega,fun H16 S16=>?_⟩
  ·rcases List.mem_append.mp hy with h | h
   ·exact bb40 y h
   ·rw [List.mem_singleton.mp h]; decide +kernel
  refine ⟨_,rfl,?_⟩
  refine iteT ?_
  have W3:=W2.trans S16
  refine ⟨_,rfl,_,rfl,_,rfl,_,rfl,pb,_,rfl,SqL.of (W3 _ _ hb13),fun l3 m3=>?_⟩
  have W4:=W3.upd m3 (o:=.lst (cutV (vints bs) none (some (-1))))
  have e3:=upd_same (H:=H16) (a:=l3) (o:=.lst (cutV (vints bs) none (some (-1))))
  rw [cut_lastV] at e3
  exact ⟨x,dx,b,d,t,g,f,l3,ts',gs',N0,bs.dropLast,bb,rfl,N13.same W4,ok,by rw [cut_lastV]; exact e3,by rw [List.length_dropLast]; omega,fun w hw=>bb40 w (List.mem_of_mem_take (by rw [List.dropLast_eq_take] at hw; exact hw)),b1,b137,by rw [eB]; exact e8,by rw [eT,eG]; exact gb,by rw [eB,List.length_dropLast,bl]; omega,fun H17 S17=>hQ H17⟩
end
theorem ex_S {us:List Value} {n:Nat} (hl:us.length=n+1):∃ a r,us=a::r∧r.length=n:=by cases us with | nil=>cases hl | cons a r=>exact ⟨a,r,rfl,Nat.succ.inj hl⟩
theorem ex_Z {us:List Value} (hl:us.length=0):us=[]:=List.eq_nil_of_length_eq_zero hl
theorem ex_0 {us:List Value} (hl:us.length=0):us=[]:=List.eq_nil_of_length_eq_zero hl
theorem ex_1 {us:List Value} (hl:us.length=1):∃ a0,us=[a0]:=by obtain ⟨a,r,rfl,h⟩:=ex_S hl; obtain rfl:=ex_0 h; exact ⟨a,rfl⟩
theorem ex_2 {us:List Value} (hl:us.length=2):∃ a0 a1,us=[a0,a1]:=by obtain ⟨a,r,rfl,h⟩:=ex_S hl; obtain ⟨_,rfl⟩:=ex_1 h; exact ⟨a,_,rfl⟩
theorem ex_3 {us:List Value} (hl:us.length=3):∃ a0 a1 a2,us=[a0,a1,a2]:=by obtain ⟨a,r,rfl,h⟩:=ex_S hl; obtain ⟨_,_,rfl⟩:=ex_2 h; exact ⟨a,_,_,rfl⟩
theorem ex_4 {us:List Value} (hl:us.length=4):∃ a0 a1 a2 a3,us=[a0,a1,a2,a3]:=by obtain ⟨a,r,rfl,h⟩:=ex_S hl; obtain ⟨_,_,_,rfl⟩:=ex_3 h; exact ⟨a,_,_,_,rfl⟩
theorem ex_5 {us:List Value} (hl:us.length=5):∃ a0 a1 a2 a3 a4,us=[a0,a1,a2,a3,a4]:=by obtain ⟨a,r,rfl,h⟩:=ex_S hl; obtain ⟨_,_,_,_,rfl⟩:=ex_4 h; exact ⟨a,_,_,_,_,rfl⟩
theorem ex_6 {us:List Value} (hl:us.length=6):∃ a0 a1 a2 a3 a4 a5,us=[a0,a1,a2,a3,a4,a5]:=by obtain ⟨a,r,rfl,h⟩:=ex_S hl; obtain ⟨_,_,_,_,_,rfl⟩:=ex_5 h; exact ⟨a,_,_,_,_,_,rfl⟩
set_option maxHeartbeats 0 in
theorem all_mk {l:PySem.W.OpenLaw} {w:World} {K:PySem.W.Frag} {h:Heap} {mg:Str→Option Value} {fa f_law_mixed f_law_number f_law_door f_law_net f_law_gains f_law_behind f_law_tally f_law_bag f_is_name f_refuse_bad_names f_refuse_bad_bags f_Net_init f_law_made f_unit f_with_makings f_place_of_first f_times f_upright f_common_divisor f_measure f_lowered f_refuse_unlike f_less f_freed f_cleared f_weighing f_weighings f_gain f_gains f_sums f_weighed f_scale_of f_scales f_is_multiple f_plus f_by_rungs f_without f_shared_out f_put_row f_settle f_ladder f_accounted f_law_whole f_law_wholes f_law_is_nought f_law_weigh f_law_sum_good f_law_answer_good f_unmoved f_tells_apart f_law_refused f_law C_Net C_HallError C_Unlike:Addr} (X:K.In h) (G:h.Ns mainGlobals mg) (hfa:mg "law" = some (.ref fa))
  {d_law_mixed d_law_number d_law_door d_law_net d_law_gains d_law_behind d_law_tally d_law_bag d_is_name d_refuse_bad_names d_refuse_bad_bags d_law_made d_unit d_with_makings d_place_of_first d_times d_upright d_common_divisor d_measure d_lowered d_refuse_unlike d_less d_freed d_cleared d_weighing d_weighings d_gain d_gains d_sums d_weighed d_scale_of d_scales d_is_multiple d_plus d_by_rungs d_without d_shared_out d_put_row d_settle d_ladder d_accounted d_law_whole d_law_wholes d_law_is_nought d_law_weigh d_law_sum_good d_law_answer_good d_unmoved d_tells_apart d_law_refused d_law:FuncData}
  {od_Net_init an_Net_init:Option Addr} {sl_Net_init:Array (Option Value)} {oc_Net_init kV_Net_init dc_Net_init pm_Net_init cd_Net_init ct_Net_init:Value}
  {t_MOST_SIGNS:Tok}
  {t_MOST_BEADS:Tok}
  {t_LEAST_BOWLS:Tok}
  {t_MOST_BOWLS:Tok}
  {t_MOST_DOORS:Tok}
  (aC_Net:PySem.W.nsIn K mainGlobals "Net" = some (some (.ref C_Net)))
  (aC_HallError:PySem.W.nsIn K mainGlobals "HallError" = some (some (.ref C_HallError)))
  (aC_Unlike:PySem.W.nsIn K mainGlobals "Unlike" = some (some (.ref C_Unlike)))
  (h_law_mixed:Df K mg "_law_mixed" "_law_mixed" s_law_mixed f_law_mixed d_law_mixed ["script","k"])
  (h_law_number:Df K mg "_law_number" "_law_number" s_law_number f_law_number d_law_number ["script","k","kind"])
  (h_law_door:Df K mg "_law_door" "_law_door" s_law_door f_law_door d_law_door ["script","d","size","kind","ahead"])
  (h_law_net:Df K mg "_law_net" "_law_net" s_law_net f_law_net d_law_net ["script"])
  (h_law_gains:Df K mg "_law_gains" "_law_gains" s_law_gains f_law_gains d_law_gains ["parts"])
  (h_law_behind:Df K mg "_law_behind" "_law_behind" s_law_behind f_law_behind d_law_behind ["parts","tally"])
  (h_law_tally:Df K mg "_law_tally" "_law_tally" s_law_tally f_law_tally d_law_tally ["script","many"])
  (h_law_bag:Df K mg "_law_bag" "_law_bag" s_law_bag f_law_bag d_law_bag ["script","parts"])
  (h_is_name:Df K mg "is_name" "is_name" s_is_name f_is_name d_is_name ["word"])
  (h_refuse_bad_names:Df K mg "refuse_bad_names" "refuse_bad_names" s_refuse_bad_names f_refuse_bad_names d_refuse_bad_names ["names","least","most"])
  (h_refuse_bad_bags:Df K mg "refuse_bad_bags" "refuse_bad_bags" s_refuse_bad_bags f_refuse_bad_bags d_refuse_bad_bags ["bags","many","width"])
  (a_Net_init:PySem.W.findIn K (.ref C_Net) "__init__" = some (some (.ref f_Net_init)))
  (i_Net_init:PySem.W.isFn K (.ref f_Net_init)=true)
  (l_Net_init:K.lookup f_Net_init=some ⟨oc_Net_init,od_Net_init,.func (PySem.W.fnOf "__init__" "Net.__init__" (defArgs s_Net_init) (defBody s_Net_init) (defScope s_Net_init) .none kV_Net_init dc_Net_init pm_Net_init an_Net_init cd_Net_init ct_Net_init),sl_Net_init⟩)
  (c_Net_init:PySem.W.codeIn K cd_Net_init "Net.__init__" = true)
  (k_Net_init:PySem.W.keepIn K (.ref f_Net_init)=true)
  (h_law_made:Df K mg "_law_made" "_law_made" s_law_made f_law_made d_law_made ["parts"])
  (h_unit:Df K mg "unit" "unit" s_unit f_unit d_unit ["place","width"])
  (h_with_makings:Df K mg "with_makings" "with_makings" s_with_makings f_with_makings d_with_makings ["rows"])
  (h_place_of_first:Df K mg "place_of_first" "place_of_first" s_place_of_first f_place_of_first d_place_of_first ["rows","place"])
  (h_times:Df K mg "times" "times" s_times f_times d_times ["many","ones"])
  (h_upright:Df K mg "upright" "upright" s_upright f_upright d_upright ["row","place"])
  (h_common_divisor:Df K mg "common_divisor" "common_divisor" s_common_divisor f_common_divisor d_common_divisor ["one","other"])
  (h_measure:Df K mg "measure" "measure" s_measure f_measure d_measure ["ones"])
  (h_lowered:Df K mg "lowered" "lowered" s_lowered f_lowered d_lowered ["ones"])
  (h_refuse_unlike:Df K mg "refuse_unlike" "refuse_unlike" s_refuse_unlike f_refuse_unlike d_refuse_unlike ["ones","others"])
  (h_less:Df K mg "less" "less" s_less f_less d_less ["ones","others"])
  (h_freed:Df K mg "freed" "freed" s_freed f_freed d_freed ["row","line","place"])
  (h_cleared:Df K mg "cleared" "cleared" s_cleared f_cleared d_cleared ["rows","width"])
  (h_weighing:Df K mg "weighing" "weighing" s_weighing f_weighing d_weighing ["lines","width","place"])
  (h_weighings:Df K mg "weighings" "weighings" s_weighings f_weighings d_weighings ["rows","width"])
  (h_gain:Df K mg "gain" "gain" s_gain f_gain d_gain ["net","door"])
  (h_gains:Df K mg "gains" "gains" s_gains f_gains d_gains ["net"])
  (h_sums:Df K mg "sums" "sums" s_sums f_sums d_sums ["net"])
  (h_weighed:Df K mg "weighed" "weighed" s_weighed f_weighed d_weighed ["weights","ones"])
  (h_scale_of:Df K mg "scale_of" "scale_of" s_scale_of f_scale_of d_scale_of ["rungs","width","place"])
  (h_scales:Df K mg "scales" "scales" s_scales f_scales d_scales ["rungs","width"])
  (h_is_multiple:Df K mg "is_multiple" "is_multiple" s_is_multiple f_is_multiple d_is_multiple ["number","part"])
  (h_plus:Df K mg "plus" "plus" s_plus f_plus d_plus ["ones","others"])
  (h_by_rungs:Df K mg "by_rungs" "by_rungs" s_by_rungs f_by_rungs d_by_rungs ["rungs","changed","doors"])
  (h_without:Df K mg "without" "without" s_without f_without d_without ["row","rung","place"])
  (h_shared_out:Df K mg "shared_out" "shared_out" s_shared_out f_shared_out d_shared_out ["one","other","place"])
  (h_put_row:Df K mg "put_row" "put_row" s_put_row f_put_row d_put_row ["rungs","row","width"])
  (h_settle:Df K mg "settle" "settle" s_settle f_settle d_settle ["rungs"])
  (h_ladder:Df K mg "ladder" "ladder" s_ladder f_ladder d_ladder ["rows","width"])
  (h_accounted:Df K mg "accounted" "accounted" s_accounted f_accounted d_accounted ["net","bag"])
  (h_law_whole:Df K mg "_law_whole" "_law_whole" s_law_whole f_law_whole d_law_whole ["found"])
  (h_law_wholes:Df K mg "_law_wholes" "_law_wholes" s_law_wholes f_law_wholes d_law_wholes ["found","size"])
  (h_law_is_nought:Df K mg "_law_is_nought" "_law_is_nought" s_law_is_nought f_law_is_nought d_law_is_nought ["number","part"])
  (h_law_weigh:Df K mg "_law_weigh" "_law_weigh" s_law_weigh f_law_weigh d_law_weigh ["weights","ones"])
  (h_law_sum_good:Df K mg "_law_sum_good" "_law_sum_good" s_law_sum_good f_law_sum_good d_law_sum_good ["found","parts","gap","told"])
  (h_law_answer_good:Df K mg "_law_answer_good" "_law_answer_good" s_law_answer_good f_law_answer_good d_law_answer_good ["found","parts","bag","told"])
  (h_unmoved:Df K mg "unmoved" "unmoved" s_unmoved f_unmoved d_unmoved ["net","weights","part"])
  (h_tells_apart:Df K mg "tells_apart" "tells_apart" s_tells_apart f_tells_apart d_tells_apart ["net","weights","part","bag"])
  (h_law_refused:Df K mg "_law_refused" "_law_refused" s_law_refused f_law_refused d_law_refused ["net","bag"])
  (h_law:Df K mg "law" "law" s_law f_law d_law ["script"])
  (pg_Net:PySem.W.plainGet K C_Net Str.empty=true)
  (hd_Net:PySem.W.hasDictIn K C_Net=true)
  (po_Net:PySem.W.plainOver K C_Net=true)
  (sa_Net:PySem.W.findIn K (.ref C_Net) "__setattr__" = some (some (.builtin "object.__setattr__")))
  (mk_Net:PySem.W.makesIn K C_Net=true)
  (kc_Net:PySem.W.keepIn K (.ref C_Net)=true)
  (n_Net_bowls:PySem.W.findIn K (.ref C_Net) "bowls" = some none)
  (n_Net_doors:PySem.W.findIn K (.ref C_Net) "doors" = some none)
  (n_Net_takes:PySem.W.findIn K (.ref C_Net) "takes" = some none)
  (n_Net_gives:PySem.W.findIn K (.ref C_Net) "gives" = some none)
  (n_Net_first:PySem.W.findIn K (.ref C_Net) "first" = some none)
  (ec_HallError:ecIn K C_HallError excMro=true)
  (xp_HallError:((PySem.W.clsIn K C_HallError).map (·.ns)).bind (fun N=>PySem.W.nsIn K N "__init__")=some none)
  (ec_Unlike:ecIn K C_Unlike (.ref C_HallError::excMro)=true)
  (xp_Unlike:((PySem.W.clsIn K C_Unlike).map (·.ns)).bind (fun N=>PySem.W.nsIn K N "__init__")=some none)
  (xga_Unlike:PySem.W.findIn K (.ref C_Unlike) "__getattribute__" = some (some (.builtin "BaseException.__getattribute__")))
  (xgh_Unlike:PySem.W.findIn K (.ref C_Unlike) "__getattr__" = some none)
  (xca_Unlike:PySem.W.findIn K (.ref C_Unlike) "__class__" = some (some (.builtin "object.__class__")))
  (xcg_Unlike:PySem.W.specialIn K (.builtin "object.__class__") "__get__" = some (some (.builtin "getset_descriptor.__get__")))
  (xck_Unlike:PySem.W.takesIn K (.builtin "object.__class__")=some true)
  (g_MOST_SIGNS:PySem.W.nsIn K mainGlobals "MOST_SIGNS" = some (some (.int 8 t_MOST_SIGNS)))
  (g_MOST_BEADS:PySem.W.nsIn K mainGlobals "MOST_BEADS" = some (some (.int 1000000000 t_MOST_BEADS)))
  (g_LEAST_BOWLS:PySem.W.nsIn K mainGlobals "LEAST_BOWLS" = some (some (.int 1 t_LEAST_BOWLS)))
  (g_MOST_BOWLS:PySem.W.nsIn K mainGlobals "MOST_BOWLS" = some (some (.int 6 t_MOST_BOWLS)))
  (g_MOST_DOORS:PySem.W.nsIn K mainGlobals "MOST_DOORS" = some (some (.int 8 t_MOST_DOORS)))
  (z_len:PySem.W.nsIn K mainGlobals "len" = some none)
  (z_range:PySem.W.nsIn K mainGlobals "range" = some none)
  (z_min:PySem.W.nsIn K mainGlobals "min" = some none)
  (z_list:PySem.W.nsIn K mainGlobals "list" = some none)
  (z_all:PySem.W.nsIn K mainGlobals "all" = some none)
  (z_set:PySem.W.nsIn K mainGlobals "set" = some none)
  (z_enumerate:PySem.W.nsIn K mainGlobals "enumerate" = some none)
  (z_abs:PySem.W.nsIn K mainGlobals "abs" = some none)
  (z_zip:PySem.W.nsIn K mainGlobals "zip" = some none)
  (z_sum:PySem.W.nsIn K mainGlobals "sum" = some none)
  (z_reversed:PySem.W.nsIn K mainGlobals "reversed" = some none)
  (z_sorted:PySem.W.nsIn K mainGlobals "sorted" = some none)
  (z_isinstance:PySem.W.nsIn K mainGlobals "isinstance" = some none)
  (z_int:PySem.W.nsIn K mainGlobals "int" = some none)
  (z_bool:PySem.W.nsIn K mainGlobals "bool" = some none)
  (z_tuple:PySem.W.nsIn K mainGlobals "tuple" = some none)
  (z_str:PySem.W.nsIn K mainGlobals "str" = some none)
  (z_ValueError:PySem.W.nsIn K mainGlobals "ValueError" = some none)
  (hb:∀ (s:Shared) (v:Value),BindsTo s d_law ⟨[v],[]⟩ [("script",v)])
  : ∃ fd:FuncData,(∀ (s:Shared) (v:Value),BindsTo s fd ⟨[v],[]⟩ [("script",v)])∧∀ base:Heap,K.In base→base.Ns mainGlobals mg→FnOk l.prog w K mg base CX0 10 fa fd ["script"] (sp_law K):=by
 have e:=hfa.symm.trans h_law.m
 cases e
 have F_Net_init:=fun_mk (st:=s_Net_init) l_Net_init c_Net_init k_Net_init
 have b_Net_init:=F_Net_init.binds (ps:=["self","bowls","doors","takes","gives","first"]) fun _ _ _ _ _ _ us hl=>by obtain ⟨_,_,_,_,_,_,rfl⟩:=ex_6 hl; rfl
 have T:Txt K mg (Adr.mk _ _ _ _ _ _ _ _ _ _ _ _ _ _ _ _ _ _ _ _ _ _ _ _ _ _ _ _ _ _ _ _ _ _ _ _ _ _ _ _ _ _ _ _ _ _ _ _ _ _ _ _ _ _ _) (Fds.mk _ _ _ _ _ _ _ _ _ _ _ _ _ _ _ _ _ _ _ _ _ _ _ _ _ _ _ _ _ _ _ _ _ _ _ _ _ _ _ _ _ _ _ _ _ _ _ _ _ _ _ _):=⟨h_law_mixed,h_law_number,h_law_door,h_law_net,h_law_gains,h_law_behind,h_law_tally,h_law_bag,h_is_name,h_refuse_bad_names,h_refuse_bad_bags,F_Net_init,b_Net_init,h_law_made,h_unit,h_with_makings,h_place_of_first,h_times,h_upright,h_common_divisor,h_measure,h_lowered,h_refuse_unlike,h_less,h_freed,h_cleared,h_weighing,h_weighings,h_gain,h_gains,h_sums,h_weighed,h_scale_of,h_scales,h_is_multiple,h_plus,h_by_rungs,h_without,h_shared_out,h_put_row,h_settle,h_ladder,h_accounted,h_law_whole,h_law_wholes,h_law_is_nought,h_law_weigh,h_law_sum_good,h_law_answer_good,h_unmoved,h_tells_apart,h_law_refused,h_law,PySem.W.mg_none_of X G z_len,PySem.W.mg_none_of X G z_range,PySem.W.mg_none_of X G z_min,PySem.W.mg_none_of X G z_list,PySem.W.mg_none_of X G z_all,PySem.W.mg_none_of X G z_set,PySem.W.mg_none_of X G z_enumerate,PySem.W.mg_none_of X G z_abs,PySem.W.mg_none_of X G z_zip,PySem.W.mg_none_of X G z_sum,PySem.W.mg_none_of X G z_reversed,PySem.W.mg_none_of X G z_sorted,PySem.W.mg_none_of X G z_isinstance,PySem.W.mg_none_of X G z_int,PySem.W.mg_none_of X G z_bool,PySem.W.mg_none_of X G z_tuple,PySem.W.mg_none_of X G z_str,PySem.W.mg_none_of X G z_ValueError,⟨pg_Net,hd_Net,po_Net,sa_Net⟩,PySem.W.mg_of X G aC_Net,⟨mk_Net,a_Net_init,i_Net_init,kc_Net⟩,n_Net_bowls,n_Net_doors,n_Net_takes,n_Net_gives,n_Net_first,PySem.W.mg_of X G aC_HallError,ec_HallError,⟨ec_HallError,xp_HallError⟩,PySem.W.mg_of X G aC_Unlike,ec_Unlike,⟨ec_cls ec_Unlike,xga_Unlike,xgh_Unlike,(ec_mro ec_Unlike _).trans rfl,(ec_mro ec_Unlike _).trans rfl,xca_Unlike,xcg_Unlike,xck_Unlike⟩,⟨ec_Unlike,xp_Unlike⟩,⟨_,PySem.W.mg_of X G g_MOST_SIGNS⟩,⟨_,PySem.W.mg_of X G g_MOST_BEADS⟩,⟨_,PySem.W.mg_of X G g_LEAST_BOWLS⟩,⟨_,PySem.W.mg_of X G g_MOST_BOWLS⟩,⟨_,PySem.W.mg_of X G g_MOST_DOORS⟩⟩
 exact ⟨d_law,hb,fun base _ _=>ok_law T⟩
theorem walk {l:PySem.W.OpenLaw} {q:Program} {loose:List Str} {XP:(Str→Option Value)→Heap→Prop} {YP:World→Heap→Prop} {d:DefRec} {K:Params→PySem.W.Frag} (hn:l.most=some 63) (hdf:d.params.defaults=[])
  (hY:∀ (w:World) (h:Heap),YP w h→(K w.params).In h)
  (F:∀ (w:World) (mg:Str→Option Value) (fa:Addr) (h:Heap),(K w.params).In h→h.Ns mainGlobals mg→mg d.name=some (.ref fa) →
   ∃ fd:FuncData,(∀ (s:Shared) (u:Value),BindsTo s fd ⟨[u],[]⟩ [("script",u)])∧∀ base:Heap,(K w.params).In base→base.Ns mainGlobals mg→FnOk l.prog w (K w.params) mg base CX0 10 fa fd ["script"] (sp_law (K w.params))) :
  PySem.W.WalkO q loose XP YP l.row.toRowW d [] (fun f vs=>PySem.call f vs) :=
 L2.walk_of (n:=63) (k:=10) (x:="script") (CX:=fun _=>CX0) (sp:=fun w=>sp_law (K w.params)) hn (by decide) hdf ⟨rfl,by decide,by decide⟩ hY F (fun _ _ a ns hl _ hS=>⟨a,ns,rfl,hS,hl,fun _=>rfl⟩) fun _ _ _ _ _ z=>z
theorem walkX_of {q:Program} {loose:List Str} {XP:(Str→Option Value)→Heap→Prop} {α:Type} {Yf:Shared→α} {Ya:World→α} {r:PySem.W.RowW} {d:DefRec} {kwd:List (Str×Expr)} {run:Value→List Value→Sem Value} {YP:World→Heap→Prop}
  (hY:∀ (w:World) (s₀ s₁:Shared) (args:List PySem.W.WData) (vals:List Value) (as:List Addr),Yf s₀=Ya w→PySem.W.Laid r.records w s₀ s₁ args vals as→YP w s₁.heap) (h:PySem.W.WalkO q loose XP YP r d kwd run):PySem.W.WalkX q loose XP Yf Ya r d kwd run :=
 fun w s₀ s₁ mg mb G Y a o pm cd doc dV kV h2 h3 h4 h5 h6 hg args vals as L hpre hlay hrd hwl hlo=>h w s₀ s₁ mg mb G (hY w s₀ s₁ args vals as Y L) a o pm cd doc dV kV h2 h3 h4 h5 h6 hg args vals as hpre hlay hrd hwl hlo
end Law
open PySem PySem.W PyProof.Rows
set_option maxRecDepth 100000 in
set_option maxHeartbeats 0 in
theorem PySem.Challenge.cw_beadhall_k39_whole_account_holds : PySem.Challenge.rw_beadhall_k39_whole_account.Holds := by
 w_on; o_law; z_head; (case hw=>w_witness2)
 k_fill
 refine Law.walkX_of (fun w s₀ s₁ args vals as Y L=>PySem.W.InK.keeps w s₀.heap s₁.heap (PySem.W.X.z_facts (by intro P; kernel_rfl) Y).2.1 L.keeps) (Law.walk (l:=PySem.Challenge.rw_beadhall_k39_whole_account) rfl rfl (fun w h Y=>Y) ?F)
 case F =>
  intro w mg fa h KX G hmg
  refine' Law.all_mk KX G hmg ?_ ?_ ?_ ?_ ?_ ?_ ?_ ?_ ?_ ?_ ?_ ?_ ?_ ?_ ?_ ?_ ?_ ?_ ?_ ?_ ?_ ?_ ?_ ?_ ?_ ?_ ?_ ?_ ?_ ?_ ?_ ?_ ?_ ?_ ?_ ?_ ?_ ?_ ?_ ?_ ?_ ?_ ?_ ?_ ?_ ?_ ?_ ?_ ?_ ?_ ?_ ?_ ?_ ?_ ?_ ?_ ?_ ?_ ?_ ?_ ?_ ?_ ?_ ?_ ?_ ?_ ?_ ?_ ?_ ?_ ?ec_HallError ?xp_HallError ?ec_Unlike ?xp_Unlike ?_ ?_ ?_ ?_ ?_ ?_ ?_ ?_ ?_ ?_ ?_ ?_ ?_ ?_ ?_ ?_ ?_ ?_ ?_ ?_ ?_ ?_ ?_ ?_ ?_ ?_ ?_ ?_ ?hb
  all_goals try (first | exact L2.df_mk KX G (by k_is) (by k_is) (by k_is) (by k_is) (by first | exact L2.bnd_1 fun _=>rfl | exact L2.bnd_2 fun _ _=>rfl | exact L2.bnd_3 fun _ _ _=>rfl | exact L2.bnd_4 fun _ _ _ _=>rfl | exact L2.bnd_5 fun _ _ _ _ _=>rfl | exact L2.bnd_6 fun _ _ _ _ _ _=>rfl | exact L2.bnd_7 fun _ _ _ _ _ _ _=>rfl | exact L2.bnd_0 rfl) | k_is | with_reducible rfl)
  try (case ec_HallError=>kernel_rfl)
  try (case xp_HallError=>kernel_rfl)
  try (case ec_Unlike=>kernel_rfl)
  try (case xp_Unlike=>kernel_rfl)
  exact fun s v=>.of_eq rfl
