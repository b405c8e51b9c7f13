import PyProof.Rows.All
import Wide.All
import OpenK.AllK
import Wide.FinOn
import Lean
import PyProof.EqAt
import PyProof.EqKinds
import PyProof.TupleCall
import OpenK.ZGo
import PySem.Challenge.RW_beadhall_k97_papers_written
set_option Elab.async false
set_option linter.all false
set_option maxRecDepth 100000
open Array renaming all_toList→ahw,getElem?_eq_getElem→Ge,getElem?_toList→ait,length_toList→gE,map_push→aiy,mem_toList_iff→aiE,size_map→aiH,toArray_toList→Gz,toList_append→Sj,toList_inj→GB,toList_map→RA,toList_push→RD
open Bool renaming and_eq_true→de,and_false→wI,and_true→ahL,eq_false_iff→RJ,eq_iff_iff→j2,false_and→o_,false_eq_true→RN,false_ne_true→eo,not_eq_true'→Gf,or_eq_true→ah9,or_true→aic,true_and→uk
open Int renaming emod_lt_of_pos→j4,emod_nonneg→kU,eq_ofNat_of_zero_le→jA,le_trans→Gp,lt_of_lt_of_le→rg,natAbs_neg→ais,natAbs_of_nonneg→R0,toNat_natCast→dz,zero_add→rh
open Int.ofNat renaming inj→R5
open List renaming all_cons→wM,all_eq_true→e_,all_map→Gr,any_cons→Gs,any_eq_false→aiv,any_eq_true→B5,any_map→aiw,append_assoc→kW,append_nil→eY,cons_append→aix,cons_ne_nil→aiz,contains_cons→Sa,contains_iff_mem→aiA,drop_eq_getElem_cons→Sb,drop_eq_nil_of_le→aiB,drop_zero→Sd,eq_nil_of_length_eq_zero→Se,filterMap_cons→Gu,filter_append→aiC,find?_cons→aiD,flatMap_cons→Gv,flatMap_def→j6,flatten_append→Gw,flatten_cons→wN,getD_eq_getElem?_getD→gF,getElem?_append_left→Sf,getElem?_append_right→Sg,getElem?_drop→aiF,getElem?_eq_getElem→cw,getElem?_eq_none→aiG,getElem?_eq_some_iff→iM,getElem?_map→eu,getElem?_replicate→Sh,getElem?_set_ne→Gx,getElem?_set_self→Gy,getElem?_toArray→aiI,getElem_inj→aiJ,getElem_mem→pA,getElem_toArray→aiK,head?_cons→aiL,length→ri,length_append→bS,length_cons→bF,length_drop→lY,length_eq_zero_iff→GA,length_filter_le→Si,length_map→aH,length_nil→aiM,length_range→g_,length_replicate→iN,length_singleton→ur,length_tail→aiN,length_take→lZ,lookup→l4,lookup_append→Sk,lookup_cons→wO,map_append→dX,map_congr_left→aiO,map_cons→jc,map_eq_nil_iff→uu,map_id→kQ,map_map→ek,map_nil→ahx,mem_append→dH,mem_append_left→kR,mem_append_right→eG,mem_cons→bE,mem_cons_of_mem→cP,mem_cons_self→cB,mem_filter→oW,mem_filterMap→RC,mem_flatMap→BV,mem_iff_getElem→F3,mem_map→bR,mem_nil_iff→qV,mem_of_getElem?→kS,mem_of_mem_drop→ahy,mem_of_mem_take→ahz,mem_range→iq,mem_replicate→F4,mem_singleton→dc,nil_append→ahA,nodup_append→ahB,nodup_cons→F7,nodup_range→ahC,not_mem_nil→F8,of_mem_zip→RE,pairwise_append→ahD,pairwise_iff_getElem→ahE,pairwise_lt_range→RF,pairwise_map→ahF,range→bJ,range_succ→BW,replicate→zalias133z,replicate_succ→ahG,size_toArray→df,sum_cons→ahH,take_add_one→oX,take_append_drop→ahI,take_length→oY,take_of_length_le→ahJ,take_sublist→RG,toList_toArray→RH
open List.Pairwise renaming filter→ajW,imp_of_mem→ajX,map→aiu,nil→R9
open List.Perm renaming refl→R_
open List.cons renaming inj→B6
open Nat renaming add_sub_cancel'→ahK,le_of_ble_eq_true→fk,le_of_lt→ud,le_of_not_lt→BX,le_of_succ_le→qW,le_refl→bH,le_succ→lU,le_trans→b_,lt_irrefl→gg,lt_of_le_of_lt→F9,lt_of_lt_of_le→dI,lt_of_not_le→ahM,lt_or_eq_of_le→ahN,lt_or_ge→RI,lt_succ_iff_lt_or_eq→ahO,lt_succ_of_lt→BY,lt_succ_self→oZ,lt_trans→RK,lt_trichotomy→ahP,ne_of_gt→ue,ne_of_lt→cQ,not_lt→RL,not_lt_zero→ahQ,pow_le_pow_right→F_,succ_le_succ→ahS,succ_mul→Ga,toDigits→BZ,zero_le→dy
open Nat.succ renaming inj→ahR
open Option renaming getD_some→RM,isSome_iff_exists→Gb,map→ahT,map_some→fm,none→ahU,toList_some→uf
open Option.some renaming inj→a6
open Or renaming inl→qX,inr→lV
open PyProof.Rows renaming callWith_builtin1→ahV,callWith_type1→ahW,signs_ofString→ahX
open PyProof.Rows.F renaming entry_set_update_loop→Gd,plain_set_update_loop→ug
open PySem renaming KeyKind→RP,Within→Gq,call→RZ,frameOf→aip,intText?→aiq,mem_of_lookup→gD,stack→air
open PySem.Challenge renaming pw_beadhall_k97_papers_written→ajK,rw_beadhall_k97_papers_written→ajL
open PySem.EqMixed renaming eq_bool_str→ajM,eq_int_str→ajN,eq_str_bool→ajO,eq_str_int→ajP,ne_bool_str→ajQ,ne_int_str→ajR,ne_str_bool→ajS,ne_str_int→ajT
open PySem.F renaming attr_ValueError→ahY,called_set→iL,entry_set_init→ahZ,entry_type_call→ah0,excBase_ValueError→wJ,plainAttrs_list→ph,plainAttrs_str→lW,plain_set_new→ah1,slot_list_append→uh,slot_set_iter→ah2,slot_str_join→qY,slot_str_startswith→ah3,sub_list_frozenset→ah4,sub_list_set→ah5,typeCall_set_1→ah6,type_list_append→ui,type_str_join→qZ,type_str_startswith→ah7
open PySem.Heap renaming FlyingW→q_,SameBut→ra,get?_none_of_le→RO,get?_push_of_some→cJ,get?_push_size→fN,get?_update_ne→aia,get?_update_other→Gg,get?_update_self→uj,lt_size→bQ,size_push→j3
open PySem.Heap.IsSliceOf renaming new→ajU
open PySem.Heap.Ns1 renaming of_empty→ah8
open PySem.Heap.SameBut renaming update→B0
open PySem.Str renaming cps_append→aib,empty→ay,join→fo,length→B1,length_append→fO,ofString→zalias233z
open PySem.Value renaming bool→wK,builtin→Gh,bytes→aid,float→RQ,int→wL,isInt→Gi,isInt_shape→RS,isStrOf→aie,none→pj,ref→bM,str→B2,type→um
open PySem.W renaming Frag→aj,OpenLaw→RT,WalkO→RU,callWith_K→B3,cellsFrom_some→Gj,clsIn→uo,codeIn→uq,emptyDict→pk,findIn→eg,fnOf→kT,handedIn→aif,hasDictIn→pq,hideAll→px,hideAll_get→aih,hideAll_none→aii,instObj→rb,isFn→Gk,keepIn→jz,kia_one→lX,kitAny→aij,kitOne→pz,kitx_dict→aik,kitx_list→ail,lookIn→RV,makesIn→Gm,methodObj→RW,mg_none_of→j5,mg_of→fq,notCls→aim,nsIn→cC,of_hideAll→ain,plainGet→B4,plainOver→Gn,specialIn→RX,takerIn→RY,takesIn→aio
open PySem.W.Looks renaming here→ajV
namespace L2
open PySem PySem.Spec PyProof.Rows
abbrev Key:=Sum Int Str
def AH:Key->Value->Bool
 | .inl k,v=>Gi k v
 | .inr x,v=>aie x v
def cj(w:World):Key->Int
 | .inl k=>hashInt k
 | .inr x=>hashStr w x
theorem mG:∀{k:Key} {v:Value},AH k v=true->(∃i t,k=Sum.inl i/\v=wL i t)\/(∃x t,k=Sum.inr x/\v=B2 x t)
 | .inl i,v,h=>by
  obtain⟨t,e⟩:=RS (k:=i) (v:=v) h;exact .inl ⟨i,t,rfl,e⟩
 | .inr x,v,h=>by
  obtain⟨t,e⟩:=Value.isStrOf_shape (x:=x) (v:=v) h;exact .inr ⟨x,t,rfl,e⟩
theorem Kq(x:Str)(t:Tok):AH (.inr x) (.str x t)=true:=by simp[AH,aie]
theorem Z9(a b:Int):decide ((Sum.inl a:Key)=Sum.inl b)=(a==b):=by
 by_cases e:a=b
 ·subst e;simp
 ·have h:¬ (Sum.inl a:Key)=Sum.inl b:=λq=>e (Sum.inl.inj q)
  rw[decide_eq_false h];exact(beq_eq_false_iff_ne.mpr e).symm
theorem aab(a b:Str):decide ((Sum.inr a:Key)=Sum.inr b)=decide (a=b):=by
 by_cases e:a=b
 ·subst e;simp
 ·have h:¬ (Sum.inr a:Key)=Sum.inr b:=λq=>e (Sum.inr.inj q)
  rw[decide_eq_false h,decide_eq_false e]
theorem Z_(a:Int)(b:Str):decide ((Sum.inl a:Key)=Sum.inr b)=false:=decide_eq_false (λq=>nomatch q)
theorem aaa(a:Str)(b:Int):decide ((Sum.inr a:Key)=Sum.inl b)=false:=decide_eq_false (λq=>nomatch q)
def mI(prog:Program)(w:World):RP prog w Key where
 is:=AH
 hash:=cj w
 inj:=λv a b ha hb=>by
  rcases mG ha with ⟨i,t,rfl,rfl⟩|⟨x,t,rfl,rfl⟩
  ·rcases mG hb with ⟨j,u,rfl,e⟩|⟨y,u,rfl,e⟩
   ·injection e with e1 _;rw[e1]
   ·exact nomatch e
  ·rcases mG hb with ⟨j,u,rfl,e⟩|⟨y,u,rfl,e⟩
   ·exact nomatch e
   ·injection e with e1 _;rw[e1]
 byValue:=λk v h=>by
  rcases mG h with ⟨i,t,rfl,rfl⟩|⟨x,t,rfl,rfl⟩<;>rfl
 pyHash:=λhv h=>by
  rcases mG hv with ⟨i,t,rfl,rfl⟩|⟨x,t,rfl,rfl⟩
  ·exact wpAny_pyHash_int h
  ·exact wpAny_pyHash_str h
 eqBool:=λhu hv h=>by
  rcases mG hu with ⟨i,t,rfl,rfl⟩|⟨x,t,rfl,rfl⟩
  ·rcases mG hv with ⟨j,u,rfl,rfl⟩|⟨y,u,rfl,rfl⟩
   ·rw[Z9] at h;exact wpAny_eqBool_int h
   ·rw[Z_] at h;exact SeqAt.EqAt.int_str i t y u _ _ _ _ h
  ·rcases mG hv with ⟨j,u,rfl,rfl⟩|⟨y,u,rfl,rfl⟩
   ·rw[aaa] at h;exact SeqAt.EqAt.str_int x t j u _ _ _ _ h
   ·rw[aab] at h;exact wpAny_eqBool_str h
 «strs» := λk x t v h=>by
  rcases mG h with ⟨i,u,rfl,e⟩|⟨y,u,rfl,e⟩
  ·exact nomatch e
  ·injection e with e1 _
   subst e1
   cases v<;>rfl
theorem DT(prog:Program)(w:World)(x:Str)(t:Tok):(mI prog w).is (.inr x) (.str x t)=true:=Kq x t
inductive V where
 | aR|bl (b:Bool)|int (i:Int)|str (x:Str)|iX (b:Array UInt8)|pV (b:UInt64)|ref (a:Addr)|ty (n:String)
 deriving DecidableEq
def RelV:V->Value->Prop
 | .aR,u=>u=pj
 | .bl b,u=>u=wK b
 | .int i,u=>∃t,u=wL i t
 | .str x,u=>∃t,u=B2 x t
 | .iX b,u=>∃t,u=aid b t
 | .pV b,u=>∃t,u=RQ b t
 | .ref a,u=>u=bM a
 | .ty n,u=>u=um n
abbrev Vals:List V->List Value->Prop:=Paired RelV
theorem Vals.length{xs:List V}{us:List Value}(r:Vals xs us):xs.length=us.length:=Paired.length r
theorem Vals.get:∀{xs:List V} {us:List Value} {i:Nat} {x:V},Vals xs us->xs[i]?=some x->∃u,us[i]?=some u/\RelV x u
 | _,_,_,_,.nil,e=>by simp at e
 | _,_,0,_,.cons r _,e=>by simp at e;subst e;exact⟨_,rfl,r⟩
 | _,_,i+1,x,.cons _ t,e=>by
  obtain⟨u,h1,h2⟩:=Vals.get (i:=i) (x:=x) t (by simpa using e)
  exact⟨u,by simpa using h1,h2⟩
theorem Vals.append:∀{xs ys:List V} {us ws:List Value},Vals xs us->Vals ys ws->Vals (xs++ys) (us++ws)
 | _,_,_,_,.nil,s=>s
 | _,_,_,_,.cons r t,s=>.cons r (Vals.append t s)
def pD:Option V->Option Value->Prop
 | some v,some u=>RelV v u
 | none,none=>True
 | _,_=>False
def KV{κ:Type}:List (κ×V)->List (κ×Value)->Prop:=Paired λ(p:κ×V) (q:κ×Value)=>p.1=q.1/\RelV p.2 q.2
def kV:Key->V
 | .inl i=>.int i
 | .inr x=>.str x
inductive HO where
 | lst (xs:List V)
 | tup (xs:List V)
 | dK (cE:List (Key×V))|dT (cE:List (List Key×V))
 | set (S:Int->Bool) (n:Nat)
 | ins (C dx:Addr) (fs:List (Str×V))
 | own (x:Addr)
 | xd (fs:List (Str×V))
 | met (f x:Addr)
 | Bi (lo hi:Int)
 | iF (o:Obj) (u:HO)
 | oT (ps:Array Value)
 | ext (φ:Heap->Prop)
abbrev Hp:=Addr->Option HO
def upd(H:Hp)(a:Addr)(o:HO):Hp:=λb=>if b=a then some o else H b
theorem aA{H:Hp}{a:Addr}{o:HO}:upd H a o a=some o:=by unfold upd;rw[if_pos rfl]
theorem bg{H:Hp}{a b:Addr}{o:HO}(h:b≠a):upd H a o b=H b:=by unfold upd;rw[if_neg h]
theorem D3{H:Hp}{a b:Addr}{o u:HO}(h:H a=some o)(h':H b=some u)(d:o≠u):a≠b:=by
 intro e;subst e;rw[h] at h';exact d (a6 h')
theorem e6{H:Hp}{a b:Addr}{o:HO}(h:H a=some o)(h':H b=none):a≠b:=by
 intro e;subst e;rw[h] at h';cases h'
section
variable(P:Program)(w:World)
def dN(H:Hp)(h:Heap)(a:Addr):HO->Prop
 | .lst xs=>xs.length<=sizeLine/\∃(ao:List Value) (n:Nat),Vals xs ao/\h.get? a=some { cls:=.type "list",data:=.seq ao.toArray n }
 | .tup xs=>xs.length<=sizeLine/\∃ao:List Value,Vals xs ao/\IsTup h a ao.toArray
 | .dK cE=>cE.length<=sizeLine/\(a==sysModules)=false/\∃vs,KV cE vs/\h.DictOf (mI P w) a vs
 | .dT cE=>cE.length<=sizeLine/\(a==sysModules)=false/\∃xs:List (List Key×Addr×Value),
   Paired (λ(p:List Key×V) (q:List Key×Addr×Value)=>p.1=q.1/\H q.2.1=some (.tup (p.1.map kV))/\RelV p.2 q.2.2) cE xs /\
   ∃o es ep,h.get? a=some o/\o.ExactDict/\o.data=.dict es ep/\es.toList=xs.map (entryOfKey (tupleKind (mI P w)))/\(xs.map (·.1)).Nodup
 | .set S n=>h.SetOf (intKind P w) a S n
 | .ins C dx fs=>H dx=some (.own a)/\fs.length<=1000/\dx≠a/\h.get? a=some (rb C dx) /\
   ∃mA,h.Ns1 dx mA/\(∀f,pD (fs.lookup f) (mA f))/\Gq mA (fs.map (·.1))
 | .own _=>∃o,h.get? a=some o
 | .xd fs=>∃mA,h.Ns1 a mA/\∀f,pD (fs.lookup f) (mA f)
 | .Bi lo hi=>∃t u v,h.get? a=some { cls:=.type "range",data:=.fields #[.int lo t,.int hi u,.int 1 v] }
 | .iF o u=>h.get? a=some o/\dN H h a u
 | .oT ps=>h.get? a=some { cls:=.none,data:=.fields ps }
 | .met f x=>h.get? a=some (RW (.ref f) (.ref x))
 | .ext φ=>φ h/\(∃o,h.get? a=some o)/\∀h1 h2:Heap,φ h1->(∀o,h1.get? a=some o->h2.get? a=some o)->φ h2
def dM(H:Hp)(h:Heap):Prop:=∀a o,H a=some o->dN P w H h a o
end
section
variable{P:Program}{w:World}{H H':Hp}{h h':Heap}{a:Addr}{o:HO}
theorem dN.lt(x:dN P w H h a o):a<h.objs.size:=by
 cases o with
 | lst xs=>obtain⟨_,_,_,_,e⟩:=x;exact bQ e
 | tup xs=>obtain⟨_,_,_,p⟩:=x;exact p.lt
 | dK cE=>obtain⟨_,_,_,_,o,_,_,e,_⟩:=x;exact bQ e
 | dT cE=>obtain⟨_,_,_,_,o,_,_,e,_⟩:=x;exact bQ e
 | set S n=>obtain⟨o,_,_,_,e,_⟩:=x;exact bQ e
 | ins C dx fs=>obtain⟨_,_,_,e,_⟩:=x;exact bQ e
 | own y=>obtain⟨_,e⟩:=x;exact bQ e
 | xd fs=>obtain⟨_,⟨_,_,_,e,_⟩,_⟩:=x;exact bQ e
 | Bi lo hi=>obtain⟨_,_,_,e⟩:=x;exact bQ e
 | iF ob u=>obtain⟨e,_⟩:=x;exact bQ e
 | oT ps=>exact bQ (show h.get? a=some _ from x)
 | met f y=>exact bQ (show h.get? a=some _ from x)
 | ext φ=>obtain⟨_,⟨_,e⟩,_⟩:=x;exact bQ e
theorem Paired.eZ{α β:Type}{F G:α->β->Prop}:∀{vF:List α} {vG:List β},Paired F vF vG->(∀a b,F a b->G a b)->Paired G vF vG
 | _,_,.nil,_=>.nil
 | _,_,.cons r t,f=>.cons (f _ _ r) (Paired.eZ t f)
theorem dN.kN(x:dN P w H h a o)(k:∀b u,(b=a\/H b=some (.own a))->h.get? b=some u->h'.get? b=some u)
  (ho:∀b,H b=some (.own a)->H' b=some (.own a)) (ht:∀b xs,H b=some (.tup xs)->H' b=some (.tup xs)):dN P w H' h' a o:=by
 induction o with
 | lst xs=>obtain⟨z,ao,n,r,e⟩:=x;exact⟨z,ao,n,r,k _ _ (.inl rfl) e⟩
 | tup xs=>obtain⟨z,ao,r,ob,e,c⟩:=x;exact⟨z,ao,r,ob,k _ _ (.inl rfl) e,c⟩
 | dK cE=>obtain⟨z,y,vs,r,ob,es,ep,e,c⟩:=x;exact⟨z,y,vs,r,ob,es,ep,k _ _ (.inl rfl) e,c⟩
 | dT cE =>
  obtain⟨z,y,xs,r,ob,es,ep,e,c⟩:=x;exact⟨z,y,xs,Paired.eZ r λp q z=>⟨z.1,ht _ _ z.2.1,z.2.2⟩,ob,es,ep,k _ _ (.inl rfl) e,c⟩
 | set S n=>obtain⟨ob,es,ep,t,e,c⟩:=x;exact⟨ob,es,ep,t,k _ _ (.inl rfl) e,c⟩
 | ins C dx fs =>
  obtain⟨d,z,ne,e,mA,⟨od,es,ep,e2,c⟩,r⟩:=x;exact⟨ho _ d,z,ne,k _ _ (.inl rfl) e,mA,⟨od,es,ep,k _ _ (.inr d) e2,c⟩,r⟩
 | own y=>obtain⟨ob,e⟩:=x;exact⟨ob,k _ _ (.inl rfl) e⟩
 | xd fs=>obtain⟨mA,⟨od,es,ep,e,c⟩,r⟩:=x;exact⟨mA,⟨od,es,ep,k _ _ (.inl rfl) e,c⟩,r⟩
 | Bi lo hi=>obtain⟨t,u,v,e⟩:=x;exact⟨t,u,v,k _ _ (.inl rfl) e⟩
 | iF ob u ih=>obtain⟨e,q⟩:=x;exact⟨k _ _ (.inl rfl) e,ih q⟩
 | oT ps =>
  have e:h.get? a=some { cls:=.none,data:=.fields ps }:=x;show h'.get? a=some { cls:=.none,data:=.fields ps };exact k a _ (.inl rfl) e
 | met f y =>
  have e:h.get? a=some (RW (.ref f) (.ref y)):=x;show h'.get? a=some (RW (.ref f) (.ref y));exact k a _ (.inl rfl) e
 | ext φ=>obtain⟨p,⟨o,e⟩,st⟩:=x;exact⟨st _ _ p λo q=>k _ _ (.inl rfl) q,⟨o,k _ _ (.inl rfl) e⟩,st⟩
theorem dM.lt(x:dM P w H h)(e:H a=some o):a<h.objs.size:=(x a o e).lt
theorem dM.fresh(x:dM P w H h)(e:h.objs.size<=a):H a=none:=by
 cases q:H a with
 | none=>rfl
 | some u=>exact absurd (dI (x.lt q) e) (gg _)
theorem dM.kept(x:dM P w H h)(k:∀b u,h.get? b=some u->h'.get? b=some u):dM P w H h':=λa o e =>
 (x a o e).kN (λb u _ q=>k b u q) (λ_ q=>q) λ_ _ q=>q
theorem dM.laid(x:dM P w H h)(k:∀b u,h.get? b=some u->h'.get? b=some u)(hp:h.objs.size<=a)(new:dN P w (upd H a o) h' a o):dM P w (upd H a o) h':=λb u e=>by
 have hn:=x.fresh hp;by_cases hb:b=a
 ·subst hb;rw[aA] at e;cases e;exact new
 ·rw[bg hb] at e
  exact(x b u e).kN (λc v _ q=>k c v q) (λc q=>by rw[bg (e6 q hn)];exact q) λc xs q=>by rw[bg (e6 q hn)];exact q
end
def Rd(H:Hp)(a:Addr)(u:HO):Prop:=H a=some u\/∃o,H a=some (.iF o u)
theorem Rd.ok{P:Program}{w:World}{H:Hp}{h:Heap}{a:Addr}{u:HO}(r:Rd H a u)(x:dM P w H h):dN P w H h a u:=by
 rcases r with r|⟨o,r⟩
 ·exact x a u r
 ·obtain⟨_,q⟩:=x a _ r
  exact q
def wY:Option HO->Prop
 | some (.lst _)=>True
 | some (.dK _)=>True
 | some (.dT _)=>True
 | some (.set _ _)=>True
 | some (.ins _ _ _)=>True
 | some (.ext _)=>True
 | _=>False
section
variable{P:Program}{w:World}{H:Hp}{h h':Heap}{x e:Addr}{o':HO}
theorem dM.write(ok:dM P w H h)(mu:wY (H x))(he:e=x\/H e=some (.own x))(k:∀b u,b≠e->h.get? b=some u->h'.get? b=some u)(sT:∃u,h'.get? e=some u)
  (new:dN P w (upd H x o') h' x o'):dM P w (upd H x o') h':=λb u q=>by
 have K1:∀c y,H c=some (.own y)->c≠x:=λc y r z=>by subst z;rw[r] at mu;exact mu
 have abq:∀c xs,H c=some (.tup xs)->c≠x:=λc xs r z=>by subst z;rw[r] at mu;exact mu
 by_cases hb:b=x
 ·subst hb;rw[aA] at q;cases q;exact new
 ·rw[bg hb] at q
  by_cases p_:b=e
  ·have q':H b=some (.own x):=by
    rcases he with z|z
    ·exact absurd (p_.trans z) hb
    ·rw[p_];exact z
   rw[q] at q';cases q';obtain⟨v,hv⟩:=sT;exact⟨v,by rw[p_];exact hv⟩
  ·refine(ok b u q).kN (λc v hc r=>k c v ?_ r) (λc r=>by rw[bg (K1 c b r)];exact r) λc xs r=>by rw[bg (abq c xs r)];exact r
   rcases hc with rfl|hc
   ·exact p_
   ·rintro rfl
    rcases he with z|z
    ·exact K1 c b hc z
    ·rw[hc] at z;cases z;exact hb rfl
end
structure Un(fs ex:List Addr)(H H':Hp)(h h':Heap):Prop where
 keep:∀b o,h.get? b=some o->H b=none->b∉fs->b∉ex->h'.get? b=some o
 slot:∀b o,h.get? b=some o->H b=none->b∈fs->b∉ex->∃sl,h'.get? b=some { o with slots:=sl }
 free:∀b o,h.get? b=some o->H b=none->b∉ex->H' b=none
 there:∀b o,h.get? b=some o->b∉ex->∃o',h'.get? b=some o'
 jZ:∀b xs,H b=some (.tup xs)->H' b=some (.tup xs)
 jh:∀b o u,H b=some (.iF o u)->H' b=some (.iF o u)
 jY:∀b ps,H b=some (.oT ps)->∃more,H' b=some (.oT (ps++more))
section
variable{fs Wn ex ex':List Addr}{H H1 H2:Hp}{h h1 h2 h':Heap}{a x e:Addr}{o:HO}
theorem Un.any(u:Un fs ex H H1 h h1){b:Addr}{ob:Obj}(q:h.get? b=some ob)(n:H b=none)(hx:b∉ex):∃sl,h1.get? b=some { ob with slots:=sl }:=by
 by_cases hb:b∈fs
 ·exact u.slot b ob q n hb hx
 ·exact⟨ob.slots,u.keep b ob q n hb hx⟩
theorem Un.kept(k:∀b u,h.get? b=some u->h'.get? b=some u):Un fs ex H H h h' :=
 ⟨λb ob q _ _ _=>k b ob q,λb ob q _ _ _=>⟨ob.slots,k b ob q⟩,λ_ _ _ n _=>n,λb ob q _=>⟨ob,k b ob q⟩,λ_ _ q=>q,λ_ _ _ q=>q,λ_ ps q=>⟨#[],by rw[q];simp⟩⟩
theorem Un.refl:Un fs ex H H h h:=Un.kept λ_ _ q=>q
theorem Un.laid(k:∀b u,h.get? b=some u->h'.get? b=some u)(hp:h.objs.size<=a)(hn:H a=none):Un fs ex H (upd H a o) h h' where
 keep:=λb u q _ _ _=>k b u q
 slot:=λb u q _ _ _=>⟨u.slots,k b u q⟩
 free:=λb u q n _=>by rw[bg (cQ (dI (bQ q) hp))];exact n
 there:=λb u q _=>⟨u,k b u q⟩
 jZ:=λb xs q=>by rw[bg (e6 q hn)];exact q
 jh:=λb u xs q=>by rw[bg (e6 q hn)];exact q
 jY:=λb ps q=>⟨#[],by rw[bg (e6 q hn),q];simp⟩
theorem Un.write(mu:wY (H x))(he:e=x\/H e=some (.own x))(k:∀b u,b≠e->h.get? b=some u->h'.get? b=some u)(sT:∃u,h'.get? e=some u):Un fs ex H (upd H x o) h h':=by
 have hx:∀b,H b=none->b≠x:=λb n z=>by subst z;rw[n] at mu;exact mu
 have hb:∀b,H b=none->b≠e:=λb n z=>by
  subst z;rcases he with r|r
  ·exact hx b n r
  ·rw[n] at r;cases r
 have hm:∀b u,H b=some u->¬ wY (some u)->b≠x:=λb u q nm z=>by subst z;rw[q] at mu;exact nm mu
 refine⟨λb u q n _ _=>k b u (hb b n) q,λb u q n _ _=>⟨u.slots,k b u (hb b n) q⟩,λb u q n _=>by rw[bg (hx b n)];exact n,λb u q _=>?_,
  λb xs q=>by rw[bg (hm b _ q λz=>z)];exact q,λb u xs q=>by rw[bg (hm b _ q λz=>z)];exact q,λb ps q=>⟨#[],by rw[bg (hm b _ q λz=>z),q];simp⟩⟩
 by_cases p_:b=e
 ·subst p_;exact sT
 ·exact⟨u,k b u p_ q⟩
end
def qR(h:Heap)(H:Hp):List Addr:=(bJ h.objs.size).filter λa=>(H a).isSome
def my(h:Heap)(H:Hp):Heap:=px h (qR h H)
theorem YE(h:Heap)(H:Hp):(my h H).objs.size=h.objs.size:=PySem.W.hideAll_size _ _
theorem YD{h:Heap}{H:Hp}{b:Addr}{o:Obj}(e:h.get? b=some o)(n:H b=none):(my h H).get? b=some o :=
 aih _ e λhm=>by
  have q:(H b).isSome=true:=(oW.mp hm).2;rw[n] at q;simp at q
theorem abG{h:Heap}{H:Hp}{b:Addr}{o:Obj}(e:(my h H).get? b=some o):h.get? b=some o/\H b=none:=by
 have e':h.get? b=some o:=ain (qR h H) e;refine⟨e',?_⟩
 cases q:H b with
 | none=>rfl
 | some x =>
  have hm:b∈qR h H:=oW.mpr ⟨iq.mpr (bQ e'),by simp[q]⟩
  have z:(my h H).get? b=none:=aii (qR h H) hm;rw[z] at e;cases e
structure Mod(K:aj)(mg:Str->Option Value)(base:Heap):Prop where
 jv:K.In base
 glob:base.Ns mainGlobals mg
 blt:∃mb,base.Ns builtinsNs mb/\∀x:Str,x≠"__name__" -> mb x=bootBuiltins x
 nolimit:base.NoLimit
structure Cx where
 prog:Program
 w:World
 K:aj
 mg:Str->Option Value
 base:Heap
 A:Around
 N:List Str
 dq:Shared
 rA:Hp
 env:Env
 outer:List Env
 stack:List Env
 ex:List Addr
 fn:Str->Bool
 calm:Bool
 pn:List (Addr×Obj)
 xe:Value->Shared->Prop
def cx(l:List Env):List Addr:=l.filterMap (·.frame)
abbrev Cx.fs(X:Cx):List Addr:=cx X.outer
def pJ(sc:Scope)(x:Str):Prop:=sc.names.lookup x=some .local\/sc.names.lookup x=some .cell\/sc.names.lookup x=some .free
def Loc(sc:Scope)(x:Str):Prop:=sc.names.lookup x=some .local\/sc.names.lookup x=some .cell
def Look(env:Env)(h:Heap)(m:Str->Option Value)(x:Str)(u:Value):Prop :=
 (env.kindOf x=some .local/\m x=some u)\/((env.kindOf x=some .cell\/env.kindOf x=some .free)/\∃c,env.cells.lookup x=some c/\h.IsCell c (some u))
structure Cx.Ok(X:Cx):Prop where
 mod:Mod X.K X.mg X.base
 kind:X.env.scope.kind=.function
 glob:X.env.globals=mainGlobals
 blt:X.env.builtins=builtinsNs
 above:X.dq.heap.objs.size<=X.env.locals
 inj:∀x y c,X.env.cells.lookup x=some c->X.env.cells.lookup y=some c->x=y
 has:∀x,(X.env.kindOf x=some .cell\/X.env.kindOf x=some .free)->∃c,X.env.cells.lookup x=some c
 ny:∀x c,X.fn x=true->X.env.cells.lookup x=some c->X.dq.heap.objs.size<=c
 hd:X.calm=true->X.A.handled=none
 frames:X.A.frames=some X.stack
 gb:X.stack=X.outer\/(X.stack=X.env::X.outer/\X.env.frame=some X.env.locals)
 uW:∀b∈X.ex,b≠X.env.locals/\∀x c,X.env.cells.lookup x=some c->c≠b
 bs:∀b o,X.base.get? b=some o->X.dq.heap.get? b=some o/\X.rA b=none
 iW:X.base.objs.size<=X.dq.heap.objs.size
 mK:∀b o,X.base.get? b=some o->b∉X.ex
 pU:∀b∈X.ex,b∉X.fs
 ic:X.dq.heap.FunFrames X.base X.outer
 ly:∀b∈X.fs,X.rA b=none
structure Inv(X:Cx)(pins:List (Addr×Obj))(σ:List (Option V))(H:Hp)(s:Shared):Prop where
 ok:X.Ok
 os:s.os=X.dq.os
 bare:AllBare s.gens
 base:Un X.fs X.ex X.rA H X.dq.heap s.heap
 loc:∃m,s.heap.Ns X.env.locals m/\∀(i:Nat) (x:Str) (v:V),X.N[i]?=some x->σ[i]?=some (some v)->pJ X.env.scope x->∃u,RelV v u/\Look X.env s.heap m x u
 cell:∀x c,X.env.cells.lookup x=some c->∃v,s.heap.IsCell c v
 free:H X.env.locals=none
 iZ:∀x c,X.env.cells.lookup x=some c->H c=none
 pin:∀p∈X.pn++pins,s.heap.get? p.1=some p.2/\H p.1=none/\p.1≠X.env.locals/\p.1∉X.fs/\∀v,p.2.data≠.cell v
 aS:dM X.prog X.w H s.heap
 len:σ.length=X.N.length
section
variable{X:Cx}{pins:List (Addr×Obj)}{σ:List (Option V)}{H H':Hp}{s:Shared}{h':Heap}
theorem Cx.Ok.abg(ok:X.Ok){b:Addr}{o:Obj}(e:X.base.get? b=some o):b∉X.fs:=λhb=>by
 have:=(ok.ic.mem hb).1;rw[e] at this;cases this
theorem Inv.bs(I:Inv X pins σ H s):∀b o,X.base.get? b=some o->s.heap.get? b=some o/\H b=none:=λb o e =>
 ⟨I.base.keep b o (I.ok.bs b o e).1 (I.ok.bs b o e).2 (I.ok.abg e) (I.ok.mK b o e),I.base.free b o (I.ok.bs b o e).1 (I.ok.bs b o e).2 (I.ok.mK b o e)⟩
theorem Inv.bk(I:Inv X pins σ H s):∀b o,X.base.get? b=some o->s.heap.get? b=some o:=λb o e=>(I.bs b o e).1
theorem Inv.mod(I:Inv X pins σ H s):Mod X.K X.mg X.base:=I.ok.mod
theorem Inv.cM(I:Inv X pins σ H s):X.K.In s.heap:=I.ok.mod.jv.keeps I.bk
theorem Inv.lt(I:Inv X pins σ H s):X.env.locals<s.heap.objs.size:=let ⟨_,hn,_⟩:=I.loc;hn.lt
theorem Inv.sz(I:Inv X pins σ H s):X.dq.heap.objs.size<=s.heap.objs.size:=b_ I.ok.above (ud I.lt)
theorem Inv.D8(I:Inv X pins σ H s){a:Addr}(h:s.heap.objs.size<=a):a∉X.fs:=λhb=>by
 obtain⟨_,o,ho,_⟩:=I.ok.ic.mem hb;exact absurd (dI (bQ ho) (b_ I.sz h)) (gg _)
theorem Inv.kd(I:Inv X pins σ H s):∀x c,X.env.cells.lookup x=some c->c≠X.env.locals:=λx c e z=>by
 obtain⟨v,o,ho,hd⟩:=I.cell x c e;obtain⟨m,⟨o',es,ep,i4,gu,_⟩,_⟩:=I.loc;rw[z,i4] at ho;cases ho;rw[gu] at hd;cases hd
theorem Inv.ic(I:Inv X pins σ H s):s.heap.FunFrames X.base X.outer:=by
 have all:∀(l:List Env),(∀b∈cx l,b∈X.fs)->X.dq.heap.FunFrames X.base l->s.heap.FunFrames X.base l:=by
  intro l
  induction l with
  | nil=>intro _ _;trivial
  | cons env r ih =>
   intro hs hl;obtain⟨hk,⟨L,o,hf,hn,ho,hd⟩,hr⟩:=hl;have hL:L∈X.fs:=hs L (by unfold cx;rw[Gu,hf];exact cB)
   obtain⟨sl,e⟩:=I.base.slot L o ho (I.ok.ly L hL) hL λz=>I.ok.pU L z hL
   exact⟨hk,⟨L,_,hf,hn,e,hd⟩,ih (λb hb=>hs b (by unfold cx;rw[Gu,hf];exact cP _ hb)) hr⟩
 exact all X.outer (λ_ hb=>hb) I.ok.ic
theorem Inv.stack(I:Inv X pins σ H s):s.heap.FunFrames X.base X.stack:=by
 rcases I.ok.gb with e|⟨e,hf⟩
 ·rw[e];exact I.ic
 ·rw[e]
  obtain⟨m,hn,_⟩:=I.loc;refine .cons (by rw[I.ok.kind];decide) hf hn ?_ I.ic
  exact RO (b_ I.ok.iW I.ok.above)
theorem Inv.lN(I:Inv X pins σ H s):∀b∈cx X.stack,b∈X.env.locals::X.fs:=λb hb=>by
 rcases I.ok.gb with e|⟨e,hf⟩
 ·rw[e] at hb;exact cP _ hb
 ·rw[e] at hb
  unfold cx at hb;rw[Gu,hf] at hb;exact hb
theorem Inv.Bm(I:Inv X pins σ H s):∀b∈cx X.stack,H b=none:=λb hb=>by
 rcases bE.mp (I.lN b hb) with e|hb
 ·rw[e];exact I.free
 ·obtain⟨_,o,ho,_⟩:=I.ok.ic.mem hb
  exact I.base.free b o ho (I.ok.ly b hb) λz=>I.ok.pU b z hb
theorem Inv.step{g':Array GenState}{t':Nat}{d':Drawn}{ch:List Addr}(I:Inv X pins σ H s)
  (jL:∀b∈ch,(b∈X.ex\/X.dq.heap.objs.size<=b)/\b≠X.env.locals/\(∀x c,X.env.cells.lookup x=some c->c≠b)/\∀p∈X.pn++pins,p.1≠b)
  (keep:∀b o,b≠X.env.locals->b∉X.fs->b∉ch->s.heap.get? b=some o->H b=none->h'.get? b=some o)
  (slot:∀b o,b≠X.env.locals->b∈X.fs->b∉ch->s.heap.get? b=some o->H b=none->∃sl,h'.get? b=some { o with slots:=sl }) (free:∀b o,b∉ch->s.heap.get? b=some o->H b=none->H' b=none)
  (there:∀b o,b∉ch->s.heap.get? b=some o->∃o',h'.get? b=some o')
  (jZ:∀b xs,H b=some (.tup xs)->H' b=some (.tup xs)) (jh:∀b o u,H b=some (.iF o u)->H' b=some (.iF o u)) (jY:∀b ps,H b=some (.oT ps)->∃more,H' b=some (.oT (ps++more)))
  (ns:∀m,s.heap.Ns X.env.locals m->h'.Ns X.env.locals m) (aS:dM X.prog X.w H' h') (hg:AllBare g') :
  Inv X pins σ H' { s with heap:=h',gens:=g',drawn:=d',toks:=t' }:=by
 have KQ:∀b o,X.dq.heap.get? b=some o->b≠X.env.locals:=λb o e=>cQ (dI (bQ e) I.ok.above)
 have AU:∀b o,X.dq.heap.get? b=some o->b∉X.ex->b∉ch:=λb o e hx hb=>by
  rcases(jL b hb).1 with z|z
  ·exact hx z
  ·exact absurd (dI (bQ e) z) (gg _)
 have cellK:∀x c,X.env.cells.lookup x=some c->∀v,s.heap.IsCell c v->h'.IsCell c v:=λx c e v ⟨o,ho,hd⟩=>by
  have vM:c∉ch:=λz=>(jL c z).2.2.1 x c e rfl
  by_cases hc:c∈X.fs
  ·obtain⟨sl,q⟩:=slot c o (I.kd x c e) hc vM ho (I.iZ x c e)
   exact⟨_,q,hd⟩
  ·exact⟨o,keep c o (I.kd x c e) hc vM ho (I.iZ x c e),hd⟩
 refine⟨I.ok,I.os,hg,⟨λb o e n hb hx=>?_,λb o e n hb hx=>?_,λb o e n hx=>?_,λb o e hx=>?_,λb xs e=>jZ b xs (I.base.jZ b xs e),λb o xs e=>jh b o xs (I.base.jh b o xs e),λb ps e=>?_⟩,?_,λx c e=>?_,?_,λx c e=>?_,λp hp=>?_,aS,I.len⟩
 ·exact keep b o (KQ b o e) hb (AU b o e hx) (I.base.keep b o e n hb hx) (I.base.free b o e n hx)
 ·obtain⟨sl,e1⟩:=I.base.slot b o e n hb hx
  obtain⟨fK,e2⟩:=slot b _ (KQ b o e) hb (AU b o e hx) e1 (I.base.free b o e n hx);exact⟨fK,e2⟩
 ·obtain⟨o',e1⟩:=I.base.there b o e hx
  exact free b o' (AU b o e hx) e1 (I.base.free b o e n hx)
 ·obtain⟨o',e1⟩:=I.base.there b o e hx
  exact there b o' (AU b o e hx) e1
 ·obtain⟨m1,e1⟩:=I.base.jY b ps e
  obtain⟨m2,e2⟩:=jY b _ e1;exact⟨m1++m2,by rw[e2,Array.append_assoc]⟩
 ·obtain⟨m,hn,hl⟩:=I.loc
  refine⟨m,ns m hn,λi x v e1 e2 e3=>?_⟩
  obtain⟨u,r,l⟩:=hl i x v e1 e2 e3;refine⟨u,r,?_⟩;rcases l with l|⟨k,c,e,z⟩
  ·exact .inl l
  ·exact .inr ⟨k,c,e,cellK x c e _ z⟩
 ·obtain⟨v,z⟩:=I.cell x c e
  exact⟨v,cellK x c e v z⟩
 ·obtain⟨m,⟨o,_,_,ho,_⟩,_⟩:=I.loc
  exact free _ o (λz=>(jL _ z).2.1 rfl) ho I.free
 ·obtain⟨v,o,ho,hd⟩:=I.cell x c e
  exact free c o (λz=>(jL c z).2.2.1 x c e rfl) ho (I.iZ x c e)
 ·obtain⟨e,n,ne,nf,d⟩:=I.pin p hp
  have vM:p.1∉ch:=λz=>(jL p.1 z).2.2.2 p hp rfl
  exact⟨keep p.1 p.2 ne nf vM e n,free p.1 p.2 vM e n,ne,nf,d⟩
theorem Inv.un{t':Nat}(I:Inv X pins σ H s)(u:Un X.fs [] H H' s.heap h')(aS:dM X.prog X.w H' h'):Inv X pins σ H' { s with heap:=h',toks:=t' }:=by
 obtain⟨m,⟨o,es,ep,ho,r⟩,_⟩:=id I.loc;obtain⟨sl,hL⟩:=u.any ho I.free (by simp)
 exact I.step (g':=s.gens) (d':=s.drawn) (ch:=[]) (λ_ z=>nomatch z) (λb o _ hb _ e n=>u.keep b o e n hb (by simp)) (λb o _ hb _ e n=>u.slot b o e n hb (by simp)) (λb o _ e n=>u.free b o e n (by simp)) (λb o _ e=>u.there b o e (by simp)) u.jZ u.jh u.jY (λm' hm=>by
  obtain⟨o',bD,C6,i4,r'⟩:=hm;rw[ho] at i4;cases i4;exact⟨_,bD,C6,hL,r'⟩) aS I.bare
theorem Inv.call{g':Array GenState}{t':Nat}{d':Drawn}{ch:List Addr}(I:Inv X pins σ H s)(u:Un (cx X.stack) ch H H' s.heap h')(aS:dM X.prog X.w H' h')(hg:AllBare g')
  (jL:∀b∈ch,(b∈X.ex\/X.dq.heap.objs.size<=b)/\b≠X.env.locals/\(∀x c,X.env.cells.lookup x=some c->c≠b)/\∀p∈X.pn++pins,p.1≠b) :
  Inv X pins σ H' { s with heap:=h',gens:=g',drawn:=d',toks:=t' }:=by
 obtain⟨m,⟨o,es,ep,ho,r⟩,_⟩:=id I.loc;obtain⟨sl,hL⟩:=u.any ho I.free λz=>(jL _ z).2.1 rfl
 exact I.step (ch:=ch) jL (λb o hL hb hc e n=>u.keep b o e n (λz=>(bE.mp (I.lN b z)).elim hL hb) hc) (λb o _ _ hc e n=>u.any e n hc) (λb o hc e n=>u.free b o e n hc) (λb o hc e=>u.there b o e hc) u.jZ u.jh u.jY (λm' hm=>by
  obtain⟨o',bD,C6,i4,r'⟩:=hm;rw[ho] at i4;cases i4;exact⟨_,bD,C6,hL,r'⟩) aS hg
theorem Inv.turned{t':Nat}{it:Addr}(I:Inv X pins σ H s)(k:∀b o,b≠it->s.heap.get? b=some o->h'.get? b=some o)(hn:H it=none)(hL:it≠X.env.locals)
  (h1:it∈X.ex\/X.dq.heap.objs.size<=it) (h2:∀x c,X.env.cells.lookup x=some c->c≠it) (h3:∀p∈X.pn++pins,p.1≠it):Inv X pins σ H { s with heap:=h',toks:=t' }:=by
 have vO:∀b u,H b=some u->b≠it:=λb u e z=>by rw[z,hn] at e;cases e
 refine I.step (g':=s.gens) (d':=s.drawn) (ch:=[it]) (λb hb=>?_) (λb o _ _ hc e _=>k b o (λz=>hc (by simp[z])) e) (λb o _ _ hc e _=>⟨o.slots,k b o (λz=>hc (by simp[z])) e⟩) (λ_ _ _ _ n=>n)
  (λb o hc e=>⟨o,k b o (λz=>hc (by simp[z])) e⟩) (λ_ _ e=>e) (λ_ _ _ e=>e) (λb ps e=>⟨#[],by rw[e];simp⟩) (λm hm=>?_) (λb u e=>?_) I.bare
 ·have e:b=it:=by simpa using hb
  subst e;exact⟨h1,hL,h2,h3⟩
 ·obtain⟨o,es,ep,ho,r⟩:=hm
  exact⟨o,es,ep,k _ o (Ne.symm hL) ho,r⟩
 ·refine(I.aS b u e).kN (λc v hc q=>k c v ?_ q) (λ_ q=>q) λ_ _ q=>q
  rcases hc with z|z
  ·rw[z];exact vO b u e
  ·exact vO c _ z
theorem Inv.tok(I:Inv X pins σ H s)(t:Nat):Inv X pins σ H { s with toks:=t }:=I.un (h':=s.heap) (t':=t) Un.refl I.aS
theorem Inv.kept{t':Nat}(I:Inv X pins σ H s)(k:∀b u,s.heap.get? b=some u->h'.get? b=some u):Inv X pins σ H { s with heap:=h',toks:=t' }:=I.un (Un.kept k) (I.aS.kept k)
theorem Inv.laid{a:Addr}{o:HO}{t':Nat}(I:Inv X pins σ H s)(k:∀b u,s.heap.get? b=some u->h'.get? b=some u)(hp:s.heap.objs.size<=a)(new:dN X.prog X.w (upd H a o) h' a o) :
  Inv X pins σ (upd H a o) { s with heap:=h',toks:=t' }:=I.un (Un.laid k hp (I.aS.fresh hp)) (I.aS.laid k hp new)
theorem Inv.write{x e:Addr}{o:HO}{t':Nat}(I:Inv X pins σ H s)(mu:wY (H x))(he:e=x\/H e=some (.own x))(k:∀b u,b≠e->s.heap.get? b=some u->h'.get? b=some u)(sT:∃u,h'.get? e=some u)
  (new:dN X.prog X.w (upd H x o) h' x o):Inv X pins σ (upd H x o) { s with heap:=h',toks:=t' }:=I.un (Un.write mu he k sT) (I.aS.write mu he k sT new)
theorem Inv.Bc{Mg:List (Addr×Obj)}(I:Inv X pins σ H s)(h:∀p∈Mg,s.heap.get? p.1=some p.2/\H p.1=none/\p.1≠X.env.locals/\p.1∉X.fs/\∀v,p.2.data≠.cell v):Inv X Mg σ H s :=
 ⟨I.ok,I.os,I.bare,I.base,I.loc,I.cell,I.free,I.iZ,λp hp=>(dH.mp hp).elim (λz=>I.pin p (kR _ z)) (h p),I.aS,I.len⟩
theorem D6{N:List Str}(hN:N.Nodup){i j:Nat}{x:Str}(a:N[i]?=some x)(b:N[j]?=some x):i=j:=by
 obtain⟨h1,e1⟩:=iM.mp a;obtain⟨h2,e2⟩:=iM.mp b;exact(aiJ hN).mp (e1.trans e2.symm)
theorem E4{M:Model}{A:Around}{E:Value->Shared->Prop}{i:Nat}{x:Str}{v:V}{u:Value}{Q:Unit->Shared->Prop}(I:Inv X pins σ H s)(hN:X.N.Nodup)(hi:X.N[i]?=some x)(hx:Loc X.env.scope x)(r:RelV v u)
  (h:∀s',Inv X pins (σ.set i (some v)) H s'->(∃a,ra a s.heap s'.heap/\(a=X.env.locals\/X.env.cells.lookup x=some a))->Q () s') (hf:X.fn x=true\/X.env.scope.names.lookup x=some .local:=by first|exact .inl rfl|exact .inr rfl|assumption):wpAny M A (storeName X.env x u) Q E s:=by
 obtain⟨m,hn,hl⟩:=id I.loc;have vc:(X.env.scope.kind==.class||(X.env.scope.kind==.module&&X.env.locals != X.env.globals))=false:=by rw[I.ok.kind];rfl
 have vj:i<σ.length:=by rw[I.len];exact(iM.mp hi).1
 have kd:=I.kd;have tracked:∀{a:Addr} {h':Heap},(∃o,s.heap.get? a=some o/\H a=none)->ra a s.heap h'->dM X.prog X.w H h':=λ{a h'} ha hs b ob e=>by
  obtain⟨_,_,JJ⟩:=ha;refine(I.aS b ob e).kN (λc w' hc q=>(hs.2 c ?_).trans q) (λ_ q=>q) λ_ _ q=>q
  rintro rfl;rcases hc with rfl|hc
  ·rw[JJ] at e;cases e
  ·rw[JJ] at hc;cases hc
 rcases hx with hk|hk
 ·refine wpAny_storeName_local hk hn (λh' Dw hs=>?_) vc
  obtain⟨oL,_,_,JS,_⟩:=id hn;refine h _ ⟨I.ok,I.os,I.bare,⟨λb o e n hb hx=>?_,λb o e n hb hx=>?_,I.base.free,λb o e hx=>?_,I.base.jZ,I.base.jh,I.base.jY⟩,⟨_,Dw,λj y v' e1 e2 e3=>?_⟩,λy c e=>?_,I.free,I.iZ,λp hp=>?_,tracked ⟨oL,JS,I.free⟩ hs,by simpa using I.len⟩ ⟨_,hs,.inl rfl⟩
  ·exact(hs.2 b (cQ (dI (bQ e) I.ok.above))).trans (I.base.keep b o e n hb hx)
  ·obtain⟨sl,e1⟩:=I.base.slot b o e n hb hx
   exact⟨sl,(hs.2 b (cQ (dI (bQ e) I.ok.above))).trans e1⟩
  ·obtain⟨o',e1⟩:=I.base.there b o e hx
   exact⟨o',(hs.2 b (cQ (dI (bQ e) I.ok.above))).trans e1⟩
  ·by_cases hj:j=i
   ·subst hj
    rw[hi] at e1;cases e1;rw[Gy vj] at e2
    cases e2;exact⟨u,r,.inl ⟨hk,by simp⟩⟩
   ·rw[Gx (Ne.symm hj)] at e2
    obtain⟨u',r',q⟩:=hl j y v' e1 e2 e3;refine⟨u',r',?_⟩;rcases q with ⟨k,e⟩|⟨k,c,e,z⟩
    ·refine .inl ⟨k,?_⟩
     have:y≠x:=λe=>hj (D6 hN e1 (e ▸ hi))
     simp[this,e]
    ·exact .inr ⟨k,c,e,z.sameBut hs (kd y c e)⟩
  ·obtain⟨w',z⟩:=I.cell y c e
   exact⟨w',z.sameBut hs (kd y c e)⟩
  ·obtain⟨e,n,ne,nf,d⟩:=I.pin p hp
   exact⟨(hs.2 p.1 ne).trans e,n,ne,nf,d⟩
 ·have Dr:X.fn x=true:=by
   rcases hf with z|z
   ·exact z
   ·rw[z] at hk;cases hk
  obtain⟨c,hc⟩:=I.ok.has x (.inl hk);obtain⟨w',z⟩:=I.cell x c hc;refine wpAny_storeName_cell I.ok.kind hk hc z (λh' lC hs=>?_)
  obtain⟨oc,JT,YX⟩:=id z;refine h { s with heap:=h' } ⟨I.ok,I.os,I.bare,⟨λb o e n hb hx=>?_,λb o e n hb hx=>?_,I.base.free,λb o e hx=>?_,I.base.jZ,I.base.jh,I.base.jY⟩,⟨m,hn.sameBut hs (Ne.symm (kd x c hc)),λj y v' e1 e2 e3=>?_⟩,λy c' e=>?_,I.free,I.iZ,λp hp=>?_,tracked ⟨oc,JT,I.iZ x c hc⟩ hs,by simpa using I.len⟩ ⟨c,hs,.inr hc⟩
  ·exact(hs.2 b (cQ (dI (bQ e) (I.ok.ny x c Dr hc)))).trans (I.base.keep b o e n hb hx)
  ·obtain⟨sl,e1⟩:=I.base.slot b o e n hb hx
   exact⟨sl,(hs.2 b (cQ (dI (bQ e) (I.ok.ny x c Dr hc)))).trans e1⟩
  ·obtain⟨o',e1⟩:=I.base.there b o e hx
   exact⟨o',(hs.2 b (cQ (dI (bQ e) (I.ok.ny x c Dr hc)))).trans e1⟩
  ·by_cases hj:j=i
   ·subst hj
    rw[hi] at e1;cases e1;rw[Gy vj] at e2
    cases e2;exact⟨u,r,.inr ⟨.inl hk,c,hc,lC⟩⟩
   ·rw[Gx (Ne.symm hj)] at e2
    obtain⟨u',r',q⟩:=hl j y v' e1 e2 e3;refine⟨u',r',?_⟩;rcases q with q|⟨k,c',e,z'⟩
    ·exact .inl q
    ·refine .inr ⟨k,c',e,z'.sameBut hs ?_⟩
     rintro rfl;exact hj (D6 hN e1 (I.ok.inj _ _ _ e hc ▸ hi))
  ·by_cases JC:c'=c
   ·subst JC;exact⟨_,lC⟩
   ·obtain⟨w2,z2⟩:=I.cell y c' e
    exact⟨w2,z2.sameBut hs JC⟩
  ·obtain⟨e,n,ne,nf,d⟩:=I.pin p hp
   refine⟨(hs.2 p.1 ?_).trans e,n,ne,nf,d⟩;intro q;rw[q,JT] at e;have q':oc=p.2:=a6 e;exact d w' (by rw[<-q'];exact YX)
theorem Bn{M:Model}{A:Around}{E:Value->Shared->Prop}{i:Nat}{x:Str}{v:V}{u:Value}{Q:Unit->Shared->Prop}(I:Inv X pins σ H s)(hN:X.N.Nodup)(hi:X.N[i]?=some x)(hx:Loc X.env.scope x)(r:RelV v u)
  (h:∀s',Inv X pins (σ.set i (some v)) H s'->Q () s') (hf:X.fn x=true\/X.env.scope.names.lookup x=some .local:=by first|exact .inl rfl|exact .inr rfl|assumption):wpAny M A (storeName X.env x u) Q E s :=
 E4 I hN hi hx r (λs' I' _=>h s' I') hf
theorem Inv.xu{s':Shared}{ch:List Addr}(I:Inv X pins σ H s)(ho:s'.os=s.os)(u:Un (cx X.stack) ch H H' s.heap s'.heap)(aS:dM X.prog X.w H' s'.heap)(hg:AllBare s'.gens)
  (jL:∀b∈ch,(b∈X.ex\/X.dq.heap.objs.size<=b)/\b≠X.env.locals/\(∀x c,X.env.cells.lookup x=some c->c≠b)/\∀p∈X.pn++pins,p.1≠b):Inv X pins σ H' s':=by
 obtain⟨h',g',d',t',o'⟩:=s';have e:o'=s.os:=ho;subst e;exact I.call (g':=g') (t':=t') (d':=d') u aS hg jL
end
abbrev XK:=Value->Option Addr->Hp->Prop
abbrev St:=List (Option V)
abbrev VK:=V->Hp->Prop
abbrev TE:=St->Hp->VK->Prop
abbrev TT:=St->Hp->(Bool->Hp->Prop)->Prop
abbrev TA:=St->Hp->(List V->Hp->Prop)->Prop
structure Ends where
 nx:St->Hp->Prop
 rt:VK
 bk:St->Hp->Prop:=λ_ _=>False
 ct:St->Hp->Prop:=λ_ _=>False
abbrev TS:=Ends->St->Hp->Prop
def EP(X:Cx)(pins:List (Addr×Obj))(σ:St)(Q:VK)(u:Value)(s':Shared):Prop:=∃v H',Inv X pins σ H' s'/\RelV v u/\Q v H'
def TP(X:Cx)(pins:List (Addr×Obj))(σ:St)(Q:Bool->Hp->Prop)(b:Bool)(s':Shared):Prop:=∃H',Inv X pins σ H' s'/\Q b H'
def AP(X:Cx)(pins:List (Addr×Obj))(σ:St)(Q:List V->Hp->Prop)(us:List Value)(s':Shared):Prop:=∃vs H',Inv X pins σ H' s'/\Vals vs us/\Q vs H'
def SP(X:Cx)(pins:List (Addr×Obj))(D:Ends)(f:Flow)(s':Shared):Prop :=
 match f with
 | .next=>∃aM H',Inv X pins aM H' s'/\D.nx aM H'
 | .brk=>∃aM H',Inv X pins aM H' s'/\D.bk aM H'
 | .cont=>∃aM H',Inv X pins aM H' s'/\D.ct aM H'
 | .ret u=>∃v aM H',Inv X pins aM H' s'/\RelV v u/\D.rt v H'
def PE(X:Cx)(e:Expr)(t:TE):Prop :=
 ∀(pins:List (Addr×Obj)) (s:Shared) (σ:St) (H:Hp) (Q:VK),Inv X pins σ H s->t σ H Q->wpAny (model X.prog X.w) X.A (eval e X.env) (EP X pins σ Q) X.xe s
def PT(X:Cx)(e:Expr)(t:TT):Prop :=
 ∀(pins:List (Addr×Obj)) (s:Shared) (σ:St) (H:Hp) (Q:Bool->Hp->Prop),Inv X pins σ H s->t σ H Q->wpAny (model X.prog X.w) X.A (isTrue e X.env (eval e X.env)) (TP X pins σ Q) X.xe s
def PW(X:Cx)(e:Expr)(t:TT):Prop :=
 ∀(whole:Sem Value) (pins:List (Addr×Obj)) (s:Shared) (σ:St) (H:Hp) (Q:Bool->Hp->Prop),Inv X pins σ H s->t σ H Q->wpAny (model X.prog X.w) X.A (isTrue e X.env whole) (TP X pins σ Q) X.xe s
theorem PW.pt{X:Cx}{e:Expr}{t:TT}(h:PW X e t):PT X e t:=h _
def PA(X:Cx)(es:List Expr)(t:TA):Prop :=
 ∀(pos:Pos) (pins:List (Addr×Obj)) (s:Shared) (σ:St) (H:Hp) (Q:List V->Hp->Prop),Inv X pins σ H s->t σ H Q->wpAny (model X.prog X.w) X.A (spliced (backTo pos (starEach es X.env))) (AP X pins σ Q) X.xe s
def PS(X:Cx)(st:Stmt)(t:TS):Prop :=
 ∀(pins:List (Addr×Obj)) (s:Shared) (σ:St) (H:Hp) (D:Ends),Inv X pins σ H s->t D σ H->wpAny (model X.prog X.w) X.A (exec st X.env) (SP X pins D) X.xe s
def gG(X:Cx)(st:List Stmt)(t:TS):Prop :=
 ∀(pins:List (Addr×Obj)) (s:Shared) (σ:St) (H:Hp) (D:Ends),Inv X pins σ H s->t D σ H->wpAny (model X.prog X.w) X.A (execs st X.env) (SP X pins D) X.xe s
theorem aZ{α:Type}{t:Sem α}{Q Q':α->Shared->Prop}{M:Model}{A:Around}{E:Value->Shared->Prop}{s:Shared}(h:wpAny M A t Q E s)(hQ:∀a s,Q a s->Q' a s):wpAny M A t Q' E s:=wpAny_mono h hQ λ_ _ x=>x
section
variable{X:Cx}
inductive Bt(i:Nat)(σ:St)(H:Hp)(Q:VK):Prop
 | mk:∀v,(σ[i]?=some (some v))->(Q v H)->Bt i σ H Q
def tC(v:V):TE:=λ_ H Q=>Q v H
theorem Ma{i:Nat}{x:Str}{pos:Pos}(hN:X.N[i]?=some x)(hv:pJ X.env.scope x)(hd:(x==("__debug__" : Str))=false:=by decide)(fE:(x==("__classdict__" : Str))=false:=by decide):PE X (.Name x pos) (Bt i):=by
 intro pins s σ H Q I h;obtain⟨v,e,h⟩:=h;obtain⟨m,hn,hl⟩:=I.loc;obtain⟨u,r,l⟩:=hl i x v hN e hv;have fin:EP X pins σ Q u s:=⟨v,H,I,r,h⟩;rcases l with ⟨hk,hm⟩|⟨hk,c,hc,JD⟩
 ·exact wpAny_Name (wpAny_loadName_local I.ok.kind hk hn hm fin) hd
 ·rcases hk with hk|hk
  ·exact wpAny_Name (wpAny_loadName_cell I.ok.kind hk hc JD fin) hd
  ·exact wpAny_Name (wpAny_loadName_free I.ok.kind hk hc JD fin fE) hd
theorem ah{i j pos}:PE X (.Constant (.int i) j pos) (tC (.int i)):=λ_ _ _ H _ I h=>wpAny_Constant_int ⟨.int i,H,I.tok _,⟨_,rfl⟩,h⟩
theorem i9{b j pos}:PE X (.Constant (.bool b) j pos) (tC (.bl b)):=λ_ _ _ H _ I h=>Constant_bool ⟨.bl b,H,I,rfl,h⟩
theorem fj{j pos}:PE X (.Constant .none j pos) (tC .aR):=λ_ _ _ H _ I h=>Constant_none ⟨.aR,H,I,rfl,h⟩
theorem af{x j pos}:PE X (.Constant (.str x) j pos) (tC (.str x)):=λ_ _ _ H _ I h=>Calls.Constant_str ⟨.str x,H,I.tok _,⟨_,rfl⟩,h⟩
def Gl(X:Cx)(x:Str):Prop:=X.env.kindOf x=some .globalImplicit
theorem oy{E:Value->Shared->Prop}{pins:List (Addr×Obj)}{s:Shared}{σ:St}{H:Hp}{x:Str}{u:Value}{pos:Pos}{Q:Value->Shared->Prop}(I:Inv X pins σ H s)(hg:Gl X x)(hm:X.mg x=some u)(h:Q u s)
  (hd:(x==("__debug__" : Str))=false:=by decide):wpAny (model X.prog X.w) X.A (eval (.Name x pos) X.env) Q E s :=
 Calls.Name_function_global I.ok.kind hg (Calls.loadGlobal_global (by rw[I.ok.glob];exact I.mod.glob.keeps I.bk) hm h) hd
theorem AI{E:Value->Shared->Prop}{pins:List (Addr×Obj)}{s:Shared}{σ:St}{H:Hp}{x:Str}{u:Value}{pos:Pos}{Q:Value->Shared->Prop}(I:Inv X pins σ H s)(hg:Gl X x)(hm:X.mg x=none)(hv:bootBuiltins x=some u)(h:Q u s)
  (hn:x≠"__name__" := by decide) (hd:(x==("__debug__" : Str))=false:=by decide):wpAny (model X.prog X.w) X.A (eval (.Name x pos) X.env) Q E s:=by
 obtain⟨mb,h1,h2⟩:=I.mod.blt;exact Calls.Name_function_global I.ok.kind hg (Calls.loadGlobal_builtin (by rw[I.ok.glob];exact I.mod.glob.keeps I.bk) hm (by rw[I.ok.blt];exact h1.keeps I.bk) ((h2 x hn).trans hv) h) hd
theorem mR{x:Str}{v:V}{u:Value}{pos:Pos}(hg:Gl X x)(hm:X.mg x=some u)(r:RelV v u)(hd:(x==("__debug__" : Str))=false:=by decide):PE X (.Name x pos) (tC v) :=
 λ_ _ _ H _ I h=>oy I hg hm ⟨v,H,I,r,h⟩ hd
theorem ac9{x:Str}{v:V}{u:Value}{pos:Pos}(hg:Gl X x)(hm:X.mg x=none)(hv:bootBuiltins x=some u)(r:RelV v u)(hn:x≠"__name__" := by decide)(hd:(x==("__debug__" : Str))=false:=by decide):PE X (.Name x pos) (tC v) :=
 λ_ _ _ H _ I h=>AI I hg hm hv ⟨v,H,I,r,h⟩ hn hd
variable{a b:Expr}{ta tb:TE}{pos:Pos}
inductive Cb(Q:Bool->Hp->Prop)(x:V)(H:Hp):Prop
 | mk:∀c,(x=.bl c)->(Q c H)->Cb Q x H
def tB(t:TE):TT:=λσ H Q=>t σ H (Cb Q)
theorem fZ{e:Expr}{t:TE}(h:PE X e t)(he:∀whole,isTrue e X.env whole=(do let v <-whole;standAt e.pos;holding [v] (truthy v)):=by intro _;rfl):PT X e (tB t):=by
 intro pins s σ H Q I hw;refine isTrue_plain (aZ (h pins s σ H _ I hw) λv s1 ⟨x,H1,I1,r1,q1⟩=>?_) (he _)
 obtain⟨d,rfl,q⟩:=q1
 cases r1;exact wpAny_truthy_bool ⟨H1,I1,q⟩
variable{tA Bq:TT}{rest:List Expr}
def ae7(t u:TT):TT:=λσ H Q=>t σ H λc H1=>if c=true then u σ H1 Q else Q false H1
def tOr(t u:TT):TT:=λσ H Q=>t σ H λc H1=>if c=true then Q true H1 else u σ H1 Q
def afj(t:TT):TT:=λσ H Q=>t σ H λc H1=>Q (!c) H1
theorem EH(ha:PT X a tA):PW X (.BoolOp .And [a] pos) tA:=by
 intro wh pins s σ H Q I h;refine isTrue_and (aZ (ha pins s σ H Q I h) λc s1 e=>?_)
 cases c with
 | true=>exact isTrue_and_nil e
 | false=>exact e
theorem lL(ha:PT X a tA):PW X (.BoolOp .Or [a] pos) tA:=by
 intro wh pins s σ H Q I h;refine isTrue_or (aZ (ha pins s σ H Q I h) λc s1 e=>?_)
 cases c with
 | false=>exact isTrue_or_nil e
 | true=>exact e
theorem EG(ha:PT X a tA)(hb:PW X (.BoolOp .And (b::rest) pos) Bq):PW X (.BoolOp .And (a::b::rest) pos) (ae7 tA Bq):=by
 intro wh pins s σ H Q I h;refine isTrue_and (aZ (ha pins s σ H _ I h) λc s1 ⟨H1,I1,q1⟩=>?_)
 cases c with
 | true=>exact hb wh pins s1 σ H1 Q I1 q1
 | false=>exact⟨H1,I1,q1⟩
theorem kH(ha:PT X a tA)(hb:PW X (.BoolOp .Or (b::rest) pos) Bq):PW X (.BoolOp .Or (a::b::rest) pos) (tOr tA Bq):=by
 intro wh pins s σ H Q I h;refine isTrue_or (aZ (ha pins s σ H _ I h) λc s1 ⟨H1,I1,q1⟩=>?_)
 cases c with
 | true=>exact⟨H1,I1,q1⟩
 | false=>exact hb wh pins s1 σ H1 Q I1 q1
theorem ik(ha:PT X a tA):PT X (.UnaryOp .Not a pos) (afj tA):=by
 intro pins s σ H Q I h;exact isTrue_not (ha pins s σ H (λc H1=>Q (!c) H1) I h)
def ae8(ta tb:TE):TE:=λσ H Q=>ta σ H λx H1=>∃c,x=.bl c/\if c=true then tb σ H1 Q else Q (.bl false) H1
def afm(ta tb:TE):TE:=λσ H Q=>ta σ H λx H1=>∃c,x=.bl c/\if c=true then Q (.bl true) H1 else tb σ H1 Q
def afk(ta:TE):TE:=λσ H Q=>ta σ H λx H1=>∃c,x=.bl c/\Q (.bl (!c)) H1
theorem g6{op}{t:TE}(h:PE X a t):PE X (.BoolOp op [a] pos) t:=λpins s σ H Q I hw=>BoolOp_one (h pins s σ H Q I hw)
theorem fH(ha:PE X a ta)(hb:PE X (.BoolOp .And (b::rest) pos) tb):PE X (.BoolOp .And (a::b::rest) pos) (ae8 ta tb):=by
 intro pins s σ H Q I h;refine BoolOp_and (aZ (ha pins s σ H _ I h) λv s1 ⟨x,H1,I1,r1,q1⟩=>?_)
 obtain⟨c,rfl,q1⟩:=q1
 cases r1;refine wpAny_truthy_bool ?_
 cases c with
 | true=>exact hb pins s1 σ H1 Q I1 q1
 | false=>exact⟨.bl false,H1,I1,rfl,q1⟩
theorem LZ(ha:PE X a ta)(hb:PE X (.BoolOp .Or (b::rest) pos) tb):PE X (.BoolOp .Or (a::b::rest) pos) (afm ta tb):=by
 intro pins s σ H Q I h;refine BoolOp_or (aZ (ha pins s σ H _ I h) λv s1 ⟨x,H1,I1,r1,q1⟩=>?_)
 obtain⟨c,rfl,q1⟩:=q1
 cases r1;refine wpAny_truthy_bool ?_
 cases c with
 | false=>exact hb pins s1 σ H1 Q I1 q1
 | true=>exact⟨.bl true,H1,I1,rfl,q1⟩
theorem v8(ha:PE X a ta):PE X (.UnaryOp .Not a pos) (afk ta):=by
 intro pins s σ H Q I h;refine UnaryOp_ (aZ (ha pins s σ H _ I h) λv s1 ⟨x,H1,I1,r1,q1⟩=>?_)
 obtain⟨c,rfl,q1⟩:=q1
 cases r1;exact not_of (wpAny_truthy_bool ⟨.bl (!c),H1,I1,rfl,q1⟩)
def tIf(t:TT)(ta tb:TE):TE:=λσ H Q=>t σ H λc H1=>if c=true then ta σ H1 Q else tb σ H1 Q
theorem LX{c:Expr}(hc:PT X c tA)(ha:PE X a ta)(hb:PE X b tb):PE X (.IfExp c a b pos) (tIf tA ta tb):=by
 intro pins s σ H Q I h;refine wpAny_IfExp (aZ (hc pins s σ H _ I h) λd s1 ⟨H1,I1,q1⟩=>?_)
 cases d with
 | true=>exact ha pins s1 σ H1 Q I1 q1
 | false=>exact hb pins s1 σ H1 Q I1 q1
end
def ai(K:aj)(H:Hp)(a:Addr)(xs:List V):Prop :=
 Rd H a (.lst xs) \/
  ∃(o:Obj) (ao:Array Value) (n:Nat),K.lookup a=some o/\o.cls=.type "list" /\ o.dict=none/\o.data=.seq ao n/\ao.size<=sizeLine/\Vals xs ao.toList
def av(K:aj)(H:Hp)(a:Addr)(xs:List V):Prop :=
 Rd H a (.tup xs) \/
  ∃(o:Obj) (ao:Array Value) (n:Nat),K.lookup a=some o/\o.cls=.type "tuple" /\ o.data=.seq ao n/\ao.size<=sizeLine/\Vals xs ao.toList
def Th:Value->Option V
 | .none=>some .aR
 | .bool b=>some (.bl b)
 | .int i _=>some (.int i)
 | .str x _=>some (.str x)
 | .bytes b _=>some (.iX b)
 | .float b _=>some (.pV b)
 | .ref a=>some (.ref a)
 | .type n=>some (.ty n)
 | _=>none
theorem RelV.abs{x:V}{u:Value}(r:RelV x u):Th u=some x:=by
 cases x with
 | aR=>cases r;rfl
 | bl _=>cases r;rfl
 | int _=>obtain⟨t,rfl⟩:=r;rfl
 | str _=>obtain⟨t,rfl⟩:=r;rfl
 | iX _=>obtain⟨t,rfl⟩:=r;rfl
 | pV _=>obtain⟨t,rfl⟩:=r;rfl
 | ref _=>cases r;rfl
 | ty _=>cases r;rfl
theorem RelV.inj{x y:V}{u:Value}(r:RelV x u)(q:RelV y u):x=y:=a6 (r.abs.symm.trans q.abs)
theorem Vals.inj:∀{xs ys:List V} {us:List Value},Vals xs us->Vals ys us->xs=ys
 | _,_,_,.nil,.nil=>rfl
 | _,_,_,.cons r t,.cons r' t'=>by rw[r.inj r',Vals.inj t t']
section
variable{X:Cx}{pins:List (Addr×Obj)}{σ:St}{H:Hp}{s:Shared}{a:Addr}{xs ys:List V}
theorem ai.of{K:aj}(h:H a=some (.lst xs)):ai K H a xs:=.inl (.inl h)
theorem av.of{K:aj}(h:H a=some (.tup xs)):av K H a xs:=.inl (.inl h)
theorem Inv.list(I:Inv X pins σ H s)(h:ai X.K H a xs):∃ao:List Value,Vals xs ao/\PlainL s.heap a ao.toArray/\xs.length<=sizeLine:=by
 rcases h with h|⟨o,ao,n,hk,hc,hd,hs,hz,r⟩
 ·obtain⟨z,ao,n,r,e⟩:=h.ok I.aS
  exact⟨ao,r,⟨_,n,e,rfl,rfl,rfl⟩,z⟩
 ·refine⟨ao.toList,r,⟨o,n,I.cM a o hk,hc,hd,by simpa using hs⟩,?_⟩
  have e:=r.length;simp only[gE] at e;omega
theorem Inv.tuple(I:Inv X pins σ H s)(h:av X.K H a xs):∃ao:List Value,Vals xs ao/\IsTup s.heap a ao.toArray/\xs.length<=sizeLine:=by
 rcases h with h|⟨o,ao,n,hk,hc,hs,hz,r⟩
 ·obtain⟨z,ao,r,p⟩:=h.ok I.aS
  exact⟨ao,r,p,z⟩
 ·refine⟨ao.toList,r,⟨o,I.cM a o hk,hc,n,by simpa using hs⟩,?_⟩
  have e:=r.length;simp only[gE] at e;omega
theorem Inv.aav(I:Inv X pins σ H s)(h:ai X.K H a xs)(h':ai X.K H a ys):xs=ys:=by
 obtain⟨ao,r,⟨o,n,e,_,_,d⟩,_⟩:=I.list h;obtain⟨its',r',⟨o',n',e',_,_,d'⟩,_⟩:=I.list h';rw[e] at e';cases e';rw[d] at d';injection d' with d1 _
 have:ao=its':=by simpa using congrArg Array.toList d1
 subst this;exact r.inj r'
end
abbrev Cx.aI(X:Cx)(E:Value->Shared->Prop):Cx:={ X with xe:=E }
abbrev Cx.aD(X:Cx):Cx:=X.aI λ_ _=>False
theorem Cx.Ok.aI{X:Cx}(ok:X.Ok)(E:Value->Shared->Prop):(X.aI E).Ok :=
 ⟨ok.mod,ok.kind,ok.glob,ok.blt,ok.above,ok.inj,ok.has,ok.ny,ok.hd,ok.frames,ok.gb,ok.uW,ok.bs,ok.iW,ok.mK,ok.pU,ok.ic,ok.ly⟩
theorem Cx.Ok.m6{X:Cx}{E:Value->Shared->Prop}(ok:(X.aI E).Ok):X.Ok :=
 ⟨ok.mod,ok.kind,ok.glob,ok.blt,ok.above,ok.inj,ok.has,ok.ny,ok.hd,ok.frames,ok.gb,ok.uW,ok.bs,ok.iW,ok.mK,ok.pU,ok.ic,ok.ly⟩
section
variable{X:Cx}{pins:List (Addr×Obj)}{σ:St}{H:Hp}{s:Shared}{E:Value->Shared->Prop}
theorem Inv.aI(I:Inv X pins σ H s)(E:Value->Shared->Prop):Inv (X.aI E) pins σ H s:=⟨I.ok.aI E,I.os,I.bare,I.base,I.loc,I.cell,I.free,I.iZ,I.pin,I.aS,I.len⟩
theorem Inv.m6(I:Inv (X.aI E) pins σ H s):Inv X pins σ H s:=⟨I.ok.m6,I.os,I.bare,I.base,I.loc,I.cell,I.free,I.iZ,I.pin,I.aS,I.len⟩
theorem SP.m6{D:Ends}{f:Flow}{s':Shared}(h:SP (X.aI E) pins D f s'):SP X pins D f s':=by
 cases f with
 | next=>obtain⟨aM,H',I,q⟩:=h;exact⟨aM,H',I.m6,q⟩
 | brk=>obtain⟨aM,H',I,q⟩:=h;exact⟨aM,H',I.m6,q⟩
 | cont=>obtain⟨aM,H',I,q⟩:=h;exact⟨aM,H',I.m6,q⟩
 | ret u=>obtain⟨v,aM,H',I,r,q⟩:=h;exact⟨v,aM,H',I.m6,r,q⟩
theorem gG.aD{st:List Stmt}{t:TS}(h:gG X.aD st t):gG X st t:=λpins s σ H D I hw =>
 wpAny_mono (h pins s σ H D (I.aI _) hw) (λ_ _ q=>q.m6) λ_ _ z=>False.elim z
end
section
variable{X:Cx}{st:Stmt}{rest:List Stmt}{t u:TS}{e:Expr}{te:TE}{pos:Pos}
def qP:TS:=λD σ H=>D.nx σ H
def QG(t u:TS):TS:=λD σ H=>t { D with nx:=u D } σ H
theorem bw:gG X [] qP:=λ_ _ σ H _ I h=>wpAny_execs_nil ⟨σ,H,I,h⟩
theorem ar(h1:PS X st t)(h2:gG X rest u):gG X (st::rest) (QG t u):=by
 intro pins s σ H D I h;refine wpAny_execs_cons (aZ (h1 pins s σ H { D with nx:=u D } I h) λf s1 q=>?_)
 cases f with
 | next =>
  obtain⟨aM,H',I',q⟩:=q;exact h2 pins s1 aM H' D I' q
 | ret v=>exact q
 | brk=>exact q
 | cont=>exact q
theorem ak(h1:PS X st t):gG X [st] t:=by
 intro pins s σ H D I h;refine wpAny_execs_cons (aZ (h1 pins s σ H D I h) λf s1 q=>?_)
 cases f with
 | next=>exact wpAny_execs_nil q
 | ret v=>exact q
 | brk=>exact q
 | cont=>exact q
theorem Inv.quiet{pins:List (Addr×Obj)}{σ:St}{H:Hp}{s:Shared}(I:Inv X pins σ H s):interactive X.env=false:=by simp[interactive,I.ok.kind]
def afa(te:TE):TS:=λD σ H=>te σ H λ_ H1=>D.nx σ H1
theorem eX(he:PE X e te)(hs:swapsWith e none pos.line X.env=pure false:=by rfl):PS X (.Expr e pos) (afa te):=by
 intro pins s σ H D I h;exact wpAny_Expr_any (aZ (he pins s σ H _ I h) λv s1 ⟨x,H1,I1,r1,q1⟩=>⟨σ,H1,I1,q1⟩) I.quiet hs
def afq(te:TE):TS:=λD σ H=>te σ H D.rt
theorem au(he:PE X e te):PS X (.Return (some e) pos) (afq te):=by
 intro pins s σ H D I h;exact wpAny_Return_some (aZ (he pins s σ H _ I h) λv s1 ⟨x,H1,I1,r1,q1⟩=>⟨x,σ,H1,I1,r1,q1⟩)
def afe(c:TT)(t u:TS):TS:=λD σ H=>c σ H λb H1=>if b=true then t D σ H1 else u D σ H1
theorem bu{c:Expr}{a b:List Stmt}{tc:TT}(hc:PT X c tc)(ha:gG X a t)(hb:gG X b u):PS X (.If c a b pos) (afe tc t u):=by
 intro pins s σ H D I h;refine wpAny_If (aZ (hc pins s σ H _ I h) λd s1 ⟨H1,I1,q1⟩=>?_)
 cases d with
 | true=>exact ha pins s1 σ H1 D I1 q1
 | false=>exact hb pins s1 σ H1 D I1 q1
def afh:TS:=λ_ _ _=>False
theorem tO:PS X st afh:=λ_ _ _ _ _ _ h=>h.elim
end
abbrev TG:=V->St->Hp->(St->Hp->Prop)->Prop
abbrev rF:=List V->St->Hp->(St->Hp->Prop)->Prop
def PG(X:Cx)(target:Expr)(t:TG):Prop :=
 ∀(pins:List (Addr×Obj)) (s:Shared) (σ:St) (H:Hp) (v:V) (u:Value) (Q:St->Hp->Prop),Inv X pins σ H s->RelV v u->t v σ H Q ->
  wpAny (model X.prog X.w) X.A (assign target X.env u) (λ_ s'=>∃aM H',Inv X pins aM H' s'/\Q aM H') X.xe s
def wZ(X:Cx)(ts:List Expr)(t:rF):Prop :=
 ∀(pins:List (Addr×Obj)) (s:Shared) (σ:St) (H:Hp) (vs:List V) (us:List Value) (Q:St->Hp->Prop),Inv X pins σ H s->Vals vs us->t vs σ H Q ->
  wpAny (model X.prog X.w) X.A (assignInOrder ((assignEach ts X.env).map (·.2)) us) (λ_ s'=>∃aM H',Inv X pins aM H' s'/\Q aM H') X.xe s
section
variable{X:Cx}{pos:Pos}
def aG(i:Nat):TG:=λv σ H Q=>Q (σ.set i (some v)) H
theorem EB{i:Nat}{x:Str}(hN:X.N.Nodup)(hi:X.N[i]?=some x)(hx:Loc X.env.scope x)(hf:X.fn x=true\/X.env.scope.names.lookup x=some .local:=by first|exact .inl rfl|exact .inr rfl|assumption):PG X (.Name x pos) (aG i):=by
 intro pins s σ H v u Q I r h;exact wpAny_assign_Name (Bn I hN hi hx r (λs' I'=>⟨_,H,I',h⟩) hf)
def pW:rF:=λvs σ H Q=>vs=[]/\Q σ H
inductive lz(t:TG)(u:rF)(vs:List V)(σ:St)(H:Hp)(Q:St->Hp->Prop):Prop
 | mk:∀v r,(vs=v::r)->(t v σ H λaM H'=>u r aM H' Q)->lz t u vs σ H Q
theorem Bb:wZ X [] pW:=by
 intro pins s σ H vs us Q I r h;obtain⟨e,h⟩:=h;subst e
 cases r;exact assignInOrder_nil ⟨σ,H,I,h⟩
theorem oJ{e:Expr}{es:List Expr}{t:TG}{u:rF}(h1:PG X e t)(h2:wZ X es u)
  (hs:(assignEach (e::es) X.env).map (·.2)=assign e X.env::(assignEach es X.env).map (·.2):=by rfl):wZ X (e::es) (lz t u):=by
 intro pins s σ H vs us Q I r h;obtain⟨v,vr,e1,h⟩:=h;subst e1
 cases r with
 | cons r rr =>
  rw[hs];refine assignInOrder_cons (aZ (h1 pins s σ H _ _ _ I r h) λ_ s1 ⟨uv,H1,I1,q1⟩=>?_)
  exact h2 pins s1 uv H1 _ _ Q I1 rr q1
inductive sP(K:aj)(n:Nat)(t:rF)(v:V)(σ:St)(H:Hp)(Q:St->Hp->Prop):Prop
 | mk:∀a xs,(v=.ref a)->(av K H a xs)->(xs.length=n)->(t xs σ H Q)->sP K n t v σ H Q
theorem Ba{es:List Expr}{k:Nat}{t:rF}{n:Nat}(hc:X.calm=true)(h:wZ X es t)
  (hn:(assignEach es X.env).length=n:=by rfl) (kq:(assignEach es X.env).findIdx? (·.1)=none:=by rfl):PG X (.Tuple es k pos) (sP X.K n t):=by
 intro pins s σ H v u Q I r hw;obtain⟨a,xs,e1,hq,hl,hw⟩:=hw;subst e1
 cases r;obtain⟨ao,rv,ht,hz⟩:=I.tuple hq;refine assign_Tuple_tuple (I.ok.hd hc) ht (by simp[hn,<-hl,rv.length]) kq λh' hx=>?_
 have I1:Inv X pins σ H { s with heap:=h' }:=I.kept (t':=s.toks) λb o e=>hx b o (cQ (bQ e)) e
 exact h pins _ σ H xs _ Q I1 (by simpa using rv) hw
def Bp(te:TE)(g:TG):TS:=λD σ H=>te σ H λx H1=>g x σ H1 D.nx
theorem adH{i:Nat}{x:Str}{e:Expr}{te:TE}{pos':Pos}(hN:X.N.Nodup)(hi:X.N[i]?=some x)(hx:Loc X.env.scope x)(he:PE X e te)(hs:swapsWith e (some (.Name x pos')) pos.line X.env=pure false:=by rfl)(hf:X.fn x=true\/X.env.scope.names.lookup x=some .local:=by first|exact .inl rfl|exact .inr rfl|assumption) :
  PS X (.Assign [.Name x pos'] e pos) (Bp te (aG i)):=by
 intro pins s σ H D I h;refine wpAny_Assign_Name (aZ (he pins s σ H _ I h) λv s1 ⟨y,H1,I1,r1,q1⟩=>?_) hs
 exact Bn I1 hN hi hx r1 (λs2 I2=>⟨_,H1,I2,q1⟩) hf
end
section
variable{X:Cx}{pos:Pos}
def QH(c:TT)(tb:TS):TS:=λD σ H=>∃W:Nat->St->Hp->Prop,(∃m,W m σ H)/\∀m σ H,W m σ H ->
 c σ H λb H1=>if b=true then ∃N:St->Hp->Prop,(∀aM H',N aM H'->∃m',m'<m/\W m' aM H')/\tb { D with nx:=N,ct:=N,bk:=D.nx } σ H1 else D.nx σ H1
theorem EE{c:Expr}{body:List Stmt}{tc:TT}{tb:TS}(hp:PassesOwn (model X.prog X.w) X.A X.env X.xe)(hc:PT X c tc)(hb:gG X body tb):PS X (.While c body [] pos) (QH tc tb):=by
 intro pins s σ H D I h;obtain⟨W,⟨m0,w0⟩,turn⟩:=h;refine wpAny_While (codeAny_whileLoop (λn s'=>∃aM H',Inv X pins aM H' s'/\W n aM H') ?_ m0 ⟨σ,H,I,w0⟩)
 rintro n s1 ⟨uv,H1,I1,w1⟩;refine wpAny_passesOwn hp (aZ (hc pins s1 uv H1 _ I1 (turn n uv H1 w1)) λb s2 ⟨H2,I2,q2⟩=>?_)
 cases b with
 | true =>
  obtain⟨N,hN,q2⟩:=q2;rw[if_pos rfl];refine wpAny_passesOwn hp (aZ (hb pins s2 uv H2 _ I2 q2) λf s3 q3=>?_)
  cases f with
  | next =>
   obtain⟨kX,H3,I3,n3⟩:=q3;obtain⟨m',hm,w3⟩:=hN kX H3 n3;exact⟨m',hm,kX,H3,I3,w3⟩
  | cont =>
   obtain⟨kX,H3,I3,n3⟩:=q3;obtain⟨m',hm,w3⟩:=hN kX H3 n3;exact⟨m',hm,kX,H3,I3,w3⟩
  | brk=>exact q3
  | ret v=>exact q3
 | false =>
  rw[if_neg eo];exact wpAny_execs_nil ⟨uv,H2,I2,q2⟩
end
structure It where
 go:Nat->Hp->Prop
 wH:Nat->Hp->V->Hp->Prop
 stop:Nat->Hp->Prop
def fP(X:Cx)(pins:List (Addr×Obj))(H:Hp)(b:Addr):Prop :=
 H b=none/\b≠X.env.locals/\b∉X.fs/\(b∈X.ex\/X.dq.heap.objs.size<=b)/\(∀x c,X.env.cells.lookup x=some c->c≠b)/\∀p∈X.pn++pins,p.1≠b
theorem Inv.mj{X:Cx}{pins:List (Addr×Obj)}{σ:St}{H H':Hp}{s:Shared}{b:Addr}(I:Inv X pins σ H s)(hb:s.heap.objs.size<=b)(hn:H' b=none):fP X pins H' b:=by
 refine⟨hn,ue (dI I.lt hb),I.D8 hb,.inr (b_ I.sz hb),λx c e z=>?_,λp hp z=>?_⟩
 ·obtain⟨v,q⟩:=I.cell x c e
  exact absurd (dI q.lt (by rw[z];exact hb)) (gg _)
 ·exact absurd (dI (bQ (I.pin p hp).1) (by rw[z];exact hb)) (gg _)
structure Turn(P:Program)(w:World)(K:aj)(tg:Expr)(J:It)(fp:List Addr)(it:Addr)(tn:Nat->Heap->Prop):Prop where
 mem:it∈fp
 obj:∀i h,tn i h->∀b∈fp,∃o,h.get? b=some o/\∀v,o.data≠.cell v
 keep:∀i h h',tn i h->(∀b∈fp,∀o,h.get? b=some o->h'.get? b=some o)->tn i h'
 item:∀(X:Cx),X.prog=P->X.w=w->X.K=K->X.calm=true->∀(i:Nat) (pins:List (Addr×Obj)) (s:Shared) (σ:St) (H:Hp) (E:Value->Shared->Prop),Inv X pins σ H s->(∀b∈fp,fP X pins H b)->tn i s.heap->J.go i H ->
  wpAny (model P w) X.A (pyNext (.ref it)) (λr s1=>∃u,r=some u /\
   wpAny (model P w) X.A (letOwnedTupleGo tg (.ref it) u) (λ_ s2=>∃x H',Inv X pins σ H' s2/\RelV x u/\J.wH i H x H'/\tn (i+1) s2.heap/\∀b∈fp,H' b=none) E s1) E s
 done:∀(X:Cx),X.prog=P->X.w=w->X.K=K->X.calm=true->∀(i:Nat) (pins:List (Addr×Obj)) (s:Shared) (σ:St) (H:Hp) (E:Value->Shared->Prop),Inv X pins σ H s->(∀b∈fp,fP X pins H b)->tn i s.heap->J.stop i H ->
  wpAny (model P w) X.A (pyNext (.ref it)) (λr s1=>r=none/\Inv X pins σ H s1) E s
 self:∀(A:Around) (i:Nat) (s:Shared) (Q:Value->Shared->Prop) (E:Value->Shared->Prop),tn i s.heap->Q (.ref it) s->wpAny (model P w) A (pyIter (.ref it)) Q E s
abbrev TI:=St->Hp->(It->Hp->Prop)->Prop
def GI(X:Cx)(pins:List (Addr×Obj))(σ:St)(tg:Expr)(R:It->Hp->Prop)(vC:Value)(s2:Shared):Prop :=
 ∃(it:Addr) (fp:List Addr) (tn:Nat->Heap->Prop) (J:It) (H':Hp),vC=.ref it/\Inv X pins σ H' s2/\Turn X.prog X.w X.K tg J fp it tn/\tn 0 s2.heap/\(∀b∈fp,fP X pins H' b)/\R J H'
def PI(X:Cx)(tg iter:Expr)(wi:TI):Prop :=
 ∀(pins:List (Addr×Obj)) (s:Shared) (σ:St) (H:Hp) (R:It->Hp->Prop),Inv X pins σ H s->wi σ H R ->
  wpAny (model X.prog X.w) X.A (eval iter X.env) (λv s1=>wpAny (model X.prog X.w) X.A (pyIter v) (GI X pins σ tg R) X.xe s1) X.xe s
theorem C_{M:Model}{A:Around}{E:Value->Shared->Prop}{s:Shared}{tg:Expr}{it:Addr}{u:Value}{o:Obj}{n:String}{vs:Array Value}{Q:Unit->Shared->Prop}(ho:s.heap.get? it=some o)(hc:o.cls=.type n)(hd:o.data=.fields vs)
  (hn:["enumerate","zip","dict_itemiterator","dict_reverseitemiterator","odict_iterator","itertools.zip_longest","itertools.pairwise"].contains n=false) (hQ:Q () s):wpAny M A (letOwnedTupleGo tg (.ref it) u) Q E s:=by
 unfold letOwnedTupleGo
 cases tg<;>first
  | exact wpAny_pure hQ
  | (cases u<;>first
    | exact wpAny_pure hQ
    | (refine wpAny_bind (wpAny_load ho ?_)
       rw[hc,hd];show wpAny M A (if (["enumerate","zip","dict_itemiterator","dict_reverseitemiterator","odict_iterator","itertools.zip_longest","itertools.pairwise"].contains n&&vs[0]?==some (rawInt _))=true then _ else _) Q E s
       rw[if_neg (by intro h;rw[hn,o_] at h;cases h)]
       exact wpAny_pure hQ))
def j8(K:aj)(a:Addr):It :=
 ⟨λi H=>∃xs x,ai K H a xs/\xs[i]?=some x,λi H x H'=>H'=H/\∀xs,ai K H a xs->xs[i]?=some x,λi H=>∃xs,ai K H a xs/\xs.length<=i⟩
def kZ(lo:Int)(n:Nat):It:=⟨λi _=>i<n,λi H x H'=>H'=H/\x=.int (lo+i),λi _=>n<=i⟩
theorem agI{P:Program}{w:World}{K:aj}{tg:Expr}(a it:Addr):Turn P w K tg (j8 K a) [it] it (λi h=>h.IsListIter it a i) where
 mem:=by simp
 obj:=λi h st b hb=>by
  have e:b=it:=by simpa using hb
  subst e;obtain⟨o,e,c,d⟩:=st;exact⟨o,e,λv z=>by rw[d] at z;cases z⟩
 keep:=λi h h' st k=>st.at λo e=>k it (by simp) o e
 item:=by
  intro X hP hw hK hc i pins s σ H E I hf st hg;subst hP hw hK;obtain⟨xs,x,hq,hx⟩:=hg;obtain⟨ao,rv,p,hz⟩:=I.list hq;obtain⟨u,hu,ru⟩:=rv.get hx;obtain⟨f0,f1,f2,f3,f4,f5⟩:=hf it (by simp)
  refine wpAny_pyNext_list_item st p.isList (x:=u) (by simpa using hu) λh' dv sb=>?_
  have I1:Inv X pins σ H { s with heap:=h' }:=I.turned (t':=s.toks) (λb o hb e=>(sb.2 b hb).trans e) f0 f1 f3 f4 f5
  obtain⟨o,e,c,d⟩:=id dv;exact⟨u,rfl,C_ (s:={ s with heap:=h' }) e c d (by decide) ⟨x,H,I1,ru,⟨rfl,λys hy=>by rw[I.aav hy hq];exact hx⟩,dv,λb hb=>(hf b hb).1⟩⟩
 done:=by
  intro X hP hw hK hc i pins s σ H E I hf st hg;subst hP hw hK;obtain⟨xs,hq,hx⟩:=hg;obtain⟨ao,rv,p,hz⟩:=I.list hq;obtain⟨f0,f1,f2,f3,f4,f5⟩:=hf it (by simp)
  have hl:=rv.length;exact wpAny_pyNext_list_end (I.ok.hd hc) st p.isList (by simp;omega) λh' eb=>⟨rfl,I.turned (t':=s.toks) (λb o hb e=>eb b o hb e) f0 f1 f3 f4 f5⟩
 self:=λ_ _ _ _ _ st h=>wpAny_pyIter_listiter st h
theorem agJ{P:Program}{w:World}{K:aj}{tg:Expr}(it:Addr)(lo:Int)(n:Nat):Turn P w K tg (kZ lo n) [it] it (λi h=>IsRangeIter h it (lo+(i:Nat)*1) ((n:Int)-(i:Nat)) 1) where
 mem:=by simp
 obj:=λi h st b hb=>by
  have e:b=it:=by simpa using hb
  subst e;exact⟨_,st,λv z=>by
   have z':Data.fields _=Data.cell v:=z
   cases z'⟩
 keep:=λi h h' st k=>k it (by simp) _ st
 item:=by
  intro X hP hw hK hc i pins s σ H E I hf st hg;subst hP hw hK;obtain⟨f0,f1,f2,f3,f4,f5⟩:=hf it (by simp)
  have W:=Walks.range (prog:=X.prog) (w:=X.w) (I.ok.hd hc) it lo 1 n;refine W.item i s _ _ hg st λv h' tk hv dv kk=>?_
  obtain⟨t,rfl⟩:=hv;have I1:Inv X pins σ H { s with heap:=h',toks:=tk }:=I.turned (λb o hb e=>kk b o (by simpa using hb) e) f0 f1 f3 f4 f5
  refine⟨_,rfl,C_ (s:={ s with heap:=h',toks:=tk }) (n:="range_iterator") dv rfl rfl (by decide) ⟨.int (lo+i),H,I1,⟨t,?_⟩,⟨rfl,rfl⟩,dv,λb hb=>(hf b hb).1⟩⟩
  rw[Int.mul_one]
 done:=by
  intro X hP hw hK hc i pins s σ H E I hf st hg;subst hP hw hK;obtain⟨f0,f1,f2,f3,f4,f5⟩:=hf it (by simp)
  exact wpAny_pyNext_range_end (I.ok.hd hc) st (by have:n<=i:=hg;omega) λh' eb=>⟨rfl,I.turned (t':=s.toks) (λb o hb e=>eb b o hb e) f0 f1 f3 f4 f5⟩
 self:=λ_ _ _ _ _ st h=>wpAny_pyIter_rangeiter st h
section
variable{X:Cx}{tg:Expr}
def Ze(K:aj)(tl:TE):TI:=λσ H R=>tl σ H λx H1=>∃a,x=.ref a/\(∃xs,ai K H1 a xs)/\R (j8 K a) H1
theorem cT{l:Expr}{tl:TE}(hl:PE X l tl):PI X tg l (Ze X.K tl):=by
 intro pins s σ H R I h;refine aZ (hl pins s σ H _ I h) λv s1 ⟨x,H1,I1,r1,q1⟩=>?_
 obtain⟨a,e,⟨xs,hq⟩,q⟩:=q1;subst e
 cases r1;obtain⟨ao,rv,p,hz⟩:=I1.list hq;refine wpAny_pyIter_list p.isList ?_;refine⟨s1.heap.objs.size,[s1.heap.objs.size],_,_,H1,rfl,I1.kept (t':=s1.toks) λb o e=>cJ _ e,agI a _,⟨_,fN _ rfl,rfl,rfl⟩,λb hb=>?_,q⟩
 have e:b=s1.heap.objs.size:=by simpa using hb
 subst e;exact I1.mj (bH _) (I1.aS.fresh (bH _))
theorem adZ{pins:List (Addr×Obj)}{σ:St}{H:Hp}{s:Shared}{R:It->Hp->Prop}{E:Value->Shared->Prop}{lo hi:Int}{t u v:Tok}{tk:Nat}(I:Inv X pins σ H s)(h1 : -(2^62)<=lo)(h2:lo<2^62)(h3 : -(2^62)<=hi)(h4:hi<2^62)
  (q:R (kZ lo (hi-lo).toNat) H):wpAny (model X.prog X.w) X.A (pyIter (.ref s.heap.objs.size)) (GI X pins σ tg R) E { s with heap:=s.heap.push { cls:=.type "range",data:=.fields #[.int lo t,.int hi u,.int 1 v] },toks:=tk }:=by
 refine wpAny_pyIter_range (IsRange.new ..) (small_one h1 h2 h3 h4) ?_;have I1:Inv X pins σ H { s with heap:=s.heap.push { cls:=.type "range",data:=.fields #[.int lo t,.int hi u,.int 1 v] },toks:=tk }:=I.kept λb o e=>cJ _ e
 refine⟨(s.heap.push { cls:=.type "range",data:=.fields #[.int lo t,.int hi u,.int 1 v] }).objs.size,[(s.heap.push { cls:=.type "range",data:=.fields #[.int lo t,.int hi u,.int 1 v] }).objs.size],_,_,H,rfl,
  I1.kept (t':=tk) λb o e=>cJ _ e,agJ _ lo (hi-lo).toNat,?_,λb hb=>?_,q⟩
 ·have e1:lo+((0:Nat):Int)*1=lo:=by simp
  have e2:(((hi-lo).toNat:Nat):Int)-((0:Nat):Int)=Builtin.Range.rangeSize lo hi 1:=by rw[rangeSize_one];split<;>omega
  show IsRangeIter _ _ (lo+((0:Nat):Int)*1) ((((hi-lo).toNat:Nat):Int)-((0:Nat):Int)) 1;rw[e1,e2];exact fN _ rfl
 ·have e:b=(s.heap.push { cls:=.type "range",data:=.fields #[.int lo t,.int hi u,.int 1 v] }).objs.size:=by simpa using hb
  subst e;exact I1.mj (bH _) (I1.aS.fresh (bH _))
def Zf(ta:TA):TI:=λσ H R=>ta σ H λvs H1=>∃j:Int,vs=[.int j] /\ -(2^62)<=j/\j<2^62/\R (kZ 0 j.toNat) H1
theorem fY{a:Expr}{ta:TA}{p pos:Pos}(hg:Gl X "range")(hm:X.mg "range" = none)(ha:PA X [a] ta)(hs:starEach [a] X.env=[(false,eval a X.env)]:=by rfl):PI X tg (.Call (.Name "range" p) [a] [] pos) (Zf ta):=by
 intro pins s σ H R I h;refine Call_ (AI I hg hm boot_range (ahW (aZ (ha pos pins s σ H _ I h) λus s1 ⟨vs,H1,I1,r1,q1⟩=>?_) hs rfl))
 obtain⟨j,e,q1,q2,q⟩:=q1;subst e
 cases r1 with
 | cons r rr =>
  cases rr;obtain⟨t,rfl⟩:=r;exact call_range_1 (adZ I1 (by omega) (by omega) q1 q2 (by simpa using q))
def afb(wi:TI)(g:TG)(tb:TS):TS:=λD σ H=>wi σ H λJ H1=>∃W:Nat->Nat->St->Hp->Prop,(∃m,W 0 m σ H1)/\∀i m σ H,W i m σ H ->
 (J.stop i H/\D.nx σ H)\/(J.go i H/\∃N:St->Hp->Prop,(∀aM H',N aM H'->∃m',m'<m/\W (i+1) m' aM H')/\∀x H',J.wH i H x H'->g x σ H' λdJ H2=>tb { D with nx:=N,ct:=N,bk:=D.nx } dJ H2)
def tM(fp:List Addr)(h:Heap):List (Addr×Obj):=fp.filterMap λb=>(h.get? b).map λo=>(b,o)
theorem tm{fp:List Addr}{h:Heap}{b:Addr}{o:Obj}(hb:b∈fp)(e:h.get? b=some o):(b,o)∈tM fp h:=RC.mpr ⟨b,hb,by rw[e];rfl⟩
theorem abH{fp:List Addr}{h:Heap}{p:Addr×Obj}(hp:p∈tM fp h):p.1∈fp/\h.get? p.1=some p.2:=by
 obtain⟨b,hb,e⟩:=RC.mp hp
 cases q:h.get? b with
 | none=>rw[q] at e;cases e
 | some o =>
  rw[q] at e;have e':(b,o)=p:=a6 e;subst e';exact⟨hb,q⟩
theorem Inv.pinned{pins:List (Addr×Obj)}{σ:St}{H:Hp}{s:Shared}{fp:List Addr}(I:Inv X pins σ H s)(hf:∀b∈fp,fP X pins H b)(ho:∀b∈fp,∃o,s.heap.get? b=some o/\∀v,o.data≠.cell v):Inv X (pins++tM fp s.heap) σ H s :=
 I.Bc λp hp=>(dH.mp hp).elim (λz=>I.pin p (eG _ z)) λz=>by
  obtain⟨hb,e⟩:=abH z;obtain⟨f0,f1,f2,_⟩:=hf p.1 hb;obtain⟨o,e',d⟩:=ho p.1 hb;rw[e] at e';cases e';exact⟨e,f0,f1,f2,d⟩
theorem Inv.m5{pins pl:List (Addr×Obj)}{σ:St}{H:Hp}{s:Shared}(I:Inv X (pins++pl) σ H s):Inv X pins σ H s:=I.Bc λp hp=>I.pin p (eG _ (kR _ hp))
theorem qK{iter:Expr}{body:List Stmt}{wi:TI}{g:TG}{tb:TS}{pos:Pos}(hp:PassesOwn (model X.prog X.w) X.A X.env X.xe)(hc:X.calm=true)(hi:PI X tg iter wi)(hg:PG X tg g)(hb:gG X body tb)
  (hs:∀x,foldedSetIterable iter X.env x=pure x:=by intro _;rfl):PS X (.For tg iter body [] pos) (afb wi g tb):=by
 intro pins s σ H D I h;refine wpAny_For (aZ (hi pins s σ H _ I h) λv s1 h1=>aZ h1 λvC s2 h2=>?_) hs
 obtain⟨it,fp,tn,J,H2,e,I2,T,qN,f2,W,⟨m0,w0⟩,turn⟩:=h2;subst e;have stat:∀{H':Hp},(∀b∈fp,H' b=none)->∀b∈fp,fP X pins H' b:=λhn b hb=>⟨hn b hb,(f2 b hb).2⟩
 refine codeAny_forLoop_any (λn s'=>∃i aM H',Inv X pins aM H' s'/\tn i s'.heap/\(∀b∈fp,H' b=none)/\W i n aM H') ?_ m0 ⟨0,σ,H2,I2,qN,λb hb=>(f2 b hb).1,w0⟩
 rintro n s3 ⟨i,kX,H3,I3,Qp,Iu,w3⟩;rcases turn i n kX H3 w3 with ⟨stop,qn⟩|⟨go,N,hN,step⟩
 ·refine wpAny_passesOwn hp (aZ (T.done X rfl rfl rfl hc i pins s3 kX H3 X.xe I3 (stat Iu) Qp stop) λr s4 ⟨hr,I4⟩=>?_)
  subst hr;exact wpAny_execs_nil ⟨kX,H3,I4,qn⟩
 ·refine wpAny_passesOwn hp (aZ (T.item X rfl rfl rfl hc i pins s3 kX H3 X.xe I3 (stat Iu) Qp go) λr s4 ⟨u,hr,h4⟩=>?_)
  subst hr;refine wpAny_passesOwn hp (aZ h4 λ_ s5 ⟨x,H5,I5,r5,y5,kM,u0⟩=>?_)
  have ux:=I5.pinned (stat u0) (T.obj _ _ kM);refine wpAny_passesOwn hp (aZ (hg _ s5 kX H5 x u _ ux r5 (step x H5 y5)) λ_ s6 ⟨iO,H6,I6,q6⟩=>?_)
  refine wpAny_passesOwn hp (aZ (hb _ s6 iO H6 _ I6 q6) λf s7 q7=>?_)
  have again:∀{kY:St} {H7:Hp},Inv X (pins++tM fp s5.heap) kY H7 s7->N kY H7->∃m,m<n/\∃i aM H',Inv X pins aM H' s7/\tn i s7.heap/\(∀b∈fp,H' b=none)/\W i m aM H':=λ{kY H7} I7 n7=>by
   obtain⟨m',hm,w7⟩:=hN kY H7 n7;refine⟨m',hm,i+1,kY,H7,I7.m5,T.keep _ _ _ kM λb hb o e=>(I7.pin (b,o) (eG _ (eG _ (tm hb e)))).1,λb hb=>?_,w7⟩
   obtain⟨o,e,d⟩:=T.obj _ _ kM b hb;exact(I7.pin (b,o) (eG _ (eG _ (tm hb e)))).2.1
  cases f with
  | next=>obtain⟨kY,H7,I7,n7⟩:=q7;exact again I7 n7
  | cont=>obtain⟨kY,H7,I7,n7⟩:=q7;exact again I7 n7
  | brk=>obtain⟨kY,H7,I7,q7⟩:=q7;exact⟨kY,H7,I7.m5,q7⟩
  | ret v=>obtain⟨x7,kY,H7,I7,r7,q7⟩:=q7;exact⟨x7,kY,H7,I7.m5,r7,q7⟩
end
theorem sO{K:aj}{a:Addr}{xs:List V}{g:TG}{tb:TS}{D:Ends}{σ:St}{H:Hp}(Pv:Nat->St->Hp->Prop)(h0:Pv 0 σ H)(hl:∀i σ H,i<=xs.length->Pv i σ H->ai K H a xs)
  (hs:∀i x σ H,xs[i]?=some x->Pv i σ H->g x σ H λdJ H2=>tb { D with nx:=Pv (i+1),ct:=Pv (i+1),bk:=D.nx } dJ H2) (hd:∀σ H,Pv xs.length σ H->D.nx σ H) :
  ∃W:Nat->Nat->St->Hp->Prop,(∃m,W 0 m σ H)/\∀i m σ H,W i m σ H ->
   ((j8 K a).stop i H/\D.nx σ H)\/((j8 K a).go i H/\∃N:St->Hp->Prop,(∀aM H',N aM H'->∃m',m'<m/\W (i+1) m' aM H')/\∀x H',(j8 K a).wH i H x H'->g x σ H' λdJ H2=>tb { D with nx:=N,ct:=N,bk:=D.nx } dJ H2):=by
 refine⟨λi m σ H=>m=xs.length-i/\i<=xs.length/\Pv i σ H,⟨xs.length,by simp,dy _,h0⟩,?_⟩
 rintro i m σ H ⟨rfl,hi,p⟩;have q:=hl i σ H hi p;by_cases cU:i<xs.length
 ·refine .inr ⟨⟨xs,xs[i],q,by simp[cU]⟩,Pv (i+1),λaM H' p'=>⟨xs.length-(i+1),by omega,rfl,cU,p'⟩,λx H' y=>?_⟩
  obtain⟨e,y⟩:=y;subst e;exact hs i x σ _ (y xs q) p
 ·have e:i=xs.length:=by omega
  subst e;exact .inl ⟨⟨xs,q,bH _⟩,hd σ H p⟩
theorem Wl{lo:Int}{n:Nat}{g:TG}{tb:TS}{D:Ends}{σ:St}{H:Hp}(Pv:Nat->St->Hp->Prop)(h0:Pv 0 σ H)
  (hs:∀i σ H,i<n->Pv i σ H->g (.int (lo+i)) σ H λdJ H2=>tb { D with nx:=Pv (i+1),ct:=Pv (i+1),bk:=D.nx } dJ H2) (hd:∀σ H,Pv n σ H->D.nx σ H) :
  ∃W:Nat->Nat->St->Hp->Prop,(∃m,W 0 m σ H)/\∀i m σ H,W i m σ H ->
   ((kZ lo n).stop i H/\D.nx σ H)\/((kZ lo n).go i H/\∃N:St->Hp->Prop,(∀aM H',N aM H'->∃m',m'<m/\W (i+1) m' aM H')/\∀x H',(kZ lo n).wH i H x H'->g x σ H' λdJ H2=>tb { D with nx:=N,ct:=N,bk:=D.nx } dJ H2):=by
 refine⟨λi m σ H=>m=n-i/\i<=n/\Pv i σ H,⟨n,by simp,dy _,h0⟩,?_⟩
 rintro i m σ H ⟨rfl,hi,p⟩;by_cases cU:i<n
 ·refine .inr ⟨cU,Pv (i+1),λaM H' p'=>⟨n-(i+1),by omega,rfl,cU,p'⟩,λx H' y=>?_⟩
  obtain⟨e,y⟩:=y;subst e y;exact hs i σ _ cU p
 ·have e:i=n:=by omega
  subst e;exact .inl ⟨bH _,hd σ H p⟩
abbrev R2:=V->V->Hp->VK->Prop
def cY(X:Cx)(f:Value->Value->Sem Value)(r:R2):Prop :=
 ∀(pins:List (Addr×Obj)) (s:Shared) (σ:St) (H:Hp) (x y:V) (v u:Value) (Q:VK),Inv X pins σ H s->RelV x v->RelV y u->r x y H Q ->
  wpAny (model X.prog X.w) X.A (f v u) (EP X pins σ Q) X.xe s
def Cp(X:Cx)(f:Value->Sem Value)(r:V->Hp->VK->Prop):Prop :=
 ∀(pins:List (Addr×Obj)) (s:Shared) (σ:St) (H:Hp) (x:V) (v:Value) (Q:VK),Inv X pins σ H s->RelV x v->r x H Q ->
  wpAny (model X.prog X.w) X.A (f v) (EP X pins σ Q) X.xe s
def gi(X:Cx)(f:Value)(r:List V->Hp->VK->Prop):Prop :=
 ∀(pins:List (Addr×Obj)) (s:Shared) (σ:St) (H:Hp) (xs:List V) (us:List Value) (Q:VK),Inv X pins σ H s->Vals xs us->r xs H Q ->
  wpAny (model X.prog X.w) X.A (call f us) (EP X pins σ Q) X.xe s
def SI(X:Cx)(r:V->Hp->(Bool->Hp->Prop)->Prop):Prop :=
 ∀(pins:List (Addr×Obj)) (s:Shared) (σ:St) (H:Hp) (x:V) (v:Value) (Q:Bool->Hp->Prop),Inv X pins σ H s->RelV x v->r x H Q ->
  wpAny (model X.prog X.w) X.A (truthy v) (TP X pins σ Q) X.xe s
def qQ(r:R2)(ta tb:TE):TE:=λσ H Q=>ta σ H λx H1=>tb σ H1 λy H2=>r x y H2 Q
def tUn(r:V->Hp->VK->Prop)(ta:TE):TE:=λσ H Q=>ta σ H λx H1=>r x H1 Q
inductive rI(C:Int->Int->Prop)(g:Int->Int->V)(x:V)(y:V)(H:Hp)(Q:VK):Prop
 | mk:∀i j,(x=.int i)->(y=.int j)->(C i j)->(Q (g i j) H)->rI C g x y H Q
inductive mT(g:Int->Int->V)(x:V)(y:V)(H:Hp)(Q:VK):Prop
 | mk:∀i j,(x=.int i)->(y=.int j)->(Q (g i j) H)->mT g x y H Q
inductive rU(g:Int->V)(x:V)(H:Hp)(Q:VK):Prop
 | mk:∀i,(x=.int i)->(Q (g i) H)->rU g x H Q
section
variable{X:Cx}{a b c:Expr}{ta tb tc:TE}{pos:Pos}
theorem CO(ha:PE X a ta)(hb:PE X b tb){pins:List (Addr×Obj)}{s:Shared}{σ:St}{H:Hp}{R:V->V->Hp->Prop}(I:Inv X pins σ H s)
  (h:ta σ H λx H1=>tb σ H1 λy H2=>R x y H2) {Q:Value->Shared->Prop} {f:Value->Value->Sem Value}
  (hf:∀v u s2 x y H2,Inv X pins σ H2 s2->RelV x v->RelV y u->R x y H2->wpAny (model X.prog X.w) X.A (f v u) Q X.xe s2) :
  wpAny (model X.prog X.w) X.A (eval a X.env) (λv br=>wpAny (model X.prog X.w) X.A (eval b X.env) (λu aJ=>wpAny (model X.prog X.w) X.A (f v u) Q X.xe aJ) X.xe br) X.xe s:=by
 refine aZ (ha pins s σ H _ I h) λv s1 ⟨x,H1,I1,r1,q1⟩=>?_
 refine aZ (hb pins s1 σ H1 _ I1 q1) λu s2 ⟨y,H2,I2,r2,q2⟩=>?_
 exact hf v u s2 x y H2 I2 r1 r2 q2
theorem ag{op:Operator}{r:R2}(ho:cY X (binaryOp op) r)(ha:PE X a ta)(hb:PE X b tb):PE X (.BinOp a op b pos) (qQ r ta tb):=by
 intro pins s σ H Q I h;exact wpAny_BinOp (CO ha hb I h λv u s2 x y H2 I2 rx ry q=>ho pins s2 σ H2 x y v u Q I2 rx ry q)
theorem A_{op:UnaryOp}{r:V->Hp->VK->Prop}(ho:Cp X (unaryOp op) r)(ha:PE X a ta):PE X (.UnaryOp op a pos) (tUn r ta):=by
 intro pins s σ H Q I h;exact UnaryOp_ (aZ (ha pins s σ H _ I h) λv s1 ⟨x,H1,I1,r1,q1⟩=>ho pins s1 σ H1 x v Q I1 r1 q1)
theorem A6{f:Value->Value->Sem Value}{C:Int->Int->Prop}{g:Int->Int->Int}
  (rule:∀(i j:Int) (t u:Tok) (s:Shared) (Q:Value->Shared->Prop) (E:Value->Shared->Prop),C i j->Q (.int (g i j) s.toks) { s with toks:=s.toks+1 }->wpAny (model X.prog X.w) X.A (f (.int i t) (.int j u)) Q E s) :
  cY X f (rI C λi j=>.int (g i j)):=by
 intro pins s σ H x y v u Q I rx ry h;obtain⟨i,j,rfl,rfl,hc,q⟩:=h;obtain⟨t,rfl⟩:=rx;obtain⟨t',rfl⟩:=ry;exact rule i j t t' s _ _ hc ⟨.int (g i j),H,I.tok _,⟨_,rfl⟩,q⟩
theorem LC{f:Value->Value->Sem Value}{g:Int->Int->Int}
  (rule:∀(i j:Int) (t u:Tok) (s:Shared) (Q:Value->Shared->Prop) (E:Value->Shared->Prop),Q (.int (g i j) s.toks) { s with toks:=s.toks+1 }->wpAny (model X.prog X.w) X.A (f (.int i t) (.int j u)) Q E s) :
  cY X f (mT λi j=>.int (g i j)):=by
 intro pins s σ H x y v u Q I rx ry h;obtain⟨i,j,rfl,rfl,q⟩:=h;obtain⟨t,rfl⟩:=rx;obtain⟨t',rfl⟩:=ry;exact rule i j t t' s _ _ ⟨.int (g i j),H,I.tok _,⟨_,rfl⟩,q⟩
theorem A5{f:Value->Value->Sem Value}{g:Int->Int->Bool}
  (rule:∀(i j:Int) (t u:Tok) (s:Shared) (Q:Value->Shared->Prop) (E:Value->Shared->Prop),Q (.bool (g i j)) s->wpAny (model X.prog X.w) X.A (f (.int i t) (.int j u)) Q E s) :
  cY X f (mT λi j=>.bl (g i j)):=by
 intro pins s σ H x y v u Q I rx ry h;obtain⟨i,j,rfl,rfl,q⟩:=h;obtain⟨t,rfl⟩:=rx;obtain⟨t',rfl⟩:=ry;exact rule i j t t' s _ _ ⟨.bl (g i j),H,I,rfl,q⟩
def Sm(i j:Int):Prop:=0<j/\j<1073741824
def B8(i j:Int):Prop:=(-(2^64)<i/\i<2^64)\/(-(2^64)<j/\j<2^64)
theorem B8.ok{i j:Int}(h:B8 i j):IntMulOk i j:=by
 rcases h with ⟨h1,h2⟩|⟨h1,h2⟩
 ·exact .of_left (intBits_le_64 h1 h2)
 ·exact .of_right (intBits_le_64 h1 h2)
theorem dS:cY X (binaryOp .Add) (mT λi j=>.int (i+j)):=LC λ_ _ _ _ _ _ _ q=>add_int q
theorem LI:cY X (binaryOp .Sub) (mT λi j=>.int (i-j)):=LC λ_ _ _ _ _ _ _ q=>sub_int q
theorem i8:cY X (binaryOp .Mult) (rI B8 λi j=>.int (i*j)):=A6 λ_ _ _ _ _ _ _ hc q=>mul_int q hc.ok
theorem eE:cY X (binaryOp .FloorDiv) (rI Sm λi j=>.int (i/j)):=A6 λi j _ _ _ _ _ hc q=>by
 have h1:(0:Int)<j:=hc.1;have h2:j<1073741824:=hc.2;exact floordiv_int (by omega) (by rw[Int.fdiv_eq_ediv_of_nonneg i (by omega)];exact q) (.inl (PyProof.noPylong_small (by omega)))
theorem du:cY X (binaryOp .Mod) (rI (λ_ j=>0<j) λi j=>.int (i%j)):=A6 λi j _ _ _ _ _ hc q=>by
 have h1:(0:Int)<j:=hc;exact mod_int' (by omega) (by rw[Int.fmod_eq_emod_of_nonneg i (by omega)];exact q)
theorem unI{f:Value->Sem Value}{g:Int->Int}
  (rule:∀(i:Int) (t:Tok) (s:Shared) (Q:Value->Shared->Prop) (E:Value->Shared->Prop),Q (.int (g i) s.toks) { s with toks:=s.toks+1 }->wpAny (model X.prog X.w) X.A (f (.int i t)) Q E s) :
  Cp X f (rU λi=>.int (g i)):=by
 intro pins s σ H x v Q I rx h;obtain⟨i,rfl,q⟩:=h;obtain⟨t,rfl⟩:=rx;exact rule i t s _ _ ⟨.int (g i),H,I.tok _,⟨_,rfl⟩,q⟩
theorem BN:Cp X (unaryOp .USub) (rU λi=>.int (-i)):=unI λ_ _ _ _ _ q=>neg_int q
end
def Oj:V->V->Bool
 | .aR,.aR=>true|.aR,.int _=>true|.int _,.aR=>true|.aR,.bl _=>true|.bl _,.aR=>true|.aR,.str _=>true|.str _,.aR=>true
 | .int _,.int _=>true|.bl _,.bl _=>true|.str _,.str _=>true|.iX _,.iX _=>true
 | .int _,.str _=>true|.str _,.int _=>true|.bl _,.str _=>true|.str _,.bl _=>true
 | _,_=>false
def rEq:R2:=λx y H Q=>Oj x y=true/\Q (.bl (decide (x=y))) H
def rNe:R2:=λx y H Q=>Oj x y=true/\Q (.bl (!decide (x=y))) H
theorem C4{i j:Int}:decide (V.int i=V.int j)=(i==j):=by
 rw[j2];simp
theorem HN{i j:Bool}:decide (V.bl i=V.bl j)=(i==j):=by
 rw[j2];simp
theorem HQ{i j:Str}:decide (V.str i=V.str j)=(i==j):=by
 rw[j2];simp
theorem HP{i j:Array UInt8}:decide (V.iX i=V.iX j)=(i.toList==j.toList):=by
 rw[j2]
 cases i
 cases j;simp
section
variable{X:Cx}{a b c:Expr}{ta tb tc:TE}{pos:Pos}
theorem dD{pins:List (Addr×Obj)}{σ:St}{H:Hp}{s:Shared}{Q:VK}{k k':Bool}(I:Inv X pins σ H s)(q:Q (.bl k) H)(e:k=k'):EP X pins σ Q (.bool k') s:=by
 subst e;exact⟨.bl k,H,I,rfl,q⟩
theorem bX:cY X (compareOp .Eq) rEq:=by
 intro pins s σ H x y v u Q I rx ry h;obtain⟨hs,q⟩:=h
 cases x with
 | aR =>
  cases rx
  cases y with
  | aR=>cases ry;exact PySem.EqNone.eq_none_none (dD I q (by simp))
  | bl j=>cases ry;exact PySem.EqNone.eq_none_bool (dD I q (by simp))
  | int j=>obtain⟨t',rfl⟩:=ry;exact PySem.EqNone.eq_none_int (dD I q (by simp))
  | str j=>obtain⟨t',rfl⟩:=ry;exact PySem.EqNone.eq_none_str (dD I q (by simp))
  | _=>exact absurd (show false=true from hs) eo
 | bl i =>
  cases rx
  cases y with
  | aR=>cases ry;exact PySem.EqNone.eq_bool_none (dD I q (by simp))
  | bl j=>cases ry;exact eq_bool (dD I q HN)
  | str j=>obtain⟨t',rfl⟩:=ry;exact ajM (dD I q (by simp))
  | _=>exact absurd (show false=true from hs) eo
 | int i =>
  obtain⟨t,rfl⟩:=rx
  cases y with
  | aR=>cases ry;exact PySem.EqNone.eq_int_none (dD I q (by simp))
  | int j=>obtain⟨t',rfl⟩:=ry;exact eq_int (dD I q C4)
  | str j=>obtain⟨t',rfl⟩:=ry;exact ajN (dD I q (by simp))
  | _=>exact absurd (show false=true from hs) eo
 | str i =>
  obtain⟨t,rfl⟩:=rx
  cases y with
  | aR=>cases ry;exact PySem.EqNone.eq_str_none (dD I q (by simp))
  | bl j=>cases ry;exact ajO (dD I q (by simp))
  | int j=>obtain⟨t',rfl⟩:=ry;exact ajP (dD I q (by simp))
  | str j=>obtain⟨t',rfl⟩:=ry;exact eq_str (dD I q HQ)
  | _=>exact absurd (show false=true from hs) eo
 | iX i =>
  obtain⟨t,rfl⟩:=rx
  cases y with
  | iX j=>obtain⟨t',rfl⟩:=ry;exact PySem.W.eq_bytes (dD I q HP)
  | _=>exact absurd (show false=true from hs) eo
 | _=>cases y<;>exact absurd (show false=true from hs) eo
theorem jx:cY X (compareOp .NotEq) rNe:=by
 intro pins s σ H x y v u Q I rx ry h;obtain⟨hs,q⟩:=h
 cases x with
 | aR =>
  cases rx
  cases y with
  | aR=>cases ry;exact PySem.EqNone.ne_none_none (dD I q (by simp))
  | bl j=>cases ry;exact PySem.EqNone.ne_none_bool (dD I q (by simp))
  | int j=>obtain⟨t',rfl⟩:=ry;exact PySem.EqNone.ne_none_int (dD I q (by simp))
  | str j=>obtain⟨t',rfl⟩:=ry;exact PySem.EqNone.ne_none_str (dD I q (by simp))
  | _=>exact absurd (show false=true from hs) eo
 | bl i =>
  cases rx
  cases y with
  | aR=>cases ry;exact PySem.EqNone.ne_bool_none (dD I q (by simp))
  | bl j=>cases ry;exact ne_bool (dD I q (congrArg not HN))
  | str j=>obtain⟨t',rfl⟩:=ry;exact ajQ (dD I q (by simp))
  | _=>exact absurd (show false=true from hs) eo
 | int i =>
  obtain⟨t,rfl⟩:=rx
  cases y with
  | aR=>cases ry;exact PySem.EqNone.ne_int_none (dD I q (by simp))
  | int j=>obtain⟨t',rfl⟩:=ry;exact ne_int (dD I q (congrArg not C4))
  | str j=>obtain⟨t',rfl⟩:=ry;exact ajR (dD I q (by simp))
  | _=>exact absurd (show false=true from hs) eo
 | str i =>
  obtain⟨t,rfl⟩:=rx
  cases y with
  | aR=>cases ry;exact PySem.EqNone.ne_str_none (dD I q (by simp))
  | bl j=>cases ry;exact ajS (dD I q (by simp))
  | int j=>obtain⟨t',rfl⟩:=ry;exact ajT (dD I q (by simp))
  | str j=>obtain⟨t',rfl⟩:=ry;exact ne_str (dD I q (congrArg not HQ))
  | _=>exact absurd (show false=true from hs) eo
 | iX i =>
  obtain⟨t,rfl⟩:=rx
  cases y with
  | iX j=>obtain⟨t',rfl⟩:=ry;exact PySem.W.ne_bytes (dD I q (congrArg not HP))
  | _=>exact absurd (show false=true from hs) eo
 | _=>cases y<;>exact absurd (show false=true from hs) eo
theorem LG:cY X (compareOp .Lt) (mT λi j=>.bl (decide (i<j))):=A5 λ_ _ _ _ _ _ _ q=>lt_int q
theorem lI:cY X (compareOp .LtE) (mT λi j=>.bl (decide (i<=j))):=A5 λ_ _ _ _ _ _ _ q=>le_int q
theorem Et:cY X (compareOp .Gt) (mT λi j=>.bl (decide (j<i))):=A5 λ_ _ _ _ _ _ _ q=>gt_int q
theorem Es:cY X (compareOp .GtE) (mT λi j=>.bl (decide (j<=i))):=A5 λ_ _ _ _ _ _ _ q=>ge_int q
theorem i7:cY X (compareOp .Is) (λx y H Q=>y=.aR/\Q (.bl (decide (x=.aR))) H):=by
 intro pins s σ H x y v u Q I rx ry h;obtain⟨rfl,q⟩:=h
 cases ry;refine is_none_gen (dD I q ?_)
 cases x<;>first
  | (cases rx;rfl)
  | (obtain⟨t,rfl⟩:=rx;rfl)
theorem acN:cY X (compareOp .IsNot) (λx y H Q=>y=.aR/\Q (.bl (!decide (x=.aR))) H):=by
 intro pins s σ H x y v u Q I rx ry h;obtain⟨rfl,q⟩:=h
 cases ry;refine isnot_none_gen (dD I q ?_)
 cases x<;>first
  | (cases rx;rfl)
  | (obtain⟨t,rfl⟩:=rx;rfl)
theorem KZ(b:Expr){op:CmpOp}(h:op≠.In:=by decide)(h2:op≠.NotIn:=by decide):behindInMarks op b=false:=by
 have e1:(op==CmpOp.In)=false:=by cases op<;>first|rfl|exact absurd rfl h
 have e2:(op==CmpOp.NotIn)=false:=by cases op<;>first|rfl|exact absurd rfl h2
 cases b<;>simp[behindInMarks,e1,e2]
theorem adg{op:CmpOp}{r:R2}(ho:cY X (compareOp op) r)(ha:PE X a ta)(hb:PE X b tb)(hm:behindInMarks op b=false):PE X (.Compare a [op] [b] pos) (qQ r ta tb):=by
 intro pins s σ H Q I h;exact wpAny_Compare1 (CO ha hb I h λv u s2 x y H2 I2 rx ry q=>ho pins s2 σ H2 x y v u Q I2 rx ry q) hm
def E8(t:TE):TT:=λσ H Q=>t σ H (Cb Q)
theorem adL{op:CmpOp}{r:R2}(ho:cY X (compareOp op) r)(ha:PE X a ta)(hb:PE X b tb)(hm:behindInMarks op b=false):PT X (.Compare a [op] [b] pos) (E8 (qQ r ta tb)):=by
 intro pins s σ H Q I h;refine wpAny_isTrue_Compare1 (aZ (ha pins s σ H _ I h) λv s1 ⟨x,H1,I1,r1,q1⟩=>aZ (hb pins s1 σ H1 _ I1 q1) λu s2 ⟨y,H2,I2,r2,q2⟩ =>
  aZ (ho pins s2 σ H2 x y v u _ I2 r1 r2 q2) λc s3 ⟨z,H3,I3,r3,k,e,q3⟩=>?_) hm
 subst e
 cases r3;exact wpAny_truthy_bool ⟨H3,I3,q3⟩
def QC(r r':R2)(ta tb tc:TE):TE:=λσ H Q=>ta σ H λx H1=>tb σ H1 λy H2=>r x y H2 λz H3=>∃k,z=.bl k /\
 (if k=true then tc σ H3 λw' H4=>r' y w' H4 Q else Q (.bl false) H3)
theorem v3{op qI:CmpOp}{r r':R2}(ho:cY X (compareOp op) r)(i4:cY X (compareOp qI) r')(ha:PE X a ta)(hb:PE X b tb)(hc:PE X c tc)
  (hm:lastMarks [op,qI] [b,c]=false:=by with_unfolding_all rfl):PE X (.Compare a [op,qI] [b,c] pos) (QC r r' ta tb tc):=by
 intro pins s σ H Q I h;refine Compare_chain (aZ (ha pins s σ H _ I h) λv s1 ⟨x,H1,I1,r1,q1⟩=>chain_link (aZ (hb pins s1 σ H1 _ I1 q1) λu s2 ⟨y,H2,I2,r2,q2⟩ =>
  aZ (ho pins s2 σ H2 x y v u _ I2 r1 r2 q2) λd s3 ⟨z,H3,I3,r3,k,e,q3⟩=>?_)) hm
 subst e
 cases r3;refine wpAny_truthy_bool ?_
 cases k with
 | false=>exact ite_ff ⟨.bl false,H3,I3,rfl,q3⟩
 | true=>exact ite_tt (chain_last (aZ (hc pins s3 σ H3 _ I3 q3) λw' s4 ⟨z',H4,I4,r4,q4⟩=>i4 pins s4 σ H4 y z' u w' Q I4 r2 r4 q4))
theorem EF{op qI:CmpOp}{r r':R2}(ho:cY X (compareOp op) r)(i4:cY X (compareOp qI) r')(ha:PE X a ta)(hb:PE X b tb)(hc:PE X c tc)
  (hm:lastMarks [op,qI] [b,c]=false:=by with_unfolding_all rfl):PT X (.Compare a [op,qI] [b,c] pos) (E8 (QC r r' ta tb tc)):=by
 intro pins s σ H Q I h;refine isTrue_chain (aZ (ha pins s σ H _ I h) λv s1 ⟨x,H1,I1,r1,q1⟩=>test_link (aZ (hb pins s1 σ H1 _ I1 q1) λu s2 ⟨y,H2,I2,r2,q2⟩ =>
  aZ (ho pins s2 σ H2 x y v u _ I2 r1 r2 q2) λd s3 ⟨z,H3,I3,r3,k,e,q3⟩=>?_)) hm
 subst e
 cases r3;refine wpAny_truthy_bool ?_
 cases k with
 | false =>
  obtain⟨k',e',q'⟩:=q3
  cases e';exact ite_ff ⟨H3,I3,q'⟩
 | true =>
  refine ite_tt (test_last (aZ (hc pins s3 σ H3 _ I3 q3) λw' s4 ⟨z',H4,I4,r4,q4⟩=>aZ (i4 pins s4 σ H4 y z' u w' _ I4 r2 r4 q4) λd' s5 ⟨z2,H5,I5,r5,k2,e2,q5⟩=>?_))
  subst e2
  cases r5;exact wpAny_truthy_bool ⟨H5,I5,q5⟩
def GP(K:aj)(x:V)(H:Hp)(k:Bool):Prop :=
 match x with
 | .aR=>k=false
 | .bl b=>k=b
 | .int i=>k=(i != 0)
 | .str y=>y.length<=sizeLine/\k=((y.length:Int) != 0)
 | .iX y=>y.size<=sizeLine/\k=((y.size:Int) != 0)
 | .ref p=>(∃xs,ai K H p xs/\k=!xs.isEmpty)\/(∃xs,av K H p xs/\k=!xs.isEmpty)\/∃cE,H p=some (.dK cE)/\k=!cE.isEmpty
 | _=>False
theorem ZD{κ:Type}{cE:List (κ×V)}{vs:List (κ×Value)}(r:KV cE vs):(!vs.isEmpty)=!cE.isEmpty:=by
 cases r<;>rfl
theorem Kg{xs:List V}{ao:List Value}(r:Vals xs ao):(!ao.toArray.isEmpty)=!xs.isEmpty:=by
 cases r<;>simp
theorem s_:(sizeLine:Nat)<2^63:=by rw[sizeLine_eq];decide
theorem agG:SI X (λx H Q=>∃k,GP X.K x H k/\Q k H):=by
 intro pins s σ H x v Q I rx h;obtain⟨k,e,q⟩:=h;have hl:=s_;have hs:sizeLine=16777216:=sizeLine_eq
 cases x with
 | aR =>
  cases rx;have e':k=false:=e;subst e';exact truthy_none ⟨H,I,q⟩
 | bl b =>
  cases rx;have e':k=b:=e;subst e';exact wpAny_truthy_bool ⟨H,I,q⟩
 | int i =>
  obtain⟨t,rfl⟩:=rx;have e':k=(i != 0):=e;subst e';exact PySem.P.truthy_int ⟨H,I,q⟩
 | str y =>
  obtain⟨t,rfl⟩:=rx;obtain⟨hy,e'⟩:y.length<=sizeLine/\k=((y.length:Int) != 0):=e;subst e';exact PySem.P.truthy_str (by omega) ⟨H,I.tok _,q⟩
 | iX y =>
  obtain⟨t,rfl⟩:=rx;obtain⟨hy,e'⟩:y.size<=sizeLine/\k=((y.size:Int) != 0):=e;subst e';exact PySem.W.truthy_bytes (by omega) ⟨H,I.tok _,q⟩
 | ref p =>
  cases rx;have e':(∃xs,ai X.K H p xs/\k=!xs.isEmpty)\/(∃xs,av X.K H p xs/\k=!xs.isEmpty)\/∃cE,H p=some (.dK cE)/\k=!cE.isEmpty:=e;rcases e' with ⟨xs,hx,e'⟩|⟨xs,hx,e'⟩|⟨cE,hx,e'⟩
  ·subst e'
   obtain⟨ao,r,pl,hz⟩:=I.list hx;have hlen:=r.length;exact wpAny_truthy_list pl.isList (by simp only[df];omega) ⟨H,I.tok _,by rw[Kg r];exact q⟩
  ·subst e'
   obtain⟨ao,r,pl,hz⟩:=I.tuple hx;have hlen:=r.length;exact truthy_tuple pl (by simp only[df];omega) ⟨H,I.tok _,by rw[Kg r];exact q⟩
  ·subst e'
   obtain⟨hz,hS,vs,r,m⟩:cE.length<=sizeLine/\(p==sysModules)=false/\∃vs,KV cE vs/\s.heap.DictOf (mI X.prog X.w) p vs:=I.aS p _ hx;have hlen:cE.length=vs.length:=Paired.length r;exact wpAny_truthy_dict hS m (by omega) ⟨H,I.tok _,by rw[ZD r];exact q⟩
 | _=>exact(show False from e).elim
theorem adM(ha:PE X a ta)(he:∀whole,isTrue a X.env whole=(do let v <-whole;standAt a.pos;holding [v] (truthy v))) :
  PT X a (λσ H Q=>ta σ H λx H'=>∃k,GP X.K x H' k/\Q k H'):=by
 intro pins s σ H Q I h;exact isTrue_plain (aZ (ha pins s σ H _ I h) λv s1 ⟨x,H1,I1,r1,q1⟩=>agG pins s1 σ H1 x v Q I1 r1 q1) (he _)
theorem bp:cY X (binaryOp .Add) (λx y H Q=>∃i j,x=.str i/\y=.str j/\i.length+j.length<=sizeLine/\Q (.str (i++j)) H):=by
 intro pins s σ H x y v u Q I rx ry h;obtain⟨i,j,rfl,rfl,hz,q⟩:=h;obtain⟨t,rfl⟩:=rx;obtain⟨t',rfl⟩:=ry;exact add_str (λt' tk=>⟨.str (i++j),H,I.tok _,⟨_,rfl⟩,q⟩) hz
theorem vals1{x:V}{us:List Value}(r:Vals [x] us):∃u,us=[u]/\RelV x u:=by
 cases r with
 | cons r1 r2=>cases r2;exact⟨_,rfl,r1⟩
theorem vals2{x y:V}{us:List Value}(r:Vals [x,y] us):∃u w',us=[u,w']/\RelV x u/\RelV y w':=by
 cases r with
 | cons r1 r2 =>
  cases r2 with
  | cons r3 r4=>cases r4;exact⟨_,_,rfl,r1,r3⟩
theorem UQ:gi X (.type "int") (λxs H Q=>(∃i,xs=[.int i]/\Q (.int i) H)\/∃k,xs=[.bl k]/\Q (.int (if k then 1 else 0)) H):=by
 intro pins s σ H xs us Q I r h;rcases h with ⟨i,rfl,q⟩|⟨k,rfl,q⟩
 ·obtain⟨u,rfl,t,rfl⟩:=vals1 r
  exact call_int_int ⟨.int i,H,I,⟨_,rfl⟩,q⟩
 ·obtain⟨u,rfl,r1⟩:=vals1 r
  cases r1;exact call_int_bool ⟨.int (if k then 1 else 0),H,I.tok _,⟨_,rfl⟩,q⟩
end
structure rD(h:Heap)(x dx C:Addr)(mA:Str->Option Value):Prop where
 obj:h.get? x=some (rb C dx)
 ns:h.Ns1 dx mA
 ne:dx≠x
theorem Kw{h:Heap}{dx:Addr}{mA:Str->Option Value}(n:h.Ns1 dx mA):∃od,h.get? dx=some od/\∀name,RV name od=some (mA name):=by
 obtain⟨o,es,ep,ho,hd,hk,_,hm⟩:=n;refine⟨o,ho,λname=>?_⟩
 have e:=hm name;unfold nsFind findBy at e;rw[<-Array.find?_toList] at e;unfold RV;rw[hd]
 try dsimp only
 split
 ·rename_i y q
  rw[q] at e;exact congrArg some e
 ·rename_i q
  rw[q] at e;have a:es.toList.any (·.refKey)=false:=by
   rw[aiv];intro y hy;obtain⟨z,t,Aq⟩:=hk y (aiE.mp hy);simp[DictEntry.refKey,Aq]
  have a':¬ es.toList.any (·.refKey)=true:=by rw[a];exact eo
  rw[if_neg a'];exact congrArg some e
theorem rD.look{h:Heap}{x dx C:Addr}{mA:Str->Option Value}(I:rD h x dx C mA):∃od,PySem.W.InstAt h x (rb C dx) C (some od)/\∀name,RV name od=some (mA name) :=
 let ⟨od,ho,hl⟩:=Kw I.ns
 ⟨od,⟨I.obj,rfl,rfl,ho⟩,hl⟩
section
variable{prog:Program}{w:World}{A:Around}{E:Value->Shared->Prop}{s:Shared}{K:aj}{x dx C f:Addr}{mA:Str->Option Value}{name:Str}{v:Value}
theorem get_map{expr:Bool}{Q:Value->Shared->Prop}(X:K.In s.heap)(I:rD s.heap x dx C mA)(hg:B4 K C name=true)(hh:pq K C=true)
  (ha:eg K (.ref C) name=some none) (hv:mA name=some v) (jr:aif v=true) (h:Q v { s with toks:=s.toks+1 }) :
  wpAny (model prog w) A (getAttr (.ref x) name expr) Q E s:=by
 obtain⟨od,J,hl⟩:=I.look;exact PySem.W.get_value X J (PySem.W.plainGet_of hg).1 (PySem.W.findObj_own hh ha rfl (by rw[hl,hv])) jr h
theorem aeu{ns:List Str}{Q:Unit->Shared->Prop}(X:K.In s.heap)(I:rD s.heap x dx C mA)
  (hs:eg K (.ref C) "__setattr__" = some (some (.builtin "object.__setattr__"))) (hp:Gn K C=true) (ht:RY K C name=some none) (hh:pq K C=true)
  (hw:Gq mA ns) (eM:ns.length<=sizeLine)
  (h:∀h',rD h' x dx C (λy=>if y=name then some v else mA y)->ra dx s.heap h'->Q () { s with heap:=h',toks:=s.toks+2 }) :
  wpAny (model prog w) A (setAttr (.ref x) name v) Q E s:=by
 obtain⟨od,J,hl⟩:=I.look;refine PySem.W.set_plain X J hs (PySem.W.osa_open (s:={ s with toks:=s.toks+1 }) (r:=none) X J hp ht λb=>?_)
 obtain⟨cd,hc,gu⟩:=PySem.W.any_some hh;have hx:s.heap.get? x=some ⟨.ref C,some dx,.plain,#[]⟩:=I.obj;refine wpAny_bind (wpAny_pure (wpAny_bind (wpAny_bind (wpAny_loadPart hx (wpAny_bind (ajV (s:={ s with toks:=s.toks+1 }) (PySem.W.looks_clsIn X hc) ?_))))))
 rw[gu];refine wpAny_pure (a:=some dx) (wpAny_bind (wpAny_pure (wpAny_bind ?_)));refine wpAny_nsSet1 (s:={ s with toks:=s.toks+1 }) I.ns λh' As JX=>?_
 obtain⟨oD,V8,V0,YV,Yt,Yq⟩:=As.count (Gq.cons name v hw);refine wpAny_bind (wpAny_lookBehind YV (by rw[Yt];exact pastItsLine_dict (b_ Yq (by rw[bF];omega))) ?_)
 exact wpAny_pure (h _ ⟨(JX.2 _ (Ne.symm I.ne)).trans I.obj,As,I.ne⟩ JX)
theorem aaK{R:Result->Shared->Prop}{vs:List Value}{kw:List (Str×Value)}(X:K.In s.heap)(hm:Gm K C=true)
  (hi:eg K (.ref C) "__init__" = some (some (.ref f))) (hf:PySem.W.typeIn K (.ref f)=some (.type "function"))
  (h:codeAny (model prog w) (A.under (.builtin "type.__call__" ⟨.ref C::vs,kw⟩)) (.call (.ref f) ⟨.ref (s.heap.objs.size+1)::vs,kw⟩) (PySem.W.InitBack (s.heap.objs.size+1) R)
   { s with heap:=(s.heap.push pk).push (rb C s.heap.objs.size) }) :
  codeAny (model prog w) A (.call (.ref C) ⟨vs,kw⟩) R s:=by
 obtain⟨hh,g,d,t,os⟩:=s;exact PySem.W.make_core (PySem.W.makes_of X hm) (PySem.W.looks_findIn X hi) (λself=>PySem.W.bind_fn X self hf) (.inl rfl) h
end
def d_(f:Str)(v:V):List (Str×V)->List (Str×V)
 | []=>[(f,v)]
 | (g,x)::r=>if g=f then (g,v)::r else (g,x)::d_ f v r
theorem Kx(f g:Str)(v:V):∀fs:List (Str×V),(d_ f v fs).lookup g=if g=f then some v else fs.lookup g
 | []=>by
  show l4 g [(f,v)]=_;by_cases h:g=f
  ·have hb:(g==f)=true:=beq_iff_eq.mpr h
   simp only[l4,hb,if_pos h]
  ·have hb:(g==f)=false:=beq_eq_false_iff_ne.mpr h
   simp only[l4,hb,if_neg h]
 | (k,x)::r=>by
  have ih:=Kx f g v r;rw[show d_ f v ((k,x)::r)=(if k=f then (k,v)::r else (k,x)::d_ f v r) from rfl]
  by_cases hk:k=f
  ·rw[if_pos hk]
   by_cases h:g=k
   ·have hb:(g==k)=true:=beq_iff_eq.mpr h
    simp only[l4,hb,if_pos (h.trans hk)]
   ·have hb:(g==k)=false:=beq_eq_false_iff_ne.mpr h
    simp only[l4,hb,if_neg (λe:g=f=>h (e.trans hk.symm))]
  ·rw[if_neg hk]
   by_cases h:g=k
   ·have hb:(g==k)=true:=beq_iff_eq.mpr h
    simp only[l4,hb,if_neg (λe:g=f=>hk (h.symm.trans e))]
   ·have hb:(g==k)=false:=beq_eq_false_iff_ne.mpr h
    simp only[l4,hb];exact ih
theorem DJ(f:Str)(v:V):∀fs:List (Str×V),f∈(d_ f v fs).map (·.1)/\∀g,g∈fs.map (·.1)->g∈(d_ f v fs).map (·.1)
 | []=>⟨by simp[d_],λg h=>by simp at h⟩
 | (k,x)::r=>by
  obtain⟨i1,i2⟩:=DJ f v r;rw[show d_ f v ((k,x)::r)=(if k=f then (k,v)::r else (k,x)::d_ f v r) from rfl]
  by_cases hk:k=f
  ·rw[if_pos hk]
   subst hk;exact⟨by simp,λg h=>by simpa using h⟩
  ·rw[if_neg hk]
   refine⟨?_,λg h=>?_⟩
   ·rw[jc]
    exact cP _ i1
   ·rw[jc] at h ⊢
    rcases bE.mp h with e|e
    ·exact bE.mpr (.inl e)
    ·exact cP _ (i2 g e)
theorem Kv(f:Str)(v:V):∀fs:List (Str×V),(d_ f v fs).length<=fs.length+1
 | []=>by simp[d_]
 | (k,x)::r=>by
  have ih:=Kv f v r;rw[show d_ f v ((k,x)::r)=(if k=f then (k,v)::r else (k,x)::d_ f v r) from rfl]
  by_cases hk:k=f
  ·rw[if_pos hk,bF,bF];omega
  ·rw[if_neg hk,bF,bF];omega
theorem pD.some_of{v:V}{o:Option Value}(r:pD (some v) o):∃u,o=some u/\RelV v u:=by
 cases o with
 | none=>exact(show False from r).elim
 | some u=>exact⟨u,rfl,r⟩
theorem Ym{v:V}{u:Value}(r:RelV v u):aif u=true:=by
 cases v with
 | aR=>cases (show u=pj from r);rfl
 | bl b=>cases (show u=wK b from r);rfl
 | int i=>obtain⟨t,e⟩:=(show ∃t,u=wL i t from r);cases e;rfl
 | str x=>obtain⟨t,e⟩:=(show ∃t,u=B2 x t from r);cases e;rfl
 | iX b=>obtain⟨t,e⟩:=(show ∃t,u=aid b t from r);cases e;rfl
 | pV b=>obtain⟨t,e⟩:=(show ∃t,u=RQ b t from r);cases e;rfl
 | ref a=>cases (show u=bM a from r);rfl
 | ty n=>cases (show u=um n from r);rfl
section
variable{P:Program}{w:World}{H H':Hp}{h h':Heap}{a C dx:Addr}{fs Wn:List (Str×V)}
theorem DF(aS:dM P w H h)(e:H a=some (.ins C dx fs)):∃mA,rD h a dx C mA/\(∀f,pD (fs.lookup f) (mA f))/\Gq mA (fs.map (·.1))/\fs.length<=1000/\H dx=some (.own a):=by
 obtain⟨d,z,ne,ob,mA,n,r,q⟩:=(show dN P w H h a (.ins C dx fs) from aS a _ e)
 exact⟨mA,⟨ob,n,ne⟩,r,q,z,d⟩
end
structure l6(K:aj)(C:Addr):Prop where
 pg:B4 K C ay=true
 hd:pq K C=true
 po:Gn K C=true
 sa:eg K (.ref C) "__setattr__" = some (some (.builtin "object.__setattr__"))
theorem l6.get{K:aj}{C:Addr}(c:l6 K C)(f:Str):B4 K C f=true:=c.pg
def fR(K:aj)(C:Addr)(f:Str):Prop:=eg K (.ref C) f=some none
theorem fR.agB{K:aj}{C:Addr}{f:Str}(n:fR K C f):RY K C f=some none:=by
 unfold RY;rw[show eg K (.ref C) f=some none from n]
 rfl
section
variable{X:Cx}{pins:List (Addr×Obj)}{σ:St}{H:Hp}{s:Shared}{a C dx:Addr}{fs:List (Str×V)}{f:Str}{v:V}{A:Around}{E:Value->Shared->Prop}
theorem Wx{b:Bool}{Q:Value->Shared->Prop}(I:Inv X pins σ H s)(e:H a=some (.ins C dx fs))(c:l6 X.K C)(n:fR X.K C f)(l:fs.lookup f=some v)
  (h:∀u s',Inv X pins σ H s'->RelV v u->Q u s'):wpAny (model X.prog X.w) A (getAttr (.ref a) f b) Q E s:=by
 obtain⟨mA,O,r,_,_,_⟩:=DF I.aS e;obtain⟨u,hu,ru⟩:=pD.some_of (v:=v) (o:=mA f) (by rw[<-l];exact r f)
 exact get_map I.cM O (c.get f) c.hd n hu (Ym ru) (h u _ (I.tok _) ru)
theorem aew{y:V}{u:Value}{Q:Unit->Shared->Prop}(I:Inv X pins σ H s)(e:H a=some (.ins C dx fs))(c:l6 X.K C)(n:fR X.K C f)(hl:fs.length<1000)(ry:RelV y u)
  (h:∀s',Inv X pins σ (upd H a (.ins C dx (d_ f y fs))) s'->Q () s'):wpAny (model X.prog X.w) A (setAttr (.ref a) f u) Q E s:=by
 obtain⟨mA,O,r,wi,_,ho⟩:=DF I.aS e;have hz:(fs.map (·.1)).length<=sizeLine:=by rw[aH,sizeLine_eq];omega
 refine aeu I.cM O c.sa c.po n.agB c.hd wi hz λh' O' sb=>h _ ?_
 have hd:∃o,h'.get? dx=some o:=let ⟨o,_,_,e',_⟩:=O'.ns;⟨o,e'⟩;refine I.write (x:=a) (e:=dx) (by rw[e];exact True.intro) (.inr ho) (λb q hb z=>(sb.2 b hb).trans z) hd ?_
 refine⟨by rw[bg O.ne];exact ho,?_,O.ne,O'.obj,_,O'.ns,λg=>?_,λg hg=>?_⟩
 ·have:=Kv f y fs;omega
 ·show pD ((d_ f y fs).lookup g) (if g=f then some u else mA g)
  rw[Kx];by_cases q:g=f
  ·rw[if_pos q,if_pos q];exact ry
  ·rw[if_neg q,if_neg q];exact r g
 ·by_cases q:g=f
  ·rw[q];exact(DJ f y fs).1
  ·refine(DJ f y fs).2 g (wi g λz=>hg ?_)
   show (if g=f then some u else mA g)=none
   rw[if_neg q];exact z
theorem Inv.made(I:Inv X pins σ H s):Inv X pins σ (upd (upd H s.heap.objs.size (.own (s.heap.objs.size+1))) (s.heap.objs.size+1) (.ins C s.heap.objs.size []))
  { s with heap:=(s.heap.push pk).push (rb C s.heap.objs.size) }:=by
 have e1:(s.heap.push pk).get? s.heap.objs.size=some pk:=fN s.heap rfl;have e2:((s.heap.push pk).push (rb C s.heap.objs.size)).get? (s.heap.objs.size+1)=some (rb C s.heap.objs.size):=by
  have:=fN (s.heap.push pk) (o:=rb C s.heap.objs.size) rfl
  rwa [j3] at this
 have e3:(s.heap.push pk).Ns s.heap.objs.size (λ_=>none):=⟨pk,#[],_,e1,rfl,(λe he=>absurd he (by simp)),λ_=>rfl⟩
 have I1:=I.laid (a:=s.heap.objs.size) (o:=.own (s.heap.objs.size+1)) (h':=s.heap.push pk) (t':=s.toks) (λb u q=>cJ _ q) (bH _) ⟨_,e1⟩
 refine I1.laid (a:=s.heap.objs.size+1) (o:=.ins C s.heap.objs.size []) (t':=s.toks) (λb u q=>cJ _ q) (Nat.le_of_eq (j3 _ _)) ?_
 have ne:s.heap.objs.size≠s.heap.objs.size+1:=cQ (oZ _);refine⟨by rw[bg ne,aA],dy _,ne,e2,λ_=>none,(ah8 e3).at λo q=>cJ _ q,λ_=>True.intro,λy hy=>absurd rfl hy⟩
theorem CC{prog:Program}{w:World}{env:Env}{e:Expr}{f:Str}{pos:Pos}{s:Shared}{Q:Value->Shared->Prop}(hb:attributeBase e f env (eval e env)=eval e env)
  (h:wpAny (model prog w) A (eval e env) (λo br=>wpAny (model prog w) A (getAttr o f true) Q E br) E s):wpAny (model prog w) A (eval (.Attribute e f pos) env) Q E s :=
 Attribute_any_ h (by rw[arm_eval_Attribute,hb])
end
inductive GD(K:aj)(f:Str)(Q:VK)(x:V)(H:Hp):Prop
 | mk:∀a C dx fs v,(x=.ref a)->(H a=some (.ins C dx fs))->(l6 K C)->(fR K C f)->(fs.lookup f=some v)->(Q v H)->GD K f Q x H
def QD(K:aj)(ta:TE)(f:Str):TE:=λσ H Q=>ta σ H (GD K f Q)
def aei(K:aj)(ta tv:TE)(f:Str):TS:=λD σ H=>tv σ H λy H1=>ta σ H1 λx H2=>∃a C dx fs,x=.ref a/\H2 a=some (.ins C dx fs)/\l6 K C/\fR K C f/\fs.length<1000 /\
 D.nx σ (upd H2 a (.ins C dx (d_ f y fs)))
section
variable{X:Cx}{o e value:Expr}{f:Str}{pos pos' ajE:Pos}{ta tv:TE}
theorem adh(he:PE X e ta)(hb:attributeBase e f X.env (eval e X.env)=eval e X.env):PE X (.Attribute e f pos) (QD X.K ta f):=by
 intro pins s σ H Q I h;refine CC hb (aZ (he pins s σ H _ I h) λu s1 ⟨x,H1,I1,rx,a,C,dx,fs,v,ex,ea,c,n,l,q⟩=>?_)
 subst ex;obtain rfl:u=bM a:=rx;exact Wx I1 ea c n l λu' s2 I2 ru=>⟨v,H1,I2,ru,q⟩
theorem lK(ha:PE X o ta)(hv:PE X value tv)(hs:swapsWith value (some (.Attribute o f pos')) pos.line X.env=pure false):PS X (.Assign [.Attribute o f pos'] value pos) (aei X.K ta tv f):=by
 intro pins s σ H D I h;refine plainObj_wpAny_Assign_Attribute (aZ (hv pins s σ H _ I h) λu s1 ⟨y,H1,I1,ry,q⟩=>aZ (ha pins s1 σ H1 _ I1 q) λov s2 ⟨x,H2,I2,rx,a,C,dx,fs,ex,ea,c,n,l,q2⟩=>?_) hs
 subst ex;obtain rfl:ov=bM a:=rx;exact aew I2 ea c n l ry λs3 I3=>⟨σ,_,I3,q2⟩
end
section
variable{X:Cx}{pins:List (Addr×Obj)}{σ:St}{H:Hp}{s:Shared}{A:Around}{E:Value->Shared->Prop}{Q:Value->Shared->Prop}{c:Value}{b:Bool}
inductive je(K:aj)(H:Hp):V->Value->Prop where
 | aR:je K H .aR (.type "NoneType")
 | bl (x:Bool):je K H (.bl x) (.type "bool")
 | int (i:Int):je K H (.int i) (.type "int")
 | str (x:Str):je K H (.str x) (.type "str")
 | pV (x:UInt64):je K H (.pV x) (.type "float")
 | lst {a:Addr} {xs:List V} (e:H a=some (.lst xs)):je K H (.ref a) (.type "list")
 | iF {a:Addr} {o:Obj} {xs:List V} (e:H a=some (.iF o (.lst xs))):je K H (.ref a) (.type "list")
 | tup {a:Addr} {xs:List V} (e:H a=some (.tup xs)):je K H (.ref a) (.type "tuple")
 | dK {a:Addr} {cE:List (Key×V)} (e:H a=some (.dK cE)):je K H (.ref a) (.type "dict")
 | dT {a:Addr} {cE:List (List Key×V)} (e:H a=some (.dT cE)):je K H (.ref a) (.type "dict")
 | ins {a C dx:Addr} {fs:List (Str×V)} (e:H a=some (.ins C dx fs)) (cl:l6 K C) (ha:eg K (.ref C) "__class__" = some (some (.builtin "object.__class__")))
   (hn:RX K (.builtin "object.__class__") "__get__" = some (some (.builtin "getset_descriptor.__get__"))) (J2:aio K (.builtin "object.__class__")=some true)
   (hm:PySem.W.mroIn K C (.type "object")=some true):je K H (.ref a) (.ref C)
theorem ZG{x:V}{u t:Value}(I:Inv X pins σ H s)(rx:RelV x u)(ty:je X.K H x t)(e:pz X.K t c=some b)(h:∀tk,Q (.bool b) { s with toks:=tk }) :
  wpAny (model X.prog X.w) A (call (.builtin "isinstance") [u,c]) Q E s:=by
 cases ty with
 | aR=>cases (show u=pj from rx);exact lX PySem.W.kitx_none I.cM True.intro e (λz=>nomatch z) h
 | bl y=>cases (show u=wK y from rx);exact lX PySem.W.kitx_bool I.cM True.intro e (λz=>nomatch z) h
 | int i=>obtain⟨t,q⟩:=(show ∃t,u=wL i t from rx);cases q;exact lX PySem.W.kitx_int I.cM True.intro e (λz=>nomatch z) h
 | str y=>obtain⟨t,q⟩:=(show ∃t,u=B2 y t from rx);cases q;exact lX PySem.W.kitx_str I.cM True.intro e (λz=>nomatch z) h
 | pV y=>obtain⟨t,q⟩:=(show ∃t,u=RQ y t from rx);cases q;exact lX PySem.W.kitx_float I.cM True.intro e (λz=>nomatch z) h
 | @lst a xs ea =>
  cases (show u=bM a from rx)
  obtain⟨_,_,n,_,h1⟩:=(show dN X.prog X.w H s.heap a (.lst xs) from I.aS a _ ea)
  exact lX ail I.cM ⟨_,h1,rfl⟩ e (λz=>nomatch z) h
 | @iF a ob xs ea =>
  cases (show u=bM a from rx)
  obtain⟨_,_,_,n,_,h1⟩:=(show dN X.prog X.w H s.heap a (.iF ob (.lst xs)) from I.aS a _ ea)
  exact lX ail I.cM ⟨_,h1,rfl⟩ e (λz=>nomatch z) h
 | @tup a xs ea =>
  cases (show u=bM a from rx)
  obtain⟨_,_,_,p⟩:=(show dN X.prog X.w H s.heap a (.tup xs) from I.aS a _ ea)
  obtain⟨o,h1,h2,_⟩:=p;exact lX PySem.W.kitx_tuple I.cM ⟨o,h1,h2⟩ e (λz=>nomatch z) h
 | @dK a cE ea =>
  cases (show u=bM a from rx)
  obtain⟨_,_,vs,_,p⟩:=(show dN X.prog X.w H s.heap a (.dK cE) from I.aS a _ ea)
  obtain⟨o,es,ep,h1,h2,_⟩:=p;exact lX aik I.cM ⟨o,h1,h2.1⟩ e (λz=>nomatch z) h
 | @dT a cE ea =>
  cases (show u=bM a from rx)
  obtain⟨_,_,xs,_,o,es,ep,h1,h2,_⟩:=(show dN X.prog X.w H s.heap a (.dT cE) from I.aS a _ ea)
  exact lX aik I.cM ⟨o,h1,h2.1⟩ e (λz=>nomatch z) h
 | @ins a C dx fs ea cl ha hn J2 hm =>
  cases (show u=bM a from rx)
  obtain⟨mA,O,_⟩:=DF I.aS ea;obtain⟨od,J,_⟩:=O.look;exact lX (PySem.W.kitx_own (cl.get _) cl.hd ha hn J2 hm) I.cM J e (λz=>nomatch z) h
end
structure cZ(k:Nat)(A:Around):Prop where
 hd:A.handled=none
 dp:A.depth+3*k+5<recursionLimit
 un:A.units+16*k+200<cLine
theorem cZ.mono{j k:Nat}{A:Around}(r:cZ k A)(h:j<=k):cZ j A:=⟨r.hd,by have:=r.dp;omega,by have:=r.un;omega⟩
theorem cZ.deeper{k:Nat}{A:Around}(r:cZ (k+1) A)(env:Env):cZ k (A.deeper env) :=
 ⟨r.hd,by have:=r.dp;show A.depth+1+3*k+5<_;omega,by have:=r.un;show A.units+3+16*k+200<_;omega⟩
theorem aaJ{A:Around}{C:Addr}{us:List Value}{kw:List (Str×Value)}:(A.under (.builtin "type.__call__" ⟨.ref C::us,kw⟩)).depth=A.depth+1:=by
 first|rfl|simp[Around.under,Code.weight,Code.isCreation,Code.isGuard,Code.isCaller,Code.frames,Code.isFrame,guardIds]
theorem aaL{A:Around}{C:Addr}{us:List Value}{kw:List (Str×Value)}:(A.under (.builtin "type.__call__" ⟨.ref C::us,kw⟩)).units=A.units+1:=by
 first|rfl|simp[Around.under,Code.cUnits,Code.frames,Code.isFrame]
theorem cZ.make{k:Nat}{A:Around}(r:cZ (k+1) A)(C:Addr)(us:List Value)(kw:List (Str×Value)):cZ k (A.under (.builtin "type.__call__" ⟨.ref C::us,kw⟩)) :=
 ⟨r.hd,by have:=r.dp;rw[aaJ];omega,by have:=r.un;rw[aaL];omega⟩
theorem cZ.depth{k:Nat}{A:Around}(r:cZ k A):A.depth<recursionLimit:=by have:=r.dp;omega
theorem cZ.FI{k:Nat}{A:Around}(r:cZ k A):A.units<cLine:=by have:=r.un;omega
def tX:TA:=λ_ H Q=>Q [] H
def mX(ta:TE)(tr:TA):TA:=λσ H Q=>ta σ H λx H1=>tr σ H1 λxs H2=>Q (x::xs) H2
section
variable{X:Cx}{e:Expr}{es:List Expr}{te:TE}{t:TA}{pos:Pos}
theorem jV:PA X [] tX:=λ_ _ _ _ H Q I h=>Calls.spliced_nil ⟨[],H,I,.nil,h⟩
theorem bP(ha:PE X e te)(hr:PA X es t)(hs:starEach (e::es) X.env=(false,eval e X.env)::starEach es X.env:=by rfl):PA X (e::es) (mX te t):=by
 intro pos pins s σ H Q I h;rw[hs];show wpAny _ _ (spliced ((false,eval e X.env)::backTo pos (starEach es X.env))) _ _ s;refine Calls.spliced_cons (aZ (ha pins s σ H _ I h) λu s1 ⟨x,H1,I1,r1,q1⟩=>?_)
 exact aZ (hr pos pins s1 σ H1 _ I1 q1) λus s2 ⟨xs,H2,I2,r2,q2⟩=>⟨x::xs,H2,I2,.cons r1 r2,q2⟩
def afu(t:TA):TE:=λσ H Q=>t σ H λxs H1=>xs.length<=sizeLine/\∀p,H1 p=none->Q (.ref p) (upd H1 p (.tup xs))
def aff(t:TA):TE:=λσ H Q=>t σ H λxs H1=>xs.length<=sizeLine/\∀p,H1 p=none->Q (.ref p) (upd H1 p (.lst xs))
theorem dR{x1}(h:PA X es t):PE X (.Tuple es x1 pos) (afu t):=by
 intro pins s σ H Q I hq;refine wpAny_Tuple_spliced (aZ (h pos pins s σ H _ I hq) λus s1 ⟨xs,H1,I1,r,z,q⟩=>⟨by rw[<-r.length];exact z,?_⟩)
 have hf:H1 s1.heap.objs.size=none:=I1.aS.fresh (bH _);refine⟨.ref s1.heap.objs.size,upd H1 s1.heap.objs.size (.tup xs),I1.laid (t':=s1.toks) (λb u e=>cJ _ e) (bH _) ?_,rfl,q _ hf⟩
 exact⟨z,us,r,⟨_,fN _ rfl,rfl,_,rfl⟩⟩
theorem bB(h:PA X es t):PE X (.List es pos) (aff t):=by
 intro pins s σ H Q I hq;refine wpAny_List_spliced (aZ (h pos pins s σ H _ I hq) λus s1 ⟨xs,H1,I1,r,z,q⟩=>⟨by rw[<-r.length];exact z,?_⟩)
 have hf:H1 s1.heap.objs.size=none:=I1.aS.fresh (bH _);refine⟨.ref s1.heap.objs.size,upd H1 s1.heap.objs.size (.lst xs),I1.laid (t':=s1.toks) (λb u e=>cJ _ e) (bH _) ?_,rfl,q _ hf⟩
 exact⟨z,us,0,r,fN _ rfl⟩
end
abbrev Sp:=List V->Hp->VK->XK->Prop
abbrev hU:=List Env->Hp->Shared->XK->Value->Shared->Prop
structure pB(P:Program)(w:World)(K:aj)(mg:Str->Option Value)(base:Heap)(A:Around)(outer:List Env)(s:Shared)(H:Hp):Prop where
 frames:A.frames=some outer
 mod:Mod K mg base
 bs:∀b o,base.get? b=some o->s.heap.get? b=some o/\H b=none
 iW:base.objs.size<=s.heap.objs.size
 ic:s.heap.FunFrames base outer
 ly:∀b∈cx outer,H b=none
 aS:dM P w H s.heap
 bare:AllBare s.gens
def CE(outer:List Env)(P:Program)(w:World)(H:Hp)(s:Shared)(Q:VK)(u:Value)(s':Shared):Prop :=
 ∃v H',s'.os=s.os/\AllBare s'.gens/\Un (cx outer) [] H H' s.heap s'.heap/\dM P w H' s'.heap/\RelV v u/\Q v H'
def CR(CX:hU)(outer:List Env)(P:Program)(w:World)(H:Hp)(s:Shared)(Q:VK)(E:XK)(r:Result)(s':Shared):Prop :=
 match r with
 | .ok (.ret u)=>CE outer P w H s Q u s'
 | .ok _=>False
 | .error e=>CX outer H s E e s'
structure ax(P:Program)(w:World)(K:aj)(mg:Str->Option Value)(base:Heap)(CX:hU)(k:Nat)(f:Addr)(fd:FuncData)(ps:List Str)(sp:Sp):Prop where
 len:∀vs H Q E,sp vs H Q E->vs.length=ps.length
 run:∀(A:Around) (outer:List Env) (s:Shared) (H:Hp) (args:Args) (us:List Value) (vs:List V) (Q:VK) (E:XK),cZ k A->pB P w K mg base A outer s H->BindsTo s fd args (ps.zip us)->Vals vs us->sp vs H Q E ->
  codeAny (model P w) A (.call (.ref f) args) (CR CX outer P w H s Q E) s
theorem pB.make{P:Program}{w:World}{K:aj}{mg:Str->Option Value}{base:Heap}{A:Around}{outer:List Env}{s:Shared}{H:Hp}(e:pB P w K mg base A outer s H)(C:Addr)(us:List Value)(kw:List (Str×Value)) :
  pB P w K mg base (A.under (.builtin "type.__call__" ⟨.ref C::us,kw⟩)) outer s H:=⟨by first|exact e.frames|(simpa [Around.under,Code.envs,Code.isFrame,pushEnvs] using e.frames),e.mod,e.bs,e.iW,e.ic,e.ly,e.aS,e.bare⟩
section
variable{X:Cx}{pins:List (Addr×Obj)}{σ:St}{H:Hp}{s s':Shared}
theorem Inv.zh(I:Inv X pins σ H s):pB X.prog X.w X.K X.mg X.base X.A X.stack s H :=
 ⟨I.ok.frames,I.ok.mod,I.bs,b_ I.ok.iW I.sz,I.stack,I.Bm,I.aS,I.bare⟩
theorem Inv.after{Q:VK}{u:Value}(I:Inv X pins σ H s)(h:CE X.stack X.prog X.w H s Q u s'):EP X pins σ Q u s':=by
 obtain⟨v,H',os,bare,un,aS,r,q⟩:=h;obtain⟨hh,g,d,t,vY⟩:=s';obtain rfl:vY=s.os:=os;exact⟨v,H',I.call (h':=hh) (g':=g) (d':=d) (t':=t) (ch:=[]) un aS bare (λb z=>absurd z (by simp)),r,q⟩
end
def Qz(sp:Sp)(eK:List V)(E:XK)(t:TA):TE:=λσ H Q=>t σ H λvs H1=>sp (vs++eK) H1 Q E
def afg(C:Addr)(sp:Sp)(eK:List V)(E:XK)(t:TA):TE:=λσ H Q=>t σ H λvs H1=>∀x dx,H1 x=none->H1 dx=none->dx≠x ->
 sp (.ref x::(vs++eK)) (upd (upd H1 dx (.own x)) x (.ins C dx [])) (λv H2=>v=.aR/\Q (.ref x) H2) E
def Binds(K:aj)(fd:FuncData)(ps:List Str)(ds:List Value):Prop :=
 ∀(s:Shared) (us:List Value),K.In s.heap->(us++ds).length=ps.length->BindsTo s fd ⟨us,[]⟩ (ps.zip (us++ds))
theorem Binds.all{K:aj}{fd:FuncData}{ps:List Str}(h:∀us:List Value,us.length=ps.length->bindArgs fd ⟨us,[]⟩=pure (ps.zip us)):Binds K fd ps []:=λs us _ hl=>by
 rw[eY] at hl ⊢;exact .of_eq (h us hl)
def Passes(CX:hU)(X:Cx)(E:XK):Prop:=∀(pins:List (Addr×Obj)) (σ:St) (H:Hp) (s:Shared) (e:Value) (s':Shared),Inv X pins σ H s->CX X.stack H s E e s'->X.xe e s'
section
variable{X:Cx}{CX:hU}{k:Nat}{f C:Addr}{fd:FuncData}{ps:List Str}{sp:Sp}{eK:List V}{ds:List Value}{E:XK}{x m:Str}{p pos apos:Pos}{e o:Expr}{es:List Expr}{ta:TE}{t:TA}
theorem ET{pins:List (Addr×Obj)}{σ:St}{H:Hp}{s:Shared}{Q:VK}{us:List Value}{vs:List V}(F:ax X.prog X.w X.K X.mg X.base CX k f fd ps sp)(hr:cZ k X.A)(hb:Binds X.K fd ps ds)(hd:Vals eK ds)(hx:Passes CX X E)
  (I:Inv X pins σ H s) (r:Vals vs us) (h:sp (vs++eK) H Q E):wpAny (model X.prog X.w) X.A (call (.ref f) us) (EP X pins σ Q) X.xe s:=by
 have r2:Vals (vs++eK) (us++ds):=r.append hd;have hl:(us++ds).length=ps.length:=by rw[<-r2.length];exact F.len _ _ _ _ h
 refine wpAny_call (codeAny_mono (F.run X.A X.stack s H ⟨us,[]⟩ (us++ds) (vs++eK) Q E hr I.zh (hb s us I.cM hl) r2 h) λr s' hq=>?_)
 cases r with
 | error e=>exact hx pins σ H s e s' I hq
 | ok fl =>
  cases fl with
  | ret u=>exact I.after hq
  | next=>exact False.elim hq
  | brk=>exact False.elim hq
  | cont=>exact False.elim hq
theorem ada(F:ax X.prog X.w X.K X.mg X.base CX k f fd ps sp)(hr:cZ k X.A)(hg:Gl X x)(hm:X.mg x=some (.ref f))(hk:jz X.K (.ref f)=true)(hb:Binds X.K fd ps ds)(hd:Vals eK ds)(hx:Passes CX X E)
  (ha:PA X (e::es) t) (cG:(x==("__debug__" : Str))=false:=by decide) (he:starEach (e::es) X.env=(false,eval e X.env)::starEach es X.env:=by rfl) (cL:(backTo pos (starEach es X.env)).any (·.1)=false:=by rfl) :
  PE X (.Call (.Name x p) (e::es) [] pos) (Qz sp eK E t):=by
 intro pins s σ H Q I h;refine wpAny_Call_Name_kw (oy I hg hm ?_ cG);refine B3 (h₀:=X.base) I.ok.mod.jv hk (aZ (ha pos pins s σ H _ I h) λus s1 ⟨vs,H1,I1,r,q⟩=>⟨I1.cM,?_⟩) he cL
 exact ET F hr hb hd hx I1 r q
structure Mk(K:aj)(C f:Addr):Prop where
 makes:Gm K C=true
 init:eg K (.ref C) "__init__" = some (some (.ref f))
 fn:Gk K (.ref f)=true
 kp:jz K (.ref C)=true
theorem aeg{pins:List (Addr×Obj)}{σ:St}{H:Hp}{s:Shared}{Q:VK}{us:List Value}{vs:List V}(M:Mk X.K C f)(F:ax X.prog X.w X.K X.mg X.base CX k f fd ps sp)(hr:cZ (k+1) X.A)(hb:Binds X.K fd ps ds)(hd:Vals eK ds)
  (hx:Passes CX X E) (I:Inv X pins σ H s) (r:Vals vs us)
  (h:∀x dx,H x=none->H dx=none->dx≠x->sp (.ref x::(vs++eK)) (upd (upd H dx (.own x)) x (.ins C dx [])) (λv H2=>v=.aR/\Q (.ref x) H2) E) :
  wpAny (model X.prog X.w) X.A (call (.ref C) us) (EP X pins σ Q) X.xe s:=by
 have hq:=h (s.heap.objs.size+1) s.heap.objs.size (I.aS.fresh (lU _)) (I.aS.fresh (bH _)) (cQ (oZ _));have I2:=Inv.made (C:=C) I;have r2:Vals (V.ref (s.heap.objs.size+1)::(vs++eK)) (bM (s.heap.objs.size+1)::(us++ds)):=.cons rfl (r.append hd);have hl:(bM (s.heap.objs.size+1)::us++ds).length=ps.length:=by
  have e:=r2.length;rw[F.len _ _ _ _ hq] at e;exact e.symm
 refine wpAny_call (aaK (f:=f) I.cM M.makes M.init (beq_iff_eq.mp M.fn) (codeAny_mono (F.run _ X.stack _ _ ⟨bM (s.heap.objs.size+1)::us,[]⟩ (bM (s.heap.objs.size+1)::(us++ds)) _ _ E (hr.make C us [])
  (I2.zh.make C us []) (hb _ (bM (s.heap.objs.size+1)::us) I2.cM hl) r2 hq) λr s' ko=>?_))
 cases r with
 | error e=>exact hx pins σ _ _ e s' I2 ko
 | ok fl =>
  cases fl with
  | ret u =>
   obtain⟨v,H',I3,rv,ev,q3⟩:=I2.after ko;subst ev;exact⟨rv,⟨V.ref (s.heap.objs.size+1),H',I3,rfl,q3⟩⟩
  | next=>exact False.elim ko
  | brk=>exact False.elim ko
  | cont=>exact False.elim ko
theorem LY(M:Mk X.K C f)(F:ax X.prog X.w X.K X.mg X.base CX k f fd ps sp)(hr:cZ (k+1) X.A)(hg:Gl X x)(hm:X.mg x=some (.ref C))(hb:Binds X.K fd ps ds)(hd:Vals eK ds)(hx:Passes CX X E)
  (ha:PA X (e::es) t) (cG:(x==("__debug__" : Str))=false:=by decide) (he:starEach (e::es) X.env=(false,eval e X.env)::starEach es X.env:=by rfl) (cL:(backTo pos (starEach es X.env)).any (·.1)=false:=by rfl) :
  PE X (.Call (.Name x p) (e::es) [] pos) (afg C sp eK E t):=by
 intro pins s σ H Q I h;refine wpAny_Call_Name_kw (oy I hg hm ?_ cG);refine B3 (h₀:=X.base) I.ok.mod.jv M.kp (aZ (ha pos pins s σ H _ I h) λus s1 ⟨vs,H1,I1,r,q⟩=>⟨I1.cM,?_⟩) he cL
 exact aeg M F hr hb hd hx I1 r q
end
section
variable{X:Cx}{CX:hU}{k:Nat}{f C:Addr}{fd:FuncData}{ps ks:List Str}{sp:Sp}{E:XK}{x m:Str}{p pos apos aji:Pos}{e o:Expr}{es:List Expr}{kws:List Keyword}{te ta:TE}{t tk:TA}{nm:Option Str}
variable{g:List Value->List Value->List Value}{gV:List V->List V->List V}
end
structure l8(N P:List Str)(sc:Scope):Prop where
 kind:sc.kind=.function
 co:sc.isCoroutine=false
 gen:sc.isGenerator=false
 nd:N.Nodup
 pre:N.take P.length=P
 par:∀x∈P,sc.names.lookup x=some .local\/sc.names.lookup x=some .cell
 abh:∀y∈sc.names,y.2≠.free
theorem Hc{kindOf:Str->Option NameKind}{x:Str}:∀{binds:List (Str×Value)} {m:Str->Option Value},(∀v,(x,v)∉binds)->bindL kindOf binds m x=m x
 | [],_,_=>rfl
 | (n,v)::r,m,h=>by
  unfold bindL;rw[Hc λw hw=>h w (cP _ hw)]
  split
  ·have:x≠n:=by rintro rfl;exact h v cB
   simp[this]
  ·rfl
theorem G_{kindOf:Str->Option NameKind}{x:Str}:∀{binds:List (Str×Value)} {m:Str->Option Value},(∀v,(x,v)∉binds)->bindC kindOf binds m x=m x
 | [],_,_=>rfl
 | (n,v)::r,m,h=>by
  unfold bindC;rw[G_ λw hw=>h w (cP _ hw)]
  split
  ·rfl
  ·have:x≠n:=by rintro rfl;exact h v cB
   simp[this]
theorem Hb{kindOf:Str->Option NameKind}{x:Str}{v:Value}:∀{P:List Str} {vs:List Value} {i:Nat} {m:Str->Option Value},P.Nodup->P[i]?=some x->vs[i]?=some v->kindOf x=some .local ->
  bindL kindOf (P.zip vs) m x=some v
 | [],_,_,_,_,h,_,_=>by simp at h
 | _::_,[],_,_,_,_,h,_=>by simp at h
 | p::P,w::vs,0,m,nd,h1,h2,hk=>by
  simp at h1 h2;subst h1;subst h2;show bindL kindOf ((p,w)::P.zip vs) m p=_;unfold bindL;rw[Hc λv hv=>(F7.mp nd).1 (RE hv).1,if_pos hk]
  simp
 | p::P,w::vs,i+1,m,nd,h1,h2,hk=>by
  show bindL kindOf ((p,w)::P.zip vs) m x=_;unfold bindL;exact Hb (i:=i) (F7.mp nd).2 (by simpa using h1) (by simpa using h2) hk
theorem G9{kindOf:Str->Option NameKind}{x:Str}{v:Value}:∀{P:List Str} {vs:List Value} {i:Nat} {m:Str->Option Value},P.Nodup->P[i]?=some x->vs[i]?=some v->kindOf x≠some .local ->
  bindC kindOf (P.zip vs) m x=some v
 | [],_,_,_,_,h,_,_=>by simp at h
 | _::_,[],_,_,_,_,h,_=>by simp at h
 | p::P,w::vs,0,m,nd,h1,h2,hk=>by
  simp at h1 h2;subst h1;subst h2;show bindC kindOf ((p,w)::P.zip vs) m p=_;unfold bindC;rw[G_ λv hv=>(F7.mp nd).1 (RE hv).1,if_neg hk]
  simp
 | p::P,w::vs,i+1,m,nd,h1,h2,hk=>by
  show bindC kindOf ((p,w)::P.zip vs) m x=_;unfold bindC;exact G9 (i:=i) (F7.mp nd).2 (by simpa using h1) (by simpa using h2) hk
def start(N:List Str)(vs:List V):St:=vs.map some++zalias133z (N.length-vs.length) none
def eJ(CX:hU)(P:Program)(w:World)(K:aj)(mg:Str->Option Value)(base:Heap)(N:List Str)(qual:Str)(scope:Scope)(f:Addr)(cd:Value)(A:Around)(outer:List Env)(s:Shared)(H:Hp)(E:XK):Cx where
 prog:=P
 w:=w
 K:=K
 mg:=mg
 base:=base
 A:=A.deeper (envOfC qual scope s.heap.objs.size f cd)
 N:=N
 dq:=s
 rA:=H
 env:=envOfC qual scope s.heap.objs.size f cd
 outer:=outer
 stack:=envOfC qual scope s.heap.objs.size f cd::outer
 ex:=[]
 calm:=true
 fn:=λ_=>true
 pn:=[]
 xe:=λe s'=>wpAny (model P w) (A.deeper (envOfC qual scope s.heap.objs.size f cd)) (leaving (envOfC qual scope s.heap.objs.size f cd) e) (λ_ f_=>CX outer H s E e f_) (λe' f_=>CX outer H s E e' f_) s'
theorem HD{sc:Scope}{n:Nat}{x:Str}(h:sc.names.lookup x=some .cell):∃c,(cellsFrom n sc.names []).lookup x=some c:=by
 have q:=Gj sc.names n [] (.inl h);exact Gb.mp q
theorem ZC{CX:hU}{P:Program}{w:World}{K:aj}{mg:Str->Option Value}{base:Heap}{N ps:List Str}{qual:Str}{scope:Scope}{f:Addr}{cd:Value}{A:Around}{outer:List Env}{s s1:Shared}{H:Hp}{E:XK}{us:List Value}{vs:List V}
  (S:l8 N ps scope) (hd:A.handled=none) (e0:pB P w K mg base A outer s H) (hl:vs.length=ps.length) (r:Vals vs us)
  (x:InCallC s s.heap.objs.size (bindL (envOfC qual scope s.heap.objs.size f cd).kindOf (ps.zip us) λ_=>none) (cellsFrom (s.heap.objs.size+1) scope.names []) (bindC (envOfC qual scope s.heap.objs.size f cd).kindOf (ps.zip us) λ_=>none) s1) :
  Inv (eJ CX P w K mg base N qual scope f cd A outer s H E) [] (start N vs) H s1:=by
 have cL:ps.length<=N.length:=by have:=congrArg ri S.pre;rw[lZ] at this;omega
 obtain⟨h1,tk,rfl,hk⟩:=x.done;have vR:∀b:Addr,b∉(eJ CX P w K mg base N qual scope f cd A outer s H E).ex:=λb z=>absurd (show b∈([]:List Addr) from z) (by simp)
 refine⟨⟨e0.mod,S.kind,rfl,rfl,bH _,λy z c h1 h2=>?_,λy hy=>?_,λy c _ h=>?_,λ_=>hd,Around.frames_deeper e0.frames,.inr ⟨rfl,rfl⟩,λb z=>absurd z (vR b),e0.bs,e0.iW,λb _ _=>vR b,λb z=>absurd z (vR b),e0.ic,e0.ly⟩,
  rfl,e0.bare,Un.kept hk,⟨_,x.toInCall.ns,λi y v h1 h2 h3=>?_⟩,λy c h=>⟨_,x.cell y c h⟩,e0.aS.fresh (bH _),λy c h=>?_,λp hp=>absurd (show p∈([]:List (Addr×Obj)) from hp) (by simp),e0.aS.kept hk,?_⟩
 ·exact name_of_addr x.apart (gD h1) (gD h2)
 ·have hy:scope.names.lookup y=some .cell\/scope.names.lookup y=some .free:=hy
  rcases hy with hy|hy
  ·exact HD hy
  ·exact absurd rfl (S.abh _ (gD hy))
 ·exact ud (x.above y c (gD h))
 ·have hi:i<vs.length:=by
   unfold start at h2;by_cases hi:i<vs.length
   ·exact hi
   ·rw[Sg (by simpa using hi)] at h2
    rw[Sh] at h2
    split at h2<;>cases h2
  have ha:vs[i]?=some v:=by
   unfold start at h2;rw[Sf (by simpa using hi),eu] at h2
   cases e:vs[i]? with
   | none=>rw[e] at h2;cases h2
   | some a=>rw[e] at h2;cases h2;rfl
  obtain⟨u,hu,rv⟩:=r.get ha;have hp:ps[i]?=some y:=by
   rw[<-S.pre,List.getElem?_take_of_lt (by omega)];exact h1
  have KP:ps.Nodup:=by rw[<-S.pre];exact S.nd.sublist (RG _ _)
  refine⟨u,rv,?_⟩;rcases S.par y (kS hp) with k|k
  ·exact .inl ⟨k,Hb KP hp hu k⟩
  ·obtain⟨c,e⟩:=HD (n:=s.heap.objs.size+1) k
   refine .inr ⟨.inl k,c,e,?_⟩;have q:=x.cell y c e;rw[G9 KP hp hu (by show scope.names.lookup y≠_;rw[k];decide)] at q
   exact q
 ·exact e0.aS.fresh (ud (x.above y c (gD h)))
 ·unfold start
  show _=N.length;rw[bS,aH,iN];omega
theorem Iq{CX:hU}{P:Program}{w:World}{K:aj}{mg:Str->Option Value}{base:Heap}{k:Nat}{f:Addr}{name qual:Str}{params:Arguments}{body:List Stmt}{scope:Scope}{dV kV doc pm bY ct oc:Value}{an od:Option Addr}
  {kC:Array (Option Value)} {N ps:List Str} {sp:Sp} (lk:K.lookup f=some ⟨oc,od,.func (kT name qual params body scope dV kV doc pm an bY ct),kC⟩) (fE:uq K bY qual=true) (S:l8 N ps scope)
  (len:∀vs H Q E,sp vs H Q E->vs.length=ps.length)
  (Dp:∀(A:Around) (outer:List Env) (s:Shared) (H:Hp) (vs:List V) (Q:VK) (E:XK),cZ k (A.deeper (envOfC qual scope s.heap.objs.size f bY))->sp vs H Q E ->
   ∃t,gG (eJ CX P w K mg base N qual scope f bY A outer s H E) body t/\t { nx:=λ_ H'=>Q .aR H',rt:=Q } (start N vs) H) :
  ax P w K mg base CX (k+1) f (kT name qual params body scope dV kV doc pm an bY ct) ps sp:=by
 refine⟨len,λA outer s H args us vs Q E hr e0 hb r lD=>?_⟩
 have hl:=len _ _ _ _ lD;have KX:K.In s.heap:=e0.mod.jv.keeps λb o e=>(e0.bs b o e).1
 have lim:s.heap.NoLimit:=e0.mod.nolimit.keeps λb o e=>(e0.bs b o e).1
 have YI:∀y∈ps.zip us,scope.names.lookup y.1=some .local\/(scope.names.lookup y.1=some .cell/\((cellsFrom (s.heap.objs.size+1) scope.names []).lookup y.1).isSome=true):=λ⟨n,v⟩ hy=>by
  rcases S.par n (RE hy).1 with q|q
  ·exact .inl q
  ·exact .inr ⟨q,Gj _ _ _ (.inl q)⟩
 refine codeAny_call_function hr.depth (KX _ _ lk) rfl S.co S.gen rfl (PySem.W.codeRec_of KX fE) (hb _ _ _ _ ?_);refine wpAny_newFunctionEnv_cells S.kind YI λenv he s1 x=>?_
 subst he;refine⟨lim.keeps x.toInCall.keep,codeAny_func ?_⟩;obtain⟨t,ht,hq⟩:=Dp A outer s H vs Q E (hr.deeper _) lD;have I:Inv (eJ CX P w K mg base N qual scope f bY A outer s H E) [] (start N vs) H s1:=ZC S hr.hd e0 hl r x;refine wpAny_mono (ht [] s1 (start N vs) H _ I hq) (λfl s' hs=>?_) λe s' hs=>hs
 have fin:∀{aM:St} {H':Hp} {v:V} {u:Value},Inv (eJ CX P w K mg base N qual scope f bY A outer s H E) [] aM H' s'->RelV v u->Q v H'->CE outer P w H s Q u s' :=
  λ{aM H' v u} J rv q=>⟨v,H',J.os,J.bare,J.base,J.aS,rv,q⟩
 cases fl with
 | ret u =>
  obtain⟨v,aM,H',J,rv,q⟩:=hs;exact fin J rv q
 | next =>
  obtain⟨aM,H',J,q⟩:=hs;exact fin (v:=V.aR) (u:=pj) J rfl q
 | brk =>
  obtain⟨_,_,_,q⟩:=hs;exact False.elim q
 | cont =>
  obtain⟨_,_,_,q⟩:=hs;exact False.elim q
section
variable{X:Cx}{x:Str}{p pos:Pos}{e:Expr}{es:List Expr}{t:TA}{id T:String}{r:List V->Hp->VK->Prop}
def tU(r:List V->Hp->VK->Prop)(t:TA):TE:=λσ H Q=>t σ H λvs H1=>r vs H1 Q
theorem LV(hc:gi X (.builtin id) r)(hg:Gl X x)(hm:X.mg x=none)(hv:bootBuiltins x=some (.builtin id))(ha:PA X (e::es) t)(hn:x≠"__name__" := by decide)(cG:(x==("__debug__" : Str))=false:=by decide)
  (he:starEach (e::es) X.env=(false,eval e X.env)::starEach es X.env:=by rfl) (cL:(backTo pos (starEach es X.env)).any (·.1)=false:=by rfl):PE X (.Call (.Name x p) (e::es) [] pos) (tU r t):=by
 intro pins s σ H Q I h;refine wpAny_Call_Name_kw (AI I hg hm hv ?_ hn cG);exact ahV (aZ (ha pos pins s σ H _ I h) λus s1 ⟨vs,H1,I1,r1,q1⟩=>hc pins s1 σ H1 vs us Q I1 r1 q1) he cL
theorem ade(hc:gi X (.type T) r)(hg:Gl X x)(hm:X.mg x=none)(hv:bootBuiltins x=some (.type T))(ha:PA X (e::es) t)(hn:x≠"__name__" := by decide)(cG:(x==("__debug__" : Str))=false:=by decide)
  (he:starEach (e::es) X.env=(false,eval e X.env)::starEach es X.env:=by rfl) (cL:(backTo pos (starEach es X.env)).any (·.1)=false:=by rfl):PE X (.Call (.Name x p) (e::es) [] pos) (tU r t):=by
 intro pins s σ H Q I h;refine wpAny_Call_Name_kw (AI I hg hm hv ?_ hn cG);exact ahW (aZ (ha pos pins s σ H _ I h) λus s1 ⟨vs,H1,I1,r1,q1⟩=>hc pins s1 σ H1 vs us Q I1 r1 q1) he cL
end
end L2
namespace HT
open PySem PyProof.Rows
section
open PySem.SeqAt
open PySem.AutoSeq1 (wpAny_loadPart')
open PySem.MeetsSeq PySem.MeetsSeq2 PySem.MeetsSeq3
end
section
variable{prog:Program}{w:World}{A:Around}{E:Value->Shared->Prop}{s:Shared}
def dF(n d:Nat):Option Int->Nat
 | none=>d
 | some v=>if v<0 then (v+(n:Int)).toNat else min v.toNat n
theorem MG(n d:Nat):dF n d none=d:=rfl
theorem aej(n d k:Nat):dF n d (some (k:Int))=min k n:=by
 show (if (k:Int)<0 then ((k:Int)+(n:Int)).toNat else min (k:Int).toNat n)=min k n
 rw[if_neg (by omega),dz]
theorem MF(n d:Nat)(hd:d<=n)(o:Option Int):dF n d o<=n:=by
 cases o with
 | none=>exact hd
 | some v =>
  show (if v<0 then (v+(n:Int)).toNat else min v.toNat n)<=n
  by_cases hv:v<0
  ·rw[if_pos hv];omega
  ·rw[if_neg hv];exact Nat.min_le_right _ _
end
end HT
namespace L2
open PySem PySem.Spec PyProof.Rows
abbrev TO:=St->Hp->(Option Int->Hp->Prop)->Prop
def PO(X:Cx)(e:Option Expr)(t:TO):Prop :=
 ∀(pins:List (Addr×Obj)) (s:Shared) (σ:St) (H:Hp) (Q:Option Int->Hp->Prop),Inv X pins σ H s->t σ H Q ->
  wpAny (model X.prog X.w) X.A (evalPart e X.env) (λu s'=>∃o H',Inv X pins σ H' s'/\IsPart u o/\Q o H') X.xe s
def afi:TO:=λ_ H Q=>Q none H
inductive GF(Q:Option Int->Hp->Prop)(x:V)(H:Hp):Prop
 | mk:∀i,(x=.int i)->(Q (some i) H)->GF Q x H
def afo(t:TE):TO:=λσ H Q=>t σ H (GF Q)
section
variable{X:Cx}{e:Expr}{te:TE}{lo hi:Option Expr}{tl th:TO}{pos p2:Pos}
theorem Mi:PO X none afi:=by
 intro pins s σ H Q I h;rw[evalPart_none];exact wpAny_pure ⟨none,H,I,.none,h⟩
theorem Mj(h:PE X e te):PO X (some e) (afo te):=by
 intro pins s σ H Q I hw;rw[evalPart_some];refine aZ (h pins s σ H _ I hw) λu s1 ⟨x,H1,I1,r1,q1⟩=>?_
 obtain⟨i,rfl,q⟩:=q1;obtain⟨t,rfl⟩:=r1;exact⟨some i,H1,I1,.int i t,q⟩
def GL(X:Cx)(r:V->Option Int->Option Int->Hp->VK->Prop):Prop :=
 ∀(pins:List (Addr×Obj)) (s:Shared) (σ:St) (H:Hp) (x:V) (v vl vu:Value) (lo hi:Option Int) (sl:Addr) (Q:VK),Inv X pins σ H s->RelV x v->s.heap.IsSliceOf sl vl vu .none->IsPart vl lo->IsPart vu hi->r x lo hi H Q ->
  ∃T id,typeLookup (.type T) "__getitem__" = pure (some (.builtin id))/\s.TypeIs v T/\wpAny (model X.prog X.w) X.A (getItem v (.ref sl)) (EP X pins σ Q) X.xe s
def tSl(r:V->Option Int->Option Int->Hp->VK->Prop)(te:TE)(tl th:TO):TE:=λσ H Q=>te σ H λx H1=>tl σ H1 λl H2=>th σ H2 λu H3=>r x l u H3 Q
theorem L_{r:V->Option Int->Option Int->Hp->VK->Prop}(hr:GL X r)(he:PE X e te)(hl:PO X lo tl)(hu:PO X hi th):PE X (.Subscript e (.Slice lo hi none p2) pos) (tSl r te tl th):=by
 intro pins s σ H Q I h;refine Subscript_ (aZ (he pins s σ H _ I h) λv s1 ⟨x,H1,I1,r1,q1⟩=>?_)
 refine wpAny_Slice (aZ (hl pins s1 σ H1 _ I1 q1) λvl s2 ⟨l,H2,I2,pl,q2⟩=>aZ (hu pins s2 σ H2 _ I2 q2) λvu s3 ⟨u,H3,I3,pu,q3⟩=>?_)
 rw[evalPart_none];refine wpAny_pure ?_;have I4:Inv X pins σ H3 { s3 with heap:=s3.heap.push { cls:=.type "slice",data:=.fields #[vl,vu,.none] } }:=I3.kept (t':=s3.toks) λb ob q=>cJ _ q
 obtain⟨T,id,hT,ht,hg⟩:=hr pins { s3 with heap:=s3.heap.push { cls:=.type "slice",data:=.fields #[vl,vu,.none] } } σ H3 x v vl vu l u s3.heap.objs.size Q I4 r1 (ajU ..) pl pu q3
 show wpAny (model X.prog X.w) X.A (subscriptTail e (.Slice lo hi none p2) v (.ref s3.heap.objs.size)) (EP X pins σ Q) X.xe { s3 with heap:=s3.heap.push { cls:=.type "slice",data:=.fields #[vl,vu,.none] } }
 exact tail_any (ops:=[.ref s3.heap.objs.size,v]) ht hT hg (by with_unfolding_all rfl)
end
def sY(n:Nat)(i:Int):Option Nat:=if 0<=i then (if i<n then some i.toNat else none) else if -(n:Int)<=i then some (i+n).toNat else none
def bT{α:Type}(xs:List α)(i:Int):Option α:=(sY xs.length i).bind λj=>xs[j]?
theorem ZI{n:Nat}{i:Int}{j:Nat}(h:sY n i=some j):seqIndex? i n=some j/\j<n /\ -(n:Int)<=i/\i<n:=by
 unfold sY at h;by_cases h0:0<=i
 ·rw[if_pos h0] at h
  by_cases h1:i<n
  ·rw[if_pos h1] at h
   have e:i.toNat=j:=a6 h;exact⟨by rw[seqIndex_of h0 h1,e],by omega,by omega,h1⟩
  ·rw[if_neg h1] at h;cases h
 ·rw[if_neg h0] at h
  by_cases h1 : -(n:Int)<=i
  ·rw[if_pos h1] at h
   have e:(i+n).toNat=j:=a6 h;exact⟨by rw[seqIndex_neg (by omega) h1,e],by omega,h1,by omega⟩
  ·rw[if_neg h1] at h;cases h
theorem CB{α:Type}{xs:List α}{i:Int}{v:α}(h:bT xs i=some v):∃j,seqIndex? i xs.length=some j/\xs[j]?=some v/\j<xs.length /\ -(xs.length:Int)<=i/\i<xs.length:=by
 unfold bT at h
 cases e:sY xs.length i with
 | none=>rw[e] at h;cases h
 | some j =>
  rw[e] at h;obtain⟨h1,h2,h3,h4⟩:=ZI e;exact⟨j,h1,h,h2,h3,h4⟩
theorem c7{α:Type}{xs:List α}{j:Nat}{v:α}(h:xs[j]?=some v):bT xs (j:Int)=some v:=by
 have hj:j<xs.length:=(iM.mp h).1;have e:sY xs.length (j:Int)=some j:=by
  unfold sY;rw[if_pos (by omega),if_pos (by omega)];simp
 unfold bT;rw[e];exact h
def GJ(b:Expr):Prop:=∀o i,subscripted b false o i=operate [o,i] (getItem o i)
def k8(X:Cx)(r:R2):Prop :=
 ∀(value slice:Expr) (pins:List (Addr×Obj)) (s:Shared) (σ:St) (H:Hp) (x y:V) (v u:Value) (Q:VK),Inv X pins σ H s->RelV x v->RelV y u->r x y H Q ->
  subscripted slice false v u=operate [v,u] (getItem v u)->wpAny (model X.prog X.w) X.A (subscriptTail value slice v u) (EP X pins σ Q) X.xe s
def GH(X:Cx)(id:String)(r:V->List V->Hp->VK->Prop):Prop :=
 ∀(pins:List (Addr×Obj)) (s:Shared) (σ:St) (H:Hp) (x:V) (xs:List V) (v:Value) (us:List Value) (Q:VK),Inv X pins σ H s->RelV x v->Vals xs us->r x xs H Q ->
  wpAny (model X.prog X.w) X.A (call (.builtin id) (v::us)) (EP X pins σ Q) X.xe s
section
variable{X:Cx}{a b:Expr}{ta tb:TE}{pos:Pos}
theorem k8.or{r r':R2}(h:k8 X r)(h':k8 X r'):k8 X (λx y H Q=>r x y H Q\/r' x y H Q):=by
 intro value slice pins s σ H x y v u Q I rx ry q hs;rcases q with q|q
 ·exact h value slice pins s σ H x y v u Q I rx ry q hs
 ·exact h' value slice pins s σ H x y v u Q I rx ry q hs
theorem adj{r:R2}(hr:k8 X r)(ha:PE X a ta)(hb:PE X b tb)(hs:GJ b):PE X (.Subscript a b pos) (qQ r ta tb):=by
 intro pins s σ H Q I h;exact Subscript_ (CO ha hb I h λv u s2 x y H2 I2 rx ry q=>hr a b pins s2 σ H2 x y v u Q I2 rx ry q (hs _ _))
inductive EJ(K:aj)(x:V)(y:V)(H:Hp)(Q:VK):Prop
 | mk:∀p xs i v,(x=.ref p)->(y=.int i)->(ai K H p xs)->(bT xs i=some v)->(Q v H)->EJ K x y H Q
inductive EM(K:aj)(x:V)(y:V)(H:Hp)(Q:VK):Prop
 | mk:∀p xs i v,(x=.ref p)->(y=.int i)->(av K H p xs)->(bT xs i=some v)->(Q v H)->EM K x y H Q
inductive EL(x:V)(y:V)(H:Hp)(Q:VK):Prop
 | mk:∀z i c,(x=.str z)->(y=.int i)->(z.length<=sizeLine)->(bT z.cps.toList i=some c)->(Q (.str ⟨#[c]⟩) H)->EL x y H Q
theorem eN:k8 X (EJ X.K):=by
 intro value slice pins s σ H x y v u Q I rx ry h hs;obtain⟨p,xs,i,z,rfl,rfl,hq,he,q⟩:=h
 cases rx;obtain⟨t,rfl⟩:=ry;obtain⟨ao,r,pl,hz⟩:=I.list hq;obtain⟨j,h1,h2,h3,h4,h5⟩:=CB he;obtain⟨w,ew,mV⟩:=r.get h2;have hl:=r.length;have hn:=s_;have fin:EP X pins σ Q w s:=⟨z,H,I,mV,q⟩;by_cases h0:0<=i
 ·have hj:i.toNat=j:=by
   rw[seqIndex_of h0 h5] at h1;exact a6 h1
  exact item_listR pl.isList h0 (by omega) (by rw[hj];simpa using ew) fin hs
 ·have hj:(i+(ao.toArray.size:Int)).toNat=j:=by
   rw[seqIndex_neg (by omega) h4] at h1
   rw[df,<-hl];exact a6 h1
  exact subscriptTail_builtinR (x:=w) pl.isList.typeIs slot_list_getitem.lookup
   (wpAny_getItem_list_neg (Q:=λr s'=>r=w/\EP X pins σ Q r s') pl.isList (by omega) (by rw[df]<;>omega) (by omega) (by rw[hj];simpa using ew) ⟨rfl,fin⟩) hs
theorem aW:k8 X (EM X.K):=by
 intro value slice pins s σ H x y v u Q I rx ry h hs;obtain⟨p,xs,i,z,rfl,rfl,hq,he,q⟩:=h
 cases rx;obtain⟨t,rfl⟩:=ry;obtain⟨ao,r,pl,hz⟩:=I.tuple hq;obtain⟨j,h1,h2,h3,h4,h5⟩:=CB he;obtain⟨w,ew,mV⟩:=r.get h2;have hl:=r.length;have hn:=s_;have fin:EP X pins σ Q w s:=⟨z,H,I,mV,q⟩;exact subscriptTail_builtinR (x:=w) pl.typeIs slot_tuple_getitem.lookup
  (getItem_tuple (j:=j) (Q:=λr s'=>r=w/\EP X pins σ Q r s') pl (by omega) (by omega) (by rw[df,<-hl];exact h1) (by simpa using ew) ⟨rfl,fin⟩) hs
theorem AF:k8 X EL:=by
 intro value slice pins s σ H x y v u Q I rx ry h hs;obtain⟨z,i,c,rfl,rfl,hz,he,q⟩:=h;obtain⟨t,rfl⟩:=rx;obtain⟨t',rfl⟩:=ry;obtain⟨j,h1,h2,h3,h4,h5⟩:=CB he;have hl:z.cps.toList.length=z.length:=by simp[B1]
 rw[hl] at h1 h4 h5;have hn:=s_;exact tail_any (typeIs_str s z t) slot_str_getitem.lookup (getItem_str (c:=c) (by
  have e1:decide (i < -(2^63:Int))=false:=decide_eq_false (by omega)
  have e2:decide (i≥2^63)=false:=decide_eq_false (by omega)
  rw[e1,e2,Bool.or_false]) (by rw[h1];simpa using h2) ⟨.str ⟨#[c]⟩,H,I.tok _,⟨_,rfl⟩,q⟩) hs
def rIx(K:aj):R2:=λx y H Q=>EJ K x y H Q\/EM K x y H Q\/EL x y H Q
theorem AE:k8 X (rIx X.K):=eN.or (aW.or AF)
def jI:V->Bool
 | .aR=>true
 | .bl _=>true
 | .int _=>true
 | .str _=>true
 | _=>false
def gN:V->V->Bool
 | .aR,.aR=>true
 | .bl a,.bl b=>a==b
 | .bl a,.int b=>(if a then 1 else 0)==b
 | .int a,.bl b=>a==(if b then 1 else 0)
 | .int a,.int b=>a==b
 | .str a,.str b=>a==b
 | _,_=>false
theorem Ie{A:Around}{s:Shared}{y x:V}{u v:Value}(ry:RelV y u)(rx:RelV x v)(fy:jI y=true)(fx:jI x=true):SeqAt.EqAt A s u v (gN y x):=by
 cases y with
 | aR =>
  cases ry
  cases x with
  | aR=>cases rx;exact SeqAt.EqAt.same _
  | bl b=>cases rx;exact SeqAt.EqAt.none_bool b
  | int b=>obtain⟨t,rfl⟩:=rx;exact SeqAt.EqAt.none_int b t
  | str b=>obtain⟨t,rfl⟩:=rx;exact SeqAt.EqAt.none_str b t
  | _=>exact absurd (show false=true from fx) eo
 | bl a =>
  cases ry
  cases x with
  | aR=>cases rx;exact SeqAt.EqAt.bool_none a
  | bl b=>cases rx;exact SeqAt.EqAt.bool_bool a b
  | int b=>obtain⟨t,rfl⟩:=rx;exact SeqAt.EqAt.bool_int a b t
  | str b=>obtain⟨t,rfl⟩:=rx;exact SeqAt.EqAt.bool_str a b t
  | _=>exact absurd (show false=true from fx) eo
 | int a =>
  obtain⟨t',rfl⟩:=ry
  cases x with
  | aR=>cases rx;exact SeqAt.EqAt.int_none a t'
  | bl b=>cases rx;exact SeqAt.EqAt.int_bool a t' b
  | int b=>obtain⟨t,rfl⟩:=rx;exact SeqAt.EqAt.int_int a t' b t
  | str b=>obtain⟨t,rfl⟩:=rx;exact SeqAt.EqAt.int_str a t' b t
  | _=>exact absurd (show false=true from fx) eo
 | str a =>
  obtain⟨t',rfl⟩:=ry
  cases x with
  | aR=>cases rx;exact SeqAt.EqAt.str_none a t'
  | bl b=>cases rx;exact SeqAt.EqAt.str_bool a t' b
  | int b=>obtain⟨t,rfl⟩:=rx;exact SeqAt.EqAt.str_int a t' b t
  | str b=>obtain⟨t,rfl⟩:=rx;exact SeqAt.EqAt.str_str a t' b t
  | _=>exact absurd (show false=true from fx) eo
 | _=>exact absurd (show false=true from fy) eo
def gL(x:V)(u:Value):Bool:=match u with
 | .none=>gN .aR x
 | .bool b=>gN (.bl b) x
 | .int i _=>gN (.int i) x
 | .str z _=>gN (.str z) x
 | _=>false
theorem C7{x y:V}{u:Value}(r:RelV y u)(f:jI y=true):gL x u=gN y x:=by
 cases y with
 | aR=>cases r;rfl
 | bl b=>cases r;rfl
 | int i=>obtain⟨t,rfl⟩:=r;rfl
 | str z=>obtain⟨t,rfl⟩:=r;rfl
 | _=>exact absurd (show false=true from f) eo
theorem uC{x:V}:∀{xs:List V} {us:List Value},Vals xs us->xs.all jI=true->us.any (gL x)=xs.any λy=>gN y x
 | _,_,.nil,_=>rfl
 | y::xs,u::us,.cons r t,f=>by
  rw[wM,de] at f;rw[Gs,Gs,C7 r f.1,uC t f.2]
theorem tj{A:Around}{s:Shared}{x:V}{v:Value}(rx:RelV x v)(fx:jI x=true):∀{xs:List V} {us:List Value},Vals xs us->xs.all jI=true->∀u∈us,SeqAt.EqAt A s u v (gL x u)
 | _,_,.nil,_=>λu hu=>by cases hu
 | y::xs,u::us,.cons r t,f=>λu' hu=>by
  rw[wM,de] at f;rcases bE.mp hu with rfl|hu
  ·rw[C7 r f.1];exact Ie r rx f.1 fx
  ·exact tj rx fx t f.2 u' hu
def iI(x:V)(xs:List V):Bool:=xs.any λy=>gN y x
inductive EI(K:aj)(neg:Bool)(x:V)(y:V)(H:Hp)(Q:VK):Prop
 | mk:∀p xs,(y=.ref p)->((ai K H p xs\/av K H p xs))->(jI x=true)->(xs.all jI=true)->(Q (.bl (if neg then !iI x xs else iI x xs)) H)->EI K neg x y H Q
theorem LF:cY X (compareOp .In) (EI X.K false):=by
 intro pins s σ H x y v u Q I rx ry h;obtain⟨p,xs,rfl,hq,fx,fs,q⟩:=h
 cases ry;rcases hq with hq|hq
 ·obtain⟨ao,r,pl,hz⟩:=I.list hq
  refine SeqAt.in_listAt (gL x) pl.isList (λw hw=>tj rx fx r fs w (by simpa using hw)) ⟨.bl _,H,I,rfl,?_⟩
  rw[show ao.toArray.any (gL x)=ao.any (gL x) by simp,uC r fs]
  exact q
 ·obtain⟨ao,r,pl,hz⟩:=I.tuple hq
  refine SeqAt.in_tupleAt (gL x) pl (λw hw=>tj rx fx r fs w (by simpa using hw)) ⟨.bl _,H,I,rfl,?_⟩
  rw[show ao.toArray.any (gL x)=ao.any (gL x) by simp,uC r fs]
  exact q
theorem Ew:cY X (compareOp .NotIn) (EI X.K true):=by
 intro pins s σ H x y v u Q I rx ry h;obtain⟨p,xs,rfl,hq,fx,fs,q⟩:=h
 cases ry;rcases hq with hq|hq
 ·obtain⟨ao,r,pl,hz⟩:=I.list hq
  refine SeqAt.notIn_listAt (gL x) pl.isList (λw hw=>tj rx fx r fs w (by simpa using hw)) ⟨.bl _,H,I,rfl,?_⟩
  rw[show ao.toArray.any (gL x)=ao.any (gL x) by simp,uC r fs]
  exact q
 ·obtain⟨ao,r,pl,hz⟩:=I.tuple hq
  refine SeqAt.notIn_tupleAt (gL x) pl (λw hw=>tj rx fx r fs w (by simpa using hw)) ⟨.bl _,H,I,rfl,?_⟩
  rw[show ao.toArray.any (gL x)=ao.any (gL x) by simp,uC r fs]
  exact q
inductive EN(K:aj)(xs:List V)(H:Hp)(Q:VK):Prop
 | mk:∀p ys,(xs=[.ref p])->(ai K H p ys\/av K H p ys)->(Q (.int ys.length) H)->EN K xs H Q
theorem UT:gi X (.builtin "len") (EN X.K):=by
 intro pins s σ H xs us Q I r h;obtain⟨p,ys,rfl,hq,q⟩:=h;obtain⟨u,rfl,rx⟩:=vals1 r
 cases rx;have hn:=s_;rcases hq with hq|hq
 ·obtain⟨ao,r',pl,hz⟩:=I.list hq
  have hlen:=r'.length;exact Calls.call_len_list pl.isList (by simp only[df]<;>omega) ⟨.int ys.length,H,I.tok _,⟨s.toks+1,by rw[df,hlen]⟩,q⟩
 ·obtain⟨ao,r',pl,hz⟩:=I.tuple hq
  have hlen:=r'.length;exact len_tuple pl (by simp only[df]<;>omega) ⟨.int ys.length,H,I.tok _,⟨s.toks+1,by rw[df,hlen]⟩,q⟩
theorem Hz:gi X (.builtin "len") (λxs H Q=>∃z,xs=[.str z]/\z.length<=sizeLine/\Q (.int z.length) H):=by
 intro pins s σ H xs us Q I r h;obtain⟨z,rfl,hz,q⟩:=h;obtain⟨u,rfl,t,rfl⟩:=vals1 r;have hn:=s_;exact len_str (by omega) ⟨.int z.length,H,I.tok _,⟨_,rfl⟩,q⟩
inductive EO(K:aj)(xs:List V)(H:Hp)(Q:VK):Prop
 | mk:∀p ys,(xs=[.ref p])->(ai K H p ys\/av K H p ys)->(∀l,H l=none->Q (.ref l) (upd H l (.lst ys)))->EO K xs H Q
theorem uJ:gi X (.type "list") (EO X.K):=by
 intro pins s σ H xs us Q I r h;obtain⟨p,ys,rfl,hq,q⟩:=h;obtain⟨u,rfl,rx⟩:=vals1 r
 cases rx;have fin:∀(ao:List Value),Vals ys ao->ys.length<=sizeLine->∀(h':Heap) (c':Nat),(∀b o',s.heap.get? b=some o'->h'.get? b=some o') ->
   h'.get? s.heap.objs.size=some { cls:=.type "list",dict:=none,data:=.seq ao.toArray c',slots:=#[] }->EP X pins σ Q (.ref s.heap.objs.size) { s with heap:=h' }:=λao r' hz h' c' kp e =>
  ⟨.ref s.heap.objs.size,_,I.laid (t':=s.toks) kp (bH _) (show dN X.prog X.w _ h' _ (.lst ys) from ⟨hz,ao,c',r',e⟩),rfl,q _ (I.aS.fresh (bH _))⟩
 rcases hq with hq|hq
 ·obtain⟨ao,r',pl,hz⟩:=I.list hq
  have hlen:=r'.length;obtain⟨o,ho,hc,n,hd⟩:=pl.isList;exact call_list_seq p (.inl rfl) ho hc hd (λh' c' kp e=>fin ao r' hz h' c' kp e) (by simp only[df]<;>omega)
 ·obtain⟨ao,r',pl,hz⟩:=I.tuple hq
  have hlen:=r'.length;obtain⟨o,ho,hc,n,hd⟩:=pl;exact call_list_seq p (.inr rfl) ho hc hd (λh' c' kp e=>fin ao r' hz h' c' kp e) (by simp only[df]<;>omega)
def QK(K:aj)(T:String)(x:V)(H:Hp):Prop:=match x with
 | .str _=>T="str"
 | .int _=>T="int"
 | .ref p=>(T="list" /\ ∃xs,ai K H p xs)\/(T="tuple" /\ ∃o,K.lookup p=some o/\o.cls=.type "tuple" /\ o.dict=none) \/
   (T="dict" /\ ((∃cE,H p=some (.dK cE))\/∃cE,H p=some (.dT cE)))\/(T="set" /\ ∃S n,H p=some (.set S n))
 | _=>False
theorem agM{pins:List (Addr×Obj)}{σ:St}{H:Hp}{s:Shared}{T:String}{x:V}{v:Value}(I:Inv X pins σ H s)(r:RelV x v)(ty:QK X.K T x H) :
  s.TypeIs v T/\∀a,v=.ref a->∃ob,s.heap.get? a=some ob/\ob.dict=none:=by
 cases x with
 | str z =>
  obtain⟨t,rfl⟩:=r
  cases (show T="str" from ty)
  exact⟨typeIs_str s z t,λ_ e=>nomatch e⟩
 | int i =>
  obtain⟨t,rfl⟩:=r
  cases (show T="int" from ty)
  exact⟨typeIs_int s i t,λ_ e=>nomatch e⟩
 | ref p =>
  cases r;rcases ty with ⟨rfl,xs,hq⟩|⟨rfl,o,hk,hc,hd⟩|⟨rfl,hk⟩|⟨rfl,S,n,hk⟩
  ·obtain⟨ao,_,pl,_⟩:=I.list hq
   refine⟨pl.isList.typeIs,λa e=>?_⟩
   cases e;obtain⟨o,n,e,c,hd,_⟩:=pl;exact⟨o,e,hd⟩
  ·refine⟨⟨o,I.cM p o hk,hc⟩,λa e=>?_⟩
   cases e;exact⟨o,I.cM _ o hk,hd⟩
  ·have z:∃o,s.heap.get? p=some o/\o.ExactDict:=by
    rcases hk with ⟨cE,hk⟩|⟨cE,hk⟩
    ·obtain⟨_,_,_,_,o,_,_,e,ex,_⟩:=I.aS p _ hk
     exact⟨o,e,ex⟩
    ·obtain⟨_,_,_,_,o,_,_,e,ex,_⟩:=I.aS p _ hk
     exact⟨o,e,ex⟩
   obtain⟨o,e,ex⟩:=z;refine⟨⟨o,e,ex.1⟩,λa e2=>?_⟩
   cases e2;exact⟨o,e,ex.2.1⟩
  ·obtain⟨o,_,_,_,e,ex,_⟩:=I.aS p _ hk
   refine⟨⟨o,e,ex.1⟩,λa e2=>?_⟩
   cases e2;exact⟨o,e,ex.2.1⟩
 | _=>exact False.elim ty
def tBM(K:aj)(T:String)(r:V->List V->Hp->VK->Prop)(to:TE)(t:TA):TE:=λσ H Q=>to σ H λx H1=>QK K T x H1/\t σ H1 λxs H2=>r x xs H2 Q
variable{o e:Expr}{es:List Expr}{to:TE}{t:TA}{name:Str}{apos h_:Pos}{T id:String}{r:V->List V->Hp->VK->Prop}
theorem fX(pa:PlainAttrs T)(slot:Slot T name id)(Y8:typeOf (.builtin id)=pure (.type "method_descriptor"))(hm:GH X id r)(ho:PE X o to)(ha:PA X (e::es) t)
  (Yn:attributeBase o name X.env (eval o X.env)=eval o X.env:=by rfl)
  (YC:((backTo h_ (starEach (e::es) X.env)).all (λx=>!x.1)&&(backToKw h_ (keywordEach [] X.env)).all (λx=>x.1.isSome)
   && decide ((e::es).length+([]:List Keyword).length+(if ([]:List Keyword).isEmpty then 0 else 1)<30))=true:=by rfl)
  (YM:(apos.endLine==h_.line)=true:=by rfl) (hs:starEach (e::es) X.env=(false,eval e X.env)::starEach es X.env:=by rfl) (Y1:(backTo h_ (starEach es X.env)).any (·.1)=false:=by rfl) :
  PE X (.Call (.Attribute o name apos) (e::es) [] h_) (tBM X.K T r to t):=by
 intro pins s σ H Q I h;refine wpAny_Call_method_late Yn YC YM rfl (aZ (ho pins s σ H _ I h) λv s1 ⟨x,H1,I1,r1,ty,q1⟩=>?_)
 obtain⟨h1,h2⟩:=agM I1 r1 ty;refine⟨T,id,pa,slot,Y8,h1,h2,?_⟩;have hA:=ha h_ pins s1 σ H1 _ I1 q1;rw[hs] at hA ⊢;refine Calls.callWith_builtin (by show (false||(backTo h_ (starEach es X.env)).any (·.1))=false;rw[Y1]<;>rfl) (Calls.evalArgs_plain ?_)
 exact aZ hA λus s2 ⟨vs,H2,I2,r2,q2⟩=>hm pins s2 σ H2 x vs v us Q I2 r1 r2 q2
/- xs.append(e),list.index on a ajm tuple .. are GH facts of 06m -/
end
def rC(X:Cx)(id:String)(r:V->List V->Hp->VK->Prop):Prop :=
 ∀(pins:List (Addr×Obj)) (s:Shared) (σ:St) (H:Hp) (x:V) (xs:List V) (v:Value) (us:List Value) (Q:VK),Inv X pins σ H s->RelV x v->Vals xs us->r x xs H Q ->
  wpAny (model X.prog X.w) X.A (call (.builtin id) (v::us)) (EP X pins σ Q) X.xe s
theorem Vals.one:∀{x:V} {us:List Value},Vals [x] us->∃u,us=[u]/\RelV x u
 | _,_,.cons r .nil=>⟨_,rfl,r⟩
section
variable{X:Cx}{pins:List (Addr×Obj)}{σ:St}{H:Hp}{s:Shared}{l b:Addr}{xs ys zs:List V}
theorem Inv.Kz{ao its':List Value}{n:Nat}{f:Array Value->Array Value}{t':Nat}(I:Inv X pins σ H s)(hH:H l=some (.lst xs))
  (e:s.heap.get? l=some { cls:=.type "list",data:=.seq ao.toArray n }) (hf:f ao.toArray=its'.toArray) (hv:Vals ys its') (hz:ys.length<=sizeLine) :
  Inv X pins σ (upd H l (.lst ys)) { s with heap:=s.heap.update l (Obj.mapSeq f),toks:=t' }:=by
 have q:=PySem.IsL.update e f;rw[hf] at q;refine I.write (x:=l) (e:=l) (by rw[hH];exact trivial) (.inl rfl) (λb' u hb hu=>(Gg s.heap (Obj.mapSeq f) (Ne.symm hb)).trans hu) ⟨_,q⟩ ?_
 exact⟨hz,its',_,hv,q⟩
theorem Inv.aaw{ao:List Value}{t':Nat}(I:Inv X pins σ H s)(hv:Vals ys ao)(hz:ys.length<=sizeLine) :
  Inv X pins σ (upd H s.heap.objs.size (.lst ys)) { s with heap:=s.heap.push { cls:=.type "list",data:=.seq ao.toArray },toks:=t' } :=
 I.laid (λ_ _ q=>cJ _ q) (bH _) ⟨hz,ao,0,hv,fN _ rfl⟩
theorem Inv.fresh(I:Inv X pins σ H s):H s.heap.objs.size=none:=I.aS.fresh (bH _)
theorem Inv.tf(I:Inv X pins σ H s)(hH:H l=some (.lst xs)):xs.length<=sizeLine/\∃(ao:List Value) (n:Nat),Vals xs ao/\xs.length=ao.length/\s.heap.get? l=some { cls:=.type "list",data:=.seq ao.toArray n }:=by
 obtain⟨z,ao,n,r,e⟩:=I.aS l _ hH;exact⟨z,ao,n,r,r.length,e⟩
theorem abj{n:Nat}(h:n<=sizeLine):Builtin.List.listTooLong n=false:=by
 unfold Builtin.List.listTooLong;exact decide_eq_false (by omega)
end
section
variable{X:Cx}
inductive Bg(x:V)(vs:List V)(H:Hp)(Q:VK):Prop
 | mk:∀l xs y,(x=.ref l)->(vs=[y])->(H l=some (.lst xs))->(xs.length<sizeLine)->(Q .aR (upd H l (.lst (xs++[y]))))->Bg x vs H Q
theorem qz:rC X "list.append" Bg:=by
 intro pins s σ H x vs v us Q I rx rv h;obtain⟨l,xs,y,rfl,rfl,hH,hz,q⟩:=h
 cases rx;obtain⟨u,rfl,ru⟩:=rv.one;obtain⟨z,ao,n,r,hl,e⟩:=I.tf hH;refine call_meets F.slot_list_append ⟨_,e,rfl⟩ F.entry_list_append (F.args_list_append_2 _ _) (PySem.list_append l ao.toArray n u (by rw[df];omega)) ⟨e,?_⟩
 refine⟨.aR,_,I.Kz (its':=ao++[u]) hH e (by simp) (r.append (.cons ru .nil)) ?_,rfl,q⟩
 rw[bS,ur];omega
inductive Ms(x:V)(vs:List V)(H:Hp)(Q:VK):Prop
 | mk:∀l b xs zs,(x=.ref l)->(vs=[.ref b])->(H l=some (.lst xs))->(H b=some (.lst zs))->(xs.length+zs.length<=sizeLine)->(Q .aR (upd H l (.lst (xs++zs))))->Ms x vs H Q
theorem aa3:rC X "list.extend" Ms:=by
 intro pins s σ H x vs v us Q I rx rv h;obtain⟨l,b,xs,zs,rfl,rfl,hH,hB,hz,q⟩:=h
 cases rx;obtain⟨u,rfl,ru⟩:=rv.one
 cases ru;obtain⟨z,ao,n,r,hl,e⟩:=I.tf hH;obtain⟨z2,jt,n2,r2,YJ,e2⟩:=I.tf hB;have eM:ao.toArray.size+jt.toArray.size<=sizeLine:=by rw[df,df];omega
 have YO:¬ (!ao.toArray.isEmpty&&Builtin.List.listTooLong (ao.toArray.size+jt.toArray.size))=true:=by
  rw[abj eM,wI];exact eo
 refine call_meets F.slot_list_extend ⟨_,e,rfl⟩ F.entry_list_extend (F.args_list_extend_2 _ _)
  (AutoSeq1.list_extend_list_list_0 l ao.toArray n b jt.toArray n2 YO (by rw[df];omega) (by omega)) ⟨e,e2,?_⟩
 refine⟨.aR,_,I.Kz (its':=ao++jt) hH e (by simp) (r.append r2) ?_,rfl,q⟩
 rw[bS];omega
inductive oM(x:V)(y:V)(H:Hp)(Q:VK):Prop
 | mk:∀l b xs zs,(x=.ref l)->(y=.ref b)->(H l=some (.lst xs))->(H b=some (.lst zs))->(xs.length+zs.length<=sizeLine)->(∀p,H p=none->Q (.ref p) (upd H p (.lst (xs++zs))))->oM x y H Q
theorem cI:cY X (binaryOp .Add) oM:=by
 intro pins s σ H x y v u Q I rx ry h;obtain⟨l,b,xs,zs,rfl,rfl,hH,hB,hz,q⟩:=h
 cases rx
 cases ry;obtain⟨z,ao,n,r,hl,e⟩:=I.tf hH;obtain⟨z2,jt,n2,r2,YJ,e2⟩:=I.tf hB;refine PySem.P.add_list e e2 ?_ (by rw[df,df];omega)
 have ea:ao.toArray++jt.toArray=(ao++jt).toArray:=by simp
 rw[ea];exact⟨.ref _,_,I.aaw (t':=s.toks) (r.append r2) (by rw[bS];omega),rfl,q _ I.fresh⟩
end
end L2
namespace Att
open PySem PySem.W PySem.Calls PyProof.Rows
theorem Zy{P:Params}{h:Heap}:∀(ns:List Int) (vs:List Value),WellAll P h vs (ns.map WData.int)->IntsAre vs ns:=by
 intro ns
 induction ns with
 | nil =>
  intro vs w;rw[ahx] at w
  cases w;exact .nil
 | cons n ns ih =>
  intro vs w;rw[jc] at w
  cases w with
  | cons a b =>
   cases a;exact .cons _ _ (ih _ b)
theorem aep{l:OpenLaw}{n:Nat}(hn:l.most=some n){P:Params}{h:Heap}{args:List WData}{vals:List Value}
  (sW:l.row.toRowW.claim.pre args=true) (vw:WellAll P h vals args) :
  ∃a vs ns,vals=[bM a]/\args=[WData.list (ns.map WData.int)]/\h.get? a=some { cls:=.type "list",data:=.seq vs.toArray }/\IntsAre vs ns/\ns.length<=n:=by
 have Y5:WShape.hasAll [] args [.list .int]=true:=(pre_splitW sW).1;have hc:l.pre.holds [] { args:=args }=true:=(pre_splitW sW).2;obtain⟨d,r,rfl,h1,h2⟩:=hasAllW_cons Y5;obtain rfl:=hasAllW_nil h2;obtain⟨xs,rfl,h3⟩:=hasW_list h1;obtain⟨ns,rfl⟩:=items_int h3;have hlen:ns.length<=n:=by
  unfold OpenLaw.pre at hc;have h4:(WTm.not (.lt (.lit (.int (n:Int))) (.len (.arg 0)))).holds [] { args:=[.list (ns.map .int)] }=true:=by
   have h4:=(holds_andW hc).1;rw[hn] at h4;exact h4
  have h5:=condW_of h4 (w_not (w_lt w_lit (w_len_list (w_arg rfl))));rw[aH] at h5;refine BX λq=>?_
  have q':(n:Int)<((ns.length:Nat):Int):=by omega
  first
   | (rw[decide_eq_true q'] at h5;exact absurd h5 (by decide))
   | (simp at h5;omega)
 cases vw with
 | cons w1 w2 =>
  cases w2
  cases w1 with
  | list ho Yl=>exact⟨_,_,ns,rfl,rfl,ho,Zy ns _ Yl,hlen⟩
theorem adB(l:OpenLaw)(args:List WData):l.row.toRowW.claim.post args (.bool true) args=true :=
 postW_of (r:=l.row.toRowW) (X:=(true==true))
  (show WShape.has [] (.bool true) .bool=true by first|rfl|decide|simp[WShape.has,WShape.arms,WShape.armsAll])
  (show (WTm.eq .res (.lit (.bool true))).value [] { args:=args,res:=some (.bool true),after:=args }=some (.bool (true==true)) from w_eq_bool (w_res rfl) w_lit) rfl
theorem TC{l:OpenLaw}{n:Nat}{q:Program}{loose:List Str}{XP:(Str->Option Value)->Heap->Prop}{YP:World->Heap->Prop}{d:DefRec}
  (hn:l.most=some n) (ve:d.params.defaults=[])
  (call:∀(w:World) (dq br:Shared) (mg mb:Str->Option Value) (fa:Addr) (o:Obj) (pm cd doc:Value) (a:Addr) (vs:List Value) (ns:List Int),
   Ground q loose [] XP w dq mg mb br.heap->YP w br.heap ->
   br.heap.get? fa=some o->o.data=.func (docDef d.name d.params d.body d.scope pm cd doc)->br.heap.CodeRec cd d.name->mg d.name=some (.ref fa) ->
   br.heap.get? a=some { cls:=.type "list",data:=.seq vs.toArray }->IntsAre vs ns->ns.length<=n->br.gens=#[] ->
   codeAny (model l.prog w) callerA (.call (.ref fa) ⟨[.ref a],[]⟩) (λr s'=>r=.ok (.ret (.bool true))/\OldK br.heap s'.heap/\s'.os=br.os/\AllBare s'.gens) br) :
  WalkO q loose XP YP l.row.toRowW d [] (λf vs=>RZ f vs):=by
 intro w dq br mg mb G Y fa o pm cd doc dV kV ho hd fE hD vo hg args vals as sW JL JU vw JN;obtain rfl:dV=.none:=Dflts.none hD ve;obtain rfl:kV=.none:=Dflts.noKw hD;obtain⟨a,vs,ns,rfl,rfl,Dz,hints,hlen⟩:=aep hn sW vw;refine enter_call (codeAny_mono (call w dq br mg mb fa o pm cd doc a vs ns G Y ho (fd_plain hd) fE vo Dz hints hlen hg) λr s' hq=>?_)
 obtain⟨rfl,h2,h3,h4⟩:=hq;exact⟨.inl ⟨.bool true,.bool true,[],rfl,λ_=>rfl,.bool true,adB l _,λ_=>⟨R9,λ_ hm=>(nomatch hm)⟩⟩,h2,h3,h4⟩
end Att
namespace L2
open PySem PySem.Spec PyProof.Rows
theorem Rn:∀{vs:List Value} {ns:List Int},IntsAre vs ns->Vals (ns.map V.int) vs
 | _,_,.nil=>.nil
 | _,_,.cons n t h=>.cons ⟨t,rfl⟩ (Rn h)
def Ci(H:Hp):Prop:=∀b,H b=none\/∃o xs,H b=some (.iF o (.lst xs))
end L2
/- SE Su SG (shape;Sv,My.* are ahu):
   My.rm: a structure of wq addresses agC aht aas names (classes,Wo);My.Txt K t: a structure (Prop) of wq equations over K;
   My.agL:{K} {implicit addresses ..} (e1:nsIn K mainGlobals "law" = some (some (.ref f))) (e2:K.lookup f=some ⟨oc,od,.func (fnOf "law" "law" params body scope dV kV doc pm an bY ct),sl⟩) (e3:codeIn K bY "law" = true) .. : ∃t,My.Txt K t
(wq tactic k_is has no namespace: write k_is) -/
namespace L2
open PySem PySem.Spec PyProof.Rows
def inClass(s:Stmt)(j:Nat):Stmt:=match s with
 | .ClassDef _ _ _ body _ _ _ _ _ _ _=>body.getD j (.Pass ⟨0,0,0,0⟩)
 | _=>.Pass ⟨0,0,0,0⟩
def lp(s:Stmt):Arguments:=match s with
 | .FunctionDef _ a _ _ _ _ _ _ _ _=>a
 | _=>{ posonlyargs:=[],args:=[],vararg:=none,kwonlyargs:=[],kw_defaults:=[],kwarg:=none,defaults:=[] }
def iY(s:Stmt):List Stmt:=match s with
 | .FunctionDef _ _ b _ _ _ _ _ _ _=>b
 | _=>[]
def eU(s:Stmt):Scope:=match s with
 | .FunctionDef _ _ _ _ _ _ sc _ _ _=>sc
 | _=>{ kind:=.function,names:=[],isGenerator:=false,isCoroutine:=false }
abbrev a8:hU:=λ_ _ _ _ _ _=>False
abbrev E0:XK:=λ_ _ _=>False
theorem aw{X:Cx}:Passes a8 X E0:=λ_ _ _ _ _ _ _ h=>h.elim
structure j7(K:aj)(x qual:Str)(st:Stmt)(f:Addr)(fd:FuncData):Prop where
 ex:∃(oc:Value) (od:Option Addr) (kV doc pm:Value) (an:Option Addr) (bY ct:Value) (kC:Array (Option Value)),
  fd=kT x qual (lp st) (iY st) (eU st) .none kV doc pm an bY ct/\K.lookup f=some ⟨oc,od,.func fd,kC⟩/\uq K bY qual=true
 kp:jz K (.ref f)=true
section
variable{P:Program}{w:World}{K:aj}{mg:Str->Option Value}{base:Heap}
theorem j7.ok{x qual:Str}{st:Stmt}{f:Addr}{fd:FuncData}{N ps:List Str}{k:Nat}{sp:Sp}(F:j7 K x qual st f fd)(S:l8 N ps (eU st))(len:∀vs H Q E,sp vs H Q E->vs.length=ps.length)
  (Dp:∀(bY:Value) (A:Around) (outer:List Env) (s:Shared) (H:Hp) (vs:List V) (Q:VK) (E:XK),cZ k (A.deeper (envOfC qual (eU st) s.heap.objs.size f bY))->sp vs H Q E ->
   ∃t,gG (eJ a8 P w K mg base N qual (eU st) f bY A outer s H E).aD (iY st) t/\t { nx:=λ_ H'=>Q .aR H',rt:=Q } (start N vs) H):ax P w K mg base a8 (k+1) f fd ps sp:=by
 obtain⟨oc,od,kV,doc,pm,an,bY,ct,kC,rfl,lk,fE⟩:=F.ex;refine Iq lk fE S len λA outer s H vs Q E hr lD=>?_
 obtain⟨t,h,q⟩:=Dp bY A outer s H vs Q E hr lD;exact⟨t,h.aD,q⟩
theorem j7.binds{x qual:Str}{st:Stmt}{f:Addr}{fd:FuncData}{ps:List Str}(F:j7 K x qual st f fd)
  (h:∀(kV doc pm:Value) (an:Option Addr) (bY ct:Value) (us:List Value),us.length=ps.length->bindArgs (kT x qual (lp st) (iY st) (eU st) .none kV doc pm an bY ct) ⟨us,[]⟩=pure (ps.zip us)):Binds K fd ps []:=by
 obtain⟨oc,od,kV,doc,pm,an,bY,ct,kC,rfl,lk,fE⟩:=F.ex;exact .all (h kV doc pm an bY ct)
theorem Ai{x qual:Str}{st:Stmt}{f:Addr}{oc:Value}{od an:Option Addr}{kC:Array (Option Value)}{kV doc pm bY ct:Value}(l:K.lookup f=some ⟨oc,od,.func (kT x qual (lp st) (iY st) (eU st) .none kV doc pm an bY ct),kC⟩)
  (c:uq K bY qual=true) (k:jz K (.ref f)=true):j7 K x qual st f (kT x qual (lp st) (iY st) (eU st) .none kV doc pm an bY ct):=⟨⟨oc,od,kV,doc,pm,an,bY,ct,kC,rfl,l,c⟩,k⟩
end
theorem lM{n:Nat}(h:n<=1000):n<sizeLine:=F9 h (by decide)
section
variable{X:Cx}
theorem pv(i:Nat){x:Str}{pos:Pos}(hN:X.N[i]?=some x:=by rfl)(hv:pJ X.env.scope x:=by first|exact qX rfl|exact lV (qX rfl)|exact lV (lV rfl))(hd:(x==("__debug__" : Str))=false:=by decide)
  (fE:(x==("__classdict__" : Str))=false:=by decide):PE X (.Name x pos) (Bt i):=Ma hN hv hd fE
end
theorem bt{A B:Prop}(h:B):if false=true then A else B:=by
 rw[if_neg eo];exact h
theorem bI{A B:Prop}(h:A):if true=true then A else B:=by
 rw[if_pos rfl];exact h
theorem vB{c A B:Prop}[Decidable c](hc:c)(h:B):if (!decide c)=true then A else B:=by
 rw[decide_eq_true hc];exact bt h
def ae(H H':Hp):Prop:=∀b o,H b=some o->H' b=some o
theorem ae.refl(H:Hp):ae H H:=λ_ _ h=>h
theorem ae.trans{H H1 H2:Hp}(a:ae H H1)(b:ae H1 H2):ae H H2:=λc o h=>b c o (a c o h)
theorem ae.free{H H':Hp}(e:ae H H'){l:Addr}(h:H' l=ahU):H l=ahU:=by
 cases q:H l with
 | none=>rfl
 | some o =>
  rw[e l o q] at h
  cases h
theorem ae.seq{K:aj}{H H':Hp}{a:Addr}{xs:List V}(e:ae H H')(h:ai K H a xs):ai K H' a xs:=by
 rcases h with (h|⟨o,h⟩)|h
 ·exact .inl (.inl (e _ _ h))
 ·exact .inl (.inr ⟨o,e _ _ h⟩)
 ·exact .inr h
structure Df(K:aj)(mg:Str->Option Value)(x qual:Str)(st:Stmt)(f:Addr)(fd:FuncData)(ps:List Str):Prop where
 F:j7 K x qual st f fd
 m:mg x=some (.ref f)
 b:Binds K fd ps []
theorem Ut{fd:FuncData}{p:Str}{ps:List Str}(h:∀a:Value,∀us:List Value,us.length=ps.length->bindArgs fd ⟨a::us,[]⟩=pure ((p,a)::ps.zip us)):∀us:List Value,us.length=(p::ps).length->bindArgs fd ⟨us,[]⟩=pure ((p::ps).zip us):=λus hl=>by
 cases us with
 | nil=>cases hl
 | cons a r=>exact h a r (ahR hl)
theorem Up{fd:FuncData}{p:Str}(h:∀a:Value,bindArgs fd ⟨[a],[]⟩=pure [(p,a)]):∀us:List Value,us.length=[p].length->bindArgs fd ⟨us,[]⟩=pure ([p].zip us) :=
 Ut λa us hl=>by obtain rfl:=Se hl;exact h a
theorem Uq{fd:FuncData}{p q:Str}(h:∀a b:Value,bindArgs fd ⟨[a,b],[]⟩=pure [(p,a),(q,b)]):∀us:List Value,us.length=[p,q].length->bindArgs fd ⟨us,[]⟩=pure ([p,q].zip us):=λus hl=>by
 match us,hl with
 | [a,b],_=>exact h a b
theorem Ur{fd:FuncData}{p q r:Str}(h:∀a b c:Value,bindArgs fd ⟨[a,b,c],[]⟩=pure [(p,a),(q,b),(r,c)]):∀us:List Value,us.length=[p,q,r].length->bindArgs fd ⟨us,[]⟩=pure ([p,q,r].zip us):=λus hl=>by
 match us,hl with
 | [a,b,c],_=>exact h a b c
theorem Us{fd:FuncData}{p q r t:Str}(h:∀a b c d:Value,bindArgs fd ⟨[a,b,c,d],[]⟩=pure [(p,a),(q,b),(r,c),(t,d)]):∀us:List Value,us.length=[p,q,r,t].length->bindArgs fd ⟨us,[]⟩=pure ([p,q,r,t].zip us):=λus hl=>by
 match us,hl with
 | [a,b,c,d],_=>exact h a b c d
section
variable{K:aj}{h:Heap}{mg:Str->Option Value}{x:Str}{st:Stmt}{f:Addr}{ps:List Str}{oc:Value}{od an:Option Addr}{kC:Array (Option Value)}{kV doc pm bY ct:Value}
theorem Vy(X:K.In h)(G:h.Ns mainGlobals mg)(a:cC K mainGlobals x=some (some (.ref f)))
  (l:K.lookup f=some ⟨oc,od,.func (kT x x (lp st) (iY st) (eU st) .none kV doc pm an bY ct),kC⟩) (c:uq K bY x=true) (k:jz K (.ref f)=true)
  (b:∀us:List Value,us.length=ps.length->bindArgs (kT x x (lp st) (iY st) (eU st) .none kV doc pm an bY ct) ⟨us,[]⟩=pure (ps.zip us)) :
  Df K mg x x st f (kT x x (lp st) (iY st) (eU st) .none kV doc pm an bY ct) ps:=⟨Ai (st:=st) l c k,fq X G a,.all b⟩
end
section
variable{X:Cx}{pins:List (Addr×Obj)}{σ:St}{H:Hp}{s:Shared}{h':Heap}
theorem Inv.Bu{p:Addr}{o:HO}(I:Inv X pins σ H s)(f:fP X pins H p)(new:dN X.prog X.w (upd H p o) s.heap p o):Inv X pins σ (upd H p o) s:=by
 obtain⟨f0,f1,f2,f3,f4,f5⟩:=f;have nu:∀b u,H b=some u->b≠p:=λb u e z=>by rw[z,f0] at e;cases e
 refine I.step (h':=s.heap) (g':=s.gens) (d':=s.drawn) (t':=s.toks) (ch:=[p]) (λb hb=>?_) (λb o _ _ _ e _=>e) (λb o _ _ _ e _=>⟨o.slots,e⟩)
  (λb o hc _ n=>by rw[bg (λz=>hc (by simp[z]))];exact n) (λb o _ e=>⟨o,e⟩) (λb xs e=>by rw[bg (nu _ _ e)];exact e) (λb o u e=>by rw[bg (nu _ _ e)];exact e)
  (λb ps e=>⟨#[],by rw[bg (nu _ _ e),e];simp⟩) (λm hm=>hm) (λb u e=>?_) I.bare
 ·have e:b=p:=by simpa using hb
  subst e;exact⟨f3,f1,f4,f5⟩
 ·by_cases hb:b=p
  ·subst hb
   rw[aA] at e
   cases e;exact new
  ·rw[bg hb] at e
   exact(I.aS b u e).kN (λc v _ q=>q) (λc q=>by rw[bg (nu _ _ q)];exact q) λc xs q=>by rw[bg (nu _ _ q)];exact q
theorem Inv.wt{t':Nat}{ch:List Addr}(I:Inv X pins σ H s)(k:∀b o,b∉ch->s.heap.get? b=some o->h'.get? b=some o)(hf:∀b∈ch,fP X pins H b):Inv X pins σ H { s with heap:=h',toks:=t' }:=by
 have vO:∀b u,H b=some u->b∉ch:=λb u e z=>by rw[(hf b z).1] at e;cases e
 refine I.step (g':=s.gens) (d':=s.drawn) (ch:=ch) (λb hb=>?_) (λb o _ _ hc e _=>k b o hc e) (λb o _ _ hc e _=>⟨o.slots,k b o hc e⟩) (λ_ _ _ _ n=>n)
  (λb o hc e=>⟨o,k b o hc e⟩) (λ_ _ e=>e) (λ_ _ _ e=>e) (λb ps e=>⟨#[],by rw[e];simp⟩) (λm hm=>?_) (λb u e=>?_) I.bare
 ·obtain⟨f0,f1,f2,f3,f4,f5⟩:=hf b hb
  exact⟨f3,f1,f4,f5⟩
 ·obtain⟨o,es,ep,ho,r⟩:=hm
  exact⟨o,es,ep,k _ o (λz=>(hf _ z).2.1 rfl) ho,r⟩
 ·refine(I.aS b u e).kN (λc v hc q=>k c v ?_ q) (λ_ q=>q) λ_ _ q=>q
  rcases hc with z|z
  ·rw[z];exact vO b u e
  ·exact vO c _ z
end
def fU(env:Env):List (Str×NameKind)->List (Str×Addr)->List (Str×Addr)
 | [],cs=>cs
 | (n,k)::r,cs=>if k==.free then (match env.cells.lookup n with|some c=>fU env r ((n,c)::cs)|none=>fU env r cs) else fU env r cs
theorem xx{env:Env}:∀{ns:List (Str×NameKind)} {cs:List (Str×Addr)},(∀p∈cs,env.cells.lookup p.1=some p.2)->∀p∈fU env ns cs,env.cells.lookup p.1=some p.2
 | [],_,h=>h
 | (n,k)::r,cs,h=>by
  unfold fU
  split
  ·split
   ·rename_i c e
    exact xx (ns:=r) λp hp=>by
     rcases bE.mp hp with rfl|hp
     ·exact e
     ·exact h p hp
   ·exact xx (ns:=r) h
  ·exact xx (ns:=r) h
theorem nB{env:Env}{ns:List (Str×NameKind)}:∀p∈fU env ns [],env.cells.lookup p.1=some p.2:=xx λp h=>by cases h
theorem xw{env:Env}:∀{ns:List (Str×NameKind)} {cs:List (Str×Addr)} {p:Str×Addr},p∈cs->p∈fU env ns cs
 | [],_,_,h=>h
 | (n,k)::r,cs,p,h=>by
  unfold fU
  split
  ·split
   ·exact xw (ns:=r) (cP _ h)
   ·exact xw (ns:=r) h
  ·exact xw (ns:=r) h
theorem pQ{env:Env}{x:Str}{c:Addr}(hc:env.cells.lookup x=some c):∀{ns:List (Str×NameKind)} {cs:List (Str×Addr)},(x,NameKind.free)∈ns->(x,c)∈fU env ns cs
 | [],_,h=>nomatch h
 | (n,k)::r,cs,h=>by
  unfold fU;rcases bE.mp h with e|h
  ·cases e
   rw[if_pos (by rfl),hc]
   exact xw cB
  ·split
   ·split
    ·exact pQ hc (ns:=r) h
    ·exact pQ hc (ns:=r) h
   ·exact pQ hc (ns:=r) h
theorem oz{cs:List (Str×Addr)}{env:Env}(h:∀p∈cs,env.cells.lookup p.1=some p.2){x:Str}{c:Addr}(e:cs.lookup x=some c):env.cells.lookup x=some c:=h (x,c) (gD e)
theorem vE{x:Str}{c:Addr}:∀{cs:List (Str×Addr)},(x,c)∈cs->∃c',cs.lookup x=some c'
 | [],h=>nomatch h
 | (n,d)::r,h=>by
  by_cases e:x=n
  ·subst e
   exact⟨d,by simp[l4]⟩
  ·have hb:(x==n)=false:=beq_eq_false_iff_ne.mpr e
   rcases bE.mp h with z|z
   ·cases z
    exact absurd rfl e
   ·obtain⟨c',q⟩:=vE z
    exact⟨c',by simp[l4,hb,q]⟩
theorem HE{env:Env}:∀(ns:List (Str×NameKind)) (cs:List (Str×Addr)),(∀x∈ns,x.2=.free->∃c,env.cells.lookup x.1=some c) ->
  (forIn ns cs λx r=>(if (x.2==NameKind.free)=true then (do let c <-cellOf env x.1;pure (ForInStep.yield ((x.1,c)::r))) else pure (ForInStep.yield r):Sem (ForInStep (List (Str×Addr)))))=(pure (fU env ns cs):Sem (List (Str×Addr)))
 | [],cs,_=>rfl
 | (n,k)::r,cs,h=>by
  have ih:=λcs=>HE r cs λx hx=>h x (cP _ hx)
  rw[List.forIn_cons];unfold fU
  cases hk:(k==NameKind.free) with
  | false =>
   simp only[RN,if_false];exact ih cs
  | true =>
   obtain⟨c,hc⟩:=h (n,k) cB (by simpa using hk)
   have lC:env.cells.lookup n=some c:=hc;simp only[if_true];unfold cellOf;rw[lC];exact ih ((n,c)::cs)
theorem CV{scope:Scope}{env:Env}(h:∀x∈scope.names,x.2=.free->∃c,env.cells.lookup x.1=some c):closureFor scope env=pure (fU env scope.names []):=by
 have e:=HE scope.names [] h;have e2:closureFor scope env=(forIn scope.names [] (λx r=>(if (x.2==NameKind.free)=true then (do let c <-cellOf env x.1;pure (ForInStep.yield ((x.1,c)::r))) else pure (ForInStep.yield r):Sem (ForInStep (List (Str×Addr))))) >>= λz=>pure z:Sem (List (Str×Addr))):=rfl
 rw[e2,e];rfl
structure gQ(dU:Scope)(N:List Str)(scope:Scope)(N':List Str)(nt:Nat)(caps:List Nat):Prop where
 kind:scope.kind=.function
 KY:∀y∈scope.names,y.2≠.cell
 names:∀y∈scope.names,y.2=.local->scope.names.lookup y.1=some .local
 frees:∀y∈scope.names,y.2=.free->dU.names.lookup y.1=some .cell\/dU.names.lookup y.1=some .free
 uK:caps.map (λj=>N[j]?)=(N'.drop nt).map some
 CU:∀x∈N'.drop nt,scope.names.lookup x=some .free
 len:nt<=N'.length
 nd:N'.Nodup
def qM(nt:Nat)(caps:List Nat)(σ:St):St:=zalias133z nt none++caps.map λj=>(σ[j]?).getD none
structure cK where
 C:Addr
 s:Shared
 H:Hp
 fp:List Addr
def eI(X:Cx)(N':List Str)(scope:Scope)(B:cK):Cx :=
 { X with N:=N',dq:=B.s,rA:=B.H,env:=compEnvC scope (fU X.env scope.names []) B.C X.env,outer:=X.stack,ex:=B.fp,fn:=λ_=>false,xe:=λ_ _=>False }
theorem KI{scope:Scope}{env:Env}{x:Str}{k:NameKind}(h:(x,k)∈(relabel scope env).names):∃k0,(x,k0)∈scope.names/\(k=k0\/(k=.cell/\k0=.free)):=by
 obtain⟨⟨n,k0⟩,hm,e⟩:=bR.mp h
 try dsimp only at e
 split at e
 ·rename_i hc
  cases e;refine⟨k0,hm,.inr ⟨rfl,?_⟩⟩;simp only[de,beq_iff_eq] at hc;exact hc.1.1
 ·cases e
  exact⟨_,hm,.inl rfl⟩
theorem DM{env:Env}:∀{names:List (Str×NameKind)} {x:Str},names.lookup x=some .free ->
  (names.map λ(n,k)=>if (k==NameKind.free&&env.scope.kind==.function&&env.kindOf n==some .cell) then (n,NameKind.cell) else (n,k)).lookup x=some .cell \/
  (names.map λ(n,k)=>if (k==NameKind.free&&env.scope.kind==.function&&env.kindOf n==some .cell) then (n,NameKind.cell) else (n,k)).lookup x=some .free
 | [],_,h=>by simp at h
 | (n,k)::r,x,h=>by
  have ih:=@DM env r x;rw[jc]
  cases hx:x==n with
  | true =>
   simp only[wO,hx] at h
   cases h
   try dsimp only
   split
   ·left;simp only[wO,hx]
   ·right;simp only[wO,hx]
  | false =>
   simp only[wO,hx] at h
   try dsimp only
   split
   ·simp only[wO,hx];exact ih h
   ·simp only[wO,hx];exact ih h
section
variable{X:Cx}{pins:List (Addr×Obj)}{σ:St}{H:Hp}{aJ:Shared}{scope:Scope}{N':List Str}{nt:Nat}{caps:List Nat}{fp:List Addr}{C:Addr}
theorem Vi(I:Inv X pins σ H aJ)(S:gQ X.env.scope X.N scope N' nt caps)(f2:∀b∈fp,fP X pins H b)(cU:∀b∈fp,b<aJ.heap.objs.size)(hC:aJ.heap.objs.size<=C) :
  (eI X N' scope ⟨C,aJ,H,fp⟩).Ok where
 mod:=I.ok.mod
 kind:=S.kind
 glob:=I.ok.glob
 blt:=I.ok.blt
 above:=hC
 inj:=λx y c h1 h2=>I.ok.inj x y c (oz nB h1) (oz nB h2)
 has:=λx hx=>by
  have hm:∃k,(k=NameKind.cell\/k=NameKind.free)/\(x,k)∈(relabel scope X.env).names:=by
   rcases hx with e|e
   ·exact⟨_,.inl rfl,gD e⟩
   ·exact⟨_,.inr rfl,gD e⟩
  obtain⟨k,hk,hm⟩:=hm;obtain⟨k0,h0,e⟩:=KI hm;have hf:k0=.free:=by
   rcases e with e|⟨_,e⟩
   ·rcases hk with z|z
    ·exact absurd (e.symm.trans z) (S.KY _ h0)
    ·exact e.symm.trans z
   ·exact e
  subst hf;obtain⟨c,hc⟩:=I.ok.has x (S.frees _ h0 rfl);exact vE (pQ hc h0)
 ny:=λx c h=>absurd (show false=true from h) eo
 hd:=I.ok.hd
 frames:=I.ok.frames
 gb:=.inl rfl
 uW:=λb hb=>⟨cQ (dI (cU b hb) hC),λx c e=>(f2 b hb).2.2.2.2.1 x c (oz nB e)⟩
 bs:=I.bs
 iW:=b_ I.ok.iW I.sz
 mK:=λb o e hb=>by
  rcases(f2 b hb).2.2.2.1 with z|z
  ·exact I.ok.mK b o e z
  ·exact absurd (dI (bQ e) (b_ I.ok.iW z)) (gg _)
 pU:=λb hb hf=>by
  rcases bE.mp (I.lN b hf) with e|e
  ·exact(f2 b hb).2.1 e
  ·exact(f2 b hb).2.2.1 e
 ic:=I.stack
 ly:=I.Bm
theorem Zz{eV:Heap}{tk:Nat}{m0:Str->Option Value}(I:Inv X pins σ H aJ)(S:gQ X.env.scope X.N scope N' nt caps)(f2:∀b∈fp,fP X pins H b)(cU:∀b∈fp,b<aJ.heap.objs.size)
  (hC:aJ.heap.objs.size<=C) (oq:eV.Ns C m0) (old:∀b o,aJ.heap.get? b=some o->eV.get? b=some o) :
  Inv (eI X N' scope ⟨C,aJ,H,fp⟩) pins (qM nt caps σ) H { aJ with heap:=eV,toks:=tk }:=by
 have hl:=congrArg ri S.uK;rw[aH,aH,lY] at hl;have sub:∀{x c},(fU X.env scope.names []).lookup x=some c->X.env.cells.lookup x=some c:=λe=>oz nB e
 refine⟨Vi I S f2 cU hC,rfl,I.bare,Un.kept old,⟨m0,oq,λi x v e1 e2 e3=>?_⟩,λx c e=>?_,I.aS.fresh hC,λx c e=>I.iZ x c (sub e),λp hp=>?_,I.aS.kept old,?_⟩
 ·have uU:N'[i]?=some x:=e1
  have gU:(zalias133z nt none++caps.map λj=>(σ[j]?).getD none)[i]?=some (some v):=e2
  have hi:nt<=i:=by
   rcases RI i nt with z|z
   ·rw[Sf (by simpa using z),Sh,if_pos z] at gU
    cases gU
   ·exact z
  rw[Sg (by simpa using hi),iN,eu] at gU
  cases hj:caps[i-nt]? with
  | none=>rw[hj] at gU;cases gU
  | some j =>
   rw[hj] at gU;have mh:(σ[j]?).getD none=some v:=a6 gU;have vx:σ[j]?=some (some v):=by
    cases q:σ[j]? with
    | none=>rw[q] at mh;cases mh
    | some o=>rw[q] at mh;have z:o=some v:=mh;rw[z]
   have hd:(N'.drop nt)[i-nt]?=some x:=by rw[aiF,ahK hi];exact uU
   have hN:X.N[j]?=some x:=by
    have q:=congrArg (λl=>l[i-nt]?) S.uK
    have q:(caps.map λj=>X.N[j]?)[i-nt]?=((N'.drop nt).map some)[i-nt]?:=q
    rw[eu,eu,hj,hd] at q;exact a6 q
   have oi:=S.CU x (kS hd);have vk:=S.frees (x,.free) (gD oi) rfl;have FL:pJ X.env.scope x:=.inr vk;obtain⟨m,hn,vn⟩:=I.loc;obtain⟨u,r,l⟩:=vn j x v hN vx FL;refine⟨u,r,.inr ⟨?_,?_⟩⟩
   ·exact DM oi
   ·rcases l with ⟨k,_⟩|⟨_,c,e,z⟩
    ·have k':X.env.scope.names.lookup x=some .local:=k
     rcases vk with q|q<;>(rw[k'] at q;cases q)
    ·obtain⟨c',q⟩:=vE (pQ e (gD oi) (cs:=[]))
     have q2:=sub q;rw[e] at q2
     cases q2;obtain⟨o,ho,gu⟩:=z;exact⟨c,q,o,old _ _ ho,gu⟩
 ·obtain⟨v,o,ho,gu⟩:=I.cell x c (sub e)
  exact⟨v,o,old _ _ ho,gu⟩
 ·obtain⟨a,b,c,d,e⟩:=I.pin p hp
  refine⟨old _ _ a,b,cQ (dI (bQ a) hC),λhf=>?_,e⟩
  rcases bE.mp (I.lN p.1 hf) with z|z
  ·exact c z
  ·exact d z
 ·show (zalias133z nt none++caps.map λj=>(σ[j]?).getD none).length=N'.length
  rw[bS,iN,aH];have:=S.len;omega
end
def pC(X:Cx)(ifs:List Expr)(t:TT):Prop :=
 ∀(pins:List (Addr×Obj)) (s:Shared) (σ:St) (H:Hp) (Q:Bool->Hp->Prop),Inv X pins σ H s->t σ H Q ->
  wpAny (model X.prog X.w) X.A (forIn ifs true λc r=>if r=true then do let ok <-isTrue c X.env (eval c X.env);pure (ForInStep.yield ok) else pure (ForInStep.yield r)) (TP X pins σ Q) X.xe s
def dW:TT:=λ_ H Q=>Q true H
theorem kG{X:Cx}:pC X [] dW:=λ_ _ _ H _ I h=>wpAny_tests_nil ⟨H,I,h⟩
theorem adN{X:Cx}{c:Expr}{t:TT}(h:PT X c t):pC X [c] t:=λpins s σ H Q I q=>wpAny_tests_one (h pins s σ H Q I q)
section
variable{prog:Program}{w:World}{A:Around}{R:Result->Shared->Prop}{s:Shared}
theorem HF{elt target iter:Expr}{ifs:List Expr}{scope:Scope}{pos:Pos}{it acc:Value}{env:Env}(I:Nat->Shared->Prop)
  (turn:∀n s,I n s->wpAny (model prog w) A (pyNext it) (λr br=>match r with
   | none=>R (.ok .next) br
   | some v=>wpAny (model prog w) A (letOwnedTupleGo target it v) (λ_ Qx=>wpAny (model prog w) A (assign target env v) (λ_ aJ =>
     wpAny (model prog w) A (forIn ifs true λc r=>if r=true then do let ok <-isTrue c env (eval c env);pure (ForInStep.yield ok) else pure (ForInStep.yield r)) (λok fw =>
      if ok=true then wpAny (model prog w) A (eval elt env) (λx tT =>
       wpAny (model prog w) A (call (.builtin "list.append") [acc,x]) (λ_ Qy=>∃m,m<n/\I m Qy) (notedBy (model prog w) A env λe s'=>R (.error e) s') tT) (notedBy (model prog w) A env λe s'=>R (.error e) s') fw
      else ∃m,m<n/\I m fw) (notedBy (model prog w) A env λe s'=>R (.error e) s') aJ) (notedBy (model prog w) A env λe s'=>R (.error e) s') Qx) (notedBy (model prog w) A env λe s'=>R (.error e) s') br)
   (notedBy (model prog w) A env λe s'=>R (.error e) s') s)
  (n:Nat) (h:I n s):codeAny (model prog w) A (.compLoop (.ListComp elt [⟨target,iter,ifs,0⟩] scope pos) 0 it acc env) R s:=by
 refine codeAny_loop rfl I (λn s hI=>?_) n h
 show wpAny _ A ((compTurn (.ListComp elt [⟨target,iter,ifs,0⟩] scope pos) 0 it acc env).onRaise (λx=>do noteFrame x env;theTreesLotGoes x)) _ _ s
 refine wpAny_noted ?_;rw[compTurn_list];refine wpAny_bind (wpAny_standAt (wpAny_bind (wpAny_mono (turn n s hI) (λr br eV=>?_) λ_ _ h'=>h')))
 cases r with
 | none=>exact wpAny_pure eV
 | some v =>
  refine wpAny_bind (wpAny_mono eV (λ_ Qx Zb=>?_) λ_ _ h'=>h')
  refine wpAny_bind (wpAny_mono Zb (λ_ aJ vy=>wpAny_bind (wpAny_mono vy (λok fw Aw=>?_) λ_ _ h'=>h')) λ_ _ h'=>h')
  cases ok with
  | false=>exact wpAny_pure ⟨rfl,Aw⟩
  | true =>
   exact wpAny_bind (wpAny_bind (wpAny_mono Aw (λx tT Zc=>wpAny_bind (wpAny_mono Zc (λ_ Qy Zd=>wpAny_pure (wpAny_pure ⟨rfl,Zd⟩)) λ_ _ h'=>h')) λ_ _ h'=>h'))
end
section
variable{X:Cx}{pins:List (Addr×Obj)}{σ:St}{H:Hp}{aJ:Shared}{scope:Scope}{N':List Str}{nt:Nat}{caps:List Nat}{tg elt iter:Expr}{ifs:List Expr}{pos:Pos}{g:cK->TG}{tt:cK->TT}{te:cK->TE}
def iS(J:It)(g:TG)(tt:TT)(te:TE)(W:Nat->Nat->List V->St->Hp->Prop)(Z:List V->Hp->Prop):Prop :=
 ∀i m ys aM H',W i m ys aM H'->(J.stop i H'/\Z ys H')\/(J.go i H'/\ys.length<sizeLine/\∃N:List V->St->Hp->Prop,(∀zs dJ H2,N zs dJ H2->∃m',m'<m/\W (i+1) m' zs dJ H2) /\
  ∀x H2,J.wH i H' x H2->g x aM H2 λdJ H3=>tt dJ H3 λb H4=>if b=true then te dJ H4 λy H5=>N (ys++[y]) dJ H5 else N ys dJ H4)
abbrev lobj(ao:List Value)(n:Nat):Obj:={ cls:=.type "list",data:=.seq ao.toArray n }
theorem HK{J:It}{it:Addr}{fp:List Addr}{tn:Nat->Heap->Prop}{W:Nat->Nat->List V->St->Hp->Prop}{Z:List V->Hp->Prop}{RR:Value->Addr->Result->Shared->Prop}{E:Value->Shared->Prop}
  (hc:X.calm=true) (S:gQ X.env.scope X.N scope N' nt caps)
  (hg:∀B,PG (eI X N' scope B) tg (g B)) (ht:∀B,pC (eI X N' scope B) ifs (tt B)) (he:∀B,PE (eI X N' scope B) elt (te B))
  (I:Inv X pins σ H aJ) (T:Turn X.prog X.w X.K tg J fp it tn) (st:tn 0 aJ.heap) (f2:∀b∈fp,fP X pins H b) (w0:∃m,W 0 m [] (qM nt caps σ) H) (turn:∀B,iS J (g B) (tt B) (te B) W Z)
  (Dj:∀D C s' ys H',Z ys H'->H' D=none->Inv X pins σ (upd H' D (.lst ys)) s'->fP X pins (upd H' D (.lst ys)) C->(∃m,s'.heap.Ns C m)->RR (.ref D) C (.ok .next) s') :
  wpAny (model X.prog X.w) X.A (newList []) (λacc fw=>wpAny (model X.prog X.w) X.A (newFunctionEnv scope X.env.globals (fU X.env scope.names []) [] X.env.qual none .none (some X.env)) (λuL tT =>
   codeAny (model X.prog X.w) X.A (.compStart (.ListComp elt [⟨tg,iter,ifs,0⟩] scope pos) 0 (.ref it) acc { uL with scope:=relabel scope X.env }) (RR acc uL.locals) tT) E fw) E aJ:=by
 refine wpAny_newObj_type (wpAny_newFunctionEnv S.KY (by intro y hy;simp at hy) (λeV mz vt=>?_) S.kind)
 try dsimp only at mz vt ⊢
 generalize pZ:aJ.heap.push { cls:=.type "list",dict:=none,data:=.seq ([]:List Value).toArray }=G2 at mz vt ⊢;have mw:G2.objs.size=aJ.heap.objs.size+1:=by rw[<-pZ,j3]
 have jK:aJ.heap.objs.size≠G2.objs.size:=by rw[mw];exact cQ (oZ _)
 have i0:aJ.heap.objs.size<=G2.objs.size:=by rw[mw];exact lU _
 have cU:∀b∈fp,b<aJ.heap.objs.size:=λb hb=>let ⟨o,e,_⟩:=T.obj 0 _ st b hb;bQ e
 have old:∀b o,aJ.heap.get? b=some o->eV.get? b=some o:=λb o e =>
  vt.extBut b o (cQ (dI (bQ e) i0)) (cJ _ (pZ ▸ cJ _ e))
 have u9:eV.get? aJ.heap.objs.size=some (lobj [] 0):=vt.extBut _ _ jK (cJ _ (pZ ▸ fN _ rfl));generalize hD:aJ.heap.objs.size=D at u9 jK i0 mw;generalize G2.objs.size=C at mz vt jK i0 mw ⊢;have om:∀b∈fp,b<D:=λb hb=>hD ▸ cU b hb
 have cL:∀p∈X.pn++pins,p.1<D:=λp hp=>hD ▸ bQ (I.pin p hp).1
 have mx:∀x c,X.env.cells.lookup x=some c->c<D:=λx c e=>let ⟨v,q⟩:=I.cell x c e;hD ▸ q.lt
 have vh:∀b∈cx X.stack,b<D:=λb hb=>by
  rcases bE.mp (I.lN b hb) with z|z
  ·rw[z,<-hD];exact I.lt
  ·rw[<-hD]
   refine ahM λq=>I.D8 q z
 have fD:∀{H':Hp} {pl:List (Addr×Obj)},H' D=none->(∀p∈X.pn++pl,p.1<D)->fP (eI X N' scope ⟨C,aJ,H,fp⟩) pl H' D:=λ{H' pl} hn hp =>
  ⟨hn,jK,λz=>gg _ (vh D z),.inr (by show aJ.heap.objs.size<=D;rw[hD];exact bH _),λx c e z=>gg D (by have:=mx x c (oz nB e);rw[z] at this;exact this),
   λp q z=>gg D (by have:=hp p q;rw[z] at this;exact this)⟩
 have fI:∀{H':Hp} {n:Nat} {ao:List Value},(∀b∈fp,H' b=none)->∀b∈fp,fP (eI X N' scope ⟨C,aJ,H,fp⟩) (pins++[(D,lobj ao n)]) H' b:=λ{H' n ao} hn b hb=>by
  obtain⟨g0,g1,g2,g3,g4,g5⟩:=f2 b hb;refine⟨hn b hb,cQ (dI (om b hb) i0),λz=>?_,.inl hb,λx c e=>g4 x c (oz nB e),λp hp z=>?_⟩
  ·rcases bE.mp (I.lN b z) with q|q
   ·exact g1 q
   ·exact g2 q
  ·have fF:p∈X.pn++(pins++[(D,lobj ao n)]):=hp
   rw[<-kW] at fF;rcases dH.mp fF with q|q
   ·exact g5 p q z
   ·have e:p=(D,lobj ao n):=by simpa using q
    rw[e] at z;have:=om b hb;rw[<-z] at this;exact gg _ this
 have v9:∀{aM:St} {H':Hp} {s':Shared} {ao:List Value} {n:Nat} {pl:List (Addr×Obj)},Inv (eI X N' scope ⟨C,aJ,H,fp⟩) (pins++pl) aM H' s'->H' D=none->s'.heap.get? D=some (lobj ao n)->Inv (eI X N' scope ⟨C,aJ,H,fp⟩) (pins++[(D,lobj ao n)]) aM H' s' :=
  λ{aM H' s' ao n pl} J hn ho=>J.Bc λp hp=>by
   rcases dH.mp hp with q|q
   ·exact J.pin p (eG _ (kR _ q))
   ·have e:p=(D,lobj ao n):=by simpa using q
    subst e;exact⟨ho,hn,jK,λz=>gg _ (vh D z),λv z=>by cases z⟩
 have I1:Inv (eI X N' scope ⟨C,aJ,H,fp⟩) (pins++[(D,lobj [] 0)]) (qM nt caps σ) H { aJ with heap:=eV,toks:=aJ.toks+([]:List (Str×Value)).length } :=
  v9 (pl:=[]) (by rw[eY];exact Zz I S f2 cU (by rw[hD];exact i0) mz old) (I.aS.fresh (by rw[hD];exact bH _)) u9
 have wg:tn 0 eV:=T.keep 0 _ _ st λb _ o e=>old b o e
 have loop:∀fw:Shared,fw={ aJ with heap:=eV,toks:=aJ.toks+([]:List (Str×Value)).length } ->
   codeAny (model X.prog X.w) X.A (.compLoop (.ListComp elt [⟨tg,iter,ifs,0⟩] scope pos) 0 (.ref it) (.ref D) (eI X N' scope ⟨C,aJ,H,fp⟩).env) (RR (.ref D) C) fw:=by
  rintro fw rfl;obtain⟨m0,w0⟩:=w0;refine HF (λk s'=>∃i ys aM H' ao n,Inv (eI X N' scope ⟨C,aJ,H,fp⟩) (pins++[(D,lobj ao n)]) aM H' s'/\Vals ys ao/\tn i s'.heap/\(∀b∈fp,H' b=none)/\ys.length<=sizeLine/\W i k ys aM H') ?_ m0
   ⟨0,[],_,H,[],0,I1,.nil,wg,λb hb=>(f2 b hb).1,dy _,w0⟩
  rintro k s' ⟨i,ys,aM,H',ao,n,I',rv,dv,uZ,hz,w'⟩;rcases turn ⟨C,aJ,H,fp⟩ i k ys aM H' w' with ⟨stop,z⟩|⟨go,hlen,NN,jj,step⟩
  ·refine aZ (T.done (eI X N' scope ⟨C,aJ,H,fp⟩) rfl rfl rfl hc i _ s' aM H' _ I' (fI uZ) dv stop) λr s1 ⟨hr,J⟩=>?_
   subst hr;have pd:=J.pin (D,lobj ao n) (eG _ (eG _ cB));have u3:H' D=none:=pd.2.1;have J0:Inv X pins σ H' s1:=I.xu (ch:=fp) J.os J.base J.aS J.bare λb hb=>⟨(f2 b hb).2.2.2.1,(f2 b hb).2.1,(f2 b hb).2.2.2.2.1,(f2 b hb).2.2.2.2.2⟩
   have J1:Inv X pins σ (upd H' D (.lst ys)) s1:=J0.Bu (I.mj (by rw[hD];exact bH _) u3) ⟨hz,ao,n,rv,pd.1⟩
   obtain⟨mC,Dx,_⟩:=J.loc;exact Dj D C s1 ys H' z u3 J1 (I.mj (by rw[hD];exact i0) (by rw[bg (Ne.symm jK)];exact J.free)) ⟨mC,Dx⟩
  ·refine aZ (T.item (eI X N' scope ⟨C,aJ,H,fp⟩) rfl rfl rfl hc i _ s' aM H' _ I' (fI uZ) dv go) λr s1 ⟨u,hr,h1⟩=>?_
   subst hr;refine aZ h1 λ_ s5 ⟨x,H5,I5,r5,y5,kM,u0⟩=>?_
   have ux:=I5.pinned (fI u0) (T.obj _ _ kM);refine wpAny_mono (hg ⟨C,aJ,H,fp⟩ _ s5 aM H5 x u _ ux r5 (step x H5 y5)) (λ_ s6 ⟨iO,H6,I6,q6⟩=>?_) λ_ _ z=>z.elim
   refine wpAny_mono (ht ⟨C,aJ,H,fp⟩ _ s6 iO H6 _ I6 q6) (λb s7 ⟨H7,I7,q7⟩=>?_) λ_ _ z=>z.elim
   have vD:∀{wQ:St} {H8:Hp} {s8:Shared},Inv (eI X N' scope ⟨C,aJ,H,fp⟩) ((pins++[(D,lobj ao n)])++tM fp s5.heap) wQ H8 s8->tn (i+1) s8.heap/\(∀b∈fp,H8 b=none)/\s8.heap.get? D=some (lobj ao n)/\H8 D=none:=λ{wQ H8 s8} I8=>by
    refine⟨T.keep _ _ _ kM λb hb o e=>(I8.pin (b,o) (eG _ (eG _ (tm hb e)))).1,λb hb=>?_,?_⟩
    ·obtain⟨o,e,_⟩:=T.obj _ _ kM b hb
     exact(I8.pin (b,o) (eG _ (eG _ (tm hb e)))).2.1
    ·have pd:=I8.pin (D,lobj ao n) (eG _ (kR _ (eG _ cB)))
     exact⟨pd.1,pd.2.1⟩
   cases b with
   | false =>
    rw[if_neg eo] at q7 ⊢;obtain⟨m',hm,w7⟩:=jj _ _ _ q7;obtain⟨t7,f7,_,_⟩:=vD I7;exact⟨m',hm,i+1,ys,iO,H7,ao,n,I7.m5,rv,t7,f7,hz,w7⟩
   | true =>
    rw[if_pos rfl] at q7 ⊢;refine wpAny_mono (he ⟨C,aJ,H,fp⟩ _ s7 iO H7 _ I7 q7) (λv s8 ⟨y,H8,I8,r8,q8⟩=>?_) λ_ _ z=>z.elim
    obtain⟨m',hm,w8⟩:=jj _ _ _ q8;obtain⟨t8,f8,o8,n8⟩:=vD I8;have Dv:=rv.length;refine append_at o8 (λh9 wb o9=>?_) (by rw[df,<-Dv];exact hz)
    have Ca:Inv (eI X N' scope ⟨C,aJ,H,fp⟩) (pins++[]) iO H8 s8:=by
     rw[eY];exact I8.m5.m5
    have ep:((ao.toArray.push v))=(ao++[v]).toArray:=by simp
    rw[ep] at o9;have I9:Inv (eI X N' scope ⟨C,aJ,H,fp⟩) (pins++[]) iO H8 { s8 with heap:=h9 } :=
     Ca.wt (t':=s8.toks) (ch:=[D]) (λb o hb e=>wb.extBut b o (λz=>hb (by simp[z])) e) (λb hb=>by
      have e:b=D:=by simpa using hb
      subst e;exact fD n8 (by rw[eY];exact cL))
    refine⟨m',hm,i+1,ys++[y],iO,H8,ao++[v],n+1,v9 I9 n8 o9,rv.append (.cons r8 .nil),T.keep _ _ _ t8 λb hb o e=>wb.extBut b o (cQ (om b hb)) e,f8,?_,w8⟩
    rw[bS,ur];exact hlen
 exact codeAny_compStart_list (loop _ rfl) (T.self X.A 0 _ _ _ wg (loop _ rfl))
def Bs(nt:Nat)(caps:List Nat)(wi:TI)(g:cK->TG)(tt:cK->TT)(te:cK->TE):TE:=λσ H Q=>wi σ H λJ H1 =>
 ∃(W:Nat->Nat->List V->St->Hp->Prop),(∃m,W 0 m [] (qM nt caps σ) H1)/\∀B,iS J (g B) (tt B) (te B) W λys H'=>∀p,H' p=none->Q (.ref p) (upd H' p (.lst ys))
theorem tL{wi:TI}(dU:Scope)(N:List Str)(S:gQ dU N scope N' nt caps)(hi:PI X tg iter wi)
  (hg:∀B,PG (eI X N' scope B) tg (g B)) (ht:∀B,pC (eI X N' scope B) ifs (tt B)) (he:∀B,PE (eI X N' scope B) elt (te B))
  (hc:X.calm=true:=by rfl) (qj:X.env.scope=dU:=by rfl) (jj:X.N=N:=by rfl) (hs:∀x,foldedSetIterable iter X.env x=pure x:=by intro _;rfl):PE X (.ListComp elt [⟨tg,iter,ifs,0⟩] scope pos) (Bs nt caps wi g tt te):=by
 subst qj jj;intro pins s σ H Q I h;have jq:∀x∈scope.names,x.2=.free->∃c,X.env.cells.lookup x.1=some c:=λx hx hf=>I.ok.has x.1 (S.frees x hx hf)
 rw[eval_ListComp];refine wpAny_comprehension_free (use:=none) rfl hs (CV jq) S.kind S.names (aZ (hi pins s σ H _ I h) λv s1 h1=>aZ h1 λvC s2 h2=>?_)
 obtain⟨it,fp,tn,J,H2,e,I2,T,qN,f2,W,w0,turn⟩:=h2;subst e;refine HK (RR:=λacc C=>compPost (model X.prog X.w) X.A X.xe none (EP X pins σ Q) acc C) hc S hg ht he I2 T qN f2 w0 turn ?_
 intro D C s' ys H' z hn J' fC ⟨m,hm⟩;refine⟨m,hm,λlA sb=>⟨.ref D,_,J'.wt (t':=s'.toks) (ch:=[C]) (λb o hb e=>sb.extBut b o (λz=>hb (by simp[z])) e) (λb hb=>?_),rfl,z D hn⟩⟩
 have e:b=C:=by simpa using hb
 subst e;exact fC
theorem Bf{wi:TI}{i:Nat}{y:Str}{py we:Pos}(dU:Scope)(N:List Str)(S:gQ dU N scope N' nt caps)(hN:X.N.Nodup)(Dt:X.N[i]?=some y)(hy:X.env.scope.names.lookup y=some .local)(hi:PI X tg iter wi)
  (hg:∀B,PG (eI X N' scope B) tg (g B)) (ht:∀B,pC (eI X N' scope B) ifs (tt B)) (he:∀B,PE (eI X N' scope B) elt (te B))
  (DC:swapsWith (.ListComp elt [⟨tg,iter,ifs,0⟩] scope pos) (some (.Name y py)) we.line X.env=pure true:=by rfl)
  (hc:X.calm=true:=by rfl) (qj:X.env.scope=dU:=by rfl) (jj:X.N=N:=by rfl) (hs:∀x,foldedSetIterable iter X.env x=pure x:=by intro _;rfl):PS X (.Assign [.Name y py] (.ListComp elt [⟨tg,iter,ifs,0⟩] scope pos) we) (Bp (Bs nt caps wi g tt te) (aG i)):=by
 subst qj jj;intro pins s σ H D0 I h;have jq:∀x∈scope.names,x.2=.free->∃c,X.env.cells.lookup x.1=some c:=λx hx hf=>I.ok.has x.1 (S.frees x hx hf)
 rw[exec_Assign_Name_used _ _ _ _ DC];refine wpAny_bind (wpAny_standAt (wpAny_bind ?_));show wpAny _ _ (do let _ <-comprehension (.ListComp elt [⟨tg,iter,ifs,0⟩] scope pos) scope X.env _ (newList []) false (eval iter X.env) (some (assign (.Name y py) X.env))) _ _ s
 refine wpAny_bind (wpAny_mono (wpAny_comprehension_free (use:=some (assign (.Name y py) X.env)) (Q:=λ_ s'=>SP X pins D0 .next s') rfl hs (CV jq) S.kind S.names
  (aZ (hi pins s σ H _ I h) λv s1 h1=>aZ h1 λvC s2 h2=>?_)) (λ_ s' hq=>wpAny_pure (wpAny_pure hq)) λ_ _ e=>e)
 obtain⟨it,fp,tn,J,H2,e,I2,T,qN,f2,W,w0,turn⟩:=h2;subst e;refine HK (RR:=λacc C=>compPost (model X.prog X.w) X.A X.xe (some (assign (.Name y py) X.env)) (λ_ s'=>SP X pins D0 .next s') acc C) hc S hg ht he I2 T qN f2 w0 turn ?_
 intro D C s' ys H' z hn J' fC ⟨m,hm⟩;show wpAny _ _ (assign (.Name y py) X.env (.ref D)) _ _ s';refine wpAny_assign_Name (E4 (v:=.ref D) J' hN Dt (.inl hy) rfl (λf_ Cd ⟨a,sb,ha⟩=>?_) (.inr hy))
 have Dg:C≠a:=by
  rcases ha with q|q
  ·rw[q];exact fC.2.1
  ·exact Ne.symm (fC.2.2.2.2.1 _ _ q)
 refine⟨m,hm.sameBut sb Dg,λlA EV=>⟨_,_,Cd.wt (t':=f_.toks) (ch:=[C]) (λb o hb e=>EV.extBut b o (λz=>hb (by simp[z])) e) (λb hb=>?_),z D hn⟩⟩
 have e:b=C:=by simpa using hb
 subst e;exact fC
end
section
variable{K:aj}{g:cK->TG}{tt:cK->TT}{te:cK->TE}{Z:List V->Hp->Prop}{rj:St}{H1:Hp}
theorem uO{a:Addr}{xs:List V}(Pv:Nat->List V->St->Hp->Prop)(h0:Pv 0 [] rj H1)(hl:∀i ys σ H,i<=xs.length->Pv i ys σ H->ai K H a xs/\ys.length<sizeLine)
  (hs:∀B i x ys σ H,xs[i]?=some x->Pv i ys σ H->g B x σ H λdJ H3=>tt B dJ H3 λb H4=>if b=true then te B dJ H4 λy H5=>Pv (i+1) (ys++[y]) dJ H5 else Pv (i+1) ys dJ H4)
  (hd:∀ys σ H,Pv xs.length ys σ H->Z ys H):∃W:Nat->Nat->List V->St->Hp->Prop,(∃m,W 0 m [] rj H1)/\∀B,iS (j8 K a) (g B) (tt B) (te B) W Z:=by
 refine⟨λi m ys σ H=>m=xs.length-i/\i<=xs.length/\Pv i ys σ H,⟨xs.length,by simp,dy _,h0⟩,?_⟩
 rintro B i m ys σ H ⟨rfl,hi,p⟩;obtain⟨q,hz⟩:=hl i ys σ H hi p;by_cases cU:i<xs.length
 ·refine .inr ⟨⟨xs,xs[i],q,by simp[cU]⟩,hz,Pv (i+1),λzs aM H' p'=>⟨xs.length-(i+1),by omega,rfl,cU,p'⟩,λx H' y=>?_⟩
  obtain⟨e,y⟩:=y;subst e;exact hs B i x ys σ _ (y xs q) p
 ·have e:i=xs.length:=by omega
  subst e;exact .inl ⟨⟨xs,q,bH _⟩,hd ys σ H p⟩
theorem nC{lo:Int}{n:Nat}(Pv:Nat->List V->St->Hp->Prop)(h0:Pv 0 [] rj H1)(hl:∀i ys σ H,i<=n->Pv i ys σ H->ys.length<sizeLine)
  (hs:∀B i ys σ H,i<n->Pv i ys σ H->g B (.int (lo+i)) σ H λdJ H3=>tt B dJ H3 λb H4=>if b=true then te B dJ H4 λy H5=>Pv (i+1) (ys++[y]) dJ H5 else Pv (i+1) ys dJ H4)
  (hd:∀ys σ H,Pv n ys σ H->Z ys H):∃W:Nat->Nat->List V->St->Hp->Prop,(∃m,W 0 m [] rj H1)/\∀B,iS (kZ lo n) (g B) (tt B) (te B) W Z:=by
 refine⟨λi m ys σ H=>m=n-i/\i<=n/\Pv i ys σ H,⟨n,by simp,dy _,h0⟩,?_⟩
 rintro B i m ys σ H ⟨rfl,hi,p⟩;by_cases cU:i<n
 ·refine .inr ⟨cU,hl i ys σ H hi p,Pv (i+1),λzs aM H' p'=>⟨n-(i+1),by omega,rfl,cU,p'⟩,λx H' y=>?_⟩
  obtain⟨e,y⟩:=y;subst e y;exact hs B i ys σ _ cU p
 ·have e:i=n:=by omega
  subst e;exact .inl ⟨bH _,hd ys σ H p⟩
end
protected theorem ae.upd{H H':Hp}(e:ae H H'){p:Addr}{o:HO}(h:H' p=none):ae H (L2.upd H' p o):=λb u q=>by
 have q':=e b u q;rw[bg (e6 q' h)];exact q'
theorem ae.Ol{K:aj}{H H':Hp}{a:Addr}{xs:List V}(e:ae H H')(h:av K H a xs):av K H' a xs:=by
 rcases h with (h|⟨o,h⟩)|h
 ·exact .inl (.inl (e _ _ h))
 ·exact .inl (.inr ⟨o,e _ _ h⟩)
 ·exact .inr h
theorem pS{te:cK->TE}{H1:Hp}{Z:List V->Hp->Prop}{lo:Int}{n:Nat}{τ:St}(f:Nat->V)(hn:n<sizeLine)
  (hs:∀B i H,i<n->ae H1 H->∀Q':VK,(∀H2,ae H H2->Q' (f i) H2)->te B (some (.int (lo+i))::τ) H Q')
  (hd:∀H2,ae H1 H2->Z ((bJ n).map f) H2) :
  ∃W:Nat->Nat->List V->St->Hp->Prop,(∃m,W 0 m [] (none::τ) H1)/\∀B:cK,iS (kZ lo n) (aG 0) dW (te B) W Z:=by
 refine nC (g:=λ_=>aG 0) (tt:=λ_=>dW) (λi ys σ H=>(∃v,σ=v::τ)/\ae H1 H/\ys=(bJ i).map f) ⟨⟨none,rfl⟩,ae.refl _,rfl⟩ (λi ys σ H hi ⟨_,_,e⟩=>?_) (λB i ys σ H hi ⟨⟨v,e⟩,S,ey⟩=>?_) (λys σ H ⟨_,S,e⟩=>?_)
 ·rw[e,aH,g_];omega
 ·subst e
  try dsimp only[aG,dW]
  rw[if_pos rfl];refine hs B i H hi S _ λH2 S2=>⟨⟨_,rfl⟩,S.trans S2,?_⟩
  rw[ey,BW,dX];rfl
 ·rw[e]
  exact hd H S
section
variable{X:Cx}
inductive Mu(K:aj)(xs:List V)(H:Hp)(Q:VK):Prop
 | mk:∀x n t b,(xs=[x,.ty n])->(je K H x t)->(pz K t (.type n)=some b)->(Q (.bl b) H)->Mu K xs H Q
theorem gj:gi X (.builtin "isinstance") (Mu X.K):=by
 intro pins s σ H xs us Q I r h;obtain⟨x,n,t,b,e,ty,k,q⟩:=h;subst e;obtain⟨u,v,rfl,r1,r2⟩:=vals2 r;obtain rfl:v=um n:=r2;exact ZG I r1 ty k λtk=>⟨.bl b,H,I.tok tk,rfl,q⟩
inductive Mp(K:aj)(xs:List V)(H:Hp)(Q:VK):Prop
 | mk:∀(a:Addr) (bs:List Bool),(xs=[.ref a])->(ai K H a (bs.map V.bl))->(Q (.bl (bs.all id)) H)->Mp K xs H Q
theorem lh(hc:X.calm=true):gi X (.builtin "all") (Mp X.K):=by
 intro pins s σ H xs us Q I r h;obtain⟨a,bs,e,hq,q⟩:=h;subst e;obtain⟨u,rfl,r1⟩:=vals1 r;obtain rfl:u=bM a:=r1;obtain⟨ao,rv,p,hz⟩:=I.list hq;have p8:a<s.heap.objs.size:=by obtain⟨o,e,_⟩:=p.isList;exact bQ e
 have hl:=rv.length;rw[aH] at hl;refine call_all_walk (wpAny_pyIter_list p.isList ⟨s.heap.objs.size,_,_,_,_,_,(λi=>bs.getD i false),rfl,Walks.list (A:=X.A.in1) (show X.A.in1.handled=none from I.ok.hd hc) _ a (cQ p8) ao.toArray,⟨⟨_,fN _ rfl,rfl,rfl⟩,p.isList.push _⟩,λi v s' Q' E' hv hQ=>?_,λh' tk hk=>?_⟩)
 ·have jr:ao[i]?=some v:=by simpa using hv
  have hi:i<bs.length:=by rw[hl];exact(iM.mp jr).1
  have hx:(bs.map V.bl)[i]?=some (V.bl (bs.getD i false)):=by
   rw[eu,cw hi];simp[gF,cw hi]
  obtain⟨u,hu,ru⟩:=rv.get hx;rw[jr] at hu
  cases hu;obtain rfl:v=wK (bs.getD i false):=ru;exact wpAny_truthy_bool hQ
 ·have es:(bJ ao.toArray.size).all (λi=>bs.getD i false)=bs.all id:=by
   rw[df,<-hl];rw[j2,e_,e_];constructor
   ·intro z x hx
    obtain⟨i,hi,rfl⟩:=F3.mp hx;have:=z i (iq.mpr hi)
    simpa [gF,cw hi] using this
   ·intro z i hi
    have hi:=iq.mp hi;have:=z _ (pA hi)
    simpa [gF,cw hi] using this
  rw[es];exact⟨.bl (bs.all id),H,I.kept λb o e=>hk b o (λz=>by have:=dc.mp z;rw[this] at e;exact absurd (bQ e) (gg _)) (cJ _ e),rfl,q⟩
end
def CY(dU:Scope)(N:List Str)(scope:Scope)(N':List Str)(nt:Nat)(caps:List Nat):Bool :=
 decide (scope.kind=.function)&&decide (∀y∈scope.names,y.2≠.cell)&&decide (∀y∈scope.names,y.2=.local->scope.names.lookup y.1=some .local) &&
 decide (∀y∈scope.names,y.2=.free->dU.names.lookup y.1=some .cell\/dU.names.lookup y.1=some .free)&&decide (caps.map (λj=>N[j]?)=(N'.drop nt).map some) &&
 decide (∀x∈N'.drop nt,scope.names.lookup x=some .free)&&decide (nt<=N'.length)&&decide N'.Nodup
theorem gQ.of{dU:Scope}{N:List Str}{scope:Scope}{N':List Str}{nt:Nat}{caps:List Nat}(h:CY dU N scope N' nt caps=true):gQ dU N scope N' nt caps:=by
 unfold CY at h;simp only[de,decide_eq_true_eq] at h;obtain⟨⟨⟨⟨⟨⟨⟨a,b⟩,c⟩,d⟩,e⟩,f⟩,g⟩,i⟩:=h;exact⟨a,b,c,d,e,f,g,i⟩
theorem i_{X:Cx}{i:Nat}{x:Str}{pos:Pos}(N:List Str)(hN:N.Nodup)(hi:N[i]?=some x)(hx:X.env.scope.names.lookup x=some .local:=by rfl)(u7:X.N=N:=by rfl):PG X (.Name x pos) (aG i) :=
 EB (by rw[u7];exact hN) (by rw[u7];exact hi) (.inl hx) (.inr hx)
theorem lg:bootBuiltins "all" = some (.builtin "all"):=by decide +kernel
theorem xp:bootBuiltins "len" = some (.builtin "len"):=by decide +kernel
theorem fu:bootBuiltins "isinstance" = some (.builtin "isinstance"):=by decide +kernel
theorem ma:bootBuiltins "list" = some (.type "list"):=by decide +kernel
theorem rO:bootBuiltins "int" = some (.type "int"):=by decide +kernel
theorem Hq:bootBuiltins "bool" = some (.type "bool"):=by decide +kernel
theorem gT:bootBuiltins "str" = some (.type "str"):=by decide +kernel
theorem xq:bootBuiltins "tuple" = some (.type "tuple"):=by decide +kernel
theorem Hr:bootBuiltins "set" = some (.type "set"):=by decide +kernel
abbrev aQ(ns:List Int):List V:=ns.map V.int
theorem dZ{p A B:Prop}[Decidable p](h1:p->A)(h2:¬ p->B):if decide p=true then A else B:=by
 by_cases h:p
 ·rw[if_pos (decide_eq_true h)]
  exact h1 h
 ·rw[if_neg (by rw[decide_eq_false h];exact eo)]
  exact h2 h
theorem vA{p A B:Prop}[Decidable p](h1:¬ p->A)(h2:p->B):if (!decide p)=true then A else B:=by
 by_cases h:p
 ·rw[decide_eq_true h]
  exact bt (h2 h)
 ·rw[decide_eq_false h]
  exact bI (h1 h)
theorem ints_get{ns:List Int}{i:Nat}{x:V}(h:(aQ ns)[i]?=some x):∃n,ns[i]?=some n/\x=V.int n:=by
 rw[eu] at h
 cases e:ns[i]? with
 | none=>rw[e] at h;cases h
 | some n=>rw[e] at h;exact⟨n,rfl,(a6 h).symm⟩
theorem ig(ns:List Int):(aQ ns).length=ns.length:=aH ..
theorem Zv{ns:List Int}{k:Nat}(h:k<ns.length):bT (aQ ns) (k:Int)=some (V.int (ns[k])):=by
 refine c7 ?_;rw[eu,cw h];rfl
def Rows(H:Hp)(as:List Addr)(rs:List (List Int)):Prop:=Paired (λ(a:Addr) (r:List Int)=>H a=some (.lst (aQ r))) as rs
theorem Rows.same{H H':Hp}{as:List Addr}{rs:List (List Int)}(h:Rows H as rs)(S:ae H H'):Rows H' as rs:=Paired.eZ h λa r e=>S _ _ e
theorem Rows.snoc{H:Hp}{as:List Addr}{rs:List (List Int)}{a:Addr}{r:List Int}(h:Rows H as rs)(e:H a=some (.lst (aQ r))):Rows H (as++[a]) (rs++[r]):=Paired.snoc h e
theorem Rows.length{H:Hp}{as:List Addr}{rs:List (List Int)}(h:Rows H as rs):as.length=rs.length:=Paired.length h
theorem Paired.getL{α β:Type}{F:α->β->Prop}:∀{vF:List α} {vG:List β} {i:Nat} {a:α},Paired F vF vG->vF[i]?=some a->∃b,vG[i]?=some b/\F a b
 | _,_,_,_,.nil,e=>by simp at e
 | _,_,0,_,.cons r _,e=>by simp at e;subst e;exact⟨_,rfl,r⟩
 | _,_,i+1,a,.cons _ t,e=>by
  obtain⟨u,h1,h2⟩:=Paired.getL (i:=i) (a:=a) t (by simpa using e)
  exact⟨u,by simpa using h1,h2⟩
theorem kL{n:Nat}(h:n<=70):n<sizeLine:=F9 h (by decide)
theorem FK(ns:List Int)(n:Int):aQ (ns++[n])=aQ ns++[V.int n]:=by rw[aQ,dX];rfl
theorem FN(as:List Addr)(a:Addr):(as++[a]).map V.ref=as.map V.ref++[V.ref a]:=by rw[dX];rfl
theorem Om{t rest:TS}{D:Ends}{σ:St}{H:Hp}(I:St->Hp->Prop)(tl:∀aM H',I aM H'->rest D aM H')(hd:∀N:St->Hp->Prop,(∀aM H',I aM H'->N aM H')->t { D with nx:=N } σ H):QG t rest D σ H:=hd _ tl
theorem Bh{as:List Addr}{i:Nat}{x:V}(h:(as.map V.ref)[i]?=some x):∃b,as[i]?=some b/\x=V.ref b:=by
 rw[eu] at h
 cases e:as[i]? with
 | none=>rw[e] at h;cases h
 | some b=>rw[e] at h;exact⟨b,rfl,(a6 h).symm⟩
theorem ae0{as:List Str}{i:Nat}{x:V}(h:(as.map V.str)[i]?=some x):∃b,as[i]?=some b/\x=V.str b:=by
 rw[eu] at h
 cases e:as[i]? with
 | none=>rw[e] at h;cases h
 | some b=>rw[e] at h;exact⟨b,rfl,(a6 h).symm⟩
end L2
namespace L2
open PySem PySem.Spec PyProof.Rows PySem.SeqAt
theorem To{xs ys:List Int}(h:xs.length=ys.length):(bJ xs.length).all (λj=>gN ((aQ xs).getD j .aR) ((aQ ys).getD j .aR))=decide (xs=ys):=by
 rw[j2,e_,decide_eq_true_eq];constructor
 ·intro z
  refine List.ext_getElem h λi h1 h2=>?_
  have q:=z i (iq.mpr h1);simp only[aQ,gF,eu,cw h1,cw h2,fm,RM,gN,beq_iff_eq] at q;exact q
 ·rintro rfl i hi
  have h1:=iq.mp hi;simp only[aQ,gF,eu,cw h1,fm,RM,gN,beq_self_eq_true]
section
variable{X:Cx}{pins:List (Addr×Obj)}{σ:St}{H:Hp}{s:Shared}{A:Around}{a b:Addr}{xs ys:List Int}
theorem Zx{ao jt:List Value}(rv:Vals (aQ xs) ao)(mV:Vals (aQ ys) jt):∀j (h1:j<ao.toArray.size) (h2:j<jt.toArray.size),EqAt A s ao.toArray[j] jt.toArray[j] (gN ((aQ xs).getD j .aR) ((aQ ys).getD j .aR)):=by
 intro j h1 h2;have l1:=rv.length;have l2:=mV.length;have k1:j<(aQ xs).length:=by rw[l1];simpa using h1
 have k2:j<(aQ ys).length:=by rw[l2];simpa using h2
 obtain⟨u,hu,ru⟩:=rv.get (cw k1);obtain⟨v,hv,rv2⟩:=mV.get (cw k2);have e1:ao.toArray[j]=u:=by
  have:=(iM.mp hu).2
  simpa using this
 have e2:jt.toArray[j]=v:=by
  have:=(iM.mp hv).2
  simpa using this
 rw[e1,e2];have f:∀{zs:List Int} (k:j<(aQ zs).length),jI (aQ zs)[j]=true/\(aQ zs).getD j .aR=(aQ zs)[j]:=λ{zs} k=>by
  refine⟨?_,?_⟩
  ·simp only[aQ,List.getElem_map];rfl
  ·rw[gF,cw k];rfl
 rw[(f k1).2,(f k2).2];exact Ie ru rv2 (f k1).1 (f k2).1
theorem ad0(I:Inv X pins σ H s)(hu:A.units<cLine)(qa:ai X.K H a (aQ xs))(qb:ai X.K H b (aQ ys)):RcAt A s (.ref a) (.ref b) (decide (xs=ys)):=by
 obtain⟨ao,rv,p,_⟩:=I.list qa;obtain⟨jt,mV,p2,_⟩:=I.list qb;have l1:=rv.length;have l2:=mV.length;rw[ig] at l1 l2;by_cases h:xs.length=ys.length
 ·have q:=RcAt.lists (A:=A) p.isList p2.isList (by simp;omega) hu (Zx rv mV)
  have e:ao.toArray.size=xs.length:=by simp;omega
  rw[e,To h] at q;exact q
 ·have e:decide (xs=ys)=false:=decide_eq_false λz=>h (by rw[z])
  rw[e];exact RcAt.lists_lengths p.isList p2.isList (by simp;omega) hu
inductive Mr(K:aj)(x:V)(y:V)(H:Hp)(Q:VK):Prop
 | mk:∀a b xs ys,(x=.ref a)->(y=.ref b)->(ai K H a (aQ xs))->(ai K H b (aQ ys))->(Q (.bl (decide (xs=ys))) H)->Mr K x y H Q
theorem Er(hu:X.A.units<cLine):cY X (compareOp .Eq) (Mr X.K):=by
 intro pins s σ H x y v u Q I rx ry h;obtain⟨a,b,xs,ys,rfl,rfl,qa,qb,q⟩:=h
 cases rx
 cases ry;exact ad0 I hu qa qb _ _ _ _ ⟨.bl _,H,I,rfl,q⟩
end
end L2
namespace L2
open PySem PySem.Spec PyProof.Rows
section
variable{X:Cx}{CX:hU}{k i:Nat}{f:Addr}{fd:FuncData}{ps:List Str}{sp:Sp}{eK:List V}{ds:List Value}{E:XK}{x:Str}{p pos:Pos}{e:Expr}{es:List Expr}{t:TA}
def QB(i:Nat)(f:Addr)(sp:Sp)(eK:List V)(E:XK)(t:TA):TE:=λσ H Q=>σ[i]?=some (some (.ref f))/\t σ H λvs H1=>sp (vs++eK) H1 Q E
theorem adf(i:Nat)(F:ax X.prog X.w X.K X.mg X.base CX k f fd ps sp)(hr:cZ k X.A)(hk:jz X.K (.ref f)=true)(hb:Binds X.K fd ps ds)(hd:Vals eK ds)(hx:Passes CX X E)(ha:PA X (e::es) t)
  (hN:X.N[i]?=some x:=by rfl) (hv:pJ X.env.scope x:=by first|exact qX rfl|exact lV (qX rfl)|exact lV (lV rfl)) (cG:(x==("__debug__" : Str))=false:=by decide) (fE:(x==("__classdict__" : Str))=false:=by decide)
  (he:starEach (e::es) X.env=(false,eval e X.env)::starEach es X.env:=by rfl) (cL:(backTo pos (starEach es X.env)).any (·.1)=false:=by rfl) :
  PE X (.Call (.Name x p) (e::es) [] pos) (QB i f sp eK E t):=by
 intro pins s σ H Q I h;obtain⟨vx,h⟩:=h;refine wpAny_Call_Name_kw (aZ (Ma (pos:=p) hN hv cG fE pins s σ H (λv H1=>v=.ref f/\t σ H1 λvs H2=>sp (vs++eK) H2 Q E) I ⟨_,vx,rfl,h⟩) λu s1 ⟨v,H1,I1,r,ev,q⟩=>?_)
 subst ev
 cases r;refine B3 (h₀:=X.base) I1.ok.mod.jv hk (aZ (ha pos pins s1 σ H1 _ I1 q) λus s2 ⟨vs,H2,I2,r2,q2⟩=>⟨I2.cM,?_⟩) he cL
 exact ET F hr hb hd hx I2 r2 q2
end
def ip{κ:Type}[DecidableEq κ](acc:List κ)(x:κ):List κ:=if x∈acc then acc else acc++[x]
def bO{κ:Type}[DecidableEq κ](val:Nat->κ):Nat->List κ
 | 0=>[]
 | i+1=>ip (bO val i) (val i)
theorem DP{κ:Type}[DecidableEq κ](val:Nat->κ):∀i,(bO val i).length<=i
 | 0=>bH _
 | i+1=>by
  have ih:=DP val i;unfold bO ip
  split
  ·omega
  ·rw[bS,ur];omega
theorem DQ{κ:Type}[DecidableEq κ](val:Nat->κ):∀(i:Nat) (x:κ),x∈bO val i↔∃j,j<i/\val j=x
 | 0,x=>⟨λh=>(by cases h),λ⟨j,h,_⟩=>absurd h (ahQ _)⟩
 | i+1,x=>by
  have ih:=DQ val i;have e:x∈bO val (i+1)↔x∈bO val i\/x=val i:=by
   show x∈ip (bO val i) (val i)↔_;unfold ip
   split
   ·rename_i h
    exact⟨.inl,λq=>q.elim id λz=>z ▸ h⟩
   ·rw[dH,dc]
  rw[e,ih x];constructor
  ·rintro(⟨j,h,e⟩|e)
   ·exact⟨j,by omega,e⟩
   ·exact⟨i,by omega,e.symm⟩
  ·rintro⟨j,h,e'⟩
   rcases ahO.mp h with q|q
   ·exact .inl ⟨j,q,e'⟩
   ·subst q;exact .inr e'.symm
theorem KJ{κ:Type}[DecidableEq κ](val:Nat->κ):∀n,(∀i j,i<n->j<n->val i=val j->i=j)->(bO val n).length=n
 | 0,_=>rfl
 | n+1,h=>by
  have ih:=KJ val n λi j hi hj e=>h i j (by omega) (by omega) e
  have nm:val n∉bO val n:=λq=>by
   obtain⟨j,hj,e⟩:=(DQ val n _).mp q;have:=h j n (by omega) (by omega) e
   omega
  show (ip (bO val n) (val n)).length=n+1;unfold ip;rw[if_neg nm,bS,ih];rfl
abbrev fJ(led:Bool):Obj:={ cls:=.type "set",dict:=none,data:=.set #[] 0 (.fresh 0 0 led) }
section
variable{prog:Program}{w:World}{A:Around}{R:Result->Shared->Prop}{I:Addr}{fp wr:List Addr}{G:Array GenState->Array GenState->Prop}{n:Nat}{P:Nat->Value->Prop}{St:Nat->Shared->Prop}
variable{κ:Type}[DecidableEq κ]{knd:RP prog w κ}
theorem Ou{h:Heap}{a:Addr}{S S':κ->Bool}{n n':Nat}(hS:h.SetOf knd a S n)(e:∀k,S k=S' k)(en:n=n'):h.SetOf knd a S' n':=by
 have q:S=S':=funext e;rw[<-q,<-en];exact hS
theorem aes(W:WalksS prog w A.in1 I fp wr G n P St)(S:Addr)(u6:S∉fp)(val:Nat->κ)(qo:∀i v,P i v->knd.is (val i) v=true/\v.scannable=true)(hb:n+1<scanBound) :
  ∀(k i:Nat) (s:Shared),n-i=k->i<=n->St i s->s.heap.SetOf knd S (λx=>decide (x∈bO val i)) (bO val i).length ->
   (∀s',Moved (S::wr) G s s'->s'.heap.SetOf knd S (λx=>decide (x∈bO val n)) (bO val n).length->R (.ok (.ret .none)) s') ->
   codeAny (model prog w) A (.builtin "set.update.loop" ⟨[.ref S,.ref I],[]⟩) R s:=by
 have nw:S∉wr:=λz=>u6 (W.sub _ z)
 have sub:∀b∈wr,b∈S::wr:=λb z=>cP _ z
 intro k
 induction k with
 | zero =>
  intro i s hk hi st hS fin;obtain rfl:i=n:=by omega
  refine codeAny_builtin Gd ?_;rw[Around.under_plainId ug _];show wpAny _ A.in1 (pyNext (.ref I) >>= _) _ _ s;refine wpAny_bind (W.done s _ _ st λs' mv=>?_)
  show wpAny _ A.in1 (ret pj) _ _ s';obtain⟨o,es,ep,t,ho,more⟩:=hS;exact wpAny_pure (fin s' (mv.mono sub) ⟨o,es,ep,t,mv.heap S _ nw ho,more⟩)
 | succ k ih =>
  intro i s hk hi st hS fin;have lt:i<n:=by omega
  refine codeAny_builtin Gd ?_;rw[Around.under_plainId ug _];show wpAny _ A.in1 (pyNext (.ref I) >>= _) _ _ s;refine wpAny_bind (W.item i s _ _ lt st λv s' pv dv mv=>?_)
  obtain⟨kv,sv⟩:=qo i v pv;have og:s'.heap.SetOf knd S (λx=>decide (x∈bO val i)) (bO val i).length:=by
   obtain⟨o,es,ep,tb,ho,more⟩:=hS;exact⟨o,es,ep,tb,mv.heap S _ nw ho,more⟩
  show wpAny _ A.in1 (holding [v] (setAdd S v) >>= _) _ _ s';refine wpAny_bind (wpAny_holding ?_);unfold setAdd;refine wpAny_holding (wpAny_bind (knd.pyHash (k:=val i) kv ?_));have room:(bO val i).length+1<scanBound:=by have:=DP val i;omega
  refine wpAny_setAddHashed_of (knd:=knd) (s:={ s' with toks:=s'.toks+1 }) kv sv og room λh' sb WE=>?_
  have u4:h'.SetOf knd S (λx=>decide (x∈bO val (i+1))) (bO val (i+1)).length:=by
   refine Ou WE (λx=>?_) ?_
   ·show (decide (x∈bO val i)||decide (x=val i))=decide (x∈ip (bO val i) (val i))
    unfold ip
    split
    ·rename_i hm
     by_cases e:x=val i
     ·subst e;simp[hm]
     ·simp[e]
    ·simp
   ·show (if decide (val i∈bO val i)=true then _ else _)=(ip (bO val i) (val i)).length
    unfold ip;by_cases hm:val i∈bO val i
    ·rw[if_pos hm,if_pos (decide_eq_true hm)]
    ·rw[if_neg hm,if_neg (by simp[hm]),bS];rfl
  refine wpAny_pure ⟨plainId_quiet ug _,ih (i+1) _ (by omega) lt (W.frame _ s' _ _ dv (lU _) λb hb o e=>?_) u4 λs2 DX Dk=>?_⟩
  ·rw[sb.2 b (λz:b=S=>u6 (z ▸ hb))];exact e
  ·refine fin s2 (Moved.trans W.gtrans ((mv.mono sub).then_heap (lU _) λb o hb e=>?_) DX) Dk
   rw[sb.2 b (λz:b=S=>hb (z ▸ cB))];exact e
end
section
variable{prog:Program}{w:World}{A:Around}{E:Value->Shared->Prop}{s:Shared}{κ:Type}[DecidableEq κ]{knd:RP prog w κ}
set_option maxHeartbeats 3200000 in
theorem aeq{l:Addr}{items:Array Value}{val:Nat->κ}{Q:Value->Shared->Prop}(hh:A.handled=none)(hl:s.heap.IsList l items)(qo:∀i v,items[i]?=some v->knd.is (val i) v=true/\v.scannable=true)(hb:items.size+1<scanBound)
  (h:∀(h':Heap) (tk:Nat),h'.SetOf knd s.heap.objs.size (λx=>decide (x∈bO val items.size)) (bO val items.size).length->(∀b o,b<s.heap.objs.size->s.heap.get? b=some o->h'.get? b=some o) ->
   Q (.ref s.heap.objs.size) { s with heap:=h',toks:=tk }):wpAny (model prog w) A (call (.type "set") [.ref l]) Q E s:=by
 obtain⟨c,tl,YT⟩:=iL.mro;have YQ:=iL.made;have JZ:=iL.sub;refine wpAny_call (codeAny_of_tree ?_);show wpAny _ _ (callAny (.type "set") _) _ _ _;refine wpAny_pure ⟨Code.quiet_builtin _ (by decide +kernel),codeAny_builtin ah0 ?_⟩
 rw[Around.under_plain (weight_type_call_type "set" [.ref l] []) rfl];have g1:=iL.notType;have g2:=iL.canCreate;have g3:=ah6 (.ref l)
 repeat (any_goals (first|assumption|wp_step))
 refine codeAny_mono (code_set_new_1 (.ref l) (E:=E) (Q₁:=λobj br=>∃led:Bool,obj=.ref s.heap.objs.size/\br={ s with heap:=s.heap.push (fJ led) }) λled=>⟨led,rfl,rfl⟩) λr br hr=>?_
 cases r with
 | error e=>exact hr
 | ok fl =>
  cases fl with
  | ret obj =>
   obtain⟨led,rfl,rfl⟩:=hr;have pL:(s.heap.push (fJ led)).get? s.heap.objs.size=some (fJ led):=fN _ rfl;have hT:Shared.TypeIs { s with heap:=s.heap.push (fJ led) } (.ref s.heap.objs.size) "set" := ⟨_,pL,rfl⟩
   have g4:=iL.init.lookup;have g5:=iL.init.bind (.ref s.heap.objs.size)
   repeat (any_goals (first|assumption|wp_step))
   refine codeAny_mono (codeAny_call_builtin (R:=wants (λr aJ=>r=.none/\∃h' tk,aJ={ s with heap:=h',toks:=tk }/\h'.SetOf knd s.heap.objs.size (λx=>decide (x∈bO val items.size)) (bO val items.size).length /\
     (∀b o,b<s.heap.objs.size->s.heap.get? b=some o->h'.get? b=some o)) E) iL.init.plain ahZ (check_set_init_1 hT ?_)) λEU aJ qk=>?_
   ·obtain⟨⟨aby,Eb,abF,Ex⟩,vq,mx,nl,vf⟩:=hl
    simp only at mx vf;subst mx;subst vf;have DA:(s.heap.push (fJ led)).get? l=some { cls:=.type "list",dict:=Eb,data:=.seq items nl,slots:=Ex }:=cJ _ vq;have k1:=ah5;have k2:=ah4;have k3:(um "list" == um "dict")=false:=by decide
    have oj:(s.heap.push (fJ led)).IsList l items:=⟨_,DA,rfl,nl,rfl⟩;unfold Builtin.«set.__init__» noKeywords Builtin.Frozenset.updateFrom;generalize Di:pyIter=PI
    wp_walk
    subst Di;refine wpAny_pyIter_list oj (wpAny_bind (wpAny_runValue ?_));have ll:l<s.heap.objs.size:=bQ vq;have h3:A.in1.in1.in1.handled=none:=by simp[hh]
    have nI:l≠(s.heap.push (fJ led)).objs.size:=by
     rw[j3];exact cQ (BY ll)
    have nS:s.heap.objs.size∉[(s.heap.push (fJ led)).objs.size,l]:=by
     rw[j3,bE,dc,not_or];exact⟨cQ (oZ _),ue ll⟩
    refine aes (knd:=knd) ((Walks.list h3 _ l nI items).toS) s.heap.objs.size nS val qo hb (items.size-0) 0 _ (by omega) (dy _) ⟨⟨_,fN _ rfl,rfl,rfl⟩,(oj.push _)⟩ ?hS0 ?hR
    case hS0 =>
     have k_:((s.heap.push (fJ led)).push { cls:=.type "list_iterator",data:=.fields #[.ref l,.int 0 0] }).get? s.heap.objs.size=some (fJ led):=cJ _ pL;exact Ou ((PyProof.Rows.setObjOf_fresh (knd:=knd) led).setOf k_ (by unfold scanBound;omega)) (λ_=>by simp[bO]) rfl
    case hR =>
     intro s' mv lB;obtain⟨h',g',d',lO,vY⟩:=s';obtain rfl:g'=s.gens:=mv.gens;obtain rfl:d'=s.drawn:=mv.drawn;obtain rfl:vY=s.os:=mv.os;show wpAny _ _ _ _ _ _;refine wpAny_pure ?_;show wpAny _ _ (ret pj) _ _ _;refine wpAny_pure ⟨rfl,h',lO,rfl,lB,λb o hb e=>mv.heap b o ?_ (cJ _ (cJ _ e))⟩
     rw[bE,dc,j3,not_or];exact⟨cQ hb,cQ (BY hb)⟩
   ·cases EU with
    | error e=>exact qk
    | ok C8 =>
     cases C8 with
     | ret r =>
      obtain⟨rfl,h',tk,rfl,lB,Du⟩:=qk
      repeat (any_goals (first|assumption|wp_step))
      exact h _ _ lB Du
     | _=>exact qk.elim
  | _=>exact hr.elim
end
def EW(P:Program)(w:World)(p:Addr)(n:Nat):HO:=.ext λh=>∃S,h.SetOf (strKind P w) p S n
def DS(ys:List Str):Nat:=(bO (λi=>ys.getD i ay) ys.length).length
theorem aaP{ys:List Str}(h:ys.Nodup):DS ys=ys.length:=by
 refine KJ _ _ λi j hi hj e=>?_
 simp only[gF,cw hi,cw hj,RM] at e;exact(aiJ h).mp e
section
variable{X:Cx}
theorem UX(hc:X.calm=true):gi X (.type "set") (λxs H Q=>∃(a:Addr) (ys:List Str),xs=[.ref a]/\ai X.K H a (ys.map V.str)/\ys.length<=70/\∀p,H p=none->Q (.ref p) (upd H p (EW X.prog X.w p (DS ys)))):=by
 intro pins s σ H xs us Q I r h;obtain⟨a,ys,e,hq,hl,q⟩:=h;subst e;obtain⟨u,rfl,r1⟩:=vals1 r;obtain rfl:u=bM a:=r1;obtain⟨ao,rv,p,hz⟩:=I.list hq;have len:=rv.length;rw[aH] at len;refine aeq (knd:=strKind X.prog X.w) (val:=λi=>ys.getD i ay) (I.ok.hd hc) p.isList (λi v hv=>?_) (by rw[df,<-len];unfold scanBound;omega) λh' tk hS hk=>?_
 ·have jr:ao[i]?=some v:=by simpa using hv
  have hi:i<ys.length:=by rw[len];exact(iM.mp jr).1
  have hx:(ys.map V.str)[i]?=some (V.str (ys.getD i ay)):=by
   rw[eu,cw hi];simp[gF,cw hi]
  obtain⟨u,hu,ru⟩:=rv.get hx;rw[jr] at hu
  cases hu;obtain⟨t,rfl⟩:=ru;exact⟨Kq _ t,rfl⟩
 ·have es:ao.toArray.size=ys.length:=by rw[df,len]
  rw[es] at hS;have I1:Inv X pins σ H { s with heap:=h',toks:=tk }:=I.kept λb o e=>hk b o (bQ e) e
  have I2:=I1.Bu (o:=EW X.prog X.w s.heap.objs.size (DS ys)) (I.mj (bH _) (I.aS.fresh (bH _))) ⟨⟨_,hS⟩,(by obtain⟨o,_,_,_,ho,_⟩:=hS;exact⟨o,ho⟩),λh1 h2 ⟨S,og⟩ k=>(by
   obtain⟨o,es,ep,t,ho,more⟩:=og;exact⟨S,o,es,ep,t,k o ho,more⟩)⟩
  exact⟨.ref s.heap.objs.size,_,I2,rfl,q _ (I.aS.fresh (bH _))⟩
theorem UU:gi X (.builtin "len") (λxs H Q=>∃(p:Addr) (n:Nat),xs=[.ref p]/\H p=some (EW X.prog X.w p n)/\Q (.int n) H):=by
 intro pins s σ H xs us Q I r h;obtain⟨p,n,e,hp,q⟩:=h;subst e;obtain⟨u,rfl,r1⟩:=vals1 r;obtain rfl:u=bM p:=r1;obtain⟨⟨S,o,es,ep,t,ho,hex,hd,_,_,hb,hf,hn⟩,_⟩:=I.aS p _ hp;have u_:(es.size:Int)<2^63:=by unfold scanBound at hb;omega
 refine call_len_set ho hex hd hf u_ ?_;rw[hn];exact⟨.int n,H,I.tok _,⟨_,rfl⟩,q⟩
def Cc(x:Str):It:=⟨λi _=>i<x.cps.size,λi H v H'=>H'=H/\∃c,x.cps[i]?=some c/\v=.str ⟨#[c]⟩,λi _=>x.cps.size<=i⟩
theorem agK{P:Program}{w:World}{K:aj}{tg:Expr}(it:Addr)(x:Str)(t:Tok):Turn P w K tg (Cc x) [it] it (λi h=>i<=x.cps.size/\h.IsStrIter it "str_ascii_iterator" x t i) where
 mem:=by simp
 obj:=λi h st b hb=>by
  have e:b=it:=by simpa using hb
  subst e;obtain⟨_,o,e,c,d⟩:=st;exact⟨o,e,λv z=>by rw[d] at z;cases z⟩
 keep:=λi h h' st k=>let ⟨l,o,e,r⟩:=st;⟨l,o,k it (by simp) o e,r⟩
 item:=by
  intro X hP hw hK hc i pins s σ H E I hf st hg;subst hP hw hK;obtain⟨f0,f1,f2,f3,f4,f5⟩:=hf it (by simp)
  have hi:i<x.cps.size:=hg;refine(Walks.strAscii (prog:=X.prog) (w:=X.w) (I.ok.hd hc) it x t).item i s _ _ hi st.2 λv h' tk hv dv kk=>?_
  obtain⟨c,u,Ys,rfl⟩:=hv;have I1:Inv X pins σ H { s with heap:=h',toks:=tk }:=I.turned (λb o hb e=>kk b o (by simpa using hb) e) f0 f1 f3 f4 f5
  obtain⟨o,e,c',d⟩:=id dv;exact⟨_,rfl,C_ (s:={ s with heap:=h',toks:=tk }) e c' d (by decide) ⟨.str ⟨#[c]⟩,H,I1,⟨_,rfl⟩,⟨rfl,c,Ys,rfl⟩,⟨hi,dv⟩,λb hb=>(hf b hb).1⟩⟩
 done:=by
  intro X hP hw hK hc i pins s σ H E I hf st hg;subst hP hw hK;obtain⟨f0,f1,f2,f3,f4,f5⟩:=hf it (by simp)
  have hi:x.cps.size<=i:=hg;obtain⟨hle,st⟩:=st;have e:i=x.cps.size:=by omega
  subst e;exact(Walks.strAscii (prog:=X.prog) (w:=X.w) (I.ok.hd hc) it x t).done s _ _ st λh' tk kk=>⟨rfl,I.turned (λb o hb e=>kk b o (by simpa using hb) e) f0 f1 f3 f4 f5⟩
 self:=λ_ _ _ _ _ st h=>wpAny_pyIter_striter_ascii st.2 h
def Zg(tl:TE):TI:=λσ H R=>tl σ H λv H1=>∃x:Str,v=.str x/\x.cps.all (· < 128)=true/\R (Cc x) H1
theorem Md{tg l:Expr}{tl:TE}(hl:PE X l tl):PI X tg l (Zg tl):=by
 intro pins s σ H R I h;refine aZ (hl pins s σ H _ I h) λv s1 ⟨y,H1,I1,r1,q1⟩=>?_
 obtain⟨x,e,ha,q⟩:=q1;subst e;obtain⟨t,rfl⟩:=r1;refine wpAny_pyIter_ascii ha ?_;refine⟨s1.heap.objs.size,[s1.heap.objs.size],_,_,H1,rfl,I1.kept (t':=s1.toks) λb o e=>cJ _ e,agK _ x t,⟨dy _,_,fN _ rfl,rfl,rfl⟩,λb hb=>?_,q⟩
 have e:b=s1.heap.objs.size:=by simpa using hb
 subst e;exact I1.mj (bH _) (I1.aS.fresh (bH _))
theorem HL{g:cK->TG}{tt:cK->TT}{te:cK->TE}{Z:List V->Hp->Prop}{rj:St}{H1:Hp}{x:Str}(Pv:Nat->List V->St->Hp->Prop)(h0:Pv 0 [] rj H1)(hl:∀i ys σ H,i<=x.cps.size->Pv i ys σ H->ys.length<sizeLine)
  (hs:∀B i c ys σ H,x.cps[i]?=some c->Pv i ys σ H->g B (.str ⟨#[c]⟩) σ H λdJ H3=>tt B dJ H3 λb H4=>if b=true then te B dJ H4 λy H5=>Pv (i+1) (ys++[y]) dJ H5 else Pv (i+1) ys dJ H4)
  (hd:∀ys σ H,Pv x.cps.size ys σ H->Z ys H):∃W:Nat->Nat->List V->St->Hp->Prop,(∃m,W 0 m [] rj H1)/\∀B,iS (Cc x) (g B) (tt B) (te B) W Z:=by
 refine⟨λi m ys σ H=>m=x.cps.size-i/\i<=x.cps.size/\Pv i ys σ H,⟨x.cps.size,by simp,dy _,h0⟩,?_⟩
 rintro B i m ys σ H ⟨rfl,hi,p⟩;by_cases cU:i<x.cps.size
 ·refine .inr ⟨cU,hl i ys σ H hi p,Pv (i+1),λzs aM H' p'=>⟨x.cps.size-(i+1),by omega,rfl,cU,p'⟩,λv H' y=>?_⟩
  obtain⟨e,c,hc,e2⟩:=y;subst e e2;exact hs B i c ys σ _ hc p
 ·have e:i=x.cps.size:=by omega
  subst e;exact .inl ⟨bH _,hd ys σ H p⟩
theorem A7:cY X (compareOp .LtE) (λx y H Q=>∃i j,x=.str i/\y=.str j/\Q (.bl (!decide (j.cps.toList<i.cps.toList))) H):=by
 intro pins s σ H x y v u Q I rx ry h;obtain⟨i,j,rfl,rfl,q⟩:=h;obtain⟨t,rfl⟩:=rx;obtain⟨t',rfl⟩:=ry;exact PySem.P.le_str ⟨.bl _,H,I,rfl,q⟩
end
def jw(c:Nat):Bool:=decide (97<=c)&&decide (c<=122)
def dQ(x:Str):Bool:=decide (1<=x.length)&&decide (x.length<=8)&&x.cps.toList.all jw
theorem AJ{c d:Nat}:(!decide (([d]:List Nat)<[c]))=decide (c<=d):=by
 have e:([d]<[c])↔d<c:=by
  constructor
  ·intro h
   cases h with
   | cons h=>cases h
   | rel h=>exact h
  ·exact λh=>.rel h
 rw[j2,Gf,decide_eq_false_iff_not,decide_eq_true_eq,e];omega
theorem abJ{x:Str}(h:dQ x=true):x.cps.all (· < 128)=true:=by
 unfold dQ at h;rw[de] at h;rw[<-ahw,e_];intro c hc;have:=e_.mp h.2 c hc;unfold jw at this;rw[de,decide_eq_true_eq,decide_eq_true_eq] at this;exact decide_eq_true (by omega)
structure aq where
 aa:List Str
 az:List Str
 takes:List (List Int)
 gives:List (List Int)
 first:List Int
def mL(n:Nat)(r:List Int):Prop:=r.length=n/\∀x∈r,0<=x/\x<=1000000000
structure aq.Ok(N:aq):Prop where
 b1:1<=N.aa.length
 b6:N.aa.length<=6
 d8:N.az.length<=8
 bn:∀y∈N.aa,dQ y=true
 dn:∀y∈N.az,dQ y=true
 bd:N.aa.Nodup
 dd:N.az.Nodup
 tl:N.takes.length=N.az.length
 gl:N.gives.length=N.az.length
 tk:∀r∈N.takes,mL N.aa.length r
 gv:∀r∈N.gives,mL N.aa.length r
 fs:mL N.aa.length N.first
abbrev vN(b:V):List (Str×V):=[("bowls",b)]
abbrev tw(b d:V):List (Str×V):=[("bowls",b),("doors",d)]
abbrev tD(b d t:V):List (Str×V):=[("bowls",b),("doors",d),("takes",t)]
abbrev tE(b d t g:V):List (Str×V):=[("bowls",b),("doors",d),("takes",t),("gives",g)]
abbrev KU(b d t g f:V):List (Str×V):=[("bowls",b),("doors",d),("takes",t),("gives",g),("first",f)]
abbrev KS(b d t g f:Addr):List (Str×V):=KU (.ref b) (.ref d) (.ref t) (.ref g) (.ref f)
abbrev bq(ys:List Str):List V:=ys.map V.str
structure cA(C:Addr)(H:Hp)(x dx b d t g f:Addr)(ts gs:List Addr)(N:aq):Prop where
 ob:H x=some (.ins C dx (KS b d t g f))
 hb:H b=some (.lst (bq N.aa))
 hd:H d=some (.lst (bq N.az))
 ht:H t=some (.lst (ts.map V.ref))
 tr:Rows H ts N.takes
 hg:H g=some (.lst (gs.map V.ref))
 gr:Rows H gs N.gives
 hf:H f=some (.lst (aQ N.first))
theorem cA.same{C:Addr}{H H':Hp}{x dx b d t g f:Addr}{ts gs:List Addr}{N:aq}(n:cA C H x dx b d t g f ts gs N)(S:ae H H'):cA C H' x dx b d t g f ts gs N :=
 ⟨S _ _ n.ob,S _ _ n.hb,S _ _ n.hd,S _ _ n.ht,n.tr.same S,S _ _ n.hg,n.gr.same S,S _ _ n.hf⟩
theorem HI{K:aj}{K':cK->aj}{Z:List V->Hp->Prop}{H1:Hp}{a:Addr}{as:List Addr}{rs:List (List Int)}{τ:St}(hK:∀B,K' B=K)(ha:ai K H1 a (as.map V.ref))(R:Rows H1 as rs)(hn:rs.length<=64)
  (hd:∀H2 bs,ae H1 H2->Rows H2 bs rs->(∀b∈bs,H1 b=none)->Z (bs.map V.ref) H2) :
  ∃W:Nat->Nat->List V->St->Hp->Prop,(∃m,W 0 m [] (none::τ) H1)/\∀B:cK,iS (j8 K a) (aG 0) dW (tU (EO (K' B)) (mX (Bt 0) tX)) W Z:=by
 have p8:=R.length;refine uO (g:=λ_=>aG 0) (tt:=λ_=>dW) (K:=K) (a:=a) (xs:=as.map V.ref) (λi zs σ H4=>∃(o:Option V) (bs:List Addr),σ=o::τ/\ae H1 H4/\zs=bs.map V.ref/\Rows H4 bs (rs.take i)/\bs.length=i/\∀b∈bs,H1 b=none) ⟨none,[],rfl,ae.refl _,rfl,.nil,rfl,(λb hb=>by cases hb)⟩ ?_ ?_ ?_
 ·rintro i zs σ H4 hi ⟨o,bs,rfl,S,rfl,RB,e,_⟩
  rw[aH] at hi;refine⟨S.seq ha,?_⟩;rw[aH];exact kL (by omega)
 ·rintro B i x zs σ H4 hx ⟨o,bs,rfl,S,rfl,RB,e,fr⟩
  obtain⟨b,jk,rfl⟩:=Bh hx;obtain⟨r,DB,hb⟩:=Paired.getL R jk
  try dsimp only[aG,dW]
  rw[if_pos rfl];refine⟨_,rfl,b,_,rfl,.inl (by rw[hK];exact ai.of (S _ _ hb)),λq nq=>⟨_,bs++[q],rfl,S.upd nq,(FN _ _).symm,?_,(by rw[bS,e];rfl),λc hc=>?_⟩⟩
  ·rw[oX,DB,uf]
   exact(RB.same ((ae.refl H4).upd nq)).snoc aA
  ·rcases dH.mp hc with z|z
   ·exact fr c z
   ·rw[dc.mp z];exact S.free nq
 ·rintro zs σ H4 ⟨o,bs,rfl,S,rfl,RB,e,fr⟩
  rw[aH,p8,oY] at RB;exact hd H4 bs S RB fr
theorem Tp(x:Str):(x.cps.toList.map jw).all id=x.cps.toList.all jw:=by
 rw[Gr];rfl
section
variable{b d t g f:V}
theorem adO:d_ "doors" d (vN b)=tw b d:=by
 show (if (("bowls" : Str)="doors") then _ else (("bowls" : Str),b)::d_ "doors" d [])=_
 rw[if_neg (by decide +kernel)]
 rfl
theorem adP:d_ "takes" t (tw b d)=tD b d t:=by
 show (if (("bowls" : Str)="takes") then _ else (("bowls" : Str),b)::(if (("doors" : Str)="takes") then _ else (("doors" : Str),d)::d_ "takes" t []))=_
 rw[if_neg (by decide +kernel),if_neg (by decide +kernel)]
 rfl
theorem adQ:d_ "gives" g (tD b d t)=tE b d t g:=by
 show (if (("bowls" : Str)="gives") then _ else (("bowls" : Str),b)::(if (("doors" : Str)="gives") then _ else (("doors" : Str),d)::(if (("takes" : Str)="gives") then _ else (("takes" : Str),t)::d_ "gives" g [])))=_
 rw[if_neg (by decide +kernel),if_neg (by decide +kernel),if_neg (by decide +kernel)]
 rfl
theorem adR:d_ "first" f (tE b d t g)=KU b d t g f:=by
 show (if (("bowls" : Str)="first") then _ else (("bowls" : Str),b)::(if (("doors" : Str)="first") then _ else (("doors" : Str),d)::(if (("takes" : Str)="first") then _ else (("takes" : Str),t)::(if (("gives" : Str)="first") then _ else (("gives" : Str),g)::d_ "first" f []))))=_
 rw[if_neg (by decide +kernel),if_neg (by decide +kernel),if_neg (by decide +kernel),if_neg (by decide +kernel)]
 rfl
end
def eS(x:Addr)(H H':Hp):Prop:=∀c u,H c=some u->c≠x->H' c=some u
theorem eS.trans{x:Addr}{H H1 H2:Hp}(a:eS x H H1)(b:eS x H1 H2):eS x H H2:=λc u e n=>b c u (a c u e n) n
theorem ae.but{x:Addr}{H H':Hp}(S:ae H H'):eS x H H':=λc u e _=>S c u e
theorem eS.step{x q:Addr}{H:Hp}{o o':HO}(hq:H q=none):eS x H (upd (upd H q o) x o'):=λc u e n=>by
 rw[bg n,bg (e6 e hq)];exact e
theorem eS.seq{K:aj}{x:Addr}{C dx:Addr}{fs:List (Str×V)}{H H':Hp}{c:Addr}{zs:List V}(k:eS x H H')(hx:H x=some (.ins C dx fs))(h:ai K H c zs):ai K H' c zs:=by
 rcases h with (h|⟨o,h⟩)|h
 ·exact .inl (.inl (k _ _ h (D3 h hx (by intro z;cases z))))
 ·exact .inl (.inr ⟨o,k _ _ h (D3 h hx (by intro z;cases z))⟩)
 ·exact .inr h
theorem eS.rows{x:Addr}{C dx:Addr}{fs:List (Str×V)}{H H':Hp}{as:List Addr}{rs:List (List Int)}(k:eS x H H')(hx:H x=some (.ins C dx fs))(R:Rows H as rs):Rows H' as rs :=
 Paired.eZ R λa r e=>k _ _ e (D3 e hx (by intro z;cases z))
theorem eS.free{x:Addr}{C dx:Addr}{fs:List (Str×V)}{H H':Hp}{q:Addr}{o:HO}(k:eS x H H')(hx:H' x=some o)(hq:H' q=none):H q=none:=by
 cases e:H q with
 | none=>rfl
 | some u =>
  have n:q≠x:=Ne.symm (e6 hx hq);rw[k q u e n] at hq
  cases hq
end L2
namespace L2
open PySem PySem.Spec PyProof.Rows PySem.Builtin.Str
def iD(x:Str)(lo hi:Option Int):Str:=⟨((x.cps.toList.drop (HT.dF x.length 0 lo)).take (HT.dF x.length x.length hi-HT.dF x.length 0 lo)).toArray⟩
theorem xv(i:Int)(n d:Nat):max (0:Int) (min (if i<0 then i+(n:Int) else i) (n:Int))=((HT.dF n d (some i):Nat):Int):=by
 show _=(((if i<0 then (i+(n:Int)).toNat else min i.toNat n):Nat):Int)
 by_cases h:i<0
 ·rw[if_pos h,if_pos h];omega
 ·rw[if_neg h,if_neg h];omega
theorem Zm(a b:Nat):sliceRange (a:Int) (b:Int) 1=(bJ (b-a)).map (λk=>a+k):=by
 unfold sliceRange;have h1:(1:Int)>0:=by decide
 simp only[h1,if_true];have e:(if (a:Int)<(b:Int) then ((b:Int)-a+1-1)/1 else 0).toNat=b-a:=by
  split
  ·rw[Int.ediv_one];omega
  ·omega
 rw[e];refine aiO λk _=>?_
 omega
theorem Zl(lo hi:Option Int)(n:Nat):strSliceIndices lo hi 1 n=(bJ (HT.dF n n hi-HT.dF n 0 lo)).map (λk=>HT.dF n 0 lo+k):=by
 rw[<-Zm];unfold strSliceIndices;have h1:(1:Int)>0:=by decide
 cases lo with
 | none=>cases hi with
  | none=>rfl
  | some j =>
   simp only[h1,if_true];rw[xv j n n];rfl
 | some i=>cases hi with
  | none =>
   simp only[h1,if_true];rw[xv i n 0];rfl
  | some j =>
   simp only[h1,if_true];rw[xv i n 0,xv j n n]
theorem aeH(x:Str)(lo hi:Option Int):Txt.slice x lo hi=iD x lo hi:=by
 have hl:HT.dF x.length 0 lo<=x.length:=HT.MF _ 0 (dy _) lo;have hh:HT.dF x.length x.length hi<=x.length:=HT.MF _ _ (bH _) hi;have hc:x.cps.toList.length=x.length:=gE;unfold Txt.slice;rw[Zl];by_cases h:((1:Int)==1&&((bJ (HT.dF x.length x.length hi-HT.dF x.length 0 lo)).map (λk=>HT.dF x.length 0 lo+k)).length==x.length)=true
 ·rw[if_pos h]
  rw[aH,g_] at h;have h2:HT.dF x.length x.length hi-HT.dF x.length 0 lo=x.length:=by
   have:=(de _ _ ▸ h).2;exact beq_iff_eq.mp this
  unfold iD;rw[h2,show HT.dF x.length 0 lo=0 by omega,Sd,ahJ (by omega)]
 ·rw[if_neg h]
  unfold iD;have p:=StrLaws.picks x.cps.toList (HT.dF x.length x.length hi-HT.dF x.length 0 lo) (HT.dF x.length 0 lo) (by omega)
  rw[<-p]
  congr 2
  simp
section
variable{X:Cx}
inductive Mw(x:V)(lo:Option Int)(hi:Option Int)(H:Hp)(Q:VK):Prop
 | mk:∀z:Str,(x=.str z)->(z.length<=sizeLine)->(Q (.str (iD z lo hi)) H)->Mw x lo hi H Q
theorem part_of{v:Value}{o:Option Int}(p:IsPart v o):∃l:Option (Int×Tok),v=partValue l/\o=l.map (·.1):=by
 cases p with
 | none=>exact⟨none,rfl,rfl⟩
 | int=>exact⟨some (_,_),rfl,rfl⟩
theorem Ov:GL X Mw:=by
 intro pins s σ H x v vl vu lo hi sl Q I rx hs pl pu h;obtain⟨z,rfl,hz,q⟩:=h;obtain⟨t,rfl⟩:=rx;obtain⟨l,rfl,rfl⟩:=part_of pl;obtain⟨u,rfl,rfl⟩:=part_of pu;obtain⟨o,ho,hc,hd⟩:=hs;refine⟨"str",_,F.slot_str_getitem.lookup,typeIs_str _ _ _,wpAny_getItem_str_slice (l:=l) (u:=u) (st:=none) ⟨o,ho,hc,hd⟩ rfl (post_val_or_str ⟨b_ (Txt.slice_le z _ _) hz,λt' k=>?_⟩)⟩
 refine⟨.str (iD z (l.map (·.1)) (u.map (·.1))),H,I.tok _,⟨t',?_⟩,q⟩
 rw[<-aeH];rfl
theorem Qv:∀{ys:List Str} {ao:List Value},Vals (bq ys) ao->∃l:List (Str×Tok),ao=strValues l/\l.map (·.1)=ys
 | [],_,.nil=>⟨[],rfl,rfl⟩
 | y::ys,_,.cons r rs=>by
  obtain⟨t,rfl⟩:=r;obtain⟨l,rfl,e⟩:=Qv (ys:=ys) rs;exact⟨(y,t)::l,rfl,by rw[jc,e]⟩
inductive rJoin(K:aj)(x:V)(vs:List V)(H:Hp)(Q:VK):Prop
 | mk:∀(sep:Str) (a:Addr) (ys:List Str) (B:Nat),(x=.str sep)->(vs=[.ref a])->(ai K H a (bq ys))->((∀y∈ys,y.length<=B))->(ys.length*B+ys.length*sep.length<=16777216)->(Q (.str (fo sep ys)) H)->rJoin K x vs H Q
theorem join_le{sep:Str}{B:Nat}:∀{ys:List Str},(∀y∈ys,y.length<=B)->(fo sep ys).length<=ys.length*B+ys.length*sep.length
 | [],_=>dy _
 | [y],h=>by
  have:=h y (dc.mpr rfl);show y.length<=1*B+1*sep.length;omega
 | y::z::r,h=>by
  have h1:=h y (cB ..);have h2:=join_le (sep:=sep) (B:=B) (ys:=z::r) λw hw=>h w (cP _ hw)
  show (y++sep++fo sep (z::r)).length<=_;rw[fO,fO,bF,Ga,Ga];omega
theorem oA:rC X "str.join" (rJoin X.K):=by
 intro pins s σ H x vs v us Q I rx rv h;obtain⟨sep,a,ys,B,rfl,rfl,hy,hB,hz,q⟩:=h;obtain⟨t,rfl⟩:=rx;obtain⟨u,rfl,ru⟩:=rv.one
 cases ru;obtain⟨ao,r,pl,hlen⟩:=I.list hy;obtain⟨l,rfl,rfl⟩:=Qv r;have hf:=StrLaws.joinFits (sep:=sep) hB hz;refine call_meets F.slot_str_join (typeIs_str _ _ _) F.entry_str_join (F.args_str_join_2 _ _) (meets_str_join_list sep t a l hf) ⟨pl.isList,?_⟩;have fin:∀(tk:Tok) (n:Nat) (z:Str),z=fo sep (l.map (·.1))->EP X pins σ Q (.str z tk) { s with toks:=n }:=λtk n z e=>⟨.str (fo sep (l.map (·.1))),H,I.tok _,⟨tk,by rw[e]⟩,q⟩
 have many:∀l':List (Str×Tok),l'=l->(Made.str (glued sep (l'.map (·.1)))).post (λv s'=>wants (EP X pins σ Q) X.xe (.ok (.ret v)) s') s:=λl' e=>by
  subst e;refine⟨?_,fin _ _ _ (StrLaws.glued_eq_join _ _)⟩;rw[StrLaws.glued_eq_join];have hl:=sizeLine_eq;exact b_ (join_le hB) (by omega)
 match l,fin,many with
 | [],_,many=>exact many [] rfl
 | [p],fin,_=>exact fin p.2 s.toks p.1 rfl
 | p::p'::r,_,many=>exact many (p::p'::r) rfl
end
def st(l:List Nat):Str:=⟨l.toArray⟩
abbrev m_:Str:=zalias233z "abcdefghijklmnopqrstuvwxyz"
theorem qO(x:Str):st x.cps.toList=x:=rfl
theorem Qt(l:List Nat):(st l).cps.toList=l:=rfl
theorem Qs{l m:List Nat}(h:st l=st m):l=m:=by
 have:=congrArg (λx:Str=>x.cps.toList) h
 exact this
theorem oR(l:List Nat):(st l).length=l.length:=by simp[st,B1]
theorem K4{l:List Nat}(h1:1<=l.length)(h2:l.length<=8)(h3:∀c∈l,97<=c/\c<=122):dQ (st l)=true:=by
 unfold dQ;rw[oR,Qt,de,de,decide_eq_true_eq,decide_eq_true_eq,e_];refine⟨⟨h1,h2⟩,λc hc=>?_⟩
 obtain⟨a,b⟩:=h3 c hc;unfold jw;simp[a,b]
theorem Tq:∀i:Fin 26,m_.cps.toList[i.val]?=some (97+i.val):=by decide +kernel
theorem Cy:m_.length=26:=by decide +kernel
theorem Cw{i:Int}(h0:0<=i)(h1:i<26):bT m_.cps.toList i=some (97+i.toNat):=by
 obtain⟨j,rfl⟩:=jA h0;exact c7 (Tq ⟨j,by omega⟩)
theorem CZ(l:List Nat)(lo hi:Option Int):iD (st l) lo hi=st ((l.drop (HT.dF l.length 0 lo)).take (HT.dF l.length l.length hi-HT.dF l.length 0 lo)):=by
 unfold iD;rw[oR,Qt];rfl
theorem Qr(a b:List Nat):st a++st b=st (a++b):=by
 refine Str.ext' (GB.mp ?_);simp[aib,st]
theorem Kc{x:Str}{ys:List Str}:iI (.str x) (bq ys)=decide (x∈ys):=by
 unfold iI;rw[aiw,j2,B5,decide_eq_true_eq];constructor
 ·rintro⟨y,hy,e⟩
  have:y=x:=by simpa [gN] using e
  exact this ▸ hy
 ·intro h
  exact⟨x,h,by simp[gN]⟩
theorem Io(ys:List Str):(bq ys).all jI=true:=by
 rw[e_];intro v hv;obtain⟨y,_,rfl⟩:=bR.mp hv;rfl
end L2
namespace L2
open PySem PySem.Spec PyProof.Rows
theorem FT{c:TT}{tb:TS}{D:Ends}{σ:St}{H:Hp}(W:Nat->St->Hp->Prop)(h0:∃m,W m σ H)
  (hs:∀m σ H,W m σ H->c σ H λb H1=>if b=true then tb { D with nx:=λaM H'=>∃m',m'<m/\W m' aM H',ct:=λaM H'=>∃m',m'<m/\W m' aM H',bk:=D.nx } σ H1 else D.nx σ H1)
  (mono:∀σ H Q Q',(∀b H1,Q b H1->Q' b H1)->c σ H Q->c σ H Q'):QH c tb D σ H:=by
 refine⟨W,h0,?_⟩;intro m σ H p;refine mono σ H _ _ (λb H1 q=>?_) (hs m σ H p)
 cases b with
 | true=>exact⟨_,λaM H' z=>z,q⟩
 | false=>exact q
theorem D7{α:Type}{f:Nat->α}{n:Nat}(h:∀i j,i<n->j<n->f i=f j->i=j):((bJ n).map f).Nodup:=by
 refine ahF.mpr (ajX ?_ ahC);intro a b ha hb qi e;exact qi (h a b (iq.mp ha) (iq.mp hb) e)
theorem aeY{ys:List Str}{k:Nat}(h:k<ys.length):bT (bq ys) (k:Int)=some (V.str (ys[k])):=by
 refine c7 ?_;rw[eu,cw h];rfl
theorem getD_at{xs:List Int}{k:Nat}(h:k<xs.length):xs.getD k 0=xs[k]:=by
 rw[gF,cw h];rfl
structure m7(dU:Scope)(N:List Str)(scope:Scope)(N':List Str)(nt:Nat)(caps:List Nat):Prop where
 kind:scope.kind=.function
 cells:∀y∈scope.names,y.2=.cell->scope.names.lookup y.1=some .cell
 names:∀y∈scope.names,y.2=.local->scope.names.lookup y.1=some .local
 frees:∀y∈scope.names,y.2=.free->dU.names.lookup y.1=some .cell\/dU.names.lookup y.1=some .free
 uK:caps.map (λj=>N[j]?)=(N'.drop nt).map some
 CU:∀x∈N'.drop nt,scope.names.lookup x=some .free
 len:nt<=N'.length
 nd:N'.Nodup
def HG(dU:Scope)(N:List Str)(scope:Scope)(N':List Str)(nt:Nat)(caps:List Nat):Bool :=
 decide (scope.kind=.function)&&decide (∀y∈scope.names,y.2=.cell->scope.names.lookup y.1=some .cell)&&decide (∀y∈scope.names,y.2=.local->scope.names.lookup y.1=some .local) &&
 decide (∀y∈scope.names,y.2=.free->dU.names.lookup y.1=some .cell\/dU.names.lookup y.1=some .free)&&decide (caps.map (λj=>N[j]?)=(N'.drop nt).map some) &&
 decide (∀x∈N'.drop nt,scope.names.lookup x=some .free)&&decide (nt<=N'.length)&&decide N'.Nodup
theorem m7.of{dU:Scope}{N:List Str}{scope:Scope}{N':List Str}{nt:Nat}{caps:List Nat}(h:HG dU N scope N' nt caps=true):m7 dU N scope N' nt caps:=by
 unfold HG at h;simp only[de,decide_eq_true_eq] at h;obtain⟨⟨⟨⟨⟨⟨⟨a,b⟩,c⟩,d⟩,e⟩,f⟩,g⟩,i⟩:=h;exact⟨a,b,c,d,e,f,g,i⟩
theorem nA:∀(names:List (Str×NameKind)) (n:Nat) (acc:List (Str×Addr)),cellsFrom n names acc=cellsFrom n names []++acc
 | [],_,_=>rfl
 | (x,k)::r,n,acc=>by
  unfold cellsFrom
  split
  ·rw[nA r (n+1) ((x,n)::acc),nA r (n+1) [(x,n)],kW]
   rfl
  ·exact nA r n acc
theorem uM:∀(names:List (Str×NameKind)) (n:Nat) {x:Str} {c:Addr},(x,c)∈cellsFrom n names []->n<=c/\(x,NameKind.cell)∈names
 | [],_,_,_,h=>nomatch h
 | (y,k)::r,n,x,c,h=>by
  unfold cellsFrom at h
  split at h
  ·rename_i hk
   rw[nA] at h;rcases dH.mp h with q|q
   ·obtain⟨a,b⟩:=uM r (n+1) q
    exact⟨by omega,cP _ b⟩
   ·have e:(x,c)=(y,n):=dc.mp q
    cases e;rw[show k=NameKind.cell from eq_of_beq hk]
    exact⟨bH _,cB ..⟩
  ·obtain⟨a,b⟩:=uM r n h
   exact⟨a,cP _ b⟩
abbrev md(X:Cx)(scope:Scope)(C:Addr):List (Str×Addr):=cellsFrom (C+1) scope.names (fU X.env scope.names [])
theorem pP{X:Cx}{scope:Scope}{C:Addr}{x:Str}{c:Addr}(h:(md X scope C).lookup x=some c):X.env.cells.lookup x=some c\/(C+1<=c/\(cellsFrom (C+1) scope.names []).lookup x=some c):=by
 unfold md at h;rw[nA,Sk] at h
 cases q:(cellsFrom (C+1) scope.names []).lookup x with
 | none =>
  rw[q] at h;exact .inl (oz nB h)
 | some c' =>
  rw[q] at h
  cases (show c'=c from a6 h)
  exact .inr ⟨(uM _ _ (gD q)).1,rfl⟩
theorem Vf{X:Cx}{scope:Scope}{C:Addr}{x:Str}{c:Addr}(h:(x,c)∈fU X.env scope.names []):(x,c)∈md X scope C:=by
 unfold md;rw[nA];exact eG _ h
def fB(X:Cx)(N':List Str)(scope:Scope)(B:cK):Cx :=
 { X with N:=N',dq:=B.s,rA:=B.H,env:=compEnvC scope (md X scope B.C) B.C X.env,outer:=X.stack,ex:=B.fp,fn:=λx=>decide (scope.names.lookup x=some .cell),xe:=λ_ _=>False }
theorem ag0{M:Model}{A:Around}{E:Value->Shared->Prop}{s:Shared}{scope:Scope}{globals:Addr}{cl:List (Str×Addr)}{qual:Str}{env:Env}{Q:Env->Shared->Prop}
  (hQ:∀h',h'.Ns s.heap.objs.size (λ_=>none)->(∀b o,s.heap.get? b=some o->h'.get? b=some o)->(∀x c,(x,c)∈cellsFrom (s.heap.objs.size+1) scope.names []->h'.IsCell c none) ->
   (cellsFrom (s.heap.objs.size+1) scope.names []).Pairwise (λx y=>x.2≠y.2) ->
   Q { scope:=scope,locals:=s.heap.objs.size,globals:=globals,cells:=cellsFrom (s.heap.objs.size+1) scope.names cl,qual:=qual,func:=none,code:=env.code,frame:=env.frame,builtins:=env.builtins } { s with heap:=h' }) :
  wpAny M A (newFunctionEnv scope globals cl [] qual none .none (some env)) Q E s:=by
 simp only[newFunctionEnv,Option.isSome_some,if_true];refine wpAny_bind (wpAny_alloc ?_);refine wpAny_bind (wpAny_layCells _ (λname kind cells=>by cases YH:kind==NameKind.cell<;>simp[YH]) _ _ _ _ ?_)
 have ok:=cellsFrom_ok scope.names (s.heap.push { cls:=.type "dict",data:=.dict #[] }) (s.heap.objs.size+1) [] ⟨λ_ _ hm=>(nomatch hm),R9⟩ (by rw[j3];exact bH _)
 rw[j3] at ok;rw[show ({ s with heap:=s.heap.push { cls:=.type "dict",data:=.dict #[] } }:Shared).heap.objs.size=s.heap.objs.size+1 from j3 ..]
 refine wpAny_bind (wpAny_pure (wpAny_pure ?_));exact hQ _ ((Heap.Ns.new s.heap (.type "dict")).keeps (pushCells_keeps _ _)) (λb o e=>pushCells_keeps _ _ b o (cJ _ e)) (λx c h=>(ok.empty x c h).1) ok.apart
section
variable{X:Cx}{pins:List (Addr×Obj)}{σ:St}{H:Hp}{aJ:Shared}{scope:Scope}{N':List Str}{nt:Nat}{caps:List Nat}{fp:List Addr}{C:Addr}
theorem Vj(I:Inv X pins σ H aJ)(S:m7 X.env.scope X.N scope N' nt caps)(f2:∀b∈fp,fP X pins H b)(cU:∀b∈fp,b<aJ.heap.objs.size)(hC:aJ.heap.objs.size<=C)(Dl:(cellsFrom (C+1) scope.names []).Pairwise (λx y=>x.2≠y.2)) :
  (fB X N' scope ⟨C,aJ,H,fp⟩).Ok where
 mod:=I.ok.mod
 kind:=S.kind
 glob:=I.ok.glob
 blt:=I.ok.blt
 above:=hC
 inj:=λx y c h1 h2=>by
  have lt:∀{z:Str},X.env.cells.lookup z=some c->c<aJ.heap.objs.size:=λe=>let ⟨_,q⟩:=I.cell _ c e;q.lt
  rcases pP h1 with q1|⟨q1,p1⟩<;>rcases pP h2 with q2|⟨q2,p2⟩
  ·exact I.ok.inj x y c q1 q2
  ·exact absurd (dI (lt q1) hC) (RL.mpr (qW q2))
  ·exact absurd (dI (lt q2) hC) (RL.mpr (qW q1))
  ·exact PySem.name_of_addr Dl (gD p1) (gD p2)
 has:=λx hx=>by
  have hm:∃k,(k=NameKind.cell\/k=NameKind.free)/\(x,k)∈(relabel scope X.env).names:=by
   rcases hx with e|e
   ·exact⟨_,.inl rfl,gD e⟩
   ·exact⟨_,.inr rfl,gD e⟩
  obtain⟨k,hk,hm⟩:=hm;obtain⟨k0,h0,e⟩:=KI hm;have hf:k0=.free\/k0=.cell:=by
   rcases e with e|⟨_,e⟩
   ·rcases hk with z|z
    ·exact .inr (e.symm.trans z)
    ·exact .inl (e.symm.trans z)
   ·exact .inl e
  rcases hf with hf|hf
  ·subst hf
   obtain⟨c,hc⟩:=I.ok.has x (S.frees _ h0 rfl);exact vE (Vf (pQ hc h0))
  ·subst hf
   exact Gb.mp (Gj scope.names (C+1) _ (.inl (S.cells _ h0 rfl)))
 ny:=λx c hf h=>by
  have hx:scope.names.lookup x=some .cell:=of_decide_eq_true hf;have h':(md X scope C).lookup x=some c:=h;unfold md at h';rw[nA,Sk] at h';obtain⟨c',q⟩:=Gb.mp (Gj scope.names (C+1) [] (.inl hx));rw[q] at h'
  cases (show c'=c from a6 h')
  have:=(uM _ _ (gD q)).1;exact b_ hC (qW this)
 hd:=I.ok.hd
 frames:=I.ok.frames
 gb:=.inl rfl
 uW:=λb hb=>⟨cQ (dI (cU b hb) hC),λx c e=>by
  rcases pP e with q|⟨q,_⟩
  ·exact(f2 b hb).2.2.2.2.1 x c q
  ·exact ue (dI (dI (cU b hb) hC) (qW q))⟩
 bs:=I.bs
 iW:=b_ I.ok.iW I.sz
 mK:=λb o e hb=>by
  rcases(f2 b hb).2.2.2.1 with z|z
  ·exact I.ok.mK b o e z
  ·exact absurd (dI (bQ e) (b_ I.ok.iW z)) (gg _)
 pU:=λb hb hf=>by
  rcases bE.mp (I.lN b hf) with e|e
  ·exact(f2 b hb).2.1 e
  ·exact(f2 b hb).2.2.1 e
 ic:=I.stack
 ly:=I.Bm
theorem ZA{eV:Heap}{tk:Nat}{m0:Str->Option Value}(I:Inv X pins σ H aJ)(S:m7 X.env.scope X.N scope N' nt caps)(f2:∀b∈fp,fP X pins H b)(cU:∀b∈fp,b<aJ.heap.objs.size)
  (hC:aJ.heap.objs.size<=C) (Dl:(cellsFrom (C+1) scope.names []).Pairwise (λx y=>x.2≠y.2)) (oo:∀x c,(x,c)∈cellsFrom (C+1) scope.names []->eV.IsCell c none) (oq:eV.Ns C m0) (old:∀b o,aJ.heap.get? b=some o->eV.get? b=some o) :
  Inv (fB X N' scope ⟨C,aJ,H,fp⟩) pins (qM nt caps σ) H { aJ with heap:=eV,toks:=tk }:=by
 have hl:=congrArg ri S.uK;rw[aH,aH,lY] at hl;have sub:∀{x c},(fU X.env scope.names []).lookup x=some c->X.env.cells.lookup x=some c:=λe=>oz nB e
 refine⟨Vj I S f2 cU hC Dl,rfl,I.bare,Un.kept old,⟨m0,oq,λi x v e1 e2 e3=>?_⟩,λx c e=>?_,I.aS.fresh hC,λx c e=>(by rcases pP e with q|⟨q,_⟩;exact I.iZ x c q;exact I.aS.fresh (b_ hC (qW q))),λp hp=>?_,I.aS.kept old,?_⟩
 ·have uU:N'[i]?=some x:=e1
  have gU:(zalias133z nt none++caps.map λj=>(σ[j]?).getD none)[i]?=some (some v):=e2
  have hi:nt<=i:=by
   rcases RI i nt with z|z
   ·rw[Sf (by simpa using z),Sh,if_pos z] at gU
    cases gU
   ·exact z
  rw[Sg (by simpa using hi),iN,eu] at gU
  cases hj:caps[i-nt]? with
  | none=>rw[hj] at gU;cases gU
  | some j =>
   rw[hj] at gU;have mh:(σ[j]?).getD none=some v:=a6 gU;have vx:σ[j]?=some (some v):=by
    cases q:σ[j]? with
    | none=>rw[q] at mh;cases mh
    | some o=>rw[q] at mh;have z:o=some v:=mh;rw[z]
   have hd:(N'.drop nt)[i-nt]?=some x:=by rw[aiF,ahK hi];exact uU
   have hN:X.N[j]?=some x:=by
    have q:=congrArg (λl=>l[i-nt]?) S.uK
    have q:(caps.map λj=>X.N[j]?)[i-nt]?=((N'.drop nt).map some)[i-nt]?:=q
    rw[eu,eu,hj,hd] at q;exact a6 q
   have oi:=S.CU x (kS hd);have vk:=S.frees (x,.free) (gD oi) rfl;have FL:pJ X.env.scope x:=.inr vk;obtain⟨m,hn,vn⟩:=I.loc;obtain⟨u,r,l⟩:=vn j x v hN vx FL;refine⟨u,r,.inr ⟨?_,?_⟩⟩
   ·exact DM oi
   ·rcases l with ⟨k,_⟩|⟨_,c,e,z⟩
    ·have k':X.env.scope.names.lookup x=some .local:=k
     rcases vk with q|q<;>(rw[k'] at q;cases q)
    ·obtain⟨c',q⟩:=vE (pQ e (gD oi) (cs:=[]))
     have q2:=sub q;rw[e] at q2
     cases q2;obtain⟨o,ho,gu⟩:=z;refine⟨c,?_,o,old _ _ ho,gu⟩;show (md X scope C).lookup x=some c;unfold md;rw[nA,Sk]
     cases own:(cellsFrom (C+1) scope.names []).lookup x with
     | none=>exact q
     | some c' =>
      have z1:=S.cells _ (uM _ _ (gD own)).2 rfl;rw[oi] at z1
      cases z1
 ·rcases pP e with q|⟨_,q⟩
  ·obtain⟨v,o,ho,gu⟩:=I.cell x c q
   exact⟨v,o,old _ _ ho,gu⟩
  ·exact⟨none,oo x c (gD q)⟩
 ·obtain⟨a,b,c,d,e⟩:=I.pin p hp
  refine⟨old _ _ a,b,cQ (dI (bQ a) hC),λhf=>?_,e⟩
  rcases bE.mp (I.lN p.1 hf) with z|z
  ·exact c z
  ·exact d z
 ·show (zalias133z nt none++caps.map λj=>(σ[j]?).getD none).length=N'.length
  rw[bS,iN,aH];have:=S.len;omega
end
section
variable{X:Cx}{pins:List (Addr×Obj)}{σ:St}{H:Hp}{aJ:Shared}{scope:Scope}{N':List Str}{nt:Nat}{caps:List Nat}{tg elt iter:Expr}{ifs:List Expr}{pos:Pos}{g:cK->TG}{tt:cK->TT}{te:cK->TE}
theorem Vl{J:It}{it:Addr}{fp:List Addr}{tn:Nat->Heap->Prop}{W:Nat->Nat->List V->St->Hp->Prop}{Z:List V->Hp->Prop}{RR:Value->Addr->Result->Shared->Prop}{E:Value->Shared->Prop}
  (hc:X.calm=true) (S:m7 X.env.scope X.N scope N' nt caps)
  (hg:∀B,PG (fB X N' scope B) tg (g B)) (ht:∀B,pC (fB X N' scope B) ifs (tt B)) (he:∀B,PE (fB X N' scope B) elt (te B))
  (I:Inv X pins σ H aJ) (T:Turn X.prog X.w X.K tg J fp it tn) (st:tn 0 aJ.heap) (f2:∀b∈fp,fP X pins H b) (w0:∃m,W 0 m [] (qM nt caps σ) H) (turn:∀B,iS J (g B) (tt B) (te B) W Z)
  (Dj:∀D C s' ys H',Z ys H'->H' D=none->Inv X pins σ (upd H' D (.lst ys)) s'->fP X pins (upd H' D (.lst ys)) C->(∃m,s'.heap.Ns C m)->RR (.ref D) C (.ok .next) s') :
  wpAny (model X.prog X.w) X.A (newList []) (λacc fw=>wpAny (model X.prog X.w) X.A (newFunctionEnv scope X.env.globals (fU X.env scope.names []) [] X.env.qual none .none (some X.env)) (λuL tT =>
   codeAny (model X.prog X.w) X.A (.compStart (.ListComp elt [⟨tg,iter,ifs,0⟩] scope pos) 0 (.ref it) acc { uL with scope:=relabel scope X.env }) (RR acc uL.locals) tT) E fw) E aJ:=by
 refine wpAny_newObj_type (ag0 (λeV mz Ar Au Ap=>?_))
 try dsimp only at mz Ar Au Ap ⊢
 generalize pZ:aJ.heap.push { cls:=.type "list",dict:=none,data:=.seq ([]:List Value).toArray }=G2 at mz Ar Au Ap ⊢;have mw:G2.objs.size=aJ.heap.objs.size+1:=by rw[<-pZ,j3]
 have jK:aJ.heap.objs.size≠G2.objs.size:=by rw[mw];exact cQ (oZ _)
 have i0:aJ.heap.objs.size<=G2.objs.size:=by rw[mw];exact lU _
 have cU:∀b∈fp,b<aJ.heap.objs.size:=λb hb=>let ⟨o,e,_⟩:=T.obj 0 _ st b hb;bQ e
 have old:∀b o,aJ.heap.get? b=some o->eV.get? b=some o:=λb o e=>Ar b o (pZ ▸ cJ _ e)
 have u9:eV.get? aJ.heap.objs.size=some (lobj [] 0):=Ar _ _ (pZ ▸ fN _ rfl);generalize hD:aJ.heap.objs.size=D at u9 jK i0 mw;generalize G2.objs.size=C at mz Au Ap jK i0 mw ⊢;have om:∀b∈fp,b<D:=λb hb=>hD ▸ cU b hb
 have cL:∀p∈X.pn++pins,p.1<D:=λp hp=>hD ▸ bQ (I.pin p hp).1
 have mx:∀x c,X.env.cells.lookup x=some c->c<D:=λx c e=>let ⟨v,q⟩:=I.cell x c e;hD ▸ q.lt
 have vh:∀b∈cx X.stack,b<D:=λb hb=>by
  rcases bE.mp (I.lN b hb) with z|z
  ·rw[z,<-hD];exact I.lt
  ·rw[<-hD]
   refine ahM λq=>I.D8 q z
 have fD:∀{H':Hp} {pl:List (Addr×Obj)},H' D=none->(∀p∈X.pn++pl,p.1<D)->fP (fB X N' scope ⟨C,aJ,H,fp⟩) pl H' D:=λ{H' pl} hn hp =>
  ⟨hn,jK,λz=>gg _ (vh D z),.inr (by show aJ.heap.objs.size<=D;rw[hD];exact bH _),λx c e z=>(by rcases pP e with q|⟨q,_⟩;(have:=mx x c q;rw[z] at this;exact gg D this);(rw[z] at q;exact gg D (dI (F9 i0 (oZ C)) q))),
   λp q z=>gg D (by have:=hp p q;rw[z] at this;exact this)⟩
 have fI:∀{H':Hp} {n:Nat} {ao:List Value},(∀b∈fp,H' b=none)->∀b∈fp,fP (fB X N' scope ⟨C,aJ,H,fp⟩) (pins++[(D,lobj ao n)]) H' b:=λ{H' n ao} hn b hb=>by
  obtain⟨g0,g1,g2,g3,g4,g5⟩:=f2 b hb;refine⟨hn b hb,cQ (dI (om b hb) i0),λz=>?_,.inl hb,λx c e=>(by rcases pP e with q|⟨q,_⟩;exact g4 x c q;exact ue (dI (dI (om b hb) i0) (qW q))),λp hp z=>?_⟩
  ·rcases bE.mp (I.lN b z) with q|q
   ·exact g1 q
   ·exact g2 q
  ·have fF:p∈X.pn++(pins++[(D,lobj ao n)]):=hp
   rw[<-kW] at fF;rcases dH.mp fF with q|q
   ·exact g5 p q z
   ·have e:p=(D,lobj ao n):=by simpa using q
    rw[e] at z;have:=om b hb;rw[<-z] at this;exact gg _ this
 have v9:∀{aM:St} {H':Hp} {s':Shared} {ao:List Value} {n:Nat} {pl:List (Addr×Obj)},Inv (fB X N' scope ⟨C,aJ,H,fp⟩) (pins++pl) aM H' s'->H' D=none->s'.heap.get? D=some (lobj ao n)->Inv (fB X N' scope ⟨C,aJ,H,fp⟩) (pins++[(D,lobj ao n)]) aM H' s' :=
  λ{aM H' s' ao n pl} J hn ho=>J.Bc λp hp=>by
   rcases dH.mp hp with q|q
   ·exact J.pin p (eG _ (kR _ q))
   ·have e:p=(D,lobj ao n):=by simpa using q
    subst e;exact⟨ho,hn,jK,λz=>gg _ (vh D z),λv z=>by cases z⟩
 have I1:Inv (fB X N' scope ⟨C,aJ,H,fp⟩) (pins++[(D,lobj [] 0)]) (qM nt caps σ) H { aJ with heap:=eV,toks:=aJ.toks } :=
  v9 (pl:=[]) (by rw[eY];exact ZA I S f2 cU (by rw[hD];exact i0) Ap Au mz old) (I.aS.fresh (by rw[hD];exact bH _)) u9
 have wg:tn 0 eV:=T.keep 0 _ _ st λb _ o e=>old b o e
 have loop:∀fw:Shared,fw={ aJ with heap:=eV,toks:=aJ.toks } ->
   codeAny (model X.prog X.w) X.A (.compLoop (.ListComp elt [⟨tg,iter,ifs,0⟩] scope pos) 0 (.ref it) (.ref D) (fB X N' scope ⟨C,aJ,H,fp⟩).env) (RR (.ref D) C) fw:=by
  rintro fw rfl;obtain⟨m0,w0⟩:=w0;refine HF (λk s'=>∃i ys aM H' ao n,Inv (fB X N' scope ⟨C,aJ,H,fp⟩) (pins++[(D,lobj ao n)]) aM H' s'/\Vals ys ao/\tn i s'.heap/\(∀b∈fp,H' b=none)/\ys.length<=sizeLine/\W i k ys aM H') ?_ m0
   ⟨0,[],_,H,[],0,I1,.nil,wg,λb hb=>(f2 b hb).1,dy _,w0⟩
  rintro k s' ⟨i,ys,aM,H',ao,n,I',rv,dv,uZ,hz,w'⟩;rcases turn ⟨C,aJ,H,fp⟩ i k ys aM H' w' with ⟨stop,z⟩|⟨go,hlen,NN,jj,step⟩
  ·refine aZ (T.done (fB X N' scope ⟨C,aJ,H,fp⟩) rfl rfl rfl hc i _ s' aM H' _ I' (fI uZ) dv stop) λr s1 ⟨hr,J⟩=>?_
   subst hr;have pd:=J.pin (D,lobj ao n) (eG _ (eG _ cB));have u3:H' D=none:=pd.2.1;have J0:Inv X pins σ H' s1:=I.xu (ch:=fp) J.os J.base J.aS J.bare λb hb=>⟨(f2 b hb).2.2.2.1,(f2 b hb).2.1,(f2 b hb).2.2.2.2.1,(f2 b hb).2.2.2.2.2⟩
   have J1:Inv X pins σ (upd H' D (.lst ys)) s1:=J0.Bu (I.mj (by rw[hD];exact bH _) u3) ⟨hz,ao,n,rv,pd.1⟩
   obtain⟨mC,Dx,_⟩:=J.loc;exact Dj D C s1 ys H' z u3 J1 (I.mj (by rw[hD];exact i0) (by rw[bg (Ne.symm jK)];exact J.free)) ⟨mC,Dx⟩
  ·refine aZ (T.item (fB X N' scope ⟨C,aJ,H,fp⟩) rfl rfl rfl hc i _ s' aM H' _ I' (fI uZ) dv go) λr s1 ⟨u,hr,h1⟩=>?_
   subst hr;refine aZ h1 λ_ s5 ⟨x,H5,I5,r5,y5,kM,u0⟩=>?_
   have ux:=I5.pinned (fI u0) (T.obj _ _ kM);refine wpAny_mono (hg ⟨C,aJ,H,fp⟩ _ s5 aM H5 x u _ ux r5 (step x H5 y5)) (λ_ s6 ⟨iO,H6,I6,q6⟩=>?_) λ_ _ z=>z.elim
   refine wpAny_mono (ht ⟨C,aJ,H,fp⟩ _ s6 iO H6 _ I6 q6) (λb s7 ⟨H7,I7,q7⟩=>?_) λ_ _ z=>z.elim
   have vD:∀{wQ:St} {H8:Hp} {s8:Shared},Inv (fB X N' scope ⟨C,aJ,H,fp⟩) ((pins++[(D,lobj ao n)])++tM fp s5.heap) wQ H8 s8->tn (i+1) s8.heap/\(∀b∈fp,H8 b=none)/\s8.heap.get? D=some (lobj ao n)/\H8 D=none:=λ{wQ H8 s8} I8=>by
    refine⟨T.keep _ _ _ kM λb hb o e=>(I8.pin (b,o) (eG _ (eG _ (tm hb e)))).1,λb hb=>?_,?_⟩
    ·obtain⟨o,e,_⟩:=T.obj _ _ kM b hb
     exact(I8.pin (b,o) (eG _ (eG _ (tm hb e)))).2.1
    ·have pd:=I8.pin (D,lobj ao n) (eG _ (kR _ (eG _ cB)))
     exact⟨pd.1,pd.2.1⟩
   cases b with
   | false =>
    rw[if_neg eo] at q7 ⊢;obtain⟨m',hm,w7⟩:=jj _ _ _ q7;obtain⟨t7,f7,_,_⟩:=vD I7;exact⟨m',hm,i+1,ys,iO,H7,ao,n,I7.m5,rv,t7,f7,hz,w7⟩
   | true =>
    rw[if_pos rfl] at q7 ⊢;refine wpAny_mono (he ⟨C,aJ,H,fp⟩ _ s7 iO H7 _ I7 q7) (λv s8 ⟨y,H8,I8,r8,q8⟩=>?_) λ_ _ z=>z.elim
    obtain⟨m',hm,w8⟩:=jj _ _ _ q8;obtain⟨t8,f8,o8,n8⟩:=vD I8;have Dv:=rv.length;refine append_at o8 (λh9 wb o9=>?_) (by rw[df,<-Dv];exact hz)
    have Ca:Inv (fB X N' scope ⟨C,aJ,H,fp⟩) (pins++[]) iO H8 s8:=by
     rw[eY];exact I8.m5.m5
    have ep:((ao.toArray.push v))=(ao++[v]).toArray:=by simp
    rw[ep] at o9;have I9:Inv (fB X N' scope ⟨C,aJ,H,fp⟩) (pins++[]) iO H8 { s8 with heap:=h9 } :=
     Ca.wt (t':=s8.toks) (ch:=[D]) (λb o hb e=>wb.extBut b o (λz=>hb (by simp[z])) e) (λb hb=>by
      have e:b=D:=by simpa using hb
      subst e;exact fD n8 (by rw[eY];exact cL))
    refine⟨m',hm,i+1,ys++[y],iO,H8,ao++[v],n+1,v9 I9 n8 o9,rv.append (.cons r8 .nil),T.keep _ _ _ t8 λb hb o e=>wb.extBut b o (cQ (om b hb)) e,f8,?_,w8⟩
    rw[bS,ur];exact hlen
 exact codeAny_compStart_list (loop _ rfl) (T.self X.A 0 _ _ _ wg (loop _ rfl))
theorem Mm{wi:TI}{i:Nat}{y:Str}{py we:Pos}(dU:Scope)(N:List Str)(S:m7 dU N scope N' nt caps)(hN:X.N.Nodup)(Dt:X.N[i]?=some y)(hy:X.env.scope.names.lookup y=some .local)(hi:PI X tg iter wi)
  (hg:∀B,PG (fB X N' scope B) tg (g B)) (ht:∀B,pC (fB X N' scope B) ifs (tt B)) (he:∀B,PE (fB X N' scope B) elt (te B))
  (DC:swapsWith (.ListComp elt [⟨tg,iter,ifs,0⟩] scope pos) (some (.Name y py)) we.line X.env=pure true:=by rfl)
  (hc:X.calm=true:=by rfl) (qj:X.env.scope=dU:=by rfl) (jj:X.N=N:=by rfl) (hs:∀x,foldedSetIterable iter X.env x=pure x:=by intro _;rfl):PS X (.Assign [.Name y py] (.ListComp elt [⟨tg,iter,ifs,0⟩] scope pos) we) (Bp (Bs nt caps wi g tt te) (aG i)):=by
 subst qj jj;intro pins s σ H D0 I h;have jq:∀x∈scope.names,x.2=.free->∃c,X.env.cells.lookup x.1=some c:=λx hx hf=>I.ok.has x.1 (S.frees x hx hf)
 rw[exec_Assign_Name_used _ _ _ _ DC];refine wpAny_bind (wpAny_standAt (wpAny_bind ?_));show wpAny _ _ (do let _ <-comprehension (.ListComp elt [⟨tg,iter,ifs,0⟩] scope pos) scope X.env _ (newList []) false (eval iter X.env) (some (assign (.Name y py) X.env))) _ _ s
 refine wpAny_bind (wpAny_mono (wpAny_comprehension_free (use:=some (assign (.Name y py) X.env)) (Q:=λ_ s'=>SP X pins D0 .next s') rfl hs (CV jq) S.kind S.names
  (aZ (hi pins s σ H _ I h) λv s1 h1=>aZ h1 λvC s2 h2=>?_)) (λ_ s' hq=>wpAny_pure (wpAny_pure hq)) λ_ _ e=>e)
 obtain⟨it,fp,tn,J,H2,e,I2,T,qN,f2,W,w0,turn⟩:=h2;subst e;refine Vl (RR:=λacc C=>compPost (model X.prog X.w) X.A X.xe (some (assign (.Name y py) X.env)) (λ_ s'=>SP X pins D0 .next s') acc C) hc S hg ht he I2 T qN f2 w0 turn ?_
 intro D C s' ys H' z hn J' fC ⟨m,hm⟩;show wpAny _ _ (assign (.Name y py) X.env (.ref D)) _ _ s';refine wpAny_assign_Name (E4 (v:=.ref D) J' hN Dt (.inl hy) rfl (λf_ Cd ⟨a,sb,ha⟩=>?_) (.inr hy))
 have Dg:C≠a:=by
  rcases ha with q|q
  ·rw[q];exact fC.2.1
  ·exact Ne.symm (fC.2.2.2.2.1 _ _ q)
 refine⟨m,hm.sameBut sb Dg,λlA EV=>⟨_,_,Cd.wt (t':=f_.toks) (ch:=[C]) (λb o hb e=>EV.extBut b o (λz=>hb (by simp[z])) e) (λb hb=>?_),z D hn⟩⟩
 have e:b=C:=by simpa using hb
 subst e;exact fC
end
theorem Mc{X:Cx}{i:Nat}{x:Str}{pos:Pos}(N:List Str)(hN:N.Nodup)(hi:N[i]?=some x)(hx:X.env.scope.names.lookup x=some .cell:=by rfl)(hf:X.fn x=true:=by rfl)(u7:X.N=N:=by rfl):PG X (.Name x pos) (aG i) :=
 EB (by rw[u7];exact hN) (by rw[u7];exact hi) (.inr hx) (.inl hf)
def bL(ys:List Str)(y:Str):Int:=if y∈ys then ((ys.findIdx (λz=>decide (z=y)):Nat):Int) else -1
theorem Iw{ys:List Str}{y:Str}(h:y∈ys):ys[ys.findIdx (λz=>decide (z=y))]?=some y/\∀m,m<ys.findIdx (λz=>decide (z=y))->∀w,ys[m]?=some w->w≠y:=by
 have hl:ys.findIdx (λz=>decide (z=y))<ys.length:=List.findIdx_lt_length_of_exists ⟨y,h,by simp⟩
 have e:=List.findIdx_getElem (xs:=ys) (p:=λz=>decide (z=y)) (w:=hl)
 refine⟨by rw[cw hl,of_decide_eq_true e],λm hm w hw Y9=>?_⟩
 have:=List.not_of_lt_findIdx hm;have YS:m<ys.length:=RK hm hl;rw[cw YS] at hw;rw[a6 hw,Y9] at this;simp at this
theorem adu{ys:List Str}{y:Str}{j:Nat}(h:ys[j]?=some y)(hn:∀m,m<j->∀w,ys[m]?=some w->w≠y):bL ys y=(j:Int):=by
 have hm:y∈ys:=kS h;unfold bL;rw[if_pos hm];obtain⟨a,b⟩:=Iw hm;rcases ahP (ys.findIdx (λz=>decide (z=y))) j with q|q|q
 ·exact absurd rfl (hn _ q _ a)
 ·rw[q]
 ·exact absurd rfl (b _ q _ h)
theorem V5(a b:Str):gN (.str a) (.str b)=decide (a=b):=by
 have h:=Kc (x:=b) (ys:=[a]);have h2:iI (.str b) (bq [a])=gN (.str a) (.str b):=by
  unfold iI;simp
 rw[<-h2,h];simp[eq_comm]
section
variable{X:Cx}
inductive Mt(x:V)(vs:List V)(H:Hp)(Q:VK):Prop
 | mk:∀(l:Addr) (ys:List Str) (y:Str),(x=.ref l)->(vs=[.str y])->(H l=some (.lst (bq ys)))->(y∈ys)->(Q (.int (bL ys y)) H)->Mt x vs H Q
theorem aa4:rC X "list.index" Mt:=by
 intro pins s σ H x vs v us Q I rx rv h;obtain⟨l,ys,y,rfl,rfl,hH,hy,q⟩:=h
 cases rx;obtain⟨u,rfl,ru⟩:=rv.one;obtain⟨z,ao,n,r,hl,e⟩:=I.tf hH;obtain⟨e1,e2⟩:=Iw hy;have hp:bL ys y=((ys.findIdx (λz=>decide (z=y)):Nat):Int):=by unfold bL;rw[if_pos hy]
 rw[hp] at q;generalize ys.findIdx (λz=>decide (z=y))=j at e1 e2 q
 have hjl:j<ys.length:=(iM.mp e1).1;have vl:(bq ys).length=ys.length:=aH ..;have hs:=sizeLine_eq;have hj:j<ao.toArray.size:=by rw[df];omega
 have ev:∀m (w:Str),ys[m]?=some w->∃u',ao[m]?=some u'/\gL (.str y) u'=decide (w=y):=λm w hm=>by
  obtain⟨u',h1,h2⟩:=r.get (i:=m) (x:=.str w) (by rw[eu,hm];rfl)
  exact⟨u',h1,by rw[C7 h2 rfl,V5]⟩
 have hit:gL (.str y) ao.toArray[j]=true:=by
  obtain⟨u',h1,h2⟩:=ev j y e1;rw[aiK,(iM.mp h1).2,h2];simp
 refine call_meets F.slot_list_index ⟨_,e,rfl⟩ F.entry_list_index (F.args_list_index_2 _ _) (SeqAt.list_indexAt l ao.toArray n none #[] u (gL (.str y)) j hj (by omega) hit λm hm YR=>?_) ⟨e,λw hw=>?_,?_⟩
 ·rw[df] at hm
  have JQ:m<ys.length:=by omega
  obtain⟨u',h1,h2⟩:=ev m _ (cw JQ);rw[aiK,(iM.mp h1).2,h2];exact decide_eq_false (e2 m YR _ (cw JQ))
 ·exact tj ru rfl r (Io ys) w (by simpa using hw)
 ·exact⟨.int j,H,I.tok _,⟨_,rfl⟩,q⟩
end
end L2
namespace L2
open PySem PySem.Spec PyProof.Rows SeqAt
end L2
namespace L2
open PySem PySem.Spec PyProof.Rows
abbrev TJ:=Str->St->Hp->(Str->Hp->Prop)->Prop
def PJ(X:Cx)(es:List Expr)(t:TJ):Prop :=
 ∀(pins:List (Addr×Obj)) (s:Shared) (σ:St) (H:Hp) (acc:Str) (Q:Str->Hp->Prop),Inv X pins σ H s->t acc σ H Q ->
  Joins (model X.prog X.w) X.A X.xe (evalEach es X.env) acc (λout br=>out.length<=sizeLine/\∃H',Inv X pins σ H' br/\Q out H') s
section
variable{X:Cx}{e:Expr}{es:List Expr}{te:TE}{tr:TJ}
def ZJ:TJ:=λacc _ H Q=>acc.length<=sizeLine/\Q acc H
def ZK(x:Str)(tr:TJ):TJ:=λacc σ H Q=>(acc++x).length<=sizeLine/\tr (acc++x) σ H Q
def Sq(v:V)(y:Str):Prop:=(v=.str y/\y.length<=sizeLine)\/∃i:Int,v=.int i/\i.natAbs.log2<1920/\y=toString i
def ZL(te:TE)(tr:TJ):TJ:=λacc σ H Q=>te σ H λv H1=>∃y,Sq v y/\(acc++y).length<=sizeLine/\tr (acc++y) σ H1 Q
theorem ads:PJ X [] ZJ:=λ_ _ _ H _ _ I h=>⟨h.1,H,I,h.2⟩
theorem Mh{x:Str}{j pos}(hr:PJ X es tr):PJ X (.Constant (.str x) j pos::es) (ZK x tr):=by
 intro pins s σ H acc Q I h;show wpAny _ _ (eval (.Constant (.str x) j pos) X.env) _ _ s;refine Calls.Constant_str ⟨x,_,rfl,h.1,?_⟩;exact hr pins _ σ H (acc++x) Q (I.tok _) h.2
theorem adt{pos:Pos}(he:PE X e te)(hr:PJ X es tr):PJ X (.FormattedValue e (-1) none pos::es) (ZL te tr):=by
 intro pins s σ H acc Q I h;show wpAny _ _ (eval (.FormattedValue e (-1) none pos) X.env) _ _ s;refine wpAny_FormattedValue_plain (aZ (he pins s σ H _ I h) λv s1 ⟨x,H1,I1,r1,y,f,hz,q⟩=>?_)
 rcases f with ⟨rfl,hy⟩|⟨i,rfl,hi,rfl⟩
 ·obtain⟨t,rfl⟩:=r1
  exact wpAny_formatField_str ⟨y,_,rfl,hz,hr pins _ σ H1 (acc++y) Q I1 q⟩ ⟨y,_,rfl,hz,hr pins _ σ H1 (acc++y) Q (I1.tok _) q⟩ hy
 ·obtain⟨t,rfl⟩:=r1
  exact wpAny_formatField_int hi ⟨_,_,rfl,hz,hr pins _ σ H1 (acc++toString i) Q (I1.tok _) q⟩
theorem Km{M:Model}{A:Around}{E:Value->Shared->Prop}:∀{parts:List (Sem Value)} {acc:Str} {Q Q':Str->Shared->Prop} {s:Shared},Joins M A E parts acc Q s->(∀o s,Q o s->Q' o s)->Joins M A E parts acc Q' s
 | [],_,_,_,_,h,hq=>hq _ _ h
 | _::_,_,_,_,_,h,hq=>wpAny_mono h (λ_ _ ⟨y,t,e,hl,hj⟩=>⟨y,t,e,hl,Km hj hq⟩) λ_ _ z=>z
theorem adi{e1 e2:Expr}{t:TJ}{pos:Pos}(h:PJ X (e1::e2::es) t):PE X (.JoinedStr (e1::e2::es) pos) (λσ H Q=>t ay σ H λy H'=>Q (.str y) H'):=by
 intro pins s σ H Q I q;refine wpAny_JoinedStr ?_;have:=h pins s σ H ay (λy H'=>Q (.str y) H') I q
 refine Km this λout s1 ⟨hl,H',I',q'⟩=>⟨hl,.str out,H',I'.tok _,⟨_,rfl⟩,q'⟩
end
end L2
namespace L2
open PySem PySem.Spec PyProof.Rows SeqAt
abbrev bj(c:Int):Str:=zalias233z (toString c)
theorem aax{c:Int}(h0:0<=c)(h1:c<=1000000000):c.natAbs.log2<1920:=by
 by_cases h:c.natAbs=0
 ·rw[h];decide
 ·rw[Nat.log2_lt h]
  exact dI (show c.natAbs<2^30 by omega) (F_ (by decide) (by decide))
end L2
namespace L2
open PySem PySem.Spec PyProof.Rows
theorem aar{P:Program}{w:World}{K:aj}{mg mb:Str->Option Value}{CX:hU}{k:Nat}{fa a:Addr}{fd:FuncData}{x:Str}{sp:Sp}{br:Shared}{vs:List Value}{ns:List Int}
  (KX:K.In br.heap) (oq:br.heap.Ns mainGlobals mg) (hb:br.heap.Ns builtinsNs mb) (Yo:∀x:Str,x≠"__name__" -> mb x=bootBuiltins x) (YL:br.heap.NoLimit) (Yy:br.heap.NoDigits) (hg:br.gens=#[])
  (ha:br.heap.get? a=some { cls:=.type "list",data:=.seq vs.toArray }) (hi:IntsAre vs ns) (hl:ns.length<=sizeLine) (hr:cZ k callerA)
  (F:∀base:Heap,K.In base->base.Ns mainGlobals mg->base.NoDigits->ax P w K mg base CX k fa fd [x] sp) (Yp:∀(s:Shared) (u:Value),BindsTo s fd ⟨[u],[]⟩ [(x,u)])
  (lD:∀H:Hp,Ci H->ai K H a (ns.map V.int)->sp [.ref a] H (λv _=>v=.bl true) λ_ _ _=>False)
  (De:∀H e s',CX [] H br (λ_ _ _=>False) e s'->False) :
  codeAny (model P w) callerA (.call (.ref fa) ⟨[.ref a],[]⟩) (λr s'=>r=.ok (.ret (.bool true))/\OldK br.heap s'.heap/\s'.os=br.os/\AllBare s'.gens) br:=by
 have rv:=Rn hi;have aat:=hi.length;have core:∀H:Hp,Ci H->ai K H a (ns.map V.int)->dM P w H br.heap->(∀b,H b≠none->b=a)->(H a≠none->K.lookup a=none) ->
   codeAny (model P w) callerA (.call (.ref fa) ⟨[.ref a],[]⟩) (λr s'=>r=.ok (.ret (.bool true))/\OldK br.heap s'.heap/\s'.os=br.os/\AllBare s'.gens) br:=by
  intro H hO hS aS hA hK;have G1:∀{b:Addr} {o:Obj},br.heap.get? b=some o->H b=none->(my br.heap H).get? b=some o:=λe n=>YD e n
  have vR:∀{b:Addr} {o:Obj} {es:Array DictEntry} {ep:Nat},br.heap.get? b=some o->o.data=.dict es ep->H b=none:=λ{b o es ep} e d=>by
   cases q:H b with
   | none=>rfl
   | some u =>
    have e':b=a:=hA b (by rw[q];simp)
    subst e';rw[ha] at e;cases e;have d':Data.seq vs.toArray _=Data.dict es ep:=d
    cases d'
  have vU:∀{b:Addr} {m:Str->Option Value},br.heap.Ns b m->(my br.heap H).Ns b m:=λ{b m} ⟨o,es,ep,e,d,r⟩=>⟨o,es,ep,G1 e (vR e d),d,r⟩
  have IH:K.In (my br.heap H):=λb o e=>G1 (KX b o e) (by
   cases q:H b with
   | none=>rfl
   | some u =>
    have e':b=a:=hA b (by rw[q];simp)
    subst e';rw[hK (by rw[q];simp)] at e;cases e)
  have hM:Mod K mg (my br.heap H):=⟨IH,vU oq,⟨mb,vU hb,Yo⟩,let ⟨mc,h1,h2⟩:=YL;⟨mc,vU h1,h2⟩⟩;have e0:pB P w K mg (my br.heap H) callerA [] br H:=⟨rfl,hM,λb o e=>abG e,Nat.le_of_eq (YE _ _),trivial,λb hb=>absurd (show b∈([]:List Addr) from hb) (by simp),aS,.of_eq hg⟩
  refine codeAny_mono ((F _ IH (vU oq) (let ⟨mc,h1,h2⟩:=Yy;⟨mc,vU h1,h2⟩)).run callerA [] br H ⟨[.ref a],[]⟩ [.ref a] [.ref a] _ _ hr e0 (Yp br (.ref a)) (.cons rfl .nil) (lD H hO hS)) λr s' h=>?_
  cases r with
  | error e=>exact(De H e s' h).elim
  | ok fl =>
   cases fl with
   | next=>exact False.elim h
   | brk=>exact False.elim h
   | cont=>exact False.elim h
   | ret u =>
    obtain⟨v,H',os,bare,un,YY,r',q⟩:=h;have q':v=.bl true:=q;subst q';obtain rfl:u=wK true:=r';refine⟨rfl,OldK.of_keep λb o e=>?_,os,bare⟩
    cases q:H b with
    | none=>exact un.keep b o e q (by intro z;exact absurd (show b∈([]:List Addr) from z) (by simp)) (by simp)
    | some u =>
     rcases hO b with z|⟨ob,xs,z⟩
     ·rw[q] at z;cases z
     ·have z2:=un.jh b ob _ z
      obtain⟨e1,_⟩:=aS b _ z;obtain⟨e2,_⟩:=YY b _ z2;rw[e] at e1;cases e1;exact e2
 cases hk:K.lookup a with
 | some o =>
  have e:=KX a o hk;rw[ha] at e
  cases e;refine core (λ_=>none) (λ_=>.inl rfl) (.inr ⟨_,vs.toArray,_,hk,rfl,rfl,rfl,by rw[df,aat];exact hl,by simpa using rv⟩) (λb u z=>by have z':(none:Option HO)=some u:=z;cases z') (λb z=>absurd rfl z) λz=>absurd rfl z
 | none =>
  refine core (λb=>if b=a then some (.iF { cls:=.type "list",data:=.seq vs.toArray } (.lst (ns.map V.int))) else none) (λb=>?_) (.inl (.inr ⟨{ cls:=.type "list",data:=.seq vs.toArray },if_pos rfl⟩)) (λb u z=>?_) (λb z=>?_) λ_=>hk
  ·by_cases hb:b=a
   ·exact .inr ⟨_,_,if_pos hb⟩
   ·exact .inl (if_neg hb)
  ·by_cases hb:b=a
   ·have z':=(if_pos hb).symm.trans z
    cases z';subst hb;exact⟨ha,by rw[aH];exact hl,vs,_,rv,ha⟩
   ·have z':=(if_neg hb).symm.trans z
    cases z'
  ·by_cases hb:b=a
   ·exact hb
   ·exact absurd (if_neg hb) z
theorem agX{l:RT}{n k:Nat}{q:Program}{loose:List Str}{XP:(Str->Option Value)->Heap->Prop}{YP:World->Heap->Prop}{d:DefRec}{K:Params->aj}{CX:World->hU}{sp:World->Sp}{x:Str}
  (hn:l.most=some n) (As:n<=sizeLine) (ve:d.params.defaults=[]) (hr:cZ k callerA)
  (hY:∀(w:World) (h:Heap),YP w h->(K w.params).In h)
  (F:∀(w:World) (mg:Str->Option Value) (fa:Addr) (h:Heap),(K w.params).In h->h.Ns mainGlobals mg->mg d.name=some (.ref fa) ->
   ∃fd:FuncData,(∀(s:Shared) (u:Value),BindsTo s fd ⟨[u],[]⟩ [(x,u)]) /\
    ∀base:Heap,(K w.params).In base->base.Ns mainGlobals mg->base.NoDigits->ax l.prog w (K w.params) mg base (CX w) k fa fd [x] (sp w))
  (lD:∀(w:World) (H:Hp) (a:Addr) (ns:List Int),ns.length<=n->Ci H->ai (K w.params) H a (ns.map V.int)->sp w [.ref a] H (λv _=>v=.bl true) λ_ _ _=>False)
  (De:∀(w:World) (H:Hp) (s:Shared) (e:Value) (s':Shared),CX w [] H s (λ_ _ _=>False) e s'->False) :
  RU q loose XP YP l.row.toRowW d [] (λf vs=>RZ f vs):=by
 refine Att.TC hn ve λw dq br mg mb fa o pm cd doc a vs ns G Y ho hd fE vo Dz hints hlen hg=>?_
 have KX:=hY w _ Y;obtain⟨fd,hb,hF⟩:=F w mg fa _ KX G.T.g vo;exact aar KX G.T.g G.T.b G.T.builtins G.T.nolimit G.T.nodigits hg Dz hints (b_ hlen As) hr hF hb (λH hO hS=>lD w H a ns hlen hO hS) λH e s'=>De w H br e s'
def jd(xs:Array Nat):Prop:=xs.toList.Pairwise (· < ·)
theorem jd.lt{xs:Array Nat}(h:jd xs){i j:Nat}(ij:i<j)(hj:j<xs.size):xs[i]'(by omega)<xs[j]:=by
 have:=ahE.mp h i j (by rw[gE];omega) (by rw[gE];exact hj) ij
 simpa using this
theorem Uh{xs:Array Nat}(h:jd xs)(j:Nat):∀(fuel lo hi:Nat),hi-lo<=fuel->lo<=hi->hi<=xs.size->(∀(i:Nat) (hi:i<xs.size),i<lo->xs[i]<j)->(∀(i:Nat) (h':i<xs.size),hi<=i->j<=xs[i]) ->
  ∃p,SetTable.below.go xs j fuel lo hi=p/\p<=xs.size/\(∀(i:Nat) (hi:i<xs.size),i<p->xs[i]<j)/\∀(i:Nat) (h':i<xs.size),p<=i->j<=xs[i]:=by
 intro fuel
 induction fuel with
 | zero =>
  intro lo hi hf hl hs a b;refine⟨lo,rfl,by omega,a,λi h' hp=>b i h' (by omega)⟩
 | succ fuel ih =>
  intro lo hi hf hl hs a b;unfold SetTable.below.go;by_cases c:lo<hi
  ·rw[if_pos c]
   have m1:(lo+hi)/2<xs.size:=by omega
   have em:xs.getD ((lo+hi)/2) j=xs[(lo+hi)/2]:=by simp[Array.getD,m1]
   try dsimp only
   rw[em];by_cases d:xs[(lo+hi)/2]<j
   ·rw[if_pos d]
    refine ih ((lo+hi)/2+1) hi (by omega) (by omega) hs (λi hi' hp=>?_) b
    rcases ahO.mp hp with q|q
    ·exact RK (h.lt q m1) d
    ·subst q;exact d
   ·rw[if_neg d]
    refine ih lo ((lo+hi)/2) (by omega) (by omega) (by omega) a λi h' hp=>?_
    rcases ahN hp with q|q
    ·exact b_ (BX d) (ud (h.lt q h'))
    ·subst q;exact BX d
  ·rw[if_neg c]
   exact⟨lo,rfl,by omega,a,λi h' hp=>b i h' (by omega)⟩
theorem xk{xs:Array Nat}(h:jd xs)(j:Nat):SetTable.below xs j<=xs.size/\(∀(i:Nat) (hi:i<xs.size),i<SetTable.below xs j->xs[i]<j)/\∀(i:Nat) (h':i<xs.size),SetTable.below xs j<=i->j<=xs[i]:=by
 obtain⟨p,e,r⟩:=Uh h j xs.size 0 xs.size (by omega) (by omega) (by omega) (λi hi h=>absurd h (ahQ _)) (λi h' hp=>absurd h' (by omega))
 unfold SetTable.below;rw[e];exact r
theorem Ui{xs:Array Nat}(h:jd xs){i:Nat}(hi:i<xs.size):SetTable.below xs (xs[i]+1)=i+1:=by
 obtain⟨a,b,c⟩:=xk h (xs[i]+1);rcases ahP (SetTable.below xs (xs[i]+1)) (i+1) with q|q|q
 ·have:=c i hi (by omega)
  omega
 ·exact q
 ·have h1:=b (i+1) (by omega) q
  have h2:=h.lt (show i<i+1 by omega) (show i+1<xs.size by omega)
  omega
theorem Uj{xs:Array Nat}(h:jd xs):SetTable.below xs 0=0:=by
 obtain⟨a,b,c⟩:=xk h 0;refine Nat.le_zero.mp (BX λq=>?_)
 have:=b 0 (by omega) q
 omega
theorem Zu{xs:Array Nat}(h:jd xs){j:Nat}(nj:∀(i:Nat) (hi:i<xs.size),xs[i]≠j):jd (SetTable.insertAt xs (SetTable.below xs j) j):=by
 obtain⟨a,b,c⟩:=xk h j;generalize SetTable.below xs j=p at a b c;unfold jd SetTable.insertAt;simp only[Sj,RD,Array.toList_extract,List.extract_eq_take_drop,Sd,Nat.sub_zero];rw[ahD,ahD];have tk:∀x∈xs.toList.take p,x<j:=λx hx=>by
  obtain⟨i,hi,rfl⟩:=F3.mp hx;rw[lZ,gE] at hi;rw[List.getElem_take]
  simpa using b i (by omega) (by omega)
 have dr:∀x∈(xs.toList.drop p).take (xs.size-p),j<x:=λx hx=>by
  have hx:=ahz hx;obtain⟨i,hi,rfl⟩:=F3.mp hx;rw[lY,gE] at hi;rw[List.getElem_drop];have h1:=c (p+i) (by omega) (by omega)
  have h2:=nj (p+i) (by omega)
  have:j<xs[p+i]'(by omega):=by omega
  simpa using this
 refine⟨⟨h.sublist (RG _ _),List.pairwise_singleton _ _,λx hx y hy=>by rw[dc.mp hy];exact tk x hx⟩,(h.sublist (List.drop_sublist _ _)).sublist (RG _ _),λx hx y hy=>?_⟩
 rcases dH.mp hx with q|q
 ·exact RK (tk x q) (dr y hy)
 ·rw[dc.mp q];exact dr y hy
structure fb(led:Bool)(t:SetTable):Prop where
 rise:jd t.place
 nd:t.dummies=#[]
 led:t.led=led
theorem fb.fresh(led:Bool):fb led (SetTable.fresh 0 0 led):=⟨R9,rfl,rfl⟩
theorem fb.standIn{led:Bool}{t:SetTable}(h:fb led t)(n:Nat):fb led (t.standIn n):=⟨by
 unfold jd SetTable.standIn;simp only[Array.toList_range];exact RF,rfl,h.led⟩
theorem fb.orStandIn{led:Bool}{t:SetTable}(h:fb led t)(n:Nat):fb led (t.orStandIn n):=by
 unfold SetTable.orStandIn
 split
 ·exact h
 ·exact h.standIn n
theorem Dm(j:Nat):SetTable.has #[] j=false:=by
 unfold SetTable.has;simp
theorem aeI{t:SetTable}(hn:t.dummies=#[]){j:Nat}(h:t.slot j=.empty):t.place[SetTable.below t.place j]?≠some j:=by
 unfold SetTable.slot at h;rw[hn,Dm] at h;intro e;simp[e] at h
theorem aeJ{t:SetTable}(hn:t.dummies=#[]){j:Nat}:t.slot j≠.dummy:=by
 unfold SetTable.slot;rw[hn,Dm]
 try dsimp only
 split
 ·intro h;cases h
 ·intro h;simp at h
theorem adF{t:SetTable}(hn:t.dummies=#[])(ha:Nat->Int)(h:Int):∀(fuel:Nat) (p:SetTable.Probe) (j:Nat) (d:Option Nat),p.dummy=none->SetTable.probe.go t ha h fuel p=some (.empty j d)->d=none/\t.slot j=.empty:=by
 intro fuel
 induction fuel with
 | zero=>intro p j d _ e;unfold SetTable.probe.go at e;cases e
 | succ fuel ih =>
  intro p j d pd e;unfold SetTable.probe.go at e;have ad:(t.advance p).dummy=none:=by
   unfold SetTable.advance
   split
   ·exact pd
   ·exact pd
  cases hs:t.slot p.j with
  | empty =>
   rw[hs] at e
   try dsimp only at e
   injection e with e
   injection e with e1 e2
   exact⟨by rw[<-e2];exact pd,by rw[<-e1];exact hs⟩
  | dummy=>exact absurd hs (aeJ hn)
  | live i =>
   rw[hs] at e
   try dsimp only at e
   split at e
   ·cases e
   ·exact ih _ _ _ ad e
theorem Wm{led:Bool}{t:SetTable}(T:fb led t){h:Int}{j:Nat}{b:Bool}(e:t.freeSlot h=some (j,b)):∀(i:Nat) (hi:i<t.place.size),t.place[i]≠j:=by
 unfold SetTable.freeSlot at e
 split at e
 ·rename_i j' d hp
  unfold SetTable.probe at hp;obtain⟨rfl,hs⟩:=adF T.nd _ _ _ _ _ _ rfl hp;injection e with e
  injection e with e1 _
  have e1:j'=j:=e1;subst e1;have ne:=aeI T.nd hs;obtain⟨a,b',c⟩:=xk T.rise j';intro i hi z;generalize SetTable.below t.place j'=p at ne a b' c;rcases RI i p with q|q
  ·have:=b' i hi q
   omega
  ·rcases ahN q with r|r
   ·have h1:=c p (by omega) (bH _)
    have h2:=T.rise.lt r hi;omega
   ·subst r
    exact ne (by rw[Ge hi,z])
 ·cases e
theorem fb.lay{led:Bool}{t:SetTable}(T:fb led t)(es:Array (Int×Value))(h:Int)(x:Value):fb led (layNew t es h x).2.1:=by
 unfold layNew
 split
 ·rename_i slot wd hf
  refine fb.orStandIn ?_ _;refine⟨?_,?_,T.led⟩
  ·exact Zu T.rise (Wm T hf)
  ·show (if SetTable.has t.dummies slot=true then _ else t.dummies)=#[]
   rw[T.nd,Dm];rfl
 ·exact T.standIn _
theorem fb.ad2{led:Bool}{t:SetTable}(T:fb led t)(es:Array (Int×Value))(n:Nat):fb led (relayAll t es n).2.1:=by
 unfold relayAll
 split
 ·rename_i t' order hr
  have T':fb led t':=by
   unfold SetTable.relaid SetTable.laid at hr
   cases ho:SetTable.layClean (SetTable.sizeAbove n-1) (es.map (·.1)) with
   | none=>rw[ho] at hr;cases hr
   | some ow =>
    rw[ho] at hr;have hr:=a6 hr;injection hr with h1 h2
    subst h1;refine⟨?_,rfl,T.led⟩;unfold jd;have key:∀l:List Nat,l.Pairwise (· < ·)->((l.filterMap λj=>(ow.getD j none).map (j,·)).map (·.1)).Pairwise (· < ·):=λl hl=>by
     have sub:∀l:List Nat,((l.filterMap λj=>(ow.getD j none).map (j,·)).map (·.1)).Sublist l:=λl=>by
      induction l with
      | nil=>exact List.Sublist.slnil
      | cons y l ih =>
       cases hy:ow.getD y none with
       | none=>rw[List.filterMap_cons_none (by rw[hy];rfl)];exact ih.cons _
       | some v=>rw[List.filterMap_cons_some (by rw[hy];rfl)];exact ih.cons₂ _
     exact hl.sublist (sub l)
    simpa using key _ RF
  try dsimp only
  split
  ·exact T'
  ·exact T.standIn _
 ·exact T.standIn _
section
variable{prog:Program}{w:World}{A:Around}{E:Value->Shared->Prop}{s:Shared}
def Sz(prog:Program)(w:World)(led:Bool)(h:Heap)(a:Addr)(es:List (Int×Value)):Prop :=
 ∃o ep t,h.get? a=some o/\o.ExactSet/\o.data=.set es.toArray ep t/\ElemsOf (intKind prog w) es/\es.length<scanBound/\t.fits es.length=true/\fb led t
theorem Ot{led:Bool}{h:Heap}{a:Addr}{o:Obj}{es:Array (Int×Value)}{ep:Nat}{t:SetTable}(ho:h.get? a=some o)(hex:o.ExactSet)(hd:o.data=.set es ep t){bD:Array (Int×Value)}{t':SetTable}(jo:ElemsOf (intKind prog w) bD.toList)(hb:bD.size<scanBound)(hf:t'.fits bD.size=true)(T:fb led t') :
  (h.update a (Obj.putSet bD t')).get? a=some { o with data:=.set bD (ep+1) t' }/\Sz prog w led (h.update a (Obj.putSet bD t')) a bD.toList:=by
 have hg:(h.update a (Obj.putSet bD t')).get? a=some { o with data:=.set bD (ep+1) t' }:=by
  have:=uj (Obj.putSet bD t') ho (by rw[putSet_of bD t' hd];rfl)
  rw[putSet_of bD t' hd] at this;exact this
 exact⟨hg,_,ep+1,t',hg,hex,by rw[Gz],jo,by rw[gE];exact hb,by rw[gE];exact hf,T⟩
end
def i5(e:Int×Value):Int:=match e.2 with|.int k _=>k|_=>0
theorem key_is{P:Program}{w:World}{e:Int×Value}{es:List (Int×Value)}(h:ElemsOf (intKind P w) es)(he:e∈es):∃t,e.2=.int (i5 e) t:=by
 obtain⟨⟨k,hk,_⟩,_⟩:=h e he;obtain⟨t,ht⟩:=RS (k:=k) (v:=e.2) (by simpa [intKind] using hk)
 exact⟨t,by unfold i5;rw[ht]⟩
theorem Kr{P:Program}{w:World}{es:List (Int×Value)}(h:ElemsOf (intKind P w) es){k:Int}:(∃e∈es,(intKind P w).is k e.2=true)↔k∈es.map i5:=by
 rw[bR];constructor
 ·rintro⟨e,he,hk⟩
  obtain⟨t,ht⟩:=RS (k:=k) (v:=e.2) (by simpa [intKind] using hk)
  exact⟨e,he,by unfold i5;rw[ht]⟩
 ·rintro⟨e,he,rfl⟩
  obtain⟨t,ht⟩:=key_is h he;exact⟨e,he,by rw[ht];simp[intKind,Gi]⟩
section
variable{prog:Program}{w:World}{A:Around}{E:Value->Shared->Prop}{s:Shared}
theorem aev(a:Value){Q₁:Value->Shared->Prop}(h:Q₁ (.ref s.heap.objs.size) { s with heap:=s.heap.push (fJ (!w.params.followText "set-order")) }) :
  codeAny (model prog w) A (.call (.builtin "set.__new__") ⟨[.type "set",a],[]⟩) (wants Q₁ E) s:=by
 refine codeAny_of_tree ?_;show wpAny _ A.in1 (do checkBuiltinCall "set.__new__" ⟨[.type "set",a],[]⟩;again (.builtin "set.__new__" ⟨[.type "set",a],[]⟩)) _ _ s
 refine wpAny_bind (wpAny_of_eq (PySem.F.newCall_set_1 a) (wpAny_pure ⟨plainId_quiet ah1 _,codeAny_builtin PySem.F.entry_set_new ?_⟩));rw[Around.under_plainId ah1 _];unfold Builtin.«set.__new__» Builtin.Frozenset.newClass;have JZ:=(show isSubtype (.type "set") (.type "set")=pure true by rw[isSubtype_type];kernel_rfl)
 obtain⟨hp,g,d,tk,os⟩:=s
 try dsimp only
 wp_walk
 refine wpAny_askSetting (wpAny_pure ?_)
 try dsimp only
 simp only[newObj];exact wpAny_bind (wpAny_alloc (wpAny_pure (wpAny_pure h)))
end
def gH(es bD:Array (Int×Value)):Prop:=es.map (·.1)=bD.map (·.1)
theorem gH.size{es bD:Array (Int×Value)}(h:gH es bD):es.size=bD.size:=by
 have:=congrArg Array.size h;rw[aiH,aiH] at this;exact this
theorem Ke{α β:Type}(f:α->β)(xs:Array α)(p:Nat)(x:α):(SetTable.insertAt xs p x).map f=SetTable.insertAt (xs.map f) p (f x):=by
 unfold SetTable.insertAt;simp[Array.map_append,aiy,Array.map_extract]
theorem Ku{t:SetTable}{es bD:Array (Int×Value)}(e:gH es bD)(h:Int)(x x':Value):gH (layNew t es h x).1 (layNew t bD h x').1/\(layNew t es h x).2=(layNew t bD h x').2:=by
 unfold layNew
 cases t.freeSlot h with
 | none=>exact⟨by unfold gH at e ⊢;simp[aiy,e],by rw[e.size]⟩
 | some p =>
  have s1:gH (SetTable.insertAt es (t.put p.1).2 (h,x)) (SetTable.insertAt bD (t.put p.1).2 (h,x')):=by
   unfold gH at e ⊢;rw[Ke,Ke,e]
  exact⟨s1,by dsimp only;rw[s1.size]⟩
theorem Mf{es:Array (Int×Value)}(order:Array Nat):(order.filterMap (es[·]?)).map (·.1)=order.filterMap ((es.map (·.1))[·]?):=by
 rw[<-GB];simp only[RA,Array.toList_filterMap,List.map_filterMap,Array.getElem?_map]
theorem MA{t:SetTable}{es bD:Array (Int×Value)}(e:gH es bD)(n:Nat):gH (relayAll t es n).1 (relayAll t bD n).1/\(relayAll t es n).2=(relayAll t bD n).2:=by
 unfold relayAll;rw[show es.map (·.1)=bD.map (·.1) from e,e.size]
 cases t.relaid (bD.map (·.1)) n with
 | none=>exact⟨e,rfl⟩
 | some p =>
  obtain⟨t',order⟩:=p;have s1:gH (order.filterMap (es[·]?)) (order.filterMap (bD[·]?)):=by
   unfold gH;rw[Mf,Mf,show es.map (·.1)=bD.map (·.1) from e]
  try dsimp only
  rw[s1.size]
  split
  ·exact⟨s1,rfl⟩
  ·exact⟨e,rfl⟩
def j9(p:Array (Int×Value)×SetTable)(k:Int):Array (Int×Value)×SetTable :=
 let L:=layNew p.2 p.1 (hashInt k) (.int k 0)
 if (!L.2.2.1&&L.2.1.tooFull)=true then ((relayAll L.2.1 L.1 (SetTable.grown L.1.size)).1,(relayAll L.2.1 L.1 (SetTable.grown L.1.size)).2.1) else (L.1,L.2.1)
def d3(led:Bool)(l:List Int):Array (Int×Value)×SetTable:=l.foldl j9 (#[],SetTable.fresh 0 0 led)
section
variable{prog:Program}{w:World}{A:Around}{E:Value->Shared->Prop}{s:Shared}
def iA(prog:Program)(w:World)(led:Bool)(h:Heap)(a:Addr)(l:List Int)(es:List (Int×Value)):Prop :=
 ∃o ep t,h.get? a=some o/\o.ExactSet/\o.data=.set es.toArray ep t/\ElemsOf (intKind prog w) es/\es.length<scanBound/\t.fits es.length=true/\fb led t/\gH es.toArray (d3 led l).1/\t=(d3 led l).2
theorem DU{led:Bool}{l:List Int}{k:Int}:d3 led (l++[k])=j9 (d3 led l) k:=by
 unfold d3;rw[List.foldl_append];rfl
theorem Oq{led:Bool}{h:Heap}{a:Addr}{o:Obj}{es:Array (Int×Value)}{ep:Nat}{t:SetTable}(ho:h.get? a=some o)(hex:o.ExactSet)(hd:o.data=.set es ep t){bD:Array (Int×Value)}{t':SetTable}(jo:ElemsOf (intKind prog w) bD.toList)(hb:bD.size<scanBound)(hf:t'.fits bD.size=true)(T:fb led t'){l:List Int}(s1:gH bD (d3 led l).1)(s2:t'=(d3 led l).2) :
  iA prog w led (h.update a (Obj.putSet bD t')) a l bD.toList:=by
 obtain⟨hg,_⟩:=Ot (prog:=prog) (w:=w) ho hex hd jo hb hf T;exact⟨_,ep+1,t',hg,hex,by rw[Gz],jo,by rw[gE];exact hb,by rw[gE];exact hf,T,by rw[Gz];exact s1,s2⟩
theorem GR{g:Bool->Sem Unit}(hg:∀(b:Bool) (br:Shared) (Q':Unit->Shared->Prop),Q' () br->wpAny (model prog w) A (g b) Q' E br){led:Bool}{a:Addr}{o:Obj}{es:Array (Int×Value)}{ep:Nat}{t:SetTable}(ho:s.heap.get? a=some o)(hex:o.ExactSet)(hd:o.data=.set es ep t)
  {dO:Array (Int×Value)} {t2:SetTable} (sS:ElemsOf (intKind prog w) dO.toList) (jk:dO.size<scanBound) (JI:t2.fits dO.size=true) (T2:fb led t2) {wC:Bool} {l:List Int} {k:Int} {Iy:Bool}
  (sh:gH dO (layNew (d3 led l).2 (d3 led l).1 (hashInt k) (.int k 0)).1) (st:(t2,wC,Iy)=(layNew (d3 led l).2 (d3 led l).1 (hashInt k) (.int k 0)).2) {R:Option Bool->Shared->Prop}
  (h:∀(h':Heap) (bD:List (Int×Value)),ra a s.heap h'->iA prog w led h' a (l++[k]) bD->bD.Perm dO.toList->R (some true) { s with heap:=h' }) :
  wpAny (model prog w) A (do
    storeSet a dO t2
    if (!wC&&t2.tooFull)=true then do
      g (relayAll t2 dO (SetTable.grown dO.size)).2.2
      storeSet a (relayAll t2 dO (SetTable.grown dO.size)).1 (relayAll t2 dO (SetTable.grown dO.size)).2.1
      pure (some true)
     else pure (some true)) R E s:=by
 refine wpAny_bind (wpAny_storeSet_of ho hd ?_ (fits_of_scanBound jk));obtain⟨vp,_⟩:=Ot (prog:=prog) (w:=w) ho hex hd sS jk JI T2;have JW:=B0 s.heap a (Obj.putSet dO t2);have e1:t2=(layNew (d3 led l).2 (d3 led l).1 (hashInt k) (.int k 0)).2.1:=congrArg (·.1) st
 have e2:wC=(layNew (d3 led l).2 (d3 led l).1 (hashInt k) (.int k 0)).2.2.1:=congrArg (·.2.1) st
 by_cases c:(!wC&&t2.tooFull)=true
 ·have em:d3 led (l++[k])=((relayAll t2 (layNew (d3 led l).2 (d3 led l).1 (hashInt k) (.int k 0)).1 (SetTable.grown dO.size)).1,(relayAll t2 (layNew (d3 led l).2 (d3 led l).1 (hashInt k) (.int k 0)).1 (SetTable.grown dO.size)).2.1):=by
   rw[DU];unfold j9
   try dsimp only
   rw[<-e1,<-e2,if_pos c,sh.size]
  rw[if_pos c];have sr:=MA (t:=t2) sh (SetTable.grown dO.size);have hp:=relayAll_perm t2 dO (SetTable.grown dO.size);have jq:=relayAll_fits t2 dO (SetTable.grown dO.size);have hT:=T2.ad2 dO (SetTable.grown dO.size);have m1:gH (relayAll t2 dO (SetTable.grown dO.size)).1 (d3 led (l++[k])).1:=by rw[em];exact sr.1
  have m2:(relayAll t2 dO (SetTable.grown dO.size)).2.1=(d3 led (l++[k])).2:=by rw[em,sr.2]
  generalize relayAll t2 dO (SetTable.grown dO.size)=Rl at hp jq hT m1 m2 ⊢;obtain⟨V7,t3,ai5⟩:=Rl
  try dsimp only at hp jq hT m1 m2 ⊢
  have JB:V7.size<scanBound:=by rw[<-gE,hp.length_eq,gE];exact jk
  refine wpAny_bind (hg _ _ _ (wpAny_bind (wpAny_storeSet_of vp rfl ?_ (fits_of_scanBound JB))));exact wpAny_pure (h _ _ (JW.trans (B0 _ a _)) (Oq vp hex rfl (sS.perm hp) JB jq hT m1 m2) hp)
 ·rw[if_neg c]
  have em:d3 led (l++[k])=((layNew (d3 led l).2 (d3 led l).1 (hashInt k) (.int k 0)).1,t2):=by
   rw[DU];unfold j9
   try dsimp only
   rw[<-e1,<-e2,if_neg c]
  exact wpAny_pure (h _ _ JW (Oq ho hex hd sS jk JI T2 (by rw[em];exact sh) (by rw[em])) (R_ _))
theorem Tj{led:Bool}{a:Addr}{l:List Int}{es:List (Int×Value)}{k:Int}{tk:Tok}{Q:Bool->Shared->Prop}(hS:iA prog w led s.heap a l es)(room:es.length+1<scanBound)
  (qh:(∃e∈es,(intKind prog w).is k e.2=true)->Q false s)
  (oo:(¬ ∃e∈es,(intKind prog w).is k e.2=true)->∀(h':Heap) (bD:List (Int×Value)),ra a s.heap h'->iA prog w led h' a (l++[k]) bD->bD.Perm (es++[((intKind prog w).hash k,.int k tk)])->Q true { s with heap:=h' }) :
  wpAny (model prog w) A (setAddHashed a (.int k tk) ((intKind prog w).hash k)) Q E s:=by
 obtain⟨o,ep,t,ho,hex,hd,jo,hb,hf,T,sh0,Qo⟩:=hS;have Aq:(intKind prog w).is k (.int k tk)=true:=by simp[intKind,Gi]
 have JH:t.fits es.toArray.size=true:=by rw[df];exact hf
 have JF:ElemsOf (intKind prog w) es.toArray.toList:=by rw[RH];exact jo
 unfold setAddHashed setAddHashedIn;refine wpAny_holding (wpAny_bind (wpAny_setState_of ho hd JH ?_))
 try dsimp only
 rw[byScan_of (knd:=intKind prog w) (x:=.int k tk) rfl (by rw[df];exact hb) JF]
 simp only[↓reduceIte];unfold setAddByScan;refine wpAny_bind (wpAny_bind (wpAny_rule (wpAny_bind (wpAny_setScan_of Aq ho hd JH JF ?_))));rw[RH]
 cases hr:List.findIdx? (λe=>(intKind prog w).is k e.2) es with
 | some j =>
  try dsimp only
  obtain⟨hj,Y0,_⟩:=List.findIdx?_eq_some_iff_getElem.mp hr;exact wpAny_pure (wpAny_pure (qh ⟨_,pA hj,Y0⟩))
 | none =>
  try dsimp only
  have oo:=oo λ⟨e,he,hp⟩=>by
   have:=List.findIdx?_eq_none_iff.mp hr e he;rw[hp] at this
   cases this
  have mE:=layNew_perm t es.toArray ((intKind prog w).hash k) (.int k tk);have sU:=layNew_fits t es.toArray ((intKind prog w).hash k) (.int k tk);have hT:=T.lay es.toArray ((intKind prog w).hash k) (.int k tk);have sl:=Ku (t:=t) sh0 ((intKind prog w).hash k) (.int k tk) (.int k 0);rw[Qo] at sl;rw[Qo] at mE sU hT ⊢;have hk:(intKind prog w).hash k=hashInt k:=rfl;rw[hk] at sl mE sU hT ⊢;generalize layNew (d3 led l).2 es.toArray (hashInt k) (.int k tk)=L at mE sU hT sl ⊢;obtain⟨dO,t1,wC,Iy⟩:=L
  try dsimp only at mE sU hT sl ⊢
  rw[RD,RH] at mE;have sS:ElemsOf (intKind prog w) dO.toList:=(jo.push Aq rfl).perm mE;have jk:dO.size<scanBound:=by
   rw[<-gE,mE.length_eq,bS];exact room
  have Ds:∀(b:Bool) (br:Shared) (Q':Unit->Shared->Prop),Q' () br->wpAny (model prog w) A (match b with|true=>rule "set.scan.the-table-gave-way" | false=>pure ()) Q' E br:=λb br Q' hq=>by
   cases b
   ·exact wpAny_pure hq
   ·exact wpAny_rule hq
  refine wpAny_bind (Ds _ _ _ ?_)
  split
  ·rw[hashByValue_scannable 8 (x:=.int k tk) rfl]
   refine wpAny_bind (wpAny_pure ?_);simp only[plainKind,↓reduceIte];exact GR Ds ho hex hd sS jk sU hT sl.1 sl.2 λh' bD s1 s2 s3=>wpAny_pure (oo h' bD s1 s2 (s3.trans mE))
  ·refine wpAny_bind (wpAny_pure ?_)
   simp only[↓reduceIte];exact GR Ds ho hex hd sS jk sU hT sl.1 sl.2 λh' bD s1 s2 s3=>wpAny_pure (oo h' bD s1 s2 (s3.trans mE))
end
theorem iA.moved{prog:Program}{w:World}{led:Bool}{h h':Heap}{a:Addr}{l:List Int}{es:List (Int×Value)}(hS:iA prog w led h a l es)(k:∀o,h.get? a=some o->h'.get? a=some o):iA prog w led h' a l es:=by
 obtain⟨o,ep,t,ho,more⟩:=hS;exact⟨o,ep,t,k o ho,more⟩
theorem iA.HW{prog:Program}{w:World}{led:Bool}{h:Heap}{a:Addr}{l:List Int}{es:List (Int×Value)}(hS:iA prog w led h a l es):ElemsOf (intKind prog w) es:=by
 obtain⟨o,ep,t,_,_,_,jo,_⟩:=hS;exact jo
section
variable{prog:Program}{w:World}{A:Around}{R:Result->Shared->Prop}{I:Addr}{fp wr:List Addr}{G:Array GenState->Array GenState->Prop}{n:Nat}{P:Nat->Value->Prop}{St:Nat->Shared->Prop}
theorem aet(W:WalksS prog w A.in1 I fp wr G n P St)(S:Addr)(u6:S∉fp)(val:Nat->Int)(qo:∀i v,P i v->∃t,v=.int (val i) t)(hb:n+1<scanBound){led:Bool} :
  ∀(k i:Nat) (s:Shared),n-i=k->i<=n->St i s->(∃es,iA prog w led s.heap S (bO val i) es/\(es.map i5).Perm (bO val i)) ->
   (∀s',Moved (S::wr) G s s'->(∃es,iA prog w led s'.heap S (bO val n) es/\(es.map i5).Perm (bO val n))->R (.ok (.ret .none)) s') ->
   codeAny (model prog w) A (.builtin "set.update.loop" ⟨[.ref S,.ref I],[]⟩) R s:=by
 have nw:S∉wr:=λz=>u6 (W.sub _ z)
 have sub:∀b∈wr,b∈S::wr:=λb z=>cP _ z
 intro k
 induction k with
 | zero =>
  intro i s hk hi st hS fin;obtain rfl:i=n:=by omega
  refine codeAny_builtin Gd ?_;rw[Around.under_plainId ug _];show wpAny _ A.in1 (pyNext (.ref I) >>= _) _ _ s;refine wpAny_bind (W.done s _ _ st λs' mv=>?_)
  show wpAny _ A.in1 (ret pj) _ _ s';obtain⟨es,hS,pe⟩:=hS;exact wpAny_pure (fin s' (mv.mono sub) ⟨es,hS.moved λo ho=>mv.heap S _ nw ho,pe⟩)
 | succ k ih =>
  intro i s hk hi st hS fin;have lt:i<n:=by omega
  refine codeAny_builtin Gd ?_;rw[Around.under_plainId ug _];show wpAny _ A.in1 (pyNext (.ref I) >>= _) _ _ s;refine wpAny_bind (W.item i s _ _ lt st λv s' pv dv mv=>?_)
  obtain⟨t,rfl⟩:=qo i v pv;obtain⟨es,hS,pe⟩:=hS;have og:iA prog w led s'.heap S (bO val i) es:=hS.moved λo ho=>mv.heap S _ nw ho
  show wpAny _ A.in1 (holding [.int (val i) t] (setAdd S (.int (val i) t)) >>= _) _ _ s';refine wpAny_bind (wpAny_holding ?_);unfold setAdd;refine wpAny_holding (wpAny_bind ((intKind prog w).pyHash (k:=val i) (by simp[intKind,Gi]) ?_))
  have lm:=pe.length_eq;rw[aH] at lm;have room:es.length+1<scanBound:=by have:=DP val i;omega
  have go:∀(h':Heap) (bD:List (Int×Value)),ra S s'.heap h'->iA prog w led h' S (bO val (i+1)) bD->(bD.map i5).Perm (bO val (i+1))->codeAny (model prog w) A (.builtin "set.update.loop" ⟨[.ref S,.ref I],[]⟩) R { s' with heap:=h',toks:=s'.toks+1 }:=λh' bD sb u4 pe'=>by
   refine ih (i+1) _ (by omega) lt (W.frame _ s' _ _ dv (lU _) λb hb o e=>?_) ⟨bD,u4,pe'⟩ λs2 DX Dk=>?_
   ·rw[sb.2 b (λz:b=S=>u6 (z ▸ hb))];exact e
   ·refine fin s2 (Moved.trans W.gtrans ((mv.mono sub).then_heap (lU _) λb o hb e=>?_) DX) Dk
    rw[sb.2 b (λz:b=S=>hb (z ▸ cB))];exact e
  refine Tj (s:={ s' with toks:=s'.toks+1 }) og room (λqh=>?_) λoo h' bD sb u4 pm=>?_
  ·have m:val i∈bO val i:=pe.mem_iff.mp ((Kr og.HW).mp qh)
   refine wpAny_pure ⟨plainId_quiet ug _,go s'.heap es (ra.refl S s'.heap) (by rw[show bO val (i+1)=bO val i from if_pos m];exact og) ?_⟩
   show (es.map i5).Perm (ip (bO val i) (val i));unfold ip;rw[if_pos m];exact pe
  ·have m:val i∉bO val i:=λz=>oo ((Kr og.HW).mpr (pe.mem_iff.mpr z))
   refine wpAny_pure ⟨plainId_quiet ug _,go h' bD sb (by rw[show bO val (i+1)=bO val i++[val i] from if_neg m];exact u4) ?_⟩
   show (bD.map i5).Perm (ip (bO val i) (val i));unfold ip;rw[if_neg m];refine(pm.map i5).trans ?_;rw[dX];exact pe.append_right _
end
section
variable{prog:Program}{w:World}{A:Around}{E:Value->Shared->Prop}{s:Shared}
set_option maxHeartbeats 3200000 in
theorem aer{l:Addr}{items:Array Value}{val:Nat->Int}{Q:Value->Shared->Prop}(hh:A.handled=none)(hl:s.heap.IsList l items)(qo:∀(i:Nat) (v:Value),items[i]?=some v->∃t,v=wL (val i) t)(hb:items.size+1<scanBound)
  (h:∀(h':Heap) (tk:Nat) (es:List (Int×Value)),iA prog w (!w.params.followText "set-order") h' s.heap.objs.size (bO val items.size) es->(es.map i5).Perm (bO val items.size)->(∀b o,b<s.heap.objs.size->s.heap.get? b=some o->h'.get? b=some o) ->
   Q (.ref s.heap.objs.size) { s with heap:=h',toks:=tk }):wpAny (model prog w) A (call (.type "set") [.ref l]) Q E s:=by
 obtain⟨c,tl,YT⟩:=iL.mro;have YQ:=iL.made;have JZ:=iL.sub;refine wpAny_call (codeAny_of_tree ?_);show wpAny _ _ (callAny (.type "set") _) _ _ _;refine wpAny_pure ⟨Code.quiet_builtin _ (by decide +kernel),codeAny_builtin ah0 ?_⟩
 rw[Around.under_plain (weight_type_call_type "set" [.ref l] []) rfl];have g1:=iL.notType;have g2:=iL.canCreate;have g3:=ah6 (.ref l)
 repeat (any_goals (first|assumption|wp_step))
 refine codeAny_mono (aev (.ref l) (E:=E) (Q₁:=λobj br=>∃led:Bool,(!w.params.followText "set-order")=led/\obj=.ref s.heap.objs.size/\br={ s with heap:=s.heap.push (fJ led) }) ⟨_,rfl,rfl,rfl⟩) λr br hr=>?_
 cases r with
 | error e=>exact hr
 | ok fl =>
  cases fl with
  | ret obj =>
   obtain⟨led,YK,rfl,rfl⟩:=hr;have pL:(s.heap.push (fJ led)).get? s.heap.objs.size=some (fJ led):=fN _ rfl;have hT:Shared.TypeIs { s with heap:=s.heap.push (fJ led) } (.ref s.heap.objs.size) "set" := ⟨_,pL,rfl⟩
   have g4:=iL.init.lookup;have g5:=iL.init.bind (.ref s.heap.objs.size)
   repeat (any_goals (first|assumption|wp_step))
   refine codeAny_mono (codeAny_call_builtin (R:=wants (λr aJ=>r=.none/\∃h' tk,aJ={ s with heap:=h',toks:=tk }/\(∃es,iA prog w led h' s.heap.objs.size (bO val items.size) es/\(es.map i5).Perm (bO val items.size)) /\
     (∀b o,b<s.heap.objs.size->s.heap.get? b=some o->h'.get? b=some o)) E) iL.init.plain ahZ (check_set_init_1 hT ?_)) λEU aJ qk=>?_
   ·obtain⟨⟨aby,Eb,abF,Ex⟩,vq,mx,nl,vf⟩:=hl
    simp only at mx vf;subst mx;subst vf;have DA:(s.heap.push (fJ led)).get? l=some { cls:=.type "list",dict:=Eb,data:=.seq items nl,slots:=Ex }:=cJ _ vq;have k1:=ah5;have k2:=ah4;have k3:(um "list" == um "dict")=false:=by decide
    have oj:(s.heap.push (fJ led)).IsList l items:=⟨_,DA,rfl,nl,rfl⟩;unfold Builtin.«set.__init__» noKeywords Builtin.Frozenset.updateFrom;generalize Di:pyIter=PI
    wp_walk
    subst Di;refine wpAny_pyIter_list oj (wpAny_bind (wpAny_runValue ?_));have ll:l<s.heap.objs.size:=bQ vq;have h3:A.in1.in1.in1.handled=none:=by simp[hh]
    have nI:l≠(s.heap.push (fJ led)).objs.size:=by
     rw[j3];exact cQ (BY ll)
    have nS:s.heap.objs.size∉[(s.heap.push (fJ led)).objs.size,l]:=by
     rw[j3,bE,dc,not_or];exact⟨cQ (oZ _),ue ll⟩
    refine aet (led:=led) ((Walks.list h3 _ l nI items).toS) s.heap.objs.size nS val qo hb (items.size-0) 0 _ (by omega) (dy _) ⟨⟨_,fN _ rfl,rfl,rfl⟩,(oj.push _)⟩ ?hS0 ?hR
    case hS0 =>
     have k_:((s.heap.push (fJ led)).push { cls:=.type "list_iterator",data:=.fields #[.ref l,.int 0 0] }).get? s.heap.objs.size=some (fJ led):=cJ _ pL;exact⟨[],⟨_,0,_,k_,⟨rfl,rfl,rfl⟩,rfl,λe he=>(nomatch he),by unfold scanBound;decide,rfl,fb.fresh led,rfl,rfl⟩,List.Perm.nil⟩
    case hR =>
     intro s' mv lB;obtain⟨h',g',d',lO,vY⟩:=s';obtain rfl:g'=s.gens:=mv.gens;obtain rfl:d'=s.drawn:=mv.drawn;obtain rfl:vY=s.os:=mv.os;show wpAny _ _ _ _ _ _;refine wpAny_pure ?_;show wpAny _ _ (ret pj) _ _ _;refine wpAny_pure ⟨rfl,h',lO,rfl,lB,λb o hb e=>mv.heap b o ?_ (cJ _ (cJ _ e))⟩
     rw[bE,dc,j3,not_or];exact⟨cQ hb,cQ (BY hb)⟩
   ·cases EU with
    | error e=>exact qk
    | ok C8 =>
     cases C8 with
     | ret r =>
      obtain⟨rfl,h',tk,rfl,lB,Du⟩:=qk
      repeat (any_goals (first|assumption|wp_step))
      obtain⟨es,lB,pe⟩:=lB;rw[<-YK] at lB;exact h _ _ es lB pe Du
     | _=>exact qk.elim
  | _=>exact hr.elim
end
end L2
namespace L2
open PySem PySem.Spec PyProof.Rows SeqAt
abbrev zs(ds:List Nat):List Int:=ds.map λn:Nat=>(n:Int)
theorem aiP(ds:List Nat):(zs ds).length=ds.length:=aH ..
end L2
namespace L2
open PySem PySem.Spec PyProof.Rows
end L2
namespace L2
open PySem PySem.Spec PyProof.Rows SeqAt
section
variable{X:Cx}
inductive Mq(K:aj)(xs:List V)(H:Hp)(Q:VK):Prop
 | mk:∀(a:Addr) (bs:List Bool),(xs=[.ref a])->(ai K H a (bs.map V.bl))->(Q (.bl (bs.any id)) H)->Mq K xs H Q
theorem UP(hc:X.calm=true):gi X (.builtin "any") (Mq X.K):=by
 intro pins s σ H xs us Q I r h;obtain⟨a,bs,e,hq,q⟩:=h;subst e;obtain⟨u,rfl,r1⟩:=vals1 r;obtain rfl:u=bM a:=r1;obtain⟨ao,rv,p,hz⟩:=I.list hq;have p8:a<s.heap.objs.size:=by obtain⟨o,e,_⟩:=p.isList;exact bQ e
 have hl:=rv.length;rw[aH] at hl;refine call_any_walk (wpAny_pyIter_list p.isList ⟨s.heap.objs.size,_,_,_,_,_,(λi=>bs.getD i false),rfl,Walks.list (A:=X.A.in1) (show X.A.in1.handled=none from I.ok.hd hc) _ a (cQ p8) ao.toArray,⟨⟨_,fN _ rfl,rfl,rfl⟩,p.isList.push _⟩,λi v s' Q' E' hv hQ=>?_,λh' tk hk=>?_⟩)
 ·have jr:ao[i]?=some v:=by simpa using hv
  have hi:i<bs.length:=by rw[hl];exact(iM.mp jr).1
  have hx:(bs.map V.bl)[i]?=some (V.bl (bs.getD i false)):=by
   rw[eu,cw hi];simp[gF,cw hi]
  obtain⟨u,hu,ru⟩:=rv.get hx;rw[jr] at hu
  cases hu;obtain rfl:v=wK (bs.getD i false):=ru;exact wpAny_truthy_bool hQ
 ·have es:(bJ ao.toArray.size).any (λi=>bs.getD i false)=bs.any id:=by
   rw[df,<-hl];rw[j2,B5,B5];constructor
   ·rintro⟨i,hi,z⟩
    have hi:=iq.mp hi;exact⟨_,pA hi,by simpa [gF,cw hi] using z⟩
   ·rintro⟨x,hx,z⟩
    obtain⟨i,hi,rfl⟩:=F3.mp hx;exact⟨i,iq.mpr hi,by simpa [gF,cw hi] using z⟩
  rw[es];exact⟨.bl (bs.any id),H,I.kept λb o e=>hk b o (λz=>by have:=dc.mp z;rw[this] at e;exact absurd (bQ e) (gg _)) (cJ _ e),rfl,q⟩
theorem Ux:bootBuiltins "any" = some (.builtin "any"):=by decide +kernel
theorem cy{e:Expr}{t u:TE}(h:PE X e t)(h':PE X e u):PE X e (λσ H Q=>t σ H Q\/u σ H Q):=λpins s σ H Q I q=>q.elim (λq=>h pins s σ H Q I q) (λq=>h' pins s σ H Q I q)
end
end L2
namespace L2
open PySem PySem.Spec PyProof.Rows
theorem TB{xs:List Int}{b:Nat}(h:b<xs.length):bT (aQ xs) ((b:Nat):Int)=some (V.int (xs.getD b 0)):=by
 rw[Zv h,getD_at h]
end L2
namespace L2
open PySem PySem.Spec PyProof.Rows SeqAt
end L2
namespace L2
end L2
namespace L2
open PySem PySem.Spec PyProof.Rows SeqAt
end L2
namespace L2
end L2
namespace L2
open PySem PySem.Spec PyProof.Rows SeqAt
section
variable{X:Cx}
theorem GU:∀{ao:List Value} {ns:List Int},IntsAre ao ns->Vals (aQ ns) ao
 | [],ns,h=>by
  have:=h.length
  cases ns with
  | nil=>exact .nil
  | cons a b=>simp at this
 | v::ao,ns,h=>by
  cases h with
  | cons n t r=>exact .cons ⟨t,rfl⟩ (GU r)
end
theorem Uy:bootBuiltins "sorted" = some (.builtin "sorted"):=by decide +kernel
theorem aiQ{l:List Nat}(h:l.Pairwise (· <= ·)):(zs l).Pairwise (· <= ·):=by
 unfold zs;exact ahF.mpr (h.imp λh=>by omega)
end L2
namespace L2
open PySem PySem.Spec PyProof.Rows
def Cg(i:Expr):Prop:=∀ov iv,subscripted i false ov iv=operate [ov,iv] (getItem ov iv)
theorem ae1{prog:Program}{w:World}{A:Around}{E:Value->Shared->Prop}{s:Shared}{env:Env}{value slice:Expr}{pos:Pos}{T id:String}{Q:Value->Shared->Prop}
  (hl:typeLookup (.type T) "__getitem__" = pure (some (.builtin id))) (hs:Cg slice)
  (h:wpAny (model prog w) A (eval value env) (λo br=>wpAny (model prog w) A (eval slice env) (λi aJ=>aJ.TypeIs o T/\wpAny (model prog w) A (getItem o i) Q E aJ) E br) E s) :
  wpAny (model prog w) A (eval (.Subscript value slice pos) env) Q E s:=by
 refine Subscript_ (wpAny_mono h (λo br eV=>wpAny_mono eV (λi aJ vy=>?_) λ_ _ x=>x) λ_ _ x=>x)
 obtain⟨hT,vy⟩:=vy;unfold subscriptTail;refine wpAny_bind ?_;rw[getitemInPython_of_ne hT.not_modules];refine wpAny_bind (wpAny_specialOf hT hl ?_);have fin:wpAny (model prog w) A (subscripted slice false o i) (λr fw=>wpAny (model prog w) A (letTemporaryGo value o r >>= λ_=>pure r) Q E fw) E aJ:=by
  rw[hs o i];exact wpAny_operating (wpAny_mono vy (λr fw Aw=>wpAny_bind (wpAny_letTemporaryGo (wpAny_pure Aw))) λ_ _ x=>x)
 first
  | exact wpAny_pure (wpAny_bind fin)
  | exact wpAny_bind (wpAny_pure (wpAny_bind fin))
  | exact wpAny_bind fin
end L2
namespace Att
open PySem PySem.W PySem.Calls PyProof.Rows
end Att
namespace L2
open PySem PySem.Spec PyProof.Rows
end L2
/- SE Su SG (shape;Sv,My.* are ahu):
   My.rm: a structure of wq addresses agC aht aas names (classes,Wo);My.Txt K t: a structure (Prop) of wq equations over K;
   My.agL:{K} {implicit addresses ..} (e1:nsIn K mainGlobals "law" = some (some (.ref f))) (e2:K.lookup f=some ⟨oc,od,.func (fnOf "law" "law" params body scope dV kV doc pm an bY ct),sl⟩) (e3:codeIn K bY "law" = true) .. : ∃t,My.Txt K t
(wq tactic k_is has no namespace: write k_is) -/
namespace L2
open PySem PySem.Spec PyProof.Rows
end L2
namespace L2
open PySem PySem.Spec PyProof.Rows SeqAt
section
variable{prog:Program}{w:World}{A:Around}{E:Value->Shared->Prop}{s:Shared}
theorem Vh{T:String}{r d:Addr}{n:Nat}{P:Nat->Value->Prop}{OK:Heap->Prop}{R:List Value->Shared->Prop}(K:W.KdlSrc prog w T r d n P OK)(hh:A.handled=none)(ok:OK s.heap)(hn:n<=sizeLine)
  (q:∀(h':Heap) (tk:Nat) (acc:Array Value),(∀b o,s.heap.get? b=some o->h'.get? b=some o)->s.heap.objs.size<=h'.objs.size->ItemsOf P acc n->R acc.toList { s with heap:=h',toks:=tk }) :
  wpAny (model prog w) A (collect (.ref r)) R E s:=by
 obtain⟨t1,t2⟩:=K.there _ ok;have hg:(s.heap.push { cls:=.type "list",data:=.seq #[] }).get? s.heap.objs.size=some { cls:=.type "list",data:=.seq #[] }:=fN _ rfl;refine wpAny_bind (wpAny_runValue (codeAny_builtin entry_proto_collect' ?_));rw[Around.under_plainId F.plain_proto_collect _];show wpAny _ A.in1 (newList [] >>= _) _ _ s;refine wpAny_bind (wpAny_newList ?_ (by simp))
 refine wpAny_pure ⟨plainId_quiet F.plain_list_iadd _,codeAny_builtin entry_list_iadd' ?_⟩;rw[Around.under_plainId F.plain_list_iadd _];show wpAny _ A.in1 (slotArgs "__iadd__" 1 ⟨[.ref s.heap.objs.size,.ref r],[]⟩ >>= _) _ _ _;refine wpAny_bind (wpAny_of_eq (show slotArgs "__iadd__" 1 ⟨[.ref s.heap.objs.size,.ref r],[]⟩=pure (.ref s.heap.objs.size,[.ref r]) from rfl) ?_)
 refine W.kdl_extend (R:=λr s'=>match r with
  | .ok (.ret v)=>wpAny (model prog w) A (match v with
   | bM a=>do
    let o <-load a
    match o.data with
    | Data.seq xs _=>pure xs.toList
    | _=>unsupported "internal:collect"
   | _=>unsupported "internal:collect") R E s'
  | .ok _=>False
  | .error e=>E e s') (s:={ s with heap:=s.heap.push { cls:=.type "list",data:=.seq #[] } }) K hh (K.keep _ _ ok λb _ o e=>cJ _ e) s.heap.objs.size (ue t1) (ue t2) (.ref s.heap.objs.size) 0 hg (λh' tk acc c kp h1 it=>?_) hn
 refine wpAny_bind (wpAny_load h1 (wpAny_pure (q h' tk acc (λb o e=>?_) (ud (bQ h1)) it)))
 exact kp b o (cQ (bQ e)) (cJ _ e)
end
section
variable{X:Cx}
variable{p pos kp:Pos}{e e2:Expr}{t tk:TA}
end
end L2
namespace L2
open PySem PySem.Spec PyProof.Rows
theorem Bl:Slot "set_iterator" "__next__" "set_iterator.__next__" :=
 Slot.of (owner:="set_iterator") (n:="__next__") (by rw[typeLookup_type,builtinLookup_eq_fast];kernel_rfl) (by decide +kernel) (by decide +kernel) (by decide +kernel) (by first|exact .inl (by decide +kernel)|exact .inr (by decide +kernel)) (by rw[isSubtype_type];kernel_rfl)
theorem VZ:entryFor table "set_iterator.__next__" = some Builtin.«set_iterator.__next__» := entryFor_of_tree (by kernel_rfl)
theorem LJ:Manifest.owners.lookup (String.ofList ['r','o','t','a','r','e','t','i','_','t','e','s'].reverse)=some Manifest.sig_set_iterator:=by kernel_rfl
theorem Tw(a:Value):argsOk "set_iterator.__next__" ⟨[a],[]⟩:=by
 unfold argsOk;rw[signature?_of (id:="set_iterator.__next__") (n:=['_','_','t','x','e','n','_','_']) (o:=['r','o','t','a','r','e','t','i','_','t','e','s']) (by kernel_rfl) LJ];kernel_rfl
theorem Ow:Slot "set_iterator" "__iter__" "set_iterator.__iter__" :=
 Slot.of (owner:="set_iterator") (n:="__iter__") (by rw[typeLookup_type,builtinLookup_eq_fast];kernel_rfl) (by decide +kernel) (by decide +kernel) (by decide +kernel) (by first|exact .inl (by decide +kernel)|exact .inr (by decide +kernel)) (by rw[isSubtype_type];kernel_rfl)
theorem VY:entryFor table "set_iterator.__iter__" = some Builtin.«dict_keyiterator.__iter__» :=
 entryFor_alias (id':="dict_keyiterator.__iter__") (by kernel_rfl) rfl (by decide +kernel) (by kernel_rfl)
theorem Tv(a:Value):argsOk "set_iterator.__iter__" ⟨[a],[]⟩:=by
 unfold argsOk;rw[signature?_of (id:="set_iterator.__iter__") (n:=['_','_','r','e','t','i','_','_']) (o:=['r','o','t','a','r','e','t','i','_','t','e','s']) (by kernel_rfl) LJ];kernel_rfl
theorem VX:entryFor table "set.__iter__" = some Builtin.«frozenset.__iter__» :=
 entryFor_alias (id':="frozenset.__iter__") (by kernel_rfl) rfl (by decide +kernel) (by kernel_rfl)
theorem adp{α:Type}(next:Nat->Nat):∀(fuel k:Nat) (left:List α) (out:Array α),left.length=fuel->(pickOrder.go next fuel k left out).toList.Perm (out.toList++left):=by
 intro fuel
 induction fuel with
 | zero =>
  intro k left out h;rw[GA.mp h,eY];exact R_ _
 | succ fuel ih =>
  intro k left out h;have cU:next k%left.length<left.length:=Nat.mod_lt _ (by omega)
  unfold pickOrder.go;rw[cw cU]
  try dsimp only
  refine(ih (k+1) (left.eraseIdx (next k%left.length)) _ (by rw[List.length_eraseIdx_of_lt cU];omega)).trans ?_
  rw[RD,kW];refine List.Perm.append_left _ ?_;show (left[next k%left.length]::left.eraseIdx (next k%left.length)).Perm left;generalize next k%left.length=j at cU ⊢;rw[List.eraseIdx_eq_take_drop_succ];have e:left=left.take j++left[j]::left.drop (j+1):=by rw[<-Sb cU,ahI]
  refine List.perm_middle.symm.trans ?_;rw[<-e]
theorem adq{α:Type}(next:Nat->Nat)(xs:Array α):(pickOrder next xs).toList.Perm xs.toList:=by
 unfold pickOrder;have:=adp next xs.size 0 xs.toList #[] (by simp)
 simpa using this
def jC(h:Heap)(a:Addr)(es:List (Int×Value))(ep:Nat)(t:SetTable):Prop:=∃o,h.get? a=some o/\o.ExactSet/\o.data=.set es.toArray ep t
def l9(h:Heap)(I a:Addr)(slot i n ep:Nat):Prop:=∃o,h.get? I=some o/\o.cls=.type "set_iterator" /\ o.data=.fields #[.int slot 0,.int i 0,.ref a,.int n 0,.int ep 0]
def jb(w:World)(a:Addr)(ep:Nat)(es:List (Int×Value)):List Value :=
 if w.params.followText "set-order" then (pickOrder (w.params.setOrder a ep) es.toArray).toList.map (·.2) else es.map (·.2)
theorem Rq(w:World)(a:Addr)(ep:Nat)(es:List (Int×Value)):(jb w a ep es).Perm (es.map (·.2)):=by
 unfold jb
 split
 ·exact(by simpa using adq (w.params.setOrder a ep) es.toArray:(pickOrder (w.params.setOrder a ep) es.toArray).toList.Perm es).map _
 ·exact R_ _
theorem FP(w:World)(a:Addr)(ep:Nat)(es:List (Int×Value)):(jb w a ep es).length=es.length:=by rw[(Rq w a ep es).length_eq,aH]
structure m9(w:World)(es:List (Int×Value))(t:SetTable):Prop where
 fits:t.fits es.length=true
 rise:jd t.place
 led:w.params.followText "set-order" = false->t.led=true/\t.plain=true
theorem jC.type{s:Shared}{a:Addr}{es ep t}(h:jC s.heap a es ep t):s.TypeIs (.ref a) "set" := let ⟨o,ho,hx,_⟩:=h;⟨o,ho,hx.1⟩
theorem l9.type{s:Shared}{I a:Addr}{sl i n ep}(h:l9 s.heap I a sl i n ep):s.TypeIs (.ref I) "set_iterator" := let ⟨o,ho,hx,_⟩:=h;⟨o,ho,hx⟩
theorem jC.at'{h h':Heap}{a:Addr}{es ep t}(x:jC h a es ep t)(e:∀o,h.get? a=some o->h'.get? a=some o):jC h' a es ep t:=let ⟨o,ho,r⟩:=x;⟨o,e _ ho,r⟩
theorem l9.at'{h h':Heap}{I a:Addr}{sl i n ep}(x:l9 h I a sl i n ep)(e:∀o,h.get? I=some o->h'.get? I=some o):l9 h' I a sl i n ep:=let ⟨o,ho,r⟩:=x;⟨o,e _ ho,r⟩
section
variable{prog:Program}{w:World}{A:Around}{E:Value->Shared->Prop}{s:Shared}{a I:Addr}{es:List (Int×Value)}{ep:Nat}{t:SetTable}
theorem VF(T:m9 w es t){Q:Bool->Shared->Prop}(hs:jC s.heap a es ep t)(h:Q false s):wpAny (model prog w) A (setDrawn a) Q E s:=by
 obtain⟨o,ho,hx,hd⟩:=hs;unfold setDrawn;refine wpAny_bind (wpAny_setState_of ho hd (by rw[df];exact T.fits) ?_)
 try dsimp only
 unfold setsByText;refine wpAny_bind (wpAny_bind (wpAny_askSetting (wpAny_pure ?_)));refine wpAny_pure ?_
 cases e:w.params.followText "set-order" with
 | true =>
  show Q (!(w.params.followText "set-order")&&_) s;rw[e];exact h
 | false =>
  have hp:=(T.led e).2;show Q (!(w.params.followText "set-order")&&(!t.plain&&_)) s;rw[e,hp];exact h
theorem ZH(T:m9 w es t){Q:Value->Shared->Prop}(hs:jC s.heap a es ep t)(h:Q (.ref s.heap.objs.size) { s with heap:=s.heap.push { cls:=.type "set_iterator",data:=.fields #[.int ((0:Nat):Int) 0,.int ((0:Nat):Int) 0,.ref a,.int es.length 0,.int ep 0] } }) :
  wpAny (model prog w) A (pyIter (.ref a)) Q E s:=by
 obtain⟨o,ho,hx,hd⟩:=id hs;refine wpAny_pyIter_slot hs.type ah2 (wpAny_call_entry ah2 hs.type VX ?_ (PySem.F.args_set_iter_1 _));unfold Builtin.«frozenset.__iter__» Builtin.Frozenset.slot0;refine wpAny_bind (wpAny_bind (wpAny_of_eq (show slotArgs "__iter__" 0 ⟨[.ref a],[]⟩=pure (.ref a,[]) from rfl) ?_))
 refine wpAny_pure ?_;unfold Builtin.Frozenset.sizeOf;refine wpAny_bind (wpAny_bind (wpAny_setEntries_of ho hd (by rw[df];exact T.fits) (wpAny_pure ?_)))
 refine wpAny_bind (VF T hs ?_);rw[if_neg eo];refine wpAny_bind (wpAny_pure ?_);refine wpAny_bind (wpAny_setEpoch_of ho hd (by rw[df];exact T.fits) ?_)
 unfold newFields;refine wpAny_bind (wpAny_newObj_type (wpAny_pure ⟨_,rfl,"set_iterator",_,⟨_,fN _ rfl,rfl⟩,Bl.lookup,?_⟩))
 simpa [rawInt] using h
theorem abd(T:m9 w es t){Q:Option (Value×Nat)->Shared->Prop}{sl i:Nat}(hs:jC s.heap a es ep t)(hb:w.params.followText "set-order" = false->SetTable.below t.place sl=i)
  (h1:∀(x:Value) (fK:Nat),(jb w a ep es)[i]?=some x->(w.params.followText "set-order" = false->SetTable.below t.place fK=i+1)->Q (some (x,fK)) s)
  (h2:(jb w a ep es)[i]?=none->Q none s):wpAny (model prog w) A (setNext a sl i ep) Q E s:=by
 obtain⟨o,ho,hx,hd⟩:=id hs;have hf:t.fits es.toArray.size=true:=by rw[df];exact T.fits
 unfold setNext;refine wpAny_bind (wpAny_setState_of ho hd hf ?_)
 try dsimp only
 unfold setsByText;refine wpAny_bind (wpAny_bind (wpAny_askSetting (wpAny_pure ?_)))
 try dsimp only
 cases e:w.params.followText "set-order" with
 | true =>
  rw[show (model prog w).w=w from rfl,e]
  simp only[bne_self_eq_false,RN,if_false,if_true];refine wpAny_bind ?_;unfold setWalk;refine wpAny_bind (wpAny_setState_of ho hd hf ?_)
  try dsimp only
  unfold setsByText;refine wpAny_bind (wpAny_bind (wpAny_askSetting (wpAny_pure ?_)))
  try dsimp only
  rw[show (model prog w).w=w from rfl,e]
  simp only[if_true];refine wpAny_bind (wpAny_askSetting (wpAny_pure (wpAny_pure ?_)));have ew:jb w a ep es=(pickOrder (w.params.setOrder a ep) es.toArray).toList.map (·.2):=by unfold jb;rw[if_pos e]
  rw[ew,eu,ait] at h1 h2;show Q (((pickOrder (w.params.setOrder a ep) es.toArray)[i]?).map λe=>(e.2,sl)) s
  cases hg:(pickOrder (w.params.setOrder a ep) es.toArray)[i]? with
  | none=>rw[hg] at h2;exact h2 rfl
  | some y=>rw[hg] at h1;exact h1 y.2 sl rfl (λz=>by rw[e] at z;cases z)
 | false =>
  have ⟨hl,hp⟩:=T.led e;have hb:=hb e;rw[show (model prog w).w=w from rfl,e]
  simp only[RN,if_false];refine wpAny_ite_split (λoh=>?_) (λ_=>?_)
  ·have oh:(!t.plain&&_)=true:=oh
   rw[hp] at oh
   cases oh
  refine wpAny_bind ?_;show wpAny _ _ (if (!t.led&&!es.toArray.isEmpty)=true then _ else _) _ _ s
  rw[hl,if_neg (by rw[Bool.not_true,o_];decide)]
  refine wpAny_pure (wpAny_pure ?_);have ew:jb w a ep es=es.map (·.2):=by unfold jb;rw[if_neg (by rw[e];decide)]
  rw[ew,eu] at h1 h2;have eM:t.place.size=es.length:=by
   have:=T.fits;unfold SetTable.fits at this;rw[de,beq_iff_eq] at this;exact this.1
  rw[hb]
  cases hg:es[i]? with
  | none =>
   rw[hg] at h2;have:es.toArray[i]?=none:=by rw[aiI];exact hg
   rw[this];exact h2 rfl
  | some y =>
   rw[hg] at h1;have hi:i<es.length:=(iM.mp hg).1;have e1:es.toArray[i]?=some y:=by rw[aiI];exact hg
   have e2:t.place[i]?=some (t.place[i]'(by omega)):=Ge (by omega)
   rw[e1,e2];exact h1 y.2 (t.place[i]'(by omega)+1) rfl λ_=>Ui T.rise (by omega)
theorem Mn{Q:Option Value->Shared->Prop}(T:m9 w es t){sl i:Nat}(hh:A.handled=none)(hs:jC s.heap a es ep t)(hI:l9 s.heap I a sl i es.length ep)(hb:w.params.followText "set-order" = false->SetTable.below t.place sl=i)
  (h1:∀(x:Value) (fK:Nat) (h':Heap),(jb w a ep es)[i]?=some x->(w.params.followText "set-order" = false->SetTable.below t.place fK=i+1)->l9 h' I a fK (i+1) es.length ep->ra I s.heap h'->Q (some x) { s with heap:=h' })
  (h2:(jb w a ep es)[i]?=none->∀h',Heap.ExtBut I s.heap h'->Q none { s with heap:=h' }):wpAny (model prog w) A (pyNext (.ref I)) Q E s:=by
 obtain⟨oa,YW,hxa,Yw⟩:=id hs;obtain⟨o,ho,hc,hd⟩:=id hI;have hf:t.fits es.toArray.size=true:=by rw[df];exact T.fits
 unfold pyNext;refine wpAny_bind (wpAny_attempt (wpAny_callSpecial?_slot (name:=zalias233z "__next__") hI.type Bl (wpAny_call_entry Bl hI.type VZ ?_ (Tw _))));unfold Builtin.«set_iterator.__next__»;refine wpAny_bind (wpAny_of_eq (show slotArgs "__next__" 0 ⟨[.ref I],[]⟩=pure (.ref I,[]) from rfl) ?_)
 refine wpAny_bind (wpAny_fieldsOf ho hd ?_)
 try dsimp only
 refine wpAny_bind (wpAny_setEntries_of YW Yw hf ?_);rw[df,if_neg (by simp)]
 rw[dz,dz,dz];refine wpAny_bind (abd T hs hb (λx fK hw u_=>?_) λhw=>?_)
 ·try dsimp only
  refine wpAny_bind (wpAny_setField ho hd (by simp) ?_)
  have Dq:(Obj.mapFields (·.setIfInBounds 0 (rawInt (fK:Int))) o).data=.fields #[.int fK 0,.int i 0,.ref a,.int es.length 0,.int ep 0]:=by rw[Obj.data_mapFields hd];simp[rawInt]
  have vp:=uj (Obj.mapFields (·.setIfInBounds 0 (rawInt (fK:Int)))) ho (Obj.isFreed_of_fields (Obj.data_mapFields hd _))
  refine wpAny_bind (wpAny_setField vp Dq (by simp) ?_)
  have Dh:l9 ((s.heap.update I (Obj.mapFields (·.setIfInBounds 0 (rawInt (fK:Int))))).update I (Obj.mapFields (·.setIfInBounds 1 (rawInt ((i:Int)+1))))) I a fK (i+1) es.length ep :=
   ⟨_,uj _ vp (Obj.isFreed_of_fields (Obj.data_mapFields Dq _)),(Obj.cls_mapFields ..).trans ((Obj.cls_mapFields ..).trans hc),by rw[Obj.data_mapFields Dq];simp[rawInt]⟩
  exact wpAny_pure ⟨_,rfl,wpAny_pure (h1 x fK _ hw u_ Dh ((B0 ..).trans (B0 ..)))⟩
 ·try dsimp only
  refine wpAny_bind (wpAny_setField ho hd (by simp) ?_)
  refine wpAny_bind ?_;simp only[newExc,newTuple];refine wpAny_bind (wpAny_newObj_type ?_ (by size_fits))
  refine wpAny_bind (m:=firstArgMember _ _) (wpAny_of_eq (a:=pj) (by first|rfl|(simp only[firstArgMember];rfl)) ?_)
  refine wpAny_newObj_type ?_ (by size_fits)
  simp only[raiseNew];refine wpAny_bind (wpAny_handled ?_);rw[show A.in1.handled=none from hh]
  refine wpAny_bind (wpAny_pure (wpAny_throw ?_));refine wpAny_bind (wpAny_isInstance (T:="StopIteration") (b:=true) ⟨_,fN _ rfl,rfl⟩ isSubtype_stop ?_);exact wpAny_pure (h2 hw _ (((B0 ..).extBut.push _).push _))
theorem agY(T:m9 w es t)(hh:A.handled=none)(I a:Addr)(qi:a≠I) :
  Walks prog w A I [I,a] [I] es.length (λi v=>(jb w a ep es)[i]?=some v) (λi h=>∃sl,l9 h I a sl i es.length ep/\(w.params.followText "set-order" = false->SetTable.below t.place sl=i)/\jC h a es ep t) where
 sub:=λb hb=>by simp at hb;simp[hb]
 frame:=λi h h' ⟨sl,h1,h2,h3⟩ hk=>⟨sl,h1.at' λo e=>hk I (by simp) o e,h2,h3.at' λo e=>hk a (by simp) o e⟩
 item:=λi s Q E hi ⟨sl,h1,h2,h3⟩ hQ=>by
  refine Mn T hh h3 h1 h2 (λx fK h' hw hb Dh JV=>?_) λhw=>?_
  ·exact hQ x h' s.toks hw ⟨fK,Dh,hb,h3.at' λo e=>JV.extBut a o qi e⟩ λb o hb e=>JV.extBut b o (λh=>hb (by simp[h])) e
  ·rw[List.getElem?_eq_none_iff,FP] at hw
   omega
 done:=λs Q E ⟨sl,h1,h2,h3⟩ hQ=>by
  refine Mn T hh h3 h1 h2 (λx fK h' hw _ _ _=>?_) λhw h' vg=>hQ h' s.toks λb o hb e=>vg b o (λh=>hb (by simp[h])) e
  have:=(iM.mp hw).1;rw[FP] at this;omega
 self:=λi s Q E ⟨sl,h1,h2,h3⟩ hQ=>by
  refine wpAny_pyIter_slot h1.type Ow (wpAny_call_entry Ow h1.type VY ?_ (Tv _));show wpAny _ _ (ret (.ref I)) _ _ s;exact wpAny_pure ⟨_,rfl,"set_iterator",_,h1.type,Bl.lookup,hQ⟩
theorem YF{Q:Bool->Shared->Prop}{r:Addr}(hT:s.TypeIs (.ref r) "set")(h:Q false s):wpAny (model prog w) A (Builtin.List.listLengthHint (.ref r)) Q E s:=by
 unfold Builtin.List.listLengthHint;refine wpAny_bind (wpAny_specialOf hT PySem.F.slot_set_len.lookup ?_);generalize JK:("set.__len__" : String)=Zk
 wp_delta
 rw[show splitId Zk=some ("set","__len__") from by subst JK;decide +kernel]
 subst JK;refine wpAny_bind (wpAny_isInstance (T:="set") (b:=true) hT (by rw[isSubtype_type];kernel_rfl) ?_)
 refine wpAny_ite_split (λoh=>absurd oh (by decide)) (λ_=>?_)
 refine wpAny_ite_split (λ_=>?_) (λoh=>absurd (by decide +kernel) oh)
 refine wpAny_bind (wpAny_typeOf hT ?_);exact wpAny_pure h
theorem Z7(T:m9 w es t):W.KdlSrc prog w "set" a a es.length (λi v=>(jb w a ep es)[i]?=some v) (λh=>jC h a es ep t) where
 type:=λ_ hm=>hm.type
 there:=λ_ ⟨_,ho,_⟩=>⟨bQ ho,bQ ho⟩
 keep:=λ_ _ hm hk=>hm.at' λo e=>hk a (.inl rfl) o e
 notList:=by decide
 notTuple:=by decide
 hint:=λ_ _ _ _ hm hq=>YF hm.type hq
 iter:=λ_ s hh hm=>⟨_,_,(λ_ _ hq=>ZH T hm hq),agY T hh _ a (cQ (let ⟨_,ho,_⟩:=hm;bQ ho)),
  ⟨0,⟨_,fN _ rfl,rfl,rfl⟩,λ_=>Uj T.rise,hm.at' λo e=>cJ _ e⟩⟩
end
def tS(S:List Nat):Array (Int×Value)×SetTable :=
 (S.toArray.map λ(k:Nat)=>((k:Int),wL (k:Int) 0),{ mask:=if S.length<5 then 7 else 31,place:=S.toArray,dummies:=#[],finger:=0,led:=true,moves:=if S.length<5 then 0 else 1,plain:=true })
def wj:Nat->List (List Nat)
 | 0=>[[]]
 | n+1=>wj n++(wj n).map (· ++ [n])
theorem E5(g:Nat->Bool):∀n,(bJ n).filter g∈wj n
 | 0=>by rw[List.range_zero,List.filter_nil];exact dc.mpr rfl
 | n+1=>by
  rw[BW,aiC];unfold wj;rw[dH]
  cases e:g n with
  | true=>exact .inr (bR.mpr ⟨_,E5 g n,by simp[e]⟩)
  | false=>exact .inl (by simpa [e] using E5 g n)
def Ay(S:List Nat)(k:Nat):List Nat:=(bJ 6).filter λx=>x==k||S.contains x
def K6(S:List Nat)(k:Nat):Bool :=
 S.contains k||(decide ((j9 (tS S) (k:Int)).2=(tS (Ay S k)).2)&&decide ((j9 (tS S) (k:Int)).1.toList.map (·.1)=(tS (Ay S k)).1.toList.map (·.1)))
theorem abK:((wj 6).all λS=>(bJ 6).all λk=>K6 S k)=true:=by decide +kernel
theorem Ti{p p':Array (Int×Value)×SetTable}(h1:gH p.1 p'.1)(h2:p.2=p'.2)(k:Int):gH (j9 p k).1 (j9 p' k).1/\(j9 p k).2=(j9 p' k).2:=by
 obtain⟨es,t⟩:=p;obtain⟨bD,t'⟩:=p'
 try dsimp only at h1 h2
 subst h2;have sl:=Ku (t:=t) h1 (hashInt k) (.int k 0) (.int k 0);unfold j9
 try dsimp only
 generalize layNew t es (hashInt k) (.int k 0)=L at sl ⊢;generalize layNew t bD (hashInt k) (.int k 0)=L' at sl ⊢;obtain⟨a,b⟩:=L;obtain⟨a',b'⟩:=L'
 try dsimp only at sl ⊢
 obtain⟨s1,rfl⟩:=sl
 split
 ·rw[s1.size]
  have sr:=MA (t:=b.1) s1 (SetTable.grown a'.size);exact⟨sr.1,by dsimp only;rw[sr.2]⟩
 ·exact⟨s1,rfl⟩
theorem aaU:∀(n:Nat) (l:List Int),l.length=n->l.Nodup->(∀x∈l,0<=x/\x<6)->gH (d3 true l).1 (tS ((bJ 6).filter λ(x:Nat)=>decide ((x:Int)∈l))).1/\(d3 true l).2=(tS ((bJ 6).filter λ(x:Nat)=>decide ((x:Int)∈l))).2:=by
 intro n
 induction n with
 | zero =>
  intro l hl _ _;rw[GA.mp hl];have:((bJ 6).filter λ(x:Nat)=>decide ((x:Int)∈([]:List Int)))=[]:=by decide
  rw[this];exact⟨(show Array.map (·.1) (#[]:Array (Int×Value))=_ from by decide +kernel),rfl⟩
 | succ n ih =>
  intro l hl nd hb;obtain⟨l',k,rfl⟩:∃l' k,l=l'++[k]:=by
   rcases List.eq_nil_or_concat l with h|⟨l',k,h⟩
   ·rw[h] at hl;cases hl
   ·exact⟨l',k,by rw[h,List.concat_eq_append]⟩
  have vn:l'.length=n:=by simpa using hl
  obtain⟨nd1,_,nd2⟩:=ahB.mp nd;have hk:k∉l':=λh=>nd2 k h k (by simp) rfl
  obtain⟨i1,i2⟩:=ih l' vn nd1 λx hx=>hb x (by simp[hx])
  obtain⟨k0,k6⟩:=hb k (by simp)
  obtain⟨m,rfl⟩:=jA k0;have hS:=E5 (λ(x:Nat)=>decide ((x:Int)∈l')) 6
  have ok:=e_.mp (e_.mp abK _ hS) m (iq.mpr (by omega))
  have nc:((bJ 6).filter λ(x:Nat)=>decide ((x:Int)∈l')).contains m=false:=by
   rw[RJ];intro h;rw[aiA,oW] at h;exact hk (by simpa using h.2)
  unfold K6 at ok;rw[nc,Bool.false_or,de,decide_eq_true_eq,decide_eq_true_eq] at ok;have ei:Ay ((bJ 6).filter λ(x:Nat)=>decide ((x:Int)∈l')) m=(bJ 6).filter λ(x:Nat)=>decide ((x:Int)∈l'++[(m:Int)]):=by
   unfold Ay;refine List.filter_congr λx hx=>?_
   rw[j2];simp only[ah9,beq_iff_eq,aiA,oW,hx,true_and,decide_eq_true_eq,dH,dc];constructor
   ·rintro(h|h)
    ·exact .inr (by rw[h])
    ·exact .inl h
   ·rintro(h|h)
    ·exact .inr h
    ·exact .inl (R5 h)
  rw[DU,<-ei];obtain⟨a1,a2⟩:=Ti i1 i2 (m:Int);exact⟨a1.trans (by
   have:=ok.2;apply GB.mp;rw[RA,RA];exact this),a2.trans ok.1⟩
theorem aaV{l:List Int}(nd:l.Nodup)(hb:∀x∈l,0<=x/\x<6):(d3 true l).2.plain=true:=by
 rw[(aaU l.length l rfl nd hb).2];rfl
section
variable{X:Cx}
def Bk(P:Program)(w:World)(p:Addr)(l:List Int):HO:=.ext λh=>∃es ep t,jC h p es ep t/\m9 w es t/\ElemsOf (intKind P w) es/\(es.map i5).Perm l
theorem DR{κ:Type}[DecidableEq κ](val:Nat->κ):∀i,(bO val i).Nodup
 | 0=>List.nodup_nil
 | i+1=>by
  show (ip (bO val i) (val i)).Nodup;unfold ip
  split
  ·exact DR val i
  ·next h=>exact ahB.mpr ⟨DR val i,by simp,λa ha b hb e=>h (by rw[dc] at hb;rw[<-hb,<-e];exact ha)⟩
theorem UW(hc:X.calm=true):gi X (.type "set") (λxs H Q=>∃(a:Addr) (ns:List Int),xs=[.ref a]/\ai X.K H a (aQ ns)/\ns.length<=1000/\(∀x∈ns,0<=x/\x<6)/\∀l:List Int,l.Nodup->(∀x,x∈l↔x∈ns)->∀p,H p=none->Q (.ref p) (upd H p (Bk X.prog X.w p l))):=by
 intro pins s σ H xs us Q I r h;obtain⟨a,ns,e,hq,hl,hb,q⟩:=h;subst e;obtain⟨u,rfl,r1⟩:=vals1 r;obtain rfl:u=bM a:=r1;obtain⟨ao,rv,p,hz⟩:=I.list hq;have len:=rv.length;rw[ig] at len;refine aer (val:=λi=>ns.getD i 0) (I.ok.hd hc) p.isList (λi v hv=>?_) (by rw[df,<-len];unfold scanBound;omega) λh' tk es hS pe hk=>?_
 ·have jr:ao[i]?=some v:=by simpa using hv
  have hi:i<ns.length:=by rw[len];exact(iM.mp jr).1
  have hx:(aQ ns)[i]?=some (V.int (ns.getD i 0)):=by
   rw[eu,cw hi];simp[gF,cw hi]
  obtain⟨u,hu,ru⟩:=rv.get hx;rw[jr] at hu
  cases hu;exact ru
 ·have V6:ao.toArray.size=ns.length:=by rw[df,len]
  rw[V6] at hS pe;have nd:=DR (λi=>ns.getD i 0) ns.length
  have hm:∀x,x∈bO (λi=>ns.getD i 0) ns.length↔x∈ns:=λx=>by
   rw[DQ];constructor
   ·rintro⟨j,hj,e⟩
    rw[<-e,gF,cw hj];exact pA hj
   ·intro h
    obtain⟨j,hj,e⟩:=List.getElem_of_mem h;exact⟨j,hj,by rw[gF,cw hj];exact e⟩
  generalize bO (λi=>ns.getD i 0) ns.length=l at hS pe nd hm
  obtain⟨o,ep,t,ho,hex,hd,jo,hsb,hf,T,sh,st⟩:=hS;have W1:m9 X.w es t:=⟨hf,T.rise,λe=>by
   have hl:t.led=true:=by rw[T.led,e];rfl
   refine⟨hl,?_⟩;rw[st,e];exact aaV nd λx hx=>hb x ((hm x).mp hx)⟩
  have I1:Inv X pins σ H { s with heap:=h',toks:=tk }:=I.kept λb o e=>hk b o (bQ e) e
  have I2:=I1.Bu (o:=Bk X.prog X.w s.heap.objs.size l) (I.mj (bH _) (I.aS.fresh (bH _))) ⟨⟨es,ep,t,⟨o,ho,hex,hd⟩,W1,jo,pe⟩,⟨o,ho⟩,λh1 h2 ⟨es,ep,t,h3,h4⟩ k=>⟨es,ep,t,h3.at' k,h4⟩⟩
  exact⟨.ref s.heap.objs.size,_,I2,rfl,q l nd hm _ (I.aS.fresh (bH _))⟩
theorem Zw:∀{xs ys:List Value} {l:List Int},xs.Perm ys->IntsAre ys l->∃l',IntsAre xs l'/\l'.Perm l:=by
 intro xs ys l h
 induction h generalizing l with
 | nil=>intro h;cases h;exact⟨[],.nil,.nil⟩
 | cons x _ ih =>
  intro h
  cases h with
  | cons n t r =>
   obtain⟨l',h1,h2⟩:=ih r;exact⟨n::l',.cons n t h1,h2.cons _⟩
 | swap x y _ =>
  intro h
  cases h with
  | cons n t r =>
   cases r with
   | cons m u r=>exact⟨m::n::_,.cons m u (.cons n t r),.swap ..⟩
 | trans _ _ Zn Zo =>
  intro h;obtain⟨l1,h1,p1⟩:=Zo h;obtain⟨l2,h2,p2⟩:=Zn h1;exact⟨l2,h2,p2.trans p1⟩
theorem HV{P:Program}{w:World}:∀{es:List (Int×Value)},ElemsOf (intKind P w) es->IntsAre (es.map (·.2)) (es.map i5)
 | [],_=>.nil
 | e::es,h=>by
  obtain⟨t,ht⟩:=key_is h cB;rw[jc,jc,ht];exact .cons _ t (HV λx hx=>h x (cP _ hx))
theorem UY(hc:X.calm=true):gi X (.builtin "sorted") (λxs H Q=>∃(a:Addr) (l:List Int),xs=[.ref a]/\H a=some (Bk X.prog X.w a l)/\l.length<64/\∀qC:List Int,qC.Perm l->qC.Pairwise (· <= ·)->∀p,H p=none->Q (.ref p) (upd H p (.lst (aQ qC)))):=by
 intro pins s σ H xs us Q I r h;obtain⟨a,l,e,hq,h64,q⟩:=h;subst e;obtain⟨u,rfl,r1⟩:=vals1 r;obtain rfl:u=bM a:=r1;obtain⟨⟨es,ep,t,hS,T,jo,pe⟩,_⟩:=I.aS a _ hq;have el:es.length=l.length:=by rw[<-pe.length_eq,aH]
 refine Calls.call_function_entry kind_sorted plain_sorted entry_sorted (args_sorted1 _) ?_;show wpAny _ X.A.in1 (checkCount "sorted" 1 1 1 >>= _) _ _ s;refine wpAny_bind (wpAny_pure ?_);refine wpAny_bind (Vh (A:=X.A.in1) (Z7 (ep:=ep) T) (I.ok.hd hc) hS (by rw[sizeLine_eq];omega) λh' tk acc kp eM it=>?_)
 have ea:acc.toList=jb X.w a ep es:=by
  refine List.ext_getElem? λj=>?_
  by_cases hj:j<es.length
  ·have h1:j<acc.size:=by rw[it.1];exact hj
   have:=it.2 j acc[j] (Ge h1);rw[this,ait,Ge h1]
  ·rw[aiG (by rw[gE,it.1];omega),aiG (by rw[FP];omega)]
 obtain⟨l1,hi,p1⟩:=Zw (Rq X.w a ep es) (HV jo);rw[<-ea] at hi;have al:acc.toList.length=l.length:=by rw[gE,it.1,el]
 have l1l:l1.length=l.length:=(p1.trans pe).length_eq;refine wpAny_bind (wpAny_newList ?_ (by rw[sizeLine_eq];omega))
 have hg:(h'.push { cls:=.type "list",data:=.seq acc.toList.toArray }).get? h'.objs.size=some (seqObj "list" acc.toList.toArray 0):=fN _ rfl;refine wpAny_bind (wpAny_holding (wpAny_call_entry slot_list_sort ⟨_,hg,rfl⟩ entry_list_sort ?_ (args_list_sort _)));refine list_sort_tree (s:={ s with heap:=h'.push { cls:=.type "list",data:=.seq acc.toList.toArray },toks:=tk }) hg hi (by omega) λout qC a1 a2 a3=>?_
 refine⟨_,rfl,wpAny_pure ⟨_,rfl,?_⟩⟩;obtain⟨c,hc⟩:=sortedHeap_at (out:=out) hg;have hv:=GU a1;refine⟨.ref _,upd H _ (.lst (aQ qC)),I.laid (t':=tk) (λb o e=>?_) eM (show dN X.prog X.w _ _ _ (.lst (aQ qC)) from ⟨?_,out.toList,c,hv,by rw[Gz];exact hc⟩),rfl,q qC (a2.trans (p1.trans pe)) a3 _ (I.aS.fresh eM)⟩
 ·have hb:=bQ (kp b o e)
  rw[sortedHeap_old (cQ hb) (by rw[size_push'];exact BY hb)]
  exact cJ _ (kp b o e)
 ·rw[ig,a2.length_eq,l1l];exact ud (kL (by omega))
end
end L2
namespace L2
open PySem PySem.Spec PyProof.Rows SeqAt
inductive dA where
 | no
 | yes (t:Bool) (ws:List Int)
def kindS:Bool->Str
 | true=>"trap"
 | false=>"weight"
def hX(H:Hp)(v:V):dA->Prop
 | .no=>v=.aR
 | .yes t ws=>∃a l,v=.ref a/\H a=some (.tup [.str (kindS t),.ref l])/\H l=some (.lst (aQ ws))
theorem hX.same{H H':Hp}{v:V}:∀{r:dA},hX H v r->ae H H'->hX H' v r
 | .no,h,_=>h
 | .yes _ _,⟨a,l,e,h1,h2⟩,S=>⟨a,l,e,S _ _ h1,S _ _ h2⟩
end L2
namespace L2
open PySem PySem.Spec PyProof.Rows
end L2
namespace L2
open PySem PySem.Spec PyProof.Rows PySem.SeqAt
def vm:Option Int->V
 | none=>.aR
 | some i=>.int i
abbrev cX(ms:List (Option Int)):List V:=ms.map vm
theorem agQ{ms:List (Option Int)}{x:V}(h:x∈cX ms):∃o,o∈ms/\x=vm o:=by
 obtain⟨n,hn,e⟩:=bR.mp h;exact⟨n,hn,e.symm⟩
theorem Wi(ms:List (Option Int)):∀x∈cX ms,jI x=true/\gN x x=true:=λx hx=>by
 obtain⟨o,_,rfl⟩:=agQ hx
 cases o with
 | none=>exact⟨rfl,rfl⟩
 | some i=>exact⟨rfl,by simp[vm,gN]⟩
end L2
namespace L2
open PySem PySem.Spec PyProof.Rows
end L2
namespace L2
open PySem PySem.Spec PyProof.Rows PySem.SeqAt
abbrev Mark:=List (Option Int)
def fQ(H:Hp)(as:List Addr)(ms:List Mark):Prop:=Paired (λ(a:Addr) (r:Mark)=>H a=some (.lst (cX r))) as ms
theorem fQ.same{H H':Hp}{as:List Addr}{ms:List Mark}(h:fQ H as ms)(S:ae H H'):fQ H' as ms:=Paired.eZ h λ_ _ e=>S _ _ e
end L2
namespace L2
open PySem PySem.Spec PyProof.Rows
structure l7(w:World)(K:aj)(a:Addr)(eO:List (Str×Addr)):Prop where
 ob:∃o es ep,K.lookup a=some o/\o.ExactDict/\o.data=.dict es ep/\Paired (λ(e:DictEntry) (p:Str×Addr)=>(∃t,e.key=.str p.1 t)/\e.val=.ref p.2/\e.hash=cj w (.inr p.1)) es.toList eO
 nd:(eO.map (·.1)).Nodup
 ns:(a==sysModules)=false
def sZ(eO:List (Str×Addr)):List (Key×Value):=eO.map λp=>((Sum.inr p.1:Key),bM p.2)
def nh(eO:List (Str×Addr))(k:Str):Option Addr:=(eO.find? λp=>decide (p.1=k)).map (·.2)
theorem FJ(k:Str):∀eO:List (Str×Addr),valueAt (sZ eO) (Sum.inr k:Key)=(nh eO k).map bM
 | []=>rfl
 | p::r=>by
  have ih:=FJ k r;unfold valueAt sZ nh at ih ⊢;rw[jc,aiD,aiD];by_cases e:p.1=k
  ·have e1:decide ((Sum.inr p.1:Key)=Sum.inr k)=true:=decide_eq_true (by rw[e])
   simp only[e1,decide_eq_true e];rfl
  ·have e1:decide ((Sum.inr p.1:Key)=Sum.inr k)=false:=decide_eq_false (λz=>e (Sum.inr.inj z))
   simp only[e1,decide_eq_false e];exact ih
theorem l7.dict{P:Program}{w:World}{K:aj}{a:Addr}{eO:List (Str×Addr)}(d:l7 w K a eO){h:Heap}(X:K.In h):h.DictOf (mI P w) a (sZ eO):=by
 obtain⟨o,es,ep,hk,ex,ed,pr⟩:=d.ob;have keys:∀{l:List DictEntry} {m:List (Str×Addr)},Paired (λ(e:DictEntry) (p:Str×Addr)=>(∃t,e.key=.str p.1 t)/\e.val=.ref p.2/\e.hash=cj w (.inr p.1)) l m->(∀e∈l,∃k,(mI P w).is k e.key=true/\e.hash=(mI P w).hash k)/\Pairs (mI P w) l (sZ m):=by
  intro l m q
  induction q with
  | nil=>exact⟨λe h=>(nomatch h),.nil⟩
  | @cons e p es ps h t ih =>
   obtain⟨⟨t',h1⟩,h2,h3⟩:=h;have i:(mI P w).is (Sum.inr p.1) e.key=true:=by rw[h1];exact DT P w p.1 t'
   refine⟨λe' h'=>?_,.cons i h2 ih.2⟩
   rcases bE.mp h' with z|z
   ·rw[z];exact⟨Sum.inr p.1,i,h3⟩
   ·exact ih.1 e' z
 obtain⟨k1,k2⟩:=keys pr;refine⟨o,es,ep,X a o hk,ex,ed,λe he=>k1 e (aiE.mpr he),k2,?_⟩
 have:(sZ eO).map (·.1)=(eO.map (·.1)).map λs=>(Sum.inr s:Key):=by
  unfold sZ;rw[ek,ek];rfl
 rw[this];exact aiu _ (λx y h z=>h (Sum.inr.inj z)) d.nd
section
variable{X:Cx}{a f:Addr}{eO:List (Str×Addr)}
def adU(a:Addr)(eO:List (Str×Addr)):R2:=λx y H Q=>∃k:Str,x=.str k/\y=.ref a/\Q (.bl (nh eO k).isSome) H
theorem LD(d:l7 X.w X.K a eO):cY X (compareOp .In) (adU a eO):=by
 intro pins s σ H x y v u Q I rx ry h;obtain⟨k,rfl,rfl,q⟩:=h;obtain⟨t,rfl⟩:=rx
 cases ry;refine wpAny_in_of (DT X.prog X.w k t) d.ns (d.dict I.cM).mapOf ?_;rw[FJ,Option.isSome_map];exact⟨.bl _,H,I.tok _,rfl,q⟩
theorem Tx(o i:Expr)(p:Pos)(args:List Expr)(keywords:List Keyword)(pos:Pos)(env:Env):eval (.Call (.Subscript o i p) args keywords pos) env=(do
  callWith pos (<-eval (.Subscript o i p) env) [] (backTo pos (starEach args env)) (backToKw pos (keywordEach keywords env))):=rfl
def QA(a:Addr)(eO:List (Str×Addr))(f:Addr)(sp:Sp)(eK:List V)(E:XK)(td ti:TE)(t:TA):TE:=λσ H Q=>td σ H λx H1=>ti σ H1 λy H2=>∃k:Str,x=.ref a/\y=.str k/\nh eO k=some f/\t σ H2 λvs H3=>sp (vs++eK) H3 Q E
theorem adb{CX:hU}{k:Nat}{fd:FuncData}{ps:List Str}{sp:Sp}{ds:List Value}{eK:List V}{E:XK}{o i e:Expr}{es:List Expr}{p1 pos:Pos}{td ti:TE}{t:TA}(d:l7 X.w X.K a eO)(F:ax X.prog X.w X.K X.mg X.base CX k f fd ps sp)(hr:cZ k X.A)(hk:jz X.K (.ref f)=true)(hb:Binds X.K fd ps ds)(hd:Vals eK ds)(hx:Passes CX X E)(ho:PE X o td)(hi:PE X i ti)(hs:Cg i)(ha:PA X (e::es) t)
  (he:starEach (e::es) X.env=(false,eval e X.env)::starEach es X.env:=by rfl) (cL:(backTo pos (starEach es X.env)).any (·.1)=false:=by rfl) :
  PE X (.Call (.Subscript o i p1) (e::es) [] pos) (QA a eO f sp eK E td ti t):=by
 intro pins s σ H Q I h;rw[Tx];refine wpAny_bind (ae1 PySem.F.slot_dict_getitem.lookup hs (aZ (ho pins s σ H _ I h) λu s1 ⟨x,H1,I1,rx,q1⟩=>aZ (hi pins s1 σ H1 _ I1 q1) λiv s2 ⟨y,H2,I2,ry,k',ex,ey,ef,q2⟩=>?_))
 subst ex ey
 cases rx;obtain⟨t',rfl⟩:=ry;have dd:=d.dict (P:=X.prog) I2.cM;refine⟨dd.typeIs,wpAny_getItem_of (DT X.prog X.w k' t') dd.mapOf (by rw[FJ,ef];rfl) ?_⟩
 refine B3 (h₀:=X.base) I2.ok.mod.jv hk (aZ (ha pos pins _ σ H2 _ (I2.tok _) q2) λus s3 ⟨vs,H3,I3,r3,q3⟩=>⟨I3.cM,?_⟩) he cL
 exact ET F hr hb hd hx I3 r3 q3
end
end L2
namespace L2
open PySem PySem.Spec PyProof.Rows SeqAt
inductive wX where
 | fence|room|wants
def vJ:wX->Str
 | .fence=>"fence"
 | .room=>"room"
 | .wants=>"wants"
def Rt:Bool->Str
 | true=>"run"
 | false=>"branch"
def Qq:Bool->Str
 | true=>"dry"
 | false=>"wet"
inductive aY where
 | wr (r:Bool) (bs:List (Int×List Int))
 | mk (k:wX) (ms:List Mark)
 | b3 (ws:List Int)
 | sum (ws:List Int) (p:Int)
 | st (d:Bool) (bs:List Int)
 | kept (rs:List dA)
 | most (bs:List (Int×List Int)) (q:aY)
def bK:aY->Str
 | .wr r _=>Rt r
 | .mk k _=>vJ k
 | .b3 _=>"fall"
 | .sum _ _=>"sum"
 | .st d _=>Qq d
 | .kept _=>"kept"
 | .most _ _=>"most"
def B7(H:Hp)(a:Addr)(b:Int×List Int):Prop:=∃q,H a=some (.tup [.int b.1,.ref q])/\H q=some (.lst (aQ b.2))
def hJ(H:Hp)(as:List Addr)(bs:List (Int×List Int)):Prop:=Paired (B7 H) as bs
theorem hJ.same{H H':Hp}{as:List Addr}{bs:List (Int×List Int)}(h:hJ H as bs)(S:ae H H'):hJ H' as bs:=Paired.eZ h λ_ _ ⟨q,e1,e2⟩=>⟨q,S _ _ e1,S _ _ e2⟩
def cD(H:Hp):V->aY->Prop
 | v,.wr r bs=>∃a l as,v=.ref a/\H a=some (.tup [.str (Rt r),.ref l])/\H l=some (.lst (as.map V.ref))/\hJ H as bs
 | v,.mk k ms=>∃a l as,v=.ref a/\H a=some (.tup [.str (vJ k),.ref l])/\H l=some (.lst (as.map V.ref))/\fQ H as ms
 | v,.b3 ws=>∃a l,v=.ref a/\H a=some (.tup [.str "fall",.ref l])/\H l=some (.lst (aQ ws))
 | v,.sum ws p=>∃a l,v=.ref a/\H a=some (.tup [.str "sum",.ref l,.int p])/\H l=some (.lst (aQ ws))
 | v,.st d bs=>∃a l,v=.ref a/\H a=some (.tup [.str (Qq d),.ref l])/\H l=some (.lst (aQ bs))
 | v,.kept rs=>∃a l vs,v=.ref a/\H a=some (.tup [.str "kept",.ref l])/\H l=some (.lst vs)/\Paired (hX H) vs rs
 | v,.most bs q=>∃a l as u,v=.ref a/\H a=some (.tup [.str "most",.ref l,u])/\H l=some (.lst (as.map V.ref))/\hJ H as bs/\cD H u q
theorem cD.same{H H':Hp}(S:ae H H'):∀{P:aY} {v:V},cD H v P->cD H' v P
 | .wr _ _,_,⟨a,l,as,e,h1,h2,h3⟩=>⟨a,l,as,e,S _ _ h1,S _ _ h2,h3.same S⟩
 | .mk _ _,_,⟨a,l,as,e,h1,h2,h3⟩=>⟨a,l,as,e,S _ _ h1,S _ _ h2,h3.same S⟩
 | .b3 _,_,⟨a,l,e,h1,h2⟩=>⟨a,l,e,S _ _ h1,S _ _ h2⟩
 | .sum _ _,_,⟨a,l,e,h1,h2⟩=>⟨a,l,e,S _ _ h1,S _ _ h2⟩
 | .st _ _,_,⟨a,l,e,h1,h2⟩=>⟨a,l,e,S _ _ h1,S _ _ h2⟩
 | .kept _,_,⟨a,l,vs,e,h1,h2,h3⟩=>⟨a,l,vs,e,S _ _ h1,S _ _ h2,Paired.eZ h3 λ_ _ h=>h.same S⟩
 | .most _ _,_,⟨a,l,as,u,e,h1,h2,h3,h4⟩=>⟨a,l,as,u,e,S _ _ h1,S _ _ h2,h3.same S,cD.same S h4⟩
def uT(m:Nat)(ds:List Int):Bool:=ds.all λd=>decide (0<=d)&&decide (d<(m:Int))
def oO(m:Nat)(bs:List (Int×List Int)):Bool:=bs.all λb=>decide (b.1≥0)&&uT m b.2
def CS(m:Nat)(bs:List (Int×List Int)):Bool:=uT m (bs.map (·.1))
def D9:Option Int->Bool
 | none=>true
 | some n=>decide (n≥0)
def jR(w:Nat)(m:Mark):Bool:=decide (m.length=w)&&m.all D9
def tq(w:Nat)(ms:List Mark):Bool:=ms.all (jR w)
def vS(m:Mark):Bool:=m.any λx=>x.isNone
def pN(w:Nat)(ms:List Mark):Bool:=tq w ms&&!(ms.any vS)
def wF(w:Nat)(ws:List Int):Bool:=decide (ws.length=w)
def gB(bs:List Int):List Int:=zs ((bJ 6).filter λ(x:Nat)=>decide ((x:Int)∈bs))
def mW(w:Nat)(bs:List Int):Bool:=(bs.all λb=>decide (0<=b)&&decide (b<(w:Int)))&&decide (bs=gB bs)
def oN(w:Nat):dA->Bool
 | .no=>true
 | .yes true bs=>mW w bs
 | .yes false ws=>wF w ws
def sX(w:Nat):aY->Bool
 | .mk .fence ms=>tq w ms
 | .mk .room ms=>pN w ms
 | .b3 ws=>wF w ws
 | _=>false
def lT(w m:Nat):aY->Bool
 | .wr true bs=>oO m bs
 | .wr false bs=>CS m bs
 | .mk .fence ms=>tq w ms
 | .mk _ ms=>pN w ms
 | .b3 ws=>wF w ws
 | .sum ws _=>wF w ws
 | .st _ bs=>mW w bs
 | .kept rs=>rs.all (oN w)
 | .most bs q=>oO m bs&&sX w q
def iz:aY->Prop
 | .wr _ bs=>bs.length<=1000/\∀c∈bs,c.2.length<=1000
 | .mk _ ms=>ms.length<=1000/\∀c∈ms,c.length<=1000
 | .b3 ws=>ws.length<=1000
 | .sum ws _=>ws.length<=1000
 | .st _ bs=>bs.length<=1000
 | .kept rs=>rs.length<=1000/\∀k bs,dA.yes k bs∈rs->bs.length<=1000
 | .most bs q=>bs.length<=1000/\(∀c∈bs,c.2.length<=1000)/\iz q
theorem rS{α:Type}{K:aj}{te:cK->TE}{H1:Hp}{Z:List V->Hp->Prop}{a:Addr}{xs:List V}{τ:St}{ps:List α}{F:V->α->Prop}(f:α->Bool)(ha:ai K H1 a xs)(R:Paired F xs ps)(hn:ps.length<=1000)
  (hs:∀B x c H,c∈ps->F x c->ae H1 H->∀Q':VK,(∀H2,ae H H2->Q' (.bl (f c)) H2)->te B (some x::τ) H Q')
  (hd:∀H2,ae H1 H2->Z ((ps.map f).map V.bl) H2) :
  ∃W:Nat->Nat->List V->St->Hp->Prop,(∃m,W 0 m [] (none::τ) H1)/\∀B:cK,iS (j8 K a) (aG 0) dW (te B) W Z:=by
 have hl:=Paired.length R;refine uO (g:=λ_=>aG 0) (tt:=λ_=>dW) (K:=K) (a:=a) (xs:=xs) (λi ys σ H=>(∃v,σ=v::τ)/\ae H1 H/\ys=((ps.take i).map f).map V.bl) ⟨⟨none,rfl⟩,ae.refl _,rfl⟩ ?_ ?_ ?_
 ·rintro i ys σ H hi ⟨_,S,rfl⟩
  refine⟨S.seq ha,?_⟩;rw[aH,aH,lZ];exact lM (by omega)
 ·rintro B i x ys σ H hx ⟨⟨v,rfl⟩,S,rfl⟩
  obtain⟨c,hc,hF⟩:=Paired.getL R hx
  try dsimp only[aG,dW]
  rw[if_pos rfl];refine hs B x c H (kS hc) hF S _ λH2 S2=>⟨⟨_,rfl⟩,S.trans S2,?_⟩
  rw[oX,hc,uf,dX,dX];rfl
 ·rintro ys σ H ⟨_,S,rfl⟩
  rw[hl,oY];exact hd H S
theorem HH{K K':aj}{te:cK->TE}{H1:Hp}{Z:List V->Hp->Prop}{a:Addr}{as:List Addr}{τ:St}{ps:List (Int×List Int)}(f:Int×List Int->V)(ha:ai K H1 a (as.map V.ref))(R:hJ H1 as ps)(hn:ps.length<=1000)
  (hs:∀B q c H,c∈ps->H1 q=some (.lst (aQ c.2))->ae H1 H->∀Q':VK,(∀H2,ae H H2->Q' (f c) H2)->te B (some (.int c.1)::some (.ref q)::τ) H Q')
  (hd:∀H2,ae H1 H2->Z (ps.map f) H2) :
  ∃W:Nat->Nat->List V->St->Hp->Prop,(∃m,W 0 m [] (none::none::τ) H1)/\∀B:cK,iS (j8 K a) (sP K' 2 (lz (aG 0) (lz (aG 1) pW))) dW (te B) W Z:=by
 have hl:=Paired.length R;refine uO (g:=λ_=>sP K' 2 (lz (aG 0) (lz (aG 1) pW))) (tt:=λ_=>dW) (K:=K) (a:=a) (xs:=as.map V.ref) (λi ys σ H=>(∃v u,σ=v::u::τ)/\ae H1 H/\ys=(ps.take i).map f) ⟨⟨none,none,rfl⟩,ae.refl _,rfl⟩ ?_ ?_ ?_
 ·rintro i ys σ H hi ⟨_,S,rfl⟩
  rw[aH] at hi;refine⟨S.seq ha,?_⟩;rw[aH,lZ];exact lM (by omega)
 ·rintro B i x ys σ H hx ⟨⟨v,u,rfl⟩,S,rfl⟩
  obtain⟨p,hp,rfl⟩:=Bh hx;obtain⟨c,hc,q,e1,e2⟩:=Paired.getL R hp;refine⟨p,_,rfl,av.of (S _ _ e1),rfl,_,_,rfl,_,_,rfl,rfl,?_⟩
  try dsimp only[aG,pW,dW]
  rw[if_pos rfl];refine hs B q c H (kS hc) e2 S _ λH2 S2=>⟨⟨_,_,rfl⟩,S.trans S2,?_⟩
  rw[oX,hc,uf,dX];rfl
 ·rintro ys σ H ⟨_,S,rfl⟩
  rw[aH,hl,oY];exact hd H S
theorem kr:∀l:List Int,Paired (λv i=>v=V.int i) (aQ l) l
 | []=>.nil
 | _::l=>.cons rfl (kr l)
theorem AM:∀m:Mark,Paired (λv i=>v=vm i) (cX m) m
 | []=>.nil
 | _::l=>.cons rfl (AM l)
theorem jW{α:Type}{F:Addr->α->Prop}:∀{as:List Addr} {ps:List α},Paired F as ps->Paired (λv p=>∃a,v=V.ref a/\F a p) (as.map V.ref) ps
 | _,_,.nil=>.nil
 | _,_,.cons h t=>.cons ⟨_,rfl,h⟩ (jW t)
theorem rJ{α:Type}(f:α->Bool)(l:List α):(l.map f).all id=l.all f:=by rw[Gr];rfl
theorem Tu{α:Type}(f:α->Bool)(l:List α):(l.map f).any id=l.any f:=by rw[aiw];rfl
theorem Rp:∀m:Mark,iI .aR (cX m)=vS m
 | []=>rfl
 | none::m=>rfl
 | some n::m=>by
  have:=Rp m;unfold iI vS at this ⊢;rw[show cX (some n::m)=V.int n::cX m from rfl,Gs,Gs,this]
  rfl
theorem Mb{l bs:List Int}(nd:l.Nodup)(hm:∀x,x∈l↔x∈bs)(hb:∀x∈bs,0<=x/\x<6):l.Perm (gB bs):=by
 refine(List.perm_ext_iff_of_nodup nd ?_).mpr λx=>?_
 ·unfold gB zs
  exact aiu _ (λa b h e=>h (R5 e)) (ahC.filter _)
 ·rw[hm x]
  unfold gB zs;rw[bR];constructor
  ·intro h
   obtain⟨h0,h6⟩:=hb x h;obtain⟨k,rfl⟩:=jA h0;exact⟨k,oW.mpr ⟨iq.mpr (by omega),by simpa using h⟩,rfl⟩
  ·rintro⟨k,h,rfl⟩
   simpa using (oW.mp h).2
theorem aau(bs:List Int):(gB bs).length<=6:=by
 unfold gB;rw[aiP];exact b_ (Si _ _) (by rw[g_];exact bH _)
theorem EY{l ns bs:List Int}(nd:l.Nodup)(hm:∀x,x∈l↔x∈bs)(hb:∀x∈bs,0<=x/\x<6)(p:ns.Perm l)(s:ns.Pairwise (· <= ·)):ns=gB bs:=by
 have s2:(gB bs).Pairwise (· <= ·):=aiQ ((ajW _ RF).imp λh=>ud h)
 exact List.Perm.eq_of_pairwise (λa b _ _ h4 h5=>Int.le_antisymm h4 h5) s s2 (p.trans (Mb nd hm hb))
theorem Wh(m:Mark):(cX m).all jI=true:=e_.mpr λx hx=>(Wi m x hx).1
def Me(r b m g w s k o:Addr):aY->Addr
 | .wr true _=>r
 | .wr false _=>b
 | .mk .fence _=>m
 | .mk _ _=>g
 | .b3 _=>w
 | .sum _ _=>w
 | .st _ _=>s
 | .kept _=>k
 | .most _ _=>o
theorem GW{r b m g w s k o:Addr}:∀P:aY,nh [("run",r),("branch",b),("fence",m),("room",g),("wants",g),("fall",w),("sum",w),("dry",s),("wet",s),("kept",k),("most",o)] (bK P)=some (Me r b m g w s k o P)
 | .wr true _=>rfl
 | .wr false _=>rfl
 | .mk .fence _=>rfl
 | .mk .room _=>rfl
 | .mk .wants _=>rfl
 | .b3 _=>rfl
 | .sum _ _=>rfl
 | .st true _=>rfl
 | .st false _=>rfl
 | .kept _=>rfl
 | .most _ _=>rfl
def EC(m g w:Addr):aY->Option Addr
 | .mk .fence _=>some m
 | .mk .room _=>some g
 | .b3 _=>some w
 | _=>none
theorem GV{m g w:Addr}:∀P:aY,nh [("fence",m),("room",g),("fall",w)] (bK P)=EC m g w P
 | .wr true _=>rfl
 | .wr false _=>rfl
 | .mk .fence _=>rfl
 | .mk .room _=>rfl
 | .mk .wants _=>rfl
 | .b3 _=>rfl
 | .sum _ _=>rfl
 | .st true _=>rfl
 | .st false _=>rfl
 | .kept _=>rfl
 | .most _ _=>rfl
theorem cD.top{H:Hp}:∀{P:aY} {v:V},cD H v P->∃a l r,v=.ref a/\H a=some (.tup (.str (bK P)::.ref l::r))
 | .wr _ _,_,⟨a,l,_,e,h1,_⟩=>⟨a,l,[],e,h1⟩
 | .mk _ _,_,⟨a,l,_,e,h1,_⟩=>⟨a,l,[],e,h1⟩
 | .b3 _,_,⟨a,l,e,h1,_⟩=>⟨a,l,[],e,h1⟩
 | .sum _ p,_,⟨a,l,e,h1,_⟩=>⟨a,l,[.int p],e,h1⟩
 | .st _ _,_,⟨a,l,e,h1,_⟩=>⟨a,l,[],e,h1⟩
 | .kept _,_,⟨a,l,_,e,h1,_⟩=>⟨a,l,[],e,h1⟩
 | .most _ _,_,⟨a,l,_,u,e,h1,_⟩=>⟨a,l,[u],e,h1⟩
end L2
namespace L2
open PySem PySem.Spec PyProof.Rows
abbrev sg(c:Nat):Str:=⟨#[c]⟩
def cO(c:Nat)(z:Str):List Str:=Txt.split z (sg c)
theorem Qm(c:Nat)(z:Str):fo (sg c) (cO c z)=z:=StrLaws.join_split z (sg c)
theorem aeS(c:Nat)(z:Str):∀p∈cO c z,c∉p.cps.toList:=StrLaws.split_free z c
theorem Kk(s x y:Str)(r:List Str):fo s (x::y::r)=x++s++fo s (y::r):=rfl
theorem DH(c:Nat):∀(x:Str) (r:List Str),(fo (sg c) (x::r)).length=((x::r).map B1).sum+r.length
 | x,[]=>by
  show x.length=x.length+0+0;omega
 | x,y::r=>by
  rw[Kk,fO,fO,DH c y r,jc (a:=x),ahH,bF];have:(sg c).length=1:=rfl;omega
theorem Qn(c:Nat)(z:Str):cO c z≠[]:=by
 unfold cO Txt.split
 split
 ·exact λh=>nomatch h
 ·split
  ·exact λh=>nomatch h
  ·rw[StrLaws.partsBetween_eq]
   cases Builtin.Str.occurrences z (sg c) 0 z.length (z.length+1) with
   | nil=>exact λh=>nomatch h
   | cons a r=>exact λh=>nomatch h
theorem aeT(c:Nat)(z:Str):(cO c z).length<=z.length+1:=by
 cases e:cO c z with
 | nil=>exact absurd e (Qn c z)
 | cons x r =>
  have h:=DH c x r;rw[<-e,Qm] at h;rw[bF];omega
theorem HM{c:Nat}:∀{a b x y:List Nat},c∉a->c∉b->a++c::x=b++c::y->a=b/\x=y
 | [],[],x,y,_,_,h=>⟨rfl,(B6 h).2⟩
 | [],q::b,x,y,_,h2,h=>by
  have:=(B6 h).1;exact absurd (this ▸ cB ..) h2
 | p::a,[],x,y,h1,_,h=>by
  have:=(B6 h).1;exact absurd (this ▸ cB ..) h1
 | p::a,q::b,x,y,h1,h2,h=>by
  obtain⟨e1,e2⟩:=B6 h;obtain⟨i1,i2⟩:=HM (λm=>h1 (cP _ m)) (λm=>h2 (cP _ m)) e2
  exact⟨by rw[e1,i1],i2⟩
theorem str_list{x y:Str}(h:x.cps.toList=y.cps.toList):x=y:=by
 obtain⟨a⟩:=x;obtain⟨b⟩:=y
 congr 1
 exact GB.mp h
theorem app_list(x y:Str):(x++y).cps.toList=x.cps.toList++y.cps.toList:=by rw[aib,Sj]
theorem AG(c:Nat)(x y:Str)(r:List Str):(fo (sg c) (x::y::r)).cps.toList=x.cps.toList++c::(fo (sg c) (y::r)).cps.toList:=by
 rw[Kk,app_list,app_list,kW];rfl
theorem Kl{c:Nat}:∀{xs ys:List Str},xs≠[]->ys≠[]->(∀x∈xs,c∉x.cps.toList)->(∀y∈ys,c∉y.cps.toList)->fo (sg c) xs=fo (sg c) ys->xs=ys
 | [],_,h,_,_,_,_=>absurd rfl h
 | _::_,[],_,h,_,_,_=>absurd rfl h
 | [x],[y],_,_,_,_,h=>by
  have h:x=y:=h;rw[h]
 | [x],y::z::r,_,_,h1,_,h=>by
  have e:=congrArg (λs:Str=>s.cps.toList) h
  have e:x.cps.toList=_:=e;rw[AG] at e;exact absurd (by rw[e];simp) (h1 x (cB ..))
 | x::w::q,[y],_,_,_,h2,h=>by
  have e:=congrArg (λs:Str=>s.cps.toList) h
  have e:_=y.cps.toList:=e;rw[AG] at e;exact absurd (by rw[<-e];simp) (h2 y (cB ..))
 | x::w::q,y::z::r,_,_,h1,h2,h=>by
  have e:=congrArg (λs:Str=>s.cps.toList) h
  have e:(fo (sg c) (x::w::q)).cps.toList=(fo (sg c) (y::z::r)).cps.toList:=e;rw[AG,AG] at e;obtain⟨e1,e2⟩:=HM (h1 x (cB ..)) (h2 y (cB ..)) e;have ih:w::q=z::r:=Kl (λz=>aiz _ _ z) (λz=>aiz _ _ z) (λs hs=>h1 s (cP _ hs)) (λs hs=>h2 s (cP _ hs)) (str_list e2)
  rw[str_list e1,ih]
theorem aeU{c:Nat}{xs:List Str}(h:xs≠[])(hf:∀x∈xs,c∉x.cps.toList):cO c (fo (sg c) xs)=xs :=
 Kl (Qn _ _) h (aeS _ _) hf (Qm _ _)
section
variable{X:Cx}
theorem Qw:∀(k:Nat) (ys:List Str),Vals (bq ys) (strsFrom k ys)
 | _,[]=>.nil
 | k,y::ys=>.cons ⟨k,rfl⟩ (Qw (k+1) ys)
inductive Mx(c:Nat)(x:V)(vs:List V)(H:Hp)(Q:VK):Prop
 | mk:∀z:Str,(x=.str z)->(vs=[.str (sg c)])->(z.length<=1000000)->(∀p,H p=none->Q (.ref p) (upd H p (.lst (bq (cO c z)))))->Mx c x vs H Q
theorem aa5(c:Nat):rC X "str.split" (Mx c):=by
 intro pins s σ H x vs v us Q I rx rv h;obtain⟨z,rfl,rfl,hz,q⟩:=h;obtain⟨t,rfl⟩:=rx;obtain⟨u,rfl,ru⟩:=rv.one;obtain⟨t',rfl⟩:=ru;have hl:=aeT c z;have hs:=sizeLine_eq;have fin:∀(h':Heap) (n m:Nat) (ao:List Value),Vals (bq (cO c z)) ao->h'=s.heap.push { cls:=.type "list",data:=.seq ao.toArray }->EP X pins σ Q (.ref s.heap.objs.size) { s with heap:=h',toks:=n }:=λh' n m ao r e=>by
  subst e;refine⟨.ref s.heap.objs.size,_,I.laid (t':=n) (o:=.lst (bq (cO c z))) (λb ob q=>cJ _ q) (bH _) ⟨by rw[aH];omega,ao,0,r,fN _ rfl⟩,rfl,q _ (I.aS.fresh (bH _))⟩
 have self:cO c z=[z]->EP X pins σ Q (.ref s.heap.objs.size) { s with heap:=s.heap.push { cls:=.type "list",data:=.seq [B2 z t].toArray } }:=λe=>fin _ s.toks 0 _ (by rw[e];exact .cons ⟨t,rfl⟩ .nil) rfl
 cases h1:(decide (z.length<(sg c).length)||decide (Builtin.Str.strKind z<Builtin.Str.strKind (sg c))) with
 | true =>
  refine call_meets F.slot_str_split (typeIs_str _ _ _) F.entry_str_split (F.args_str_split_2 _ _) (meets_str_split_cannot_occur z (sg c) t t' h1) ?_;exact self (by unfold cO Txt.split;rw[if_pos h1])
 | false =>
  cases h2:(Builtin.Str.occurrences z (sg c) 0 z.length (z.length+1)).isEmpty with
  | true =>
   refine call_meets F.slot_str_split (typeIs_str _ _ _) F.entry_str_split (F.args_str_split_2 _ _) (meets_str_split_not_found z (sg c) t t' h1 rfl h2) ?_;exact self (by unfold cO Txt.split;rw[if_neg (by rw[h1];decide),if_pos h2])
  | false =>
   have e:cO c z=Builtin.Str.partsBetween z (Builtin.Str.occurrences z (sg c) 0 z.length (z.length+1)) (sg c).length:=by unfold cO Txt.split;rw[if_neg (by rw[h1];decide),if_neg (by rw[h2];decide)]
   refine call_meets F.slot_str_split (typeIs_str _ _ _) F.entry_str_split (F.args_str_split_2 _ _) (meets_str_split_sep z (sg c) t t' h1 rfl h2 (by omega) (by rw[<-e];omega)) ?_
   exact fin _ _ 0 _ (by rw[e];exact Qw _ _) rfl
def i3(c:Nat)(z:Str):Bool:=z.cps.toList.head?==some c
inductive Mz(c:Nat)(x:V)(vs:List V)(H:Hp)(Q:VK):Prop
 | mk:∀z:Str,(x=.str z)->(vs=[.str (sg c)])->(Q (.bl (i3 c z)) H)->Mz c x vs H Q
theorem aeX(c:Nat)(z:Str):(decide (0+(sg c).length<=z.length)&&Builtin.Str.subAt z (sg c) 0)=i3 c z:=by
 have h:=StrLaws.subAt_one z c 0;unfold i3;rw[List.head?_eq_getElem?,j2,de,decide_eq_true_eq,beq_iff_eq];exact h
theorem KO(c:Nat):rC X "str.startswith" (Mz c):=by
 intro pins s σ H x vs v us Q I rx rv h;obtain⟨z,rfl,rfl,q⟩:=h;obtain⟨t,rfl⟩:=rx;obtain⟨u,rfl,ru⟩:=rv.one;obtain⟨t',rfl⟩:=ru;refine call_gives F.slot_str_startswith (typeIs_str _ _ _) F.entry_str_startswith (F.args_str_startswith_2 _ _) (gives_str_startswith z (sg c) t t') ?_;rw[<-aeX] at q;exact⟨.bl _,H,I.tok _,rfl,q⟩
def Cv(z:Str):Prop:=∀c∈z.cps.toList,48<=c/\c<=57
def numOf(z:Str):Nat:=z.cps.toList.foldl (λacc c=>acc*10+(c-48)) 0
end
end L2
namespace L2
open PySem PySem.Spec PyProof.Rows PySem.Calls
open AutoSeq1 (wpAny_loadPart')
end L2
namespace L2
open PySem PySem.Spec PyProof.Rows
abbrev BQ:Str:=zalias233z "0"
def qF(x:Str):Prop:=∀c∈x.cps.toList,c<128/\c≠10
theorem abL{x:Str}(h:qF x):x.cps.all (· < 128)=true:=by
 rw[<-ahw];exact e_.mpr λc hc=>decide_eq_true (h c hc).1
def pT(w:Str):Bool:=w.cps.toList.all λc=>decide (48<=c)&&decide (c<=57)
def jF(Wg:Nat)(w:Str):Option Nat:=if (1<=w.length/\w.length<=Wg)/\pT w=true/\¬ (i3 48 w=true/\w≠BQ) then some (numOf w) else none
theorem VA{w:Str}(h:pT w=true):Cv w:=λc hc=>by
 have:=e_.mp h c hc;rw[de,decide_eq_true_eq,decide_eq_true_eq] at this;exact this
theorem vI{α:Type}{P:α->Prop}{l:List α}{a:α}(h:∀x∈l,P x)(ha:P a):∀x∈l++[a],P x:=λx hx=>by
 rcases dH.mp hx with q|q
 ·exact h x q
 ·rw[dc.mp q];exact ha
end L2
namespace L2
open PySem PySem.Spec PyProof.Rows PySem.SeqAt
theorem Vs{x:Str}{lo hi:Option Int}{c:Nat}(h:c∈(iD x lo hi).cps.toList):c∈x.cps.toList:=ahy (ahz (show c∈((x.cps.toList.drop (HT.dF x.length 0 lo)).take _) from h))
theorem Vr(x:Str)(lo hi:Option Int):(iD x lo hi).length<=x.length:=by
 have:(iD x lo hi).length=((x.cps.toList.drop (HT.dF x.length 0 lo)).take (HT.dF x.length x.length hi-HT.dF x.length 0 lo)).length:=rfl;rw[this,lZ,lY];have hc:x.cps.toList.length=x.length:=gE;omega
theorem kg{a m:Int}(h:0<m):0<=a%m/\a%m<m:=⟨kU _ (by omega),j4 _ h⟩
theorem VB(m:Nat):0<m->(BZ 10 m).head?≠some '0':=by
 induction m using Nat.strongRecOn with
 | _ m ih =>
  intro h;by_cases pY:m<10
  ·rw[Nat.toDigits_of_lt_base pY]
   have:∀m,m<10->0<m->(Nat.digitChar m)≠'0':=by decide
   intro z;exact this m pY h (a6 z)
  ·have hm:m%10<10:=Nat.mod_lt m (by decide)
   have t:=Nat.toDigits_append_toDigits (b:=10) (n:=m/10) (d:=m%10) (by decide) (by omega) hm
   rw[Nat.div_add_mod] at t;rw[<-t];have i:=ih (m/10) (by omega) (by omega)
   cases q:BZ 10 (m/10) with
   | nil =>
    have:=toDigits_len_ge 10 (m/10);rw[q] at this;exact absurd this (by decide)
   | cons a l =>
    rw[q] at i;exact i
theorem adv{ys:List Str}{k:Nat}(nd:ys.Nodup)(h:k<ys.length):bL ys ys[k]=(k:Int):=by
 refine adu (cw h) λm hm w hw e=>?_
 have JO:m<ys.length:=by omega
 rw[cw JO] at hw;have hw:=a6 hw;rw[<-hw] at e;exact ahE.mp nd m k JO h hm e
theorem aeZ{ys:List Str}{k:Nat}(h:k<ys.length):bT (bq ys) (k:Int)=some (V.str (ys.getD k ay)):=by
 rw[aeY h,gF,cw h];rfl
section
variable{X:Cx}
def B9(i j:Int):Prop:=0<=j/\(Builtin.Int.intBits i:Int)*j<=2^27
theorem LH:cY X (binaryOp .Pow) (rI B9 λi j=>.int (i^j.toNat)):=A6 λ_ _ _ _ _ _ _ hc q=>pow_int hc.1 hc.2 q
inductive Mv(x:V)(y:V)(H:Hp)(Q:VK):Prop
 | mk:∀(c:Nat) (n:Int),(x=.str ⟨#[c]⟩)->(y=.int n)->(0<=n)->(n<=100)->(Q (.str (st (zalias133z n.toNat c))) H)->Mv x y H Q
theorem Ir(c:Nat):∀(m:Nat) (acc:Array Nat),((zalias133z m (#[c]:Array Nat)).foldl (· ++ ·) acc).toList=acc.toList++zalias133z m c
 | 0,acc=>by simp
 | m+1,acc=>by
  rw[ahG,List.foldl_cons,Ir c m,ahG,Sj,kW];rfl
theorem mul_one{c:Nat}{n:Int}(h0:0<=n):Txt.mul ⟨#[c]⟩ n=st (zalias133z n.toNat c):=by
 unfold Txt.mul;by_cases h1:n<1
 ·have:n=0:=by omega
  subst this;rfl
 ·rw[if_neg h1]
  split
  ·rename_i h
   have:n=1:=by
    rw[ah9] at h;rcases h with h|h
    ·exact beq_iff_eq.mp h
    ·cases h
   subst this;rfl
  ·refine str_list ?_
   show ((zalias133z n.toNat (#[c]:Array Nat)).foldl (· ++ ·) #[]).toList=zalias133z n.toNat c
   rw[Ir];rfl
theorem Eu:cY X (binaryOp .Mult) Mv:=by
 intro pins s σ H x y v u Q I rx ry h;obtain⟨c,n,rfl,rfl,n0,n1,q⟩:=h;obtain⟨t,rfl⟩:=rx;obtain⟨t',rfl⟩:=ry;have l1:(⟨#[c]⟩:Str).length=1:=rfl;refine SB.mul ⟨?_,λh1 _=>?_,λ_ _=>?_⟩ λt'' k=>?_
 ·rw[decide_eq_false (by omega),decide_eq_false (by omega)];rfl
 ·rw[l1]
  have:(2^63-1:Int)/n≥1:=by
   rw[ge_iff_le,Int.le_ediv_iff_mul_le (by omega)]
   omega
  omega
 ·rw[l1]
  have sz:=sizeLine_eq;unfold Builtin.Str.tooLong;simp only[decide_eq_false_iff_not];omega
 ·rw[mul_one n0]
  exact⟨.str _,H,I.tok _,⟨_,rfl⟩,q⟩
end
def w8:List Str:=[zalias233z "by",zalias233z "run",zalias233z "trap",zalias233z "none",zalias233z "weight",zalias233z "fence",zalias233z "stick",zalias233z "cover"]
theorem agU:∀i:Fin 8,dQ (w8.getD i.val ay)=true:=by decide +kernel
theorem agT:∀i j:Fin 8,w8.getD i.val ay=w8.getD j.val ay->i=j:=by decide +kernel
theorem agS{i:Int}(h0:0<=i)(h1:i<8):bT (bq w8) i=some (V.str (w8.getD i.toNat ay)):=by
 obtain⟨n,rfl⟩:=jA h0;rw[dz];exact aeZ (show n<8 by omega)
theorem ad4{n c:Nat}(h1:1<=n)(h8:n<=8)(h:97<=c/\c<=122):dQ (st (zalias133z n c))=true:=K4 (by rw[iN];exact h1) (by rw[iN];exact h8) λx hx=>by rw[(F4.mp hx).2];exact h
theorem ad3{n m c:Nat}(h:st (zalias133z n c)=st (zalias133z m c)):n=m:=by
 have:=congrArg ri (Qs h)
 rwa [iN,iN] at this
def i6(t f c:Nat):List Nat:=zalias133z t f++[c]++zalias133z (7-t) f
theorem aaR{t f c:Nat}(ht:t<=7)(hf:97<=f/\f<=122)(hc:97<=c/\c<=122):dQ (st (i6 t f c))=true:=by
 have l:(i6 t f c).length=8:=by
  unfold i6;rw[bS,bS,iN,iN];show t+1+(7-t)=8;omega
 refine K4 (by omega) (by omega) λx hx=>?_
 unfold i6 at hx;rcases dH.mp hx with z|z
 ·rcases dH.mp z with z|z
  ·rw[(F4.mp z).2];exact hf
  ·rw[dc.mp z];exact hc
 ·rw[(F4.mp z).2];exact hf
theorem aaQ{t f c c':Nat}(h:st (i6 t f c)=st (i6 t f c')):c=c':=by
 have e:=Qs h;unfold i6 at e;rw[kW,kW] at e;exact(B6 (List.append_cancel_left e)).1
abbrev lS:Str:=zalias233z "xyzzy"
theorem agV:∀i:Fin 8,w8.getD i.val ay≠lS:=by decide +kernel
theorem ad5{n c:Nat}(h:st (zalias133z n c)=lS):False:=by
 have e:zalias133z n c=[120,121,122,122,121]:=by
  have:=congrArg (λx:Str=>x.cps.toList) h
  exact this
 have k:∀x∈([120,121,122,122,121]:List Nat),x=c:=by rw[<-e];exact λx hx=>(F4.mp hx).2
 have h1:=k 120 (by decide)
 have h2:=k 121 (by decide)
 omega
theorem aaS{t f c:Nat}(ht:t<=7)(h:st (i6 t f c)=lS):False:=by
 have e:(i6 t f c).length=5:=by
  have:=congrArg B1 h;rw[oR] at this;exact this
 unfold i6 at e;rw[bS,bS,iN,iN] at e;have e:t+1+(7-t)=5:=e;omega
end L2
namespace L2
open PySem PySem.Spec PyProof.Rows
def DK(h h':Heap):Prop:=∀b o,h.get? b=some o->∃o',h'.get? b=some o'/\o'.cls=o.cls/\o'.dict=o.dict
theorem DK.refl(h:Heap):DK h h:=λ_ o e=>⟨o,e,rfl,rfl⟩
theorem DK.trans{h1 h2 h3:Heap}(a:DK h1 h2)(b:DK h2 h3):DK h1 h3:=λc o e =>
 let ⟨_,e1,c1,d1⟩:=a c o e
 let ⟨o2,e2,c2,d2⟩:=b c _ e1
 ⟨o2,e2,c2.trans c1,d2.trans d1⟩
structure KD{α:Type}(t:Sem α):Prop where
 out:∀(M:Model) (G:PySem.Ctx) (P:α->Pos->Shared->Prop) (F:Value->Pos->Shared->Prop) (p:Pos) (s:Shared),Sem.wp M G t P F p s->Sem.wp M G t (λa p' s'=>P a p' s'/\DK s.heap s'.heap) F p s
namespace KD
variable{α β:Type}
theorem ret(a:α):KD (Pure.pure a:Sem α):=⟨λ_ _ _ _ _ s h=>⟨h,DK.refl s.heap⟩⟩
theorem j0(w:String):KD (PySem.unsupported w:Sem α):=⟨λ_ _ _ _ _ _ h=>h⟩
theorem andThen{m:Sem α}{f:α->Sem β}(hm:KD m)(hf:∀a,KD (f a)):KD (m >>= f):=⟨λM G P F p s h=>by
 rw[Sem.wp_bind'] at h ⊢;refine Sem.wp_mono M G m (λa p' s' z=>?_) (λ_ _ _ x=>x) p s (hm.out M G _ F p s h)
 exact Sem.wp_mono M G (f a) (λb p2 s2 y=>⟨y.1,z.2.trans y.2⟩) (λ_ _ _ x=>x) p' s' ((hf a).out M G P F p' s' z.1)⟩
theorem cond{c:Prop}[Decidable c]{t u:Sem α}(ht:KD t)(hu:KD u):KD (if c then t else u):=by split<;>assumption
theorem ld(a:Addr):KD (PySem.load a):=⟨λ_ _ _ _ _ s h=>by obtain⟨o,e,q⟩:=h;exact⟨o,e,q,DK.refl s.heap⟩⟩
theorem gb:KD air:=⟨λM G P F p s h=>by
 unfold air at h ⊢;rw[Sem.wp_stack] at h ⊢;exact⟨h,DK.refl s.heap⟩⟩
theorem new(o:Obj):KD (PySem.alloc o):=⟨λM G P F p s h=>⟨h,λb u e=>⟨u,cJ _ e,rfl,rfl⟩⟩⟩
theorem upd(a:Addr)(f:Obj->Obj)(k:∀o,(f o).isFreed=o.isFreed/\(f o).cls=o.cls/\(f o).dict=o.dict):KD (PySem.update a f):=⟨λM G P F p s h=>by
 obtain⟨e,q⟩:=h;refine⟨e,q,λb o hb=>?_⟩
 show ∃o',(s.heap.update a f).get? b=some o'/\_;by_cases vb:b=a
 ·subst vb
  exact⟨f o,uj f hb ((k o).1.trans (Heap.get?_some_iff.mp hb).2),(k o).2.1,(k o).2.2⟩
 ·exact⟨o,(Gg _ _ (Ne.symm vb)).trans hb,rfl,rfl⟩⟩
theorem fld(v:Value)(i:Nat):KD (PySem.field v i):=⟨λ_ G P F p s h=>by
 obtain⟨a,o,vs,x,e,ho,hd,hx,q⟩:=(wp_field_iff G v i P F p s).mp h;exact(wp_field_iff G v i _ F p s).mpr ⟨a,o,vs,x,e,ho,hd,hx,q,DK.refl s.heap⟩⟩
theorem jX(v:Value)(i:Nat)(x:Value):KD (PySem.setField v i x):=⟨λ_ G P F p s h=>by
 obtain⟨a,o,vs,e,ho,hd,hi,q⟩:=(wp_setField_iff G v i x P F p s).mp h;refine(wp_setField_iff G v i x _ F p s).mpr ⟨a,o,vs,e,ho,hd,hi,q,λb ob hb=>?_⟩
 show ∃o',(s.heap.update a _).get? b=some o'/\_;by_cases vb:b=a
 ·subst vb
  rw[ho] at hb
  cases hb;have z:=uj (Obj.mapFields (·.setIfInBounds i x)) ho (Obj.isFreed_of_fields (Obj.data_mapFields hd _))
  refine⟨_,z,Obj.cls_mapFields _ _,?_⟩;obtain⟨c,d,dt,sl⟩:=o
  cases dt<;>rfl
 ·exact⟨ob,(Gg _ _ (Ne.symm vb)).trans hb,rfl,rfl⟩⟩
theorem any{t:Sem α}(k:KD t){M:Model}{A:Around}{Q:α->Shared->Prop}{E:Value->Shared->Prop}{s:Shared}(h:wpAny M A t Q E s):wpAny M A t (λa s'=>Q a s'/\DK s.heap s'.heap) E s :=
 λG p hG=>k.out M G _ _ p s (h G p hG)
end KD
theorem Z4(env:Env)(outer:List Env):KD (behindIsImport env outer):=by
 unfold behindIsImport
 (repeat' with_reducible first|assumption|exact KD.ret _|exact KD.j0 _|exact KD.fld _ _|exact KD.jX _ _ _|exact KD.ld _|exact KD.gb|exact KD.new _|apply KD.cond|apply KD.andThen|intro _|split)
theorem Z1:KD underTheClaimsCaller:=by
 unfold underTheClaimsCaller
 (repeat' with_reducible first|assumption|exact KD.ret _|exact KD.j0 _|exact KD.fld _ _|exact KD.jX _ _ _|exact KD.ld _|exact KD.gb|exact KD.new _|apply KD.cond|apply KD.andThen|intro _|split)
theorem Z0(env:Env)(i:Bool)(l:List Env):KD (keptBack env i l):=by
 have:=Z1
 cases l<;>unfold keptBack<;>(repeat' with_reducible first|assumption|exact KD.ret _|exact KD.j0 _|exact KD.fld _ _|exact KD.jX _ _ _|exact KD.ld _|exact KD.gb|exact KD.new _|apply KD.cond|apply KD.andThen|intro _|split)
theorem Kp:∀l:List Env,KD (readyFrames l)
 | []=>KD.ret _
 | env::outer=>by
  have ih:=Kp outer;have h1:=Z4 env outer;have h2:=λi=>Z0 env i outer
  unfold readyFrames
  (repeat' with_reducible first|assumption|exact KD.ret _|exact KD.j0 _|exact KD.fld _ _|exact KD.jX _ _ _|exact KD.ld _|exact KD.gb|exact KD.new _|apply KD.cond|apply KD.andThen|intro _|split)
  all_goals first|exact h2 _|exact KD.upd _ _ (λo=>⟨by obtain⟨c,d,dt,sl⟩:=o;cases dt<;>rfl,rfl,rfl⟩)|skip
theorem Z2(l:List Env):KD (frameObject l):=by
 cases l with
 | nil=>exact KD.ret _
 | cons env outer =>
  have:=Kp (env::outer);unfold frameObject
  (repeat' with_reducible first|assumption|exact KD.ret _|exact KD.j0 _|exact KD.fld _ _|exact KD.jX _ _ _|exact KD.ld _|exact KD.gb|exact KD.new _|apply KD.cond|apply KD.andThen|intro _|split)
theorem Z3(env:Env):KD (aip env):=by
 have h1:KD frameEnvs:=by unfold frameEnvs;(repeat' with_reducible first|assumption|exact KD.ret _|exact KD.j0 _|exact KD.fld _ _|exact KD.jX _ _ _|exact KD.ld _|exact KD.gb|exact KD.new _|apply KD.cond|apply KD.andThen|intro _|split)
 have h2:=Z2;unfold aip
 (repeat' with_reducible first|assumption|exact KD.ret _|exact KD.j0 _|exact KD.fld _ _|exact KD.jX _ _ _|exact KD.ld _|exact KD.gb|exact KD.new _|apply KD.cond|apply KD.andThen|intro _|split)
 all_goals first|exact h2 _|skip
theorem Z6(f:Addr)(b:Bool):KD (entryPlaceOf f b):=by
 unfold entryPlaceOf
 (repeat' with_reducible first|assumption|exact KD.ret _|exact KD.j0 _|exact KD.fld _ _|exact KD.jX _ _ _|exact KD.ld _|exact KD.gb|exact KD.new _|apply KD.cond|apply KD.andThen|intro _|split)
theorem Z5(T:String)(vs:Array Value):KD (newObj (.type T) (.fields vs)):=by
 unfold newObj newObjAsIs
 try dsimp only
 (repeat' with_reducible first|assumption|exact KD.ret _|exact KD.j0 _|exact KD.fld _ _|exact KD.jX _ _ _|exact KD.ld _|exact KD.gb|exact KD.new _|apply KD.cond|apply KD.andThen|intro _|split)
theorem Ko(e:Value)(env:Env):KD (noteFrame e env):=by
 have h1:=Z3 env;have h2:=Z6;unfold noteFrame EntryCells.newEntry newFields
 (repeat' with_reducible first|assumption|exact KD.ret _|exact KD.j0 _|exact KD.fld _ _|exact KD.jX _ _ _|exact KD.ld _|exact KD.gb|exact KD.new _|apply KD.cond|apply KD.andThen|intro _|split)
 all_goals first|exact h2 _ _|exact Z5 _ _|skip
theorem DI(e:Value)(f:Option Addr):KD (setFlight e f):=by
 unfold setFlight
 (repeat' with_reducible first|assumption|exact KD.ret _|exact KD.j0 _|exact KD.fld _ _|exact KD.jX _ _ _|exact KD.ld _|exact KD.gb|exact KD.new _|apply KD.cond|apply KD.andThen|intro _|split)
theorem Kn(env:Env)(e:Value):KD (leaving env e):=by
 have h1:=Ko e env;have h2:=DI e none;unfold leaving
 (repeat' with_reducible first|assumption|exact KD.ret _|exact KD.j0 _|exact KD.fld _ _|exact KD.jX _ _ _|exact KD.ld _|exact KD.gb|exact KD.new _|apply KD.cond|apply KD.andThen|intro _|split)
end L2
namespace L2
open PySem PySem.Spec PyProof.Rows
def So(l:List Env)(H:Hp)(h:Heap)(a:Addr)(cls:Value)(dx:Option Addr)(H':Hp)(h':Heap):Prop :=
 ∃(B:Heap) (a0:Value),q_ B l a cls a0 h'/\(∀b o,h.get? b=some o->H b=none->b∉cx l->B.get? b=some o)/\(∀b u o,H' b=some u->h'.get? b=some o->B.get? b=some o)/\∃oe,h'.get? a=some oe/\oe.dict=dx
def bG(P:Program)(w:World):hU:=λouter H s E e s' =>
 ∃(a:Addr) (cls:Value) (dx:Option Addr) (H':Hp),e=.ref a/\s'.os=s.os/\AllBare s'.gens/\Un (cx outer) [] H H' s.heap s'.heap/\dM P w H' s'.heap/\H' a=none/\s.heap.get? a=none/\So outer H s.heap a cls dx H' s'.heap/\E cls dx H'
theorem dN.has{P:Program}{w:World}{H:Hp}{h:Heap}{a:Addr}{o:HO}(x:dN P w H h a o):∃ob,h.get? a=some ob:=by
 cases o with
 | lst xs=>obtain⟨_,_,_,_,e⟩:=x;exact⟨_,e⟩
 | tup xs=>obtain⟨_,_,_,ob,e,_⟩:=x;exact⟨_,e⟩
 | dK cE=>obtain⟨_,_,_,_,o,_,_,e,_⟩:=x;exact⟨_,e⟩
 | dT cE=>obtain⟨_,_,_,_,o,_,_,e,_⟩:=x;exact⟨_,e⟩
 | set S n=>obtain⟨o,_,_,_,e,_⟩:=x;exact⟨_,e⟩
 | ins C dx fs=>obtain⟨_,_,_,e,_⟩:=x;exact⟨_,e⟩
 | own y=>obtain⟨_,e⟩:=x;exact⟨_,e⟩
 | xd fs=>obtain⟨_,⟨_,_,_,e,_⟩,_⟩:=x;exact⟨_,e⟩
 | Bi lo hi=>obtain⟨_,_,_,e⟩:=x;exact⟨_,e⟩
 | iF ob u=>obtain⟨e,_⟩:=x;exact⟨_,e⟩
 | oT ps=>exact⟨_,x⟩
 | met f y=>exact⟨_,x⟩
 | ext φ=>obtain⟨_,⟨_,e⟩,_⟩:=x;exact⟨_,e⟩
section
variable{P:Program}{w:World}
theorem dM.based{H':Hp}{h' lA B:Heap}(ok:dM P w H' h')(T:∀b u o,H' b=some u->h'.get? b=some o->B.get? b=some o)(st:B.StaysIn lA):dM P w H' lA:=λa o e=>by
 refine(ok a o e).kN (λb u hb q=>?_) (λ_ q=>q) λ_ _ q=>q
 rcases hb with rfl|hb
 ·exact st b u (T b _ u e q)
 ·exact st b u (T b _ u hb q)
theorem Un.Ip{l l':List Env}{H H':Hp}{h h' lA B:Heap}{a:Addr}{cls a0:Value}(u:Un (cx l') [] H H' h h')(F:q_ B l a cls a0 h')(st:B.StaysIn lA)(up:h'.UpToSlots lA)(dk:DK h' lA)
  (old:∀b o,h.get? b=some o->H b=none->b∉cx l->B.get? b=some o) (sub:∀b∈cx l',b∈cx l) (nw:∀b∈cx l,b∉cx l'->h.get? b=none):Un (cx l') [] H H' h lA where
 keep:=λb o e n hb _=>by
  by_cases hl:b∈cx l
  ·rw[nw b hl hb] at e;cases e
  ·exact st b o (old b o e n hl)
 slot:=λb o e n hb hx=>by
  obtain⟨sl,e1⟩:=u.slot b o e n hb hx;obtain⟨_,ob,ho,nf⟩:=F.2.2.1.mem (sub b hb);rw[e1] at ho
  cases ho;obtain⟨fK,e2⟩:=up b _ e1 nf;exact⟨fK,e2⟩
 free:=u.free
 there:=λb o e hx=>by
  obtain⟨o',e1⟩:=u.there b o e hx;obtain⟨o2,e2,_⟩:=dk b o' e1;exact⟨o2,e2⟩
 jZ:=u.jZ
 jh:=u.jh
 jY:=u.jY
variable{K:aj}{mg:Str->Option Value}{base:Heap}{N:List Str}{qual:Str}{scope:Scope}{f:Addr}{cd:Value}{A:Around}{outer:List Env}{s:Shared}{H:Hp}{E:XK}
theorem Iv{env:Env}{l:List Env}{L:Addr}(h:env.frame=some L):cx (env::l)=L::cx l:=by
 unfold cx;rw[Gu,h]
theorem bh:Passes (bG P w) (eJ (bG P w) P w K mg base N qual scope f cd A outer s H E) E:=by
 intro pins σ H1 s1 e s' I hc;obtain⟨a,cls,dx,H',rfl,os,bare,un,aS,na,ha,⟨B,a0,F,b1,b2,oe,he,hd⟩,q⟩:=hc;have J:=I.xu (H':=H') os un aS bare (λb z=>absurd z (by simp))
 have eL:(eJ (bG P w) P w K mg base N qual scope f cd A outer s H E).env.frame=some s.heap.objs.size:=rfl;have sV:cx ((eJ (bG P w) P w K mg base N qual scope f cd A outer s H E).stack)=s.heap.objs.size::cx outer:=Iv eL;show wpAny _ _ (leaving _ (.ref a)) _ _ _;refine wpAny_mono ((Kn _ _).any (wpAny_leaves_onW (Q:=λ_ f_=>q_ B outer a cls a0 f_.heap/\s'.heap.UpToSlots f_.heap/\f_={ s' with heap:=f_.heap }) I.ok.frames eL F λh' F' U=>⟨F',U,rfl⟩)) (λ_ f_ z=>?_) λ_ _ z=>z
 obtain⟨⟨F',U,es⟩,dk⟩:=z;obtain⟨Ec,vg,_,gu⟩:=dk a oe he;have old:∀b o,s.heap.get? b=some o->H b=none->b∉cx ((eJ (bG P w) P w K mg base N qual scope f cd A outer s H E).stack)->B.get? b=some o:=λb o e n hb=>by
  have u_:b∉cx outer:=λz=>hb (by rw[sV];exact cP _ z)
  exact b1 b o (I.base.keep b o e n u_ (λz=>absurd z (by simp[eJ]))) (I.base.free b o e n (λz=>absurd z (by simp[eJ]))) hb
 have nw:∀b∈cx ((eJ (bG P w) P w K mg base N qual scope f cd A outer s H E).stack),b∉cx outer->s.heap.get? b=none:=λb hb nb=>by
  rw[sV] at hb;rcases bE.mp hb with z|z
  ·rw[z];exact RO (bH _)
  ·exact absurd z nb
 have sub:∀b∈cx outer,b∈cx ((eJ (bG P w) P w K mg base N qual scope f cd A outer s H E).stack):=λb hb=>by
  rw[sV];exact cP _ hb
 have AS:s.heap.get? a=none:=by
  cases z:s.heap.get? a with
  | none=>rfl
  | some o=>obtain⟨o',e'⟩:=I.base.there a o z (λz=>absurd z (by simp[eJ]));rw[ha] at e';cases e'
 refine⟨a,cls,dx,H',rfl,by rw[es];exact J.os,by rw[es];exact bare,J.base.Ip F F'.1 U dk old sub nw,aS.based b2 F'.1,na,AS,⟨B,a0,F',λb o e n hb=>?_,λb u o hu ho=>?_,Ec,vg,gu.trans hd⟩,q⟩
 ·by_cases hs:b∈cx ((eJ (bG P w) P w K mg base N qual scope f cd A outer s H E).stack)
  ·rw[nw b hs hb] at e;cases e
  ·exact old b o e n hs
 ·obtain⟨ob,Dy⟩:=(aS b u hu).has
  have z:=b2 b u ob hu Dy;rw[F'.1 b ob z] at ho
  cases ho;exact z
end
abbrev dP:List Value:=[.type "ValueError",.type "Exception",.type "BaseException",.type "object"]
def iT(h:Heap)(C:Addr)(bm:List Value)(N:Addr)(mN:Str->Option Value):Prop :=
 ∃nm qn bs Yx sn sub ab col dd k0 k1 k2 k3 k5,h.get? C=some (excClassObj nm qn C N bs bm Yx sn sub ab col dd k0 k1 k2 k3 k5 "ValueError.__new__")/\h.Ns N mN/\OwnTail h dP bm
def cF(K:aj)(C:Addr)(bm:List Value):Bool:=match K.lookup C with
 | some ⟨.type "type",_,.cls cd,sl⟩=>(match cd.mro,sl.toList with
  | .ref C'::tl,[_,_,_,_,some (.builtin n),_]=>C'==C&&tl==bm&&n=="ValueError.__new__" && !cd.hasDel&&PySem.W.tailIn K dP bm&&PySem.W.nsOkIn K cd.ns
  | _,_=>false)
 | _=>false
theorem iT.of{K:aj}{h:Heap}{C:Addr}{bm:List Value}(X:K.In h)(q:cF K C bm=true):∃N mN,iT h C bm N mN/\(uo K C).map (·.ns)=some N:=by
 unfold cF at q
 split at q
 case h_2=>cases q
 case h_1 d cd sl lk =>
  split at q
  case h_2=>cases q
  case h_1 C2 tl a b c d2 n e2 hm hs =>
   simp only[de,beq_iff_eq,Gf] at q;obtain⟨⟨⟨⟨⟨c1,c2⟩,c3⟩,c4⟩,c5⟩,c6⟩:=q;subst c1 c2 c3;obtain⟨l⟩:=sl
   try dsimp only at hs
   subst hs;obtain⟨nm,bs,mro,ns,qn,hd,sn,sub,ab,col,del⟩:=cd
   try dsimp only at hm c4 c6
   subst hm c4;exact⟨ns,_,⟨nm,qn,bs,hd,sn,sub,ab,col,d,a,b,c,d2,e2,X _ _ lk,.of_isNs (PySem.W.isNs_of_in X c6),PySem.W.tail_of_in X c5⟩,by unfold uo;rw[lk];rfl⟩
theorem iT.keeps{h h':Heap}{C:Addr}{bm:List Value}{N:Addr}{mN:Str->Option Value}(x:iT h C bm N mN)(k:∀b o,h.get? b=some o->h'.get? b=some o):iT h' C bm N mN:=by
 obtain⟨nm,qn,bs,hd,sn,sub,ab,col,dd,k0,k1,k2,k3,k5,e,n,t⟩:=x;exact⟨nm,qn,bs,hd,sn,sub,ab,col,dd,k0,k1,k2,k3,k5,k _ _ e,n.keeps k,t.keeps k⟩
structure w9(K:aj)(C:Addr)(bm:List Value):Prop where
 ec:cF K C bm=true
 ni:((uo K C).map (·.ns)).bind (λN=>cC K N "__init__")=some none
def PX(X:Cx)(ex:Expr)(tx:St->Hp->VK->XK->Prop):Prop :=
 ∀(pins:List (Addr×Obj)) (s:Shared) (σ:St) (H:Hp) (Q:VK) (E:XK),Inv X pins σ H s->tx σ H Q E->wpAny (model X.prog X.w) X.A (eval ex X.env) (EP X pins σ Q) (λe s'=>∃H1 s1,Inv X pins σ H1 s1/\bG X.prog X.w X.stack H1 s1 E e s') s
def PB(X:Cx)(body:List Stmt)(tb:Ends->XK->St->Hp->Prop):Prop :=
 ∀(pins:List (Addr×Obj)) (s:Shared) (σ:St) (H:Hp) (D:Ends) (E:XK),Inv X pins σ H s->tb D E σ H->wpAny (model X.prog X.w) X.A (execs body X.env) (SP X pins D) (λe s'=>∃H1 s1,Inv X pins σ H1 s1/\bG X.prog X.w X.stack H1 s1 E e s') s
section
variable{X:Cx}{k:Nat}{f:Addr}{fd:FuncData}{ps:List Str}{sp:Sp}{x:Str}{p pos:Pos}{e:Expr}{es:List Expr}{t:TA}
theorem adS(F:ax X.prog X.w X.K X.mg X.base (bG X.prog X.w) k f fd ps sp)(hr:cZ k X.A)(hg:Gl X x)(hm:X.mg x=some (.ref f))(hk:jz X.K (.ref f)=true)(hb:Binds X.K fd ps [])
  (ha:PA X.aD (e::es) t) (cG:(x==("__debug__" : Str))=false:=by decide) (he:starEach (e::es) X.env=(false,eval e X.env)::starEach es X.env:=by rfl) (cL:(backTo pos (starEach es X.env)).any (·.1)=false:=by rfl) :
  PX X (.Call (.Name x p) (e::es) [] pos) (λσ H Q E=>t σ H λvs H1=>sp vs H1 Q E):=by
 intro pins s σ H Q E I h;refine wpAny_Call_Name_kw (oy I hg hm ?_ cG);refine B3 (h₀:=X.base) I.ok.mod.jv hk (wpAny_mono (ha pos pins s σ H _ (I.aI _) h) (λus s1 ⟨vs,H1,Ss,r,q⟩=>?_) λ_ _ z=>False.elim z) he cL
 have I1:=Ss.m6;refine⟨I1.cM,?_⟩;have hl:us.length=ps.length:=by rw[<-r.length];exact F.len _ _ _ _ q
 have uG:=hb s1 us I1.cM (by rw[eY];exact hl)
 rw[eY] at uG;refine wpAny_call (codeAny_mono (F.run X.A X.stack s1 H1 ⟨us,[]⟩ us vs Q E hr I1.zh uG r q) λr s' hq=>?_)
 cases r with
 | error e=>exact⟨H1,s1,I1,hq⟩
 | ok fl =>
  cases fl with
  | ret u=>exact I1.after hq
  | next=>exact False.elim hq
  | brk=>exact False.elim hq
  | cont=>exact False.elim hq
theorem ac7{ex:Expr}{tx:St->Hp->VK->XK->Prop}(hx:PX X ex tx)(hs:swapsWith ex none pos.line X.env=pure false:=by rfl):PB X [.Expr ex pos] (λD E σ H=>tx σ H (λ_ H1=>D.nx σ H1) E):=by
 intro pins s σ H D E I h;refine wpAny_execs_cons (aZ (wpAny_Expr_any (Q:=λfl s1=>fl=.next/\SP X pins D .next s1) (aZ (hx pins s σ H _ E I h) λv s1 ⟨y,H1,I1,r1,q1⟩=>⟨rfl,σ,H1,I1,q1⟩) I.quiet hs) λfl s1 q=>?_)
 obtain⟨rfl,q⟩:=q;exact wpAny_execs_nil q
end
abbrev Cx.hold(X:Cx)(e:Addr)(o:Obj):Cx:={ X with A:=X.A.mark (some (.ref e)),calm:=false,pn:=X.pn++[(e,o)],xe:=λ_ _=>False }
section
variable{X:Cx}{pins:List (Addr×Obj)}{σ:St}{H:Hp}{s:Shared}{a:Addr}{o:Obj}
theorem Cx.Ok.hold(ok:X.Ok)(e:Addr)(o:Obj):(X.hold e o).Ok :=
 ⟨ok.mod,ok.kind,ok.glob,ok.blt,ok.above,ok.inj,ok.has,ok.ny,(λz=>Bool.noConfusion z),ok.frames,ok.gb,ok.uW,ok.bs,ok.iW,ok.mK,ok.pU,ok.ic,ok.ly⟩
theorem Inv.hold(I:Inv X pins σ H s)(h1:s.heap.get? a=some o)(h2:H a=none)(h3:a≠X.env.locals)(h4:a∉X.fs)(h5:∀v,o.data≠.cell v):Inv (X.hold a o) pins σ H s:=by
 refine⟨I.ok.hold a o,I.os,I.bare,I.base,I.loc,I.cell,I.free,I.iZ,λp hp=>?_,I.aS,I.len⟩
 have hp:p∈(X.pn++[(a,o)])++pins:=hp;rcases dH.mp hp with hp|hp
 ·rcases dH.mp hp with hp|hp
  ·exact I.pin p (kR _ hp)
  ·cases dc.mp hp
   exact⟨h1,h2,h3,h4,h5⟩
 ·exact I.pin p (eG _ hp)
theorem Inv.BO(ok:X.Ok)(I:Inv (X.hold a o) pins σ H s):Inv X pins σ H s:=by
 refine⟨ok,I.os,I.bare,I.base,I.loc,I.cell,I.free,I.iZ,λp hp=>I.pin p ?_,I.aS,I.len⟩
 show p∈(X.pn++[(a,o)])++pins;rcases dH.mp hp with hp|hp
 ·exact kR _ (kR _ hp)
 ·exact eG _ hp
theorem Al{M:Model}{A:Around}{E:Value->Shared->Prop}{i:Nat}{n:Str}{pos:Pos}{Q:Unit->Shared->Prop}(I:Inv X pins σ H s)(hN:X.N.Nodup)(hi:X.N[i]?=some n)(hl:X.env.scope.names.lookup n=some .local)
  (h:∀s',Inv X pins (σ.set i none) H s'->Q () s'):wpAny M A (do bindName X.env n .none;unbindBehindTheSuite X.env n pos) Q E s:=by
 have vc:(X.env.scope.kind==.class||(X.env.scope.kind==.module&&X.env.locals != X.env.globals))=false:=by rw[I.ok.kind];rfl
 refine wpAny_bind (wpAny_bindName (Bn I hN hi (.inl hl) (v:=.aR) (u:=.none) rfl (λs1 J=>?_) (.inr hl)))
 unfold unbindBehindTheSuite;refine wpAny_onRaise ?_;obtain⟨m,hn,JM⟩:=id J.loc;have vj:i<σ.length:=by rw[I.len];exact(iM.mp hi).1
 obtain⟨u,_,lk⟩:=JM i n .aR hi (Gy vj) (.inl hl);have hv:m n=some u:=by
  rcases lk with ⟨_,z⟩|⟨z,_⟩
  ·exact z
  ·have z:X.env.scope.names.lookup n=some .cell\/X.env.scope.names.lookup n=some .free:=z
   rw[hl] at z;rcases z with z|z<;>cases z
 refine wpAny_unbindName_local hl hn hv vc λh' u' Dw hs=>?_
 obtain⟨oL,_,_,JS,_⟩:=id hn;have kd:=J.kd;have old:∀b o,X.dq.heap.get? b=some o->b≠X.env.locals:=λb o e=>cQ (dI (bQ e) J.ok.above)
 refine h _ ⟨J.ok,J.os,J.bare,⟨λb o e n hb hx=>(hs.2 b (old b o e)).trans (J.base.keep b o e n hb hx),λb o e n hb hx=>?_,J.base.free,λb o e hx=>?_,J.base.jZ,J.base.jh,J.base.jY⟩,⟨_,Dw,λj y v' e1 e2 e3=>?_⟩,λy c e=>?_,J.free,J.iZ,λp hp=>?_,λb ob e=>?_,by simpa using I.len⟩
 ·obtain⟨sl,e1⟩:=J.base.slot b o e n hb hx
  exact⟨sl,(hs.2 b (old b o e)).trans e1⟩
 ·obtain⟨o',e1⟩:=J.base.there b o e hx
  exact⟨o',(hs.2 b (old b o e)).trans e1⟩
 ·by_cases hj:j=i
  ·subst hj
   rw[Gy vj] at e2
   cases e2
  ·rw[Gx (Ne.symm hj)] at e2
   obtain⟨w',r',q⟩:=JM j y v' e1 (by rw[Gx (Ne.symm hj)];exact e2) e3
   refine⟨w',r',?_⟩;rcases q with ⟨k,e⟩|⟨k,c,e,z⟩
   ·refine .inl ⟨k,?_⟩
    have ne:y≠n:=λe=>hj (D6 hN e1 (e ▸ hi))
    show (if y=n then u' else m y)=some w'
    rw[if_neg ne];exact e
   ·exact .inr ⟨k,c,e,z.sameBut hs (kd y c e)⟩
 ·obtain⟨w',z⟩:=J.cell y c e
  exact⟨w',z.sameBut hs (kd y c e)⟩
 ·obtain⟨e,n,ne,nf,d⟩:=J.pin p hp
  exact⟨(hs.2 p.1 ne).trans e,n,ne,nf,d⟩
 ·refine(J.aS b ob e).kN (λc w' hc q=>(hs.2 c ?_).trans q) (λ_ q=>q) λ_ _ q=>q
  rintro rfl;rcases hc with z|hc
  ·rw[<-z,J.free] at e;cases e
  ·rw[J.free] at hc;cases hc
end
theorem Wd{M:Model}{A:Around}{E:Value->Shared->Prop}{s:Shared}{e C D:Addr}{oe:Obj}{bm bd:List Value}{N N':Addr}{mN KC:Str->Option Value}{Q:Bool->Shared->Prop}(hC:iT s.heap C bm N mN)(hD:iT s.heap D bd N' KC)
  (he:s.heap.get? e=some oe) (vc:oe.cls=.ref C) (q:Q ((bM C::bm).contains (.ref D)) s):wpAny M A (excMatches (.ref e) (.ref D)) Q E s:=by
 obtain⟨nm,qn,bs,hd,sn,sub,ab,col,dd,k0,k1,k2,k3,k5,e0,n0,t0⟩:=hC;obtain⟨nm',qn',bs',gu,sn',ajD,ab',ai1,dd',k0',k1',k2',k3',k5',HR,n0',t0'⟩:=hD;have hb:(bM D::bd).contains (.type "BaseException")=true:=by rw[Sa,t0'.hasType wJ.hasBase,aic]
 have f:=tc_notTuple;obtain⟨hp,g,d,t,os⟩:=s;generalize hr:(bM C::bm).contains (.ref D)=r at q;unfold excMatches
 repeat (first|(with_reducible refine wpAny_loadPart_at he ?_;rw[vc])|with_reducible refine wpAny_loadPart_at HR ?_|(with_reducible refine wpAny_isSubtype_exc HR ?_;rw[hb])|(with_reducible refine wpAny_isSubtype_exc e0 ?_;rw[hr])|wp_step)
 cases r<;>(wp_walk;exact q)
structure l_(o:Obj)(C:Addr)(dx:Option Addr):Prop where
 cls:o.cls=.ref C
 dict:o.dict=dx
 no:aim o=true
structure B_(K:aj)(C D:Addr):Prop where
 w:∃bm bd,cF K C bm=true/\cF K D bd=true/\(bM C::bm).contains (.ref D)=true
def Cr(D:Ends)(i:Nat):Ends:={ nx:=λσ H=>D.nx (σ.set i none) H,rt:=D.rt,bk:=λσ H=>D.bk (σ.set i none) H,ct:=λσ H=>D.ct (σ.set i none) H }
def aft(K:aj)(Dc:Addr)(i:Nat)(tb:Ends->XK->St->Hp->Prop)(th:Addr->Obj->TS):TS:=λD σ H =>
 tb D (λcls dx H'=>∃C,cls=.ref C/\B_ K C Dc/\∀e o,H' e=none->l_ o C dx->th e o (Cr D i) (σ.set i (some (.ref e))) H') σ H
section
variable{X:Cx}{body Bo:List Stmt}{xt:Stmt}{np hp pos:Pos}{cn n:Str}{i:Nat}{Dc:Addr}{tb:Ends->XK->St->Hp->Prop}{th:Addr->Obj->TS}
theorem agE{pins:List (Addr×Obj)}{σ:St}{a:Addr}{s':Shared}{name:Option Str}{Q:Flow->Shared->Prop}{W:Value->Option Addr->Hp->Prop}(kq:X.stack=X.env::X.outer)(jq:X.env.frame=some X.env.locals)
  (hg:Gl X cn) (hm:X.mg cn=some (.ref Dc)) (cG:(cn==("__debug__" : Str))=false)
  (z:∃H1 s1,Inv X.aD pins σ H1 s1/\bG X.prog X.w X.aD.stack H1 s1 (λcls dx H'=>∃C,cls=.ref C/\B_ X.K C Dc/\W cls dx H') (.ref a) s')
  (k:∀(h5:Heap) (H':Hp) (C:Addr) (oe:Obj),Inv (X.aD.hold a oe) pins σ H' { s' with heap:=h5 }->H' a=none->oe.cls=.ref C->W (.ref C) oe.dict H' ->
   (∀Q':Unit->Shared->Prop,(∀h6 oH,Inv (X.aD.hold a oH) pins σ H' { s' with heap:=h6 }->l_ oH C oe.dict->Q' () { s' with heap:=h6 })->∀(A':Around) (E':Value->Shared->Prop),wpAny (model X.prog X.w) A' (setFlight (.ref a) none) Q' E' { s' with heap:=h5 }) ->
   codeAny (model X.prog X.w) (X.A.mark (some (.ref a))) (.handlers (.ref a) [.ExceptHandler none name (xt::Bo) hp] X.env) (λr aJ=>match r with
     | .ok f=>(match name with
      | none=>Q f aJ
      | some n=>wpAny (model X.prog X.w) X.A (do bindName X.env n .none;unbindBehindTheSuite X.env n hp) (λ_ fw=>Q f fw) (λ_ _=>False) aJ)
     | .error x=>cameBackBy (model X.prog X.w) X.A X.env (λ_ _=>False) x aJ) { s' with heap:=h5 }) :
  wpAny (model X.prog X.w) X.A (noteFrame (.ref a) X.env) (λ_ aJ=>wpAny (model X.prog X.w) X.A (setFlight (.ref a) none) (λ_ fw =>
   wpAny (model X.prog X.w) X.A (handleBy (.ref a) X.env [.ExceptHandler (some (.Name cn np)) name (xt::Bo) hp]) Q (λ_ _=>False) fw) (λ_ _=>False) aJ) (λ_ _=>False) s':=by
 obtain⟨H1,s1,I1,a',cls,dx,H',ea,os,bare,un,aS,na,ha,⟨B,a0,F,b1,b2,oe,he,hd⟩,C,rfl,⟨bm,bd,cc,cd,cm⟩,q⟩:=z
 cases ea;have F:q_ B (X.env::X.outer) a (.ref C) a0 s'.heap:=kq ▸ F;have fr:X.A.frames=some (X.env::X.outer):=kq ▸ I1.ok.frames;have un:Un (cx (X.env::X.outer)) [] H1 H' s1.heap s'.heap:=kq ▸ un;have b1:∀b o,s1.heap.get? b=some o->H1 b=none->b∉cx (X.env::X.outer)->B.get? b=some o:=kq ▸ b1;have aL:a≠X.env.locals:=λz=>by
  obtain⟨_,⟨o,_,_,ho,_⟩,_⟩:=I1.loc;rw[z] at ha;rw[show s1.heap.get? X.env.locals=some o from ho] at ha
  cases ha
 have aF:a∉X.fs:=λz=>by
  obtain⟨_,o,ho,_⟩:=I1.ic.mem z;rw[ha] at ho;cases ho
 have land:∀h5,q_ B (X.env::X.outer) a (.ref C) a0 h5->s'.heap.UpToSlots h5->DK s'.heap h5->∃qD,Inv (X.aD.hold a qD) pins σ H' { s' with heap:=h5 }/\l_ qD C dx:=λh5 F5 U5 K5=>by
  obtain⟨qD,JE,c5,d5⟩:=K5 a oe he;obtain⟨o',vs,i4,lC,gu,_⟩:=F5.first;rw[JE] at i4
  cases i4;have u5:=un.Ip F F5.1 U5 K5 b1 (λb hb=>hb) (λb h1 h2=>absurd h1 h2)
  have J:=I1.xu (s':={ s' with heap:=h5 }) (ch:=[]) os (by show Un (cx X.stack) _ _ _ _ _;rw[kq];exact u5) (aS.based b2 F5.1) bare (λb z=>absurd z (by simp))
  exact⟨qD,J.hold JE na aL aF (λv z=>by rw[gu] at z;cases z),lC,d5.trans hd,by unfold aim;rw[gu]⟩
 refine wpAny_mono ((Ko _ _).any (wpAny_looks_onW (Q:=λ_ s2=>∃h4,s2={ s' with heap:=h4 }/\Heap.HeldW B (X.env::X.outer) a (.ref C) a0 X.env.locals h4/\s'.heap.UpToSlots h4) fr jq F λh4 x U=>⟨h4,rfl,x,U⟩)) (λ_ s2 z2=>?_) λ_ _ z=>z
 obtain⟨⟨h4,rfl,held,U4⟩,VC⟩:=z2;refine wpAny_mono ((DI _ _).any (wpAny_landsW (Q:=λ_ s3=>∃h5,s3={ s' with heap:=h5 }/\q_ B (X.env::X.outer) a (.ref C) a0 h5/\h4.UpToSlots h5) held λh5 x U=>⟨h5,rfl,x,U⟩)) (λ_ s3 z3=>?_) λ_ _ z=>z
 obtain⟨⟨h5,rfl,F5,U5⟩,VD⟩:=z3;have dk:DK s'.heap h5:=VC.trans VD;obtain⟨qD,J5,c5,d5,n5⟩:=land h5 F5 (U4.trans U5) dk;obtain⟨N,mN,xc,_⟩:=iT.of I1.ok.mod.jv cc;obtain⟨N',KC,xd,_⟩:=iT.of I1.ok.mod.jv cd;have Tz:=(J5.pin (a,qD) (kR _ (eG _ (dc.mpr rfl)))).1;refine wpAny_handleBy_cons (codeAny_handlers_test (oy J5 hg hm ?_ cG)) (by intro q;cases q)
 refine Wd (xc.keeps J5.bk) (xd.keeps J5.bk) Tz c5 ?_;rw[cm];refine k h5 H' C qD J5 na c5 (by rw[d5];exact q) λQ' hQ A' E'=>?_
 refine wpAny_mono ((DI _ _).any (lands_againW (Q:=λ_ s3=>∃h6,s3={ s' with heap:=h6 }/\q_ B (X.env::X.outer) a (.ref C) a0 h6/\h5.UpToSlots h6) F5 λh6 x U=>⟨h6,rfl,x,U⟩)) (λ_ s3 z3=>?_) λ_ _ z=>z
 obtain⟨⟨h6,rfl,F6,U6⟩,VE⟩:=z3;obtain⟨oH,J6,c6,d6,n6⟩:=land h6 F6 ((U4.trans U5).trans U6) (dk.trans VE);exact hQ h6 oH J6 ⟨c6,d6.trans d5.symm,n6⟩
theorem adI(hN:X.N.Nodup)(hg:Gl X cn)(hm:X.mg cn=some (.ref Dc))(hb:PB X.aD body tb)(hh:∀e o,gG (X.aD.hold e o) (xt::Bo) (th e o))(hi:X.N[i]?=some n:=by rfl)(hl:X.env.scope.names.lookup n=some .local:=by rfl)
  (kq:X.stack=X.env::X.outer:=by rfl) (jq:X.env.frame=some X.env.locals:=by rfl) (cG:(cn==("__debug__" : Str))=false:=by decide) :
  PS X.aD (.Try body [.ExceptHandler (some (.Name cn np)) (some n) (xt::Bo) hp] [] [] pos) (aft X.K Dc i tb th):=by
 intro pins s σ H D I h;refine wpAny_Try_except (wpAny_mono (hb pins s σ H D _ I h) (λfl s1 q=>?_) λe s' z=>?_)
 ·cases fl with
  | next=>exact wpAny_execs_nil q
  | brk=>exact q
  | cont=>exact q
  | ret u=>exact q
 ·obtain⟨a,rfl⟩:∃a,e=.ref a:=by obtain⟨_,_,_,a,_,_,_,ea,_⟩:=z;exact⟨a,ea⟩
  refine agE (X:=X) (pins:=pins) (σ:=σ) (name:=some n) (W:=λcls dx H'=>∃C,cls=.ref C/\∀e o,H' e=none->l_ o C dx->th e o (Cr D i) (σ.set i (some (.ref e))) H') kq jq hg hm cG ?_ λh5 H' C oe J5 na c5 q land=>?_
  ·obtain⟨H1,s1,I1,a',cls,dx,H',r1,r2,r3,r4,r5,r6,r7,r8,C,rfl,ct,q⟩:=z
   exact⟨H1,s1,I1,a',_,dx,H',r1,r2,r3,r4,r5,r6,r7,r8,C,rfl,ct,C,rfl,q⟩
  ·obtain⟨C',e',q⟩:=q
   cases e';refine codeAny_handlers_suite_as (land _ (λh6 oH J6 x6=>?_) _ _)
   refine Bn (X:=X.aD.hold a oH) J6 hN hi (.inl hl) (v:=.ref a) (u:=.ref a) rfl (λs7 J7=>?_) (.inr hl)
   refine wpAny_mono (hh a oH pins s7 _ H' (Cr D i) J7 (q a oH na x6)) (λfl s8 z=>?_) (λ_ _ z=>False.elim z)
   cases fl with
   | next=>obtain⟨aM,H2,J8,q8⟩:=z;exact Al (X:=X.aD) (Inv.BO I.ok J8) hN hi hl λs9 J9=>⟨_,H2,J9,q8⟩
   | brk=>obtain⟨aM,H2,J8,q8⟩:=z;exact Al (X:=X.aD) (Inv.BO I.ok J8) hN hi hl λs9 J9=>⟨_,H2,J9,q8⟩
   | cont=>obtain⟨aM,H2,J8,q8⟩:=z;exact Al (X:=X.aD) (Inv.BO I.ok J8) hN hi hl λs9 J9=>⟨_,H2,J9,q8⟩
   | ret u=>obtain⟨v,aM,H2,J8,r8,q8⟩:=z;exact Al (X:=X.aD) (Inv.BO I.ok J8) hN hi hl λs9 J9=>⟨v,_,H2,J9,r8,q8⟩
end
end L2
namespace L2
open PySem PySem.Spec PyProof.Rows PySem.W
structure uA(K:aj)(C:Addr):Prop where
 ga:findIn K (.ref C) "__getattribute__" = some (some (.builtin "BaseException.__getattribute__"))
 gh:findIn K (.ref C) "__getattr__" = some none
 mb:mroIn K C (.type "BaseException")=some true
 mo:mroIn K C (.type "object")=some true
 ca:findIn K (.ref C) "__class__" = some (some (.builtin "object.__class__"))
 cg:specialIn K (.builtin "object.__class__") "__get__" = some (some (.builtin "getset_descriptor.__get__"))
 ck:takesIn K (.builtin "object.__class__")=some true
section
variable{prog:Program}{w:World}{A:Around}{E:Value->Shared->Prop}{s:Shared}{K:aj}{x C:Addr}{ox:Obj}{od:Option Obj}{name:Str}{tk:Tok}
theorem ag2{M:Model}{nv:Value}{Q:Unit->Shared->Prop}(X:K.In s.heap)(I:InstAt s.heap x ox C od)(hb:mroIn K C (.type "BaseException")=some true)(hq:Q () s) :
  wpAny M A (checkBuiltinCall "BaseException.__getattribute__" ⟨[.ref x,nv],[]⟩) Q E s:=by
 have hk:builtinKind "BaseException.__getattribute__" = some .slot:=by decide +kernel
 have hs:splitId "BaseException.__getattribute__" = some ("BaseException","__getattribute__"):=by decide +kernel
 have ha:=F.args_bexc_ga (.ref x) nv;have L:Looks M s.heap (isInstance (.ref x) (.type "BaseException")) true:=I.type.andThen (looks_mroIn X hb);obtain⟨h,g,d,t,os⟩:=s;simp only[checkBuiltinCall,hk,hs];refine wpAny_bind (L.at ?_)
 repeat (any_goals (first|assumption|wp_step))
theorem Rw{fill expr:Bool}{Q:Value->Shared->Prop}(X:K.In s.heap)(I:InstAt s.heap x ox C od)(a:uA K C)
  (h:∀A',wpAny (model prog w) A' (Builtin.«object.__getattribute__» ⟨[.ref x,.str name tk],[]⟩) (λfin s'=>match fin with|.done (.ret v)=>wpAny (model prog w) A (handedOut v) Q E s'|_=>False) (λ_ _=>False) s) :
  wpAny (model prog w) A (getAttrBy (.ref x) (.str name tk) fill expr) Q E s:=by
 have L0:=I.type (M:=model prog w);have L1:=looks_findIn (M:=model prog w) X a.ga;have L2:Looks (model prog w) s.heap (hookBefore (.ref C)) none:=looks_hook X (show findIn K (.ref C) "__getattr__" = _ from a.gh)
 obtain⟨hh,g,d,t,os⟩:=s;unfold getAttrBy;refine wpAny_holding (wpAny_bind (L0.at (wpAny_bind (L1.at ?_))));have e1:(onTheHeap (.ref C)&&Gh "BaseException.__getattribute__" == .builtin "object.__getattribute__")=false:=by
  rw[show (Gh "BaseException.__getattribute__" == Gh "object.__getattribute__")=false from by decide +kernel];rfl
 show wpAny _ _ (if (onTheHeap (.ref C)&&Gh "BaseException.__getattribute__" == .builtin "object.__getattribute__")=true then _ else _) _ _ _
 rw[if_neg (by rw[e1];exact eo)]
 unfold getAttrByItsOwn;refine wpAny_bind (L2.at (wpAny_bind (wpAny_attempt (wpAny_holding ?_))));unfold callGetattribute;rw[if_neg (by cases expr<;>exact eo)]
 unfold boundAndCalled;refine wpAny_bind (wpAny_of_eq (ahY.ga.bind (.ref x)) ?_);refine wpAny_call (codeAny_call_builtin ahY.ga.plain F.entry_bexc_ga (ag2 X I a.mb ?_));refine wpAny_mono (h _) (λfin s' z=>?_) λ_ _ z=>False.elim z
 rcases fin with (_|_|_|_)|_<;>first|exact z|exact z.elim
theorem ag4{expr:Bool}{v:Value}{Q:Value->Shared->Prop}(X:K.In s.heap)(I:InstAt s.heap x ox C od)(a:uA K C)(hf:findObj K C od name=some (.value v))(hh:handedIn v=true)(hq:Q v { s with toks:=s.toks+1 }) :
  wpAny (model prog w) A (getAttr (.ref x) name expr) Q E s:=by
 obtain⟨hp,g,d,t,os⟩:=s;unfold getAttr;refine wpAny_bind (wpAny_mkText (Rw X I a λA'=>?_))
 have L0:=I.type (M:=model prog w);have L1:=looks_find (M:=model prog w) X I hf;unfold Builtin.«object.__getattribute__»;refine wpAny_bind (wpAny_pure (wpAny_bind (wpAny_pure (wpAny_bind (L0.at (wpAny_bind (L1.at ?_)))))));refine wpAny_pure ?_;show wpAny _ _ (handedOut v) _ _ _;rw[handedOut_of hh];exact wpAny_pure hq
theorem Wj{g a:Value}(hc:(clsIn K C).isSome=true)(e1:findIn K (.ref C) name=some (some a))(e2:specialIn K a "__get__" = some (some g))(e3:takesIn K a=some true):findObj K C od name=some (.bind g a):=by
 obtain⟨cd,z⟩:=Gb.mp hc;unfold findObj;rw[z];simp[e1,e2,e3]
theorem ag3{Q:Option Value->Shared->Prop}(hc:(clsIn K C).isSome=true)(X:K.In s.heap)(I:InstAt s.heap x ox C od)(a:uA K C)(hq:Q (some (.ref C)) { s with toks:=s.toks+1 }) :
  wpAny (model prog w) A (getAttr? (.ref x) "__class__") Q E s:=by
 obtain⟨hp,g,d,t,os⟩:=s;unfold getAttr? getAttrBy?;refine wpAny_bind (wpAny_mkText (wpAny_bind (wpAny_attempt (Rw (s:=⟨hp,g,d,t+1,os⟩) X I a λA'=>?_))))
 have L0:=I.type (M:=model prog w);have L1:=looks_find (M:=model prog w) X I (Wj (od:=od) hc a.ca a.cg a.ck);unfold Builtin.«object.__getattribute__»;refine wpAny_bind (wpAny_pure (wpAny_bind (wpAny_pure (wpAny_bind (L0.at (wpAny_bind (L1.at ?_)))))));refine wpAny_bind (wpAny_holding (wpAny_call (class_get (s:=⟨hp,g,d,t+1,os⟩) X I a.mo ?_)));exact wpAny_pure (wpAny_pure (wpAny_pure hq))
theorem Ks(hc:(clsIn K C).isSome=true)(a:uA K C):KitX K (.ref x) (.ref C) (λh=>InstAt h x ox C od) where
 ty:=λ_ _ _ I=>I.type
 it:=λ_ _ X _=>by
  unfold clsIn at hc
  split at hc
  case h_2=>cases hc
  case h_1 cd lk =>
   intro A1 Q1 E1 s1 k1 q1;unfold isType loadHead;exact wpAny_bind (wpAny_loadPart (k1 _ _ (X _ _ lk)) (wpAny_pure q1))
 ne:=λh tp dd ao n sl X Y7=>by
  unfold clsIn at hc
  split at hc
  case h_2=>cases hc
  case h_1 cd lk =>
   refine RJ.mpr λq=>?_
   have e:C=tp:=bM.inj (beq_iff_eq.mp q);subst e;have z:=(X _ _ lk).symm.trans Y7
   cases z
 ca:=λX I k=>ag3 hc X I a k
end
structure rG(K:aj)(C:Addr):Prop where
 cl:(clsIn K C).isSome=true
 at_:uA K C
section
variable{X:Cx}{pins:List (Addr×Obj)}{σ:St}{H:Hp}{s:Shared}{e C:Addr}{o:Obj}{dx:Option Addr}
def w6(H:Hp)(dx:Option Addr):Prop:=∀d,dx=some d->∃fs,H d=some (.xd fs)
theorem Inv.held(I:Inv X pins σ H s)(hm:(e,o)∈X.pn)(x:l_ o C dx)(hd:w6 H dx):∃od,InstAt s.heap e o C od:=by
 have k_:=(I.pin _ (kR _ hm)).1
 cases dx with
 | none=>exact⟨none,k_,x.cls,x.no,by rw[x.dict];trivial⟩
 | some d =>
  obtain⟨fs,hf⟩:=hd d rfl;obtain⟨od,ho⟩:=(I.aS d _ hf).has;exact⟨some od,k_,x.cls,x.no,by rw[x.dict];exact ho⟩
theorem Ro:∀{ds:List Addr} {ao:List Value},Vals (ds.map V.ref) ao->ao=ds.map bM
 | [],_,.nil=>rfl
 | d::ds,_,.cons a t=>by
  obtain rfl:=(show _=bM d from a)
  rw[Ro t];rfl
def Vg:V->Value->Prop:=λv c=>(∃n,v=.ty n/\c=.type n)\/(∃D,v=.ref D/\c=.ref D)
theorem Hy:gi X (.builtin "isinstance") (λxs H Q=>∃(e:Addr) (o:Obj) (C:Addr) (dx:Option Addr) (v:V) (c:Value) (b:Bool),xs=[.ref e,v]/\(e,o)∈X.pn/\l_ o C dx/\w6 H dx/\rG X.K C/\Vg v c/\kitOne X.K (.ref C) c=some b/\Q (.bl b) H):=by
 intro pins s σ H xs us Q I r h;obtain⟨e,o,C,dx,v,c,b,rfl,hm,xo,xd,xi,cv,k,q⟩:=h;obtain⟨u1,u2,rfl,r1,r2⟩:=vals2 r;obtain rfl:u1=bM e:=r1;obtain⟨od,J⟩:=I.held hm xo xd;have e2:u2=c:=by
  rcases cv with ⟨n,rfl,rfl⟩|⟨D,rfl,rfl⟩
  ·exact r2
  ·exact r2
 subst e2;exact kia_one (Ks (od:=od) (ox:=o) xi.cl xi.at_) I.cM J k (λz=>nomatch z) λtk=>⟨.bl b,H,I.tok tk,rfl,q⟩
theorem US:gi X (.builtin "isinstance") (λxs H Q=>∃(e:Addr) (o:Obj) (C tp:Addr) (dx:Option Addr) (ds:List Addr) (b:Bool),xs=[.ref e,.ref tp]/\H tp=some (.tup (ds.map V.ref))/\(e,o)∈X.pn/\l_ o C dx/\w6 H dx/\rG X.K C/\kitAny X.K (.ref C) (ds.map bM)=some b/\Q (.bl b) H):=by
 intro pins s σ H xs us Q I r h;obtain⟨e,o,C,tp,dx,ds,b,rfl,ht,hm,xo,xd,xi,k,q⟩:=h;obtain⟨u1,u2,rfl,r1,r2⟩:=vals2 r;obtain rfl:u1=bM e:=r1;obtain rfl:u2=bM tp:=r2;obtain⟨od,J⟩:=I.held hm xo xd;obtain⟨_,ao,rv,p⟩:=(show dN X.prog X.w H s.heap tp (.tup (ds.map V.ref)) from I.aS tp _ ht)
 obtain⟨⟨oc,od2,oda,sl⟩,h1,h2,h3⟩:=p;have ei:ao=ds.map bM:=Ro rv;subst ei;obtain⟨n,h3⟩:=h3
 try dsimp only at h2 h3
 subst h2 h3;exact kia_tup (Ks (od:=od) (ox:=o) xi.cl xi.at_) I.cM J h1 k (λz=>nomatch z) λtk=>⟨.bl b,H,I.tok tk,rfl,q⟩
end
theorem zg{K:aj}{C:Addr}{bm:List Value}(q:cF K C bm=true):∃d cd sl,K.lookup C=some ⟨.type "type",d,.cls cd,sl⟩/\cd.mro=.ref C::bm:=by
 unfold cF at q
 split at q
 case h_2=>cases q
 case h_1 d cd sl lk =>
  split at q
  case h_2=>cases q
  case h_1 C2 tl a b c d2 n e2 hm hs =>
   simp only[de,beq_iff_eq,Gf] at q;obtain⟨⟨⟨⟨⟨c1,c2⟩,_⟩,_⟩,_⟩,_⟩:=q;subst c1 c2;exact⟨d,cd,sl,lk,hm⟩
theorem HS{K:aj}{C:Addr}{bm:List Value}(q:cF K C bm=true):(clsIn K C).isSome=true:=by
 obtain⟨d,cd,sl,lk,_⟩:=zg q;unfold clsIn;rw[lk];rfl
theorem uV{K:aj}{C:Addr}{bm:List Value}(q:cF K C bm=true)(v:Value):mroIn K C v=some ((bM C::bm).contains v):=by
 obtain⟨d,cd,sl,lk,hm⟩:=zg q;unfold mroIn clsIn;rw[lk];show (if cd.mro.isEmpty then none else some (cd.mro.contains v))=_
 rw[hm];rfl
theorem HU{K:aj}{C D:Addr}{bm bd:List Value}(q:cF K C bm=true)(qd:cF K D bd=true):kitOne K (.ref C) (.ref D)=some ((bM C::bm).contains (.ref D)):=by
 unfold kitOne;by_cases z:(bM C==bM D)=true
 ·rw[if_pos z,Sa,show (bM D==bM C)=true from by rw[beq_iff_eq] at z ⊢;exact z.symm]
  rfl
 ·rw[if_neg z]
  unfold kitCls;obtain⟨d,cd,sl,lk,_⟩:=zg qd;have ty:typeIn K (.ref D)=some (.type "type"):=by
   show ahT (λx=>x.cls) (K.lookup D)=_
   rw[lk];rfl
  show (if ((clsIn K D).isSome&&typeIn K (.ref D)==some (.type "type"))=true then subIn K (.ref C) (.ref D) else none)=_
  rw[HS qd,ty];exact uV q _
theorem VT{K:aj}{C:Addr}{bm:List Value}(q:cF K C bm=true){T:String}(hT:kitMeta T=true):kitOne K (.ref C) (.type T)=some ((bM C::bm).contains (.type T)):=by
 unfold kitOne;rw[if_neg (by simp)]
 unfold kitCls
 try dsimp only
 rw[if_pos hT];exact uV q _
theorem aad:kitMeta "ValueError" = true:=by decide +kernel
end L2
namespace L2
open PySem PySem.Spec PyProof.Rows
theorem Uw:bootBuiltins "ValueError" = some (.type "ValueError"):=PyProof.Rows.Boot.«ValueError»
section
variable{P:Program}{w:World}{K:aj}{mg:Str->Option Value}{base:Heap}
theorem j7.okF{x qual:Str}{st:Stmt}{f:Addr}{fd:FuncData}{N ps:List Str}{k:Nat}{sp:Sp}(F:j7 K x qual st f fd)(S:l8 N ps (eU st))(len:∀vs H Q E,sp vs H Q E->vs.length=ps.length)
  (hb:∀(bY:Value) (A:Around) (outer:List Env) (s:Shared) (H:Hp) (vs:List V) (Q:VK) (E:XK),cZ k (A.deeper (envOfC qual (eU st) s.heap.objs.size f bY))->sp vs H Q E ->
   ∃t,gG (eJ (bG P w) P w K mg base N qual (eU st) f bY A outer s H E) (iY st) t/\t { nx:=λ_ H'=>Q .aR H',rt:=Q } (start N vs) H):ax P w K mg base (bG P w) (k+1) f fd ps sp:=by
 obtain⟨oc,od,kV,doc,pm,an,bY,ct,kC,rfl,lk,fE⟩:=F.ex;exact Iq lk fE S len λA outer s H vs Q E hr lD=>hb bY A outer s H vs Q E hr lD
theorem ax.never{k:Nat}{f:Addr}{fd:FuncData}{ps:List Str}{sp:Sp}(F:ax P w K mg base (bG P w) k f fd ps sp):ax P w K mg base a8 k f fd ps (λvs H Q _=>sp vs H Q E0):=by
 refine⟨λvs H Q E h=>F.len vs H Q E0 h,λA outer s H args us vs Q E hr he hb r h=>codeAny_mono (F.run A outer s H args us vs Q E0 hr he hb r h) λr s' q=>?_⟩
 cases r with
 | error e =>
  obtain⟨_,_,_,_,_,_,_,_,_,_,_,_,z⟩:=q;exact z
 | ok fl=>cases fl<;>exact q
end
section
open PySem.W
variable{K:aj}{C D A:Addr}{bd:List Value}
theorem VS(q:cF K C (.ref A::dP)=true)(qd:cF K D bd=true)(h1:D≠C)(h2:D≠A):kitOne K (.ref C) (.ref D)=some false:=by
 rw[HU q qd];simp[h1,h2]
theorem VU(q:cF K C (.ref A::dP)=true)(qd:cF K A bd=true):kitOne K (.ref C) (.ref A)=some true:=by
 rw[HU q qd];simp
theorem VR(q:cF K C (.ref A::dP)=true):kitOne K (.ref C) (.type "ValueError")=some true:=by
 rw[VT q aad];simp
theorem U8(q:cF K C (.ref A::dP)=true):B_ K C C:=⟨_,_,q,q,by simp⟩
end
def cq(C t:Addr)(dx:Option Addr)(e:Addr):Heap->Prop:=λh=>h.get? e=some { cls:=.ref C,dict:=dx,data:=.fields #[.ref t,.none,.none,.none,.bool false,.none] }
theorem FX{P:Program}{w:World}{H:Hp}{h:Heap}{C t e:Addr}{dx:Option Addr}(x:cq C t dx e h):dN P w H h e (.ext (cq C t dx e)):=⟨x,⟨_,x⟩,λh1 h2 y k=>k _ y⟩
def drop(H:Hp)(e:Addr):Hp:=λb=>if b=e then none else H b
theorem zf{H:Hp}{e:Addr}:drop H e e=none:=by unfold drop;rw[if_pos rfl]
theorem lq{H:Hp}{e b:Addr}(h:b≠e):drop H e b=H b:=by unfold drop;rw[if_neg h]
theorem dM.dropped{P:Program}{w:World}{H:Hp}{h:Heap}{e:Addr}{φ:Heap->Prop}(ok:dM P w H h)(he:H e=some (.ext φ)):dM P w (drop H e) h:=λa o z=>by
 have ne:a≠e:=λq=>by rw[q,zf] at z;cases z
 rw[lq ne] at z;refine(ok a o z).kN (λ_ _ _ q=>q) (λb q=>?_) λb xs q=>?_
 ·rw[lq (λy=>by rw[y,he] at q;cases q)];exact q
 ·rw[lq (λy=>by rw[y,he] at q;cases q)];exact q
section
variable{P:Program}{w:World}{K:aj}{mg:Str->Option Value}{base:Heap}{N:List Str}{qual:Str}{scope:Scope}{f:Addr}{cd:Value}{A:Around}{outer:List Env}{s:Shared}{H:Hp}{E:XK}
def GK(X:Cx)(C:Addr)(E:XK):Prop:=∀(pins:List (Addr×Obj)) (σ:St) (H:Hp) (s:Shared) (e t:Addr) (dx:Option Addr),Inv X pins σ H s->H e=some (.ext (cq C t dx e))->X.dq.heap.get? e=none->E (.ref C) dx (drop H e)->X.xe (.ref e) s
theorem adY{C:Addr}:GK (eJ (bG P w) P w K mg base N qual scope f cd A outer s H E) C E:=by
 intro pins σ H1 s1 e t dx I hx AS q;have eL:(eJ (bG P w) P w K mg base N qual scope f cd A outer s H E).env.frame=some s.heap.objs.size:=rfl;generalize hl:cx ((eJ (bG P w) P w K mg base N qual scope f cd A outer s H E).stack)=fs;have sV:fs=s.heap.objs.size::cx outer:=by rw[<-hl];exact Iv eL
 have he:s1.heap.get? e=some { cls:=.ref C,dict:=dx,data:=.fields #[.ref t,.none,.none,.none,.bool false,.none] }:=(show dN P w H1 s1.heap e (.ext (cq C t dx e)) from I.aS e _ hx).1
 have FF:=PySem.W.funFrames_hide (as:=e::fs) I.stack (λenv he a ha=>cP _ (by rw[<-hl];exact RC.mpr ⟨env,he,ha⟩))
 have st:(px s1.heap (e::fs)).StaysIn s1.heap:=λb o z=>ain _ z
 have JG:(px s1.heap (e::fs)).get? e=none:=aii _ cB;show wpAny _ _ (leaving _ (.ref e)) _ _ _;refine wpAny_mono ((Kn _ _).any (wpAny_leaving_firstW (Q:=λ_ f_=>Heap.LeftW (px s1.heap (e::fs)) ((eJ (bG P w) P w K mg base N qual scope f cd A outer s H E).env::outer) e (.ref C) (.ref t) s1.heap f_.heap/\f_={ s1 with heap:=f_.heap }) I.ok.frames FF eL he st JG rfl rfl rfl λh' L'=>⟨L',rfl⟩)) (λ_ f_ z=>?_) λ_ _ z=>z
 obtain⟨⟨⟨k1,⟨_,_,k2⟩,k3,U⟩,es⟩,dk⟩:=z;have F':q_ (px s1.heap (e::fs)) outer e (.ref C) (.ref t) f_.heap:=⟨k1,JG,k2,k3⟩;obtain⟨Ec,vg,_,gu⟩:=dk e _ he;have zi:∀b:Addr,b∉(eJ (bG P w) P w K mg base N qual scope f cd A outer s H E).ex:=λb z=>absurd z (by simp[eJ])
 have kp:∀b o,s1.heap.get? b=some o->b≠e->b∉fs->(px s1.heap (e::fs)).get? b=some o:=λb o z n1 n2=>aih _ z (λy=>(bE.mp y).elim n1 n2)
 have old:∀b o,s.heap.get? b=some o->H b=none->b∉cx outer->(px s1.heap (e::fs)).get? b=some o:=λb o e' n hb=>by
  refine kp b o (I.base.keep b o e' n hb (zi b)) (λz=>?_) λz=>?_
  ·rw[z] at e'
   rw[show s.heap.get? e=none from AS] at e'
   cases e'
  ·rw[sV] at z
   rcases bE.mp z with z|z
   ·rw[z] at e';exact absurd (bQ e') (gg _)
   ·exact hb z
 have qR:∀b u o,(drop H1 e) b=some u->s1.heap.get? b=some o->(px s1.heap (e::fs)).get? b=some o:=λb u o hu ho=>by
  have ne:b≠e:=λz=>by rw[z,zf] at hu;cases hu
  refine kp b o ho ne λz=>?_
  rw[lq ne] at hu;have:=I.Bm b (by rw[hl];exact z)
  rw[this] at hu;cases hu
 have A4:=I.aS.dropped hx;have agF:∀b u o,(drop H1 e) b=some u->f_.heap.get? b=some o->(px s1.heap (e::fs)).get? b=some o:=λb u o hu ho=>by
  obtain⟨ob,Dy⟩:=(A4 b u hu).has;have z:=qR b u ob hu Dy;rw[F'.1 b ob z] at ho
  cases ho;exact z
 have nx:∀b u,H1 b=some u->(∀φ,u≠.ext φ)->b≠e:=λb u z n y=>by rw[y,hx] at z;cases z;exact n _ rfl
 refine⟨e,.ref C,dx,drop H1 e,rfl,by rw[es];exact I.os,by rw[es];exact I.bare,⟨λb o e' n hb _=>F'.1 b o (old b o e' n hb),λb o e' n hb J4=>?_,λb o e' n J4=>?_,λb o e' J4=>?_,λb xs z=>?_,λb o u z=>?_,λb ps z=>?_⟩,A4.based qR F'.1,zf,AS,⟨_,_,F',old,agF,Ec,vg,gu⟩,q⟩
 ·obtain⟨sl,e1⟩:=I.base.slot b o e' n hb (zi b)
  obtain⟨_,ob,ho,nf⟩:=I.stack.mem (b:=b) (by show b∈cx _;rw[hl,sV];exact cP _ hb)
  rw[e1] at ho
  cases ho;obtain⟨fK,e2⟩:=U b _ e1 nf;exact⟨fK,e2⟩
 ·have z:=I.base.free b o e' n (zi b)
  by_cases hb:b=e
  ·rw[hb];exact zf
  ·rw[lq hb];exact z
 ·obtain⟨o',e1⟩:=I.base.there b o e' (zi b)
  obtain⟨o2,e2,_⟩:=dk b o' e1;exact⟨o2,e2⟩
 ·have y:=I.base.jZ b xs z
  rw[lq (nx b _ y λφ q=>by cases q)];exact y
 ·have y:=I.base.jh b o u z
  rw[lq (nx b _ y λφ q=>by cases q)];exact y
 ·obtain⟨m,y⟩:=I.base.jY b ps z
  exact⟨m,by rw[lq (nx b _ y λφ q=>by cases q)];exact y⟩
end
end L2
namespace L2
open PySem PySem.Spec PyProof.Rows PySem.W PySem.Builtin PySem.Builtin.ObjectAttr
structure rH(K:aj)(C:Addr):Prop where
 sa:findIn K (.ref C) "__setattr__" = some (some (.builtin "object.__setattr__"))
 hd:hasDictIn K C=true
section
variable{prog:Program}{w:World}{A:Around}{E:Value->Shared->Prop}{K:aj}{x C B:Addr}{name:Str}{v:Value}
theorem ahl{h:Heap}{g:Array GenState}{d:Drawn}{t:Nat}{os:OsState}{o:Obj}{vs:Array Value}{tk:Tok}{b:Bool}{Q:Fin->Shared->Prop}(X:K.In h)(hx:h.get? x=some o)(hc:o.cls=.ref C)(hn:o.dict=none)(hv:o.data=.fields vs)(hd:hasDictIn K C=true)
  (q:∀h' lO,h'.get? x=some { o with dict:=some h.objs.size }->h'.Ns1 h.objs.size (λy=>if y=name then some v else none)->(∀c oc,c≠x->h.get? c=some oc->h'.get? c=some oc)->Q (.done (.ret .none)) ⟨h',g,d,lO,os⟩) :
  wpAny (model prog w) A (storeInOwnDict (.ref x) (.ref C) (.str name tk) name v b) Q E ⟨h,g,d,t,os⟩:=by
 obtain⟨cd,fE,vd⟩:=any_some hd;have Ka:x≠h.objs.size:=cQ (bQ hx);obtain⟨oc,od,dt,sl⟩:=o
 try dsimp only at hc hn hv
 subst hc hn hv;refine wpAny_bind (wpAny_pure (wpAny_bind (wpAny_bind (wpAny_loadPart hx (wpAny_bind ((looks_clsIn X fE).here ?_))))));rw[vd];have J_:=cJ ({ cls:=.type "dict",data:=.dict #[] }:Obj) hx;refine wpAny_bind (wpAny_alloc' (wpAny_bind (wpAny_update' J_ ?_)));refine wpAny_pure ?_;generalize eh:((h.push { cls:=.type "dict",data:=.dict #[] }).update x λo=>{ cls:=o.cls,dict:=some h.objs.size,data:=o.data,slots:=o.slots })=h2
 have g2:h2.get? h.objs.size=some { cls:=.type "dict",data:=.dict #[] }:=by rw[<-eh];exact(aia _ _ _ _ Ka.symm).trans (Heap.get?_push_at rfl rfl)
 have gx:h2.get? x=some { cls:=.ref C,dict:=some h.objs.size,data:=.fields vs,slots:=sl }:=by rw[<-eh];exact uj _ J_ rfl
 have go:∀c oc,c≠x->h.get? c=some oc->h2.get? c=some oc:=λc oc n z=>by rw[<-eh];exact(aia _ _ _ _ n).trans (cJ _ z)
 have nd:h2.Ns h.objs.size (λ_=>none):=⟨_,#[],_,g2,rfl,λe he=>absurd he (by simp),λ_=>rfl⟩
 show wpAny _ _ (storeInDict h.objs.size (.str name tk) name v) _ _ _;unfold storeInDict newKeyGuard;refine wpAny_bind (wpAny_pure (wpAny_bind (wpAny_nsSet1 (ah8 nd) λh' n' sm=>?_)))
 obtain⟨oD,V8,V0,o1,o2,o3⟩:=n'.count (Within.cons name v Within.nil);refine wpAny_bind (wpAny_lookBehind o1 (by rw[o2];exact pastItsLine_dict (b_ o3 (by rw[bF,aiM,sizeLine_eq];omega))) ?_)
 exact wpAny_pure (q h' _ ((sm.2 x Ka).trans gx) n' λc oc n z=>(sm.2 c (cQ (bQ z))).trans (go c oc n z))
theorem ahk{s:Shared}{o:Obj}{vs:Array Value}{bm:List Value}{Q:Unit->Shared->Prop}(X:K.In s.heap)(hx:s.heap.get? x=some o)(hc:o.cls=.ref C)(hn:o.dict=none)(hv:o.data=.fields vs)(ec:cF K C (.ref B::dP)=true)(a:rH K C)(na:findIn K (.ref C) name=some none)
  (q:∀h' lO,h'.get? x=some { o with dict:=some s.heap.objs.size }->h'.Ns1 s.heap.objs.size (λy=>if y=name then some v else none)->(∀c oc,c≠x->s.heap.get? c=some oc->h'.get? c=some oc)->Q () { s with heap:=h',toks:=lO }) :
  wpAny (model prog w) A (setAttr (.ref x) name v) Q E s:=by
 have I:InstAt s.heap x o C none:=⟨hx,hc,by unfold notCls;rw[hv],by rw[hn];trivial⟩
 obtain⟨h,g,d,t,os⟩:=s;refine set_plain X I a.sa ?_;have SF:=PySem.F.store_object;have sub:Looks (model prog w) h (isInstance (.ref x) (.type "object")) true:=I.type.andThen (looks_mroIn X ((uV ec _).trans (by simp)))
 refine codeAny_call_builtin SF.slot.plain SF.entry (@check_slot (model prog w) _ _ ⟨h,g,d,t+1,os⟩ "object.__setattr__" "object" "__setattr__" (.ref x) [.str name t,v] [] _ SF.kind SF.split sub (SF.args (.ref x) (.str name t) v) ?_);obtain⟨dd,cd,sl,lk,hm⟩:=zg ec;have fE:clsIn K C=some cd:=by unfold clsIn;rw[lk]
 have L1:Looks (model prog w) h (mroOf (.ref C)) cd.mro:=(looks_clsIn X fE).andThen .now;have L0:=I.type (M:=model prog w);have L2:=looks_findIn (M:=model prog w) X na
 try dsimp only at L0 L2
 rw[osa_eq,refuse_eq];refine wpAny_bind (wpAny_bind (L0.at (wpAny_bind (L1.at ?_))));rw[hm,refuseLoop_ref,refuseLoop_ref,PySem.F.store_ValueError.passes];refine wpAny_pure (wpAny_bind (L0.at (wpAny_bind (L2.at (wpAny_bind ?_)))));refine wpAny_pure ?_;exact ahl X hx hc hn hv a.hd λh' lO z1 z2 z3=>q h' lO z1 z2 z3
end
end L2
namespace L2
open PySem PySem.Spec PyProof.Rows PySem.W
section
variable{X:Cx}{pins:List (Addr×Obj)}{σ:St}{H:Hp}{s:Shared}{e C B t:Addr}
theorem Inv.Vz{h':Heap}{tk:Nat}{f:Str}{y:V}{u:Value}{dx:Addr}(I:Inv X pins σ H s)(he:H e=some (.ext (cq C t none e)))(Yz:s.heap.objs.size=dx)(ry:RelV y u)(z1:cq C t (some dx) e h')(z2:h'.Ns1 dx (λn=>if n=f then some u else none))
  (z3:∀c oc,c≠e->s.heap.get? c=some oc->h'.get? c=some oc):Inv X pins σ (upd (upd H dx (.xd [(f,y)])) e (.ext (cq C t (some dx) e))) { s with heap:=h',toks:=tk }:=by
 subst Yz;have nd:H s.heap.objs.size=none:=I.aS.fresh (bH _);have qB:e≠s.heap.objs.size:=λz=>by rw[<-z,he] at nd;cases nd
 have ne:∀b u,H b=some u->(∀φ,u≠.ext φ)->b≠e:=λb u z n q=>by rw[q,he] at z;cases z;exact n _ rfl
 have nz:∀b u,H b=some u->b≠s.heap.objs.size:=λb u z q=>by rw[q,nd] at z;cases z
 have kp:∀b u,H b=some u->(∀φ,u≠.ext φ)->upd (upd H s.heap.objs.size (.xd [(f,y)])) e (.ext (cq C t (some s.heap.objs.size) e)) b=some u:=λb u z n=>by rw[bg (ne b u z n),bg (nz b u z)];exact z
 have fr:∀b o,s.heap.get? b=some o->H b=none->b≠e:=λb o _ n q=>by rw[q,he] at n;cases n
 refine I.un (h':=h') (t':=tk) ⟨λb o z n _ _=>z3 b o (fr b o z n) z,λb o z n _ _=>⟨o.slots,z3 b o (fr b o z n) z⟩,λb o z n _=>?_,λb o z _=>?_,λb xs z=>kp b _ z λφ q=>(by cases q),λb o u z=>kp b _ z λφ q=>(by cases q),λb ps z=>⟨#[],by rw[kp b _ z λφ q=>(by cases q)];simp⟩⟩ λa o z=>?_
 ·rw[bg (fr b o z n),bg (cQ (bQ z))];exact n
 ·by_cases hb:b=e
  ·rw[hb];exact⟨_,z1⟩
  ·exact⟨o,z3 b o hb z⟩
 ·by_cases ha:a=e
  ·subst ha
   rw[aA] at z
   cases z;exact FX z1
  ·rw[bg ha] at z
   by_cases hz:a=s.heap.objs.size
   ·subst hz
    rw[aA] at z
    cases z;refine⟨_,z2,λn=>?_⟩
    by_cases hn:n=f
    ·subst hn
     simp only[l4,beq_self_eq_true,if_pos rfl];exact ry
    ·have:(n==f)=false:=by simpa using hn
     simp only[l4,this,if_neg hn];trivial
   ·rw[bg hz] at z
    refine(I.aS a o z).kN (λb u hb q=>z3 b u ?_ q) (λb q=>kp b _ q λφ r=>(by cases r)) λb xs q=>kp b _ q λφ r=>(by cases r)
    rcases hb with rfl|hb
    ·exact ha
    ·exact ne b _ hb λφ r=>(by cases r)
theorem adK{o value:Expr}{f:Str}{ta tv:TE}{pos pos':Pos}(ha:PE X o ta)(hv:PE X value tv)(hs:swapsWith value (some (.Attribute o f pos')) pos.line X.env=pure false:=by rfl):PS X (.Assign [.Attribute o f pos'] value pos)
  (λD σ H=>tv σ H λy H1=>ta σ H1 λx H2=>∃e C B t,x=.ref e/\H2 e=some (.ext (cq C t none e))/\cF X.K C (.ref B::dP)=true/\rH X.K C/\fR X.K C f/\∀dx,H2 dx=none->D.nx σ (upd (upd H2 dx (.xd [(f,y)])) e (.ext (cq C t (some dx) e)))):=by
 intro pins s σ H D I h;refine plainObj_wpAny_Assign_Attribute (aZ (hv pins s σ H _ I h) λu s1 hz=>?_) hs
 obtain⟨y,H1,I1,ry,q⟩:=hz;refine aZ (ha pins s1 σ H1 _ I1 q) λov s2 hz=>?_
 obtain⟨x,H2,I2,rx,e,C,B,t,ex,he,ec,xs,na,q2⟩:=hz;subst ex;obtain rfl:ov=bM e:=rx;have hx:=(show dN X.prog X.w H2 s2.heap e (.ext (cq C t none e)) from I2.aS e _ he).1
 refine ahk (bm:=[]) I2.cM hx rfl rfl rfl ec xs na λh' lO z1 z2 z3=>?_
 exact⟨σ,_,I2.Vz he rfl ry z1 z2 z3,q2 _ (I2.aS.fresh (bH _))⟩
structure GQ(K:aj)(B:Addr):Prop where
 ga:specialIn K (.ref B) "__getattribute__" = some (some (.builtin "type.__getattribute__"))
 rd:readsIn K B (.type "type")=true
 fi:findCls K (.ref B) (.type "type") "__init__" = some (.val (.builtin "ValueError.__init__"))
theorem adJ{pl:Sem Bool}{cn:Str}{p ap pos Ic:Pos}{e1 e2:Expr}{ta:TA}(xb:GQ X.K B)(hg:Gl X cn)(hm:X.mg cn=some (.ref B))(ha:PA X [e1,e2] ta)(cG:(cn==("__debug__" : Str))=false:=by decide)
  (hs:swapsWith (.Call (.Attribute (.Name cn p) "__init__" ap) [e1,e2] [] pos) none Ic.line X.env=pure false:=by rfl)
  (kq:starEach (e1::[e2]) X.env=(false,eval e1 X.env)::starEach [e2] X.env:=by rfl) (cL:(backTo pos (starEach [e2] X.env)).any (·.1)=false:=by rfl)
  (ht:eval (.Call (.Attribute (.Name cn p) "__init__" ap) [e1,e2] [] pos) X.env=(do
   let ov <-eval (.Name cn p) X.env
   standAt ap.atName
   let (f,first) <-holding [ov] (getMethod ov "__init__" pl)
   callWith pos f first (backTo pos (starEach [e1,e2] X.env)) (backToKw pos (keywordEach [] X.env))):=by rfl) :
  PS X (.Expr (.Call (.Attribute (.Name cn p) "__init__" ap) [e1,e2] [] pos) Ic) (λD σ H=>ta σ H λvs H1=>∃e C t w,vs=[.ref e,w]/\H1 e=some (.ext (cq C t none e))/\cF X.K C (.ref B::dP)=true/\∀t',D.nx σ (upd H1 e (.ext (cq C t' none e)))):=by
 intro pins s σ H D I h;refine wpAny_Expr_any (methodCall_KW (pl:=pl) (oy I hg hm ?_ cG) ht) I.quiet hs;refine method_cls I.cM xb.ga (cls_value I.cM xb.rd xb.fi rfl ?_);have I0:=I.tok (s.toks+1);refine ahV (aZ (ha pos pins _ σ H _ I0 h) λus s1 hz=>?_) kq cL
 obtain⟨vs,H1,I1,r,e,C,t,w,ev,he,ec,q⟩:=hz;subst ev;obtain⟨u1,u2,rfl,r1,r2⟩:=vals2 r;obtain rfl:u1=bM e:=r1;have hx:=(show dN X.prog X.w H1 s1.heap e (.ext (cq C t none e)) from I1.aS e _ he).1
 obtain⟨N,mN,xc,_⟩:=iT.of I1.ok.mod.jv ec;obtain⟨nm,qn,bs,hd,sn,sub,ab,col,dd,k0,k1,k2,k3,k5,e0,n0,t0⟩:=xc.keeps I1.bk;obtain⟨hp,g,d,tt,os⟩:=s1;refine wpAny_call (codeAny_call_builtin wJ.init.plain wJ.initEntry (wpAny_check_init_subT wJ t0 e0 hx rfl ?_))
 wp_walk
 show SP X pins D .next _;have Za:=cJ ({ cls:=.type "tuple",data:=.seq #[u2] }:Obj) hx;have hz:=uj (Obj.mapFields (·.setIfInBounds 0 (bM hp.objs.size))) Za rfl
 refine⟨σ,_,I1.write (x:=e) (e:=e) (o:=.ext (cq C hp.objs.size none e)) (t':=tt) (by rw[he];trivial) (.inl rfl) (λb u n z=>(Gg _ _ (Ne.symm n)).trans (cJ _ z)) ⟨_,hz⟩ (FX hz),q _⟩
structure uB(K:aj)(C:Addr)(bm:List Value)(f:Addr):Prop where
 ec:cF K C bm=true
 fi:findIn K (.ref C) "__init__" = some (some (.ref f))
 fn:isFn K (.ref f)=true
 kp:keepIn K (.ref C)=true
theorem ahi{prog:Program}{w:World}{A:Around}{E:Value->Shared->Prop}{K:aj}{C fI:Addr}{bm us:List Value}{h:Heap}{g:Array GenState}{d:Drawn}{t:Nat}{os:OsState}{Q:Value->Shared->Prop}(KX:K.In h)(c:uB K C bm fI)(hl:us.length<=sizeLine)
  (q:wpAny (model prog w) (A.under (.builtin "type.__call__" ⟨.ref C::us,[]⟩)) (call (.ref fI) (.ref (h.objs.size+1)::us)) (λr s'=>r=.none/\Q (.ref (h.objs.size+1)) s') E
   ⟨(h.push { cls:=.type "tuple",data:=.seq us.toArray }).push { cls:=.ref C,data:=.fields #[.ref h.objs.size,.none,.none,.none,.bool false,.none] },g,d,t,os⟩) :
  wpAny (model prog w) A (call (.ref C) us) Q E ⟨h,g,d,t,os⟩:=by
 have BF:=wJ;obtain⟨N,mN,xc,_⟩:=iT.of KX c.ec;obtain⟨nm,qn,bs,vd,sn,sub,ab,col,dd,k0,k1,k2,k3,k5,kc,n0,tl⟩:=xc;have w1:=tc_lookup;have w2:=tc_bind (.ref C);have w3:(⟨h,g,d,t,os⟩:Shared).TypeIs (.ref C) "type" := ⟨_,kc,rfl⟩;refine wpAny_call (codeAny_of_tree ?_);show wpAny _ _ (callAny (.ref C) _) _ _ _
 repeat (any_goals (first|assumption|with_reducible refine wpAny_loadPart_at kc ?_|wp_step))
 refine⟨rfl,codeAny_call_builtin_at (Code.quiet_builtin _ (by decide +kernel)) entry_typeCall (wpAny_check_type_call_sub kc ?_)⟩
 repeat (first|with_reducible refine wpAny_loadPart_at kc ?_|with_reducible refine wpAny_madeBy_exc kc ?_|wp_step)
 refine codeAny_call_builtin_code (Code.quiet_builtin _ BF.quiet) (wpAny_check_new_subT BF tl kc (codeAny_exc_new_subT BF tl kc ?_ hl));show wpAny _ _ _ _ _ _;have kp:∀b o,h.get? b=some o->((h.push { cls:=.type "tuple",data:=.seq us.toArray }).push { cls:=.ref C,data:=.fields #[.ref h.objs.size,.none,.none,.none,.bool false,.none] }).get? b=some o:=λb o z=>cJ _ (cJ _ z)
 have new:((h.push { cls:=.type "tuple",data:=.seq us.toArray }).push { cls:=.ref C,data:=.fields #[.ref h.objs.size,.none,.none,.none,.bool false,.none] }).get? (h.objs.size+1)=some { cls:=.ref C,data:=.fields #[.ref h.objs.size,.none,.none,.none,.bool false,.none] }:=by heap_get
 have Hx:=kp _ _ kc;have GG:=KX.keeps kp;have JY:(bM C::bm).contains (.ref C)=true:=by simp
 have L1:=looks_findIn (M:=model prog w) GG c.fi;have L2:=bind_fn (M:=model prog w) GG (.ref (h.objs.size+1)) (beq_iff_eq.mp c.fn);unfold isInstance
 repeat (first|with_reducible refine wpAny_loadPart_at new ?_|(with_reducible refine wpAny_isSubtype_exc Hx ?_;rw[JY])|wp_step)
 refine wpAny_isSubtype_exc Hx ?_;rw[JY]
 repeat wp_step
 show wpAny _ _ (typeLookup (.ref C) _) _ _ _;refine L1.at ?_;refine wpAny_holding (wpAny_bind (L2.at ?_));refine wpAny_bind (wpAny_mono q (λr s' z=>?_) λ_ _ z=>z)
 obtain⟨rfl,z⟩:=z
 wp_walk
 exact z
end
theorem FY{M:Model}{A:Around}{E:Value->Shared->Prop}{env:Env}{s:Shared}{x:Sem Value}{Q:Flow->Shared->Prop}(hh:A.handled=none)
  (h:wpAny M A x (λv s1=>∃e C t dx bm N mN,v=.ref e/\iT s1.heap C bm N mN/\s1.heap.get? e=some { cls:=.ref C,dict:=dx,data:=.fields #[.ref t,.none,.none,.none,.bool false,.none] }/\E (.ref e) s1) E s):wpAny M A (raiseStmt env (some x) none) Q E s:=by
 unfold raiseStmt;refine wpAny_bind (wpAny_mono h (λv s1 z=>?_) λ_ _ z=>z)
 obtain⟨e,C,tt,dx,bm,N,mN,rfl,xc,he,q⟩:=z;obtain⟨nm,qn,bs,vd,sn,sub,ab,col,dd,k0,k1,k2,k3,k5,kc,n0,tl⟩:=xc;have hb:(bM C::bm).contains (.type "BaseException")=true:=by rw[Sa,tl.hasType wJ.hasBase,aic]
 obtain⟨hp,g,d,tk,os⟩:=s1
 repeat (first|with_reducible refine wpAny_loadPart_at he ?_|with_reducible refine wpAny_loadPart_at kc ?_|(with_reducible refine wpAny_isSubtype_exc kc ?_;rw[hb])|wp_step)
 exact wpAny_raiseNew_none hh q
section
variable{X:Cx}{C f:Addr}{bm:List Value}{E:XK}{k:Nat}{fd:FuncData}{ps:List Str}{sp:Sp}
theorem MC{pins:List (Addr×Obj)}{σ:St}{H:Hp}{s:Shared}{Z:Value->Shared->Prop}{us:List Value}{vs:List V}(c:uB X.K C bm f)(F:ax X.prog X.w X.K X.mg X.base a8 k f fd ps sp)(hr:cZ (k+1) X.A)(hb:Binds X.K fd ps [])
  (I:Inv X pins σ H s) (r:Vals vs us) (hl:vs.length<=sizeLine) {W:Addr->Hp->Prop}
  (h:∀e t,H e=none->sp (.ref e::vs) (upd H e (.ext (cq C t none e))) (λv H2=>v=.aR/\W e H2) E0)
  (q:∀e H2 s2,Inv X pins σ H2 s2->s.heap.objs.size<=e->W e H2->Z (.ref e) s2):wpAny (model X.prog X.w) X.A (call (.ref C) us) Z X.xe s:=by
 have lu:us.length<=sizeLine:=by rw[<-r.length];exact hl
 obtain⟨hp,g,d,tk,os⟩:=s;refine ahi I.cM c lu ?_;have hq:=h (hp.objs.size+1) hp.objs.size (I.aS.fresh (lU _));have new:cq C hp.objs.size none (hp.objs.size+1) ((hp.push { cls:=.type "tuple",data:=.seq us.toArray }).push { cls:=.ref C,data:=.fields #[.ref hp.objs.size,.none,.none,.none,.bool false,.none] }):=by
  unfold cq
  heap_get
 have I2:=I.laid (a:=hp.objs.size+1) (o:=.ext (cq C hp.objs.size none (hp.objs.size+1))) (t':=tk) (λb u z=>cJ _ (cJ _ z)) (lU _) (FX new)
 have r2:Vals (V.ref (hp.objs.size+1)::vs) (bM (hp.objs.size+1)::us):=.cons rfl r;have hlen:(bM (hp.objs.size+1)::us).length=ps.length:=by rw[<-r2.length];exact F.len _ _ _ _ hq
 have uG:=hb _ (bM (hp.objs.size+1)::us) I2.cM (by rw[eY];exact hlen)
 rw[eY] at uG;refine wpAny_call (codeAny_mono (F.run _ X.stack _ _ ⟨bM (hp.objs.size+1)::us,[]⟩ _ _ _ E0 (hr.make C us []) (I2.zh.make C us []) uG r2 hq) λr s' ko=>?_)
 cases r with
 | error e=>exact False.elim ko
 | ok fl =>
  cases fl with
  | ret u =>
   obtain⟨v,H',I3,rv,ev,q3⟩:=I2.after ko;subst ev;exact⟨rv,q _ H' s' I3 (lU _) q3⟩
  | next=>exact False.elim ko
  | brk=>exact False.elim ko
  | cont=>exact False.elim ko
def afp(C:Addr)(sp:Sp)(E:XK)(t:TA):TS:=λ_ σ H=>t σ H λvs H1=>vs.length<=sizeLine/\∀e t,H1 e=none->sp (.ref e::vs) (upd H1 e (.ext (cq C t none e))) (λv H2=>v=.aR/\∃t' dx,H2 e=some (.ext (cq C t' dx e))/\E (.ref C) dx (drop H2 e)) E0
theorem adG{x:Str}{np h_ pos:Pos}{e:Expr}{es:List Expr}{t:TA}(R:GK X C E)(c:uB X.K C bm f)(F:ax X.prog X.w X.K X.mg X.base a8 k f fd ps sp)(hr:cZ (k+1) X.A)(hg:Gl X x)(hm:X.mg x=some (.ref C))(hb:Binds X.K fd ps [])(ha:PA X (e::es) t)
  (hc:X.calm=true:=by rfl) (cG:(x==("__debug__" : Str))=false:=by decide) (he:starEach (e::es) X.env=(false,eval e X.env)::starEach es X.env:=by rfl) (cL:(backTo h_ (starEach es X.env)).any (·.1)=false:=by rfl) :
  PS X (.Raise (some (.Call (.Name x np) (e::es) [] h_)) none pos) (afp C sp E t):=by
 intro pins s σ H D I h;have go:wpAny (model X.prog X.w) X.A (eval (.Call (.Name x np) (e::es) [] h_) X.env) (λv s1=>∃e C t dx bm N mN,v=.ref e/\iT s1.heap C bm N mN/\s1.heap.get? e=some { cls:=.ref C,dict:=dx,data:=.fields #[.ref t,.none,.none,.none,.bool false,.none] }/\X.xe (.ref e) s1) X.xe s:=by
  refine wpAny_Call_Name_kw (oy I hg hm ?_ cG);refine callWith_K (h₀:=X.base) I.ok.mod.jv c.kp (aZ (ha h_ pins s σ H _ I h) λus s1 ⟨vs,H1,I1,r,hl,q⟩=>⟨I1.cM,?_⟩) he cL
  refine MC c F hr hb I1 r hl (W:=λe H2=>∃t' dx,H2 e=some (.ext (cq C t' dx e))/\E (.ref C) dx (drop H2 e)) q λe H2 s2 I2 hz ⟨t',dx,hx,qe⟩=>?_
  have Y_:=(show dN X.prog X.w H2 s2.heap e (.ext (cq C t' dx e)) from I2.aS e _ hx).1
  obtain⟨N,mN,xc,_⟩:=iT.of I2.ok.mod.jv c.ec;exact⟨e,C,t',dx,bm,N,mN,rfl,xc.keeps I2.bk,Y_,R pins σ H2 s2 e t' dx I2 hx (RO (b_ I1.sz hz)) qe⟩
 rw[arm_exec_Raise]
 first
  | exact wpAny_bind (wpAny_standAt (FY (I.ok.hd hc) go))
  | exact wpAny_bind (wpAny_standAt (FY (I.ok.hd hc) (wpAny_bind (wpAny_mono go (λv s2 z=>wpAny_bind (wpAny_standAt (wpAny_pure z))) λ_ _ z=>z))))
  | (simp only[evalOpt,ahT];exact wpAny_bind (wpAny_standAt (FY (I.ok.hd hc) (wpAny_bind (wpAny_mono go (λv s2 z=>wpAny_bind (wpAny_standAt (wpAny_pure z))) λ_ _ z=>z)))))
def afx(C:Addr)(sp:Sp)(t:TA):TE:=λσ H Q=>t σ H λvs H1=>vs.length<=sizeLine/\∀e t,H1 e=none->sp (.ref e::vs) (upd H1 e (.ext (cq C t none e))) (λv H2=>v=.aR/\Q (.ref e) H2) E0
theorem adm{x:Str}{np h_:Pos}{e:Expr}{es:List Expr}{t:TA}(c:uB X.K C bm f)(F:ax X.prog X.w X.K X.mg X.base a8 k f fd ps sp)(hr:cZ (k+1) X.A)(hg:Gl X x)(hm:X.mg x=some (.ref C))(hb:Binds X.K fd ps [])(ha:PA X (e::es) t)
  (cG:(x==("__debug__" : Str))=false:=by decide) (he:starEach (e::es) X.env=(false,eval e X.env)::starEach es X.env:=by rfl) (cL:(backTo h_ (starEach es X.env)).any (·.1)=false:=by rfl) :
  PE X (.Call (.Name x np) (e::es) [] h_) (afx C sp t):=by
 intro pins s σ H Q I h;refine wpAny_Call_Name_kw (oy I hg hm ?_ cG);refine callWith_K (h₀:=X.base) I.ok.mod.jv c.kp (aZ (ha h_ pins s σ H _ I h) λus s1 ⟨vs,H1,I1,r,hl,q⟩=>⟨I1.cM,?_⟩) he cL
 exact MC c F hr hb I1 r hl (W:=λe H2=>Q (.ref e) H2) q λe H2 s2 I2 _ z=>⟨.ref e,H2,I2,rfl,z⟩
theorem Rx{pins:List (Addr×Obj)}{σ:St}{H:Hp}{s:Shared}{e:Addr}{o:Obj}{d:Addr}{fs:List (Str×V)}{name:Str}{v:V}{Q:Value->Shared->Prop}{ex:Bool}(I:Inv X pins σ H s)(k_:s.heap.get? e=some o)(x:l_ o C (some d))(hd:H d=some (.xd fs))(hl:fs.lookup name=some v)
  (xi:rG X.K C) (na:fR X.K C name) (hh:hasDictIn X.K C=true) (vi:∀u,RelV v u->handedIn u=true) (q:∀u,RelV v u->Q u { s with toks:=s.toks+1 }):wpAny (model X.prog X.w) X.A (getAttr (.ref e) name ex) Q X.xe s:=by
 obtain⟨mA,n1,rl⟩:=(show dN X.prog X.w H s.heap d (.xd fs) from I.aS d _ hd)
 obtain⟨od,ho,lk⟩:=Kw n1;have J:InstAt s.heap e o C (some od):=⟨k_,x.cls,x.no,by rw[x.dict];exact ho⟩
 have rv:=rl name;rw[hl] at rv
 cases hm:mA name with
 | none=>rw[hm] at rv;exact False.elim rv
 | some u =>
  rw[hm] at rv;refine ag4 I.cM J xi.at_ ?_ (vi u rv) (q u rv);obtain⟨cd,hc,vd⟩:=any_some hh;unfold findObj;rw[hc,show findIn X.K (.ref C) name=some none from na]
  simp[PySem.W.ownOf,vd,lk,hm]
def AY:V->Prop
 | .int _=>True
 | .str _=>True
 | .bl _=>True
 | _=>False
theorem AY.handed{v:V}(h:AY v):∀u,RelV v u->handedIn u=true:=λu r=>by
 cases v with
 | int i=>obtain⟨t,rfl⟩:=r;rfl
 | str i=>obtain⟨t,rfl⟩:=r;rfl
 | bl i=>cases r;rfl
 | _=>exact False.elim h
theorem adk{ex:Expr}{ta:TE}{name:Str}{pos:Pos}(he:PE X ex ta)(hb:attributeBase ex name X.env (eval ex X.env)=eval ex X.env):PE X (.Attribute ex name pos)
  (λσ H Q=>ta σ H λx H1=>∃e o C d fs v,x=.ref e/\(e,o)∈X.pn/\l_ o C (some d)/\H1 d=some (.xd fs)/\fs.lookup name=some v/\AY v/\rG X.K C/\fR X.K C name/\hasDictIn X.K C=true/\Q v H1):=by
 intro pins s σ H Q I h;refine CC hb (aZ (he pins s σ H _ I h) λu s1 hz=>?_)
 obtain⟨x,H1,I1,rx,e,o,C,d,fs,v,ex,hm,xo,hd,hl,ov,xi,na,hh,q⟩:=hz;subst ex;obtain rfl:u=bM e:=rx;exact Rx I1 (I1.pin _ (kR _ hm)).1 xo hd hl xi na hh ov.handed λu ru=>⟨v,H1,I1.tok _,ru,q⟩
theorem adl{ex:Expr}{ta:TE}{name:Str}{pos:Pos}(he:PE X ex ta)(hb:attributeBase ex name X.env (eval ex X.env)=eval ex X.env):PE X (.Attribute ex name pos)
  (λσ H Q=>ta σ H λx H1=>∃e C t d fs v,x=.ref e/\H1 e=some (.ext (cq C t (some d) e))/\H1 d=some (.xd fs)/\fs.lookup name=some v/\AY v/\rG X.K C/\fR X.K C name/\hasDictIn X.K C=true/\Q v H1):=by
 intro pins s σ H Q I h;refine CC hb (aZ (he pins s σ H _ I h) λu s1 ⟨x,H1,I1,rx,e,C,t,d,fs,v,ex,hx,hd,hl,ov,xi,na,hh,q⟩=>?_)
 subst ex;obtain rfl:u=bM e:=rx;have k_:=(show dN X.prog X.w H1 s1.heap e (.ext (cq C t (some d) e)) from I1.aS e _ hx).1
 exact Rx I1 k_ ⟨rfl,rfl,rfl⟩ hd hl xi na hh ov.handed λu ru=>⟨v,H1,I1.tok _,ru,q⟩
end
inductive EZ(C:Addr)(f:Str)(vs:List V)(H:Hp)(Q:VK)(aB:XK):Prop
 | mk:∀(e t:Addr) (w:Str) (y:V),(vs=[.ref e,.str w,y])->(H e=some (.ext (cq C t none e)))->(∀dx t',H dx=none->Q .aR (upd (upd (upd H e (.ext (cq C t' none e))) dx (.xd [(f,y)])) e (.ext (cq C t' (some dx) e))))->EZ C f vs H Q aB
theorem ahj{C:Addr}{f w:Str}{y:V}{H:Hp}{E:XK}(hE:∀(dx:Addr) (H':Hp),ae H H'->H dx=none->H' dx=some (.xd [(f,y)])->E (.ref C) (some dx) H'):∀(e t:Addr),H e=none->EZ C f (.ref e::[.str w,y]) (upd H e (.ext (cq C t none e)))
  (λv H2=>v=.aR/\∃t' dx,H2 e=some (.ext (cq C t' dx e))/\E (.ref C) dx (drop H2 e)) E0:=λe t ne=>by
 refine⟨e,t,w,y,rfl,aA,λdx t' nd=>⟨rfl,t',some dx,aA,?_⟩⟩
 have qB:dx≠e:=λz=>by rw[z,aA] at nd;cases nd
 rw[bg qB] at nd;refine hE dx _ (λb o z=>?_) nd ?_
 ·have h1:b≠e:=λq=>by rw[q,ne] at z;cases z
  have h2:b≠dx:=λq=>by rw[q,nd] at z;cases z
  rw[lq h1,bg h1,bg h2,bg h1,bg h1];exact z
 ·rw[lq qB,bg qB,aA]
end L2
namespace L2
open PySem PySem.Spec PyProof.Rows
end L2
namespace L2
open PySem PySem.Spec PyProof.Rows PySem.SeqAt
theorem aae{K:aj}{t a b c d e f:Value}(h1:pz K t a=some false)(h2:pz K t b=some false)(h3:pz K t c=some false)(h4:pz K t d=some false)(h5:pz K t e=some false)(h6:pz K t f=some false):aij K t [a,b,c,d,e,f]=some false:=by
 simp only[aij,h1,h2,h3,h4,h5,h6]
end L2
namespace L2
open PySem PySem.Calls PySem.NumText PyProof.Rows
section
variable{prog:Program}{w:World}{A:Around}{E:Value->Shared->Prop}{s:Shared}{Q:Value->Shared->Prop}
theorem ag1{M:Model}{A:Around}{E:Value->Shared->Prop}{s:Shared}{Q:Value->Shared->Prop}{v:Value}{text:List Nat}{n:Int}(hd:s.heap.NoDigits)
  (Y2:(text.takeWhile (· != 0)).length<=640->(int_private% "readNumeral") 0 10 (text.takeWhile (· != 0))=(int_private% "Numeral.value") n)
  (hr:(int_private% "readNumeral") 4300 10 (text.takeWhile (· != 0))=(int_private% "Numeral.value") n)
  (ha:((text.takeWhile (· != 0)).length==text.length)=true) (h:Q (.int n s.toks) { s with toks:=s.toks+1 }) :
  wpAny M A ((int_private% "intFromText") v text 10) Q E s:=by
 obtain⟨mc,oq,YU⟩:=hd;by_cases hs:(text.takeWhile (· != 0)).length<=640
 ·exact PySem.W.KIN.wp_text hs (Y2 hs) ha h
 ·wp_delta
  try dsimp only
  rw[if_neg hs];refine wpAny_bind ?_;unfold Builtin.intMaxStrDigits;refine wpAny_bind (wpAny_nsGet oq ?_);rw[YU];refine wpAny_pure ?_
  try dsimp only
  rw[hr]
  try dsimp only
  rw[if_pos ha];exact wpAny_mkInt h
set_option maxHeartbeats 4000000 in
theorem aaO{x:PySem.Str}{u:Tok}{n:Int}(hx:x.length<=4000)(hn:aiq x=some n):Meets (Builtin.«int.__new__» ⟨[.type "int",.str x u],[]⟩) (λ_ R s=>s.heap.NoDigits/\R (.ok (.ret (.int n s.toks))) { s with toks:=s.toks+1 }) :=
 .of_wp λprog w A R s h=>by
  obtain⟨hp,g,d,tk,os⟩:=s;obtain⟨hD,h⟩:=h;have f1:=F.conv_sub_int;have f2:=F.madeHere_int;have f3:=PySem.W.KIN.str_int;have f4:=PySem.W.KIN.str_idx;have f5:=PySem.W.KIN.str_trunc;have f6:typeOf (.str x u)=pure (.type "str"):=rfl;have hk:PySem.W.KIN.Hid (((numSeenOf x).length<=640->(int_private% "readNumeral") 0 10 (numSeenOf x)=(int_private% "Numeral.value") n)/\(int_private% "readNumeral") 4300 10 (numSeenOf x)=(int_private% "Numeral.value") n/\((numSeenOf x).length==(numTextOf x).length)=true):=by
   refine⟨λhs=>?_,?_⟩
   ·rcases read0 x hs with ⟨m,h1,h2,h3⟩|⟨h1,_⟩
    ·rw[hn] at h1
     injection h1 with h1
     subst h1;exact h3
    ·rw[hn] at h1
     cases h1
   ·rcases read4300 x (by rw[sizeLine_eq];omega) with ⟨m,h1,h2,h3⟩|⟨h1,_⟩
    ·rw[hn] at h1
     injection h1 with h1
     subst h1;exact⟨h3,h2⟩
    ·rw[hn] at h1
     cases h1
  clear hn hx
  repeat (any_goals (first
   | assumption
   | ((with_reducible show wpAny _ _ ((int_private% "intFromText") _ _ _) _ _ _);refine ag1 hD hk.out.1 hk.out.2.1 hk.out.2.2 ?_)
   | wp_step))
  all_goals first|exact⟨_,rfl,h⟩|skip
theorem UZ{x:PySem.Str}{t:Tok}{n:Int}(hD:s.heap.NoDigits)(hn:aiq x=some n)(hl:x.length<=4000)(h:Q (.int n s.toks) { s with toks:=s.toks+1 }):wpAny (model prog w) A (call (.type "int") [.str x t]) Q E s :=
 call_int_1 (aaO hl hn) ⟨hD,typeIs_int _ _ _,h⟩
end
section
variable{X:Cx}
theorem Inv.KW{pins:List (Addr×Obj)}{σ:St}{H:Hp}{s:Shared}(I:Inv X pins σ H s)(hD:X.base.NoDigits):s.heap.NoDigits:=hD.keeps I.bk
theorem UR(hD:X.base.NoDigits):gi X (.type "int") (λxs H Q=>∃z:Str,xs=[.str z]/\Cv z/\z.cps.toList≠[]/\z.length<=4000/\Q (.int ((numOf z:Nat):Int)) H):=by
 intro pins s σ H xs us Q I r h;obtain⟨z,rfl,hd,h0,hl,q⟩:=h;obtain⟨u,rfl,t,rfl⟩:=vals1 r;exact UZ (I.KW hD) (PySem.intText_digits hd h0 (by omega)) hl ⟨.int _,H,I.tok _,⟨_,rfl⟩,q⟩
theorem jE(hc:X.calm=true)(hD:X.base.NoDigits):gi X (.type "str") (λxs H Q=>∃i:Int,xs=[.int i]/\i.natAbs<10^4300/\Q (.str (toString i)) H):=by
 intro pins s σ H xs us Q I r h;obtain⟨i,rfl,hz,q⟩:=h;obtain⟨u,rfl,t,rfl⟩:=vals1 r;refine str_of_int_or (I.ok.hd hc) (I.KW hD) (λ_=>⟨.str _,H,I.tok _,⟨_,rfl⟩,q⟩) λz=>absurd hz (RL.mpr z)
end
end L2
namespace L2
open PySem PySem.Spec PyProof.Rows
abbrev c_:Str:="("
abbrev dm:Str:=")"
abbrev cp:Str:="["
abbrev e8:Str:="]"
abbrev ba:Str:="<"
abbrev aX:Str:=">"
abbrev oP:Str:="*"
abbrev cW:Str:="by"
abbrev iK:Str:="none"
def bZ(w:Str):Option Nat:=jF 1000 w
def tZ(w:Str):Str:=iD w (some 1) none
def gz(w:Str):Option Int :=
 if i3 45 w then (match bZ (tZ w) with
  | none=>none
  | some n=>if n=0 then none else some (-(n:Int)))
 else (bZ w).map λ(n:Nat)=>(n:Int)
inductive TK where
 | door|dC|cnt|num|eW
def tW(N:aq):TK->Str->Option (Option Int)
 | .door,w=>some (some (bL N.az w))
 | .dC,w=>some (some (bL N.aa w))
 | .cnt,w=>(bZ w).map λ(n:Nat)=>some (n:Int)
 | .num,w=>(gz w).map some
 | .eW,w=>if w=oP then some none else (bZ w).map λ(n:Nat)=>some (n:Int)
def cR(N:aq)(e:Str)(k:TK):List Str->Option (Mark×List Str)
 | []=>none
 | w::r=>if w=e then some ([],r) else match tW N k w with
  | none=>none
  | some v=>(cR N e k r).map λx=>(v::x.1,x.2)
def aU(N:aq)(b e:Str)(k:TK):List Str->Option (Mark×List Str)
 | []=>none
 | w::r=>if w=b then cR N e k r else none
def bU(m:Mark):List Int:=m.map λx=>x.getD 0
inductive Itm where
 | fl (i:Int)
 | wr (b:Int×List Int)
 | mk (m:Mark)
 | rs (r:dA)
inductive EK where
 | fe|pair|mark|eA|dC|gP
def dw(N:aq):List Str->Option ((Int×List Int)×List Str)
 | []=>none
 | w::r=>match bZ w with
  | none=>none
  | some n=>(aU N c_ dm .door r).map λx=>(((n:Int),bU x.1),x.2)
def fz(N:aq):List Str->Option ((Int×List Int)×List Str)
 | []=>none
 | w::r=>if r.head?=some cp then (match aU N cp e8 .cnt r with
   | none=>none
   | some x=>if x.1=[] then none else some ((bL N.az w,bU x.1),x.2))
  else some ((bL N.az w,[]),r)
def fM(N:aq):List Str->Option (dA×List Str)
 | []=>none
 | w::r=>if w="trap" then (aU N c_ dm .dC r).map λx=>(.yes true (bU x.1),x.2)
  else if w="weight" then (aU N ba aX .num r).map λx=>(.yes false (bU x.1),x.2)
  else if w=iK then some (.no,r) else none
def tI(N:aq):EK->List Str->Option (Itm×List Str)
 | .fe,R=>(dw N R).map λx=>(.wr x.1,x.2)
 | .pair,R=>(fz N R).map λx=>(.wr x.1,x.2)
 | .mark,R=>(aU N ba aX .eW R).map λx=>(.mk x.1,x.2)
 | .eA,R=>(aU N ba aX .cnt R).map λx=>(.mk x.1,x.2)
 | .dC,[]=>none
 | .dC,w::r=>some (.fl (bL N.aa w),r)
 | .gP,R=>(fM N R).map λx=>(.rs x.1,x.2)
def fW(N:aq)(k:EK):Nat->List Str->Option (List Itm)
 | _,[]=>some []
 | 0,_::_=>none
 | n+1,w::r=>match tI N k (w::r) with
  | none=>none
  | some x=>(fW N k n x.2).map (x.1::·)
def cS(N:aq):Nat->List Str->Option (List (Int×List Int)×List Str)
 | n,R=>if R.head?=some cW then some ([],R.tail) else match dw N R with
  | none=>none
  | some x=>match n with
   | 0=>none
   | n+1=>(cS N n x.2).map λy=>(x.1::y.1,y.2)
def gW:Itm->Int×List Int
 | .wr b=>b
 | _=>(0,[])
def gM:Itm->Mark
 | .mk m=>m
 | _=>[]
def gI:Itm->Int
 | .fl i=>i
 | _=>0
def gR:Itm->dA
 | .rs r=>r
 | _=>.no
def bC(N:aq)(k:EK)(R:List Str):Option (List Itm):=fW N k R.length R
def ie(N:aq):List Str->Option (aY×List Str)
 | []=>none
 | w::r=>if w="fence" then (bC N .mark r).map λx=>(.mk .fence (x.map gM),[])
  else if w="room" then (bC N .eA r).map λx=>(.mk .room (x.map gM),[])
  else if w="fall" then (aU N ba aX .num r).map λx=>(.b3 (bU x.1),x.2) else none
def dE(N:aq):List Str->Option (Option aY×List Str)
 | []=>none
 | w::r =>
  if w="run" then (bC N .fe r).map λx=>(some (.wr true (x.map gW)),[])
  else if w="branch" then (bC N .pair r).map λx=>(some (.wr false (x.map gW)),[])
  else if w="fence" then (bC N .mark r).map λx=>(some (.mk .fence (x.map gM)),[])
  else if w="room" then (bC N .eA r).map λx=>(some (.mk .room (x.map gM)),[])
  else if w="wants" then (bC N .eA r).map λx=>(some (.mk .wants (x.map gM)),[])
  else if w="fall" then (aU N ba aX .num r).map λx=>(some (.b3 (bU x.1)),x.2)
  else if w="sum" then (match r with
   | []=>none
   | c::r'=>match bZ c with
    | none=>none
    | some n=>(aU N ba aX .num r').map λx=>(some (.sum (bU x.1) (n:Int)),x.2))
  else if w="dry" then (bC N .dC r).map λx=>(some (.st true (x.map gI)),[])
  else if w="wet" then (bC N .dC r).map λx=>(some (.st false (x.map gI)),[])
  else if w="kept" then (bC N .gP r).map λx=>(some (.kept (x.map gR)),[])
  else if w="most" then (match cS N r.length r with
   | none=>none
   | some x=>(ie N x.2).map λy=>(some (.most x.1 y.1),y.2))
  else if w=iK then some (none,r) else none
def cN(N:aq)(ws:List Str):Option (Option aY) :=
 match dE N ws with
 | some (none,[])=>some none
 | some (some P,[])=>if lT N.aa.length N.az.length P then some (some P) else none
 | _=>none
def fG(ns:List Str)(is:List Int):List Str:=c_::(is.map λi=>ns.getD i.toNat ay)++[dm]
def fh:Option Int->Str
 | none=>oP
 | some n=>bj n
def aT(m:Mark):List Str:=ba::m.map fh++[aX]
def c8(N:aq)(b:Int×List Int):List Str:=bj b.1::fG N.az b.2
def iJ(l:List Int):List Str:=if l=[] then [] else cp::l.map bj++[e8]
def gA(N:aq)(b:Int×List Int):List Str:=N.az.getD b.1.toNat ay::iJ b.2
def f9(N:aq):dA->List Str
 | .no=>[iK]
 | .yes true bs=>"trap" :: fG N.aa bs
 | .yes false ws=>"weight" :: aT (ws.map some)
def fT(N:aq):aY->List Str
 | .wr true bs=>bs.flatMap (c8 N)
 | .wr false bs=>bs.flatMap (gA N)
 | .mk _ ms=>ms.flatMap aT
 | .b3 ws=>aT (ws.map some)
 | .sum ws p=>bj p::aT (ws.map some)
 | .st _ bs=>bs.map λi=>N.aa.getD i.toNat ay
 | .kept rs=>rs.flatMap (f9 N)
 | .most bs q=>bs.flatMap (c8 N)++cW::bK q::fT N q
def d4(N:aq)(P:aY):List Str:=bK P::fT N P
abbrev fS(x:Int):Prop:=0<=x/\x<10^1000
def gw(ns:List Str)(i:Int):Prop:=0<=i/\i<ns.length
def goodW(N:aq)(b:Int×List Int):Prop:=fS b.1/\∀i∈b.2,gw N.az i
def sR(N:aq)(b:Int×List Int):Prop:=gw N.az b.1/\∀i∈b.2,fS i
def fg(m:Mark):Prop:=∀n,some n∈m->fS n
def kn(ws:List Int):Prop:=∀x∈ws,(x.natAbs:Int)<10^1000
def nZ(N:aq):dA->Prop
 | .no=>True
 | .yes true bs=>∀i∈bs,gw N.aa i
 | .yes false ws=>kn ws
def pX(N:aq):aY->Prop
 | .mk .fence ms=>∀m∈ms,fg m
 | .mk .room ms=>∀m∈ms,fg m/\none∉m
 | .b3 ws=>kn ws
 | _=>False
def jJ(N:aq):aY->Prop
 | .wr true bs=>∀b∈bs,goodW N b
 | .wr false bs=>∀b∈bs,sR N b
 | .mk .fence ms=>∀m∈ms,fg m
 | .mk _ ms=>∀m∈ms,fg m/\none∉m
 | .b3 ws=>kn ws
 | .sum ws p=>kn ws/\fS p
 | .st _ bs=>∀i∈bs,gw N.aa i
 | .kept rs=>∀r∈rs,nZ N r
 | .most bs q=>(∀b∈bs,goodW N b)/\pX N q
theorem E_(n:Nat):(bj (n:Int)).cps.toList=(BZ 10 n).map Char.toNat:=PySem.W.KIN.signs_num n
theorem Fb{n:Int}(h:fS n):(bj n).length<=1000:=PyProof.Rows.toString_length_le h.1 (by decide) h.2
theorem Bw(n:Nat):∀c∈(bj (n:Int)).cps.toList,48<=c/\c<=57:=λc hc=>by
 rw[E_] at hc;obtain⟨ch,jL,e⟩:=bR.mp hc;have r:=PyProof.Rows.digit_range (Nat.isDigit_of_mem_toDigits (by decide) (by decide) jL)
 rw[<-e];exact r
theorem QJ(n:Nat):∃c r,(bj (n:Int)).cps.toList=c::r/\48<=c/\c<=57:=by
 have h:=Bw n;have ge:=toDigits_len_ge 10 n;rw[E_] at h ⊢
 cases q:BZ 10 n with
 | nil=>rw[q] at ge;cases ge
 | cons a l=>rw[q] at h;exact⟨_,_,rfl,h _ cB⟩
theorem CW{n:Nat}(h:(n:Int)<10^1000):bZ (bj (n:Int))=some n:=by
 have es:=E_ n;have ln:=Fb (n:=(n:Int)) ⟨by omega,h⟩
 have lc:(bj (n:Int)).cps.toList.length=(bj (n:Int)).length:=gE;have ge:=toDigits_len_ge 10 n;have l1:1<=(bj (n:Int)).length:=by
  rw[<-lc,es,aH];exact ge
 have hd:pT (bj (n:Int))=true:=by
  unfold pT;refine e_.mpr λc hc=>?_
  have r:=Bw n c hc;rw[decide_eq_true r.1,decide_eq_true r.2];rfl
 have hz:¬ (i3 48 (bj (n:Int))=true/\bj (n:Int)≠BQ):=by
  rintro⟨z1,z2⟩;unfold i3 at z1;rw[es] at z1;have z1:=beq_iff_eq.mp z1;by_cases n0:n=0
  ·subst n0
   exact z2 rfl
  ·have hh:=VB n (by omega)
   cases q:BZ 10 n with
   | nil=>rw[q] at z1;cases z1
   | cons a l =>
    rw[q] at z1 hh;have z1:a.toNat=48:=a6 z1;have:a='0':=Char.toNat_inj.mp z1;exact hh (by rw[this];rfl)
 have hv:numOf (bj (n:Int))=n:=by
  unfold numOf;rw[es];exact PySem.W.KIN.val_back n
 unfold bZ jF;rw[if_pos ⟨⟨l1,ln⟩,hd,hz⟩,hv]
theorem uN{x:Int}(h:fS x):bZ (bj x)=some x.toNat/\((x.toNat:Nat):Int)=x:=by
 obtain⟨n,rfl⟩:=jA h.1;exact⟨CW h.2,rfl⟩
theorem Fc(n:Nat)(h:0<n):bj (-(n:Int))=st (45::(bj (n:Int)).cps.toList):=by
 cases n with
 | zero=>omega
 | succ m =>
  have e:(toString (-((m+1:Nat):Int)):String)="-" ++ toString ((m+1:Nat):Int):=rfl;rw[<-qO (bj (-((m+1:Nat):Int)))];refine congrArg st ?_;show (zalias233z (toString (-((m+1:Nat):Int)))).cps.toList=_;rw[e,ahX,ahX,String.toList_append,dX];rfl
theorem agD(c:Nat)(l:List Nat):tZ (st (c::l))=st l:=by
 unfold tZ;rw[CZ];have h1:HT.dF (c::l).length 0 (some 1)=1:=by
  show HT.dF (c::l).length 0 (some ((1:Nat):Int))=1;rw[HT.aej,bF];omega
 rw[h1,HT.MG,List.drop_one,List.tail_cons,ahJ (by rw[bF];omega)]
theorem abr{x:Int}(h:(x.natAbs:Int)<10^1000):gz (bj x)=some x:=by
 by_cases h0:0<=x
 ·obtain⟨n,rfl⟩:=jA h0
  obtain⟨c,r,e,c0,c1⟩:=QJ n;have hh:i3 45 (bj (n:Int))=false:=by
   unfold i3;rw[e,aiL,RJ];intro z;have:c=45:=a6 (beq_iff_eq.mp z);omega
  unfold gz;rw[hh,CW (by omega)]
  rfl
 ·obtain⟨n,hn,rfl⟩:∃n:Nat,0<n/\x = -(n:Int):=⟨x.natAbs,by omega,by omega⟩
  unfold gz;rw[Fc n hn];have hh:i3 45 (st (45::(bj (n:Int)).cps.toList))=true:=rfl;rw[hh,if_pos rfl,agD,qO,CW (by omega)]
  try dsimp only
  rw[if_neg (by omega)]
theorem KR{x y:Str}{c:Nat}(hy:y.cps.toList.head?=some c)(hx:x.cps.toList.head?≠some c):x≠y:=λe=>hx (by rw[e];exact hy)
theorem vL{y:Str}(h:dQ y=true){s:Str}{c:Nat}(hs:s.cps.toList.head?=some c)(hc:c<97):y≠s:=by
 refine KR hs λz=>?_
 unfold dQ at h;rw[de,e_] at h
 cases q:y.cps.toList with
 | nil=>rw[q] at z;cases z
 | cons a l =>
  rw[q] at z;have e:a=c:=a6 z;have:=h.2 a (by rw[q];exact cB)
  unfold jw at this;rw[de,decide_eq_true_eq] at this;omega
theorem oG(n:Int){s:Str}{c:Nat}(hs:s.cps.toList.head?=some c)(hc:c≠45)(h1:c<48\/57<c):bj n≠s:=by
 refine KR hs λz=>?_
 by_cases h0:0<=n
 ·obtain⟨m,rfl⟩:=jA h0
  obtain⟨a,r,e,c0,c1⟩:=QJ m;rw[e] at z;have:a=c:=a6 z;omega
 ·obtain⟨m,hm,rfl⟩:∃m:Nat,0<m/\n = -(m:Int):=⟨n.natAbs,by omega,by omega⟩
  rw[Fc m hm] at z;have:45=c:=a6 z;omega
theorem Hu{N:aq}{e:Str}{k:TK}{α:Type}(f:α->Str)(g:α->Option Int)(R:List Str):∀(l:List α),(∀a∈l,f a≠e/\tW N k (f a)=some (g a))->cR N e k (l.map f++e::R)=some (l.map g,R)
 | [],_=>by
  show cR N e k (e::R)=_;unfold cR;rw[if_pos rfl];rfl
 | a::l,h=>by
  obtain⟨h1,h2⟩:=h a cB;show cR N e k (f a::(l.map f++e::R))=_;unfold cR;rw[if_neg h1,h2]
  try dsimp only
  rw[Hu f g R l λb hb=>h b (cP _ hb)]
  rfl
theorem rR{N:aq}{b e:Str}{k:TK}{α:Type}(f:α->Str)(g:α->Option Int)(R:List Str)(l:List α)(h:∀a∈l,f a≠e/\tW N k (f a)=some (g a)):aU N b e k ((b::l.map f++[e])++R)=some (l.map g,R):=by
 show aU N b e k (b::((l.map f++[e])++R))=_;unfold aU
 try dsimp only
 rw[if_pos rfl,kW];exact Hu f g R l h
theorem qu(l:List Int):bU (l.map some)=l:=by
 unfold bU;rw[ek];exact kQ _
theorem Aj{ns:List Str}{i:Int}(h:gw ns i):∃hj:i.toNat<ns.length,ns.getD i.toNat ay=ns[i.toNat]:=by
 have hj:i.toNat<ns.length:=by have:=h.1;have:=h.2;omega
 exact⟨hj,by rw[gF,cw hj];rfl⟩
theorem oK{ns:List Str}{i:Int}(nd:ns.Nodup)(h:gw ns i):bL ns (ns.getD i.toNat ay)=i:=by
 obtain⟨hj,e⟩:=Aj h;rw[e,adv nd hj];exact Int.toNat_of_nonneg h.1
section
variable{N:aq}(ok:N.Ok)
include ok
theorem uS{i:Int}(h:gw N.az i):dQ (N.az.getD i.toNat ay)=true:=by
 obtain⟨hj,e⟩:=Aj h;rw[e];exact ok.dn _ (pA hj)
theorem Hm{i:Int}(h:gw N.aa i):dQ (N.aa.getD i.toNat ay)=true:=by
 obtain⟨hj,e⟩:=Aj h;rw[e];exact ok.bn _ (pA hj)
theorem UD{is:List Int}(h:∀i∈is,gw N.az i)(R:List Str):aU N c_ dm .door (fG N.az is++R)=some (is.map some,R) :=
 rR (λi=>N.az.getD i.toNat ay) some R is λi hi=>⟨vL (uS ok (h i hi)) rfl (by decide),by show some (some (bL N.az _))=_;rw[oK ok.dd (h i hi)]⟩
theorem UC{is:List Int}(h:∀i∈is,gw N.aa i)(R:List Str):aU N c_ dm .dC (fG N.aa is++R)=some (is.map some,R) :=
 rR (λi=>N.aa.getD i.toNat ay) some R is λi hi=>⟨vL (Hm ok (h i hi)) rfl (by decide),by show some (some (bL N.aa _))=_;rw[oK ok.bd (h i hi)]⟩
omit ok in
theorem uI{ws:List Int}(h:kn ws)(R:List Str):aU N ba aX .num (aT (ws.map some)++R)=some (ws.map some,R):=by
 have e:aT (ws.map some)=ba::ws.map bj++[aX]:=by unfold aT;rw[ek];rfl
 rw[e];exact rR bj some R ws λi hi=>⟨oG i rfl (by decide) (by decide),by show (gz (bj i)).map some=_;rw[abr (h i hi)];rfl⟩
omit ok in
theorem CT{m:Mark}(h:fg m)(R:List Str):aU N ba aX .eW (aT m++R)=some (m,R):=by
 have:=rR (N:=N) (b:=ba) (e:=aX) (k:=.eW) fh id R m λv hv=>by
  cases v with
  | none=>exact⟨by decide +kernel,rfl⟩
  | some n =>
   obtain⟨c1,c2⟩:=uN (h n hv);refine⟨oG n rfl (by decide) (by decide),?_⟩
   show (if bj n=oP then some none else (bZ (bj n)).map λ(n:Nat)=>some (n:Int))=_
   rw[if_neg (oG n rfl (by decide) (by decide)),c1,fm,c2]
   rfl
 rw[kQ] at this;exact this
omit ok in
theorem xr{m:Mark}(h:fg m)(h2:none∉m)(R:List Str):aU N ba aX .cnt (aT m++R)=some (m,R):=by
 have:=rR (N:=N) (b:=ba) (e:=aX) (k:=.cnt) fh id R m λv hv=>by
  cases v with
  | none=>exact absurd hv h2
  | some n =>
   obtain⟨c1,c2⟩:=uN (h n hv);refine⟨oG n rfl (by decide) (by decide),?_⟩
   show (bZ (bj n)).map (λ(n:Nat)=>some (n:Int))=_
   rw[c1,fm,c2];rfl
 rw[kQ] at this;exact this
omit ok in
theorem UE{l:List Int}(h:∀i∈l,fS i)(R:List Str):aU N cp e8 .cnt ((cp::l.map bj++[e8])++R)=some (l.map some,R) :=
 rR bj some R l λi hi=>by
  obtain⟨c1,c2⟩:=uN (h i hi);refine⟨oG i rfl (by decide) (by decide),?_⟩
  show (bZ (bj i)).map (λ(n:Nat)=>some (n:Int))=_
  rw[c1,fm,c2]
theorem He{b:Int×List Int}(h:goodW N b)(R:List Str):dw N (c8 N b++R)=some (b,R):=by
 obtain⟨c1,c2⟩:=uN h.1;show dw N (bj b.1::(fG N.az b.2++R))=_;unfold dw
 try dsimp only
 rw[c1]
 try dsimp only
 rw[UD ok h.2,fm,c2]
 try dsimp only
 rw[qu]
theorem acW{b:Int×List Int}(h:sR N b)(R:List Str)(hR:R.head?≠some cp):fz N (gA N b++R)=some (b,R):=by
 show fz N (N.az.getD b.1.toNat ay::(iJ b.2++R))=_;unfold fz
 try dsimp only
 by_cases e:b.2=[]
 ·have el:iJ b.2=[]:=by unfold iJ;rw[if_pos e]
  rw[el,ahA,if_neg hR,oK ok.dd h.1];obtain⟨b1,b2⟩:=b
  try dsimp only at e
  rw[e]
 ·have el:iJ b.2=cp::b.2.map bj++[e8]:=by unfold iJ;rw[if_neg e]
  rw[el,if_pos (show (cp::b.2.map bj++[e8]++R).head?=some cp from rfl),UE h.2]
  try dsimp only
  rw[if_neg (λz=>e (by cases q:b.2 with|nil=>rfl|cons a l=>rw[q] at z;cases z)),qu,oK ok.dd h.1]
theorem aec{r:dA}(h:nZ N r)(R:List Str):fM N (f9 N r++R)=some (r,R):=by
 cases r with
 | no =>
  show fM N (iK::R)=_;unfold fM
  try dsimp only
  rw[if_neg (by decide +kernel),if_neg (by decide +kernel),if_pos rfl]
 | yes k bs =>
  cases k with
  | true =>
   show fM N ("trap" :: (fG N.aa bs++R))=_;unfold fM
   try dsimp only
   rw[if_pos rfl,UC ok h,fm]
   try dsimp only
   rw[qu]
  | false =>
   show fM N ("weight" :: (aT (bs.map some)++R))=_;unfold fM
   try dsimp only
   rw[if_neg (by decide +kernel),if_pos rfl,uI h,fm]
   try dsimp only
   rw[qu]
omit ok in
theorem Ia{k:EK}{α:Type}(f:α->List Str)(it:α->Itm)(hf:∀a,f a≠[]):∀(l:List α),(∀a∈l,∀l',(∃l0,l=l0++a::l')->tI N k (f a++l'.flatMap f)=some (it a,l'.flatMap f))->∀n,(l.flatMap f).length<=n->fW N k n (l.flatMap f)=some (l.map it)
 | [],_,n,_=>by cases n<;>rfl
 | a::l,h,n,hn=>by
  have h1:=h a cB l ⟨[],rfl⟩;rw[Gv] at hn ⊢
  cases q:f a with
  | nil=>exact absurd q (hf a)
  | cons w r =>
   rw[q] at h1 hn;rw[bS,bF] at hn
   cases n with
   | zero=>omega
   | succ n =>
    show fW N k (n+1) (w::(r++l.flatMap f))=_;have h1:tI N k (w::(r++l.flatMap f))=some (it a,l.flatMap f):=h1;unfold fW;rw[h1]
    try dsimp only
    rw[Ia f it hf l (λb hb l' ⟨l0,e⟩=>h b (cP _ hb) l' ⟨a::l0,by rw[e];rfl⟩) n (by omega)]
    rfl
omit ok in
theorem mi{k:EK}{α:Type}(f:α->List Str)(it:α->Itm)(hf:∀a,f a≠[])(l:List α)(h:∀a∈l,∀l',(∃l0,l=l0++a::l')->tI N k (f a++l'.flatMap f)=some (it a,l'.flatMap f)):bC N k (l.flatMap f)=some (l.map it) :=
 Ia f it hf l h _ (bH _)
theorem KN(R:List Str):∀(bs:List (Int×List Int)),(∀b∈bs,goodW N b)->∀n,(bs.flatMap (c8 N)).length<=n->cS N n (bs.flatMap (c8 N)++cW::R)=some (bs,R)
 | [],_,n,_=>by
  show cS N n (cW::R)=_;unfold cS;rw[if_pos (show (cW::R).head?=some cW from rfl)]
  rfl
 | b::bs,h,n,hn=>by
  have h1:=He ok (h b cB) (bs.flatMap (c8 N)++cW::R);rw[Gv] at hn ⊢;rw[bS] at hn;have lb:1<=(c8 N b).length:=by unfold c8;rw[bF];omega
  rw[kW];have qi:(c8 N b++(bs.flatMap (c8 N)++cW::R)).head?≠some cW:=λz=>oG b.1 (s:=cW) rfl (by decide) (by decide) (a6 z)
  unfold cS;rw[if_neg qi,h1]
  try dsimp only
  cases n with
  | zero=>omega
  | succ n =>
   try dsimp only
   rw[KN R bs (λc hc=>h c (cP _ hc)) n (by omega)]
   rfl
omit ok in
theorem ml{α β:Type}(l:List α)(it:α->Itm)(g:Itm->β)(f:α->β)(h:∀a,g (it a)=f a):(l.map it).map g=l.map f:=by
 rw[ek];exact aiO λa _=>h a
theorem Zs{q:aY}(h:pX N q):ie N (bK q::fT N q)=some (q,[]):=by
 match q,h with
 | .mk .fence ms,h =>
  show ie N ("fence" :: ms.flatMap aT)=_;unfold ie
  try dsimp only
  rw[if_pos rfl,mi (k:=.mark) aT Itm.mk (λ_=>by unfold aT;simp) ms λm hm l' _=>by show (aU N ba aX .eW _).map _=_;rw[CT (h m hm)];rfl,fm,ml ms Itm.mk gM id (λ_=>rfl),kQ]
 | .mk .room ms,h =>
  show ie N ("room" :: ms.flatMap aT)=_;unfold ie
  try dsimp only
  rw[if_neg (by decide +kernel),if_pos rfl,mi (k:=.eA) aT Itm.mk (λ_=>by unfold aT;simp) ms λm hm l' _=>by show (aU N ba aX .cnt _).map _=_;rw[xr (h m hm).1 (h m hm).2];rfl,fm,ml ms Itm.mk gM id (λ_=>rfl),kQ]
 | .b3 ws,h =>
  show ie N ("fall" :: aT (ws.map some))=_;unfold ie
  try dsimp only
  have e:=uI (N:=N) h [];rw[eY] at e;rw[if_neg (by decide +kernel),if_neg (by decide +kernel),if_pos rfl,e,fm]
  try dsimp only
  rw[qu]
theorem LS{P:aY}(h:jJ N P):dE N (d4 N P)=some (some P,[]):=by
 have CI:∀m:Mark,aT m≠[]:=λ_=>by unfold aT;simp
 match P,h with
 | .wr true bs,h =>
  show dE N ("run" :: bs.flatMap (c8 N))=_;unfold dE
  try dsimp only
  rw[if_pos rfl,mi (k:=.fe) (c8 N) Itm.wr (λ_=>by unfold c8;simp) bs λb hb l' _=>by show (dw N _).map _=_;rw[He ok (h b hb)];rfl,fm,ml bs Itm.wr gW id (λ_=>rfl),kQ]
 | .wr false bs,h =>
  show dE N ("branch" :: bs.flatMap (gA N))=_;unfold dE
  try dsimp only
  rw[if_neg (by decide +kernel),if_pos rfl,mi (k:=.pair) (gA N) Itm.wr (λ_=>by unfold gA;simp) bs λb hb l' hl=>by
   show (fz N _).map _=_;rw[acW ok (h b hb) _ ?_]
   ·rfl
   ·obtain⟨l0,e⟩:=hl
    cases l' with
    | nil=>exact λz=>nomatch z
    | cons c l' =>
     intro z;have hc:c∈bs:=by rw[e];simp
     exact vL (uS ok (h c hc).1) (s:=cp) rfl (by decide) (a6 z),fm,ml bs Itm.wr gW id (λ_=>rfl),kQ]
 | .mk .fence ms,h =>
  show dE N ("fence" :: ms.flatMap aT)=_;unfold dE
  try dsimp only
  rw[if_neg (by decide +kernel),if_neg (by decide +kernel),if_pos rfl,mi (k:=.mark) aT Itm.mk CI ms λm hm l' _=>by show (aU N ba aX .eW _).map _=_;rw[CT (h m hm)];rfl,fm,ml ms Itm.mk gM id (λ_=>rfl),kQ]
 | .mk .room ms,h =>
  show dE N ("room" :: ms.flatMap aT)=_;unfold dE
  try dsimp only
  rw[if_neg (by decide +kernel),if_neg (by decide +kernel),if_neg (by decide +kernel),if_pos rfl,mi (k:=.eA) aT Itm.mk CI ms λm hm l' _=>by show (aU N ba aX .cnt _).map _=_;rw[xr (h m hm).1 (h m hm).2];rfl,fm,ml ms Itm.mk gM id (λ_=>rfl),kQ]
 | .mk .wants ms,h =>
  show dE N ("wants" :: ms.flatMap aT)=_;unfold dE
  try dsimp only
  rw[if_neg (by decide +kernel),if_neg (by decide +kernel),if_neg (by decide +kernel),if_neg (by decide +kernel),if_pos rfl,mi (k:=.eA) aT Itm.mk CI ms λm hm l' _=>by show (aU N ba aX .cnt _).map _=_;rw[xr (h m hm).1 (h m hm).2];rfl,fm,ml ms Itm.mk gM id (λ_=>rfl),kQ]
 | .b3 ws,h =>
  show dE N ("fall" :: aT (ws.map some))=_;unfold dE
  try dsimp only
  have e:=uI (N:=N) h [];rw[eY] at e;rw[if_neg (by decide +kernel),if_neg (by decide +kernel),if_neg (by decide +kernel),if_neg (by decide +kernel),if_neg (by decide +kernel),if_pos rfl,e,fm]
  try dsimp only
  rw[qu]
 | .sum ws p,h =>
  obtain⟨c1,c2⟩:=uN h.2;show dE N ("sum" :: bj p::aT (ws.map some))=_;unfold dE
  try dsimp only
  have e:=uI (N:=N) h.1 [];rw[eY] at e;rw[if_neg (by decide +kernel),if_neg (by decide +kernel),if_neg (by decide +kernel),if_neg (by decide +kernel),if_neg (by decide +kernel),if_neg (by decide +kernel),if_pos rfl]
  try dsimp only
  rw[c1]
  try dsimp only
  rw[e,fm]
  try dsimp only
  rw[qu,c2]
 | .st k bs,h =>
  have eb:∀bs:List Int,(bs.map λi=>N.aa.getD i.toNat ay)=bs.flatMap λi=>[N.aa.getD i.toNat ay]:=λbs=>by
   induction bs with
   | nil=>rfl
   | cons a l ih=>rw[jc,Gv,ih];rfl
  have e:bC N .dC (bs.map λi=>N.aa.getD i.toNat ay)=some (bs.map Itm.fl):=by
   rw[eb];refine mi (k:=.dC) (λi=>[N.aa.getD i.toNat ay]) Itm.fl (λ_=>by simp) bs λi hi l' _=>?_
   show some (Itm.fl (bL N.aa _),_)=_;rw[oK ok.bd (h i hi)];rfl
  have g:(bs.map Itm.fl).map gI=bs:=by rw[ml bs Itm.fl gI id (λ_=>rfl),kQ]
  cases k with
  | true =>
   show dE N ("dry" :: bs.map _)=_;unfold dE
   try dsimp only
   rw[if_neg (by decide +kernel),if_neg (by decide +kernel),if_neg (by decide +kernel),if_neg (by decide +kernel),if_neg (by decide +kernel),if_neg (by decide +kernel),if_neg (by decide +kernel),if_pos rfl,e,fm,g]
  | false =>
   show dE N ("wet" :: bs.map _)=_;unfold dE
   try dsimp only
   rw[if_neg (by decide +kernel),if_neg (by decide +kernel),if_neg (by decide +kernel),if_neg (by decide +kernel),if_neg (by decide +kernel),if_neg (by decide +kernel),if_neg (by decide +kernel),if_neg (by decide +kernel),if_pos rfl,e,fm,g]
 | .kept rs,h =>
  show dE N ("kept" :: rs.flatMap (f9 N))=_;unfold dE
  try dsimp only
  rw[if_neg (by decide +kernel),if_neg (by decide +kernel),if_neg (by decide +kernel),if_neg (by decide +kernel),if_neg (by decide +kernel),if_neg (by decide +kernel),if_neg (by decide +kernel),if_neg (by decide +kernel),if_neg (by decide +kernel),if_pos rfl,
   mi (k:=.gP) (f9 N) Itm.rs (λr=>by cases r with|no=>simp[f9]|yes k bs=>cases k<;>simp[f9]) rs λr hr l' _=>by show (fM N _).map _=_;rw[aec ok (h r hr)];rfl,fm,ml rs Itm.rs gR id (λ_=>rfl),kQ]
 | .most bs q,h =>
  show dE N ("most" :: (bs.flatMap (c8 N)++cW::(bK q::fT N q)))=_;unfold dE
  try dsimp only
  rw[if_neg (by decide +kernel),if_neg (by decide +kernel),if_neg (by decide +kernel),if_neg (by decide +kernel),if_neg (by decide +kernel),if_neg (by decide +kernel),if_neg (by decide +kernel),if_neg (by decide +kernel),if_neg (by decide +kernel),if_neg (by decide +kernel),if_pos rfl,
   KN ok (bK q::fT N q) bs h.1 _ (by rw[bS];omega)]
  try dsimp only
  rw[Zs ok h.2];rfl
theorem Ml{P:aY}(h:jJ N P)(hw:lT N.aa.length N.az.length P=true):cN N (d4 N P)=some (some P):=by
 unfold cN;rw[LS ok h]
 try dsimp only
 rw[if_pos hw]
end
abbrev uR(x lw:Addr)(p:Nat)(m:Int):List (Str×V):=[("net",.ref x),("words",.ref lw),("place",.int (p:Int)),("number",.int m)]
def dg(c:Addr)(H H':Hp):Prop:=∀b o,b≠c->H b=some o->H' b=some o
theorem dg.refl(c:Addr)(H:Hp):dg c H H:=λ_ _ _ e=>e
theorem dg.trans{c:Addr}{H H1 H2:Hp}(h:dg c H H1)(h2:dg c H1 H2):dg c H H2:=λb o n e=>h2 b o n (h b o n e)
theorem ae.cz{c:Addr}{H H1:Hp}(h:ae H H1):dg c H H1:=λb o _ e=>h b o e
theorem dg.wB{c:Addr}{H H1:Hp}(h:dg c H H1)(o:HO):dg c H (upd H1 c o):=λb u n e=>by rw[bg n];exact h b u n e
theorem dg.upd{c q:Addr}{H H1:Hp}{o:HO}(h:dg c H H1)(hq:H1 q=none):dg c H (L2.upd H1 q o):=λb u n e=>by
 have h1:=h b u n e;rw[bg (e6 h1 hq)];exact h1
theorem dg.free{c q:Addr}{H H1:Hp}(h:dg c H H1)(hq:H1 q=none)(hc:∃o,H1 c=some o):H q=none:=by
 cases e:H q with
 | none=>rfl
 | some o =>
  by_cases n:q=c
  ·obtain⟨o',h'⟩:=hc
   rw[n,h'] at hq
   cases hq
  ·rw[h q o n e] at hq
   cases hq
structure Sn(C:Addr)(H:Hp)(c dx x lw:Addr)(m:Int)(W:List Str)(p:Nat):Prop where
 ob:H c=some (.ins C dx (uR x lw p m))
 hw:H lw=some (.lst (bq W))
 le:p<=W.length
theorem qA{H:Hp}{a c C dx:Addr}{fs:List (Str×V)}{xs:List V}(h:H c=some (.ins C dx fs))(ha:H a=some (.lst xs)):a≠c:=λe=>by rw[e,h] at ha;cases ha
theorem cA.cz{Cn C:Addr}{H H':Hp}{c Ve x0 lw x dx b d t g f:Addr}{p:Nat}{m:Int}{ts gs:List Addr}{N:aq}(n:cA Cn H x dx b d t g f ts gs N)(h:H c=some (.ins C Ve (uR x0 lw p m)))(S:dg c H H'):cA Cn H' x dx b d t g f ts gs N:=by
 have xc:x≠c:=λe=>by
  have:=n.ob;rw[e,h] at this;injection this with this
  injection this with _ _ this
  have h1:=congrArg (λl:List (Str×V)=>(l.map (·.1)).head?) this
  have h2:zalias233z "net" = zalias233z "bowls" := a6 h1;exact absurd h2 (by decide +kernel)
 have rows:∀{as:List Addr} {rs:List (List Int)},Rows H as rs->Rows H' as rs:=λR=>Paired.eZ R λa r e=>S a _ (qA h e) e
 exact⟨S _ _ xc n.ob,S _ _ (qA h n.hb) n.hb,S _ _ (qA h n.hd) n.hd,S _ _ (qA h n.ht) n.ht,rows n.tr,S _ _ (qA h n.hg) n.hg,rows n.gr,S _ _ (qA h n.hf) n.hf⟩
structure CA where
 (dx x lw VG b d t g f:Addr)
 (ts gs:List Addr)
def bN(Cn C:Addr)(H:Hp)(c:Addr)(ca:CA)(N:aq)(m:Int)(W:List Str)(p:Nat):Prop :=
 Sn C H c ca.dx ca.x ca.lw m W p/\cA Cn H ca.x ca.VG ca.b ca.d ca.t ca.g ca.f ca.ts ca.gs N
section
variable{Cn C:Addr}{H H':Hp}{c:Addr}{ca:CA}{N:aq}{m:Int}{W:List Str}{p p':Nat}
theorem bN.le(h:bN Cn C H c ca N m W p):p<=W.length:=h.1.le
theorem bN.has(h:bN Cn C H c ca N m W p):∃o,H c=some o:=⟨_,h.1.ob⟩
theorem bN.same(h:bN Cn C H c ca N m W p)(S:ae H H'):bN Cn C H' c ca N m W p:=⟨⟨S _ _ h.1.ob,S _ _ h.1.hw,h.1.le⟩,h.2.same S⟩
theorem bN.move(h:bN Cn C H c ca N m W p)(S:dg c H H')(e:H' c=some (.ins C ca.dx (uR ca.x ca.lw p' m)))(l:p'<=W.length):bN Cn C H' c ca N m W p' :=
 ⟨⟨e,S _ _ (qA h.1.ob h.1.hw) h.1.hw,l⟩,h.2.cz h.1.ob S⟩
end
def Tk(Cn C G:Addr){α:Type}(par:List Str->Option (α×List Str))(IN:Hp->Hp->V->α->Prop)(H:Hp)(c:Addr)(ca:CA)(N:aq)(m:Int)(W:List Str)(p:Nat)(Q:VK)(E:XK):Prop :=
 (∀a p',par (W.drop p)=some (a,W.drop p')->p<=p'->p'<=W.length->∀v H',dg c H H'->bN Cn C H' c ca N m W p'->IN H H' v a->Q v H') /\
 (par (W.drop p)=none->∀e H',dg c H H'->H e=none->H' e=some (.xd [("row",.int m)])->E (.ref G) (some e) H')
def dh(W:List Str):Prop:=W.length<=100000/\∀w∈W,qF w/\w.length<=2000
def E9:List Str->Option (Str×List Str)
 | []=>none
 | w::r=>some (w,r)
def kO(s:Str):List Str->Option (Unit×List Str)
 | []=>none
 | w::r=>if w=s then some ((),r) else none
def gf(N:aq)(k:TK):List Str->Option (Option Int×List Str)
 | []=>none
 | w::r=>(tW N k w).map λv=>(v,r)
def Zr:Hp->Hp->V->Str->Prop:=λ_ _ v w=>v=.str w
def Zp:Hp->Hp->V->Unit->Prop:=λ_ _ v _=>v=.aR
def qq:Hp->Hp->V->Option Int->Prop:=λ_ _ v o=>v=vm o
inductive DD(H0:Hp)(H:Hp)(v:V)(m:Mark):Prop
 | mk:∀a,(v=.ref a)->(H0 a=none)->(H a=some (.lst (cX m)))->DD H0 H v m
theorem drop_cons{W:List Str}{p:Nat}(h:p<W.length):W.drop p=W[p]::W.drop (p+1):=Sb h
theorem drop_nil{W:List Str}{p:Nat}(h:¬ p<W.length):W.drop p=[]:=aiB (by omega)
abbrev uP(x:Addr):List (Str×V):=[("net",.ref x)]
abbrev rV(x lw:Addr):List (Str×V):=[("net",.ref x),("words",.ref lw)]
abbrev uQ(x lw:Addr):List (Str×V):=[("net",.ref x),("words",.ref lw),("place",.int 0)]
theorem oS{W:List Str}{p p':Nat}{w:Str}(wk:dh W)(e:E9 (W.drop p)=some (w,W.drop p')):W.drop p=w::W.drop p'/\qF w/\w.length<=2000:=by
 cases q:W.drop p with
 | nil=>rw[q] at e;cases e
 | cons a r =>
  rw[q] at e;have e1:(a,r)=(w,W.drop p'):=a6 e;injection e1 with e1 e2
  rw[e1,e2];exact⟨rfl,wk.2 w (ahy (i:=p) (by rw[q,e1];exact cB))⟩
def zl(f1 f2 f3 f4 f5:Addr):TK->Addr
 | .door=>f1
 | .dC=>f2
 | .cnt=>f3
 | .num=>f4
 | .eW=>f5
def zj(f1 f2 f3 f4 f5 f6:Addr):EK->Addr
 | .fe=>f1
 | .pair=>f2
 | .mark=>f3
 | .eA=>f4
 | .dC=>f5
 | .gP=>f6
def hV(H0 H:Hp)(v:V):Itm->Prop
 | .fl i=>v=.int i
 | .wr b=>∃a q,v=.ref a/\H0 a=none/\H0 q=none/\H a=some (.tup [.int b.1,.ref q])/\H q=some (.lst (aQ b.2))
 | .mk m=>∃a,v=.ref a/\H0 a=none/\H a=some (.lst (cX m))
 | .rs .no=>v=.aR
 | .rs (.yes t ws)=>∃a l,v=.ref a/\H0 a=none/\H0 l=none/\H a=some (.tup [.str (kindS t),.ref l])/\H l=some (.lst (aQ ws))
def jB(c r:Addr)(H:Hp)(v:V):Itm->Prop
 | .fl i=>v=.int i
 | .wr b=>∃a q,v=.ref a/\(a≠c/\a≠r)/\(q≠c/\q≠r)/\H a=some (.tup [.int b.1,.ref q])/\H q=some (.lst (aQ b.2))
 | .mk m=>∃a,v=.ref a/\(a≠c/\a≠r)/\H a=some (.lst (cX m))
 | .rs .no=>v=.aR
 | .rs (.yes t ws)=>∃a l,v=.ref a/\(a≠c/\a≠r)/\(l≠c/\l≠r)/\H a=some (.tup [.str (kindS t),.ref l])/\H l=some (.lst (aQ ws))
theorem hV.off{c r:Addr}{H0 H:Hp}{v:V}(hc:∃o,H0 c=some o)(hr:∃o,H0 r=some o):∀{i:Itm},hV H0 H v i->jB c r H v i:=by
 obtain⟨oc,hc⟩:=hc;obtain⟨or,hr⟩:=hr;have k:∀{a:Addr},H0 a=none->a≠c/\a≠r:=λn=>⟨(e6 hc n).symm,(e6 hr n).symm⟩
 intro i h
 match i,h with
 | .fl _,h=>exact h
 | .wr _,⟨a,q,e,n1,n2,h1,h2⟩=>exact⟨a,q,e,k n1,k n2,h1,h2⟩
 | .mk _,⟨a,e,n,h⟩=>exact⟨a,e,k n,h⟩
 | .rs .no,h=>exact h
 | .rs (.yes _ _),⟨a,l,e,n1,n2,h1,h2⟩=>exact⟨a,l,e,k n1,k n2,h1,h2⟩
theorem jB.cz{c r:Addr}{H H':Hp}{v:V}(S:dg c H H'):∀{i:Itm},jB c r H v i->jB c r H' v i
 | .fl _,h=>h
 | .wr _,⟨a,q,e,n1,n2,h1,h2⟩=>⟨a,q,e,n1,n2,S _ _ n1.1 h1,S _ _ n2.1 h2⟩
 | .mk _,⟨a,e,n,h⟩=>⟨a,e,n,S _ _ n.1 h⟩
 | .rs .no,h=>h
 | .rs (.yes _ _),⟨a,l,e,n1,n2,h1,h2⟩=>⟨a,l,e,n1,n2,S _ _ n1.1 h1,S _ _ n2.1 h2⟩
theorem jB.upd{c r:Addr}{H:Hp}{v:V}{o:HO}:∀{i:Itm},jB c r H v i->jB c r (L2.upd H r o) v i
 | .fl _,h=>h
 | .wr _,⟨a,q,e,n1,n2,h1,h2⟩=>⟨a,q,e,n1,n2,by rw[bg n1.2];exact h1,by rw[bg n2.2];exact h2⟩
 | .mk _,⟨a,e,n,h⟩=>⟨a,e,n,by rw[bg n.2];exact h⟩
 | .rs .no,h=>h
 | .rs (.yes _ _),⟨a,l,e,n1,n2,h1,h2⟩=>⟨a,l,e,n1,n2,by rw[bg n1.2];exact h1,by rw[bg n2.2];exact h2⟩
abbrev rB(H:Hp)(v:V)(i:Itm):Prop:=hV (λ_=>none) H v i
theorem jB.is{c r:Addr}{H:Hp}{v:V}:∀{i:Itm},jB c r H v i->rB H v i
 | .fl _,h=>h
 | .wr _,⟨a,q,e,_,_,h1,h2⟩=>⟨a,q,e,rfl,rfl,h1,h2⟩
 | .mk _,⟨a,e,_,h⟩=>⟨a,e,rfl,h⟩
 | .rs .no,h=>h
 | .rs (.yes _ _),⟨a,l,e,_,_,h1,h2⟩=>⟨a,l,e,rfl,rfl,h1,h2⟩
def Zq(_ H:Hp)(v:V)(is:List Itm):Prop:=∃r vs,v=.ref r/\H r=some (.lst vs)/\Paired (rB H) vs is
theorem aey{N:aq}{b e:Str}{k:TK}{R:List Str}(h:kO b R=none):aU N b e k R=none:=by
 cases R with
 | nil=>rfl
 | cons w r =>
  unfold kO at h;unfold aU
  try dsimp only at h ⊢
  by_cases z:w=b
  ·rw[if_pos z] at h;cases h
  ·rw[if_neg z]
theorem aez{N:aq}{b e:Str}{k:TK}{R R':List Str}{u:Unit}(h:kO b R=some (u,R')):aU N b e k R=cR N e k R':=by
 cases R with
 | nil=>cases h
 | cons w r =>
  unfold kO at h;unfold aU
  try dsimp only at h ⊢
  by_cases z:w=b
  ·rw[if_pos z] at h ⊢
   have h:=a6 h;injection h with _ h
   rw[h]
  ·rw[if_neg z] at h;cases h
theorem UA{N:aq}{e:Str}{k:TK}{R:List Str}(hh:¬ R.head?=some e)(h:gf N k R=none):cR N e k R=none:=by
 cases R with
 | nil=>rfl
 | cons w r =>
  unfold cR;rw[if_neg (λz=>hh (by rw[z];rfl))]
  unfold gf at h
  try dsimp only at h
  cases q:tW N k w with
  | none=>rfl
  | some v=>rw[q] at h;cases h
theorem UB{N:aq}{e:Str}{k:TK}{R R':List Str}{v:Option Int}(hh:¬ R.head?=some e)(h:gf N k R=some (v,R')):cR N e k R=(cR N e k R').map λx=>(v::x.1,x.2):=by
 cases R with
 | nil=>cases h
 | cons w r =>
  rw[show cR N e k (w::r)=(if w=e then some ([],r) else match tW N k w with|none=>none|some v=>(cR N e k r).map λx=>(v::x.1,x.2)) from rfl]
  rw[if_neg (λz=>hh (by rw[z];rfl))]
  unfold gf at h
  try dsimp only at h
  cases q:tW N k w with
  | none=>rw[q] at h;cases h
  | some v' =>
   rw[q] at h;have h:=a6 h;injection h with h1 h2
   rw[h1,h2]
theorem Uz{N:aq}{e:Str}{k:TK}{R:List Str}(hh:R.head?=some e):cR N e k R=some ([],R.tail):=by
 cases R with
 | nil=>cases hh
 | cons w r =>
  unfold cR;rw[if_pos (a6 hh)];rfl
theorem afw{N:aq}{k:TK}{W:List Str}{p p':Nat}{v:Option Int}(h:gf N k (W.drop p)=some (v,W.drop p'))(hp:p'<=W.length):p'=p+1/\p<W.length:=by
 cases q:W.drop p with
 | nil=>rw[q] at h;cases h
 | cons w r =>
  rw[q] at h;unfold gf at h
  try dsimp only at h
  cases q2:tW N k w with
  | none=>rw[q2] at h;cases h
  | some v' =>
   rw[q2] at h;have h:=a6 h;injection h with h1 h2
   have l:=congrArg ri q;have l2:=congrArg ri h2;rw[bF,lY] at l;rw[lY] at l2;omega
theorem dg.BP{c r:Addr}{H H1:Hp}{o:HO}(S:dg c H H1)(hr:H r=none):dg c H (L2.upd H1 r o):=λb u n e=>by
 rw[bg (e6 e hr)];exact S b u n e
theorem Hs{N:aq}{e:Str}{k:TK}(hk:k≠.eW):∀{R R':List Str} {m:Mark},cR N e k R=some (m,R')->cX m=aQ (bU m)
 | [],_,_,h=>by cases h
 | w::r,R',m,h=>by
  rw[show cR N e k (w::r)=(if w=e then some ([],r) else match tW N k w with|none=>none|some v=>(cR N e k r).map λx=>(v::x.1,x.2)) from rfl] at h
  by_cases z:w=e
  ·rw[if_pos z] at h
   have h:=a6 h;injection h with h1 _
   rw[<-h1];rfl
  ·rw[if_neg z] at h
   cases q:tW N k w with
   | none=>rw[q] at h;cases h
   | some v =>
    rw[q] at h
    try dsimp only at h
    cases q2:cR N e k r with
    | none=>rw[q2] at h;cases h
    | some x =>
     rw[q2] at h;have h:=a6 h;injection h with h1 _
     obtain⟨i,rfl⟩:∃i,v=some i:=by
      cases k with
      | door=>exact⟨_,(a6 q).symm⟩
      | dC=>exact⟨_,(a6 q).symm⟩
      | cnt =>
       have q:(bZ w).map (λ(n:Nat)=>some (n:Int))=some v:=q
       cases q3:bZ w with
       | none=>rw[q3] at q;cases q
       | some n=>rw[q3] at q;exact⟨_,(a6 q).symm⟩
      | num =>
       have q:(gz w).map some=some v:=q
       cases q3:gz w with
       | none=>rw[q3] at q;cases q
       | some n=>rw[q3] at q;exact⟨_,(a6 q).symm⟩
      | eW=>exact absurd rfl hk
     have ih:=Hs hk (R':=x.2) (m:=x.1) (by rw[q2])
     rw[<-h1];show V.int i::cX x.1=V.int i::aQ (bU x.1);rw[ih]
theorem rP{N:aq}{b e:Str}{k:TK}(hk:k≠.eW){R R':List Str}{m:Mark}(h:aU N b e k R=some (m,R')):cX m=aQ (bU m):=by
 cases R with
 | nil=>cases h
 | cons w r =>
  unfold aU at h
  try dsimp only at h
  by_cases z:w=b
  ·rw[if_pos z] at h;exact Hs hk h
  ·rw[if_neg z] at h;cases h
theorem Um{N:aq}{R:List Str}(h:gf N .cnt R=none):dw N R=none:=by
 cases R with
 | nil=>rfl
 | cons w r =>
  unfold dw;have h:((bZ w).map λ(n:Nat)=>some (n:Int)).map (λv=>(v,r))=none:=h
  try dsimp only
  cases q:bZ w with
  | none=>rfl
  | some n=>rw[q] at h;cases h
theorem Uo{N:aq}{R R1:List Str}{v:Option Int}(h:gf N .cnt R=some (v,R1)):∃n:Nat,v=some (n:Int)/\dw N R=(aU N c_ dm .door R1).map λx=>(((n:Int),bU x.1),x.2):=by
 cases R with
 | nil=>cases h
 | cons w r =>
  unfold dw;have h:((bZ w).map λ(n:Nat)=>some (n:Int)).map (λv=>(v,r))=some (v,R1):=h
  try dsimp only
  cases q:bZ w with
  | none=>rw[q] at h;cases h
  | some n =>
   rw[q] at h;have h:=a6 h;injection h with h1 h2
   exact⟨n,h1.symm,by rw[h2]⟩
theorem acY{N:aq}{R:List Str}(h:gf N .door R=none):fz N R=none:=by
 cases R with
 | nil=>rfl
 | cons w r=>cases h
theorem ac0{N:aq}{R R1:List Str}{v:Option Int}(h:gf N .door R=some (v,R1)):∃n:Int,v=some n/\fz N R=(if R1.head?=some cp then (match aU N cp e8 .cnt R1 with
   | none=>none
   | some x=>if x.1=[] then none else some ((n,bU x.1),x.2))
  else some ((n,[]),R1)):=by
 cases R with
 | nil=>cases h
 | cons w r =>
  have h:some (some (bL N.az w),r)=some (v,R1):=h;have h:=a6 h;injection h with h1 h2
  exact⟨_,h1.symm,by rw[<-h2];rfl⟩
theorem Kf{m:Mark}:bU m=[]↔m=[]:=by
 unfold bU;exact uu
theorem Ht{N:aq}{e:Str}{k:TK}:∀{R R':List Str} {m:Mark},cR N e k R=some (m,R')->R'.length<R.length
 | [],_,_,h=>by cases h
 | w::r,R',m,h=>by
  rw[show cR N e k (w::r)=(if w=e then some ([],r) else match tW N k w with|none=>none|some v=>(cR N e k r).map λx=>(v::x.1,x.2)) from rfl] at h
  by_cases z:w=e
  ·rw[if_pos z] at h
   have h:=a6 h;injection h with _ h2
   rw[<-h2,bF];exact oZ _
  ·rw[if_neg z] at h
   cases q:tW N k w with
   | none=>rw[q] at h;cases h
   | some v =>
    rw[q] at h
    try dsimp only at h
    cases q2:cR N e k r with
    | none=>rw[q2] at h;cases h
    | some x =>
     rw[q2] at h;have h:=a6 h;injection h with _ h2
     have ih:=Ht (R':=x.2) (m:=x.1) (by rw[q2])
     rw[<-h2,bF];omega
theorem rQ{N:aq}{b e:Str}{k:TK}{R R':List Str}{m:Mark}(h:aU N b e k R=some (m,R')):R'.length<R.length:=by
 cases R with
 | nil=>cases h
 | cons w r =>
  unfold aU at h
  try dsimp only at h
  by_cases z:w=b
  ·rw[if_pos z] at h
   have:=Ht h;rw[bF];omega
  ·rw[if_neg z] at h;cases h
theorem map_len{α β:Type}{o:Option (α×List Str)}{f:α×List Str->β×List Str}{b:β}{R':List Str}{n:Nat}(h:o.map f=some (b,R'))(hf:∀x,(f x).2=x.2)(ho:∀a R,o=some (a,R)->R.length<n):R'.length<n:=by
 cases o with
 | none=>cases h
 | some x =>
  have h:=a6 h;have h2:=congrArg Prod.snd h;rw[hf] at h2;rw[<-show x.2=R' from h2]
  exact ho x.1 x.2 rfl
theorem Br{N:aq}{R R':List Str}{b:Int×List Int}(h:dw N R=some (b,R')):R'.length<R.length:=by
 cases R with
 | nil=>cases h
 | cons w r =>
  unfold dw at h
  try dsimp only at h
  cases q:bZ w with
  | none=>rw[q] at h;cases h
  | some n =>
   rw[q] at h
   try dsimp only at h
   have:=map_len h (λ_=>rfl) (n:=r.length) λa R e=>rQ e
   rw[bF];omega
theorem afn{N:aq}{R R':List Str}{b:Int×List Int}(h:fz N R=some (b,R')):R'.length<R.length:=by
 cases R with
 | nil=>cases h
 | cons w r =>
  unfold fz at h
  try dsimp only at h
  rw[bF];by_cases z:r.head?=some cp
  ·rw[if_pos z] at h
   cases q:aU N cp e8 .cnt r with
   | none=>rw[q] at h;cases h
   | some x =>
    rw[q] at h
    try dsimp only at h
    by_cases z2:x.1=[]
    ·rw[if_pos z2] at h;cases h
    ·rw[if_neg z2] at h
     have h:=a6 h;injection h with _ h2
     have:=rQ (m:=x.1) (R':=x.2) (by rw[q])
     rw[<-h2];omega
  ·rw[if_neg z] at h
   have h:=a6 h;injection h with _ h2
   rw[<-h2];omega
theorem afr{N:aq}{R R':List Str}{b:dA}(h:fM N R=some (b,R')):R'.length<R.length:=by
 cases R with
 | nil=>cases h
 | cons w r =>
  unfold fM at h
  try dsimp only at h
  rw[bF]
  split at h
  ·have:=map_len h (λ_=>rfl) (n:=r.length) λa R e=>rQ e
   omega
  ·split at h
   ·have:=map_len h (λ_=>rfl) (n:=r.length) λa R e=>rQ e
    omega
   ·split at h
    ·have h:=a6 h
     injection h with _ h2
     rw[<-h2];omega
    ·cases h
theorem wo{N:aq}{k:EK}{R R':List Str}{i:Itm}(h:tI N k R=some (i,R')):R'.length<R.length:=by
 cases k with
 | fe=>exact map_len (o:=dw N R) h (λ_=>rfl) λa R e=>Br e
 | pair=>exact map_len (o:=fz N R) h (λ_=>rfl) λa R e=>afn e
 | mark=>exact map_len (o:=aU N ba aX .eW R) h (λ_=>rfl) λa R e=>rQ e
 | eA=>exact map_len (o:=aU N ba aX .cnt R) h (λ_=>rfl) λa R e=>rQ e
 | dC =>
  cases R with
  | nil=>cases h
  | cons w r =>
   have h:some (Itm.fl (bL N.aa w),r)=some (i,R'):=h;have h:=a6 h;injection h with _ h2
   rw[<-h2,bF];exact oZ _
 | gP=>exact map_len (o:=fM N R) h (λ_=>rfl) λa R e=>afr e
theorem H_{N:aq}{k:EK}:∀(n:Nat) (R:List Str) (n':Nat),R.length<=n->R.length<=n'->fW N k n R=fW N k n' R
 | n,[],n',_,_=>by cases n<;>cases n'<;>rfl
 | 0,w::r,n',h,_=>by rw[bF] at h;omega
 | n+1,w::r,0,_,h=>by rw[bF] at h;omega
 | n+1,w::r,n'+1,h,h'=>by
  unfold fW
  cases q:tI N k (w::r) with
  | none=>rfl
  | some x =>
   try dsimp only
   have l:=wo (i:=x.1) (R':=x.2) (by rw[q])
   rw[bF] at h h' l;rw[H_ n x.2 n' (by omega) (by omega)]
theorem VV{N:aq}{k:EK}{W:List Str}{p:Nat}(hp:p<W.length)(h:tI N k (W.drop p)=none):bC N k (W.drop p)=none:=by
 rw[drop_cons hp] at h ⊢;unfold bC;rw[bF];unfold fW;rw[h]
theorem VW{N:aq}{k:EK}{W:List Str}{p p':Nat}{i:Itm}(hp:p<W.length)(h:tI N k (W.drop p)=some (i,W.drop p')):bC N k (W.drop p)=(bC N k (W.drop p')).map (i::·):=by
 have l:=wo h;have e:W.drop p=W[p]::W.drop (p+1):=drop_cons hp;rw[e] at h l;rw[e];unfold bC;rw[bF] at l ⊢;rw[show fW N k ((W.drop (p+1)).length+1) (W[p]::W.drop (p+1))=(match tI N k (W[p]::W.drop (p+1)) with|none=>none|some x=>(fW N k (W.drop (p+1)).length x.2).map (x.1::·)) from rfl,h]
 try dsimp only
 rw[H_ (W.drop (p+1)).length (W.drop p') (W.drop p').length (by omega) (bH _)]
theorem Uu{Cn C G:Addr}{H:Hp}{c:Addr}{ca:CA}{N:aq}{m:Int}{W:List Str}{p:Nat}{Q:VK}{E:XK}(h:Tk Cn C G (tI N .dC) hV H c ca N m W p Q E):Tk Cn C G (gf N .dC) qq H c ca N m W p Q E:=by
 obtain⟨hQ,hE⟩:=h;refine⟨λv p' e hp fF u H' S cu hu=>?_,λe ee H' S ne he=>hE ?_ ee H' S ne he⟩
 ·cases q:W.drop p with
  | nil=>rw[q] at e;cases e
  | cons w r =>
   rw[q] at e hQ;have e:some (some (bL N.aa w),r)=some (v,W.drop p'):=e;have e:=a6 e;injection e with e1 e2
   rw[<-e1] at hu;exact hQ (.fl (bL N.aa w)) p' (by rw[<-e2];rfl) hp fF u H' S cu hu
 ·cases q:W.drop p with
  | nil=>rfl
  | cons w r=>rw[q] at e;cases e
theorem DE{w:Str}{l:List Str}:iI (.str w) (bq l)=decide (w∈l):=by
 unfold iI;rw[j2,B5,decide_eq_true_eq];constructor
 ·rintro⟨v,hv,h⟩
  obtain⟨n,hn,rfl⟩:=bR.mp hv;have h:(n==w)=true:=h;rw[<-beq_iff_eq.mp h];exact hn
 ·intro h
  exact⟨.str w,bR.mpr ⟨w,h,rfl⟩,beq_self_eq_true w⟩
theorem FQ{W:List Str}{p:Nat}(e:E9 (W.drop p)=none):W.drop p=[]:=by
 cases q:W.drop p with
 | nil=>rfl
 | cons a r=>rw[q] at e;cases e
theorem Bj{o:Option (Mark×List Str)}{f:Mark->dA}:(o.map λx=>(f x.1,x.2)).map (λ(x:dA×List Str)=>(Itm.rs x.1,x.2))=o.map λx=>(Itm.rs (f x.1),x.2):=by cases o<;>rfl
theorem hV.old{c:Addr}{H0 H1 H:Hp}{v:V}(S:dg c H0 H1)(hc:∃o,H1 c=some o):∀{i:Itm},hV H1 H v i->hV H0 H v i
 | .fl _,h=>h
 | .wr _,⟨a,q,e,n1,n2,h1,h2⟩=>⟨a,q,e,S.free n1 hc,S.free n2 hc,h1,h2⟩
 | .mk _,⟨a,e,n,h⟩=>⟨a,e,S.free n hc,h⟩
 | .rs .no,h=>h
 | .rs (.yes _ _),⟨a,l,e,n1,n2,h1,h2⟩=>⟨a,l,e,S.free n1 hc,S.free n2 hc,h1,h2⟩
def jN:Hp->Hp->V->aY->Prop:=λ_ H v P=>cD H v P
theorem end_none{N:aq}{k:EK}{R:List Str}{α:Type}{f:List Itm->α}(h:((bC N k R).map λx=>(x,([]:List Str)))=none):((bC N k R).map λx=>(f x,([]:List Str)))=none:=by
 cases q:bC N k R with
 | none=>rfl
 | some x=>rw[q] at h;cases h
theorem nE{N:aq}{k:EK}{R R':List Str}{is:List Itm}(h:((bC N k R).map λx=>(x,([]:List Str)))=some (is,R')):bC N k R=some is/\R'=[]:=by
 cases q:bC N k R with
 | none=>rw[q] at h;cases h
 | some x =>
  rw[q] at h;have h:=a6 h;injection h with h1 h2
  exact⟨by rw[h1],h2.symm⟩
def ou:EK->Itm->Prop
 | .fe,.wr _=>True
 | .pair,.wr _=>True
 | .mark,.mk _=>True
 | .eA,.mk _=>True
 | .dC,.fl _=>True
 | .gP,.rs _=>True
 | _,_=>False
theorem QE{N:aq}{k:EK}{R R':List Str}{i:Itm}(h:tI N k R=some (i,R')):ou k i:=by
 have mp:∀{α:Type} {o:Option (α×List Str)} {f:α->Itm},(o.map λx=>(f x.1,x.2))=some (i,R')->∃a,i=f a:=λ{α o f} h=>by
  cases o with
  | none=>cases h
  | some x =>
   have h:=a6 h;injection h with h1 _
   exact⟨x.1,h1.symm⟩
 cases k with
 | fe=>obtain⟨a,rfl⟩:=mp (o:=dw N R) (f:=Itm.wr) h;exact trivial
 | pair=>obtain⟨a,rfl⟩:=mp (o:=fz N R) (f:=Itm.wr) h;exact trivial
 | mark=>obtain⟨a,rfl⟩:=mp (o:=aU N ba aX .eW R) (f:=Itm.mk) h;exact trivial
 | eA=>obtain⟨a,rfl⟩:=mp (o:=aU N ba aX .cnt R) (f:=Itm.mk) h;exact trivial
 | dC =>
  cases R with
  | nil=>cases h
  | cons w r =>
   have h:some (Itm.fl (bL N.aa w),r)=some (i,R'):=h;have h:=a6 h;injection h with h1 _
   rw[<-h1];exact trivial
 | gP=>obtain⟨a,rfl⟩:=mp (o:=fM N R) (f:=Itm.rs) h;exact trivial
theorem HZ{N:aq}{k:EK}:∀(n:Nat) {R:List Str} {is:List Itm},fW N k n R=some is->∀i∈is,ou k i
 | n,[],is,h=>by
  have h:some []=some is:=by cases n<;>exact h
  rw[<-a6 h];exact λi hi=>nomatch hi
 | 0,w::r,is,h=>by cases h
 | n+1,w::r,is,h=>by
  unfold fW at h
  cases q:tI N k (w::r) with
  | none=>rw[q] at h;cases h
  | some x =>
   rw[q] at h
   try dsimp only at h
   cases q2:fW N k n x.2 with
   | none=>rw[q2] at h;cases h
   | some js =>
    rw[q2] at h;rw[<-a6 h];intro i hi;rcases bE.mp hi with e|e
    ·rw[e];exact QE (R':=x.2) (by rw[q])
    ·exact HZ n q2 i e
theorem nD{N:aq}{k:EK}{R:List Str}{is:List Itm}(h:bC N k R=some is):∀i∈is,ou k i:=HZ _ h
def ZF:EK->Bool
 | .fe=>true
 | .pair=>true
 | _=>false
def ZE:EK->Bool
 | .mark=>true
 | .eA=>true
 | _=>false
theorem AD{H:Hp}{k:EK}(hk:ZF k=true):∀{vs:List V} {is:List Itm},Paired (rB H) vs is->(∀i∈is,ou k i)->∃as,vs=as.map V.ref/\hJ H as (is.map gW)
 | _,_,.nil,_=>⟨[],rfl,.nil⟩
 | _,_,.cons (b:=i) h t,hi=>by
  obtain⟨as,e,R⟩:=AD hk t λj hj=>hi j (cP _ hj)
  have ki:=hi i cB
  cases i with
  | wr b=>obtain⟨a,q,e1,_,_,h1,h2⟩:=h;exact⟨a::as,by rw[e,e1];rfl,.cons ⟨q,h1,h2⟩ R⟩
  | fl _=>cases k<;>first|exact ki.elim|cases hk
  | mk _=>cases k<;>first|exact ki.elim|cases hk
  | rs _=>cases k<;>first|exact ki.elim|cases hk
theorem AB{H:Hp}{k:EK}(hk:ZE k=true):∀{vs:List V} {is:List Itm},Paired (rB H) vs is->(∀i∈is,ou k i)->∃as,vs=as.map V.ref/\fQ H as (is.map gM)
 | _,_,.nil,_=>⟨[],rfl,.nil⟩
 | _,_,.cons (b:=i) h t,hi=>by
  obtain⟨as,e,R⟩:=AB hk t λj hj=>hi j (cP _ hj)
  have ki:=hi i cB
  cases i with
  | mk b=>obtain⟨a,e1,_,h1⟩:=h;exact⟨a::as,by rw[e,e1];rfl,.cons h1 R⟩
  | fl _=>cases k<;>first|exact ki.elim|cases hk
  | wr _=>cases k<;>first|exact ki.elim|cases hk
  | rs _=>cases k<;>first|exact ki.elim|cases hk
theorem DG{H:Hp}:∀{vs:List V} {is:List Itm},Paired (rB H) vs is->(∀i∈is,ou .dC i)->vs=aQ (is.map gI)
 | _,_,.nil,_=>rfl
 | _,_,.cons (b:=i) h t,hi=>by
  have e:=DG t λj hj=>hi j (cP _ hj)
  have ki:=hi i cB
  cases i with
  | fl n =>
   rw[e];have h:_=V.int n:=h;rw[h];rfl
  | mk _=>exact ki.elim
  | wr _=>exact ki.elim
  | rs _=>exact ki.elim
theorem Kh{H:Hp}:∀{vs:List V} {is:List Itm},Paired (rB H) vs is->(∀i∈is,ou .gP i)->Paired (hX H) vs (is.map gR)
 | _,_,.nil,_=>.nil
 | _,_,.cons (b:=i) h t,hi=>by
  have e:=Kh t λj hj=>hi j (cP _ hj)
  have ki:=hi i cB;refine .cons ?_ e
  cases i with
  | rs r=>cases r with
   | no=>exact h
   | yes k bs=>obtain⟨a,l,e1,_,_,h1,h2⟩:=h;exact⟨a,l,e1,h1,h2⟩
  | mk _=>exact ki.elim
  | wr _=>exact ki.elim
  | fl _=>exact ki.elim
def mY(N:aq):List Str->Option (aY×List Str)
 | []=>none
 | c::r'=>match bZ c with
  | none=>none
  | some n=>(aU N ba aX .num r').map λx=>(.sum (bU x.1) (n:Int),x.2)
theorem ae3{N:aq}{R:List Str}(h:gf N .cnt R=none):mY N R=none:=by
 cases R with
 | nil=>rfl
 | cons w r =>
  unfold mY;have h:((bZ w).map λ(n:Nat)=>some (n:Int)).map (λv=>(v,r))=none:=h
  try dsimp only
  cases q:bZ w with
  | none=>rfl
  | some n=>rw[q] at h;cases h
theorem ae4{N:aq}{R R1:List Str}{v:Option Int}(h:gf N .cnt R=some (v,R1)):∃n:Nat,v=some (n:Int)/\mY N R=(aU N ba aX .num R1).map λx=>(.sum (bU x.1) (n:Int),x.2):=by
 cases R with
 | nil=>cases h
 | cons w r =>
  unfold mY;have h:((bZ w).map λ(n:Nat)=>some (n:Int)).map (λv=>(v,r))=some (v,R1):=h
  try dsimp only
  cases q:bZ w with
  | none=>rw[q] at h;cases h
  | some n =>
   rw[q] at h;have h:=a6 h;injection h with h1 h2
   exact⟨n,h1.symm,by rw[h2]⟩
def tV(N:aq)(R:List Str):Option (aY×List Str):=match cS N R.length R with
 | none=>none
 | some x=>(ie N x.2).map λy=>(.most x.1 y.1,y.2)
theorem AN{N:aq}{n:Nat}{R:List Str}(h:R.head?=some cW):cS N n R=some ([],R.tail):=by
 unfold cS;rw[if_pos h]
theorem AO{N:aq}{n:Nat}{R:List Str}(h:¬ R.head?=some cW)(e:tI N .fe R=none):cS N n R=none:=by
 unfold cS;rw[if_neg h];have e:(dw N R).map (λx=>(Itm.wr x.1,x.2))=none:=e
 cases q:dw N R with
 | none=>rfl
 | some x=>rw[q] at e;cases e
theorem aa0{N:aq}:∀(n:Nat) (R:List Str) (n':Nat),R.length<=n->R.length<=n'->cS N n R=cS N n' R:=by
 intro n
 induction n with
 | zero =>
  intro R n' h h';have e:R=[]:=GA.mp (Nat.le_zero.mp h);subst e;unfold cS;rfl
 | succ n ih =>
  intro R n' h h';by_cases hh:R.head?=some cW
  ·rw[AN hh,AN hh]
  ·cases q:dw N R with
   | none =>
    have e:tI N .fe R=none:=by show (dw N R).map _=none;rw[q];rfl
    rw[AO hh e,AO hh e]
   | some x =>
    have l:=Br (b:=x.1) (R':=x.2) (by rw[q])
    cases n' with
    | zero=>omega
    | succ n' =>
     unfold cS;rw[if_neg hh,q,if_neg hh]
     try dsimp only
     rw[ih x.2 n' (by omega) (by omega)]
theorem aa1{N:aq}{R R':List Str}{i:Itm}(h:¬ R.head?=some cW)(e:tI N .fe R=some (i,R')):cS N R.length R=(cS N R'.length R').map λx=>(gW i::x.1,x.2):=by
 have e:(dw N R).map (λx=>(Itm.wr x.1,x.2))=some (i,R'):=e
 cases q:dw N R with
 | none=>rw[q] at e;cases e
 | some x =>
  rw[q] at e;have e:=a6 e;injection e with e1 e2
  have l:=Br (b:=x.1) (R':=x.2) (by rw[q])
  rw[e2] at l;obtain⟨k,hk⟩:∃k,R.length=k+1:=⟨R.length-1,by omega⟩
  rw[hk];have em:cS N (k+1) R=(cS N k x.2).map λy=>(x.1::y.1,y.2):=by
   conv=>lhs;unfold cS
   rw[if_neg h,q]
  rw[em,e2,aa0 k R' R'.length (by omega) (bH _),<-e1]
  rfl
def vz:Hp->Hp->V->Option aY->Prop:=λ_ H v P=>match P with
 | none=>v=.aR
 | some P=>cD H v P
abbrev tJ:List Str:=[zalias233z "run",zalias233z "branch",zalias233z "fence",zalias233z "room",zalias233z "wants",zalias233z "fall",zalias233z "sum",zalias233z "dry",zalias233z "wet",zalias233z "kept",zalias233z "most",zalias233z "none"]
abbrev sm(o:Option (aY×List Str)):Option (Option aY×List Str):=o.map λx=>(some x.1,x.2)
theorem kE{o:Option (aY×List Str)}{P:aY}{R:List Str}(h:o=some (P,R)):sm o=some (some P,R):=by rw[h];rfl
theorem kF{o:Option (aY×List Str)}(h:o=none):sm o=none:=by rw[h];rfl
theorem EX{α:Type}{o:Option α}{f:α->aY×List Str}:sm (o.map f)=o.map λx=>(some (f x).1,(f x).2):=by cases o<;>rfl
theorem LQ{N:aq}{w:Str}{r:List Str}:dE N (w::r) =
  if w="run" then sm ((bC N .fe r).map λx=>(.wr true (x.map gW),[]))
  else if w="branch" then sm ((bC N .pair r).map λx=>(.wr false (x.map gW),[]))
  else if w="fence" then sm ((bC N .mark r).map λx=>(.mk .fence (x.map gM),[]))
  else if w="room" then sm ((bC N .eA r).map λx=>(.mk .room (x.map gM),[]))
  else if w="wants" then sm ((bC N .eA r).map λx=>(.mk .wants (x.map gM),[]))
  else if w="fall" then sm ((aU N ba aX .num r).map λx=>(.b3 (bU x.1),x.2))
  else if w="sum" then sm (mY N r)
  else if w="dry" then sm ((bC N .dC r).map λx=>(.st true (x.map gI),[]))
  else if w="wet" then sm ((bC N .dC r).map λx=>(.st false (x.map gI),[]))
  else if w="kept" then sm ((bC N .gP r).map λx=>(.kept (x.map gR),[]))
  else if w="most" then sm (tV N r)
  else if w="none" then some (none,r) else none:=by
 have hs:sm (mY N r)=(match r with
   | []=>none
   | c::r'=>match bZ c with
    | none=>none
    | some n=>(aU N ba aX .num r').map λx=>(some (.sum (bU x.1) (n:Int)),x.2)):=by
  cases r with
  | nil=>rfl
  | cons c r' =>
   unfold mY
   try dsimp only
   cases bZ c with
   | none=>rfl
   | some n=>exact EX
 have hm:sm (tV N r)=(match cS N r.length r with
   | none=>none
   | some x=>(ie N x.2).map λy=>(some (.most x.1 y.1),y.2)):=by
  unfold tV
  cases cS N r.length r with
  | none=>rfl
  | some x=>exact EX
 rw[hs,hm];simp only[EX];rfl
def uw(N:aq)(ws:List Str):Prop:=∀P R,dE N ws=some (some P,R)->iz P
theorem Hv{N:aq}{e:Str}{k:TK}:∀{R R':List Str} {m:Mark},cR N e k R=some (m,R')->m.length<=R.length
 | [],_,_,h=>by cases h
 | w::r,R',m,h=>by
  rw[show cR N e k (w::r)=(if w=e then some ([],r) else match tW N k w with|none=>none|some v=>(cR N e k r).map λx=>(v::x.1,x.2)) from rfl] at h
  by_cases z:w=e
  ·rw[if_pos z] at h
   have h:=a6 h;injection h with h1 _
   rw[<-h1];exact dy _
  ·rw[if_neg z] at h
   cases q:tW N k w with
   | none=>rw[q] at h;cases h
   | some v =>
    rw[q] at h
    try dsimp only at h
    cases q2:cR N e k r with
    | none=>rw[q2] at h;cases h
    | some x =>
     rw[q2] at h;have h:=a6 h;injection h with h1 _
     have ih:=Hv (R':=x.2) (m:=x.1) (by rw[q2])
     rw[<-h1,bF,bF];omega
theorem pO{N:aq}{b e:Str}{k:TK}{R R':List Str}{m:Mark}(h:aU N b e k R=some (m,R')):m.length<=R.length:=by
 cases R with
 | nil=>cases h
 | cons w r =>
  unfold aU at h
  try dsimp only at h
  by_cases z:w=b
  ·rw[if_pos z] at h
   have:=Hv h;rw[bF];omega
  ·rw[if_neg z] at h;cases h
theorem ints_size(m:Mark):(bU m).length=m.length:=by unfold bU;rw[aH]
def lF(n:Nat):Itm->Prop
 | .fl _=>True
 | .wr b=>b.2.length<=n
 | .mk m=>m.length<=n
 | .rs .no=>True
 | .rs (.yes _ bs)=>bs.length<=n
theorem vH{α:Type}{o:Option (α×List Str)}{f:α->Itm}{i:Itm}{R':List Str}(h:(o.map λx=>(f x.1,x.2))=some (i,R')):∃a R,o=some (a,R)/\i=f a:=by
 cases o with
 | none=>cases h
 | some x =>
  have h:=a6 h;injection h with h1 _
  exact⟨x.1,x.2,rfl,h1.symm⟩
theorem Hf{N:aq}{R R':List Str}{b:Int×List Int}(h:dw N R=some (b,R')):b.2.length<=R.length:=by
 cases R with
 | nil=>cases h
 | cons w r =>
  unfold dw at h
  try dsimp only at h
  cases q:bZ w with
  | none=>rw[q] at h;cases h
  | some n =>
   rw[q] at h
   try dsimp only at h
   cases q2:aU N c_ dm .door r with
   | none=>rw[q2] at h;cases h
   | some x =>
    rw[q2] at h;have h:=a6 h;injection h with h1 _
    have:=pO (m:=x.1) (R':=x.2) (by rw[q2])
    rw[<-h1,ints_size,bF];omega
theorem acX{N:aq}{R R':List Str}{b:Int×List Int}(h:fz N R=some (b,R')):b.2.length<=R.length:=by
 cases R with
 | nil=>cases h
 | cons w r =>
  unfold fz at h
  try dsimp only at h
  by_cases z:r.head?=some cp
  ·rw[if_pos z] at h
   cases q:aU N cp e8 .cnt r with
   | none=>rw[q] at h;cases h
   | some x =>
    rw[q] at h
    try dsimp only at h
    by_cases z2:x.1=[]
    ·rw[if_pos z2] at h;cases h
    ·rw[if_neg z2] at h
     have h:=a6 h;injection h with h1 _
     have:=pO (m:=x.1) (R':=x.2) (by rw[q])
     rw[<-h1,ints_size,bF];omega
  ·rw[if_neg z] at h
   have h:=a6 h;injection h with h1 _
   rw[<-h1];exact dy _
theorem aed{N:aq}{R R':List Str}{b:dA}(h:fM N R=some (b,R')):lF R.length (.rs b):=by
 cases R with
 | nil=>cases h
 | cons w r =>
  unfold fM at h
  try dsimp only at h
  have go:∀{k:TK} {b1 e1:Str} {f:Bool},((aU N b1 e1 k r).map λx=>(dA.yes f (bU x.1),x.2))=some (b,R')->lF (w::r).length (.rs b):=λ{k b1 e1 f} h=>by
   cases q2:aU N b1 e1 k r with
   | none=>rw[q2] at h;cases h
   | some x =>
    rw[q2] at h;have h:=a6 h;injection h with h1 _
    have:=pO (m:=x.1) (R':=x.2) (by rw[q2])
    rw[<-h1];show (bU x.1).length<=_;rw[ints_size,bF];omega
  split at h
  ·exact go h
  ·split at h
   ·exact go h
   ·split at h
    ·have h:=a6 h
     injection h with h1 _
     rw[<-h1];exact trivial
    ·cases h
theorem afc{N:aq}{k:EK}{R R':List Str}{i:Itm}(h:tI N k R=some (i,R')):lF R.length i:=by
 cases k with
 | fe=>obtain⟨a,R2,e,rfl⟩:=vH (o:=dw N R) (f:=Itm.wr) h;exact Hf e
 | pair=>obtain⟨a,R2,e,rfl⟩:=vH (o:=fz N R) (f:=Itm.wr) h;exact acX e
 | mark=>obtain⟨a,R2,e,rfl⟩:=vH (o:=aU N ba aX .eW R) (f:=Itm.mk) h;exact pO e
 | eA=>obtain⟨a,R2,e,rfl⟩:=vH (o:=aU N ba aX .cnt R) (f:=Itm.mk) h;exact pO e
 | dC =>
  cases R with
  | nil=>cases h
  | cons w r =>
   have h:some (Itm.fl (bL N.aa w),r)=some (i,R'):=h;have h:=a6 h;injection h with h1 _
   rw[<-h1];exact trivial
 | gP=>obtain⟨a,R2,e,rfl⟩:=vH (o:=fM N R) (f:=Itm.rs) h;exact aed e
theorem lF.mono{n n':Nat}(h:n<=n'):∀{i:Itm},lF n i->lF n' i
 | .fl _,_=>trivial
 | .wr _,z=>b_ z h
 | .mk _,z=>b_ z h
 | .rs .no,_=>trivial
 | .rs (.yes _ _),z=>b_ z h
theorem HY{N:aq}{k:EK}:∀(n:Nat) {R:List Str} {is:List Itm},fW N k n R=some is->is.length<=R.length/\∀i∈is,lF R.length i
 | n,[],is,h=>by
  have h:some []=some is:=by cases n<;>exact h
  rw[<-a6 h];exact⟨bH _,λi hi=>nomatch hi⟩
 | 0,w::r,is,h=>by cases h
 | n+1,w::r,is,h=>by
  unfold fW at h
  cases q:tI N k (w::r) with
  | none=>rw[q] at h;cases h
  | some x =>
   rw[q] at h
   try dsimp only at h
   cases q2:fW N k n x.2 with
   | none=>rw[q2] at h;cases h
   | some js =>
    rw[q2] at h;have l:=wo (i:=x.1) (R':=x.2) (by rw[q])
    have f:=afc (i:=x.1) (R':=x.2) (by rw[q])
    obtain⟨a1,a2⟩:=HY n q2;rw[<-a6 h];refine⟨by rw[bF];omega,λi hi=>?_⟩
    rcases bE.mp hi with e|e
    ·rw[e];exact f
    ·exact(a2 i e).mono (by omega)
theorem aaZ{N:aq}:∀(n:Nat) {R R':List Str} {bs:List (Int×List Int)},cS N n R=some (bs,R')->bs.length<=R.length/\(∀b∈bs,b.2.length<=R.length)/\R'.length<=R.length:=by
 intro n
 induction n with
 | zero =>
  intro R R' bs h;unfold cS at h
  split at h
  ·have h:=a6 h
   injection h with h1 h2
   rw[<-h1,<-h2];exact⟨dy _,λb hb=>(nomatch hb),by rw[aiN];omega⟩
  ·split at h<;>cases h
 | succ n ih =>
  intro R R' bs h;by_cases hh:R.head?=some cW
  ·rw[AN hh] at h
   have h:=a6 h;injection h with h1 h2
   rw[<-h1,<-h2];exact⟨dy _,λb hb=>(nomatch hb),by rw[aiN];omega⟩
  ·cases q:dw N R with
   | none =>
    have e:tI N .fe R=none:=by show (dw N R).map _=none;rw[q];rfl
    rw[AO hh e] at h
    cases h
   | some x =>
    have l:=Br (b:=x.1) (R':=x.2) (by rw[q])
    have f:=Hf (b:=x.1) (R':=x.2) (by rw[q])
    have em:cS N (n+1) R=(cS N n x.2).map λy=>(x.1::y.1,y.2):=by
     conv=>lhs;unfold cS
     rw[if_neg hh,q]
    rw[em] at h
    cases q2:cS N n x.2 with
    | none=>rw[q2] at h;cases h
    | some y =>
     rw[q2] at h;have h:=a6 h;injection h with h1 h2
     obtain⟨a1,a2,a3⟩:=ih (R':=y.2) (bs:=y.1) (by rw[q2])
     rw[<-h1,<-h2];refine⟨by rw[bF];omega,λb hb=>?_,by omega⟩
     rcases bE.mp hb with e|e
     ·rw[e];exact f
     ·exact b_ (a2 b e) (by omega)
theorem Il{is:List Itm}{n:Nat}(hn:n<=1000)(h:is.length<=n/\∀i∈is,lF n i):(is.map gW).length<=1000/\∀c∈is.map gW,c.2.length<=1000:=by
 refine⟨by rw[aH];omega,λc hc=>?_⟩
 obtain⟨i,hi,rfl⟩:=bR.mp hc;have:=h.2 i hi
 cases i with
 | wr b=>exact b_ this hn
 | fl _=>exact dy _
 | mk _=>exact dy _
 | rs _=>exact dy _
theorem uX{is:List Itm}{n:Nat}(hn:n<=1000)(h:is.length<=n/\∀i∈is,lF n i):(is.map gM).length<=1000/\∀c∈is.map gM,c.length<=1000:=by
 refine⟨by rw[aH];omega,λc hc=>?_⟩
 obtain⟨i,hi,rfl⟩:=bR.mp hc;have:=h.2 i hi
 cases i with
 | mk b=>exact b_ this hn
 | fl _=>exact dy _
 | wr _=>exact dy _
 | rs _=>exact dy _
theorem lr{N:aq}{k:EK}{R:List Str}{α:Type}{f:List Itm->α}{P:α}{R':List Str}(h:((bC N k R).map λx=>(f x,([]:List Str)))=some (P,R')):∃is,P=f is/\is.length<=R.length/\∀i∈is,lF R.length i:=by
 cases q:bC N k R with
 | none=>rw[q] at h;cases h
 | some is =>
  rw[q] at h;have h:=a6 h;injection h with h1 _
  exact⟨is,h1.symm,HY _ q⟩
theorem Zt{N:aq}{R R':List Str}{P:aY}(hR:R.length<=1000)(h:ie N R=some (P,R')):iz P:=by
 cases R with
 | nil=>cases h
 | cons w r =>
  rw[bF] at hR;unfold ie at h
  try dsimp only at h
  split at h
  ·obtain⟨is,rfl,a⟩:=lr (f:=λx=>aY.mk .fence (x.map gM)) h;exact uX (by omega) a
  split at h
  ·obtain⟨is,rfl,a⟩:=lr (f:=λx=>aY.mk .room (x.map gM)) h;exact uX (by omega) a
  split at h
  ·cases q:aU N ba aX .num r with
   | none=>rw[q] at h;cases h
   | some x =>
    rw[q] at h;have h:=a6 h;injection h with h1 _
    have:=pO (m:=x.1) (R':=x.2) (by rw[q])
    rw[<-h1];show (bU x.1).length<=1000;rw[ints_size];omega
  ·cases h
theorem kK{o:Option (aY×List Str)}{P:aY}{R:List Str}(h:sm o=some (some P,R)):o=some (P,R):=by
 cases o with
 | none=>cases h
 | some x =>
  have h:=a6 h;injection h with h1 h2
  rw[<-a6 h1,<-h2]
theorem jO{α:Type}{c:Prop}[Decidable c]{a b x:α}(h:(if c then a else b)=x):(c/\a=x)\/(¬c/\b=x):=by
 by_cases q:c
 ·rw[if_pos q] at h;exact .inl ⟨q,h⟩
 ·rw[if_neg q] at h;exact .inr ⟨q,h⟩
theorem ac6{N:aq}{ws:List Str}(hw:ws.length<=1000):uw N ws:=by
 intro P R h
 cases ws with
 | nil=>cases h
 | cons w r =>
  rw[bF] at hw;rw[LQ] at h;have nums:∀{Z:List Str} {f:Mark->aY},Z.length<=1000->(∀m:Mark,m.length<=1000->iz (f m))->((aU N ba aX .num Z).map λx=>(f x.1,x.2))=some (P,R)->iz P:=λ{Z f} hZ hf h=>by
   cases q:aU N ba aX .num Z with
   | none=>rw[q] at h;cases h
   | some x =>
    rw[q] at h;have h:=a6 h;injection h with h1 _
    have:=pO (m:=x.1) (R':=x.2) (by rw[q])
    rw[<-h1];exact hf _ (by omega)
  rcases jO h with ⟨_,h⟩|⟨_,h⟩
  ·obtain⟨is,rfl,a⟩:=lr (f:=λx=>aY.wr true (x.map gW)) (kK h);exact Il (by omega) a
  rcases jO h with ⟨_,h⟩|⟨_,h⟩
  ·obtain⟨is,rfl,a⟩:=lr (f:=λx=>aY.wr false (x.map gW)) (kK h);exact Il (by omega) a
  rcases jO h with ⟨_,h⟩|⟨_,h⟩
  ·obtain⟨is,rfl,a⟩:=lr (f:=λx=>aY.mk .fence (x.map gM)) (kK h);exact uX (by omega) a
  rcases jO h with ⟨_,h⟩|⟨_,h⟩
  ·obtain⟨is,rfl,a⟩:=lr (f:=λx=>aY.mk .room (x.map gM)) (kK h);exact uX (by omega) a
  rcases jO h with ⟨_,h⟩|⟨_,h⟩
  ·obtain⟨is,rfl,a⟩:=lr (f:=λx=>aY.mk .wants (x.map gM)) (kK h);exact uX (by omega) a
  rcases jO h with ⟨_,h⟩|⟨_,h⟩
  ·exact nums (f:=λm=>.b3 (bU m)) (by omega) (λm hm=>by show (bU m).length<=1000;rw[ints_size];exact hm) (kK h)
  rcases jO h with ⟨_,h⟩|⟨_,h⟩
  ·have h:=kK h
   cases r with
   | nil=>cases h
   | cons c r' =>
    rw[bF] at hw;unfold mY at h
    try dsimp only at h
    cases q:bZ c with
    | none=>rw[q] at h;cases h
    | some n =>
     rw[q] at h;exact nums (f:=λm=>.sum (bU m) (n:Int)) (by omega) (λm hm=>by show (bU m).length<=1000;rw[ints_size];exact hm) h
  rcases jO h with ⟨_,h⟩|⟨_,h⟩
  ·obtain⟨is,rfl,a⟩:=lr (f:=λx=>aY.st true (x.map gI)) (kK h)
   show (is.map gI).length<=1000;rw[aH];omega
  rcases jO h with ⟨_,h⟩|⟨_,h⟩
  ·obtain⟨is,rfl,a⟩:=lr (f:=λx=>aY.st false (x.map gI)) (kK h)
   show (is.map gI).length<=1000;rw[aH];omega
  rcases jO h with ⟨_,h⟩|⟨_,h⟩
  ·obtain⟨is,rfl,a⟩:=lr (f:=λx=>aY.kept (x.map gR)) (kK h)
   refine⟨by rw[aH];omega,λk bs hb=>?_⟩
   obtain⟨i,hi,e⟩:=bR.mp hb;have:=a.2 i hi
   cases i with
   | rs r2 =>
    have e:r2=.yes k bs:=e;subst e;exact b_ this (by omega)
   | fl _=>cases e
   | mk _=>cases e
   | wr _=>cases e
  rcases jO h with ⟨_,h⟩|⟨_,h⟩
  ·have h:=kK h
   unfold tV at h
   cases q:cS N r.length r with
   | none=>rw[q] at h;cases h
   | some x =>
    rw[q] at h
    try dsimp only at h
    obtain⟨a1,a2,a3⟩:=aaZ _ (bs:=x.1) (R':=x.2) (by rw[q])
    cases q2:ie N x.2 with
    | none=>rw[q2] at h;cases h
    | some y =>
     rw[q2] at h;have h:=a6 h;injection h with h1 _
     rw[<-h1];exact⟨by omega,λc hc=>b_ (a2 c hc) (by omega),Zt (R:=x.2) (R':=y.2) (by omega) (by rw[q2])⟩
  rcases jO h with ⟨_,h⟩|⟨_,h⟩
  ·have h:=a6 h
   injection h with h1 _
   cases h1
  ·cases h
end L2
namespace L2
open PySem PySem.Spec PyProof.Rows SeqAt
theorem fV{α β:Type}{K:aj}{te:cK->TE}{H1:Hp}{Z:List V->Hp->Prop}{a:Addr}{xs:List V}{τ:St}{ps:List α}{F:V->α->Prop}(f:α->β)(G:Hp->V->β->Prop)(hG:∀{H H':Hp} {v:V} {b:β},ae H H'->G H v b->G H' v b)(ha:ai K H1 a xs)(R:Paired F xs ps)(hn:ps.length<=1000)
  (hs:∀B x c H,c∈ps->F x c->ae H1 H->∀Q':VK,(∀v H2,ae H H2->G H2 v (f c)->Q' v H2)->te B (some x::τ) H Q')
  (hd:∀ys H2,ae H1 H2->Paired (G H2) ys (ps.map f)->Z ys H2) :
  ∃W:Nat->Nat->List V->St->Hp->Prop,(∃m,W 0 m [] (none::τ) H1)/\∀B:cK,iS (j8 K a) (aG 0) dW (te B) W Z:=by
 have hl:=Paired.length R;refine uO (g:=λ_=>aG 0) (tt:=λ_=>dW) (K:=K) (a:=a) (xs:=xs) (λi ys σ H=>(∃v,σ=v::τ)/\ae H1 H/\Paired (G H) ys ((ps.take i).map f)) ⟨⟨none,rfl⟩,ae.refl _,.nil⟩ ?_ ?_ ?_
 ·rintro i ys σ H hi ⟨_,S,r⟩
  refine⟨S.seq ha,?_⟩;rw[Paired.length r,aH,lZ];exact lM (by omega)
 ·rintro B i x ys σ H hx ⟨⟨v,rfl⟩,S,r⟩
  obtain⟨c,hc,hF⟩:=Paired.getL R hx
  try dsimp only[aG,dW]
  rw[if_pos rfl];refine hs B x c H (kS hc) hF S _ λu H2 S2 g2=>⟨⟨_,rfl⟩,S.trans S2,?_⟩
  rw[oX,hc,uf,dX];exact Paired.snoc (Paired.eZ r λ_ _ h=>hG S2 h) g2
 ·rintro ys σ H ⟨_,S,r⟩
  rw[hl,oY] at r;exact hd ys H S r
theorem HJ{β:Type}{K K':aj}{te:cK->TE}{H1:Hp}{Z:List V->Hp->Prop}{a:Addr}{as:List Addr}{τ:St}{ps:List (Int×List Int)}(f:Int×List Int->β)(G:Hp->V->β->Prop)(hG:∀{H H':Hp} {v:V} {b:β},ae H H'->G H v b->G H' v b)(ha:ai K H1 a (as.map V.ref))(R:hJ H1 as ps)(hn:ps.length<=1000)
  (hs:∀B q c H,c∈ps->H1 q=some (.lst (aQ c.2))->ae H1 H->∀Q':VK,(∀v H2,ae H H2->G H2 v (f c)->Q' v H2)->te B (some (.int c.1)::some (.ref q)::τ) H Q')
  (hd:∀ys H2,ae H1 H2->Paired (G H2) ys (ps.map f)->Z ys H2) :
  ∃W:Nat->Nat->List V->St->Hp->Prop,(∃m,W 0 m [] (none::none::τ) H1)/\∀B:cK,iS (j8 K a) (sP K' 2 (lz (aG 0) (lz (aG 1) pW))) dW (te B) W Z:=by
 have hl:=Paired.length R;refine uO (g:=λ_=>sP K' 2 (lz (aG 0) (lz (aG 1) pW))) (tt:=λ_=>dW) (K:=K) (a:=a) (xs:=as.map V.ref) (λi ys σ H=>(∃v u,σ=v::u::τ)/\ae H1 H/\Paired (G H) ys ((ps.take i).map f)) ⟨⟨none,none,rfl⟩,ae.refl _,.nil⟩ ?_ ?_ ?_
 ·rintro i ys σ H hi ⟨_,S,r⟩
  rw[aH] at hi;refine⟨S.seq ha,?_⟩;rw[Paired.length r,aH,lZ];exact lM (by omega)
 ·rintro B i x ys σ H hx ⟨⟨v,u,rfl⟩,S,r⟩
  obtain⟨p,hp,rfl⟩:=Bh hx;obtain⟨c,hc,q,e1,e2⟩:=Paired.getL R hp;refine⟨p,_,rfl,av.of (S _ _ e1),rfl,_,_,rfl,_,_,rfl,rfl,?_⟩
  try dsimp only[aG,pW,dW]
  rw[if_pos rfl];refine hs B q c H (kS hc) e2 S _ λv H2 S2 g2=>⟨⟨_,_,rfl⟩,S.trans S2,?_⟩
  rw[oX,hc,uf,dX];exact Paired.snoc (Paired.eZ r λ_ _ h=>hG S2 h) g2
 ·rintro ys σ H ⟨_,S,r⟩
  rw[aH,hl,oY] at r;exact hd ys H S r
def cH:Hp->V->Str->Prop:=λ_ v s=>v=.str s
inductive lH(H:Hp)(v:V)(ws:List Str):Prop
 | mk:∀a,(v=.ref a)->(H a=some (.lst (bq ws)))->lH H v ws
theorem lH.same{H H':Hp}{v:V}{ws:List Str}(S:ae H H'):lH H v ws->lH H' v ws:=λ⟨a,e,h⟩=>⟨a,e,S _ _ h⟩
theorem cH.all{H:Hp}:∀{ys:List V} {ws:List Str},Paired (cH H) ys ws->ys=bq ws
 | _,_,.nil=>rfl
 | _,_,.cons h t=>by rw[cH.all t,show _=_ from h];rfl
def bV(ws:List Str)(H:Hp)(Q:VK):Prop:=∀q H',ae H H'->H q=none->H' q=some (.lst (bq ws))->Q (.ref q) H'
def tK(N:aq):Option aY->List Str
 | none=>[iK]
 | some P=>d4 N P
structure LW(H0:Hp)(q:Addr)(ws:List Str)(H:Hp):Prop where
 sm:ae H0 H
 nw:H0 q=none
 at':H q=some (.lst (bq ws))
theorem LW.lit{H:Hp}{q:Addr}(ws:List Str)(h:H q=none):LW H q ws (upd H q (.lst (bq ws))):=⟨(ae.refl H).upd h,h,aA⟩
theorem LW.next{H0 H H':Hp}{q:Addr}{ws:List Str}(h:LW H0 q ws H)(S:ae H H'):LW H0 q ws H':=⟨h.sm.trans S,h.nw,S _ _ h.at'⟩
theorem LW.back{H0 H H':Hp}{q:Addr}{ws:List Str}(S:ae H0 H)(h:LW H q ws H'):LW H0 q ws H':=⟨S.trans h.sm,S.free h.nw,h.at'⟩
theorem bV.of{ws:List Str}{H H':Hp}{Q:VK}{q:Addr}(h:bV ws H Q)(l:LW H q ws H'):Q (.ref q) H':=h q H' l.sm l.nw l.at'
theorem bV.mk{ws:List Str}{H:Hp}{Q:VK}(h:∀q H',LW H q ws H'->Q (.ref q) H'):bV ws H Q:=λq H' a b c=>h q H' ⟨a,b,c⟩
theorem bV.skip{ws:List Str}{H H':Hp}{Q:VK}(h:bV ws H Q)(S:ae H H'):bV ws H' Q:=λq H2 a b c=>h q H2 (S.trans a) (S.free b) c
theorem ae.ub{H H1:Hp}{q:Addr}{o:HO}(S:ae H H1)(h:H q=none):ae H (upd H1 q o):=λb u e=>by rw[bg (e6 e h)];exact S b u e
theorem FO(xs ys:List Str):bq (xs++ys)=bq xs++bq ys:=dX ..
theorem ja(xs:List Str):(bq xs).length=xs.length:=aH ..
theorem LW.cat{H0 H:Hp}{a b:Addr}{xs ys:List Str}{Q:VK}(h1:H a=some (.lst (bq xs)))(h2:H b=some (.lst (bq ys)))(S:ae H0 H)(hl:xs.length+ys.length<=100000)(hq:∀p H',LW H0 p (xs++ys) H'->Q (.ref p) H'):oM (.ref a) (.ref b) H Q:=by
 refine⟨a,b,_,_,rfl,rfl,h1,h2,?_,λp np=>hq p _ ?_⟩
 ·rw[ja,ja]
  have:=sizeLine_eq;omega
 ·rw[<-FO]
  exact⟨S.upd np,S.free np,aA⟩
theorem kz{ns:List Str}{i:Int}(h:gw ns i):bT (bq ns) i=some (.str (ns.getD i.toNat ay)):=by
 obtain⟨h0,h1⟩:=h;obtain⟨k,rfl⟩:=jA h0;have hk:k<ns.length:=by omega
 refine c7 ?_;rw[dz];show (ns.map V.str)[k]?=_;rw[eu,cw hk,gF,cw hk];rfl
theorem v_(k:Nat):((10^k:Nat):Int)=(10:Int)^k:=by rw[Int.natCast_pow];rfl
theorem Cq{x:Int}(k:Nat)(h:(x.natAbs:Int)<10^k):x.natAbs<10^k:=by
 rw[<-v_] at h;exact Int.ofNat_lt.mp h
theorem km{n:Nat}(h:n<10^1000):n<10^4300:=dI h (F_ (by decide) (by decide))
theorem la{x:Int}(h:fS x):x.natAbs<10^1000:=Cq 1000 (by rw[R0 h.1];exact h.2)
theorem Iz{ws:List Int}(h:kn ws){x:Int}(hx:x∈ws):x.natAbs<10^1000:=Cq 1000 (h x hx)
theorem Ky(l:List Int):(iJ l).length<=l.length+2:=by
 unfold iJ
 split
 ·exact dy _
 ·rw[aix,bF,bS,aH]
  exact bH _
theorem oE(ns:List Str)(l:List Int):(fG ns l).length=l.length+2:=by
 unfold fG;rw[bS,bF,aH];rfl
theorem nk(m:Mark):(aT m).length=m.length+2:=by
 unfold aT;rw[bS,bF,aH];rfl
theorem qU(ws:List Int):cX (ws.map some)=aQ ws:=by
 show (ws.map some).map vm=_;rw[ek];rfl
theorem agZ{H:Hp}{us:List V}{ws:List (List Str)}(h:Paired (lH H) us ws){i:Nat}{v:V}(hv:us[i]?=some v):∃a w,v=.ref a/\ws[i]?=some w/\H a=some (.lst (bq w)):=by
 obtain⟨w,e,a,e1,e2⟩:=Paired.getL h hv;exact⟨a,w,e1,e,e2⟩
def uF:Int:=(10^50)^20
theorem G8:uF=(10:Int)^1000:=by
 unfold uF;rw[<-Int.pow_mul]
theorem Ul:0<uF:=by
 rw[G8];exact Int.pow_pos (by decide)
theorem Uk:((10:Int)^(50:Int).toNat)^(20:Int).toNat=uF:=rfl
theorem adC:B9 10 50:=⟨by decide,by decide +kernel⟩
theorem adD:B9 ((10:Int)^(50:Int).toNat) 20:=⟨by decide,by decide +kernel⟩
abbrev wD:List Int:=[3,10,1000000001,uF]
def Bv(c:Int)(j:Nat):Int:=(c+11*j)*(j*j+3)
theorem Rr{k:Int}(h0:0<=k)(h4:k<4):bT (aQ wD) k=some (.int (wD.getD k.toNat 1))/\0<wD.getD k.toNat 1/\wD.getD k.toNat 1<=10^1000:=by
 have big:=G8;have h1:(1000000001:Int)<=10^1000:=Gp (by decide:(1000000001:Int)<=10^10) (by rw[<-v_,<-v_];exact Int.ofNat_le.mpr (F_ (by decide) (by decide)))
 obtain⟨n,rfl⟩:=jA h0;rw[dz];have hn:n=0\/n=1\/n=2\/n=3:=by omega
 rcases hn with rfl|rfl|rfl|rfl
 ·exact⟨c7 rfl,by decide,Gp (by decide:(3:Int)<=1000000001) h1⟩
 ·exact⟨c7 rfl,by decide,Gp (by decide:(10:Int)<=1000000001) h1⟩
 ·exact⟨c7 rfl,by decide,h1⟩
 ·exact⟨c7 rfl,Ul,Int.le_of_eq big⟩
def fv(c:Int)(j:Nat):Int:=Bv c j/9%wD.getD ((Bv c j+j*j)%4).toNat 1
theorem pR(c:Int)(j:Nat):fS (fv c j):=by
 obtain⟨_,h2,h3⟩:=Rr (k:=(Bv c j+j*j)%4) (kU _ (by decide)) (j4 _ (by decide))
 exact⟨kU _ (Int.ne_of_gt h2),rg (j4 _ h2) h3⟩
theorem E3{j:Nat}(h:j<=100):(0:Int)<=(j:Int)*j/\(j:Int)*j<=10000:=by
 have:=Nat.mul_le_mul h h;rw[<-Int.natCast_mul];omega
def kJ(c:Int)(sg:Bool)(j:Nat):Int:=if sg=true/\(c+j)%3=1 then -fv c j else fv c j
def eH(c:Int)(z:Nat)(sg:Bool):List Int:=(bJ z).map (kJ c sg)
def qw(c:Int)(z:Nat):Mark:=(bJ z).map λ(j:Nat)=>if (c/3+j*j)%4=1 then none else some (fv c j)
def iB(c:Int)(z:Nat):List Int:=((bJ z).filter λ(j:Nat)=>decide (c/((j:Int)+1)%2=0)).map λ(j:Nat)=>(j:Int)
def kf(c:Int)(m:Nat):List Int:=if m=0 then [] else (bJ (c%4).toNat).map λ(j:Nat)=>(c/5+j*j)%m
def gS(c:Int)(m:Nat):List (Int×List Int):=(bJ (c%3).toNat).map λ(j:Nat)=>(fv c j,kf (c/(3+j)) m)
def kD(c:Int)(m:Nat):List (Int×List Int):=(kf c m).map λd=>(d,(bJ (c/2%3).toNat).map (fv c))
def kI(c:Int)(z:Nat):dA:=if c%3=0 then .no else if c%3=1 then .yes true (iB (c/3) z) else .yes false (eH (c/3) z true)
def ky(c:Int)(z:Nat):List Mark:=(bJ (c%4).toNat).map λ(j:Nat)=>qw (c/(j+3)) z
def jf(c:Int)(z:Nat):List Mark:=(bJ (c%4).toNat).map λ(j:Nat)=>(eH (c/(j+3)) z false).map some
def mU(c:Int)(z:Nat):List dA:=(bJ (c%4).toNat).map λ(j:Nat)=>kI (c/(j+3)) z
def jU(c:Int)(z:Nat):aY:=if c%3=0 then .b3 (eH (c/7) z true) else if c%3=1 then .mk .room (jf (c/3) z) else .mk .fence (ky (c/3) z)
def LP(k:Nat)(r:Int)(z m:Nat):aY :=
 match k with
 | 0=>.wr true (gS r m)
 | 1=>.wr false (kD r m)
 | 2=>.mk .fence (ky r z)
 | 3=>.mk .room (jf r z)
 | 4=>.mk .wants (jf r z)
 | 5=>.b3 (eH r z true)
 | 6=>.sum (eH r z true) (fv r 7)
 | 7=>.st true (iB r z)
 | 8=>.st false (iB r z)
 | 9=>.kept (mU r z)
 | _=>.most (gS (r/3) m) (jU r z)
def qJ(c:Int)(z m:Nat):aY:=LP (c%11).toNat (c/11) z m
theorem C5(c:Int)(m:Nat):(kf c m).length<=3:=by
 unfold kf
 split
 ·exact dy _
 ·rw[aH,g_]
  have:=j4 c (b:=4) (by decide)
  omega
theorem Vk{tt:cK->TT}{te:cK->TE}{H1:Hp}{Z:List V->Hp->Prop}{lo:Int}{n:Nat}{τ:St}(f:Nat->Bool)(hn:n<=1000)
  (ht:∀B i H,i<n->ae H1 H->∀Q':Bool->Hp->Prop,(∀H2,ae H H2->Q' (f i) H2)->tt B (some (.int (lo+i))::τ) H Q')
  (he:∀B i H,i<n->∀Q':VK,Q' (.int (lo+i)) H->te B (some (.int (lo+i))::τ) H Q')
  (hd:∀H2,ae H1 H2->Z (((bJ n).filter f).map λ(i:Nat)=>V.int (lo+i)) H2) :
  ∃W:Nat->Nat->List V->St->Hp->Prop,(∃m,W 0 m [] (none::τ) H1)/\∀B:cK,iS (kZ lo n) (aG 0) (tt B) (te B) W Z:=by
 refine nC (g:=λ_=>aG 0) (λi ys σ H=>(∃v,σ=v::τ)/\ae H1 H/\ys=((bJ i).filter f).map λ(i:Nat)=>V.int (lo+i)) ⟨⟨none,rfl⟩,ae.refl _,rfl⟩ (λi ys σ H hi ⟨_,_,e⟩=>?_) (λB i ys σ H hi ⟨⟨v,e⟩,S,ey⟩=>?_) (λys σ H ⟨_,S,e⟩=>?_)
 ·rw[e,aH]
  exact lM (b_ (Si _ _) (by rw[g_];omega))
 ·subst e
  try dsimp only[aG]
  refine ht B i H hi S _ λH2 S2=>?_
  have er:(bJ (i+1)).filter f=(bJ i).filter f++(if f i then [i] else []):=by
   rw[BW,aiC]
   congr 1
   cases e:f i<;>simp[e]
  cases ef:f i with
  | true =>
   rw[if_pos rfl];refine he B i H2 hi _ ⟨⟨_,rfl⟩,S.trans S2,?_⟩;rw[er,ef,ey,if_pos rfl,dX];rfl
  | false =>
   rw[if_neg (by decide)]
   refine⟨⟨_,rfl⟩,S.trans S2,?_⟩;rw[er,ef,ey,if_neg (by decide),eY]
 ·rw[e]
  exact hd H S
theorem rT{β:Type}{te:cK->TE}{H1:Hp}{Z:List V->Hp->Prop}{n:Nat}{τ:St}(f:Nat->β)(G:Hp->V->β->Prop)(hG:∀{H H':Hp} {v:V} {b:β},ae H H'->G H v b->G H' v b)(hn:n<=1000)
  (hs:∀B j H,j<n->ae H1 H->∀Q':VK,(∀v H2,ae H H2->G H2 v (f j)->Q' v H2)->te B (some (.int (j:Int))::τ) H Q')
  (hd:∀ys H2,ae H1 H2->Paired (G H2) ys ((bJ n).map f)->Z ys H2) :
  ∃W:Nat->Nat->List V->St->Hp->Prop,(∃m,W 0 m [] (none::τ) H1)/\∀B:cK,iS (kZ 0 n) (aG 0) dW (te B) W Z:=by
 refine nC (g:=λ_=>aG 0) (tt:=λ_=>dW) (λi ys σ H=>(∃v,σ=v::τ)/\ae H1 H/\Paired (G H) ys ((bJ i).map f)) ⟨⟨none,rfl⟩,ae.refl _,.nil⟩ ?_ ?_ ?_
 ·rintro i ys σ H hi ⟨_,S,r⟩
  rw[Paired.length r,aH,g_];exact lM (by omega)
 ·rintro B i ys σ H hi ⟨⟨v,rfl⟩,S,r⟩
  try dsimp only[aG,dW]
  rw[if_pos rfl,rh];refine hs B i H hi S _ λu H2 S2 g2=>⟨⟨_,rfl⟩,S.trans S2,?_⟩
  rw[BW,dX];exact Paired.snoc (Paired.eZ r λ_ _ h=>hG S2 h) g2
 ·rintro ys σ H ⟨_,S,r⟩
  exact hd ys H S r
theorem Az{a b:Int}{A B:Prop}(h1:a=b->A)(h2:¬ a=b->B):if decide (V.int a=V.int b)=true then A else B:=dZ (λe=>h1 (by injection e)) (λe=>h2 λz=>e (by rw[z]))
theorem AA{a b:Str}{A B:Prop}(h1:a=b->A)(h2:¬ a=b->B):if decide (V.str a=V.str b)=true then A else B:=dZ (λe=>h1 (by injection e)) (λe=>h2 λz=>e (by rw[z]))
theorem agP(xs ys:List Int):aQ (xs++ys)=aQ xs++aQ ys:=dX ..
theorem Ua{c:Int}{z j:Nat}(h:j<z):bT (aQ (eH c z false)) (j:Int)=some (.int (fv c j)):=by
 refine c7 ?_;show ((eH c z false).map V.int)[j]?=_;unfold eH;rw[eu,eu,List.getElem?_range h];rfl
def isIn:Hp->V->Int->Prop:=λ_ v i=>v=.int i
theorem isIn.all{H:Hp}:∀{ys:List V} {ws:List Int},Paired (isIn H) ys ws->ys=aQ ws
 | _,_,.nil=>rfl
 | _,_,.cons h t=>by rw[isIn.all t,show _=_ from h];rfl
inductive ku(H:Hp)(v:V)(b:Int×List Int):Prop
 | mk:∀p,(v=.ref p)->(B7 H p b)->ku H v b
theorem ku.same{H H':Hp}{v:V}{b:Int×List Int}(S:ae H H'):ku H v b->ku H' v b:=λ⟨p,e,q,e1,e2⟩=>⟨p,e,q,S _ _ e1,S _ _ e2⟩
theorem ku.all{H:Hp}:∀{ys:List V} {ws:List (Int×List Int)},Paired (ku H) ys ws->∃as,ys=as.map V.ref/\hJ H as ws
 | _,_,.nil=>⟨[],rfl,.nil⟩
 | _,_,.cons ⟨p,e,h⟩ t=>by
  obtain⟨as,e2,r⟩:=ku.all t;exact⟨p::as,by rw[e,e2];rfl,.cons h r⟩
inductive kx(H:Hp)(v:V)(m:Mark):Prop
 | mk:∀p,(v=.ref p)->(H p=some (.lst (cX m)))->kx H v m
theorem kx.same{H H':Hp}{v:V}{b:Mark}(S:ae H H'):kx H v b->kx H' v b:=λ⟨p,e,q⟩=>⟨p,e,S _ _ q⟩
theorem kx.all{H:Hp}:∀{ys:List V} {ws:List Mark},Paired (kx H) ys ws->∃as,ys=as.map V.ref/\fQ H as ws
 | _,_,.nil=>⟨[],rfl,.nil⟩
 | _,_,.cons ⟨p,e,h⟩ t=>by
  obtain⟨as,e2,r⟩:=kx.all t;exact⟨p::as,by rw[e,e2];rfl,.cons h r⟩
theorem mJ(c:Int){k:Int}(hk:0<k):∃n:Nat,c%k=n/\(n:Int)<k:=by
 obtain⟨n,e⟩:=jA (kU c (Int.ne_of_gt hk));exact⟨n,e,by rw[<-e];exact j4 _ hk⟩
theorem aE{a b:Str}{A B:Prop}(h:a≠b)(hB:B):if decide (V.str a=V.str b)=true then A else B:=AA (λe=>absurd e h) (λ_=>hB)
theorem gY{a:Str}{A B:Prop}(hA:A):if decide (V.str a=V.str a)=true then A else B:=AA (λ_=>hA) (λe=>absurd rfl e)
theorem Ax{a b:Str}{A B:Prop}(h:a≠b)(hA:A):if (!decide (V.str a=V.str b))=true then A else B:=by
 rw[if_pos (by rw[decide_eq_false (λe=>h (by injection e))];rfl)]
 exact hA
theorem Kb{a:Str}{A B:Prop}(hB:B):if (!decide (V.str a=V.str a))=true then A else B:=by
 rw[if_neg (by rw[decide_eq_true rfl];decide)]
 exact hB
def DL:List Str:=["run","branch","fence","room","wants","fall","sum","dry","wet","kept","most"]
theorem aac{k:Nat}(h:k<11):bT [V.str "run",.str "branch",.str "fence",.str "room",.str "wants",.str "fall",.str "sum",.str "dry",.str "wet",.str "kept",.str "most"] (k:Int)=some (.str (DL.getD k ay)):=by
 refine c7 ?_;show (DL.map V.str)[k]?=_;have hk:k<DL.length:=h;rw[eu,cw hk,gF,cw hk];rfl
theorem fQ.upd{H:Hp}{q:Addr}{o:HO}:∀{as:List Addr} {ms:List Mark},fQ H as ms->(∀a∈as,a≠q)->fQ (L2.upd H q o) as ms
 | _,_,.nil,_=>.nil
 | a::_,_,.cons h t,n=>.cons (by show L2.upd H q o a=_;rw[bg (n a (cB ..))];exact h) (fQ.upd t λb hb=>n b (cP _ hb))
theorem fQ.DO{H:Hp}:∀{as:List Addr} {ms:List Mark},fQ H as ms->∀a∈as,∃m,H a=some (.lst (cX m))
 | _,_,.cons h t,a,ha=>by
  rcases bE.mp ha with e|e
  ·rw[e];exact⟨_,h⟩
  ·exact fQ.DO t a e
theorem aaW{m:Mark}{x:Addr}{r:List V}:cX m≠.ref x::r:=λe=>by
 cases m with
 | nil=>cases e
 | cons a m =>
  cases a with
  | none=>injection e with e _;cases e
  | some n=>injection e with e _;cases e
theorem acP{H:Hp}{r:Int}{z:Nat}{p1 p2 p3:Addr}(h1:cD H (.ref p1) (.b3 (eH (r/7) z true)))(h2:cD H (.ref p2) (.mk .room (jf (r/3) z)))(h3:cD H (.ref p3) (.mk .fence (ky (r/3) z))):∃v,bT [V.ref p1,.ref p2,.ref p3] (r%3)=some v/\cD H v (jU r z):=by
 obtain⟨k,hk,k3⟩:=mJ r (k:=3) (by decide)
 unfold jU;have kk:k=0\/k=1\/k=2:=by omega
 rcases kk with rfl|rfl|rfl
 ·rw[hk];exact⟨_,c7 (j:=0) rfl,h1⟩
 ·rw[hk];exact⟨_,c7 (j:=1) rfl,h2⟩
 ·rw[hk];exact⟨_,c7 (j:=2) rfl,h3⟩
def eQ(w:Str):Prop:=qF w/\w.length<=1001/\32∉w.cps.toList
theorem vW{w:Str}(h:∀c∈w.cps.toList,32<c/\c<128)(hl:w.length<=1001):eQ w :=
 ⟨λc hc=>by have:=h c hc;omega,hl,λhc=>by have:=h 32 hc;omega⟩
theorem qG{y:Str}(h:dQ y=true):eQ y:=by
 unfold dQ at h;rw[de,de,e_,decide_eq_true_eq,decide_eq_true_eq] at h;refine vW (λc hc=>?_) (by omega)
 have:=h.2 c hc;unfold jw at this;rw[de,decide_eq_true_eq,decide_eq_true_eq] at this;omega
theorem kA{x:Int}(h:fS x):eQ (bj x):=by
 refine vW (λc hc=>?_) (Nat.le_succ_of_le (Fb h))
 obtain⟨n,rfl⟩:=jA h.1;have:=Bw n c hc;omega
theorem K7{x:Int}(h:(x.natAbs:Int)<10^1000):eQ (bj x):=by
 by_cases h0:0<=x
 ·exact kA ⟨h0,by rw[R0 h0] at h;exact h⟩
 ·obtain⟨m,hm,rfl⟩:∃m:Nat,0<m/\x = -(m:Int):=⟨x.natAbs,by omega,by omega⟩
  rw[ais,Int.natAbs_natCast] at h;have hb:fS (m:Int):=⟨by omega,h⟩
  have hl:=Fb hb;rw[Fc m hm];refine vW (λc hc=>?_) ?_
  ·have hc:c∈45::(bj (m:Int)).cps.toList:=hc
   rcases bE.mp hc with e|e
   ·omega
   ·have:=Bw m c e
    omega
  ·show (45::(bj (m:Int)).cps.toList).length<=1001
   rw[bF];have:(bj (m:Int)).cps.toList.length=(bj (m:Int)).length:=rfl;omega
theorem eD{w:Str}(h:(w.cps.toList.all λc=>decide (32<c)&&decide (c<128))=true)(hl:w.length<=1001):eQ w:=vW (λc hc=>by
 have:=e_.mp h c hc;rw[de,decide_eq_true_eq,decide_eq_true_eq] at this;exact this) hl
section
variable{N:aq}(ok:N.Ok)
include ok
theorem vQ{ns:List Str}(hn:∀y∈ns,dQ y=true){is:List Int}(h:∀i∈is,gw ns i):∀w∈fG ns is,eQ w:=λw hw=>by
 unfold fG at hw;rcases dH.mp hw with hw|hw
 ·rcases bE.mp hw with e|hw
  ·rw[e];exact eD rfl (by decide)
  ·obtain⟨i,hi,rfl⟩:=bR.mp hw
   obtain⟨hj,e⟩:=Aj (h i hi);rw[e];exact qG (hn _ (pA hj))
 ·rw[dc.mp hw];exact eD rfl (by decide)
theorem uD{m:Mark}(h:∀n,some n∈m->(n.natAbs:Int)<10^1000):∀w∈aT m,eQ w:=λw hw=>by
 unfold aT at hw;rcases dH.mp hw with hw|hw
 ·rcases bE.mp hw with e|hw
  ·rw[e];exact eD rfl (by decide)
  ·obtain⟨i,hi,rfl⟩:=bR.mp hw
   cases i with
   | none=>exact eD rfl (by decide)
   | some n=>exact K7 (h n hi)
 ·rw[dc.mp hw];exact eD rfl (by decide)
theorem CM{x:Int}(h:fS x):(x.natAbs:Int)<10^1000:=by
 rw[R0 h.1];exact h.2
theorem sQ{m:Mark}(h:fg m):∀n,some n∈m->(n.natAbs:Int)<10^1000:=λn hn=>CM ok (h n hn)
theorem n_{ws:List Int}(h:kn ws):∀n,some n∈ws.map some->(n.natAbs:Int)<10^1000:=λn hn=>by
 obtain⟨y,hy,e⟩:=bR.mp hn
 cases e;exact h _ hy
theorem Hd{b:Int×List Int}(h:goodW N b):∀w∈c8 N b,eQ w:=λw hw=>by
 rcases bE.mp hw with e|hw
 ·rw[e];exact kA h.1
 ·exact vQ ok ok.dn h.2 w hw
theorem acV{b:Int×List Int}(h:sR N b):∀w∈gA N b,eQ w:=λw hw=>by
 rcases bE.mp hw with e|hw
 ·rw[e];exact qG (uS ok h.1)
 ·unfold iJ at hw
  split at hw
  ·cases hw
  ·rcases dH.mp hw with hw|hw
   ·rcases bE.mp hw with e|hw
    ·rw[e];exact eD rfl (by decide)
    ·obtain⟨i,hi,rfl⟩:=bR.mp hw
     exact kA (h.2 i hi)
   ·rw[dc.mp hw];exact eD rfl (by decide)
theorem aeb{r:dA}(h:nZ N r):∀w∈f9 N r,eQ w:=λw hw=>by
 cases r with
 | no=>rw[dc.mp hw];exact eD rfl (by decide)
 | yes k bs =>
  cases k with
  | true =>
   rcases bE.mp hw with e|hw
   ·rw[e];exact eD rfl (by decide)
   ·exact vQ ok ok.bn h w hw
  | false =>
   rcases bE.mp hw with e|hw
   ·rw[e];exact eD rfl (by decide)
   ·exact uD ok (n_ ok h) w hw
theorem Kd{q:aY}(h:pX N q):jJ N q:=by
 cases q with
 | wr k bs=>cases k<;>cases h
 | mk k ms=>cases k with
  | fence=>exact h
  | room=>exact h
  | wants=>cases h
 | b3 ws=>exact h
 | sum ws k=>cases h
 | st k bs=>cases h
 | kept rs=>cases h
 | most bs q=>cases h
theorem FU(P:aY):eQ (bK P):=by
 cases P with
 | wr k bs=>cases k<;>exact eD rfl (fk rfl)
 | mk k ms=>cases k<;>exact eD rfl (fk rfl)
 | b3 ws=>exact eD rfl (fk rfl)
 | sum ws k=>exact eD rfl (fk rfl)
 | st k bs=>cases k<;>exact eD rfl (fk rfl)
 | kept rs=>exact eD rfl (fk rfl)
 | most bs q=>exact eD rfl (fk rfl)
theorem CP:∀{P:aY},jJ N P->∀w∈fT N P,eQ w
 | .wr true bs,h,w,hw=>by
  obtain⟨b,hb,hw⟩:=BV.mp hw;exact Hd ok (h b hb) w hw
 | .wr false bs,h,w,hw=>by
  obtain⟨b,hb,hw⟩:=BV.mp hw;exact acV ok (h b hb) w hw
 | .mk k ms,h,w,hw=>by
  obtain⟨b,hb,hw⟩:=BV.mp hw;refine uD ok (sQ ok ?_) w hw
  cases k with
  | fence=>exact h b hb
  | room=>exact(h b hb).1
  | wants=>exact(h b hb).1
 | .b3 ws,h,w,hw=>uD ok (n_ ok h) w hw
 | .sum ws k,h,w,hw=>by
  rcases bE.mp hw with e|hw
  ·rw[e];exact kA h.2
  ·exact uD ok (n_ ok h.1) w hw
 | .st k bs,h,w,hw=>by
  obtain⟨i,hi,rfl⟩:=bR.mp hw;exact qG (Hm ok (h i hi))
 | .kept rs,h,w,hw=>by
  obtain⟨b,hb,hw⟩:=BV.mp hw;exact aeb ok (h b hb) w hw
 | .most bs q,h,w,hw=>by
  rcases dH.mp hw with hw|hw
  ·obtain⟨b,hb,hw⟩:=BV.mp hw
   exact Hd ok (h.1 b hb) w hw
  ·rcases bE.mp hw with e|hw
   ·rw[e];exact eD rfl (by decide)
   ·rcases bE.mp hw with e|hw
    ·rw[e];exact FU ok q
    ·exact CP (Kd ok h.2) w hw
theorem ac5{P:aY}(h:jJ N P):∀w∈d4 N P,eQ w:=λw hw=>by
 rcases bE.mp hw with e|hw
 ·rw[e];exact FU ok P
 ·exact CP ok h w hw
end
abbrev jn(ws:List Str):Str:=fo (sg 32) ws
theorem Qu{x y:Str}(h:x.cps.toList=y.cps.toList):x=y:=by
 rw[<-qO x,<-qO y,h]
theorem fL(x y z:Str):x++y++z=x++(y++z):=Qu (by simp only[app_list,kW])
theorem ot:∀{xs ys:List Str},xs≠[]->ys≠[]->jn (xs++ys)=jn xs++sg 32++jn ys
 | [],_,h,_=>absurd rfl h
 | [x],[],_,h=>absurd rfl h
 | [x],y::ys,_,_=>rfl
 | x::x2::xs,ys,_,h=>by
  show jn (x::x2::(xs++ys))=_;rw[show jn (x::x2::(xs++ys))=x++sg 32++jn ((x2::xs)++ys) from rfl,ot (xs:=x2::xs) (λz=>nomatch z) h,show jn (x::x2::xs)=x++sg 32++jn (x2::xs) from rfl]
  simp only[fL]
theorem Ki:∀{gs:List (List Str)},(∀g∈gs,g≠[])->jn (gs.map jn)=jn gs.flatten
 | [],_=>rfl
 | [g],_=>by
  show jn g=jn (g++[]);rw[eY]
 | g::g2::gs,h=>by
  have h2:(g2::gs).flatten≠[]:=λz=>by
   rw[wN] at z;exact h g2 (cP _ (cB ..)) (List.append_eq_nil_iff.mp z).1
  rw[wN,ot (h g (cB ..)) h2,<-Ki (λx hx=>h x (cP _ hx))]
  rfl
theorem lG{ws:List Str}{B:Nat}(h:∀w∈ws,w.length<=B):(jn ws).length<=ws.length*(B+1):=by
 cases ws with
 | nil=>exact dy _
 | cons x r =>
  show (fo (sg 32) (x::r)).length<=_;rw[DH];have:∀(l:List Str),(∀w∈l,w.length<=B)->(l.map B1).sum<=l.length*B:=λl=>by
   induction l with
   | nil=>exact λ_=>dy _
   | cons a l ih =>
    intro h;rw[jc,ahH,bF,Ga];have h1:=h a (cB ..);have h2:=ih λw hw=>h w (cP _ hw)
    omega
  have h1:=this (x::r) h;rw[Nat.mul_succ];rw[bF] at h1 ⊢;omega
theorem FV(a b:Str){ws:List Str}(h:ws≠[]):jn (a::ws++[b])=a++sg 32++jn ws++(sg 32++b):=by
 show jn ([a]++ws++[b])=_;rw[ot (xs:=[a]++ws) (ys:=[b]) (λz=>nomatch z) (λz=>nomatch z),ot (xs:=[a]) (λz=>nomatch z) h,fL _ (sg 32) (jn [b])]
 rfl
theorem Ub{m:Mark}(h:m≠[]):(zalias233z "< " ++ jn (m.map fh)++zalias233z " >")=jn (aT m):=by
 unfold aT;rw[FV _ _ (λe=>h (uu.mp e))]
 rfl
theorem aeV:zalias233z " [ " = sg 32++(cp++sg 32):=rfl
theorem aeW:zalias233z " ]" = sg 32++e8:=rfl
theorem ju(w:Str):jn [w]=w:=rfl
theorem acZ(N:aq){c:Int×List Int}(h:c.2≠[]):N.az.getD c.1.toNat ay++zalias233z " [ " ++ jn (c.2.map bj)++zalias233z " ]" = jn (gA N c):=by
 unfold gA iJ;rw[if_neg h];generalize N.az.getD c.1.toNat ay=d;rw[show d::(cp::c.2.map bj++[e8])=[d]++(cp::c.2.map bj++[e8]) from rfl,ot (xs:=[d]) (ys:=cp::c.2.map bj++[e8]) (λz=>nomatch z) (λz=>nomatch z),FV _ _ (λe=>h (uu.mp e)),ju,aeV,aeW]
 generalize jn (c.2.map bj)=J;simp only[fL]
theorem bV.of2{ws Ru:List Str}{H H':Hp}{Q:VK}{q:Addr}(h:bV ws H Q)(e:Ru=ws)(l:LW H q Ru H'):Q (.ref q) H':=by
 subst e;exact h.of l
def iG(N:aq):aY->List (List Str)
 | .wr true bs=>bs.map (c8 N)
 | .wr false bs=>bs.map (gA N)
 | .mk _ ms=>ms.map aT
 | .b3 ws=>[aT (ws.map some)]
 | .sum ws p=>[[bj p],aT (ws.map some)]
 | .st _ bs=>bs.map λi=>[N.aa.getD i.toNat ay]
 | .kept rs=>rs.map (f9 N)
 | .most bs q=>bs.map (c8 N)++[[cW],d4 N q]
def dj(N:aq)(P:aY):List Str:=(iG N P).map jn
theorem Im{α β:Type}(f:α->β):∀l:List α,(l.map λa=>[f a]).flatten=l.map f
 | []=>rfl
 | a::l=>by rw[jc,wN,Im f l];rfl
theorem IB{N:aq}:∀P:aY,(iG N P).flatten=fT N P
 | .wr true bs=>j6.symm
 | .wr false bs=>j6.symm
 | .mk _ ms=>j6.symm
 | .b3 ws=>by show (aT (ws.map some)++[])=_;rw[eY];rfl
 | .sum ws p=>by show [bj p]++(aT (ws.map some)++[])=_;rw[eY];rfl
 | .st _ bs=>Im _ _
 | .kept rs=>j6.symm
 | .most bs q=>by
  show (bs.map (c8 N)++[[cW],d4 N q]).flatten=bs.flatMap (c8 N)++cW::bK q::fT N q;rw[Gw,<-j6];show _++([cW]++(d4 N q++[]))=_;rw[eY];rfl
theorem aea{N:aq}:∀r:dA,f9 N r≠[]
 | .no=>λz=>nomatch z
 | .yes true _=>λz=>nomatch z
 | .yes false _=>λz=>nomatch z
theorem CH(m:Mark):aT m≠[]:=λz=>nomatch z
theorem ID{N:aq}:∀P:aY,∀g∈iG N P,g≠[]
 | .wr true bs,g,hg=>by obtain⟨b,_,rfl⟩:=bR.mp hg;exact λz=>nomatch z
 | .wr false bs,g,hg=>by obtain⟨b,_,rfl⟩:=bR.mp hg;exact λz=>nomatch z
 | .mk _ ms,g,hg=>by obtain⟨b,_,rfl⟩:=bR.mp hg;exact CH b
 | .b3 ws,g,hg=>by rw[dc.mp hg];exact CH _
 | .sum ws p,g,hg=>by
  rcases bE.mp hg with e|e
  ·rw[e];exact λz=>nomatch z
  ·rw[dc.mp e];exact CH _
 | .st _ bs,g,hg=>by obtain⟨b,_,rfl⟩:=bR.mp hg;exact λz=>nomatch z
 | .kept rs,g,hg=>by obtain⟨b,_,rfl⟩:=bR.mp hg;exact aea b
 | .most bs q,g,hg=>by
  rcases dH.mp hg with hg|hg
  ·obtain⟨b,_,rfl⟩:=bR.mp hg;exact λz=>nomatch z
  ·rcases bE.mp hg with e|e
   ·rw[e];exact λz=>nomatch z
   ·rw[dc.mp e];exact λz=>nomatch z
theorem Kj(N:aq)(P:aY):jn (bK P::dj N P)=jn (d4 N P):=by
 have h:=Ki (gs:=[bK P]::iG N P) (λg hg=>by
  rcases bE.mp hg with e|e
  ·rw[e];exact λz=>nomatch z
  ·exact ID P g e)
 rw[wN,IB] at h;exact h
theorem Wz{gs:List (List Str)}{g:List Str}(h:g∈gs):(∀w∈g,w∈gs.flatten)/\g.length<=gs.flatten.length:=by
 constructor
 ·exact λw hw=>List.mem_flatten.mpr ⟨g,h,hw⟩
 ·obtain⟨a,b,rfl⟩:=List.append_of_mem h
  rw[Gw,wN,bS,bS];omega
theorem IC:∀{gs:List (List Str)},(∀g∈gs,g≠[])->gs.length<=gs.flatten.length
 | [],_=>dy _
 | g::gs,h=>by
  rw[wN,bS,bF];have h1:=IC (gs:=gs) λx hx=>h x (cP _ hx)
  have h2:g.length≠0:=λz=>h g (cB ..) (GA.mp z)
  omega
theorem LU{N:aq}(ok:N.Ok){P:aY}(h:jJ N P)(hl:(d4 N P).length<=100):(bK P::dj N P).length<=100/\∀y∈bK P::dj N P,y.length<=100200:=by
 have hl:(fT N P).length+1<=100:=hl;have e:=IB (N:=N) P;have m:=IC (ID (N:=N) P);rw[e] at m;constructor
 ·rw[bF]
  unfold dj;rw[aH];omega
 ·intro y hy
  rcases bE.mp hy with z|hy
  ·rw[z]
   have:=(FU ok P).2.1;omega
  ·obtain⟨g,hg,rfl⟩:=bR.mp hy
   obtain⟨h1,h2⟩:=Wz hg;rw[e] at h1 h2;have:=lG (ws:=g) (B:=1001) λw hw=>(CP ok h w (h1 w hw)).2.1
   omega
def Ah:dA->Prop
 | .yes false ws=>ws≠[]
 | _=>True
def C9:aY->Prop
 | .mk _ ms=>∀m∈ms,m≠[]
 | .b3 ws=>ws≠[]
 | .sum ws _=>ws≠[]
 | .kept rs=>∀r∈rs,Ah r
 | .most _ q=>C9 q
 | _=>True
section
variable{N:aq}(ok:N.Ok)
include ok
theorem ze{c d:Int}{m:Nat}(h:d∈kf c m):0<=d/\d<m:=by
 unfold kf at h
 split at h
 ·cases h
 ·obtain⟨j,_,rfl⟩:=bR.mp h
  exact⟨kU _ (by omega),j4 _ (by omega)⟩
theorem CQ{c d:Int}{z:Nat}(h:d∈iB c z):0<=d/\d<z:=by
 obtain⟨j,hj,rfl⟩:=bR.mp h;have:=iq.mp (oW.mp hj).1;omega
theorem aex(c:Int)(sg:Bool)(j:Nat):((kJ c sg j).natAbs:Int)<10^1000:=by
 unfold kJ;have h:=CM ok (pR c j)
 split
 ·rw[ais];exact h
 ·exact h
theorem CG(c:Int)(z:Nat)(sg:Bool):kn (eH c z sg):=λx hx=>by
 obtain⟨j,_,rfl⟩:=bR.mp hx;exact aex ok c sg j
theorem pM(c:Int)(z:Nat)(sg:Bool):(eH c z sg).length=z:=by
 unfold eH;rw[aH,g_]
theorem aaM(c:Int)(z:Nat):fg (qw c z):=λn hn=>by
 obtain⟨j,_,e⟩:=bR.mp hn
 split at e
 ·cases e
 ·rw[<-a6 e];exact pR c j
theorem aaN(c:Int)(z:Nat):(qw c z).length=z:=by
 unfold qw;rw[aH,g_]
theorem T_(c:Int)(z:Nat):fg ((eH c z false).map some)/\none∉(eH c z false).map some:=by
 constructor
 ·intro n hn
  obtain⟨y,hy,e⟩:=bR.mp hn
  cases e;obtain⟨j,_,rfl⟩:=bR.mp hy;have:kJ c false j=fv c j:=if_neg λz=>nomatch z.1
  rw[this];exact pR c j
 ·intro h
  obtain⟨y,_,e⟩:=bR.mp h
  cases e
theorem aaT{m:Mark}{z:Nat}(h:fg m)(hl:m.length=z):jR z m=true:=by
 unfold jR;rw[de];refine⟨decide_eq_true hl,e_.mpr λx hx=>?_⟩
 cases x with
 | none=>rfl
 | some n=>exact decide_eq_true (h n hx).1
theorem Ho(c:Int){z:Nat}(hz:z<=6):mW z (iB c z)=true:=by
 unfold mW;rw[de];constructor
 ·refine e_.mpr λb hb=>?_
  have:=CQ ok hb;rw[de];exact⟨decide_eq_true this.1,decide_eq_true this.2⟩
 ·refine decide_eq_true ?_
  unfold gB iB zs;refine congrArg (List.map _) ?_;have e:∀x:Nat,decide ((x:Int)∈((bJ z).filter λ(j:Nat)=>decide (c/((j:Int)+1)%2=0)).map λ(j:Nat)=>(j:Int))=(decide (c/((x:Int)+1)%2=0)&&decide (x<z)):=λx=>by
   rw[j2,decide_eq_true_eq,de,decide_eq_true_eq,decide_eq_true_eq];constructor
   ·intro h
    obtain⟨j,hj,e⟩:=bR.mp h;obtain⟨h1,h2⟩:=oW.mp hj;have e:j=x:=by omega
    rw[<-e];exact⟨of_decide_eq_true h2,iq.mp h1⟩
   ·rintro⟨h2,h1⟩
    exact bR.mpr ⟨x,oW.mpr ⟨iq.mpr h1,decide_eq_true h2⟩,rfl⟩
  simp only[e];rw[<-List.filter_filter (p:=λ(x:Nat)=>decide (c/((x:Int)+1)%2=0)) (q:=λ(x:Nat)=>decide (x<z))]
  have er:(bJ 6).filter (λx=>decide (x<z))=bJ z:=by
   have hh:z=0\/z=1\/z=2\/z=3\/z=4\/z=5\/z=6:=by omega
   rcases hh with rfl|rfl|rfl|rfl|rfl|rfl|rfl<;>rfl
  rw[er]
theorem Hn(c:Int)(z:Nat):(iB c z).length<=z:=by
 unfold iB;rw[aH];exact b_ (Si ..) (by rw[g_];exact bH _)
theorem mod_lt(c:Int){k:Int}{n:Nat}(hk:0<k)(hn:k<=n+1):(c%k).toNat<=n:=by
 obtain⟨m,e,h⟩:=mJ c hk;rw[e,dz];omega
theorem qL{α:Type}{f:Nat->α}{n:Nat}{P:α->Prop}(h:∀j,P (f j)):∀a∈(bJ n).map f,P a:=λa ha=>by
 obtain⟨j,_,rfl⟩:=bR.mp ha;exact h j
theorem wa{α:Type}{f:Nat->α}{n k:Nat}(h:n<=k):((bJ n).map f).length<=k:=by
 rw[aH,g_];exact h
theorem Hh(c:Int):∀b∈gS c N.az.length,goodW N b:=qL ok λj=>⟨pR _ _,λi hi=>ze ok hi⟩
theorem Hi(c:Int)(m:Nat):(gS c m).length<=2:=wa ok (mod_lt ok c (by decide) (by decide))
theorem Hg(c:Int)(m:Nat):∀b∈gS c m,b.2.length<=3:=qL ok λj=>C5 _ _
theorem Hj(c:Int)(m:Nat):oO m (gS c m)=true:=e_.mpr (qL ok λj=>by
 rw[de];refine⟨decide_eq_true (pR _ _).1,e_.mpr λd hd=>?_⟩
 have:=ze ok hd;rw[de];exact⟨decide_eq_true this.1,decide_eq_true this.2⟩)
theorem EA{c:Int}{m:Nat}{P:Int×List Int->Prop}(h:∀d∈kf c m,P (d,(bJ (c/2%3).toNat).map (fv c))):∀b∈kD c m,P b:=λb hb=>by
 obtain⟨d,hd,rfl⟩:=bR.mp hb;exact h d hd
theorem ac2(c:Int):∀b∈kD c N.az.length,sR N b:=EA ok λd hd=>⟨ze ok hd,qL ok λj=>pR _ _⟩
theorem ac3(c:Int)(m:Nat):(kD c m).length<=3:=by
 unfold kD;rw[aH];exact C5 c m
theorem LO(c:Int)(m:Nat):∀b∈kD c m,b.2.length<=2:=EA ok λd hd=>wa ok (mod_lt ok _ (by decide) (by decide))
theorem ac1(c:Int)(m:Nat):CS m (kD c m)=true:=e_.mpr λd hd=>by
 obtain⟨b,hb,rfl⟩:=bR.mp hd;have:=EA ok (P:=λb=>0<=b.1/\b.1<m) (λd hd=>ze ok hd) b hb
 rw[de];exact⟨decide_eq_true this.1,decide_eq_true this.2⟩
theorem KH{c:Int}{z:Nat}:∀b∈ky c z,fg b/\b.length=z:=qL ok λj=>⟨aaM ok _ _,aaN ok _ _⟩
theorem KG(c:Int)(z:Nat):(ky c z).length<=3:=wa ok (mod_lt ok c (by decide) (by decide))
theorem G7{c:Int}{z:Nat}:∀b∈jf c z,(fg b/\none∉b)/\b.length=z:=qL ok λj=>⟨T_ ok _ _,by rw[aH];exact pM ok _ _ _⟩
theorem G6(c:Int)(z:Nat):(jf c z).length<=3:=wa ok (mod_lt ok c (by decide) (by decide))
theorem KL{z:Nat}{ms:List Mark}(h:∀b∈ms,fg b/\b.length=z):tq z ms=true:=e_.mpr λb hb=>aaT ok (h b hb).1 (h b hb).2
theorem G0{z:Nat}{ms:List Mark}(h:∀b∈ms,(fg b/\none∉b)/\b.length=z):pN z ms=true:=by
 unfold pN;rw[de];refine⟨KL ok λb hb=>⟨(h b hb).1.1,(h b hb).2⟩,?_⟩
 rw[Gf,aiv];intro b hb z;obtain⟨x,hx,e⟩:=B5.mp z
 cases x with
 | none=>exact(h b hb).1.2 hx
 | some n=>cases e
theorem ad1(c:Int):nZ N (kI c N.aa.length)/\oN N.aa.length (kI c N.aa.length)=true/\Ah (kI c N.aa.length)/\(∀k bs,kI c N.aa.length=.yes k bs->bs.length<=6):=by
 have b1:=ok.b1;have b6:=ok.b6;unfold kI
 split
 ·exact⟨trivial,rfl,trivial,λk bs e=>nomatch e⟩
 split
 ·refine⟨λi hi=>CQ ok hi,Ho ok _ b6,trivial,λk bs e=>?_⟩
  cases e;have:=Hn ok (c/3) N.aa.length;omega
 ·refine⟨CG ok _ _ _,decide_eq_true (pM ok _ _ _),λe=>?_,λk bs e=>?_⟩
  ·have:=pM ok (c/3) N.aa.length true
   rw[e] at this;rw[<-this] at b1
   cases b1
  ·cases e
   rw[pM ok];exact b6
theorem aef(c:Int):∀r∈mU c N.aa.length,nZ N r/\oN N.aa.length r=true/\Ah r/\(∀k bs,r=.yes k bs->bs.length<=6):=qL ok λj=>ad1 ok _
theorem aee(c:Int)(z:Nat):(mU c z).length<=3:=wa ok (mod_lt ok c (by decide) (by decide))
theorem uY{α:Type}{f:α->List Str}{B:Nat}:∀{l:List α},(∀a∈l,(f a).length<=B)->(l.flatMap f).length<=l.length*B
 | [],_=>dy _
 | a::l,h=>by
  rw[Gv,bS,bF,Ga];have h1:=h a (cB ..);have h2:=uY (l:=l) λb hb=>h b (cP _ hb)
  omega
structure iy(N:aq)(P:aY):Prop where
 gd:jJ N P
 wm:lT N.aa.length N.az.length P=true
 ft:iz P
 fl:C9 P
 ln:(d4 N P).length<=100
theorem AL{ms:List Mark}{z:Nat}(hz:z<=6)(h:∀b∈ms,b.length=z)(hl:ms.length<=3):(ms.flatMap aT).length<=24:=by
 have:=uY ok (f:=aT) (B:=8) (l:=ms) λb hb=>by rw[nk,h b hb];omega
 omega
theorem Hk(c:Int):((gS c N.az.length).flatMap (c8 N)).length<=12:=by
 have:=uY ok (f:=c8 N) (B:=6) (l:=gS c N.az.length) λb hb=>by
  show (fG N.az b.2).length+1<=6;rw[oE];have:=Hg ok c _ b hb;omega
 have:=Hi ok c N.az.length;omega
theorem Rz{z:Nat}{m:Mark}(hz:1<=z)(h:m.length=z):m≠[]:=λe=>by
 rw[e] at h;rw[<-h] at hz
 cases hz
theorem Sl{z:Nat}{m:List Int}(hz:1<=z)(h:m.length=z):m≠[]:=λe=>by
 rw[e] at h;rw[<-h] at hz
 cases hz
theorem Ij(c:Int):iy N (.b3 (eH c N.aa.length true)):=by
 have l:=pM ok c N.aa.length true;have b6:=ok.b6;refine⟨CG ok _ _ _,decide_eq_true l,by show (eH c N.aa.length true).length<=1000;omega,Sl ok ok.b1 l,?_⟩
 show (aT ((eH c N.aa.length true).map some)).length+1<=100;rw[nk,aH];omega
theorem ER(c:Int)(k:wX)(hk:k≠.fence):iy N (.mk k (jf c N.aa.length)):=by
 have h:=G7 ok (c:=c) (z:=N.aa.length);have l:=G6 ok c N.aa.length;have b6:=ok.b6;have w:=AL ok b6 (λb hb=>(h b hb).2) l
 refine⟨?_,?_,⟨by omega,λb hb=>by rw[(h b hb).2];omega⟩,λb hb=>Rz ok ok.b1 (h b hb).2,by show ((jf c N.aa.length).flatMap aT).length+1<=100;omega⟩
 ·cases k with
  | fence=>exact absurd rfl hk
  | room=>exact λb hb=>(h b hb).1
  | wants=>exact λb hb=>(h b hb).1
 ·cases k with
  | fence=>exact absurd rfl hk
  | room=>exact G0 ok h
  | wants=>exact G0 ok h
theorem Ik(c:Int):iy N (.mk .fence (ky c N.aa.length)):=by
 have h:=KH ok (c:=c) (z:=N.aa.length);have l:=KG ok c N.aa.length;have b6:=ok.b6;have w:=AL ok b6 (λb hb=>(h b hb).2) l
 exact⟨λb hb=>(h b hb).1,KL ok h,⟨by omega,λb hb=>by rw[(h b hb).2];omega⟩,λb hb=>Rz ok ok.b1 (h b hb).2,by show ((ky c N.aa.length).flatMap aT).length+1<=100;omega⟩
theorem acO(c:Int):iy N (jU c N.aa.length)/\pX N (jU c N.aa.length)/\sX N.aa.length (jU c N.aa.length)=true/\(d4 N (jU c N.aa.length)).length<=25:=by
 have b6:=ok.b6;unfold jU
 split
 ·have f:=Ij ok (c/7)
  refine⟨f,f.gd,f.wm,?_⟩;show (aT ((eH (c/7) N.aa.length true).map some)).length+1<=25;rw[nk,aH,pM ok];omega
 split
 ·have f:=ER ok (c/3) .room (λz=>nomatch z)
  exact⟨f,f.gd,f.wm,ahS (AL ok b6 (λb hb=>(G7 ok b hb).2) (G6 ok _ _))⟩
 ·have f:=Ik ok (c/3)
  exact⟨f,f.gd,f.wm,ahS (AL ok b6 (λb hb=>(KH ok b hb).2) (KG ok _ _))⟩
theorem Oo(c:Int)(k:Bool):iy N (.st k (iB c N.aa.length)):=by
 have b6:=ok.b6;have l:=Hn ok c N.aa.length;refine⟨λi hi=>CQ ok hi,Ho ok _ b6,by show (iB c N.aa.length).length<=1000;omega,trivial,?_⟩
 show ((iB c N.aa.length).map _).length+1<=100;rw[aH];omega
theorem MB(c:Int):iy N (.wr true (gS c N.az.length)):=by
 have l:=Hi ok c N.az.length;have w:=Hk ok c;exact⟨Hh ok c,Hj ok c _,⟨by omega,λb hb=>by have:=Hg ok c _ b hb;omega⟩,trivial,by show ((gS c N.az.length).flatMap (c8 N)).length+1<=100;omega⟩
theorem Uv(c:Int):iy N (.wr false (kD c N.az.length)):=by
 have l:=ac3 ok c N.az.length;have w:=uY ok (f:=gA N) (B:=5) (l:=kD c N.az.length) λb hb=>by
  show (iJ b.2).length+1<=5;have:=Ky b.2;have:=LO ok c _ b hb;omega
 exact⟨ac2 ok c,ac1 ok c _,⟨by omega,λb hb=>by have:=LO ok c _ b hb;omega⟩,trivial,by show ((kD c N.az.length).flatMap (gA N)).length+1<=100;omega⟩
theorem ad9{r:dA}(h:∀k bs,r=.yes k bs->bs.length<=6):(f9 N r).length<=9:=by
 cases r with
 | no=>exact(by decide:1<=9)
 | yes k bs =>
  have:=h k bs rfl
  cases k with
  | true =>
   show (fG N.aa bs).length+1<=9;rw[oE];omega
  | false =>
   show (aT (bs.map some)).length+1<=9;rw[nk,aH];omega
theorem Z8(c:Int):iy N (.kept (mU c N.aa.length)):=by
 have h:=aef ok c;have l:=aee ok c N.aa.length;have w:=uY ok (f:=f9 N) (B:=9) (l:=mU c N.aa.length) λb hb=>ad9 ok (h b hb).2.2.2
 exact⟨λr hr=>(h r hr).1,e_.mpr λr hr=>(h r hr).2.1,⟨by omega,λk bs hb=>by have:=(h _ hb).2.2.2 k bs rfl;omega⟩,λr hr=>(h r hr).2.2.1,by show ((mU c N.aa.length).flatMap (f9 N)).length+1<=100;omega⟩
theorem ae2(c:Int):iy N (.sum (eH c N.aa.length true) (fv c 7)):=by
 have l:=pM ok c N.aa.length true;have b6:=ok.b6;refine⟨⟨CG ok _ _ _,pR _ _⟩,decide_eq_true l,by show (eH c N.aa.length true).length<=1000;omega,Sl ok ok.b1 l,?_⟩
 show (aT ((eH c N.aa.length true).map some)).length+1+1<=100;rw[nk,aH];omega
theorem aaY(c r:Int):iy N (.most (gS c N.az.length) (jU r N.aa.length)):=by
 obtain⟨f,g1,g2,g3⟩:=acO ok r;have fr:=MB ok c;have w:=Hk ok c;refine⟨⟨Hh ok c,g1⟩,?_,⟨fr.ft.1,fr.ft.2,f.ft⟩,f.fl,?_⟩
 ·show (oO N.az.length (gS c N.az.length)&&sX N.aa.length (jU r N.aa.length))=true
  rw[Hj ok c _,g2];rfl
 ·show ((gS c N.az.length).flatMap (c8 N)++cW::d4 N (jU r N.aa.length)).length+1<=100
  rw[bS,bF];omega
theorem ac4(c:Int):iy N (qJ c N.aa.length N.az.length):=by
 unfold qJ;obtain⟨k,hk,ZN⟩:=mJ c (k:=11) (by decide)
 rw[hk,dz];have kk:k=0\/k=1\/k=2\/k=3\/k=4\/k=5\/k=6\/k=7\/k=8\/k=9\/k=10:=by omega
 rcases kk with rfl|rfl|rfl|rfl|rfl|rfl|rfl|rfl|rfl|rfl|rfl
 ·exact MB ok _
 ·exact Uv ok _
 ·exact Ik ok _
 ·exact ER ok _ .room (λz=>nomatch z)
 ·exact ER ok _ .wants (λz=>nomatch z)
 ·exact Ij ok _
 ·exact ae2 ok _
 ·exact Oo ok _ true
 ·exact Oo ok _ false
 ·exact Z8 ok _
 ·exact aaY ok _ _
end
def cb(H:Hp):Nat->V->V->Prop
 | 0,x,y=>x=y/\((∃i,x=.int i)\/(∃s,x=.str s)\/x=.aR)
 | n+1,x,y=>(x=y/\((∃i,x=.int i)\/(∃s,x=.str s)\/x=.aR))\/∃a b xs ys,x=.ref a/\y=.ref b/\Paired (cb H n) xs ys/\xs.length<=1000/\((H a=some (.lst xs)/\H b=some (.lst ys))\/(H a=some (.tup xs)/\H b=some (.tup ys)))
theorem cb.same{H H':Hp}(S:ae H H'):∀(n:Nat) {x y:V},cb H n x y->cb H' n x y
 | 0,_,_,h=>h
 | n+1,_,_,.inl h=>.inl h
 | n+1,_,_,.inr ⟨a,b,xs,ys,e1,e2,R,l,h⟩=>.inr ⟨a,b,xs,ys,e1,e2,Paired.eZ R λ_ _ q=>cb.same S n q,l,h.imp (λq=>⟨S _ _ q.1,S _ _ q.2⟩) (λq=>⟨S _ _ q.1,S _ _ q.2⟩)⟩
theorem all_true(n:Nat):((bJ n).map λ_=>true).all id=true:=by
 rw[Gr];exact e_.mpr λ_ _=>rfl
abbrev wS(x:String):Str:=zalias233z x
def dB(num:Int)(k:Nat):List Str:=(bJ k).map λ(j:Nat)=>bj (num+j)
def bo(w:Str)(num:Int)(k:Nat):List Str:=ba::w::dB num k++[aX]
abbrev kB:Str:=st (zalias133z 1001 49)
def j_(z:Nat)(num:Int):List (List Str) :=
 let ka:=bo (wS "7") num (z-1)
 let more:=bo (wS "7") num z
 let bb:=λw=>bo w num (z-1)
 [(wS "room")::more,[(wS "wants"),ba,aX],(wS "fall")::more,(wS "fence")::more,[(wS "sum"),(wS "2"),ba,aX],(wS "kept")::(wS "weight")::more,
   (wS "room")::bb (wS "-1"),(wS "wants")::bb (wS "*"),(wS "fence")::bb (wS "-1"),(wS "fall")::bb (wS "*"),(wS "fall")::bb (wS "-0"),(wS "room")::bb (wS "07"),(wS "fall")::bb (wS "+7"),(wS "room")::bb (wS ""),(wS "wants")::bb (wS "1_0"),(wS "sum")::(wS "1_0")::ka,
   (wS "fall")::ba::(wS "-")::(wS "1")::dB num (z-1)++[aX],
   (wS "sum")::ka,(wS "sum")::(wS "-1")::ka,(wS "sum")::(wS "2")::(wS "3")::ka,[(wS "sum"),(wS "2")],(wS "sum")::(wS "2")::(ka++ka),
   [(wS "fall")],(wS "fall")::(ka++ka),(wS "room")::ba::(wS "7")::dB num (z-1),(wS "fence<")::(wS "7")::dB num (z-1)++[aX],(wS "fence")::(ka++[aX]),
   (wS "kept")::ka,[(wS "kept"),(wS "weight")],[(wS "kept"),(wS "trap")],[(wS "kept"),(wS "trap"),c_],[(wS "kept"),(wS "none"),(wS "nine")],(wS "room")::(ka++[ay])]
def gJ(N:aq)(num:Int):List (List Str) :=
 let b:=N.aa.getD 0 ay
 let d:=N.az.getD 0 ay
 let c:=N.aa.getD 1 ay
 ([[(wS "")],[(wS ""),(wS "none")],[(wS "none"),(wS "")],[(wS "None")],[(wS "runs")],[(wS "run"),(wS "1")],[(wS "run"),c_,dm],[(wS "run"),(wS "1"),c_],[(wS "run"),(wS "1"),c_,dm,dm],[(wS "run"),(wS "-1"),c_,dm],
   [(wS "run"),(wS "01"),c_,dm],[(wS "run"),(wS ""),(wS "1"),c_,dm],[(wS "run"),(wS "1"),c_,(wS "xyzzy"),dm],[(wS "run"),(wS "by")],[(wS "run"),kB,c_,dm],
   [(wS "branch"),(wS "xyzzy")],[(wS "branch"),cp,(wS "0"),e8],[(wS "dry"),(wS "xyzzy")],[(wS "wet"),b,b],[(wS "dry"),b,(wS "")],
   [(wS "most"),(wS "by")],[(wS "most"),(wS "by"),(wS "run")],[(wS "most"),(wS "1"),c_,dm,(wS "fall")],[(wS "most"),(wS "by"),(wS "none")],[(wS "most"),(wS "1"),c_,dm],[(wS "kept"),(wS "trap"),c_,(wS "xyzzy"),dm],
   [(wS "kept"),(wS "trap"),c_,b,b,dm],[(wS "most"),bj num,(wS "by"),(wS "fence")]]:List (List Str))
 ++ (if N.az.length=0 then [] else [[(wS "branch"),d,cp,e8],[(wS "branch"),d,cp,(wS "0")],[(wS "run"),(wS "1"),d],[(wS "branch"),d,cp,(wS "-1"),e8],[(wS "branch"),d,(wS "0")]])
 ++ (if N.aa.length<=1 then [] else [[(wS "dry"),c,b],[(wS "kept"),(wS "trap"),c_,c,b,dm]])
theorem tY:(10000000000:Int)<=10^1000:=Gp (by decide:(10000000000:Int)<=10^10) (by rw[<-v_,<-v_];exact Int.ofNat_le.mpr (F_ (by decide) (by decide)))
theorem Ug(u:Str)(num:Int)(k:Nat):(zalias233z "< " ++ jn (u::dB num k)++zalias233z " >")=jn (bo u num k):=by
 unfold bo;rw[show ba::u::dB num k++[aX]=ba::(u::dB num k)++[aX] from rfl,FV _ _ (ws:=u::dB num k) (λz=>nomatch z)]
 rfl
theorem w_{a b:Str}{m n:Nat}(ha:a.length<=m)(hb:b.length<=n)(h:m+n<=100000):a.length+b.length<=sizeLine:=by
 have:=sizeLine_eq;omega
theorem rK{a b:Str}{m n:Nat}(ha:a.length<=m)(hb:b.length<=n):(a++b).length<=m+n:=by
 rw[fO];omega
theorem CK(num:Int)(k:Nat):(dB num k).length=k:=by
 unfold dB;rw[aH,g_]
theorem CL{num:Int}{k:Nat}(hk:k<=7)(n0:0<=num)(n9:num<1000000000):∀y∈dB num k,eQ y:=λy hy=>by
 obtain⟨j,hj,rfl⟩:=bR.mp hy;have:=iq.mp hj;exact kA ⟨by omega,rg (by omega:num+j<10000000000) tY⟩
theorem Ue{u:Str}{num:Int}{k:Nat}(hu:u.length<=10)(hk:k<=7)(n0:0<=num)(n9:num<1000000000):(jn (bo u num k)).length<=11000:=by
 have h:=lG (ws:=bo u num k) (B:=1001) λy hy=>by
  unfold bo at hy;rcases dH.mp hy with hy|hy
  ·rcases bE.mp hy with e|hy
   ·rw[e];exact(by decide:1<=1001)
   rcases bE.mp hy with e|hy
   ·rw[e];omega
   ·exact(CL hk n0 n9 y hy).2.1
  ·rw[dc.mp hy];exact(by decide:1<=1001)
 have e:(bo u num k).length=k+3:=by
  unfold bo;rw[bS,bF,bF,CK];rfl
 rw[e] at h;omega
theorem Vq(x:Str)(lo hi:Option Int):(iD x lo hi).length<=x.length:=by
 rw[<-qO x,CZ,oR,oR];rw[lZ,lY];omega
theorem Vt(x:Str)(a b:Nat):iD (x++st [a,b]) none (some (-2))=x:=by
 rw[<-qO (x++st [a,b]),app_list,CZ,HT.MG];have h:HT.dF (x.cps.toList++(st [a,b]).cps.toList).length (x.cps.toList++(st [a,b]).cps.toList).length (some (-2))=x.cps.toList.length:=by
  have e:(x.cps.toList++(st [a,b]).cps.toList).length=x.cps.toList.length+2:=by rw[bS];rfl
  rw[e];unfold HT.dF;simp;omega
 rw[h,Sd,Nat.sub_zero,List.take_left']
 ·exact qO x
 ·rfl
theorem lJ{p a:Str}{X:List Str}(hp:p=a++sg 32)(h:X≠[]):p++jn X=jn (a::X):=by
 rw[hp]
 cases X with
 | nil=>exact absurd rfl h
 | cons x r=>rfl
theorem Be{p a b:Str}{X:List Str}(hp:p=a++sg 32++(b++sg 32))(h:X≠[]):p++jn X=jn (a::b::X):=by
 rw[hp,show jn (a::b::X)=a++sg 32++jn (b::X) from rfl,<-lJ (a:=b) rfl h,fL]
theorem adE{p a b c:Str}{X:List Str}(hp:p=a++sg 32++(b++sg 32++(c++sg 32)))(h:X≠[]):p++jn X=jn (a::b::c::X):=by
 rw[hp,show jn (a::b::c::X)=a++sg 32++jn (b::c::X) from rfl,<-Be (a:=b) (b:=c) rfl h,fL]
theorem E6{s b:Str}{X:List Str}(hs:s=sg 32++b)(h:X≠[]):jn X++s=jn (X++[b]):=by
 rw[hs,ot (ys:=[b]) h (λz=>nomatch z),fL]
 rfl
theorem uE(u:Str)(num:Int)(k:Nat):bo u num k≠[]:=λz=>nomatch z
theorem Uc(u:Str)(num:Int)(k:Nat):jn (bo u num k)=jn (ba::u::dB num k)++st [32,62]:=by
 rw[show st [32,62]=sg 32++aX from rfl,E6 (s:=sg 32++aX) (X:=ba::u::dB num k) rfl (λz=>nomatch z)]
 rfl
theorem bx{α:Type}{a b:α}{l m:List α}(h:a=b)(h2:l=m):a::l=b::m:=by rw[h,h2]
theorem ZM(x y:Str)(R:List Str):jn ((x++sg 32++y)::R)=jn (x::y::R):=by
 cases R with
 | nil=>rfl
 | cons a r =>
  show (x++sg 32++y)++sg 32++jn (a::r)=x++sg 32++(y++sg 32++jn (a::r));simp only[fL]
theorem TM(z:Nat)(num:Int):([
  zalias233z "room " ++ jn (bo (wS "7") num z),
  zalias233z "wants < >",
  zalias233z "fall " ++ jn (bo (wS "7") num z),
  zalias233z "fence " ++ jn (bo (wS "7") num z),
  zalias233z "sum 2 < >",
  zalias233z "kept weight " ++ jn (bo (wS "7") num z),
  zalias233z "room " ++ jn (bo (wS "-1") num (z-1)),
  zalias233z "wants " ++ jn (bo (wS "*") num (z-1)),
  zalias233z "fence " ++ jn (bo (wS "-1") num (z-1)),
  zalias233z "fall " ++ jn (bo (wS "*") num (z-1)),
  zalias233z "fall " ++ jn (bo (wS "-0") num (z-1)),
  zalias233z "room " ++ jn (bo (wS "07") num (z-1)),
  zalias233z "fall " ++ jn (bo (wS "+7") num (z-1)),
  zalias233z "room " ++ jn (bo (wS "") num (z-1)),
  zalias233z "wants " ++ jn (bo (wS "1_0") num (z-1)),
  zalias233z "sum 1_0 " ++ jn (bo (wS "7") num (z-1)),
  zalias233z "fall " ++ jn (bo (wS "- 1") num (z-1)),
  zalias233z "sum " ++ jn (bo (wS "7") num (z-1)),
  zalias233z "sum -1 " ++ jn (bo (wS "7") num (z-1)),
  zalias233z "sum 2 3 " ++ jn (bo (wS "7") num (z-1)),
  zalias233z "sum 2",
  zalias233z "sum 2 " ++ jn (bo (wS "7") num (z-1))++zalias233z " " ++ jn (bo (wS "7") num (z-1)),
  zalias233z "fall",
  zalias233z "fall " ++ jn (bo (wS "7") num (z-1))++zalias233z " " ++ jn (bo (wS "7") num (z-1)),
  zalias233z "room " ++ iD (jn (bo (wS "7") num (z-1))) none (some (-2)),
  zalias233z "fence" ++ jn (bo (wS "7") num (z-1)),
  zalias233z "fence " ++ jn (bo (wS "7") num (z-1))++zalias233z " >",
  zalias233z "kept " ++ jn (bo (wS "7") num (z-1)),
  zalias233z "kept weight",
  zalias233z "kept trap",
  zalias233z "kept trap (",
  zalias233z "kept none nine",
  zalias233z "room " ++ jn (bo (wS "7") num (z-1))++zalias233z " "]:List Str)=(j_ z num).map jn:=by
 unfold j_
 try dsimp only[jc,ahx]
 have n1:=uE (wS "7") num (z-1);have n2:=uE (wS "7") num z;have r:∀{a:Str} {u:Str} {p:Str},p=a++sg 32->p++jn (bo u num (z-1))=jn (a::bo u num (z-1)):=λh=>lJ h (uE _ _ _)
 have r2:∀{a b:Str} {u:Str} {p:Str},p=a++sg 32++(b++sg 32)->p++jn (bo u num (z-1))=jn (a::b::bo u num (z-1)):=λh=>Be h (uE _ _ _)
 have VH:zalias233z "fall " ++ jn (bo (wS "- 1") num (z-1))=jn (wS "fall" :: ba::wS "-" :: wS "1" :: dB num (z-1)++[aX]):=by
  rw[lJ (p:=zalias233z "fall ") (a:=wS "fall") rfl (uE _ _ _)];exact congrArg (λy=>wS "fall" ++ sg 32++(ba++sg 32++y)) (ZM (wS "-") (wS "1") (dB num (z-1)++[aX]))
 have vv:∀{p a:Str},p=a++sg 32->p++jn (bo (wS "7") num (z-1))++zalias233z " " ++ jn (bo (wS "7") num (z-1))=jn (a::(bo (wS "7") num (z-1)++bo (wS "7") num (z-1))):=λ{p a} h=>by
  rw[lJ h n1];exact(ot (xs:=a::bo (wS "7") num (z-1)) (λz=>nomatch z) n1).symm
 have VI:zalias233z "sum 2 " ++ jn (bo (wS "7") num (z-1))++zalias233z " " ++ jn (bo (wS "7") num (z-1))=jn (wS "sum" :: wS "2" :: (bo (wS "7") num (z-1)++bo (wS "7") num (z-1))):=by
  rw[Be (p:=zalias233z "sum 2 ") (a:=wS "sum") (b:=wS "2") rfl n1];exact(ot (xs:=wS "sum" :: wS "2" :: bo (wS "7") num (z-1)) (λz=>nomatch z) n1).symm
 have VJ:zalias233z "fall " ++ jn (bo (wS "7") num (z-1))++zalias233z " " ++ jn (bo (wS "7") num (z-1))=jn (wS "fall" :: (bo (wS "7") num (z-1)++bo (wS "7") num (z-1))):=vv rfl;have VL:zalias233z "room " ++ iD (jn (bo (wS "7") num (z-1))) none (some (-2))=jn (wS "room" :: ba::wS "7" :: dB num (z-1)):=by
  rw[Uc,Vt];exact lJ rfl (λz=>nomatch z)
 have VM:zalias233z "fence" ++ jn (bo (wS "7") num (z-1))=jn (wS "fence<" :: wS "7" :: dB num (z-1)++[aX]):=by
  show wS "fence" ++ (ba++sg 32++jn (wS "7" :: dB num (z-1)++[aX]))=(wS "fence" ++ ba)++sg 32++jn (wS "7" :: dB num (z-1)++[aX]);simp only[fL]
 have VN:zalias233z "fence " ++ jn (bo (wS "7") num (z-1))++zalias233z " >" = jn (wS "fence" :: (bo (wS "7") num (z-1)++[aX])):=by
  rw[lJ (p:=zalias233z "fence ") (a:=wS "fence") rfl n1];exact E6 (X:=wS "fence" :: bo (wS "7") num (z-1)) rfl (λz=>nomatch z)
 have VO:zalias233z "room " ++ jn (bo (wS "7") num (z-1))++zalias233z " " = jn (wS "room" :: (bo (wS "7") num (z-1)++[ay])):=by
  rw[lJ (p:=zalias233z "room ") (a:=wS "room") rfl n1];exact E6 (X:=wS "room" :: bo (wS "7") num (z-1)) rfl (λz=>nomatch z)
 exact bx (lJ rfl n2) (bx (rfl) (bx (lJ rfl n2) (bx (lJ rfl n2) (bx (rfl) (bx (Be rfl n2) (bx (r rfl) (bx (r rfl) (bx (r rfl) (bx (r rfl) (bx (r rfl) (bx (r rfl) (bx (r rfl) (bx (r rfl) (bx (r rfl) (bx (r2 rfl) (bx (VH) (bx (r rfl) (bx (r2 rfl) (bx (adE rfl n1) (bx (rfl) (bx (VI) (bx (rfl) (bx (VJ) (bx (VL) (bx (VM) (bx (VN) (bx (r rfl) (bx (rfl) (bx (rfl) (bx (rfl) (bx (rfl) (bx (VO) (rfl)))))))))))))))))))))))))))))))))
theorem Lz:kB.length<=1001:=by
 rw[oR,iN];exact bH _
theorem qE{ns:List Str}{j:Nat}(h:∀y∈ns,dQ y=true)(hj:j<ns.length):dQ (ns.getD j ay)=true:=by
 rw[gF,cw hj];exact h _ (pA hj)
theorem AX{y:Str}(h:dQ y=true):y.length<=8:=by
 unfold dQ at h;rw[de,de,decide_eq_true_eq,decide_eq_true_eq] at h;exact h.1.2
theorem jP(a b:Str)(r:List Str):jn (a::b::r)=a++(sg 32++jn (b::r)):=by
 rw[<-fL];rfl
theorem jD(x:Str):x++wS "" = x:=Qu (by rw[app_list];exact eY _)
section
variable{X:Cx}
def adW:R2:=λx y H Q=>x=.str (wS "1")/\y=.int 1001/\Q (.str kB) H
theorem acM:cY X (binaryOp .Mult) adW:=by
 intro pins s σ H x y v u Q I rx ry h;obtain⟨rfl,rfl,q⟩:=h;obtain⟨t,rfl⟩:=rx;obtain⟨t',rfl⟩:=ry;refine SB.mul ⟨by decide,λh1 _=>by decide,λ_ _=>by decide⟩ λt'' k=>?_
 rw[show wS "1" = ⟨#[49]⟩ from rfl,mul_one (by decide)]
 exact⟨.str _,H,I.tok _,⟨_,rfl⟩,q⟩
end
theorem xg(num:Int)(b c d:Str):([zalias233z "",zalias233z " none",zalias233z "none ",zalias233z "None",zalias233z "runs",zalias233z "run 1",zalias233z "run ( )",zalias233z "run 1 (",zalias233z "run 1 ( ) )",zalias233z "run -1 ( )",zalias233z "run 01 ( )",zalias233z "run  1 ( )",zalias233z "run 1 ( xyzzy )",zalias233z "run by",zalias233z "run " ++ kB++zalias233z " ( )",zalias233z "branch xyzzy",zalias233z "branch [ 0 ]",zalias233z "dry xyzzy",zalias233z "wet " ++ b++zalias233z " " ++ b,zalias233z "dry " ++ b++zalias233z " ",zalias233z "most by",zalias233z "most by run",zalias233z "most 1 ( ) fall",zalias233z "most by none",zalias233z "most 1 ( )",zalias233z "kept trap ( xyzzy )",zalias233z "kept trap ( " ++ b++zalias233z " " ++ b++zalias233z " )",zalias233z "most " ++ bj num++zalias233z " by fence"]:List Str)=([[wS ""],[wS "",wS "none"],[wS "none",wS ""],[wS "None"],[wS "runs"],[wS "run",wS "1"],[wS "run",wS "(",wS ")"],[wS "run",wS "1",wS "("],[wS "run",wS "1",wS "(",wS ")",wS ")"],[wS "run",wS "-1",wS "(",wS ")"],[wS "run",wS "01",wS "(",wS ")"],[wS "run",wS "",wS "1",wS "(",wS ")"],[wS "run",wS "1",wS "(",wS "xyzzy",wS ")"],[wS "run",wS "by"],[wS "run",kB,wS "(",wS ")"],[wS "branch",wS "xyzzy"],[wS "branch",wS "[",wS "0",wS "]"],[wS "dry",wS "xyzzy"],[wS "wet",b,b],[wS "dry",b,wS ""],[wS "most",wS "by"],[wS "most",wS "by",wS "run"],[wS "most",wS "1",wS "(",wS ")",wS "fall"],[wS "most",wS "by",wS "none"],[wS "most",wS "1",wS "(",wS ")"],[wS "kept",wS "trap",wS "(",wS "xyzzy",wS ")"],[wS "kept",wS "trap",wS "(",b,b,wS ")"],[wS "most",bj num,wS "by",wS "fence"]]:List (List Str)).map jn:=by
 exact bx (rfl) (bx (rfl) (bx (rfl) (bx (rfl) (bx (rfl) (bx (rfl) (bx (rfl) (bx (rfl) (bx (rfl) (bx (rfl) (bx (rfl) (bx (rfl) (bx (rfl) (bx (rfl) (bx (by rw[show zalias233z "run " = wS "run" ++ (sg 32) from rfl,show zalias233z " ( )" = sg 32++(wS "(" ++ (sg 32++(wS ")"))) from rfl];simp only[jP,ju,fL,jD]) (bx (rfl) (bx (rfl) (bx (rfl) (bx (by rw[show zalias233z "wet " = wS "wet" ++ (sg 32) from rfl,show zalias233z " " = sg 32 from rfl];simp only[jP,ju,fL,jD]) (bx (by rw[show zalias233z "dry " = wS "dry" ++ (sg 32) from rfl,show zalias233z " " = sg 32 from rfl];simp only[jP,ju,fL,jD]) (bx (rfl) (bx (rfl) (bx (rfl) (bx (rfl) (bx (rfl) (bx (rfl) (bx (by rw[show zalias233z "kept trap ( " = wS "kept" ++ (sg 32++(wS "trap" ++ (sg 32++(wS "(" ++ (sg 32))))) from rfl,show zalias233z " " = sg 32 from rfl,show zalias233z " )" = sg 32++(wS ")") from rfl];simp only[jP,ju,fL,jD]) (bx (by rw[show zalias233z "most " = wS "most" ++ (sg 32) from rfl,show zalias233z " by fence" = sg 32++(wS "by" ++ (sg 32++(wS "fence"))) from rfl];simp only[jP,ju,fL,jD]) (rfl))))))))))))))))))))))))))))
theorem GZ(num:Int)(b c d:Str):([zalias233z "branch " ++ d++zalias233z " [ ]",zalias233z "branch " ++ d++zalias233z " [ 0",zalias233z "run 1 " ++ d,zalias233z "branch " ++ d++zalias233z " [ -1 ]",zalias233z "branch " ++ d++zalias233z " 0"]:List Str)=([[wS "branch",d,wS "[",wS "]"],[wS "branch",d,wS "[",wS "0"],[wS "run",wS "1",d],[wS "branch",d,wS "[",wS "-1",wS "]"],[wS "branch",d,wS "0"]]:List (List Str)).map jn:=by
 exact bx (by rw[show zalias233z "branch " = wS "branch" ++ (sg 32) from rfl,show zalias233z " [ ]" = sg 32++(wS "[" ++ (sg 32++(wS "]"))) from rfl];simp only[jP,ju,fL,jD]) (bx (by rw[show zalias233z "branch " = wS "branch" ++ (sg 32) from rfl,show zalias233z " [ 0" = sg 32++(wS "[" ++ (sg 32++(wS "0"))) from rfl];simp only[jP,ju,fL,jD]) (bx (by rw[show zalias233z "run 1 " = wS "run" ++ (sg 32++(wS "1" ++ (sg 32))) from rfl];simp only[jP,ju,fL,jD]) (bx (by rw[show zalias233z "branch " = wS "branch" ++ (sg 32) from rfl,show zalias233z " [ -1 ]" = sg 32++(wS "[" ++ (sg 32++(wS "-1" ++ (sg 32++(wS "]"))))) from rfl];simp only[jP,ju,fL,jD]) (bx (by rw[show zalias233z "branch " = wS "branch" ++ (sg 32) from rfl,show zalias233z " 0" = sg 32++(wS "0") from rfl];simp only[jP,ju,fL,jD]) (rfl)))))
theorem GY(num:Int)(b c d:Str):([zalias233z "dry " ++ c++zalias233z " " ++ b,zalias233z "kept trap ( " ++ c++zalias233z " " ++ b++zalias233z " )"]:List Str)=([[wS "dry",c,b],[wS "kept",wS "trap",wS "(",c,b,wS ")"]]:List (List Str)).map jn:=by
 exact bx (by rw[show zalias233z "dry " = wS "dry" ++ (sg 32) from rfl,show zalias233z " " = sg 32 from rfl];simp only[jP,ju,fL,jD]) (bx (by rw[show zalias233z "kept trap ( " = wS "kept" ++ (sg 32++(wS "trap" ++ (sg 32++(wS "(" ++ (sg 32))))) from rfl,show zalias233z " " = sg 32 from rfl,show zalias233z " )" = sg 32++(wS ")") from rfl];simp only[jP,ju,fL,jD]) (rfl))
theorem TN{N:aq}{num:Int}(h1:N.az.length=0)(h2:N.aa.length<=1):([zalias233z "",zalias233z " none",zalias233z "none ",zalias233z "None",zalias233z "runs",zalias233z "run 1",zalias233z "run ( )",zalias233z "run 1 (",zalias233z "run 1 ( ) )",zalias233z "run -1 ( )",zalias233z "run 01 ( )",zalias233z "run  1 ( )",zalias233z "run 1 ( xyzzy )",zalias233z "run by",zalias233z "run " ++ kB++zalias233z " ( )",zalias233z "branch xyzzy",zalias233z "branch [ 0 ]",zalias233z "dry xyzzy",zalias233z "wet " ++ N.aa.getD 0 ay++zalias233z " " ++ N.aa.getD 0 ay,zalias233z "dry " ++ N.aa.getD 0 ay++zalias233z " ",zalias233z "most by",zalias233z "most by run",zalias233z "most 1 ( ) fall",zalias233z "most by none",zalias233z "most 1 ( )",zalias233z "kept trap ( xyzzy )",zalias233z "kept trap ( " ++ N.aa.getD 0 ay++zalias233z " " ++ N.aa.getD 0 ay++zalias233z " )",zalias233z "most " ++ bj num++zalias233z " by fence"]:List Str)=(gJ N num).map jn:=by
 unfold gJ
 try dsimp only
 rw[if_pos (by omega),if_pos (by omega),dX,dX,<-xg num _ (N.aa.getD 1 ay) (N.az.getD 0 ay)]
 rfl
theorem TQ{N:aq}{num:Int}(h1:N.az.length=0)(h2:1<N.aa.length):([zalias233z "",zalias233z " none",zalias233z "none ",zalias233z "None",zalias233z "runs",zalias233z "run 1",zalias233z "run ( )",zalias233z "run 1 (",zalias233z "run 1 ( ) )",zalias233z "run -1 ( )",zalias233z "run 01 ( )",zalias233z "run  1 ( )",zalias233z "run 1 ( xyzzy )",zalias233z "run by",zalias233z "run " ++ kB++zalias233z " ( )",zalias233z "branch xyzzy",zalias233z "branch [ 0 ]",zalias233z "dry xyzzy",zalias233z "wet " ++ N.aa.getD 0 ay++zalias233z " " ++ N.aa.getD 0 ay,zalias233z "dry " ++ N.aa.getD 0 ay++zalias233z " ",zalias233z "most by",zalias233z "most by run",zalias233z "most 1 ( ) fall",zalias233z "most by none",zalias233z "most 1 ( )",zalias233z "kept trap ( xyzzy )",zalias233z "kept trap ( " ++ N.aa.getD 0 ay++zalias233z " " ++ N.aa.getD 0 ay++zalias233z " )",zalias233z "most " ++ bj num++zalias233z " by fence",zalias233z "dry " ++ N.aa.getD 1 ay++zalias233z " " ++ N.aa.getD 0 ay,zalias233z "kept trap ( " ++ N.aa.getD 1 ay++zalias233z " " ++ N.aa.getD 0 ay++zalias233z " )"]:List Str)=(gJ N num).map jn:=by
 unfold gJ
 try dsimp only
 rw[if_pos (by omega),if_neg (by omega),dX,dX,<-GY num _ _ (N.az.getD 0 ay),<-xg num _ (N.aa.getD 1 ay) (N.az.getD 0 ay)]
 rfl
theorem TR{N:aq}{num:Int}(h1:0<N.az.length)(h2:N.aa.length<=1):([zalias233z "",zalias233z " none",zalias233z "none ",zalias233z "None",zalias233z "runs",zalias233z "run 1",zalias233z "run ( )",zalias233z "run 1 (",zalias233z "run 1 ( ) )",zalias233z "run -1 ( )",zalias233z "run 01 ( )",zalias233z "run  1 ( )",zalias233z "run 1 ( xyzzy )",zalias233z "run by",zalias233z "run " ++ kB++zalias233z " ( )",zalias233z "branch xyzzy",zalias233z "branch [ 0 ]",zalias233z "dry xyzzy",zalias233z "wet " ++ N.aa.getD 0 ay++zalias233z " " ++ N.aa.getD 0 ay,zalias233z "dry " ++ N.aa.getD 0 ay++zalias233z " ",zalias233z "most by",zalias233z "most by run",zalias233z "most 1 ( ) fall",zalias233z "most by none",zalias233z "most 1 ( )",zalias233z "kept trap ( xyzzy )",zalias233z "kept trap ( " ++ N.aa.getD 0 ay++zalias233z " " ++ N.aa.getD 0 ay++zalias233z " )",zalias233z "most " ++ bj num++zalias233z " by fence",zalias233z "branch " ++ N.az.getD 0 ay++zalias233z " [ ]",zalias233z "branch " ++ N.az.getD 0 ay++zalias233z " [ 0",zalias233z "run 1 " ++ N.az.getD 0 ay,zalias233z "branch " ++ N.az.getD 0 ay++zalias233z " [ -1 ]",zalias233z "branch " ++ N.az.getD 0 ay++zalias233z " 0"]:List Str)=(gJ N num).map jn:=by
 unfold gJ
 try dsimp only
 rw[if_neg (by omega),if_pos (by omega),dX,dX,<-GZ num (N.aa.getD 0 ay) (N.aa.getD 1 ay) _,<-xg num _ (N.aa.getD 1 ay) (N.az.getD 0 ay)]
 rfl
theorem TU{N:aq}{num:Int}(h1:0<N.az.length)(h2:1<N.aa.length):([zalias233z "",zalias233z " none",zalias233z "none ",zalias233z "None",zalias233z "runs",zalias233z "run 1",zalias233z "run ( )",zalias233z "run 1 (",zalias233z "run 1 ( ) )",zalias233z "run -1 ( )",zalias233z "run 01 ( )",zalias233z "run  1 ( )",zalias233z "run 1 ( xyzzy )",zalias233z "run by",zalias233z "run " ++ kB++zalias233z " ( )",zalias233z "branch xyzzy",zalias233z "branch [ 0 ]",zalias233z "dry xyzzy",zalias233z "wet " ++ N.aa.getD 0 ay++zalias233z " " ++ N.aa.getD 0 ay,zalias233z "dry " ++ N.aa.getD 0 ay++zalias233z " ",zalias233z "most by",zalias233z "most by run",zalias233z "most 1 ( ) fall",zalias233z "most by none",zalias233z "most 1 ( )",zalias233z "kept trap ( xyzzy )",zalias233z "kept trap ( " ++ N.aa.getD 0 ay++zalias233z " " ++ N.aa.getD 0 ay++zalias233z " )",zalias233z "most " ++ bj num++zalias233z " by fence",zalias233z "branch " ++ N.az.getD 0 ay++zalias233z " [ ]",zalias233z "branch " ++ N.az.getD 0 ay++zalias233z " [ 0",zalias233z "run 1 " ++ N.az.getD 0 ay,zalias233z "branch " ++ N.az.getD 0 ay++zalias233z " [ -1 ]",zalias233z "branch " ++ N.az.getD 0 ay++zalias233z " 0",zalias233z "dry " ++ N.aa.getD 1 ay++zalias233z " " ++ N.aa.getD 0 ay,zalias233z "kept trap ( " ++ N.aa.getD 1 ay++zalias233z " " ++ N.aa.getD 0 ay++zalias233z " )"]:List Str)=(gJ N num).map jn:=by
 unfold gJ
 try dsimp only
 rw[if_neg (by omega),if_neg (by omega),dX,dX,<-GZ num (N.aa.getD 0 ay) (N.aa.getD 1 ay) _,<-GY num _ _ (N.az.getD 0 ay),<-xg num _ (N.aa.getD 1 ay) (N.az.getD 0 ay)]
 rfl
section
variable{N:aq}
theorem e7{ws:List Str}(h:dE N ws=none):cN N ws=none:=by
 unfold cN;rw[h]
theorem ED{ws r:List Str}{x:Str}{P:Option aY}(h:dE N ws=some (P,x::r)):cN N ws=none:=by
 unfold cN;rw[h]
 cases P<;>rfl
theorem tN(ok:N.Ok){P:aY}(h:jJ N P)(hw:lT N.aa.length N.az.length P=false):cN N (d4 N P)=none:=by
 unfold cN;rw[LS ok h]
 try dsimp only
 rw[hw];rfl
theorem mS{ws:List Str}{P:aY}(h:dE N ws=some (some P,[]))(hw:lT N.aa.length N.az.length P=false):cN N ws=none:=by
 unfold cN;rw[h]
 try dsimp only
 rw[hw];rfl
theorem HX{k:EK}{w:Str}{r:List Str}(h:tI N k (w::r)=none):∀n,fW N k n (w::r)=none
 | 0=>rfl
 | n+1=>by
  unfold fW;rw[h]
theorem r0{k:EK}{w:Str}{r:List Str}(h:tI N k (w::r)=none):bC N k (w::r)=none:=HX h _
theorem Ib{k:EK}{w w2:Str}{r r2:List Str}{i:Itm}(h:tI N k (w::r)=some (i,w2::r2))(h2:tI N k (w2::r2)=none):bC N k (w::r)=none:=by
 unfold bC;rw[bF];unfold fW;rw[h]
 try dsimp only
 rw[HX h2];rfl
theorem kb{b e w:Str}{k:TK}{R:List Str}(h:tW N k w=none)(hw:w≠e):aU N b e k (b::w::R)=none:=by
 show (if b=b then cR N e k (w::R) else none)=none
 rw[if_pos rfl];unfold cR;rw[if_neg hw,h]
theorem uH{b e w:Str}{k:TK}{R:List Str}(h:w≠b):aU N b e k (w::R)=none:=if_neg h
theorem Hw{e:Str}{k:TK}:∀{l:List Str},e∉l->cR N e k l=none
 | [],_=>rfl
 | w::r,h=>by
  unfold cR;rw[if_neg (λz=>h (by rw[z];exact cB ..)),Hw (λz=>h (cP _ z))]
  cases tW N k w<;>rfl
def eT(num:Int)(k:Nat):List Int:=7::(bJ k).map λ(j:Nat)=>num+j
theorem G4(num:Int)(k:Nat):bo (wS "7") num k=aT ((eT num k).map some):=by
 unfold bo aT eT dB;rw[jc,jc,ek,ek];rfl
theorem G3{num:Int}{k:Nat}(hk:k<=7)(n0:0<=num)(n9:num<1000000000):∀x∈eT num k,fS x:=λx hx=>by
 have tb:=tY;rcases bE.mp hx with e|hx
 ·rw[e]
  exact⟨by decide,rg (by decide:(7:Int)<10000000000) tb⟩
 ·obtain⟨j,hj,rfl⟩:=bR.mp hx
  have:=iq.mp hj;exact⟨by omega,rg (by omega:num+(j:Int)<10000000000) tb⟩
theorem CJ(num:Int)(k:Nat):(eT num k).length=k+1:=by
 unfold eT;rw[bF,aH,g_]
theorem xm{l:List Int}(h:∀x∈l,fS x):fg (l.map some)/\none∉l.map some:=by
 constructor
 ·intro n hn
  obtain⟨y,hy,e⟩:=bR.mp hn
  cases e;exact h _ hy
 ·intro hn
  obtain⟨y,_,e⟩:=bR.mp hn
  cases e
theorem CN(ok:N.Ok){l:List Int}(h:∀x∈l,fS x):kn l:=λx hx=>CM ok (h x hx)
theorem Ep(ok:N.Ok){k:wX}{m:Mark}(h:fg m/\none∉m)(hl:m.length≠N.aa.length):cN N (vJ k::aT m)=none:=by
 have e:d4 N (.mk k [m])=vJ k::aT m:=by
  show vJ k::(aT m++[])=_;rw[eY]
 rw[<-e];have hb:jR N.aa.length m=false:=by
  unfold jR;rw[decide_eq_false hl];rfl
 refine tN ok ?_ ?_
 ·cases k with
  | fence=>exact λb hb=>by rw[dc.mp hb];exact h.1
  | room=>exact λb hb=>by rw[dc.mp hb];exact h
  | wants=>exact λb hb=>by rw[dc.mp hb];exact h
 ·cases k with
  | fence=>show ([m].all (jR N.aa.length))=false;rw[wM,hb];rfl
  | room=>show (([m].all (jR N.aa.length))&&_)=false;rw[wM,hb];rfl
  | wants=>show (([m].all (jR N.aa.length))&&_)=false;rw[wM,hb];rfl
theorem E7{R:List Str}(h:aU N ba aX .cnt R=none):tI N .eA R=none:=by
 show (aU N ba aX .cnt R).map _=none;rw[h];rfl
theorem QF{R:List Str}(h:aU N ba aX .eW R=none):tI N .mark R=none:=by
 show (aU N ba aX .eW R).map _=none;rw[h];rfl
theorem A9{w:Str}{r:List Str}(h:aU N ba aX .cnt (w::r)=none):cN N (wS "room" :: w::r)=none:=e7 (by
 show (bC N .eA (w::r)).map _=none;rw[r0 (E7 h)];rfl)
theorem LM{w:Str}{r:List Str}(h:aU N ba aX .cnt (w::r)=none):cN N (wS "wants" :: w::r)=none:=e7 (by
 show (bC N .eA (w::r)).map _=none;rw[r0 (E7 h)];rfl)
theorem acT{w:Str}{r:List Str}(h:aU N ba aX .eW (w::r)=none):cN N (wS "fence" :: w::r)=none:=e7 (by
 show (bC N .mark (w::r)).map _=none;rw[r0 (QF h)];rfl)
theorem vZ{r:List Str}(h:aU N ba aX .num r=none):cN N (wS "fall" :: r)=none:=e7 (by
 show (aU N ba aX .num r).map _=none;rw[h];rfl)
theorem Ez{w:Str}{r:List Str}(h:bZ w=none):cN N (wS "sum" :: w::r)=none:=e7 (by
 show (match bZ w with
  | none=>none
  | some n=>(aU N ba aX .num r).map λx=>(some (aY.sum (bU x.1) (n:Int)),x.2))=none
 rw[h])
theorem LL{w:Str}{r:List Str}(h:aU N ba aX .num r=none):cN N (wS "sum" :: w::r)=none:=e7 (by
 show (match bZ w with
  | none=>none
  | some n=>(aU N ba aX .num r).map λx=>(some (aY.sum (bU x.1) (n:Int)),x.2))=none
 rw[h]
 cases bZ w<;>rfl)
theorem A8{w:Str}{r:List Str}(h:fM N (w::r)=none):cN N (wS "kept" :: w::r)=none:=e7 (by
 have h2:tI N .gP (w::r)=none:=by
  show (fM N (w::r)).map _=none;rw[h];rfl
 show (bC N .gP (w::r)).map _=none;rw[r0 h2];rfl)
theorem mQ{w:Str}{r:List Str}(h:dw N (w::r)=none):cN N (wS "run" :: w::r)=none:=e7 (by
 have h2:tI N .fe (w::r)=none:=by
  show (dw N (w::r)).map _=none;rw[h];rfl
 show (bC N .fe (w::r)).map _=none;rw[r0 h2];rfl)
theorem cnt_none{w:Str}(h:bZ w=none):tW N .cnt w=none:=by
 show (bZ w).map _=none;rw[h];rfl
theorem AV{w:Str}(h:gz w=none):tW N .num w=none:=by
 show (gz w).map some=none;rw[h];rfl
theorem aaX{w:Str}(h0:w≠oP)(h:bZ w=none):tW N .eW w=none:=by
 show (if w=oP then some none else (bZ w).map _)=none
 rw[if_neg h0,h];rfl
theorem xj(ok:N.Ok){l:List Int}(h:∀x∈l,fS x)(R:List Str):aU N ba aX .cnt (aT (l.map some)++R)=some (l.map some,R)/\aU N ba aX .num (aT (l.map some)++R)=some (l.map some,R)/\aU N ba aX .eW (aT (l.map some)++R)=some (l.map some,R) :=
 ⟨xr (xm h).1 (xm h).2 R,uI (CN ok h) R,CT (xm h).1 R⟩
theorem abt{num:Int}{k:Nat}:aX∉wS "7" :: dB num k:=λh=>by
 rcases bE.mp h with e|h
 ·exact absurd e (by decide)
 ·obtain⟨j,_,e⟩:=bR.mp h
  exact oG (num+j) (s:=aX) (c:=62) rfl (by decide) (by decide) e
theorem TH(ok:N.Ok){num:Int}(n0:0<=num)(n9:num<1000000000):∀ws∈j_ N.aa.length num,cN N ws=none:=by
 have b1:=ok.b1;have b6:=ok.b6;have g1:=G3 (k:=N.aa.length-1) (by omega) n0 n9
 have g2:=G3 (k:=N.aa.length) (by omega) n0 n9
 have m2:=xm g2;have l2:((eT num N.aa.length).map some).length≠N.aa.length:=by rw[aH,CJ];omega
 have e0:fg []/\none∉([]:Mark):=⟨λn hn=>(nomatch hn),λhn=>nomatch hn⟩
 have z0:([]:Mark).length≠N.aa.length:=by show 0≠_;omega
 unfold j_;rw[G4,G4];intro ws h
 try dsimp only at h
 simp only[bE,qV,or_false] at h;rcases h with rfl|rfl|rfl|rfl|rfl|rfl|rfl|rfl|rfl|rfl|rfl|rfl|rfl|rfl|rfl|rfl|rfl|rfl|rfl|rfl|rfl|rfl|rfl|rfl|rfl|rfl|rfl|rfl|rfl|rfl|rfl|rfl|rfl
 ·exact Ep ok (k:=.room) m2 l2
 ·exact Ep ok (k:=.wants) e0 z0
 ·refine tN ok (P:=.b3 (eT num N.aa.length)) (CN ok g2) (decide_eq_false ?_)
  rw[CJ];omega
 ·exact Ep ok (k:=.fence) m2 l2
 ·refine tN ok (P:=.sum [] 2) ⟨λx hx=>(nomatch hx),⟨by decide,rg (by decide:(2:Int)<10000000000) tY⟩⟩ (decide_eq_false ?_)
  show ¬ 0=_;omega
 ·have e:d4 N (.kept [.yes false (eT num N.aa.length)])=wS "kept" :: wS "weight" :: aT ((eT num N.aa.length).map some):=by
   show wS "kept" :: ((wS "weight" :: aT _)++[])=_;rw[eY]
  rw[<-e];refine tN ok (λr hr=>by rw[dc.mp hr];exact CN ok g2) ?_
  show ([dA.yes false (eT num N.aa.length)].all (oN N.aa.length))=false;rw[wM,show oN N.aa.length (.yes false (eT num N.aa.length))=false from decide_eq_false (by rw[CJ];omega)]
  rfl
 ·exact A9 (kb (cnt_none (by decide +kernel)) (by decide))
 ·exact LM (kb (cnt_none (by decide +kernel)) (by decide))
 ·exact acT (kb (aaX (by decide) (by decide +kernel)) (by decide))
 ·exact vZ (kb (AV (by decide +kernel)) (by decide))
 ·exact vZ (kb (AV (by decide +kernel)) (by decide))
 ·exact A9 (kb (cnt_none (by decide +kernel)) (by decide))
 ·exact vZ (kb (AV (by decide +kernel)) (by decide))
 ·exact A9 (kb (cnt_none (by decide +kernel)) (by decide))
 ·exact LM (kb (cnt_none (by decide +kernel)) (by decide))
 ·exact Ez (by decide +kernel)
 ·exact vZ (kb (AV (by decide +kernel)) (by decide))
 ·exact Ez (by decide +kernel)
 ·exact Ez (by decide +kernel)
 ·exact LL (uH (by decide))
 ·exact LL rfl
 ·refine ED (P:=some (.sum (bU ((eT num (N.aa.length-1)).map some)) 2)) (x:=ba) (r:=((eT num (N.aa.length-1)).map some).map fh++[aX]) ?_
  show (match bZ (wS "2") with
   | none=>none
   | some n=>(aU N ba aX .num (aT ((eT num (N.aa.length-1)).map some)++aT ((eT num (N.aa.length-1)).map some))).map λ(x:Mark×List Str)=>(some (aY.sum (bU x.1) (n:Int)),x.2))=_
  rw[show bZ (wS "2")=some 2 from by decide +kernel,(xj ok g1 _).2.1]
  rfl
 ·exact vZ rfl
 ·refine ED (P:=some (.b3 (bU ((eT num (N.aa.length-1)).map some)))) (x:=ba) (r:=((eT num (N.aa.length-1)).map some).map fh++[aX]) ?_
  show (aU N ba aX .num (aT ((eT num (N.aa.length-1)).map some)++aT ((eT num (N.aa.length-1)).map some))).map _=_;rw[(xj ok g1 _).2.1];rfl
 ·refine A9 ?_
  show (if ba=ba then cR N aX .cnt (wS "7" :: dB num (N.aa.length-1)) else none)=none
  rw[if_pos rfl];exact Hw abt
 ·exact e7 rfl
 ·refine e7 ?_
  show (bC N .mark (ba::((((eT num (N.aa.length-1)).map some).map fh++[aX])++[aX]))).map _=none;rw[Ib (w2:=aX) (r2:=[]) (i:=.mk ((eT num (N.aa.length-1)).map some)) ?_ (QF (uH (by decide)))]
  ·rfl
  ·show (aU N ba aX .eW (aT ((eT num (N.aa.length-1)).map some)++[aX])).map _=_
   rw[(xj ok g1 _).2.2];rfl
 ·exact A8 (w:=ba) rfl
 ·exact A8 rfl
 ·exact A8 rfl
 ·exact A8 rfl
 ·exact e7 rfl
 ·refine e7 ?_
  show (bC N .eA (ba::((((eT num (N.aa.length-1)).map some).map fh++[aX])++[ay]))).map _=none;rw[Ib (w2:=ay) (r2:=[]) (i:=.mk ((eT num (N.aa.length-1)).map some)) ?_ (E7 (uH (by decide)))]
  ·rfl
  ·show (aU N ba aX .cnt (aT ((eT num (N.aa.length-1)).map some)++[ay])).map _=_
   rw[(xj ok g1 _).1];rfl
theorem rN{w:Str}{r:List Str}(h:bZ w=none):dw N (w::r)=none:=by
 show (match bZ w with
  | none=>none
  | some n=>(aU N c_ dm .door r).map λ(x:Mark×List Str)=>(((n:Int),bU x.1),x.2))=none
 rw[h]
theorem xn{w:Str}{r:List Str}(h:aU N c_ dm .door r=none):dw N (w::r)=none:=by
 show (match bZ w with
  | none=>none
  | some n=>(aU N c_ dm .door r).map λ(x:Mark×List Str)=>(((n:Int),bU x.1),x.2))=none
 rw[h]
 cases bZ w<;>rfl
theorem aa2{R:List Str}(h:R.head?≠some cW)(h2:dw N R=none):∀n,cS N n R=none:=λn=>by
 unfold cS;rw[if_neg h,h2]
theorem acU{R:List Str}(h:cS N R.length R=none):cN N (wS "most" :: R)=none:=e7 (by
 show (match cS N R.length R with
  | none=>none
  | some x=>(ie N x.2).map λ(y:aY×List Str)=>(some (aY.most x.1 y.1),y.2))=none
 rw[h])
theorem Ey{w:Str}{r:List Str}(h:fz N (w::r)=none):cN N (wS "branch" :: w::r)=none:=e7 (by
 have h2:tI N .pair (w::r)=none:=by
  show (fz N (w::r)).map _=none;rw[h];rfl
 show (bC N .pair (w::r)).map _=none;rw[r0 h2];rfl)
theorem LN{w:Str}{r:List Str}(h:aU N cp e8 .cnt (cp::r)=none):fz N (w::cp::r)=none:=by
 show (if (cp::r).head?=some cp then (match aU N cp e8 .cnt (cp::r) with
   | none=>none
   | some x=>if x.1=[] then none else some ((bL N.az w,bU x.1),x.2))
  else some ((bL N.az w,[]),cp::r))=none
 rw[if_pos (show (cp::r).head?=some cp from rfl),h]
theorem Bd{ys:List Str}{y:Str}:bL ys y = -1↔y∉ys:=by
 unfold bL
 split
 ·rename_i h
  exact⟨λz=>by omega,λz=>absurd h z⟩
 ·rename_i h
  exact⟨λ_=>h,λ_=>rfl⟩
theorem K0{ns:List Str}(hn:∀y∈ns,dQ y=true){s:Str}{c:Nat}(hs:s.cps.toList.head?=some c)(hc:c<97):bL ns s = -1:=Bd.mpr λh=>vL (hn s h) hs hc rfl
theorem abf{ns:List Str}(hn:∀y∈ns,dQ y=true):bL ns (wS "") = -1:=Bd.mpr λh=>by
 have:=hn _ h
 revert this
 decide
theorem TX(ok:N.Ok)(x1:lS∉N.aa)(x2:lS∉N.az){num:Int}(n0:0<=num)(n9:num<1000000000):∀ws∈gJ N num,cN N ws=none:=by
 have b1:=ok.b1;have pb:bL N.aa (wS "xyzzy") = -1:=Bd.mpr x1;have pd:bL N.az (wS "xyzzy") = -1:=Bd.mpr x2;have bi:gw N.aa 0:=⟨by decide,by omega⟩
 have p0:bL N.aa (N.aa.getD 0 ay)=0:=oK ok.bd bi;intro ws h;unfold gJ at h
 try dsimp only at h
 rcases dH.mp h with h|h
 ·rcases dH.mp h with h|h
  ·simp only[bE,qV,or_false] at h
   rcases h with rfl|rfl|rfl|rfl|rfl|rfl|rfl|rfl|rfl|rfl|rfl|rfl|rfl|rfl|rfl|rfl|rfl|rfl|rfl|rfl|rfl|rfl|rfl|rfl|rfl|rfl|rfl|rfl
   ·exact e7 rfl
   ·exact e7 rfl
   ·exact ED rfl
   ·exact e7 rfl
   ·exact e7 rfl
   ·exact mQ (xn rfl)
   ·exact mQ (rN (by decide +kernel))
   ·exact mQ (xn rfl)
   ·exact e7 rfl
   ·exact mQ (rN (by decide +kernel))
   ·exact mQ (rN (by decide +kernel))
   ·exact mQ (rN (by decide +kernel))
   ·refine mS (P:=.wr true [(1,[bL N.az (wS "xyzzy")])]) rfl ?_
    rw[pd];rfl
   ·exact mQ (rN (by decide +kernel))
   ·exact mQ (rN (by decide +kernel))
   ·refine mS (P:=.wr false [(bL N.az (wS "xyzzy"),[])]) rfl ?_
    rw[pd];rfl
   ·refine mS (P:=.wr false [(bL N.az cp,[]),(bL N.az (wS "0"),[]),(bL N.az e8,[])]) rfl ?_
    rw[K0 ok.dn (s:=cp) (c:=91) rfl (by decide)]
    rfl
   ·refine mS (P:=.st true [bL N.aa (wS "xyzzy")]) rfl ?_
    rw[pb];rfl
   ·refine mS (P:=.st false [bL N.aa (N.aa.getD 0 ay),bL N.aa (N.aa.getD 0 ay)]) rfl ?_
    rw[p0];show ((_:Bool)&&decide (([0,0]:List Int)=gB [0,0]))=false;rw[show decide (([0,0]:List Int)=gB [0,0])=false from by decide,wI]
   ·refine mS (P:=.st true [bL N.aa (N.aa.getD 0 ay),bL N.aa (wS "")]) rfl ?_
    rw[abf ok.bn,p0];show ((_:Bool)&&decide (([0,-1]:List Int)=gB [0,-1]))=false;rw[show decide (([0,-1]:List Int)=gB [0,-1])=false from by decide,wI]
   ·exact e7 rfl
   ·exact e7 rfl
   ·exact e7 rfl
   ·exact e7 rfl
   ·exact e7 rfl
   ·refine mS (P:=.kept [.yes true [bL N.aa (wS "xyzzy")]]) rfl ?_
    rw[pb];rfl
   ·refine tN ok (P:=.kept [.yes true [0,0]]) (λr hr=>by
     rw[dc.mp hr];exact λi hi=>by
      have e:i=0:=by simpa using hi
      rw[e];exact bi) ?_
    show (mW N.aa.length [0,0]&&true)=false;rw[ahL];show ((_:Bool)&&decide (([0,0]:List Int)=gB [0,0]))=false;rw[show decide (([0,0]:List Int)=gB [0,0])=false from by decide,wI]
   ·refine acU (aa2 (λz=>?_) (xn (uH (by decide))) _)
    exact oG num (s:=cW) (c:=98) rfl (by decide) (by decide) (a6 z)
  ·by_cases d0:N.az.length=0
   ·rw[if_pos d0] at h
    cases h
   rw[if_neg d0] at h;have di:gw N.az 0:=⟨by decide,by omega⟩
   have q0:bL N.az (N.az.getD 0 ay)=0:=oK ok.dd di;have dn:dQ (N.az.getD 0 ay)=true:=uS ok di;simp only[bE,qV,or_false] at h;rcases h with rfl|rfl|rfl|rfl|rfl
   ·refine Ey ?_
    rfl
   ·refine Ey (LN ?_)
    rfl
   ·exact mQ (xn (uH (vL dn (c:=40) rfl (by decide))))
   ·refine Ey (LN (kb (cnt_none (by decide +kernel)) (by decide)))
   ·refine mS (P:=.wr false [(bL N.az (N.az.getD 0 ay),[]),(bL N.az (wS "0"),[])]) rfl ?_
    rw[K0 ok.dn (s:=wS "0") (c:=48) rfl (by decide),q0]
    show (([0,-1]:List Int).all λd=>decide (0<=d)&&decide (d<(N.az.length:Int)))=false
    refine List.all_eq_false.mpr ⟨-1,by simp,λz=>?_⟩
    exact absurd (de _ _ ▸ z).1 (by decide)
 ·by_cases d0:N.aa.length<=1
  ·rw[if_pos d0] at h
   cases h
  rw[if_neg d0] at h;have ci:gw N.aa 1:=⟨by decide,by omega⟩
  have p1:bL N.aa (N.aa.getD 1 ay)=1:=oK ok.bd ci;simp only[bE,qV,or_false] at h;rcases h with rfl|rfl
  ·refine mS (P:=.st true [bL N.aa (N.aa.getD 1 ay),bL N.aa (N.aa.getD 0 ay)]) rfl ?_
   rw[p0,p1];show ((_:Bool)&&decide (([1,0]:List Int)=gB [1,0]))=false;rw[show decide (([1,0]:List Int)=gB [1,0])=false from by decide,wI]
  ·refine tN ok (P:=.kept [.yes true [1,0]]) (λr hr=>by
    rw[dc.mp hr];exact λi hi=>by
     have e:i=1\/i=0:=by simpa using hi
     rcases e with e|e
     ·rw[e];exact ci
     ·rw[e];exact bi) ?_
   show (mW N.aa.length [1,0]&&true)=false;rw[ahL];show ((_:Bool)&&decide (([1,0]:List Int)=gB [1,0]))=false;rw[show decide (([1,0]:List Int)=gB [1,0])=false from by decide,wI]
end
section
variable{H:Hp}
theorem cb.fl(n:Nat){x:V}(h:(∃i,x=.int i)\/(∃s,x=.str s)\/x=.aR):cb H n x x:=by
 cases n with
 | zero=>exact⟨rfl,h⟩
 | succ n=>exact .inl ⟨rfl,h⟩
theorem cb.int(n:Nat)(i:Int):cb H n (.int i) (.int i):=cb.fl n (.inl ⟨i,rfl⟩)
theorem cb.str(n:Nat)(i:Str):cb H n (.str i) (.str i):=cb.fl n (.inr (.inl ⟨i,rfl⟩))
theorem cb.aR(n:Nat):cb H n .aR .aR:=cb.fl n (.inr (.inr rfl))
theorem cb.lst{n:Nat}{a b:Addr}{xs ys:List V}(R:Paired (cb H n) xs ys)(l:xs.length<=1000)(ha:H a=some (.lst xs))(hb:H b=some (.lst ys)):cb H (n+1) (.ref a) (.ref b):=.inr ⟨a,b,xs,ys,rfl,rfl,R,l,.inl ⟨ha,hb⟩⟩
theorem cb.tup{n:Nat}{a b:Addr}{xs ys:List V}(R:Paired (cb H n) xs ys)(l:xs.length<=1000)(ha:H a=some (.tup xs))(hb:H b=some (.tup ys)):cb H (n+1) (.ref a) (.ref b):=.inr ⟨a,b,xs,ys,rfl,rfl,R,l,.inr ⟨ha,hb⟩⟩
theorem cb.up:∀{n:Nat} {x y:V},cb H n x y->cb H (n+1) x y
 | 0,_,_,h=>.inl h
 | n+1,_,_,.inl h=>.inl h
 | n+1,_,_,.inr ⟨a,b,xs,ys,e1,e2,R,l,h⟩=>.inr ⟨a,b,xs,ys,e1,e2,Paired.eZ R λ_ _ q=>cb.up q,l,h⟩
theorem pK(n:Nat):∀l:List Int,Paired (cb H n) (aQ l) (aQ l)
 | []=>.nil
 | i::l=>.cons (.int n i) (pK n l)
theorem Ct(n:Nat):∀l:Mark,Paired (cb H n) (cX l) (cX l)
 | []=>.nil
 | none::l=>.cons (.aR n) (Ct n l)
 | some i::l=>.cons (.int n i) (Ct n l)
theorem Cs:∀{as bs:List Addr} {cs:List (Int×List Int)},hJ H as cs->hJ H bs cs->(∀c∈cs,c.2.length<=1000)->Paired (cb H 2) (as.map V.ref) (bs.map V.ref)
 | _,_,_,.nil,.nil,_=>.nil
 | _,_,_,.cons ⟨q,e1,e2⟩ t,.cons ⟨q',uU,gU⟩ t',h=>.cons (.tup (.cons (.int 1 _) (.cons (.lst (pK 0 _) (by rw[ig];exact h _ (cB ..)) e2 gU) .nil)) (fk rfl) e1 uU) (Cs t t' λc hc=>h c (cP _ hc))
theorem Cu:∀{as bs:List Addr} {cs:List Mark},fQ H as cs->fQ H bs cs->(∀c∈cs,c.length<=1000)->Paired (cb H 1) (as.map V.ref) (bs.map V.ref)
 | _,_,_,.nil,.nil,_=>.nil
 | _,_,_,.cons e t,.cons e' t',h=>.cons (.lst (Ct 0 _) (by rw[show ∀m:Mark,(cX m).length=m.length from λm=>aH ..];exact h _ (cB ..)) e e') (Cu t t' λc hc=>h c (cP _ hc))
theorem Tn{u v:V}{r:dA}(hl:∀k bs,r=.yes k bs->bs.length<=1000)(h:hX H u r)(h':hX H v r):cb H 2 u v:=by
 cases r with
 | no =>
  obtain rfl:u=V.aR:=h;obtain rfl:v=V.aR:=h';exact .aR 2
 | yes k bs =>
  obtain⟨a,l,rfl,h1,h2⟩:=h;obtain⟨a',l',rfl,gn,gp⟩:=h';exact .tup (.cons (.str 1 _) (.cons (.lst (pK 0 _) (by rw[ig];exact hl k bs rfl) h2 gp) .nil)) (fk rfl) h1 gn
theorem GS:∀{us vs:List V} {rs:List dA},Paired (hX H) us rs->Paired (hX H) vs rs->(∀k bs,dA.yes k bs∈rs->bs.length<=1000)->Paired (cb H 2) us vs
 | _,_,_,.nil,.nil,_=>.nil
 | _,_,_,.cons h t,.cons h' t',hl=>.cons (Tn (λk bs e=>hl k bs (by rw[<-e];exact cB ..)) h h') (GS t t' λk bs hb=>hl k bs (cP _ hb))
theorem LR{N:aq}:∀{P:aY} {u v:V},iz P->jJ N P->cD H u P->cD H v P->cb H 4 u v
 | .wr _ _,_,_,f,_,⟨a,l,as,e,h1,h2,h3⟩,⟨a',l',Cz,e',gn,gp,mr⟩=>by
  rw[e,e'];exact .tup (.cons (.str 3 _) (.cons (.lst (Cs h3 mr f.2) (by rw[aH,Paired.length h3];exact f.1) h2 gp) .nil)) (fk rfl) h1 gn
 | .mk _ _,_,_,f,_,⟨a,l,as,e,h1,h2,h3⟩,⟨a',l',Cz,e',gn,gp,mr⟩=>by
  rw[e,e'];exact cb.up (.tup (.cons (.str 2 _) (.cons (.lst (Cu h3 mr f.2) (by rw[aH,Paired.length h3];exact f.1) h2 gp) .nil)) (fk rfl) h1 gn)
 | .b3 _,_,_,f,_,⟨a,l,e,h1,h2⟩,⟨a',l',e',gn,gp⟩=>by
  rw[e,e'];exact cb.up (cb.up (.tup (.cons (.str 1 _) (.cons (.lst (pK 0 _) (by rw[ig];exact f) h2 gp) .nil)) (fk rfl) h1 gn))
 | .sum _ _,_,_,f,_,⟨a,l,e,h1,h2⟩,⟨a',l',e',gn,gp⟩=>by
  rw[e,e'];exact cb.up (cb.up (.tup (.cons (.str 1 _) (.cons (.lst (pK 0 _) (by rw[ig];exact f) h2 gp) (.cons (.int 1 _) .nil))) (fk rfl) h1 gn))
 | .st _ _,_,_,f,_,⟨a,l,e,h1,h2⟩,⟨a',l',e',gn,gp⟩=>by
  rw[e,e'];exact cb.up (cb.up (.tup (.cons (.str 1 _) (.cons (.lst (pK 0 _) (by rw[ig];exact f) h2 gp) .nil)) (fk rfl) h1 gn))
 | .kept _,_,_,f,_,⟨a,l,vs,e,h1,h2,h3⟩,⟨a',l',vs',e',gn,gp,mr⟩=>by
  rw[e,e'];exact .tup (.cons (.str 3 _) (.cons (.lst (GS h3 mr f.2) (by rw[Paired.length h3];exact f.1) h2 gp) .nil)) (fk rfl) h1 gn
 | .most _ q,_,_,f,g,⟨a,l,as,w,e,h1,h2,h3,h4⟩,⟨a',l',Cz,w',e',gn,gp,mr,IE⟩=>by
  rw[e,e'];have k1:cb H 3 (.ref l) (.ref l'):=.lst (Cs h3 mr f.2.1) (by rw[aH,Paired.length h3];exact f.1) h2 gp
  have k2:cb H 3 w w':=by
   have g2:pX N q:=g.2;have f2:iz q:=f.2.2
   cases q with
   | wr k bs=>cases k<;>cases g2
   | mk k ms =>
    obtain⟨a,l,as,e,h1,h2,h3⟩:=h4;obtain⟨a',l',Cz,e',gn,gp,mr⟩:=IE;rw[e,e'];exact .tup (.cons (.str 2 _) (.cons (.lst (Cu h3 mr f2.2) (by rw[aH,Paired.length h3];exact f2.1) h2 gp) .nil)) (fk rfl) h1 gn
   | b3 ws =>
    obtain⟨a,l,e,h1,h2⟩:=h4;obtain⟨a',l',e',gn,gp⟩:=IE;rw[e,e'];exact cb.up (.tup (.cons (.str 1 _) (.cons (.lst (pK 0 _) (by rw[ig];exact f2) h2 gp) .nil)) (fk rfl) h1 gn)
   | sum ws k=>cases g2
   | st k bs=>cases g2
   | kept rs=>cases g2
   | most bs q=>cases g2
  exact .tup (.cons (.str 3 _) (.cons k1 (.cons k2 .nil))) (fk rfl) h1 gn
end
structure pE(ws:List Str):Prop where
 ne:ws≠[]
 ln:ws.length<=100
 wd:∀w∈ws,eQ w
theorem rM:∀w∈([]:List Str),eQ w:=λ_ h=>nomatch h
theorem iV{x:Str}{r:List Str}(h:eQ x)(h2:∀w∈r,eQ w):∀w∈x::r,eQ w:=λw hw=>by
 rcases bE.mp hw with e|e
 ·rw[e];exact h
 ·exact h2 w e
theorem GX{l r:List Str}(h:∀w∈l,eQ w)(h2:∀w∈r,eQ w):∀w∈l++r,eQ w:=λw hw=>by
 rcases dH.mp hw with e|e
 ·exact h w e
 ·exact h2 w e
theorem Ud(u:Str)(num:Int)(k:Nat):(bo u num k).length=k+3:=by
 unfold bo;rw[bS,bF,bF,CK];rfl
theorem G5{u:Str}{num:Int}{k:Nat}(hu:eQ u)(hk:k<=7)(n0:0<=num)(n9:num<1000000000):∀w∈bo u num k,eQ w :=
 GX (iV (eD rfl (by decide)) (iV hu (CL hk n0 n9))) (iV (eD rfl (by decide)) rM)
theorem TL{z:Nat}(z6:z<=6){num:Int}(n0:0<=num)(n9:num<1000000000):∀ws∈j_ z num,pE ws:=by
 have k1:z-1<=7:=by omega
 have k2:z<=7:=by omega
 intro ws h;unfold j_ at h
 try dsimp only at h
 simp only[bE,qV,or_false] at h;rcases h with rfl|rfl|rfl|rfl|rfl|rfl|rfl|rfl|rfl|rfl|rfl|rfl|rfl|rfl|rfl|rfl|rfl|rfl|rfl|rfl|rfl|rfl|rfl|rfl|rfl|rfl|rfl|rfl|rfl|rfl|rfl|rfl|rfl
 all_goals (refine⟨(λz=>nomatch z),?_,?_⟩)
 all_goals first
  | (simp only[bF,bS,Ud,CK,aiM];omega)
  | (repeat first|exact rM|exact CL k1 n0 n9|exact G5 (eD rfl (by decide)) k1 n0 n9|exact G5 (eD rfl (by decide)) k2 n0 n9|refine iV (eD rfl (by decide)) ?_|refine GX ?_ ?_)
theorem acL:eQ kB:=vW (λc hc=>by
 have:=List.eq_of_mem_replicate (show c∈zalias133z 1001 49 from hc)
 omega) Lz
theorem TY{N:aq}(ok:N.Ok){num:Int}(n0:0<=num)(n9:num<1000000000):∀ws∈gJ N num,pE ws:=by
 have b1:=ok.b1;have hb:=qG (qE ok.bn b1);have hn:eQ (bj num):=kA ⟨n0,rg (by omega:num<10000000000) tY⟩
 intro ws h;unfold gJ at h
 try dsimp only at h
 rcases dH.mp h with h|h
 ·rcases dH.mp h with h|h
  ·simp only[bE,qV,or_false] at h
   rcases h with rfl|rfl|rfl|rfl|rfl|rfl|rfl|rfl|rfl|rfl|rfl|rfl|rfl|rfl|rfl|rfl|rfl|rfl|rfl|rfl|rfl|rfl|rfl|rfl|rfl|rfl|rfl|rfl
   all_goals (refine⟨(λz=>nomatch z),fk rfl,?_⟩)
   all_goals (repeat first|exact rM|refine iV hb ?_|refine iV hn ?_|refine iV acL ?_|refine iV (eD rfl (by decide)) ?_)
  ·by_cases d0:N.az.length=0
   ·rw[if_pos d0] at h
    cases h
   rw[if_neg d0] at h;have hd:=qG (qE ok.dn (by omega:0<N.az.length))
   simp only[bE,qV,or_false] at h;rcases h with rfl|rfl|rfl|rfl|rfl
   all_goals (refine⟨(λz=>nomatch z),fk rfl,?_⟩)
   all_goals (repeat first|exact rM|refine iV hd ?_|refine iV (eD rfl (by decide)) ?_)
 ·by_cases d0:N.aa.length<=1
  ·rw[if_pos d0] at h
   cases h
  rw[if_neg d0] at h;have hc:=qG (qE ok.bn (by omega:1<N.aa.length))
  simp only[bE,qV,or_false] at h;rcases h with rfl|rfl
  all_goals (refine⟨(λz=>nomatch z),fk rfl,?_⟩)
  all_goals (repeat first|exact rM|refine iV hc ?_|refine iV hb ?_|refine iV (eD rfl (by decide)) ?_)
theorem pE.row{N:aq}{ws:List Str}(h:pE ws):cO 32 (jn ws)=ws/\(jn ws).length<=1000000/\dh ws/\uw N ws:=by
 have hl:=lG (ws:=ws) (B:=1001) λw hw=>(h.wd w hw).2.1
 have:=h.ln;refine⟨aeU h.ne λx hx=>(h.wd x hx).2.2,?_,⟨by omega,λw hw=>⟨(h.wd w hw).1,b_ (h.wd w hw).2.1 (by decide)⟩⟩,ac6 (by omega)⟩
 have:=Nat.mul_le_mul_right 1002 h.ln;omega
theorem iy.row{N:aq}(ok:N.Ok){P:aY}(h:iy N P):pE (d4 N P):=⟨(λz=>nomatch z),h.ln,ac5 ok h.gd⟩
theorem abi:pE [iK]:=⟨(λz=>nomatch z),by decide,iV (eD rfl (by decide)) rM⟩
theorem TZ{N:aq}(ok:N.Ok)(x1:lS∉N.aa)(x2:lS∉N.az){num:Int}(n0:0<=num)(n9:num<1000000000):∀ws∈j_ N.aa.length num++gJ N num,pE ws/\cN N ws=none:=λws h=>by
 rcases dH.mp h with h|h
 ·exact⟨TL ok.b6 n0 n9 ws h,TH ok n0 n9 ws h⟩
 ·exact⟨TY ok n0 n9 ws h,TX ok x1 x2 n0 n9 ws h⟩
theorem TF(z:Nat)(num:Int):(j_ z num).length=33:=rfl
theorem TV(N:aq)(num:Int):(gJ N num).length<=100:=by
 unfold gJ
 try dsimp only
 rw[bS,bS];have h1:∀(p:Prop) [Decidable p] (l:List (List Str)),(if p then [] else l).length<=l.length:=λp _ l=>by
  split
  ·exact dy _
  ·exact bH _
 refine b_ (Nat.add_le_add (Nat.add_le_add_left (h1 _ _) _) (h1 _ _)) ?_;exact fk rfl
end L2
namespace L2
open PySem PySem.Spec PyProof.Rows
inductive SL:List V->List Str->Prop
 | nil:SL [] []
 | cons {s:Str} {vs:List V} {l:List Str}:SL vs l->SL (.str s::vs) (s::l)
theorem SL.eq{vs:List V}{l:List Str}(h:SL vs l):vs=bq l:=by
 induction h with
 | nil=>rfl
 | cons _ ih=>rw[ih];rfl
theorem LW.eq{H H':Hp}{q:Addr}{vs:List V}{l:List Str}(h:H q=none)(e:upd H q (.lst vs)=H')(s:SL vs l):LW H q l H':=by
 rw[<-e,s.eq];exact LW.lit l h
theorem LW.more{H0 H:Hp}{a:Addr}{xs l:List Str}{vs:List V}{Q:VK}(h:LW H0 a xs H)(s:SL vs l)(hq:∀p H',LW H0 p (xs++l) H'->Q (.ref p) H')(hv:vs.length.ble 100=true:=by rfl)(hl:(xs.length+l.length).ble 100000=true:=by rfl) :
  vs.length<=sizeLine/\∀q,H q=none->oM (.ref a) (.ref q) (upd H q (.lst vs)) Q:=by
 refine⟨?_,λq nq=>?_⟩
 ·have:=fk hv
  have:=sizeLine_eq;omega
 ·have L:=LW.eq nq rfl s
  exact LW.cat (H0:=H0) (L.sm _ _ h.at') L.at' (h.sm.trans L.sm) (fk hl) hq
theorem a1{w b:Str}(hb:b.length<=11000)(h1:w.length<=20:=by decide):w.length+b.length<=sizeLine:=w_ h1 hb (by decide)
theorem a2{w b u:Str}(hb:b.length<=11000)(h1:w.length<=20:=by decide)(h2:u.length<=20:=by decide):(w++b).length+u.length<=sizeLine:=w_ (rK h1 hb) h2 (by decide)
theorem a3{w b u c:Str}(hb:b.length<=11000)(hc:c.length<=11000)(h1:w.length<=20:=by decide)(h2:u.length<=20:=by decide):(w++b++u).length+c.length<=sizeLine:=w_ (rK (rK h1 hb) h2) hc (by decide)
theorem a4{w b u c v:Str}(hb:b.length<=11000)(hc:c.length<=11000)(h1:w.length<=20:=by decide)(h2:u.length<=20:=by decide)(h3:v.length<=20:=by decide):(w++b++u++c).length+v.length<=sizeLine:=w_ (rK (rK (rK h1 hb) h2) hc) h3 (by decide)
section
variable{X:Cx}{CX:hU}{k n:Nat}{a f:Addr}{fd:FuncData}{ps:List Str}{sp:Sp}{E:XK}{x q y:Str}{st:Stmt}{p pos:Pos}{e o i c d:Expr}{es:List Expr}{ta tb tc td te:TE}{t:TA}{eO:List (Str×Addr)}{id ty:String}{r:List V->Hp->VK->Prop}{ro:R2}
theorem Df.ca(u:Df X.K X.mg x q st f fd ps)(F:ax X.prog X.w X.K X.mg X.base CX k f fd ps sp)(hr:cZ n X.A)(hx:Passes CX X E)(ha:PA X (e::es) t)(hg:Gl X x:=by rfl)(hk:k<=n:=by first|decide|exact bH _)
  (cG:(x==("__debug__" : Str))=false:=by decide) (he:starEach (e::es) X.env=(false,eval e X.env)::starEach es X.env:=by rfl) (cL:(backTo pos (starEach es X.env)).any (·.1)=false:=by rfl) :
  PE X (.Call (.Name x p) (e::es) [] pos) (Qz sp [] E t):=ada F (hr.mono hk) hg u.m u.F.kp u.b .nil hx ha cG he cL
theorem Df.da(u:Df X.K X.mg x q st f fd ps)(d:l7 X.w X.K a eO)(F:ax X.prog X.w X.K X.mg X.base CX k f fd ps sp)(hr:cZ n X.A)(hx:Passes CX X E)(hm:X.mg y=some (.ref a))(hi:PE X i ta)(ha:PA X (e::es) t)(hg:Gl X y:=by rfl)(hs:Cg i:=by exact λ_ _=>rfl)(hk:k<=n:=by first|decide|exact bH _)
  (cG:(y==("__debug__" : Str))=false:=by decide) (he:starEach (e::es) X.env=(false,eval e X.env)::starEach es X.env:=by rfl) (cL:(backTo pos (starEach es X.env)).any (·.1)=false:=by rfl) :
  PE X (.Call (.Subscript (.Name y p) i p1) (e::es) [] pos) (QA a eO f sp [] E (tC (.ref a)) ta t):=adb d F (hr.mono hk) u.F.kp u.b .nil hx (mR (v:=.ref a) hg hm rfl cG) hi hs ha he cL
theorem Df.va(u:Df X.K X.mg x q st f fd ps)(i:Nat)(F:ax X.prog X.w X.K X.mg X.base CX k f fd ps sp)(hr:cZ n X.A)(hx:Passes CX X E)(ha:PA X (e::es) t)(hk:k<=n:=by first|decide|exact bH _)
  (hN:X.N[i]?=some y:=by rfl) (hv:pJ X.env.scope y:=by first|exact qX rfl|exact lV (qX rfl)|exact lV (lV rfl)) (cG:(y==("__debug__" : Str))=false:=by decide) (fE:(y==("__classdict__" : Str))=false:=by decide)
  (he:starEach (e::es) X.env=(false,eval e X.env)::starEach es X.env:=by rfl) (cL:(backTo pos (starEach es X.env)).any (·.1)=false:=by rfl) :
  PE X (.Call (.Name y p) (e::es) [] pos) (QB i f sp [] E t):=adf i F (hr.mono hk) u.F.kp u.b .nil hx ha hN hv cG fE he cL
theorem Df.ga(u:Df X.K X.mg x q st f fd ps)(hg:Gl X x:=by rfl)(cG:(x==("__debug__" : Str))=false:=by decide):PE X (.Name x pos) (tC (.ref f)):=mR (v:=.ref f) hg u.m rfl cG
theorem Df.xa(u:Df X.K X.mg x q st f fd ps)(F:ax X.prog X.w X.K X.mg X.base (bG X.prog X.w) k f fd ps sp)(hr:cZ n X.A)(ha:PA X.aD (e::es) t)(hg:Gl X x:=by rfl)(hk:k<=n:=by first|decide|exact bH _)
  (cG:(x==("__debug__" : Str))=false:=by decide) (he:starEach (e::es) X.env=(false,eval e X.env)::starEach es X.env:=by rfl) (cL:(backTo pos (starEach es X.env)).any (·.1)=false:=by rfl) :
  PX X (.Call (.Name x p) (e::es) [] pos) (λσ H Q E=>t σ H λvs H1=>sp vs H1 Q E):=adS F (hr.mono hk) hg u.m u.F.kp u.b ha cG he cL
theorem qg(hm:X.mg x=some (.ref a))(hg:Gl X x:=by rfl)(cG:(x==("__debug__" : Str))=false:=by decide):PE X (.Name x pos) (tC (.ref a)):=mR (v:=.ref a) hg hm rfl cG
theorem qt(hm:X.mg x=none)(hv:bootBuiltins x=some (.type ty))(hg:Gl X x:=by rfl)(hn:x≠"__name__" := by decide)(cG:(x==("__debug__" : Str))=false:=by decide):PE X (.Name x pos) (tC (.ty ty)):=ac9 (v:=.ty ty) hg hm hv rfl hn cG
theorem qb(hc:gi X (.builtin id) r)(hm:X.mg x=none)(hv:bootBuiltins x=some (.builtin id))(ha:PA X (e::es) t)(hg:Gl X x:=by rfl)(hn:x≠"__name__" := by decide)(cG:(x==("__debug__" : Str))=false:=by decide)
  (he:starEach (e::es) X.env=(false,eval e X.env)::starEach es X.env:=by rfl) (cL:(backTo pos (starEach es X.env)).any (·.1)=false:=by rfl):PE X (.Call (.Name x p) (e::es) [] pos) (tU r t):=LV hc hg hm hv ha hn cG he cL
theorem qy(hc:gi X (.type id) r)(hm:X.mg x=none)(hv:bootBuiltins x=some (.type id))(ha:PA X (e::es) t)(hg:Gl X x:=by rfl)(hn:x≠"__name__" := by decide)(cG:(x==("__debug__" : Str))=false:=by decide)
  (he:starEach (e::es) X.env=(false,eval e X.env)::starEach es X.env:=by rfl) (cL:(backTo pos (starEach es X.env)).any (·.1)=false:=by rfl):PE X (.Call (.Name x p) (e::es) [] pos) (tU r t):=ade hc hg hm hv ha hn cG he cL
theorem q1(h1:PE X c ta)(s1:starEach [c] X.env=(false,eval c X.env)::starEach [] X.env:=by rfl):PA X [c] (mX ta tX):=bP h1 jV s1
theorem q2(h1:PE X c ta)(h2:PE X d tb)(s1:starEach [c,d] X.env=(false,eval c X.env)::starEach [d] X.env:=by rfl)(s2:starEach [d] X.env=(false,eval d X.env)::starEach [] X.env:=by rfl):PA X [c,d] (mX ta (mX tb tX)):=bP h1 (q1 h2 s2) s1
theorem q3(h1:PE X c ta)(h2:PE X d tb)(h3:PE X e tc)(s1:starEach [c,d,e] X.env=(false,eval c X.env)::starEach [d,e] X.env:=by rfl)(s2:starEach [d,e] X.env=(false,eval d X.env)::starEach [e] X.env:=by rfl)(s3:starEach [e] X.env=(false,eval e X.env)::starEach [] X.env:=by rfl) :
  PA X [c,d,e] (mX ta (mX tb (mX tc tX))):=bP h1 (q2 h2 h3 s2 s3) s1
theorem ql(h1:PE X c ta)(hm:X.mg "len" = none)(hg:Gl X "len" := by rfl)(he:starEach [c] X.env=(false,eval c X.env)::starEach [] X.env:=by rfl)(cL:(backTo pos (starEach [] X.env)).any (·.1)=false:=by rfl) :
  PE X (.Call (.Name "len" p) [c] [] pos) (tU (EN X.K) (mX ta tX)):=LV UT hg hm xp (q1 h1 he) (by decide) (by decide) he cL
theorem qx(hr:k8 X ro)(ha:PE X c ta)(hb:PE X d tb)(hs:GJ d:=by exact λ_ _=>rfl):PE X (.Subscript c d pos) (qQ ro ta tb):=adj hr ha hb hs
theorem qc{op:CmpOp}(ho:cY X (compareOp op) ro)(ha:PE X c ta)(hb:PE X d tb)(hm:behindInMarks op d=false:=by first|exact KZ _|with_unfolding_all rfl):PE X (.Compare c [op] [d] pos) (qQ ro ta tb):=adg ho ha hb hm
theorem qp{op:CmpOp}(ho:cY X (compareOp op) ro)(ha:PE X c ta)(hb:PE X d tb)(hm:behindInMarks op d=false:=by first|exact KZ _|with_unfolding_all rfl):PT X (.Compare c [op] [d] pos) (E8 (qQ ro ta tb)):=adL ho ha hb hm
theorem qf(he:PE X c ta)(hb:attributeBase c x X.env (eval c X.env)=eval c X.env:=by rfl):PE X (.Attribute c x pos) (QD X.K ta x):=adh he hb
theorem qs(i:Nat){pos':Pos}(hN:X.N.Nodup)(he:PE X c ta)(hi:X.N[i]?=some x:=by rfl)(hx:Loc X.env.scope x:=by first|exact qX rfl|exact lV rfl)(hs:swapsWith c (some (.Name x pos')) pos.line X.env=pure false:=by rfl)(hf:X.fn x=true\/X.env.scope.names.lookup x=some .local:=by first|exact .inl rfl|exact .inr rfl|assumption) :
  PS X (.Assign [.Name x pos'] c pos) (Bp ta (aG i)):=adH hN hi hx he hs hf
theorem qn(i:Nat)(hN:X.N.Nodup)(hi:X.N[i]?=some x:=by rfl)(hx:Loc X.env.scope x:=by first|exact qX rfl|exact lV rfl)(hf:X.fn x=true\/X.env.scope.names.lookup x=some .local:=by first|exact .inl rfl|exact .inr rfl|assumption):PG X (.Name x pos) (aG i):=EB hN hi hx hf
end
section
variable{X:Cx}{iter:Expr}{tg elt:Expr}{ifs:List Expr}{scope dU:Scope}{N N':List Str}{nt:Nat}{caps:List Nat}{wi:TI}{x:Str}{pos p:Pos}{tt:cK->TT}{te:cK->TE}
theorem qm(N':List Str)(caps:List Nat)(hi:PI X (.Name x p) iter wi)(he:∀B,PE (eI X N' scope B) elt (te B))
  (hc:X.calm=true:=by rfl) (qj:X.env.scope=dU:=by rfl) (jj:X.N=N:=by rfl) (hS:CY dU N scope N' 1 caps=true:=by kernel_rfl) (WD:N'.Nodup:=by decide +kernel) (h0:N'[0]?=some x:=by rfl) (hl:∀B,(eI X N' scope B).env.scope.names.lookup x=some .local:=by intro _;rfl)
  (hs:∀x,foldedSetIterable iter X.env x=pure x:=by intro _;rfl):PE X (.ListComp elt [⟨.Name x p,iter,[],0⟩] scope pos) (Bs 1 caps wi (λ_=>aG 0) (λ_=>dW) te) :=
 tL dU N (gQ.of hS) hi (λB=>i_ N' WD h0 (hl B) rfl) (λ_=>kG) he hc qj jj hs
end
section
variable{P:Program}{w:World}{K:aj}{mg:Str->Option Value}{base:Heap}{x qual:Str}{st:Stmt}{f:Addr}{fd:FuncData}{ps:List Str}{k:Nat}{sp:Sp}
theorem Df.cV(N:List Str)(u:Df K mg x qual st f fd ps)
  (hb:N.Nodup->∀(bY:Value) (A:Around) (outer:List Env) (s:Shared) (H:Hp) (vs:List V) (Q:VK) (E:XK),cZ k (A.deeper (envOfC qual (eU st) s.heap.objs.size f bY))->sp vs H Q E ->
   ∃t,gG (eJ (bG P w) P w K mg base N qual (eU st) f bY A outer s H E) (iY st) t/\t { nx:=λ_ H'=>Q .aR H',rt:=Q } (start N vs) H)
  (S:l8 N ps (eU st):=by exact⟨rfl,rfl,rfl,by decide +kernel,rfl,by decide +kernel,by decide +kernel⟩) (len:∀vs H Q E,sp vs H Q E->vs.length=ps.length:=by intro _ _ _ _ h;cases h;subst_vars;rfl) :
  ax P w K mg base (bG P w) (k+1) f fd ps sp:=u.F.okF S len (hb S.nd)
theorem Df.bz(N:List Str)(u:Df K mg x qual st f fd ps)
  (hb:N.Nodup->∀(bY:Value) (A:Around) (outer:List Env) (s:Shared) (H:Hp) (vs:List V) (Q:VK) (E:XK),cZ k (A.deeper (envOfC qual (eU st) s.heap.objs.size f bY))->sp vs H Q E ->
   ∃t,gG (eJ a8 P w K mg base N qual (eU st) f bY A outer s H E).aD (iY st) t/\t { nx:=λ_ H'=>Q .aR H',rt:=Q } (start N vs) H)
  (S:l8 N ps (eU st):=by exact⟨rfl,rfl,rfl,by decide +kernel,rfl,by decide +kernel,by decide +kernel⟩) (len:∀vs H Q E,sp vs H Q E->vs.length=ps.length:=by intro _ _ _ _ h;cases h;subst_vars;rfl) :
  ax P w K mg base a8 (k+1) f fd ps sp:=u.F.ok S len (hb S.nd)
end
end L2
theorem PySem.W.Fast.tw10034381511077977497:True:=trivial
theorem PySem.W.Fast.tw10053402000053310245:True:=trivial
theorem PySem.W.Fast.tw10055219189783761001:True:=trivial
theorem PySem.W.Fast.tw10384301888182306078:True:=trivial
theorem PySem.W.Fast.tw10558882683711069555:True:=trivial
theorem PySem.W.Fast.tw10749536860593384320:True:=trivial
theorem PySem.W.Fast.tw11257169912305639342:True:=trivial
theorem PySem.W.Fast.tw11556107049746555045:True:=trivial
theorem PySem.W.Fast.tw11691687983666549861:True:=trivial
theorem PySem.W.Fast.tw11778024446617396701:True:=trivial
theorem PySem.W.Fast.tw11929372556274693056:True:=trivial
theorem PySem.W.Fast.tw12132047204686326281:True:=trivial
theorem PySem.W.Fast.tw12265691263016925274:True:=trivial
theorem PySem.W.Fast.tw12403769865025119885:True:=trivial
theorem PySem.W.Fast.tw12643896094133326494:True:=trivial
theorem PySem.W.Fast.tw12836651121820667356:True:=trivial
theorem PySem.W.Fast.tw12977252381624459073:True:=trivial
theorem PySem.W.Fast.tw13202468970843072968:True:=trivial
theorem PySem.W.Fast.tw13258734765509783543:True:=trivial
theorem PySem.W.Fast.tw1348141499446235575:True:=trivial
theorem PySem.W.Fast.tw13560194767262112386:True:=trivial
theorem PySem.W.Fast.tw13585659501230898863:True:=trivial
theorem PySem.W.Fast.tw13754041126016202213:True:=trivial
theorem PySem.W.Fast.tw13781563370546853702:True:=trivial
theorem PySem.W.Fast.tw14381001321906138494:True:=trivial
theorem PySem.W.Fast.tw14639723529338518284:True:=trivial
theorem PySem.W.Fast.tw14751378396153303354:True:=trivial
theorem PySem.W.Fast.tw14889481425507238551:True:=trivial
theorem PySem.W.Fast.tw1530174665022694326:True:=trivial
theorem PySem.W.Fast.tw15699224761962034508:True:=trivial
theorem PySem.W.Fast.tw15745215120507473934:True:=trivial
theorem PySem.W.Fast.tw16173209721520740743:True:=trivial
theorem PySem.W.Fast.tw16535449716025378396:True:=trivial
theorem PySem.W.Fast.tw16592546408137570754:True:=trivial
theorem PySem.W.Fast.tw16704432688792104747:True:=trivial
theorem PySem.W.Fast.tw16767140247371694827:True:=trivial
theorem PySem.W.Fast.tw17080861900928596743:True:=trivial
theorem PySem.W.Fast.tw17128011518633943947:True:=trivial
theorem PySem.W.Fast.tw17317345208131597875:True:=trivial
theorem PySem.W.Fast.tw17643900628898199438:True:=trivial
theorem PySem.W.Fast.tw17651180367188786920:True:=trivial
theorem PySem.W.Fast.tw17950030901510798853:True:=trivial
theorem PySem.W.Fast.tw18399710243787439643:True:=trivial
theorem PySem.W.Fast.tw2125881560778932474:True:=trivial
theorem PySem.W.Fast.tw2699726398337452934:True:=trivial
theorem PySem.W.Fast.tw291289878023389666:True:=trivial
theorem PySem.W.Fast.tw292273676140402380:True:=trivial
theorem PySem.W.Fast.tw3009002673648172987:True:=trivial
theorem PySem.W.Fast.tw3211077097811414978:True:=trivial
theorem PySem.W.Fast.tw3499162249789129276:True:=trivial
theorem PySem.W.Fast.tw3519904844281946216:True:=trivial
theorem PySem.W.Fast.tw3609761145465440767:True:=trivial
theorem PySem.W.Fast.tw3828643647821368806:True:=trivial
theorem PySem.W.Fast.tw403219012655274158:True:=trivial
theorem PySem.W.Fast.tw4273008212655242170:True:=trivial
theorem PySem.W.Fast.tw438161056527639871:True:=trivial
theorem PySem.W.Fast.tw4467676182432779734:True:=trivial
theorem PySem.W.Fast.tw4505896673411141869:True:=trivial
theorem PySem.W.Fast.tw4511714948557209140:True:=trivial
theorem PySem.W.Fast.tw461076137904137410:True:=trivial
theorem PySem.W.Fast.tw4656850387016350273:True:=trivial
theorem PySem.W.Fast.tw4717829601812104063:True:=trivial
theorem PySem.W.Fast.tw5224238406836856717:True:=trivial
theorem PySem.W.Fast.tw5334650248238101550:True:=trivial
theorem PySem.W.Fast.tw5626375780907939931:True:=trivial
theorem PySem.W.Fast.tw595090918460010614:True:=trivial
theorem PySem.W.Fast.tw6005662775857318253:True:=trivial
theorem PySem.W.Fast.tw6117308845968336485:True:=trivial
theorem PySem.W.Fast.tw613182586977983114:True:=trivial
theorem PySem.W.Fast.tw630030537115563705:True:=trivial
theorem PySem.W.Fast.tw631438216666539309:True:=trivial
theorem PySem.W.Fast.tw6522104380015952464:True:=trivial
theorem PySem.W.Fast.tw6555494989159542224:True:=trivial
theorem PySem.W.Fast.tw7122583694971429324:True:=trivial
theorem PySem.W.Fast.tw7489106097724865342:True:=trivial
theorem PySem.W.Fast.tw7542263018440987333:True:=trivial
theorem PySem.W.Fast.tw7946217099897098382:True:=trivial
theorem PySem.W.Fast.tw8068125045617830061:True:=trivial
theorem PySem.W.Fast.tw8386459220961269779:True:=trivial
theorem PySem.W.Fast.tw8678007910303912605:True:=trivial
theorem PySem.W.Fast.tw8905763113791887833:True:=trivial
theorem PySem.W.Fast.tw899333744679857281:True:=trivial
theorem PySem.W.Fast.tw9320321181425141016:True:=trivial
theorem PySem.W.Fast.tw9323615451050397270:True:=trivial
theorem PySem.W.Fast.tw9453330324691916688:True:=trivial
theorem PySem.W.Fast.tw9711295702301808037:True:=trivial
theorem PySem.W.Fast.tw9756944563399771683:True:=trivial
theorem PySem.W.Fast.tw9975513175635677207:True:=trivial
namespace Law
open PySem L2
seal L2.gG L2.PS PySem.execs PySem.exec PySem.eval
def top(i:Nat):Stmt:=ajK.main.body.getD i (.Pass ⟨0,0,0,0⟩)
abbrev MW:Stmt:=top 17
abbrev NV:Stmt:=top 16
abbrev NU:Stmt:=top 18
abbrev tR:Stmt:=inClass (top 15) 0
abbrev Nd:Stmt:=top 100
abbrev Ng:Stmt:=top 101
abbrev Nf:Stmt:=top 102
abbrev M_:Stmt:=top 103
abbrev Na:Stmt:=top 107
abbrev M8:Stmt:=top 108
abbrev M6:Stmt:=top 104
abbrev M9:Stmt:=top 106
abbrev Nc:Stmt:=top 105
abbrev Nk:Stmt:=top 109
abbrev Nn:Stmt:=top 110
abbrev Ni:Stmt:=top 111
abbrev Nb:Stmt:=top 113
abbrev Nh:Stmt:=top 115
abbrev M7:Stmt:=top 112
abbrev Nl:Stmt:=top 114
abbrev Nj:Stmt:=top 116
abbrev MH:Stmt:=top 85
abbrev Nu:Stmt:=top 86
abbrev MN:Stmt:=top 88
abbrev Np:Stmt:=top 90
abbrev MQ:Stmt:=top 89
abbrev MK:Stmt:=top 87
abbrev MM:Stmt:=top 91
abbrev Oh:Stmt:=top 92
abbrev NZ:Stmt:=top 93
abbrev NY:Stmt:=top 94
abbrev Of:Stmt:=top 96
abbrev MZ:Stmt:=top 95
abbrev Nt:Stmt:=top 97
abbrev Nx:Stmt:=top 84
abbrev Nw:Stmt:=top 83
abbrev M1:Stmt:=top 117
abbrev tQ:Stmt:=inClass (top 45) 0
abbrev MJ:Stmt:=top 49
abbrev tP:Stmt:=inClass (top 8) 0
abbrev NT:Stmt:=top 48
abbrev Oe:Stmt:=top 51
abbrev NA:Stmt:=top 39
abbrev MS:Stmt:=top 55
abbrev N4:Stmt:=top 54
abbrev Ob:Stmt:=top 52
abbrev MU:Stmt:=top 50
abbrev Ny:Stmt:=top 21
abbrev MT:Stmt:=top 20
abbrev N5:Stmt:=top 58
abbrev MO:Stmt:=top 19
abbrev N3:Stmt:=top 59
abbrev N9:Stmt:=top 56
abbrev N8:Stmt:=top 57
abbrev N1:Stmt:=top 60
abbrev N2:Stmt:=top 62
abbrev N_:Stmt:=top 63
abbrev N7:Stmt:=top 64
abbrev N0:Stmt:=top 65
abbrev NO:Stmt:=top 78
abbrev Od:Stmt:=top 66
abbrev NQ:Stmt:=top 79
abbrev NH:Stmt:=top 81
abbrev N6:Stmt:=top 53
abbrev Oa:Stmt:=top 67
abbrev Oc:Stmt:=top 61
abbrev NL:Stmt:=top 68
abbrev Nz:Stmt:=top 69
abbrev ND:Stmt:=top 70
abbrev NK:Stmt:=top 71
abbrev NP:Stmt:=top 72
abbrev NC:Stmt:=top 73
abbrev NM:Stmt:=top 74
abbrev NB:Stmt:=top 75
abbrev NR:Stmt:=top 76
abbrev NF:Stmt:=top 77
abbrev NG:Stmt:=top 80
abbrev MI:Stmt:=top 26
abbrev NW:Stmt:=top 24
abbrev MP:Stmt:=top 25
abbrev MX:Stmt:=top 30
abbrev MV:Stmt:=top 29
abbrev Nq:Stmt:=top 27
abbrev ML:Stmt:=top 28
abbrev Og:Stmt:=top 31
abbrev NX:Stmt:=top 32
abbrev NS:Stmt:=top 34
abbrev MY:Stmt:=top 33
abbrev Nr:Stmt:=top 35
abbrev Oi:Stmt:=top 23
abbrev Nv:Stmt:=top 47
abbrev NJ:Stmt:=top 46
abbrev M3:Stmt:=top 118
abbrev M4:Stmt:=top 119
abbrev M5:Stmt:=top 120
abbrev Nm:Stmt:=top 121
abbrev M0:Stmt:=top 122
inductive OO(K:aj)(vs:List V)(H:Hp)(Q:VK)(aB:XK):Prop
 | mk:∀(x:Str),(vs=[.str x])->(x.cps.all (· < 128)=true)->(x.length<=1000)->(∀H',ae H H'->Q (.bl (dQ x)) H')->OO K vs H Q aB
inductive PR(K:aj)(vs:List V)(H:Hp)(Q:VK)(aB:XK):Prop
 | mk:∀(a:Addr) (ys:List Str) (lo hi:Int),(vs=[.ref a,.int lo,.int hi])->(ai K H a (bq ys))->(lo<=ys.length)->(ys.length<=hi)->(ys.length<=60)->((∀y∈ys,dQ y=true))->(ys.Nodup)->(∀H',ae H H'->Q .aR H')->PR K vs H Q aB
inductive PQ(K:aj)(vs:List V)(H:Hp)(Q:VK)(aB:XK):Prop
 | mk:∀(a:Addr) (as:List Addr) (rs:List (List Int)) (n:Nat),(vs=[.ref a,.int rs.length,.int n])->(ai K H a (as.map V.ref))->(Rows H as rs)->((∀r∈rs,mL n r))->(Q .aR H)->PQ K vs H Q aB
inductive Oy(C:Addr)(K:aj)(vs:List V)(H:Hp)(Q:VK)(aB:XK):Prop
 | mk:∀(x dx pb pd pt pg pf:Addr) (ts gs:List Addr) (N:aq),(vs=[.ref x,.ref pb,.ref pd,.ref pt,.ref pg,.ref pf])->(H x=some (.ins C dx []))->(N.Ok)->(ai K H pb (bq N.aa))->(ai K H pd (bq N.az))->(ai K H pt (ts.map V.ref))->(Rows H ts N.takes)->(ai K H pg (gs.map V.ref))->(Rows H gs N.gives)->(H pf=some (.lst (aQ N.first)))->(∀(b d t g f:Addr) (mZ mq:List Addr) (H':Hp),(∀a∈[b,d,t,g,f]++mZ++mq,H a=none)->(∀q o,H q=some o->q≠x->H' q=some o)->cA C H' x dx b d t g f mZ mq N->Q .aR H')->Oy C K vs H Q aB
inductive O3(K:aj)(vs:List V)(H:Hp)(Q:VK)(aB:XK):Prop
 | mk:∀(a:Addr) (ns:List Int) (k:Nat),(vs=[.ref a,.int k])->(ai K H a (aQ ns))->(ns.length<=63)->(k<1000)->(∀n:Int,0<=n->n<2147483647->Q (.int n) H)->O3 K vs H Q aB
inductive O5(K:aj)(vs:List V)(H:Hp)(Q:VK)(aB:XK):Prop
 | mk:∀(a:Addr) (ns:List Int) (k m:Nat),(vs=[.ref a,.int k,.int m])->(ai K H a (aQ ns))->(ns.length<=63)->(k<500)->(m<=8)->(∀(p:Addr) (ys:List Str) (H':Hp),H p=none->ae H H'->H' p=some (.lst (bq ys))->ys.length=m->(∀y∈ys,dQ y=true)->ys.Nodup->lS∉ys->Q (.ref p) H')->O5 K vs H Q aB
inductive O4(C:Addr)(K:aj)(vs:List V)(H:Hp)(Q:VK)(aB:XK):Prop
 | mk:∀(a:Addr) (ns:List Int),(vs=[.ref a])->(ai K H a (aQ ns))->(ns.length<=63)->(∀(x dx b d t g f:Addr) (ts gs:List Addr) (N:aq) (H':Hp),ae H H'->cA C H' x dx b d t g f ts gs N->N.Ok->lS∉N.aa->lS∉N.az->Q (.ref x) H')->O4 C K vs H Q aB
inductive OZ(K:aj)(vs:List V)(H:Hp)(Q:VK)(aB:XK):Prop
 | mk:∀(c:Int) (j:Nat),(vs=[.int c,.int (j:Int)])->(j<=100)->(∀H',ae H H'->Q (.int (fv c j)) H')->OZ K vs H Q aB
inductive O0(K:aj)(vs:List V)(H:Hp)(Q:VK)(aB:XK):Prop
 | mk:∀(c:Int) (m:Nat),(vs=[.int c,.int (m:Int)])->(m<=8)->(∀q H',ae H H'->H' q=some (.lst (aQ (kf c m)))->Q (.ref q) H')->O0 K vs H Q aB
inductive OX(K:aj)(vs:List V)(H:Hp)(Q:VK)(aB:XK):Prop
 | mk:∀(c:Int) (m:Nat),(vs=[.int c,.int (m:Int)])->(m<=8)->(∀q as H',ae H H'->H' q=some (.lst (as.map V.ref))->hJ H' as (gS c m)->Q (.ref q) H')->OX K vs H Q aB
inductive OV(K:aj)(vs:List V)(H:Hp)(Q:VK)(aB:XK):Prop
 | mk:∀(c:Int) (z:Nat) (sg:Bool),(vs=[.int c,.int (z:Int),.bl sg])->(z<=6)->(∀q H',ae H H'->H q=none->H' q=some (.lst (aQ (eH c z sg)))->Q (.ref q) H')->OV K vs H Q aB
inductive OY(K:aj)(vs:List V)(H:Hp)(Q:VK)(aB:XK):Prop
 | mk:∀(c:Int) (z:Nat),(vs=[.int c,.int (z:Int)])->(z<=6)->(∀q H',ae H H'->H' q=some (.lst (aQ (iB c z)))->Q (.ref q) H')->OY K vs H Q aB
inductive O2(K:aj)(vs:List V)(H:Hp)(Q:VK)(aB:XK):Prop
 | mk:∀(c:Int) (z:Nat),(vs=[.int c,.int (z:Int)])->(z<=6)->(∀q H',ae H H'->H' q=some (.lst (cX (qw c z)))->Q (.ref q) H')->O2 K vs H Q aB
inductive O_(K:aj)(vs:List V)(H:Hp)(Q:VK)(aB:XK):Prop
 | mk:∀(c:Int) (z:Nat),(vs=[.int c,.int (z:Int)])->(z<=6)->(∀v H',ae H H'->hX H' v (kI c z)->Q v H')->O_ K vs H Q aB
inductive Pc(K:aj)(vs:List V)(H:Hp)(Q:VK)(aB:XK):Prop
 | mk:∀(k:Str) (c:Int) (z:Nat),(vs=[.str k,.int c,.int (z:Int)])->(z<=6)->((k="fence" -> ∀q as H',ae H H'->H' q=some (.lst (as.map V.ref))->fQ H' as (ky c z)->Q (.ref q) H'))->((k="kept" -> ∀q us H',ae H H'->H' q=some (.lst us)->Paired (hX H') us (mU c z)->Q (.ref q) H'))->((k≠"fence" -> k≠"kept" -> ∀q as H',ae H H'->H' q=some (.lst (as.map V.ref))->fQ H' as (jf c z)->Q (.ref q) H'))->Pc K vs H Q aB
inductive O7(K:aj)(vs:List V)(H:Hp)(Q:VK)(aB:XK):Prop
 | mk:∀(c:Int) (z m:Nat),(vs=[.int c,.int (z:Int),.int (m:Int)])->(z<=6)->(m<=8)->(∀v H',ae H H'->cD H' v (qJ c z m)->Q v H')->O7 K vs H Q aB
inductive O1(K:aj)(vs:List V)(H:Hp)(Q:VK)(aB:XK):Prop
 | mk:∀(a l:Addr) (ns:List Str) (is:List Int),(vs=[.ref a,.ref l])->(H a=some (.lst (bq ns)))->(H l=some (.lst (aQ is)))->(is.length<=1000)->((∀i∈is,gw ns i))->((∀w∈fG ns is,w.length<=1001))->(∀H',ae H H'->Q (.str (jn (fG ns is))) H')->O1 K vs H Q aB
def aeR(K:aj):Sp:=λ_ _ _ _=>False
inductive O6(C:Addr)(K:aj)(vs:List V)(H:Hp)(Q:VK)(aB:XK):Prop
 | mk:∀(x dx b d t g f:Addr) (ts gs:List Addr) (N:aq) (p:Addr) (c:Int×List Int),(vs=[.ref x,.ref p])->(cA C H x dx b d t g f ts gs N)->(N.Ok)->(B7 H p c)->(c.2.length<=1000)->(sR N c)->(∀H',ae H H'->Q (.str (jn (gA N c))) H')->O6 C K vs H Q aB
inductive OW(K:aj)(vs:List V)(H:Hp)(Q:VK)(aB:XK):Prop
 | mk:∀(l:Addr) (m:Mark),(vs=[.ref l])->(H l=some (.lst (cX m)))->(m≠[])->(m.length<=1000)->((∀n,some n∈m->(n.natAbs:Int)<10^1000))->(∀H',ae H H'->Q (.str (jn (aT m))) H')->OW K vs H Q aB
inductive Pa(C:Addr)(K:aj)(vs:List V)(H:Hp)(Q:VK)(aB:XK):Prop
 | mk:∀(x dx b d t g f:Addr) (ts gs:List Addr) (N:aq) (v:V) (r:dA),(vs=[.ref x,v])->(cA C H x dx b d t g f ts gs N)->(N.Ok)->(hX H v r)->((∀k bs,r=.yes k bs->bs.length<=1000))->(nZ N r)->(Ah r)->(∀H',ae H H'->Q (.str (jn (f9 N r))) H')->Pa C K vs H Q aB
inductive O9(C:Addr)(K:aj)(vs:List V)(H:Hp)(Q:VK)(aB:XK):Prop
 | mk:∀(x dx b d t g f:Addr) (ts gs:List Addr) (N:aq) (v:V) (P:aY),(vs=[.ref x,v])->(cA C H x dx b d t g f ts gs N)->(N.Ok)->(cD H v P)->(pX N P)->(iz P)->(C9 P)->((d4 N P).length<=100)->(bV (dj N P) H Q)->O9 C K vs H Q aB
inductive O8(C:Addr)(K:aj)(vs:List V)(H:Hp)(Q:VK)(aB:XK):Prop
 | mk:∀(x dx b d t g f:Addr) (ts gs:List Addr) (N:aq) (v:V) (P:aY),(vs=[.ref x,v])->(cA C H x dx b d t g f ts gs N)->(N.Ok)->(cD H v P)->(iy N P)->(bV (dj N P) H Q)->O8 C K vs H Q aB
inductive Oz(K:aj)(vs:List V)(H:Hp)(Q:VK)(aB:XK):Prop
 | mk:∀(l:Addr) (us:List V) (ws:List (List Str)),(vs=[.ref l])->(H l=some (.lst us))->(Paired (lH H) us ws)->(ws.flatten.length<=10000)->(bV ws.flatten H Q)->Oz K vs H Q aB
inductive Ph(K:aj)(vs:List V)(H:Hp)(Q:VK)(aB:XK):Prop
 | mk:∀(a l:Addr) (ns:List Str) (is:List Int),(vs=[.ref a,.ref l])->(H a=some (.lst (bq ns)))->(H l=some (.lst (aQ is)))->(is.length<=1000)->((∀i∈is,gw ns i))->(bV (fG ns is) H Q)->Ph K vs H Q aB
inductive OF(C:Addr)(K:aj)(vs:List V)(H:Hp)(Q:VK)(aB:XK):Prop
 | mk:∀(x dx b d t g f p l:Addr) (ts gs:List Addr) (N:aq) (as:List Addr) (us:List V) (bs:List (Int×List Int)),(vs=[.ref x,.ref p])->(cA C H x dx b d t g f ts gs N)->(av K H p us)->(bT us 1=some (.ref l))->(H l=some (.lst (as.map V.ref)))->(hJ H as bs)->(bs.length<=1000)->((∀c∈bs,c.2.length<=1000))->((∀c∈bs,goodW N c))->((bs.flatMap (c8 N)).length<=10000)->(bV (bs.flatMap (c8 N)) H Q)->OF C K vs H Q aB
inductive Pd(K:aj)(vs:List V)(H:Hp)(Q:VK)(aB:XK):Prop
 | mk:∀(l:Addr) (is:List Int),(vs=[.ref l])->(H l=some (.lst (aQ is)))->(is.length<=1000)->((∀n∈is,fS n))->(bV (iJ is) H Q)->Pd K vs H Q aB
inductive OI(C:Addr)(K:aj)(vs:List V)(H:Hp)(Q:VK)(aB:XK):Prop
 | mk:∀(x dx b d t g f p l:Addr) (ts gs:List Addr) (N:aq) (as:List Addr) (us:List V) (bs:List (Int×List Int)),(vs=[.ref x,.ref p])->(cA C H x dx b d t g f ts gs N)->(av K H p us)->(bT us 1=some (.ref l))->(H l=some (.lst (as.map V.ref)))->(hJ H as bs)->(bs.length<=1000)->((∀c∈bs,c.2.length<=1000))->((∀c∈bs,sR N c))->((bs.flatMap (gA N)).length<=10000)->(bV (bs.flatMap (gA N)) H Q)->OI C K vs H Q aB
inductive OC(K:aj)(vs:List V)(H:Hp)(Q:VK)(aB:XK):Prop
 | mk:∀(l:Addr) (m:Mark),(vs=[.ref l])->(H l=some (.lst (cX m)))->(m.length<=1000)->((∀n,some n∈m->n.natAbs<10^1000))->(bV (aT m) H Q)->OC K vs H Q aB
inductive OE(K:aj)(vs:List V)(H:Hp)(Q:VK)(aB:XK):Prop
 | mk:∀(x p l:Addr) (as:List Addr) (us:List V) (ms:List Mark),(vs=[.ref x,.ref p])->(av K H p us)->(bT us 1=some (.ref l))->(H l=some (.lst (as.map V.ref)))->(fQ H as ms)->(ms.length<=1000)->((∀c∈ms,c.length<=1000))->((∀c∈ms,fg c))->((ms.flatMap aT).length<=10000)->(bV (ms.flatMap aT) H Q)->OE K vs H Q aB
inductive Qk(K:aj)(vs:List V)(H:Hp)(Q:VK)(aB:XK):Prop
 | mk:∀(x p l:Addr) (us:List V) (ws:List Int),(vs=[.ref x,.ref p])->(av K H p us)->(bT us 1=some (.ref l))->(H l=some (.lst (aQ ws)))->(ws.length<=1000)->(kn ws)->(bV (aT (ws.map some)) H Q)->Qk K vs H Q aB
inductive PZ(K:aj)(vs:List V)(H:Hp)(Q:VK)(aB:XK):Prop
 | mk:∀(x p l:Addr) (us:List V) (ws:List Int) (k:Int),(vs=[.ref x,.ref p])->(av K H p us)->(bT us 1=some (.ref l))->(bT us 2=some (.int k))->(H l=some (.lst (aQ ws)))->(ws.length<=1000)->(kn ws)->(fS k)->(bV (bj k::aT (ws.map some)) H Q)->PZ K vs H Q aB
inductive PY(C:Addr)(K:aj)(vs:List V)(H:Hp)(Q:VK)(aB:XK):Prop
 | mk:∀(x dx b d t g f p l:Addr) (ts gs:List Addr) (N:aq) (us:List V) (bs:List Int),(vs=[.ref x,.ref p])->(cA C H x dx b d t g f ts gs N)->(av K H p us)->(bT us 1=some (.ref l))->(H l=some (.lst (aQ bs)))->(bs.length<=1000)->((∀i∈bs,gw N.aa i))->(bV (bs.map λi=>N.aa.getD i.toNat ay) H Q)->PY C K vs H Q aB
inductive Qi(C:Addr)(K:aj)(vs:List V)(H:Hp)(Q:VK)(aB:XK):Prop
 | mk:∀(x dx b d t g f p l:Addr) (ts gs:List Addr) (N:aq) (us:List V) (bs:List Int),(vs=[.ref x,.ref p])->(cA C H x dx b d t g f ts gs N)->(av K H p us)->(bT us 1=some (.ref l))->(H l=some (.lst (aQ bs)))->(bs.length<=1000)->((∀i∈bs,gw N.aa i))->(bV (fG N.aa bs) H Q)->Qi C K vs H Q aB
inductive Pm(C:Addr)(K:aj)(vs:List V)(H:Hp)(Q:VK)(aB:XK):Prop
 | mk:∀(x dx b d t g f:Addr) (ts gs:List Addr) (N:aq) (v:V) (r:dA),(vs=[.ref x,v])->(cA C H x dx b d t g f ts gs N)->(hX H v r)->((∀k bs,r=.yes k bs->bs.length<=1000))->(nZ N r)->(bV (f9 N r) H Q)->Pm C K vs H Q aB
inductive OR(C:Addr)(K:aj)(vs:List V)(H:Hp)(Q:VK)(aB:XK):Prop
 | mk:∀(x dx b d t g f p l:Addr) (ts gs:List Addr) (N:aq) (us ws:List V) (rs:List dA),(vs=[.ref x,.ref p])->(cA C H x dx b d t g f ts gs N)->(av K H p us)->(bT us 1=some (.ref l))->(H l=some (.lst ws))->(Paired (hX H) ws rs)->(rs.length<=1000)->((∀k bs,dA.yes k bs∈rs->bs.length<=1000))->((∀r∈rs,nZ N r))->((rs.flatMap (f9 N)).length<=10000)->(bV (rs.flatMap (f9 N)) H Q)->OR C K vs H Q aB
inductive Pn(K:aj)(vs:List V)(H:Hp)(Q:VK)(aB:XK):Prop
 | mk:∀(x:Addr) (N:aq) (v:V) (P:aY),(vs=[.ref x,v])->(cD H v P)->(iz P)->(pX N P)->((d4 N P).length<=10000)->(bV (d4 N P) H Q)->Pn K vs H Q aB
inductive Pg(C:Addr)(K:aj)(vs:List V)(H:Hp)(Q:VK)(aB:XK):Prop
 | mk:∀(x dx b d t g f p:Addr) (ts gs:List Addr) (N:aq) (bs:List (Int×List Int)) (q:aY),(vs=[.ref x,.ref p])->(cA C H x dx b d t g f ts gs N)->(cD H (.ref p) (.most bs q))->(iz (.most bs q))->(jJ N (.most bs q))->((fT N (.most bs q)).length<=10000)->(bV (fT N (.most bs q)) H Q)->Pg C K vs H Q aB
inductive Pl(C:Addr)(K:aj)(vs:List V)(H:Hp)(Q:VK)(aB:XK):Prop
 | mk:∀(x dx b d t g f:Addr) (ts gs:List Addr) (N:aq) (v:V) (P:Option aY),(vs=[.ref x,v])->(cA C H x dx b d t g f ts gs N)->(vz H H v P)->((∀q,P=some q->iz q/\jJ N q/\(d4 N q).length<=10000))->(bV (tK N P) H Q)->Pl C K vs H Q aB
inductive Pk(C:Addr)(K:aj)(vs:List V)(H:Hp)(Q:VK)(aB:XK):Prop
 | mk:∀(x dx b d t g f:Addr) (ts gs:List Addr) (N:aq) (v:V) (P:Option aY),(vs=[.ref x,v])->(cA C H x dx b d t g f ts gs N)->(vz H H v P)->((∀q,P=some q->iz q/\jJ N q/\(d4 N q).length<=10000))->((∀w∈tK N P,w.length<=1600))->(∀H',ae H H'->Q (.str (fo (sg 32) (tK N P))) H')->Pk C K vs H Q aB
def aeQ(K:aj):Sp:=λ_ _ _ _=>False
inductive oQ(i:Nat)(K:aj)(vs:List V)(H:Hp)(Q:VK)(aB:XK):Prop
 | mk:∀(x y:V),(vs=[x,y])->(cb H i x y)->(∀H',ae H H'->Q (.bl true) H')->oQ i K vs H Q aB
abbrev aeM:=oQ 0
abbrev aeN:=oQ 1
abbrev aeO:=oQ 2
abbrev aeP:=oQ 3
abbrev aeL:=oQ 4
inductive Ox(C:Addr)(K:aj)(vs:List V)(H:Hp)(Q:VK)(aB:XK):Prop
 | mk:∀(c dx x:Addr) (r:Str) (m:Int),(vs=[.ref c,.ref x,.str r,.int m])->(H c=some (.ins C dx []))->(r.length<=1000000)->(∀(lw:Addr) (H':Hp),H lw=none->dg c H H'->H' c=some (.ins C dx (uR x lw 0 m))->H' lw=some (.lst (bq (cO 32 r)))->Q .aR H')->Ox C K vs H Q aB
inductive OB(Cn C:Addr)(K:aj)(vs:List V)(H:Hp)(Q:VK)(aB:XK):Prop
 | mk:∀(c:Addr) (ca:CA) (N:aq) (m:Int) (W:List Str) (p:Nat),(vs=[.ref c])->(bN Cn C H c ca N m W p)->(Q (.bl (decide (¬ p<W.length))) H)->OB Cn C K vs H Q aB
def aeK(C:Addr)(K:aj):Sp:=EZ C "row"
inductive E2(Cn C G:Addr)(K:aj)(vs:List V)(H:Hp)(z_2:VK)(E:XK):Prop
 | mk:∀(c:Addr) (ca:CA) (N:aq) (m:Nat) (W:List Str) (p:Nat),(vs=[.ref c])->(bN Cn C H c ca N (m:Int) W p)->(m<=1000000)->(∀e H',ae H H'->H e=none->H' e=some (.xd [("row",.int (m:Int))])->E (.ref G) (some e) H')->E2 Cn C G K vs H z_2 E
inductive Qh(Cn C G:Addr)(K:aj)(vs:List V)(H:Hp)(Q:VK)(E:XK):Prop
 | mk:∀(c:Addr) (ca:CA) (N:aq) (m:Nat) (W:List Str) (p:Nat),(vs=[.ref c])->(bN Cn C H c ca N (m:Int) W p)->(m<=1000000)->(Tk Cn C G E9 Zr H c ca N (m:Int) W p Q E)->Qh Cn C G K vs H Q E
inductive Pq(K:aj)(vs:List V)(H:Hp)(Q:VK)(aB:XK):Prop
 | mk:∀(w:Str) (n:Nat),(vs=[.str w,.int n])->(qF w)->(w.length<=2000)->(n<=1000)->(∀H',ae H H'->Q (match jF n w with|none=>.aR|some c=>.int ((c:Nat):Int)) H')->Pq K vs H Q aB
inductive OJ(Cn C G:Addr)(K:aj)(vs:List V)(H:Hp)(Q:VK)(E:XK):Prop
 | mk:∀(c:Addr) (ca:CA) (N:aq) (m:Nat) (W:List Str) (p:Nat) (w:Str),(vs=[.ref c,.str w])->(bN Cn C H c ca N (m:Int) W p)->(m<=1000000)->(qF w)->(w.length<=2000)->((∀n,bZ w=some n->∀H',ae H H'->Q (.int (n:Int)) H'))->((bZ w=none->∀e H',ae H H'->H e=none->H' e=some (.xd [("row",.int (m:Int))])->E (.ref G) (some e) H'))->OJ Cn C G K vs H Q E
inductive P5(Cn C G:Addr)(K:aj)(vs:List V)(H:Hp)(Q:VK)(E:XK):Prop
 | mk:∀(c:Addr) (ca:CA) (N:aq) (m:Nat) (W:List Str) (p:Nat),(vs=[.ref c])->(bN Cn C H c ca N (m:Int) W p)->(m<=1000000)->(dh W)->(Tk Cn C G (gf N .cnt) qq H c ca N (m:Int) W p Q E)->P5 Cn C G K vs H Q E
inductive Qe(Cn C G:Addr)(K:aj)(vs:List V)(H:Hp)(Q:VK)(E:XK):Prop
 | mk:∀(c:Addr) (ca:CA) (N:aq) (m:Nat) (W:List Str) (p:Nat) (s:Str),(vs=[.ref c,.str s])->(bN Cn C H c ca N (m:Int) W p)->(m<=1000000)->(Tk Cn C G (kO s) Zp H c ca N (m:Int) W p Q E)->Qe Cn C G K vs H Q E
inductive OM(Cn C:Addr)(K:aj)(vs:List V)(H:Hp)(Q:VK)(aB:XK):Prop
 | mk:∀(c:Addr) (ca:CA) (N:aq) (m:Int) (W:List Str) (p:Nat) (w:Str),(vs=[.ref c,.str w])->(bN Cn C H c ca N m W p)->(Q (.bl (decide ((W.drop p).head?=some w))) H)->OM Cn C K vs H Q aB
inductive Po(K:aj)(vs:List V)(H:Hp)(Q:VK)(aB:XK):Prop
 | mk:∀(l:Addr) (ys:List Str) (y:Str),(vs=[.ref l,.str y])->(H l=some (.lst (bq ys)))->(Q (.int (bL ys y)) H)->Po K vs H Q aB
inductive OL(C:Addr)(K:aj)(vs:List V)(H:Hp)(Q:VK)(aB:XK):Prop
 | mk:∀(x dx b d t g f:Addr) (ts gs:List Addr) (N:aq) (y:Str),(vs=[.ref x,.str y])->(cA C H x dx b d t g f ts gs N)->(Q (.int (bL N.az y)) H)->OL C K vs H Q aB
inductive P6(Cn C G:Addr)(K:aj)(vs:List V)(H:Hp)(Q:VK)(E:XK):Prop
 | mk:∀(c:Addr) (ca:CA) (N:aq) (m:Nat) (W:List Str) (p:Nat),(vs=[.ref c])->(bN Cn C H c ca N (m:Int) W p)->(m<=1000000)->(dh W)->(Tk Cn C G (gf N .door) qq H c ca N (m:Int) W p Q E)->P6 Cn C G K vs H Q E
inductive OG(C:Addr)(K:aj)(vs:List V)(H:Hp)(Q:VK)(aB:XK):Prop
 | mk:∀(x dx b d t g f:Addr) (ts gs:List Addr) (N:aq) (y:Str),(vs=[.ref x,.str y])->(cA C H x dx b d t g f ts gs N)->(Q (.int (bL N.aa y)) H)->OG C K vs H Q aB
inductive P4(Cn C G:Addr)(K:aj)(vs:List V)(H:Hp)(Q:VK)(E:XK):Prop
 | mk:∀(c:Addr) (ca:CA) (N:aq) (m:Nat) (W:List Str) (p:Nat),(vs=[.ref c])->(bN Cn C H c ca N (m:Int) W p)->(m<=1000000)->(dh W)->(Tk Cn C G (gf N .dC) qq H c ca N (m:Int) W p Q E)->P4 Cn C G K vs H Q E
inductive Qb(Cn C G:Addr)(K:aj)(vs:List V)(H:Hp)(Q:VK)(E:XK):Prop
 | mk:∀(c:Addr) (ca:CA) (N:aq) (m:Nat) (W:List Str) (p:Nat),(vs=[.ref c])->(bN Cn C H c ca N (m:Int) W p)->(m<=1000000)->(dh W)->(Tk Cn C G (gf N .num) qq H c ca N (m:Int) W p Q E)->Qb Cn C G K vs H Q E
inductive Qa(Cn C G:Addr)(K:aj)(vs:List V)(H:Hp)(Q:VK)(E:XK):Prop
 | mk:∀(c:Addr) (ca:CA) (N:aq) (m:Nat) (W:List Str) (p:Nat),(vs=[.ref c])->(bN Cn C H c ca N (m:Int) W p)->(m<=1000000)->(dh W)->(Tk Cn C G (gf N .eW) qq H c ca N (m:Int) W p Q E)->Qa Cn C G K vs H Q E
inductive P1(Cn C G f1 f2 f3 f4 f5:Addr)(K:aj)(vs:List V)(H:Hp)(Q:VK)(E:XK):Prop
 | mk:∀(c:Addr) (ca:CA) (N:aq) (m:Nat) (W:List Str) (p:Nat) (b e:Str) (k:TK),(vs=[.ref c,.str b,.str e,.ref (zl f1 f2 f3 f4 f5 k)])->(bN Cn C H c ca N (m:Int) W p)->(m<=1000000)->(dh W)->(Tk Cn C G (aU N b e k) DD H c ca N (m:Int) W p Q E)->P1 Cn C G f1 f2 f3 f4 f5 K vs H Q E
inductive P2(Cn C G:Addr)(K:aj)(vs:List V)(H:Hp)(Q:VK)(E:XK):Prop
 | mk:∀(c:Addr) (ca:CA) (N:aq) (m:Nat) (W:List Str) (p:Nat),(vs=[.ref c])->(bN Cn C H c ca N (m:Int) W p)->(m<=1000000)->(dh W)->(Tk Cn C G (tI N .fe) hV H c ca N (m:Int) W p Q E)->P2 Cn C G K vs H Q E
inductive Qc(Cn C G:Addr)(K:aj)(vs:List V)(H:Hp)(Q:VK)(E:XK):Prop
 | mk:∀(c:Addr) (ca:CA) (N:aq) (m:Nat) (W:List Str) (p:Nat),(vs=[.ref c])->(bN Cn C H c ca N (m:Int) W p)->(m<=1000000)->(dh W)->(Tk Cn C G (tI N .pair) hV H c ca N (m:Int) W p Q E)->Qc Cn C G K vs H Q E
inductive P_(Cn C G:Addr)(K:aj)(vs:List V)(H:Hp)(Q:VK)(E:XK):Prop
 | mk:∀(c:Addr) (ca:CA) (N:aq) (m:Nat) (W:List Str) (p:Nat),(vs=[.ref c])->(bN Cn C H c ca N (m:Int) W p)->(m<=1000000)->(dh W)->(Tk Cn C G (tI N .mark) hV H c ca N (m:Int) W p Q E)->P_ Cn C G K vs H Q E
inductive P0(Cn C G:Addr)(K:aj)(vs:List V)(H:Hp)(Q:VK)(E:XK):Prop
 | mk:∀(c:Addr) (ca:CA) (N:aq) (m:Nat) (W:List Str) (p:Nat),(vs=[.ref c])->(bN Cn C H c ca N (m:Int) W p)->(m<=1000000)->(dh W)->(Tk Cn C G (tI N .eA) hV H c ca N (m:Int) W p Q E)->P0 Cn C G K vs H Q E
inductive PH(Cn C G:Addr)(K:aj)(vs:List V)(H:Hp)(Q:VK)(E:XK):Prop
 | mk:∀(c:Addr) (ca:CA) (N:aq) (m:Nat) (W:List Str) (p:Nat),(vs=[.ref c])->(bN Cn C H c ca N (m:Int) W p)->(m<=1000000)->(dh W)->(Tk Cn C G (λR=>(aU N c_ dm .dC R).map λx=>(Itm.rs (.yes true (bU x.1)),x.2)) hV H c ca N (m:Int) W p Q E)->PH Cn C G K vs H Q E
inductive Qg(Cn C G:Addr)(K:aj)(vs:List V)(H:Hp)(Q:VK)(E:XK):Prop
 | mk:∀(c:Addr) (ca:CA) (N:aq) (m:Nat) (W:List Str) (p:Nat),(vs=[.ref c])->(bN Cn C H c ca N (m:Int) W p)->(m<=1000000)->(dh W)->(Tk Cn C G (aU N ba aX .num) DD H c ca N (m:Int) W p Q E)->Qg Cn C G K vs H Q E
inductive PL(Cn C G:Addr)(K:aj)(vs:List V)(H:Hp)(Q:VK)(E:XK):Prop
 | mk:∀(c:Addr) (ca:CA) (N:aq) (m:Nat) (W:List Str) (p:Nat),(vs=[.ref c])->(bN Cn C H c ca N (m:Int) W p)->(m<=1000000)->(dh W)->(Tk Cn C G (λR=>(aU N ba aX .num R).map λx=>(Itm.rs (.yes false (bU x.1)),x.2)) hV H c ca N (m:Int) W p Q E)->PL Cn C G K vs H Q E
inductive Py(Cn C:Addr)(K:aj)(vs:List V)(H:Hp)(Q:VK)(aB:XK):Prop
 | mk:∀(c:Addr),(vs=[.ref c])->(Q .aR H)->Py Cn C K vs H Q aB
inductive P7(Cn C G U:Addr)(K:aj)(vs:List V)(H:Hp)(Q:VK)(E:XK):Prop
 | mk:∀(c:Addr) (ca:CA) (N:aq) (m:Nat) (W:List Str) (p:Nat),(vs=[.ref c,.ref U])->(bN Cn C H c ca N (m:Int) W p)->(m<=1000000)->(dh W)->(Tk Cn C G (tI N .gP) hV H c ca N (m:Int) W p Q E)->P7 Cn C G U K vs H Q E
inductive Qd(Cn C G:Addr)(K:aj)(vs:List V)(H:Hp)(Q:VK)(E:XK):Prop
 | mk:∀(c:Addr) (ca:CA) (N:aq) (m:Nat) (W:List Str) (p:Nat),(vs=[.ref c])->(bN Cn C H c ca N (m:Int) W p)->(m<=1000000)->(dh W)->(Tk Cn C G (tI N .gP) hV H c ca N (m:Int) W p Q E)->Qd Cn C G K vs H Q E
inductive Qf(Cn C G f1 f2 f3 f4 f5 f6:Addr)(K:aj)(vs:List V)(H:Hp)(Q:VK)(E:XK):Prop
 | mk:∀(c:Addr) (ca:CA) (N:aq) (m:Nat) (W:List Str) (p:Nat) (k:EK),(vs=[.ref c,.ref (zj f1 f2 f3 f4 f5 f6 k)])->(bN Cn C H c ca N (m:Int) W p)->(m<=1000000)->(dh W)->(Tk Cn C G (λR=>(bC N k R).map λx=>(x,[])) Zq H c ca N (m:Int) W p Q E)->Qf Cn C G f1 f2 f3 f4 f5 f6 K vs H Q E
inductive PD(Cn C G:Addr)(K:aj)(vs:List V)(H:Hp)(Q:VK)(E:XK):Prop
 | mk:∀(c:Addr) (ca:CA) (N:aq) (m:Nat) (W:List Str) (p:Nat),(vs=[.ref c])->(bN Cn C H c ca N (m:Int) W p)->(m<=1000000)->(dh W)->(Tk Cn C G (λR=>(bC N .fe R).map λx=>(aY.wr true (x.map gW),[])) jN H c ca N (m:Int) W p Q E)->PD Cn C G K vs H Q E
inductive Pp(Cn C G:Addr)(K:aj)(vs:List V)(H:Hp)(Q:VK)(E:XK):Prop
 | mk:∀(c:Addr) (ca:CA) (N:aq) (m:Nat) (W:List Str) (p:Nat),(vs=[.ref c])->(bN Cn C H c ca N (m:Int) W p)->(m<=1000000)->(dh W)->(Tk Cn C G (λR=>(bC N .pair R).map λx=>(aY.wr false (x.map gW),[])) jN H c ca N (m:Int) W p Q E)->Pp Cn C G K vs H Q E
inductive Pu(Cn C G:Addr)(K:aj)(vs:List V)(H:Hp)(Q:VK)(E:XK):Prop
 | mk:∀(c:Addr) (ca:CA) (N:aq) (m:Nat) (W:List Str) (p:Nat),(vs=[.ref c])->(bN Cn C H c ca N (m:Int) W p)->(m<=1000000)->(dh W)->(Tk Cn C G (λR=>(bC N .mark R).map λx=>(aY.mk .fence (x.map gM),[])) jN H c ca N (m:Int) W p Q E)->Pu Cn C G K vs H Q E
inductive PC(Cn C G:Addr)(K:aj)(vs:List V)(H:Hp)(Q:VK)(E:XK):Prop
 | mk:∀(c:Addr) (ca:CA) (N:aq) (m:Nat) (W:List Str) (p:Nat),(vs=[.ref c])->(bN Cn C H c ca N (m:Int) W p)->(m<=1000000)->(dh W)->(Tk Cn C G (λR=>(bC N .eA R).map λx=>(aY.mk .room (x.map gM),[])) jN H c ca N (m:Int) W p Q E)->PC Cn C G K vs H Q E
inductive PK(Cn C G:Addr)(K:aj)(vs:List V)(H:Hp)(Q:VK)(E:XK):Prop
 | mk:∀(c:Addr) (ca:CA) (N:aq) (m:Nat) (W:List Str) (p:Nat),(vs=[.ref c])->(bN Cn C H c ca N (m:Int) W p)->(m<=1000000)->(dh W)->(Tk Cn C G (λR=>(bC N .eA R).map λx=>(aY.mk .wants (x.map gM),[])) jN H c ca N (m:Int) W p Q E)->PK Cn C G K vs H Q E
inductive Pt(Cn C G:Addr)(K:aj)(vs:List V)(H:Hp)(Q:VK)(E:XK):Prop
 | mk:∀(c:Addr) (ca:CA) (N:aq) (m:Nat) (W:List Str) (p:Nat),(vs=[.ref c])->(bN Cn C H c ca N (m:Int) W p)->(m<=1000000)->(dh W)->(Tk Cn C G (λR=>(aU N ba aX .num R).map λx=>(aY.b3 (bU x.1),x.2)) jN H c ca N (m:Int) W p Q E)->Pt Cn C G K vs H Q E
inductive PF(Cn C G:Addr)(K:aj)(vs:List V)(H:Hp)(Q:VK)(E:XK):Prop
 | mk:∀(c:Addr) (ca:CA) (N:aq) (m:Nat) (W:List Str) (p:Nat),(vs=[.ref c])->(bN Cn C H c ca N (m:Int) W p)->(m<=1000000)->(dh W)->(Tk Cn C G (mY N) jN H c ca N (m:Int) W p Q E)->PF Cn C G K vs H Q E
inductive Pr(Cn C G:Addr)(K:aj)(vs:List V)(H:Hp)(Q:VK)(E:XK):Prop
 | mk:∀(c:Addr) (ca:CA) (N:aq) (m:Nat) (W:List Str) (p:Nat),(vs=[.ref c])->(bN Cn C H c ca N (m:Int) W p)->(m<=1000000)->(dh W)->(Tk Cn C G (λR=>(bC N .dC R).map λx=>(aY.st true (x.map gI),[])) jN H c ca N (m:Int) W p Q E)->Pr Cn C G K vs H Q E
inductive PM(Cn C G:Addr)(K:aj)(vs:List V)(H:Hp)(Q:VK)(E:XK):Prop
 | mk:∀(c:Addr) (ca:CA) (N:aq) (m:Nat) (W:List Str) (p:Nat),(vs=[.ref c])->(bN Cn C H c ca N (m:Int) W p)->(m<=1000000)->(dh W)->(Tk Cn C G (λR=>(bC N .dC R).map λx=>(aY.st false (x.map gI),[])) jN H c ca N (m:Int) W p Q E)->PM Cn C G K vs H Q E
inductive Pw(Cn C G:Addr)(K:aj)(vs:List V)(H:Hp)(Q:VK)(E:XK):Prop
 | mk:∀(c:Addr) (ca:CA) (N:aq) (m:Nat) (W:List Str) (p:Nat),(vs=[.ref c])->(bN Cn C H c ca N (m:Int) W p)->(m<=1000000)->(dh W)->(Tk Cn C G (λR=>(bC N .gP R).map λx=>(aY.kept (x.map gR),[])) jN H c ca N (m:Int) W p Q E)->Pw Cn C G K vs H Q E
inductive P9(Cn C G U:Addr)(K:aj)(vs:List V)(H:Hp)(Q:VK)(E:XK):Prop
 | mk:∀(c:Addr) (ca:CA) (N:aq) (m:Nat) (W:List Str) (p:Nat),(vs=[.ref c,.ref U])->(bN Cn C H c ca N (m:Int) W p)->(m<=1000000)->(dh W)->(Tk Cn C G (ie N) jN H c ca N (m:Int) W p Q E)->P9 Cn C G U K vs H Q E
inductive Px(Cn C G:Addr)(K:aj)(vs:List V)(H:Hp)(Q:VK)(E:XK):Prop
 | mk:∀(c:Addr) (ca:CA) (N:aq) (m:Nat) (W:List Str) (p:Nat),(vs=[.ref c])->(bN Cn C H c ca N (m:Int) W p)->(m<=1000000)->(dh W)->(Tk Cn C G (tV N) jN H c ca N (m:Int) W p Q E)->Px Cn C G K vs H Q E
inductive P8(Cn C G U:Addr)(K:aj)(vs:List V)(H:Hp)(Q:VK)(E:XK):Prop
 | mk:∀(c:Addr) (ca:CA) (N:aq) (m:Nat) (W:List Str) (p:Nat),(vs=[.ref c,.ref U])->(bN Cn C H c ca N (m:Int) W p)->(m<=1000000)->(dh W)->(Tk Cn C G (dE N) vz H c ca N (m:Int) W p Q E)->P8 Cn C G U K vs H Q E
inductive OA(C:Addr)(K:aj)(vs:List V)(H:Hp)(Q:VK)(aB:XK):Prop
 | mk:∀(x dx b d t g f p:Addr) (ts gs:List Addr) (N:aq) (ds:List Int),(vs=[.ref x,.ref p])->(cA C H x dx b d t g f ts gs N)->(ai K H p (aQ ds))->(ds.length<=1000)->(∀H',ae H H'->Q (.bl (uT N.az.length ds)) H')->OA C K vs H Q aB
inductive PU(C:Addr)(K:aj)(vs:List V)(H:Hp)(Q:VK)(aB:XK):Prop
 | mk:∀(x dx b d t g f p l:Addr) (ts gs as:List Addr) (N:aq) (us:List V) (bs:List (Int×List Int)),(vs=[.ref x,.ref p])->(cA C H x dx b d t g f ts gs N)->(av K H p us)->(bT us 1=some (.ref l))->(H l=some (.lst (as.map V.ref)))->(hJ H as bs)->(bs.length<=1000)->((∀c∈bs,c.2.length<=1000))->(∀H',ae H H'->Q (.bl (oO N.az.length bs)) H')->PU C K vs H Q aB
inductive OH(C:Addr)(K:aj)(vs:List V)(H:Hp)(Q:VK)(aB:XK):Prop
 | mk:∀(x dx b d t g f p l:Addr) (ts gs as:List Addr) (N:aq) (us:List V) (bs:List (Int×List Int)),(vs=[.ref x,.ref p])->(cA C H x dx b d t g f ts gs N)->(av K H p us)->(bT us 1=some (.ref l))->(H l=some (.lst (as.map V.ref)))->(hJ H as bs)->(bs.length<=1000)->(∀H',ae H H'->Q (.bl (CS N.az.length bs)) H')->OH C K vs H Q aB
inductive OP(C:Addr)(K:aj)(vs:List V)(H:Hp)(Q:VK)(aB:XK):Prop
 | mk:∀(x dx b d t g f p:Addr) (ts gs:List Addr) (N:aq) (us:List V),(vs=[.ref x,.ref p])->(cA C H x dx b d t g f ts gs N)->(ai K H p us)->(Q (.bl (decide (us.length=N.aa.length))) H)->OP C K vs H Q aB
inductive ON(C:Addr)(K:aj)(vs:List V)(H:Hp)(Q:VK)(aB:XK):Prop
 | mk:∀(x dx b d t g f p:Addr) (ts gs:List Addr) (N:aq) (m:Mark),(vs=[.ref x,.ref p])->(cA C H x dx b d t g f ts gs N)->(ai K H p (cX m))->(m.length<=1000)->(∀H',ae H H'->Q (.bl (jR N.aa.length m)) H')->ON C K vs H Q aB
inductive Pe(C:Addr)(K:aj)(vs:List V)(H:Hp)(Q:VK)(aB:XK):Prop
 | mk:∀(x dx b d t g f p l:Addr) (ts gs as:List Addr) (N:aq) (us:List V) (ms:List Mark),(vs=[.ref x,.ref p])->(cA C H x dx b d t g f ts gs N)->(av K H p us)->(bT us 1=some (.ref l))->(H l=some (.lst (as.map V.ref)))->(fQ H as ms)->(ms.length<=1000)->((∀c∈ms,c.length<=1000))->(∀H',ae H H'->Q (.bl (tq N.aa.length ms)) H')->Pe C K vs H Q aB
inductive OD(C:Addr)(K:aj)(vs:List V)(H:Hp)(Q:VK)(aB:XK):Prop
 | mk:∀(x dx b d t g f p l:Addr) (ts gs as:List Addr) (N:aq) (us:List V) (ms:List Mark),(vs=[.ref x,.ref p])->(cA C H x dx b d t g f ts gs N)->(av K H p us)->(bT us 1=some (.ref l))->(H l=some (.lst (as.map V.ref)))->(fQ H as ms)->(ms.length<=1000)->((∀c∈ms,c.length<=1000))->(∀H',ae H H'->Q (.bl (pN N.aa.length ms)) H')->OD C K vs H Q aB
inductive Qj(C:Addr)(K:aj)(vs:List V)(H:Hp)(Q:VK)(aB:XK):Prop
 | mk:∀(x dx b d t g f p l:Addr) (ts gs:List Addr) (N:aq) (us:List V) (ws:List Int),(vs=[.ref x,.ref p])->(cA C H x dx b d t g f ts gs N)->(av K H p us)->(bT us 1=some (.ref l))->(H l=some (.lst (aQ ws)))->(Q (.bl (wF N.aa.length ws)) H)->Qj C K vs H Q aB
inductive PV(C:Addr)(K:aj)(vs:List V)(H:Hp)(Q:VK)(aB:XK):Prop
 | mk:∀(x dx b d t g f p l:Addr) (ts gs:List Addr) (N:aq) (us:List V) (bs:List Int),(vs=[.ref x,.ref p])->(cA C H x dx b d t g f ts gs N)->(N.aa.length<=6)->(av K H p us)->(bT us 1=some (.ref l))->(H l=some (.lst (aQ bs)))->(bs.length<=1000)->(∀H',ae H H'->Q (.bl (mW N.aa.length bs)) H')->PV C K vs H Q aB
inductive PN(C:Addr)(K:aj)(vs:List V)(H:Hp)(Q:VK)(aB:XK):Prop
 | mk:∀(x dx b d t g f p l:Addr) (ts gs:List Addr) (N:aq) (k:Bool) (bs:List Int),(vs=[.ref x,.ref p])->(cA C H x dx b d t g f ts gs N)->(N.aa.length<=6)->(H p=some (.tup [.str (kindS k),.ref l]))->(H l=some (.lst (aQ bs)))->(bs.length<=1000)->(∀H',ae H H'->Q (.bl (oN N.aa.length (.yes k bs))) H')->PN C K vs H Q aB
inductive OQ(C:Addr)(K:aj)(vs:List V)(H:Hp)(Q:VK)(aB:XK):Prop
 | mk:∀(x dx b d t g f p l:Addr) (ts gs:List Addr) (N:aq) (us ws:List V) (rs:List dA),(vs=[.ref x,.ref p])->(cA C H x dx b d t g f ts gs N)->(N.aa.length<=6)->(av K H p us)->(bT us 1=some (.ref l))->(H l=some (.lst ws))->(Paired (hX H) ws rs)->(rs.length<=1000)->((∀k bs,dA.yes k bs∈rs->bs.length<=1000))->(∀H',ae H H'->Q (.bl (rs.all (oN N.aa.length))) H')->OQ C K vs H Q aB
inductive Pf(C:Addr)(K:aj)(vs:List V)(H:Hp)(Q:VK)(aB:XK):Prop
 | mk:∀(x dx b d t g f p:Addr) (ts gs:List Addr) (N:aq) (bs:List (Int×List Int)) (q:aY),(vs=[.ref x,.ref p])->(cA C H x dx b d t g f ts gs N)->(N.aa.length<=6)->(cD H (.ref p) (.most bs q))->(iz (.most bs q))->(∀H',ae H H'->Q (.bl (lT N.aa.length N.az.length (.most bs q))) H')->Pf C K vs H Q aB
inductive Ql(C:Addr)(K:aj)(vs:List V)(H:Hp)(Q:VK)(aB:XK):Prop
 | mk:∀(x dx b d t g f p:Addr) (ts gs:List Addr) (N:aq) (P:aY),(vs=[.ref x,.ref p])->(cA C H x dx b d t g f ts gs N)->(N.aa.length<=6)->(cD H (.ref p) P)->(iz P)->(∀H',ae H H'->Q (.bl (lT N.aa.length N.az.length P)) H')->Ql C K vs H Q aB
inductive Pj(Cn G:Addr)(K:aj)(vs:List V)(H:Hp)(Q:VK)(E:XK):Prop
 | mk:∀(x dx b d t g f:Addr) (ts gs:List Addr) (N:aq) (r:Str) (m:Nat),(vs=[.ref x,.str r,.int (m:Int)])->(cA Cn H x dx b d t g f ts gs N)->(N.aa.length<=6)->(r.length<=1000000)->(m<=1000000)->(dh (cO 32 r))->(uw N (cO 32 r))->((∀P,cN N (cO 32 r)=some P->∀v H',ae H H'->vz H H' v P->Q v H'))->((cN N (cO 32 r)=none->∀e H',ae H H'->H e=none->H' e=some (.xd [("row",.int (m:Int))])->E (.ref G) (some e) H'))->Pj Cn G K vs H Q E
inductive Pz(Cn G:Addr)(K:aj)(vs:List V)(H:Hp)(Q:VK)(E:XK):Prop
 | mk:∀(x dx b d t g f:Addr) (ts gs:List Addr) (N:aq) (r:Str),(vs=[.ref x,.str r])->(cA Cn H x dx b d t g f ts gs N)->(N.aa.length<=6)->(r.length<=1000000)->(dh (cO 32 r))->(uw N (cO 32 r))->((∀P,cN N (cO 32 r)=some P->∀v H',ae H H'->vz H H' v P->Q v H'))->((cN N (cO 32 r)=none->∀e H',ae H H'->H e=none->H' e=some (.xd [("row",.int 1)])->E (.ref G) (some e) H'))->Pz Cn G K vs H Q E
inductive OS(K:aj)(vs:List V)(H:Hp)(Q:VK)(aB:XK):Prop
 | mk:∀(z:Nat) (num:Int) (u:Str),(vs=[.int (z:Int),.int num,.str u])->(1<=z)->(z<=7)->(0<=num)->(num<1000000000)->(u.length<=10)->(∀H',ae H H'->Q (.str (jn (bo u num (z-1)))) H')->OS K vs H Q aB
inductive OT(K:aj)(vs:List V)(H:Hp)(Q:VK)(aB:XK):Prop
 | mk:∀(z:Nat) (num:Int),(vs=[.int (z:Int),.int num])->(1<=z)->(z<=6)->(0<=num)->(num<1000000000)->(bV ((j_ z num).map jn) H Q)->OT K vs H Q aB
inductive OU(C:Addr)(K:aj)(vs:List V)(H:Hp)(Q:VK)(aB:XK):Prop
 | mk:∀(x dx b d t g f:Addr) (ts gs:List Addr) (N:aq) (num:Int),(vs=[.ref x,.int num])->(cA C H x dx b d t g f ts gs N)->(N.Ok)->(0<=num)->(num<1000000000)->(bV ((gJ N num).map jn) H Q)->OU C K vs H Q aB
inductive Pb(C:Addr)(K:aj)(vs:List V)(H:Hp)(Q:VK)(aB:XK):Prop
 | mk:∀(x dx b d t g f:Addr) (ts gs:List Addr) (N:aq) (r:Str),(vs=[.ref x,.str r])->(cA C H x dx b d t g f ts gs N)->(N.aa.length<=6)->(r.length<=1000000)->(dh (cO 32 r))->(uw N (cO 32 r))->(cN N (cO 32 r)=none)->(∀H',ae H H'->Q (.bl true) H')->Pb C K vs H Q aB
inductive wc(K:aj)(vs:List V)(H:Hp)(Q:VK)(aB:XK):Prop
 | mk:∀(a:Addr) (ns:List Int),(vs=[.ref a])->(ai K H a (aQ ns))->(ns.length<=63)->(∀H',Q (.bl true) H')->wc K vs H Q aB
theorem aN(CX:hU)(P:Program)(w:World)(K:aj)(mg:Str->Option Value)(base:Heap)(N:List Str)(q:Str)(sc:Scope)(f:Addr)(cd:Value)(A:Around)(outer:List Env)(s:Shared)(H:Hp)(E:XK):(eJ CX P w K mg base N q sc f cd A outer s H E).K=K:=rfl
theorem aO(X:Cx)(N:List Str)(sc:Scope)(B:cK):(eI X N sc B).K=X.K:=rfl
theorem aP(X:Cx)(N:List Str)(sc:Scope)(B:cK):(fB X N sc B).K=X.K:=rfl
set_option genInjectivity false in
set_option genSizeOf false in
structure rm where
 zx:Addr
 Aa:Addr
 z_:Addr
 nH:Addr
 zM:Addr
 zO:Addr
 zN:Addr
 zI:Addr
 zJ:Addr
 zG:Addr
 zE:Addr
 zH:Addr
 zL:Addr
 zR:Addr
 zU:Addr
 zQ:Addr
 zK:Addr
 zP:Addr
 zF:Addr
 zS:Addr
 si:Addr
 zm:Addr
 zW:Addr
 sd:Addr
 zV:Addr
 se:Addr
 zq:Addr
 lx:Addr
 nY:Addr
 sL:Addr
 nN:Addr
 sN:Addr
 sf:Addr
 sj:Addr
 sk:Addr
 zY:Addr
 kh:Addr
 nG:Addr
 zp:Addr
 nF:Addr
 z9:Addr
 Af:Addr
 z4:Addr
 zt:Addr
 nQ:Addr
 Ac:Addr
 zv:Addr
 zZ:Addr
 zu:Addr
 nR:Addr
 zr:Addr
 jH:Addr
 nV:Addr
 nU:Addr
 Ab:Addr
 nP:Addr
 nW:Addr
 nT:Addr
 nO:Addr
 sG:Addr
 Ae:Addr
 sI:Addr
 sC:Addr
 sM:Addr
 nX:Addr
 Ad:Addr
 sE:Addr
 so:Addr
 sx:Addr
 sD:Addr
 sH:Addr
 su:Addr
 sF:Addr
 sq:Addr
 sJ:Addr
 sy:Addr
 sA:Addr
 zo:Addr
 nM:Addr
 nJ:Addr
 zy:Addr
 zw:Addr
 jg:Addr
 ia:Addr
 ib:Addr
 kj:Addr
 z8:Addr
 nK:Addr
 nL:Addr
 Ag:Addr
 zX:Addr
 z5:Addr
 zB:Addr
 zC:Addr
 zD:Addr
 zT:Addr
 zA:Addr
 aC:Addr
 bc:Addr
 cf:Addr
 a_:Addr
 iu:Addr
 iP:Addr
 iw:Addr
 ix:Addr
 iQ:Addr
 iR:Addr
 rz:Addr
 rq:Addr
 rn:Addr
 rp:Addr
 pI:Addr
 pG:Addr
 pH:Addr
set_option genInjectivity false in
set_option genSizeOf false in
structure wW where
 xO:FuncData
 yN:FuncData
 yM:FuncData
 C3:FuncData
 yc:FuncData
 ye:FuncData
 yd:FuncData
 xZ:FuncData
 x_:FuncData
 xX:FuncData
 xV:FuncData
 xY:FuncData
 yb:FuncData
 yh:FuncData
 yk:FuncData
 yg:FuncData
 ya:FuncData
 yf:FuncData
 xW:FuncData
 yi:FuncData
 rX:FuncData
 xy:FuncData
 yp:FuncData
 xF:FuncData
 yl:FuncData
 xI:FuncData
 xC:FuncData
 xE:FuncData
 zb:FuncData
 yR:FuncData
 yQ:FuncData
 y_:FuncData
 xR:FuncData
 yo:FuncData
 rY:FuncData
 yr:FuncData
 ke:FuncData
 C1:FuncData
 xB:FuncData
 C0:FuncData
 yL:FuncData
 y8:FuncData
 yv:FuncData
 xJ:FuncData
 yW:FuncData
 y4:FuncData
 xM:FuncData
 yt:FuncData
 xK:FuncData
 yX:FuncData
 xG:FuncData
 yV:FuncData
 y1:FuncData
 yZ:FuncData
 yT:FuncData
 yU:FuncData
 y2:FuncData
 yY:FuncData
 yS:FuncData
 yG:FuncData
 y7:FuncData
 yI:FuncData
 yB:FuncData
 rZ:FuncData
 y3:FuncData
 y6:FuncData
 yE:FuncData
 yu:FuncData
 yy:FuncData
 yD:FuncData
 yH:FuncData
 yx:FuncData
 yF:FuncData
 yw:FuncData
 yJ:FuncData
 yz:FuncData
 yA:FuncData
 xA:FuncData
 yO:FuncData
 xH:FuncData
 xP:FuncData
 xN:FuncData
 ym:FuncData
 xD:FuncData
 za:FuncData
 yP:FuncData
 yK:FuncData
 xQ:FuncData
 yn:FuncData
 zc:FuncData
 yq:FuncData
 yC:FuncData
 xS:FuncData
 xT:FuncData
 xU:FuncData
 yj:FuncData
 rW:FuncData
structure Txt(w:World)(K:aj)(mg:Str->Option Value)(AR:rm)(FR:wW):Prop where
 QQ:Df K mg "is_name" "is_name" MW AR.zx FR.xO ["word"]
 Fy:Df K mg "refuse_bad_names" "refuse_bad_names" NV AR.Aa FR.yN ["names","least","most"]
 BD:Df K mg "refuse_bad_bags" "refuse_bad_bags" NU AR.z_ FR.yM ["bags","many","width"]
 wV:j7 K "__init__" "Net.__init__" tR AR.nH FR.C3
 CF:Binds K FR.C3 ["self","bowls","doors","takes","gives","first"] []
 lP:Df K mg "_law_mixed" "_law_mixed" Nd AR.zM FR.yc ["script","k"]
 Fm:Df K mg "_law_names" "_law_names" Ng AR.zO FR.ye ["script","k","many"]
 QW:Df K mg "_law_named_net" "_law_named_net" Nf AR.zN FR.yd ["script"]
 wz:Df K mg "_law_count" "_law_count" M_ AR.zI FR.xZ ["cell","j"]
 Fl:Df K mg "_law_doors" "_law_doors" Na AR.zJ FR.x_ ["cell","many"]
 Fi:Df K mg "_law_blocks" "_law_blocks" M8 AR.zG FR.xX ["cell","many"]
 qS:Df K mg "_law_bag" "_law_bag" M6 AR.zE FR.xV ["cell","size","sign"]
 Fj:Df K mg "_law_bowls" "_law_bowls" M9 AR.zH FR.xY ["cell","size"]
 QV:Df K mg "_law_mark" "_law_mark" Nc AR.zL FR.yb ["cell","size"]
 QX:Df K mg "_law_reason" "_law_reason" Nk AR.zR FR.yh ["cell","size"]
 BA:Df K mg "_law_rows_of" "_law_rows_of" Nn AR.zU FR.yk ["kind","cell","size"]
 Fo:Df K mg "_law_paper" "_law_paper" Ni AR.zQ FR.yg ["cell","size","many"]
 Bz:Df K mg "_law_list_row" "_law_list_row" Nb AR.zK FR.ya ["names","places"]
 Fn:Df K mg "_law_pair_row" "_law_pair_row" Nh AR.zP FR.yf ["net","pair"]
 oU:Df K mg "_law_bag_row" "_law_bag_row" M7 AR.zF FR.xW ["bag"]
 Fp:Df K mg "_law_reason_row" "_law_reason_row" Nl AR.zS FR.yi ["net","reason"]
 wA:Df K mg "_law_pieces" "_law_pieces" Nj AR.si FR.rX ["net","paper"]
 wu:Df K mg "all_words" "all_words" MH AR.zm FR.xy ["lists"]
 Fq:Df K mg "names_words" "names_words" Nu AR.zW FR.yp ["names","places"]
 Fg:Df K mg "blocks_words" "blocks_words" MN AR.sd FR.xF ["net","paper"]
 QZ:Df K mg "loops_words" "loops_words" Np AR.zV FR.yl ["loops"]
 QN:Df K mg "branch_words" "branch_words" MQ AR.se FR.xI ["net","paper"]
 Bx:Df K mg "bag_words" "bag_words" MK AR.zq FR.xC ["bag"]
 Ff:Df K mg "bags_words" "bags_words" MM AR.lx FR.xE ["net","paper"]
 BM:Df K mg "weights_words" "weights_words" Oh AR.nY FR.zb ["net","paper"]
 Rj:Df K mg "sum_words" "sum_words" NZ AR.sL FR.yR ["net","paper"]
 Ri:Df K mg "set_words" "set_words" NY AR.nN FR.yQ ["net","paper"]
 Rk:Df K mg "trap_words" "trap_words" Of AR.sN FR.y_ ["net","reason"]
 QS:Df K mg "kept_words" "kept_words" MZ AR.sf FR.xR ["net","paper"]
 Q2:Df K mg "most_words" "most_words" Nt AR.sj FR.yo ["net","paper"]
 t5:Df K mg "paper_words" "paper_words" Nx AR.sk FR.rY ["net","paper"]
 Fs:Df K mg "paper_text" "paper_text" Nw AR.zY FR.yr ["net","paper"]
 t4:Df K mg "_law_alike" "_law_alike" M1 AR.kh FR.ke ["found","due"]
 wU:j7 K "__init__" "Cursor.__init__" tQ AR.nG FR.C1
 CD:Binds K FR.C1 ["self","net","row","number"] []
 wx:Df K mg "at_end" "at_end" MJ AR.zp FR.xB ["cursor"]
 wR:j7 K "__init__" "BadPaper.__init__" tP AR.nF FR.C0
 xh:Binds K FR.C0 ["self","words","row"] []
 lQ:Df K mg "refuse" "refuse" NT AR.z9 FR.yL ["cursor"]
 lR:Df K mg "take_word" "take_word" Oe AR.Af FR.y8 ["cursor"]
 Q6:Df K mg "read_count" "read_count" NA AR.z4 FR.yv ["word","figures"]
 wy:Df K mg "count_or_refuse" "count_or_refuse" MS AR.zt FR.xJ ["cursor","word"]
 t_:Df K mg "take_count" "take_count" N4 AR.nQ FR.yW ["cursor"]
 BJ:Df K mg "take_sign" "take_sign" Ob AR.Ac FR.y4 ["cursor","sign"]
 By:Df K mg "is_ahead" "is_ahead" MU AR.zv FR.xM ["cursor","word"]
 Ft:Df K mg "place_of" "place_of" Ny AR.zZ FR.yt ["names","name"]
 QO:Df K mg "door_at" "door_at" MT AR.zu FR.xK ["net","name"]
 BI:Df K mg "take_door" "take_door" N5 AR.nR FR.yX ["cursor"]
 QL:Df K mg "bowl_at" "bowl_at" MO AR.zr FR.xG ["net","name"]
 t6:Df K mg "take_bowl" "take_bowl" N3 AR.jH FR.yV ["cursor"]
 FE:Df K mg "take_number" "take_number" N9 AR.nV FR.y1 ["cursor"]
 FD:Df K mg "take_mark_number" "take_mark_number" N8 AR.nU FR.yZ ["cursor"]
 qT:Df K mg "take_between" "take_between" N1 AR.Ab FR.yT ["cursor","left","right","take"]
 BH:Df K mg "take_block" "take_block" N2 AR.nP FR.yU ["cursor"]
 FG:Df K mg "take_pair" "take_pair" N_ AR.nW FR.y2 ["cursor"]
 FC:Df K mg "take_mark" "take_mark" N7 AR.nT FR.yY ["cursor"]
 BE:Df K mg "take_beads" "take_beads" N0 AR.nO FR.yS ["cursor"]
 Rb:Df K mg "read_trap" "read_trap" NO AR.sG FR.yG ["cursor"]
 BK:Df K mg "take_weights" "take_weights" Od AR.Ae FR.y7 ["cursor"]
 Rf:Df K mg "read_weight" "read_weight" NQ AR.sI FR.yI ["cursor"]
 Fw:Df K mg "read_none" "read_none" NH AR.sC FR.yB ["cursor"]
 ua:Df K mg "take_form" "take_form" N6 AR.sM FR.rZ ["cursor","forms"]
 FH:Df K mg "take_reason" "take_reason" Oa AR.nX FR.y3 ["cursor"]
 m3:Df K mg "take_to_end" "take_to_end" Oc AR.Ad FR.y6 ["cursor","take"]
 Q_:Df K mg "read_run" "read_run" NL AR.sE FR.yE ["cursor"]
 Q5:Df K mg "read_branch" "read_branch" Nz AR.so FR.yu ["cursor"]
 Fv:Df K mg "read_fence" "read_fence" ND AR.sx FR.yy ["cursor"]
 Fx:Df K mg "read_room" "read_room" NK AR.sD FR.yD ["cursor"]
 Rc:Df K mg "read_wants" "read_wants" NP AR.sH FR.yH ["cursor"]
 Fu:Df K mg "read_fall" "read_fall" NC AR.su FR.yx ["cursor"]
 Ra:Df K mg "read_sum" "read_sum" NM AR.sF FR.yF ["cursor"]
 Q7:Df K mg "read_dry" "read_dry" NB AR.sq FR.yw ["cursor"]
 Rg:Df K mg "read_wet" "read_wet" NR AR.sJ FR.yJ ["cursor"]
 Q8:Df K mg "read_kept" "read_kept" NF AR.sy FR.yz ["cursor"]
 Q9:Df K mg "read_most" "read_most" NG AR.sA FR.yA ["cursor"]
 Fd:Df K mg "are_doors" "are_doors" MI AR.zo FR.xA ["net","doors"]
 Fz:Df K mg "run_well_made" "run_well_made" NW AR.nM FR.yO ["net","paper"]
 QM:Df K mg "branch_well_made" "branch_well_made" MP AR.nJ FR.xH ["net","paper"]
 Fh:Df K mg "is_wide_enough" "is_wide_enough" MX AR.zy FR.xP ["net","bag"]
 QP:Df K mg "is_mark" "is_mark" MV AR.zw FR.xN ["net","mark"]
 BB:Df K mg "marks_well_made" "marks_well_made" Nq AR.jg FR.ym ["net","paper"]
 Fe:Df K mg "bags_well_made" "bags_well_made" ML AR.ia FR.xD ["net","paper"]
 BL:Df K mg "weights_well_made" "weights_well_made" Og AR.ib FR.za ["net","paper"]
 FA:Df K mg "set_well_made" "set_well_made" NX AR.kj FR.yP ["net","paper"]
 Rh:Df K mg "reason_well_made" "reason_well_made" NS AR.z8 FR.yK ["net","reason"]
 QR:Df K mg "kept_well_made" "kept_well_made" MY AR.nK FR.xQ ["net","paper"]
 Q0:Df K mg "most_well_made" "most_well_made" Nr AR.nL FR.yn ["net","paper"]
 Rm:Df K mg "well_made" "well_made" Oi AR.Ag FR.zc ["net","paper"]
 Q4:Df K mg "paper_of_row" "paper_of_row" Nv AR.zX FR.yq ["net","row","number"]
 BC:Df K mg "read_paper" "read_paper" NJ AR.z5 FR.yC ["net","row"]
 jy:Df K mg "_law_bad_bag" "_law_bad_bag" M3 AR.zB FR.xS ["size","number","word"]
 QT:Df K mg "_law_bad_bags" "_law_bad_bags" M4 AR.zC FR.xT ["size","number"]
 QU:Df K mg "_law_bad_words" "_law_bad_words" M5 AR.zD FR.xU ["net","number"]
 QY:Df K mg "_law_refused" "_law_refused" Nm AR.zT FR.yj ["net","row"]
 agN:Df K mg "law" "law" M0 AR.zA FR.rW ["script"]
 dG:mg "len" = none
 j1:mg "all" = none
 BU:mg "set" = none
 kP:mg "list" = none
 fA:mg "range" = none
 oV:mg "int" = none
 gC:mg "str" = none
 e9:mg "isinstance" = none
 BS:mg "bool" = none
 uc:mg "tuple" = none
 F1:mg "any" = none
 F2:mg "sorted" = none
 F0:mg "ValueError" = none
 c9:l6 K AR.aC
 aaC:mg "Net" = some (.ref AR.aC)
 DW:Mk K AR.aC AR.nH
 gy:fR K AR.aC "bowls"
 gZ:fR K AR.aC "doors"
 D1:fR K AR.aC "takes"
 DZ:fR K AR.aC "gives"
 DY:fR K AR.aC "first"
 iC:l6 K AR.bc
 aaB:mg "Cursor" = some (.ref AR.bc)
 DV:Mk K AR.bc AR.nG
 vK:fR K AR.bc "net"
 tu:fR K AR.bc "words"
 oC:fR K AR.bc "place"
 AQ:fR K AR.bc "number"
 KA:mg "HallError" = some (.ref AR.cf)
 ec_HallError:cF K AR.cf dP=true
 xp_HallError:w9 K AR.cf dP
 DN:mg "BadPaper" = some (.ref AR.a_)
 ec_BadPaper:cF K AR.a_ (.ref AR.cf::dP)=true
 wG:rG K AR.a_
 FZ:rH K AR.a_
 Ry:uB K AR.a_ (.ref AR.cf::dP) AR.nF
 FW:fR K AR.a_ "row"
 aay:mg "BadAsk" = some (.ref AR.iu)
 ec_BadAsk:cF K AR.iu (.ref AR.cf::dP)=true
 ajH:rH K AR.iu
 aaz:mg "BadNet" = some (.ref AR.iP)
 ec_BadNet:cF K AR.iP (.ref AR.cf::dP)=true
 xp_BadNet:w9 K AR.iP (.ref AR.cf::dP)
 aaA:mg "BadText" = some (.ref AR.iw)
 ec_BadText:cF K AR.iw (.ref AR.cf::dP)=true
 ajI:rH K AR.iw
 aaD:mg "NoGo" = some (.ref AR.ix)
 ec_NoGo:cF K AR.ix (.ref AR.cf::dP)=true
 ajJ:rH K AR.ix
 aaE:mg "TooWide" = some (.ref AR.iQ)
 ec_TooWide:cF K AR.iQ (.ref AR.cf::dP)=true
 xp_TooWide:w9 K AR.iQ (.ref AR.cf::dP)
 aaF:mg "Unlike" = some (.ref AR.iR)
 ec_Unlike:cF K AR.iR (.ref AR.cf::dP)=true
 xp_Unlike:w9 K AR.iR (.ref AR.cf::dP)
 ag5:GQ K AR.cf
 ne_BadAsk_HallError:AR.iu≠AR.cf
 ne_BadAsk_BadPaper:AR.iu≠AR.a_
 ne_BadNet_HallError:AR.iP≠AR.cf
 ne_BadNet_BadPaper:AR.iP≠AR.a_
 ne_BadText_HallError:AR.iw≠AR.cf
 ne_BadText_BadPaper:AR.iw≠AR.a_
 ne_NoGo_HallError:AR.ix≠AR.cf
 ne_NoGo_BadPaper:AR.ix≠AR.a_
 ne_TooWide_HallError:AR.iQ≠AR.cf
 ne_TooWide_BadPaper:AR.iQ≠AR.a_
 ne_Unlike_HallError:AR.iR≠AR.cf
 ne_Unlike_BadPaper:AR.iR≠AR.a_
 jQ:mg "WRITERS" = some (.ref AR.rz)
 jG:l7 w K AR.rz [(zalias233z "run",AR.sd),(zalias233z "branch",AR.se),(zalias233z "fence",AR.lx),(zalias233z "room",AR.lx),(zalias233z "wants",AR.lx),(zalias233z "fall",AR.nY),(zalias233z "sum",AR.sL),(zalias233z "dry",AR.nN),(zalias233z "wet",AR.nN),(zalias233z "kept",AR.sf),(zalias233z "trap",AR.sN),(zalias233z "weight",AR.nY),(zalias233z "most",AR.sj)]
 gO:mg "READERS" = some (.ref AR.rq)
 gK:l7 w K AR.rq [(zalias233z "run",AR.sE),(zalias233z "branch",AR.so),(zalias233z "fence",AR.sx),(zalias233z "room",AR.sD),(zalias233z "wants",AR.sH),(zalias233z "fall",AR.su),(zalias233z "sum",AR.sF),(zalias233z "dry",AR.sq),(zalias233z "wet",AR.sJ),(zalias233z "kept",AR.sy),(zalias233z "trap",AR.sG),(zalias233z "weight",AR.sI),(zalias233z "most",AR.sA),(zalias233z "none",AR.sC)]
 AK:mg "BOUNDS" = some (.ref AR.rn)
 zd:l7 w K AR.rn [(zalias233z "fence",AR.jg),(zalias233z "room",AR.ia),(zalias233z "fall",AR.ib)]
 mH:mg "MAKERS" = some (.ref AR.rp)
 mf:l7 w K AR.rp [(zalias233z "run",AR.nM),(zalias233z "branch",AR.nJ),(zalias233z "fence",AR.jg),(zalias233z "room",AR.ia),(zalias233z "wants",AR.ia),(zalias233z "fall",AR.ib),(zalias233z "sum",AR.ib),(zalias233z "dry",AR.kj),(zalias233z "wet",AR.kj),(zalias233z "kept",AR.nK),(zalias233z "most",AR.nL)]
 aaI:mg "REASON_FORMS" = some (.ref AR.pI)
 ZQ:∀H,av K H AR.pI [.str (zalias233z "trap"),.str (zalias233z "weight"),.str (zalias233z "none")]
 aaG:mg "BOUND_FORMS" = some (.ref AR.pG)
 ZO:∀H,av K H AR.pG [.str (zalias233z "fence"),.str (zalias233z "room"),.str (zalias233z "fall")]
 aaH:mg "PAPER_FORMS" = some (.ref AR.pH)
 ZP:∀H,av K H AR.pH [.str (zalias233z "run"),.str (zalias233z "branch"),.str (zalias233z "fence"),.str (zalias233z "room"),.str (zalias233z "wants"),.str (zalias233z "fall"),.str (zalias233z "sum"),.str (zalias233z "dry"),.str (zalias233z "wet"),.str (zalias233z "kept"),.str (zalias233z "most"),.str (zalias233z "none")]
 UN:∃t,mg "MOST_SIGNS" = some (.int 8 t)
 UJ:∃t,mg "MOST_BEADS" = some (.int 1000000000 t)
 UI:∃t,mg "LEAST_BOWLS" = some (.int 1 t)
 UK:∃t,mg "MOST_BOWLS" = some (.int 6 t)
 UL:∃t,mg "MOST_DOORS" = some (.int 8 t)
 UM:∃t,mg "MOST_FIGURES" = some (.int 1000 t)
structure TD(w:World)(K:aj)(mg:Str->Option Value)(AR:rm)(FR:wW)(base:Heap):Prop extends Txt w K mg AR FR where
 hD:base.NoDigits
section
set_option maxHeartbeats 4000000
variable{P:Program}{w:World}{K:aj}{mg:Str->Option Value}{base:Heap}{AR:rm}{FR:wW}
theorem abT(T:TD w K mg AR FR base):ax P w K mg base a8 1 AR.zx FR.xO ["word"] (OO K):=by
 obtain⟨_,Vd⟩:=T.UN;refine T.QQ.bz ["word"] ?_;rintro nd _ A _ s H vs Q E hr ⟨x,rfl,hx,hz,hQ⟩;refine⟨_,(ak (au (fH (v3 lI lI ah (qb Hz T.dG xp (q1 (pv 0))) (mR (v:=.int 8) (by rfl) Vd ⟨_,rfl⟩)) (g6 (qb (lh rfl) T.j1 lg (q1 (qm ["sign"] [] (Md (pv 0)) λ_=>(v3 A7 A7 af (pv 0) af)))))))),?_⟩
 try dsimp only[aN,aO,aP,Cx.aD,Cx.aI]
 have Yr:x.cps.size=x.length:=rfl;refine⟨_,rfl,x,rfl,b_ hz (by decide),_,_,rfl,rfl,_,rfl,?_⟩
 have key:∀(k:Bool) (H':Hp),ae H H'->dQ x=k->Q (.bl k) H':=λk H' S e=>e ▸ hQ H' S
 refine dZ (λh1=>?_) (λh1=>?_)
 ·refine⟨_,_,rfl,rfl,_,rfl,?_⟩
  refine dZ (λh8=>?_) (λh8=>?_)
  ·refine⟨_,rfl,x,rfl,hx,?_⟩
   refine HL (λi zs σ H2=>(∃v,σ=[v])/\ae H H2/\zs=((x.cps.toList.take i).map jw).map V.bl) ⟨⟨none,rfl⟩,ae.refl _,rfl⟩ ?_ ?_ ?_
   ·rintro i zs σ H2 hi ⟨_,S,rfl⟩
    rw[aH,aH,lZ];exact kL (by omega)
   ·rintro B i c zs σ H2 hc ⟨⟨v,rfl⟩,S,rfl⟩
    try dsimp only[aG,dW]
    rw[if_pos rfl];have lC:x.cps.toList[i]?=some c:=by simpa using hc
    have fin:∀k:Bool,jw c=k->(((x.cps.toList.take i).map jw).map V.bl++[V.bl k])=((x.cps.toList.take (i+1)).map jw).map V.bl:=λk e=>by
     rw[oX,lC,uf,dX,dX,<-e];rfl
    refine⟨_,rfl,_,_,rfl,rfl,_,rfl,?_⟩;have ea:(!decide ((⟨#[c]⟩:Str).cps.toList<(zalias233z "a").cps.toList))=decide (97<=c):=AJ;have ez:(!decide ((zalias233z "z").cps.toList<(⟨#[c]⟩:Str).cps.toList))=decide (c<=122):=AJ;rw[ea];refine dZ (λg1=>?_) (λg1=>?_)
    ·refine⟨_,_,rfl,rfl,⟨_,rfl⟩,S,?_⟩
     rw[ez];exact fin _ (by unfold jw;simp[g1])
    ·exact⟨⟨_,rfl⟩,S,fin _ (by unfold jw;simp[g1])⟩
   ·rintro zs σ H2 ⟨_,S,rfl⟩ p hp
    rw[<-gE,oY];refine⟨p,_,rfl,ai.of aA,key _ _ (S.upd hp) ?_⟩;rw[Tp];unfold dQ;simp[show 1<=x.length by omega,show x.length<=8 by omega]
  ·refine key _ _ (ae.refl _) ?_
   unfold dQ;simp[show ¬ x.length<=8 by omega]
 ·refine⟨_,rfl,?_⟩
  refine bt (key _ _ (ae.refl _) ?_);unfold dQ;simp[show ¬ 1<=x.length by omega]
theorem Ls(T:TD w K mg AR FR base):ax P w K mg base a8 2 AR.Aa FR.yN ["names","least","most"] (PR K):=by
 refine T.Fy.bz ["names","least","most","name"] ?_;rintro nd _ A _ s H vs Q E hr ⟨a,ys,lo,hi,rfl,ha,h1,h2,h6,hn,hd,hQ⟩;refine⟨_,(ar (bu (ik (EF lI lI (pv 1) (ql (pv 0) T.dG) (pv 2))) (ak tO) bw)
   (ar (qK PassesOwn.never rfl (cT (pv 0)) (qn 3 nd)
   (ak (bu (ik (fZ (T.QQ.ca (abT T) hr aw (q1 (pv 3))))) (ak tO) bw)))
   (ak (bu (qp jx (qb UU T.dG xp (q1 (qy (UX rfl) T.BU Hr (q1 (pv 0))))) (ql (pv 0) T.dG)) (ak tO) bw)))),?_⟩
 try dsimp only[aN,aO,aP,Cx.aD,Cx.aI]
 have hL:(bq ys).length=ys.length:=aH ..;refine⟨_,rfl,_,rfl,a,_,rfl,.inl ha,_,_,rfl,rfl,_,rfl,?_⟩;refine dZ (λ_=>?_) (λg=>absurd (by rw[hL];omega) g)
 refine⟨_,rfl,_,_,rfl,rfl,_,rfl,?_⟩;refine vA (λg=>absurd (by rw[hL];omega) g) (λ_=>?_)
 refine⟨_,rfl,a,rfl,⟨_,ha⟩,sO (K:=K) (a:=a) (xs:=bq ys) (λi σ H2=>∃o,σ=[some (.ref a),some (.int lo),some (.int hi),o]/\ae H H2) ⟨none,rfl,ae.refl _⟩ (λi σ H2 _ jM=>by obtain⟨_,_,S⟩:=jM;exact S.seq ha) ?_ ?_⟩
 ·rintro i x σ H2 hx ⟨o,rfl,S⟩
  obtain⟨y,hy,rfl⟩:=ae0 hx;have ok:=hn y (kS hy);have ol:y.length<=8:=by
   unfold dQ at ok;rw[de,de,decide_eq_true_eq,decide_eq_true_eq] at ok;exact ok.1.2
  refine⟨_,rfl,y,rfl,abJ ok,by omega,λH3 S3=>⟨_,rfl,?_⟩⟩
  rw[ok];refine bt ?_;exact⟨_,rfl,S.trans S3⟩
 ·rintro σ H2 ⟨o,rfl,S⟩
  refine⟨_,rfl,a,ys,rfl,S.seq ha,by omega,λp hp=>?_⟩
  refine⟨p,_,rfl,aA,_,rfl,a,_,rfl,.inl ((S.upd hp).seq ha),rfl,_,rfl,?_⟩;refine vB (by rw[aaP hd,hL]) ?_
  exact hQ _ (S.upd hp)
theorem Ej(T:TD w K mg AR FR base):ax P w K mg base a8 1 AR.z_ FR.yM ["bags","many","width"] (PQ K):=by
 obtain⟨_,U_⟩:=T.UJ;refine T.BD.bz ["bags","many","width","bag","number"] ?_;rintro nd _ A _ s H vs Q E hr ⟨a,as,rs,n,rfl,ha,R,ok,hQ⟩;refine⟨_,(ar (bu (qp jx (ql (pv 0) T.dG) (pv 1)) (ak tO) bw)
   (ak (qK PassesOwn.never rfl (cT (pv 0)) (qn 3 nd)
   (ar (bu (qp jx (ql (pv 3) T.dG) (pv 2)) (ak tO) bw)
   (ak (qK PassesOwn.never rfl (cT (pv 3)) (qn 4 nd)
   (ak (bu (ik (EF lI lI ah (pv 4) (mR (v:=.int 1000000000) (by rfl) U_ ⟨_,rfl⟩))) (ak tO) bw)))))))),?_⟩
 try dsimp only[aN,aO,aP,Cx.aD,Cx.aI]
 have p8:=R.length;refine⟨_,rfl,a,_,rfl,.inl ha,_,rfl,rfl,_,rfl,?_⟩;refine vB (by rw[aH,p8]) ?_
 refine⟨_,rfl,a,rfl,⟨_,ha⟩,sO (K:=K) (a:=a) (xs:=as.map V.ref) (λi σ H2=>∃o3 o4,σ=[some (.ref a),some (.int rs.length),some (.int n),o3,o4]/\H2=H) ⟨none,none,rfl,rfl⟩ (λi σ H2 _ jM=>by obtain⟨_,_,_,e⟩:=jM;exact e ▸ ha) ?_ ?_⟩
 ·rintro i x σ H2 hx ⟨o3,o4,rfl,rfl⟩
  obtain⟨b,jk,rfl⟩:=Bh hx;obtain⟨r,DB,hb⟩:=Paired.getL R jk;obtain⟨Y4,Y3⟩:=ok r (kS DB);refine⟨_,rfl,b,_,rfl,.inl (ai.of hb),_,rfl,rfl,_,rfl,?_⟩;refine vB (by rw[ig,Y4]) ?_
  refine⟨_,rfl,b,rfl,⟨_,ai.of hb⟩,sO (K:=K) (a:=b) (xs:=aQ r) (λi' σ H3=>∃o4,σ=[some (.ref a),some (.int rs.length),some (.int n),some (.ref b),o4]/\H3=H2) ⟨_,rfl,rfl⟩ (λi σ H3 _ jM=>by obtain⟨_,_,e⟩:=jM;exact e ▸ ai.of hb) ?_ ?_⟩
  ·rintro i' y σ H3 hy ⟨o,rfl,rfl⟩
   obtain⟨m,hm,rfl⟩:=ints_get hy;obtain⟨g1,g2⟩:=Y3 m (kS hm);refine⟨_,rfl,_,_,rfl,rfl,_,rfl,?_⟩;refine dZ (λ_=>?_) (λg=>absurd g1 g)
   refine⟨_,_,rfl,rfl,_,rfl,?_⟩;refine vA (λg=>absurd g2 g) (λ_=>?_)
   exact⟨_,rfl,rfl⟩
  ·rintro σ H3 ⟨o,rfl,rfl⟩
   exact⟨_,_,rfl,rfl⟩
 ·rintro σ H2 ⟨o3,o4,rfl,rfl⟩
  exact hQ
theorem aeo:l8 ["self","bowls","doors","takes","gives","first"] ["self","bowls","doors","takes","gives","first"] (eU tR):=⟨rfl,rfl,rfl,by decide +kernel,rfl,by decide +kernel,by decide +kernel⟩
theorem abN(T:TD w K mg AR FR base):ax P w K mg base a8 3 AR.nH FR.C3 ["self","bowls","doors","takes","gives","first"] (Oy AR.aC K):=by
 obtain⟨_,U9⟩:=T.UI;obtain⟨_,Va⟩:=T.UK;obtain⟨_,Vb⟩:=T.UL;refine T.wV.ok aeo (λvs H Q E h=>?_) (λbY A outer s H vs Q E hr h=>?_)
 ·obtain⟨x,dx,pb,pd,pt,pg,pf,ts,gs,N,rfl,hx,ok,hb,hd,ht,tr,hg,gr,hf,hQ⟩:=h
  rfl
 ·obtain⟨x,dx,pb,pd,pt,pg,pf,ts,gs,N,rfl,hx,ok,hb,hd,ht,tr,hg,gr,hf,hQ⟩:=h
  refine⟨_,(ar (eX (T.Fy.ca (Ls T) hr aw (q3 (pv 1) (mR (v:=.int 1) (by rfl) U9 ⟨_,rfl⟩) (mR (v:=.int 6) (by rfl) Va ⟨_,rfl⟩))))
   (ar (eX (T.Fy.ca (Ls T) hr aw (q3 (pv 2) ah (mR (v:=.int 8) (by rfl) Vb ⟨_,rfl⟩))))
   (ar (eX (T.BD.ca (Ej T) hr aw (q3 (pv 3) (ql (pv 2) T.dG) (ql (pv 1) T.dG))))
   (ar (eX (T.BD.ca (Ej T) hr aw (q3 (pv 4) (ql (pv 2) T.dG) (ql (pv 1) T.dG))))
   (ar (eX (T.BD.ca (Ej T) hr aw (q3 (bB (q1 (pv 5))) ah (ql (pv 1) T.dG))))
   (ar (lK (pv 0) (qy uJ T.kP ma (q1 (pv 1))) rfl)
   (ar (lK (pv 0) (qy uJ T.kP ma (q1 (pv 2))) rfl)
   (ar (lK (pv 0) (qm ["bag"] [] (cT (pv 3)) λ_=>(qy uJ T.kP ma (q1 (pv 0)))) rfl)
   (ar (lK (pv 0) (qm ["bag"] [] (cT (pv 4)) λ_=>(qy uJ T.kP ma (q1 (pv 0)))) rfl)
   (ak (lK (pv 0) (qy uJ T.kP ma (q1 (pv 5))) rfl))))))))))),?_⟩
  try dsimp only[aN,aO,aP,Cx.aD,Cx.aI]
  have tl:=tr.length;have gl:=gr.length;have lb:(bq N.aa).length=N.aa.length:=aH ..;have ld:(bq N.az).length=N.az.length:=aH ..;refine⟨_,rfl,pb,N.aa,1,6,rfl,hb,by have:=ok.b1;omega,by have:=ok.b6;omega,by have:=ok.b6;omega,ok.bn,ok.bd,λH1 S1=>?_⟩
  refine⟨_,rfl,pd,N.az,0,8,rfl,S1.seq hd,by omega,by have:=ok.d8;omega,by have:=ok.d8;omega,ok.dn,ok.dd,λH2 S2=>?_⟩
  have iU:=S1.trans S2;refine⟨_,rfl,_,rfl,pd,_,rfl,.inl (iU.seq hd),_,rfl,pb,_,rfl,.inl (iU.seq hb),pt,ts,N.takes,N.aa.length,by rw[ld,lb,ok.tl];rfl,iU.seq ht,tr.same iU,ok.tk,?_⟩
  refine⟨_,rfl,_,rfl,pd,_,rfl,.inl (iU.seq hd),_,rfl,pb,_,rfl,.inl (iU.seq hb),pg,gs,N.gives,N.aa.length,by rw[ld,lb,ok.gl];rfl,iU.seq hg,gr.same iU,ok.gv,?_⟩
  refine⟨_,rfl,by show 1<=sizeLine;decide,λq0 m0=>?_⟩
  have U0:=iU.upd m0 (o:=.lst [V.ref pf]);refine⟨_,rfl,pb,_,rfl,.inl (U0.seq hb),q0,[pf],[N.first],N.aa.length,by rw[lb];rfl,ai.of aA,.cons (U0 _ _ hf) .nil,(λr hr=>by rw[dc.mp hr];exact ok.fs),?_⟩
  generalize upd H2 q0 (.lst [V.ref pf])=H3 at U0;have x3:=U0 _ _ hx;have k3:eS x H H3:=U0.but;refine⟨_,rfl,pb,_,rfl,.inl (U0.seq hb),λb nb=>?_⟩
  have tF:x≠b:=e6 x3 nb;refine⟨_,rfl,x,AR.aC,dx,[],rfl,by rw[bg tF];exact x3,T.c9,T.gy,by show 0<1000;decide,?_⟩
  have k4:eS x H3 _:=eS.step (x:=x) (o:=.lst (bq N.aa)) (o':=.ins AR.aC dx (vN (.ref b))) nb;have x4:=aA (H:=upd H3 b (.lst (bq N.aa))) (a:=x) (o:=.ins AR.aC dx (vN (.ref b)));have b4:upd (upd H3 b (.lst (bq N.aa))) x (.ins AR.aC dx (vN (.ref b))) b=some (.lst (bq N.aa)):=by rw[bg (Ne.symm tF),aA]
  generalize IG:upd (upd H3 b (.lst (bq N.aa))) x (.ins AR.aC dx (vN (.ref b)))=H4 at k4 x4 b4;have a4:=k3.trans k4;refine⟨_,rfl,pd,_,rfl,.inl (by rw[show upd (upd H3 b (.lst (bq N.aa))) x (.ins AR.aC dx (d_ "bowls" (V.ref b) []))=H4 from IG];exact a4.seq hx hd),?_⟩
  rw[show upd (upd H3 b (.lst (bq N.aa))) x (.ins AR.aC dx (d_ "bowls" (V.ref b) []))=H4 from IG]
  intro d nd;have vV:x≠d:=e6 x4 nd;refine⟨_,rfl,x,AR.aC,dx,_,rfl,by rw[bg vV];exact x4,T.c9,T.gZ,by show 1<1000;decide,?_⟩
  rw[adO];have k5:eS x H4 _:=eS.step (x:=x) (o:=.lst (bq N.az)) (o':=.ins AR.aC dx (tw (.ref b) (.ref d))) nd;have x5:=aA (H:=upd H4 d (.lst (bq N.az))) (a:=x) (o:=.ins AR.aC dx (tw (.ref b) (.ref d)));have d5:upd (upd H4 d (.lst (bq N.az))) x (.ins AR.aC dx (tw (.ref b) (.ref d))) d=some (.lst (bq N.az)):=by rw[bg (Ne.symm vV),aA]
  have b5:=k5 _ _ b4 (Ne.symm tF);generalize upd (upd H4 d (.lst (bq N.az))) x (.ins AR.aC dx (tw (.ref b) (.ref d)))=H5 at k5 x5 d5 b5 ⊢;have a5:=a4.trans k5;refine⟨_,rfl,pt,rfl,⟨_,a5.seq hx ht⟩,?_⟩;refine HI (K:=K) (τ:=[]) (λ_=>rfl) (a5.seq hx ht) (a5.rows hx tr) (by have:=ok.tl;have:=ok.d8;omega) λH6 mZ S6 R6 f6 t nt=>?_
  have x6:=S6 _ _ x5;have AW:x≠t:=e6 x6 nt;refine⟨_,rfl,x,AR.aC,dx,_,rfl,by rw[bg AW];exact x6,T.c9,T.D1,by show 2<1000;decide,?_⟩
  rw[adP];have k7:eS x H6 _:=eS.step (x:=x) (o:=.lst (mZ.map V.ref)) (o':=.ins AR.aC dx (tD (.ref b) (.ref d) (.ref t))) nt;have x7:=aA (H:=upd H6 t (.lst (mZ.map V.ref))) (a:=x) (o:=.ins AR.aC dx (tD (.ref b) (.ref d) (.ref t)));have t7:upd (upd H6 t (.lst (mZ.map V.ref))) x (.ins AR.aC dx (tD (.ref b) (.ref d) (.ref t))) t=some (.lst (mZ.map V.ref)):=by rw[bg (Ne.symm AW),aA]
  have b7:=k7 _ _ (S6 _ _ b5) (Ne.symm tF);have d7:=k7 _ _ (S6 _ _ d5) (Ne.symm vV);have r7:=k7.rows x6 R6;generalize upd (upd H6 t (.lst (mZ.map V.ref))) x (.ins AR.aC dx (tD (.ref b) (.ref d) (.ref t)))=H7 at k7 x7 t7 b7 d7 r7 ⊢;have a7:=a5.trans (S6.but.trans k7);refine⟨_,rfl,pg,rfl,⟨_,a7.seq hx hg⟩,?_⟩;refine HI (K:=K) (τ:=[]) (λ_=>rfl) (a7.seq hx hg) (a7.rows hx gr) (by have:=ok.gl;have:=ok.d8;omega) λH8 mq S8 R8 f8 g ng=>?_
  have x8:=S8 _ _ x7;have D_:x≠g:=e6 x8 ng;refine⟨_,rfl,x,AR.aC,dx,_,rfl,by rw[bg D_];exact x8,T.c9,T.DZ,by show 3<1000;decide,?_⟩
  rw[adQ];have k9:eS x H8 _:=eS.step (x:=x) (o:=.lst (mq.map V.ref)) (o':=.ins AR.aC dx (tE (.ref b) (.ref d) (.ref t) (.ref g))) ng;have x9:=aA (H:=upd H8 g (.lst (mq.map V.ref))) (a:=x) (o:=.ins AR.aC dx (tE (.ref b) (.ref d) (.ref t) (.ref g)));have g9:upd (upd H8 g (.lst (mq.map V.ref))) x (.ins AR.aC dx (tE (.ref b) (.ref d) (.ref t) (.ref g))) g=some (.lst (mq.map V.ref)):=by rw[bg (Ne.symm D_),aA]
  have b9:=k9 _ _ (S8 _ _ b7) (Ne.symm tF);have d9:=k9 _ _ (S8 _ _ d7) (Ne.symm vV);have t9:=k9 _ _ (S8 _ _ t7) (Ne.symm AW);have r9:=k9.rows x8 (r7.same S8);have q9:=k9.rows x8 R8;generalize upd (upd H8 g (.lst (mq.map V.ref))) x (.ins AR.aC dx (tE (.ref b) (.ref d) (.ref t) (.ref g)))=H9 at k9 x9 g9 b9 d9 t9 r9 q9 ⊢;have a9:=a7.trans (S8.but.trans k9);refine⟨_,rfl,pf,_,rfl,.inl (a9.seq hx (ai.of hf)),λf nf=>?_⟩
  have K2:x≠f:=e6 x9 nf;refine⟨_,rfl,x,AR.aC,dx,_,rfl,by rw[bg K2];exact x9,T.c9,T.DY,by show 4<1000;decide,?_⟩
  rw[adR];have qv:eS x H9 _:=eS.step (x:=x) (o:=.lst (aQ N.first)) (o':=.ins AR.aC dx (KS b d t g f)) nf;have free:∀{Ha:Hp} {q:Addr} {o:HO},eS x H Ha->Ha x=some o->Ha q=none->H q=none:=λk e n=>k.free (C:=AR.aC) (dx:=dx) (fs:=[]) e n
  refine hQ b d t g f mZ mq _ (λa ha=>?_) (λq o e n=>qv _ _ (a9 _ _ e n) n) ⟨aA,qv _ _ b9 (Ne.symm tF),qv _ _ d9 (Ne.symm vV),qv _ _ t9 (Ne.symm AW),qv.rows x9 r9,qv _ _ g9 (Ne.symm D_),qv.rows x9 q9,by rw[bg (Ne.symm K2),aA]⟩
  rcases dH.mp ha with ha|ha
  ·rcases dH.mp ha with ha|ha
   ·simp only[bE,F8,or_false] at ha
    rcases ha with rfl|rfl|rfl|rfl|rfl
    ·exact free k3 x3 nb
    ·exact free a4 x4 nd
    ·exact free (a5.trans S6.but) x6 nt
    ·exact free (a7.trans S8.but) x8 ng
    ·exact free a9 x9 nf
   ·exact free a5 x5 (f6 a ha)
  ·exact free a7 x7 (f8 a ha)
theorem mM(T:TD w K mg AR FR base):ax P w K mg base a8 1 AR.zM FR.yc ["script","k"] (O3 K):=by
 refine T.lP.bz ["script","k","cell"] ?_;rintro nd _ A _ s H vs Q E hr ⟨a,ns,k,rfl,hS,ji,k1,hQ⟩;refine⟨_,(ar (qs 2 nd ah)
   (ar (bu (qp Et (ql (pv 0) T.dG) ah) (ak (qs 2 nd (ag du (qx eN (pv 0) (ag du (pv 1) (ql (pv 0) T.dG))) ah))) bw)
   (ak (au (ag du (ag i8 (ag dS (ag dS (pv 2) (ag i8 ah (pv 1))) ah) (ag dS ah (ag i8 (ag i8 ah (pv 1)) (pv 1)))) ah))))),?_⟩
 try dsimp only[aN,aO,aP,Cx.aD,Cx.aI]
 have vl:(aQ ns).length=ns.length:=ig ns
 try dsimp only[qP]
 refine Om (λaM H'=>aM=[some (.ref a),some (.int k),some (.int 0)]/\H=H') ?_ (λN hN=>hN _ _ ⟨rfl,rfl⟩)
 rintro _ _ ⟨rfl,rfl⟩;refine Om (λaM H'=>∃c:Int,aM=[some (.ref a),some (.int k),some (.int c)]/\H'=H/\0<=c/\c<2147483647) ?_ ?_
 ·rintro _ _ ⟨c,rfl,rfl,c0,c1⟩
  refine⟨_,rfl,_,rfl,_,_,rfl,rfl,.inl ⟨by decide,by decide⟩,_,_,rfl,rfl,_,_,rfl,rfl,_,rfl,_,_,rfl,rfl,.inl ⟨by decide,by decide⟩,_,rfl,_,_,rfl,rfl,.inr ⟨by omega,by omega⟩,_,_,rfl,rfl,_,_,rfl,rfl,.inl ⟨by omega,by omega⟩,_,_,rfl,rfl,(by show (0:Int)<2147483647;decide),?_⟩
  exact hQ _ (kU _ (by decide)) (j4 _ (by decide))
 intro N hN;refine⟨_,rfl,a,_,rfl,.inl hS,_,_,rfl,rfl,_,rfl,?_⟩;rw[vl];refine dZ (λh=>?_) (λ_=>hN _ _ ⟨0,rfl,rfl,by decide,by decide⟩)
 have h:(0:Int)<ns.length:=h;obtain⟨i,hi⟩:=jA (kU (k:Int) (show (ns.length:Int)≠0 by omega))
 have hi2:=j4 (k:Int) h;have il:i<ns.length:=by omega
 refine⟨_,rfl,_,rfl,_,rfl,a,_,rfl,.inl hS,_,_,rfl,rfl,by show (0:Int)<_;rw[vl];exact h,?_⟩
 rw[vl]
 try dsimp only
 rw[hi];refine⟨a,_,_,_,rfl,rfl,hS,TB il,_,_,rfl,rfl,(by show (0:Int)<2147483647;decide),hN _ _ ⟨_,rfl,rfl,kU _ (by decide),j4 _ (by decide)⟩⟩
theorem Lh(T:TD w K mg AR FR base):ax P w K mg base a8 2 AR.zO FR.ye ["script","k","many"] (O5 K):=by
 refine T.Fm.bz ["script","k","many","way","turn","words","letters","start","fill"] ?_;rintro nd _ A _ s H vs Q E hr ⟨a,ns,k,m,rfl,hS,ji,k5,m8,hQ⟩;refine⟨_,(ar (qs 3 nd (ag du (ag eE (T.lP.ca (mM T) hr aw (q2 (pv 0) (pv 1))) ah) ah))
   (ar (qs 4 nd (ag du (ag eE (T.lP.ca (mM T) hr aw (q2 (pv 0) (ag dS (pv 1) ah))) ah) ah))
   (ar (qs 5 nd (bB (bP af (bP af (bP af (bP af (bP af (q3 af af af))))))))
   (ar (qs 6 nd af)
   (ar (qs 7 nd (ag du (ag eE (T.lP.ca (mM T) hr aw (q2 (pv 0) (ag dS (pv 1) ah))) ah) ah))
   (ar (bu (qp bX (pv 3) ah) (ak (au (qm ["j","words","turn"] [5,4] (fY (by rfl) T.fA (q1 (pv 2))) λ_=>(qx eN (pv 1) (ag du (ag dS (pv 2) (pv 0)) ah))))) bw)
   (ar (bu (qp bX (pv 3) ah) (ak (au (qm ["j","letters","start","turn"] [6,7,4] (fY (by rfl) T.fA (q1 (pv 2))) λ_=>(ag Eu (qx AF (pv 1) (pv 2)) (ag dS ah (ag du (ag dS (pv 3) (ag i8 ah (pv 0))) ah)))))) bw)
   (ar (qs 8 nd (qx AF (pv 6) (ag du (ag eE (T.lP.ca (mM T) hr aw (q2 (pv 0) (ag dS (pv 1) ah))) ah) ah)))
   (ak (au (qm ["j","fill","turn","letters","start"] [8,4,6,7] (fY (by rfl) T.fA (q1 (pv 2))) λ_=>(ag bp (ag bp (ag Eu (pv 1) (pv 2)) (qx AF (pv 3) (ag du (ag dS (pv 4) (ag i8 ah (pv 0))) ah))) (ag Eu (pv 1) (ag LI ah (pv 2))))))))))))))),?_⟩
 try dsimp only[aN,aO,aP,Cx.aD,Cx.aI]
 have sz:=sizeLine_eq;refine⟨_,rfl,_,rfl,a,ns,k,rfl,hS,ji,by omega,λn1 _ _=>?_⟩
 refine⟨_,_,rfl,rfl,⟨by decide,by decide⟩,_,_,rfl,rfl,(by show (0:Int)<3;decide),?_⟩
 refine⟨_,rfl,_,rfl,_,_,rfl,rfl,a,ns,k+1,rfl,hS,ji,by omega,λn2 _ _=>?_⟩
 refine⟨_,_,rfl,rfl,⟨by decide,by decide⟩,_,_,rfl,rfl,(by show (0:Int)<8;decide),?_⟩
 refine⟨by show 8<=sizeLine;decide,λpw npw=>?_⟩
 have U1:=(ae.refl H).upd npw (o:=.lst (bq w8));have g1:=aA (H:=H) (a:=pw) (o:=.lst (bq w8));generalize hG:upd H pw _=H1;have U1:ae H H1:=by rw[<-hG];exact U1
 have g1:H1 pw=some (.lst (bq w8)):=by rw[<-hG];exact g1
 clear hG;refine⟨_,rfl,_,rfl,_,_,rfl,rfl,a,ns,k+2,rfl,U1.seq hS,ji,by omega,λn3 _ _=>?_⟩
 refine⟨_,_,rfl,rfl,⟨by decide,by decide⟩,_,_,rfl,rfl,(by show (0:Int)<26;decide),?_⟩
 obtain⟨t0,t8⟩:=kg (a:=n2/5) (m:=8) (by decide)
 obtain⟨s0,ME⟩:=kg (a:=n3/7) (m:=26) (by decide)
 try dsimp only[qP]
 generalize n2/5%8=t at t0 t8 ⊢;generalize n3/7%26=dv at s0 ME ⊢;generalize n1/3%3=way;refine⟨_,rfl,rfl,_,rfl,?_⟩;refine dZ (λ_=>?_) (λ_=>?_)
 ·refine⟨_,rfl,_,rfl,by omega,by omega,?_⟩
  refine pS (τ:=[some (.ref pw),some (.int t)]) (λi=>V.str (w8.getD ((t+(0+(i:Int)))%8).toNat ay)) (kL (by omega)) (λB i H3 hi S3 Q' hq=>?_) ?_
  ·obtain⟨q1,q2⟩:=kg (a:=t+(0+(i:Int))) (m:=8) (by decide)
   refine⟨_,rfl,_,rfl,_,rfl,_,_,rfl,rfl,_,_,rfl,rfl,(by show (0:Int)<8;decide),pw,_,_,_,rfl,rfl,ai.of (S3 _ _ g1),agS q1 q2,?_⟩
   exact hq H3 (ae.refl _)
  ·intro H3 S3 q nq
   rw[dz];have q1:∀i:Nat,0<=(t+(0+(i:Int)))%8:=λi=>kU _ (by decide)
   have q2:∀i:Nat,(t+(0+(i:Int)))%8<8:=λi=>j4 _ (by decide)
   refine hQ q ((bJ m).map λ(i:Nat)=>w8.getD ((t+(0+(i:Int)))%8).toNat ay) _ ((U1.trans S3).free nq) ((U1.trans S3).upd nq) ?_ (by rw[aH,g_]) ?_ (D7 λi j hi hj e=>?_) (λz=>?_)
   ·rw[aA]
    show _=some (HO.lst (((bJ m).map λ(i:Nat)=>w8.getD ((t+(0+(i:Int)))%8).toNat ay).map V.str))
    rw[ek];rfl
   ·intro y hy
    obtain⟨i,hi,rfl⟩:=bR.mp hy;have:=q1 i;have:=q2 i;exact agU ⟨((t+(0+(i:Int)))%8).toNat,by omega⟩
   ·have a1:=q1 i
    have a2:=q2 i;have a3:=q1 j;have a4:=q2 j;have e2:=congrArg Fin.val (agT ⟨((t+(0+(i:Int)))%8).toNat,by omega⟩ ⟨((t+(0+(j:Int)))%8).toNat,by omega⟩ e)
    have e2:((t+(0+(i:Int)))%8).toNat=((t+(0+(j:Int)))%8).toNat:=e2;omega
   ·obtain⟨i,hi,e⟩:=bR.mp z
    have:=q1 i;have:=q2 i;exact agV ⟨((t+(0+(i:Int)))%8).toNat,by omega⟩ e
 try dsimp only[qP]
 refine⟨_,rfl,rfl,_,rfl,?_⟩;refine dZ (λ_=>?_) (λ_=>?_)
 ·refine⟨_,rfl,_,rfl,by omega,by omega,?_⟩
  refine pS (τ:=[some (.str m_),some (.int dv),some (.int t)]) (λi=>V.str (st (zalias133z (1+(t+3*(0+(i:Int)))%8).toNat (97+dv.toNat)))) (kL (by omega)) (λB i H3 hi S3 Q' hq=>?_) ?_
  ·obtain⟨q1,q2⟩:=kg (a:=t+3*(0+(i:Int))) (m:=8) (by decide)
   refine⟨_,rfl,_,rfl,m_,_,_,rfl,rfl,by rw[Cy,sizeLine_eq];decide,Cw s0 ME,_,rfl,_,rfl,_,_,rfl,rfl,.inl ⟨by decide,by decide⟩,_,_,rfl,rfl,_,_,rfl,rfl,(by show (0:Int)<8;decide),_,_,rfl,rfl,_,_,rfl,rfl,by show 0<=1+(t+3*(0+(i:Int)))%8;omega,by show 1+(t+3*(0+(i:Int)))%8<=100;omega,?_⟩
   exact hq H3 (ae.refl _)
  ·intro H3 S3 q nq
   rw[dz];have q1:∀i:Nat,0<=(t+3*(0+(i:Int)))%8:=λi=>kU _ (by decide)
   have q2:∀i:Nat,(t+3*(0+(i:Int)))%8<8:=λi=>j4 _ (by decide)
   refine hQ q ((bJ m).map λ(i:Nat)=>st (zalias133z (1+(t+3*(0+(i:Int)))%8).toNat (97+dv.toNat))) _ ((U1.trans S3).free nq) ((U1.trans S3).upd nq) ?_ (by rw[aH,g_]) ?_ (D7 λi j hi hj e=>?_) (λz=>?_)
   ·rw[aA]
    show _=some (HO.lst (((bJ m).map λ(i:Nat)=>st (zalias133z (1+(t+3*(0+(i:Int)))%8).toNat (97+dv.toNat))).map V.str))
    rw[ek];rfl
   ·intro y hy
    obtain⟨i,hi,rfl⟩:=bR.mp hy;have:=q1 i;have:=q2 i;exact ad4 (by omega) (by omega) ⟨by omega,by omega⟩
   ·have a1:=q1 i
    have a3:=q1 j;have e2:=ad3 e;omega
   ·obtain⟨i,hi,e⟩:=bR.mp z
    exact ad5 e
 obtain⟨fc,We,Wf,YB⟩:∃fc:Nat,97<=fc/\fc<=122/\True:=⟨97,by decide,by decide,trivial⟩
 refine⟨_,rfl,_,rfl,_,rfl,_,_,rfl,rfl,a,ns,k+3,rfl,U1.seq hS,ji,by omega,λn4 _ _=>?_⟩
 obtain⟨f0,Ii⟩:=kg (a:=n4/11) (m:=26) (by decide)
 refine⟨_,_,rfl,rfl,⟨by decide,by decide⟩,_,_,rfl,rfl,(by show (0:Int)<26;decide),m_,_,_,rfl,rfl,by rw[Cy,sizeLine_eq];decide,Cw f0 Ii,?_⟩
 clear YB We Wf fc;generalize n4/11%26=f at f0 Ii;have hf:97<=97+f.toNat/\97+f.toNat<=122:=⟨by omega,by omega⟩
 generalize 97+f.toNat=fc at hf
 try dsimp only[qP]
 refine⟨_,rfl,_,rfl,by omega,by omega,?_⟩
 have q1:∀i:Nat,0<=(dv+5*(0+(i:Int)))%26:=λi=>kU _ (by decide)
 have q2:∀i:Nat,(dv+5*(0+(i:Int)))%26<26:=λi=>j4 _ (by decide)
 refine pS (τ:=[some (.str ⟨#[fc]⟩),some (.int t),some (.str m_),some (.int dv)]) (λi=>V.str (st (i6 t.toNat fc (97+((dv+5*(0+(i:Int)))%26).toNat)))) (kL (by omega)) (λB i H3 hi S3 Q' hq=>?_) ?_
 ·have z1:(st (zalias133z t.toNat fc)).length<=8:=by rw[oR,iN];omega
  have z2:(st (zalias133z (7-t).toNat fc)).length<=8:=by rw[oR,iN];omega
  refine⟨_,rfl,_,rfl,_,_,rfl,rfl,t0,by omega,_,rfl,_,rfl,_,rfl,_,_,rfl,rfl,.inl ⟨by decide,by decide⟩,_,_,rfl,rfl,_,_,rfl,rfl,(by show (0:Int)<26;decide),m_,_,_,rfl,rfl,by rw[Cy,sizeLine_eq];decide,Cw (q1 i) (q2 i),_,_,rfl,rfl,?_,_,rfl,_,rfl,_,_,rfl,rfl,_,_,rfl,rfl,by show 0<=7-t;omega,by show 7-t<=100;omega,_,_,rfl,rfl,?_,?_⟩
  ·show _+1<=sizeLine
   omega
  ·rw[fO]
   show _+1+_<=sizeLine;have z2:(st (zalias133z ((λi j=>i-j) 7 t:Int).toNat fc)).length<=8:=z2
   omega
  ·have h:=hq H3 (ae.refl _)
   have e:st (zalias133z t.toNat fc)++(⟨#[97+((dv+5*(0+(i:Int)))%26).toNat]⟩:Str)++st (zalias133z (7-t).toNat fc)=st (i6 t.toNat fc (97+((dv+5*(0+(i:Int)))%26).toNat)):=by
    rw[show (⟨#[97+((dv+5*(0+(i:Int)))%26).toNat]⟩:Str)=st [97+((dv+5*(0+(i:Int)))%26).toNat] from rfl,Qr,Qr,show (7-t).toNat=7-t.toNat by omega]
    rfl
   rw[<-e] at h;exact h
 ·intro H3 S3 q nq
  rw[dz];refine hQ q ((bJ m).map λ(i:Nat)=>st (i6 t.toNat fc (97+((dv+5*(0+(i:Int)))%26).toNat))) _ ((U1.trans S3).free nq) ((U1.trans S3).upd nq) ?_ (by rw[aH,g_]) ?_ (D7 λi j hi hj e=>?_) (λz=>?_)
  ·rw[aA]
   show _=some (HO.lst (((bJ m).map λ(i:Nat)=>st (i6 t.toNat fc (97+((dv+5*(0+(i:Int)))%26).toNat))).map V.str))
   rw[ek];rfl
  ·intro y hy
   obtain⟨i,hi,rfl⟩:=bR.mp hy;have:=q1 i;have:=q2 i;exact aaR (by omega) hf ⟨by omega,by omega⟩
  ·have a1:=q1 i
   have a3:=q1 j;have e2:=aaQ e;omega
  ·obtain⟨i,hi,e⟩:=bR.mp z
   exact aaS (by omega) e
theorem ab5(T:TD w K mg AR FR base):ax P w K mg base a8 5 AR.zN FR.yd ["script"] (O4 AR.aC K):=by
 refine T.QW.bz ["script","size","many","bowls","doors","takes","gives","first"] ?_;rintro nd _ A _ s H vs Q E hr ⟨a,ns,rfl,hS,ji,hQ⟩;refine⟨_,(ar (qs 1 nd (ag dS ah (ag du (ag eE (T.lP.ca (mM T) hr aw (q2 (pv 0) ah)) ah) ah)))
   (ar (qs 2 nd (ag du (ag eE (T.lP.ca (mM T) hr aw (q2 (pv 0) ah)) ah) ah))
   (ar (qs 3 nd (T.Fm.ca (Lh T) hr aw (q3 (pv 0) ah (pv 1))))
   (ar (qs 4 nd (T.Fm.ca (Lh T) hr aw (q3 (pv 0) ah (pv 2))))
   (ar (Mm (i:=5) (N':=["d","size","script"]) (nt:=1) (caps:=[1,0]) _ _ (m7.of (by kernel_rfl)) nd rfl rfl (fY (by rfl) T.fA (q1 (pv 2))) (λ_=>(Mc (i:=0) ["d","size","script"] (by decide +kernel) (by rfl))) (λ_=>kG) (λ_=>(qm ["b","script","d"] [2,0] (fY (by rfl) T.fA (q1 (pv 1))) λ_=>(ag du (ag eE (T.lP.ca (mM T) hr aw (q2 (pv 1) (ag dS (ag dS ah (ag i8 ah (pv 2))) (pv 0)))) ah) ah))))
   (ar (Mm (i:=6) (N':=["d","size","script"]) (nt:=1) (caps:=[1,0]) _ _ (m7.of (by kernel_rfl)) nd rfl rfl (fY (by rfl) T.fA (q1 (pv 2))) (λ_=>(Mc (i:=0) ["d","size","script"] (by decide +kernel) (by rfl))) (λ_=>kG) (λ_=>(qm ["b","script","d"] [2,0] (fY (by rfl) T.fA (q1 (pv 1))) λ_=>(ag du (ag eE (T.lP.ca (mM T) hr aw (q2 (pv 1) (ag dS (ag dS ah (ag i8 ah (pv 2))) (pv 0)))) ah) ah))))
   (ar (Bf (i:=7) (N':=["b","script"]) (nt:=1) (caps:=[0]) _ _ (gQ.of (by kernel_rfl)) nd rfl rfl (fY (by rfl) T.fA (q1 (pv 1))) (λ_=>(i_ (i:=0) ["b","script"] (by decide +kernel) (by rfl))) (λ_=>kG) (λ_=>(ag du (ag eE (T.lP.ca (mM T) hr aw (q2 (pv 1) (ag dS ah (pv 0)))) ah) ah)))
   (ak (au (LY T.DW (abN T) (hr.mono (by decide)) (by rfl) T.aaC T.CF .nil aw (bP (pv 3) (bP (pv 4) (q3 (pv 5) (pv 6) (pv 7)))))))))))))),?_⟩
 try dsimp only[aN,aO,aP,Cx.aD,Cx.aI]
 refine⟨_,rfl,a,ns,0,rfl,hS,ji,by decide,λn1 _ _=>?_⟩
 obtain⟨z0,z6⟩:=kg (a:=n1/3) (m:=6) (by decide)
 obtain⟨sz,eM⟩:=jA (show 0<=1+n1/3%6 by omega)
 refine⟨_,_,rfl,rfl,⟨by decide,by decide⟩,_,_,rfl,rfl,(by show (0:Int)<6;decide),_,_,rfl,rfl,?_⟩
 refine⟨_,rfl,a,ns,1,rfl,hS,ji,by decide,λn2 _ _=>?_⟩
 obtain⟨y0,y9⟩:=kg (a:=n2/5) (m:=9) (by decide)
 obtain⟨mn,JP⟩:=jA y0;refine⟨_,_,rfl,rfl,⟨by decide,by decide⟩,_,_,rfl,rfl,(by show (0:Int)<9;decide),?_⟩
 have s1:1<=sz:=by omega
 have s6:sz<=6:=by omega
 have m8:mn<=8:=by omega
 try dsimp only[qP]
 rw[eM,JP];clear eM JP z0 z6 y0 y9;refine⟨_,rfl,_,rfl,a,ns,150,sz,rfl,hS,ji,by decide,by omega,λpb bs H1 nb S1 hb lb okb ndb xyb=>?_⟩
 refine⟨_,rfl,_,rfl,a,ns,160,mn,rfl,S1.seq hS,ji,by decide,m8,λpd ds H2 nd S2 hd ld A4 ndd xyd=>?_⟩
 have iU:=S1.trans S2;refine⟨_,rfl,_,rfl,by omega,by omega,?_⟩
 rw[dz];refine nC (λi zs σ H3=>∃(v:Option V) (as:List Addr) (rs:List (List Int)),σ=[v,some (.int sz),some (.ref a)]/\ae H2 H3/\zs=as.map V.ref/\Rows H3 as rs/\rs.length=i/\∀r∈rs,mL sz r) ⟨none,[],[],rfl,ae.refl _,rfl,.nil,rfl,λr hr=>(nomatch hr)⟩ ?_ ?_ ?_
 ·rintro i zs σ H3 hi ⟨v,as,rs,rfl,S,rfl,R,e,vX⟩
  have:=R.length;rw[aH];exact kL (by omega)
 ·rintro B i zs σ H3 hi ⟨v,as,rs,rfl,S,rfl,R,e,vX⟩
  try dsimp only[aG,dW]
  rw[if_pos rfl];refine⟨_,rfl,_,rfl,by omega,by omega,?_⟩
  rw[dz];refine nC (λj zs σ H4=>∃(v:Option V) (xs:List Int),σ=[v,some (.ref a),some (.int (0+(i:Int)))]/\H4=H3/\zs=aQ xs/\xs.length=j/\∀x∈xs,0<=x/\x<=1000000000) ⟨none,[],rfl,rfl,rfl,rfl,λr hr=>(nomatch hr)⟩ ?_ ?_ ?_
  ·rintro j zs σ H4 hj ⟨v,xs,rfl,rfl,rfl,e',jS⟩
   rw[ig];exact kL (by omega)
  ·rintro B' j zs σ H4 hj ⟨v,xs,rfl,rfl,rfl,e',jS⟩
   try dsimp only[aG,dW]
   rw[if_pos rfl];refine⟨_,rfl,_,rfl,_,_,rfl,rfl,.inl ⟨by decide,by decide⟩,_,_,rfl,rfl,_,rfl,_,_,rfl,rfl,a,ns,2+7*i+j,by rw[show ((2+7*i+j:Nat):Int)=2+7*(0+(i:Int))+(0+(j:Int)) by omega];rfl,(iU.trans S).seq hS,ji,by omega,λn3 _ _=>?_⟩
   obtain⟨w0,w3⟩:=kg (a:=n3/3) (m:=3) (by decide)
   refine⟨_,_,rfl,rfl,⟨by decide,by decide⟩,_,_,rfl,rfl,(by show (0:Int)<3;decide),?_⟩
   exact⟨_,xs++[n3/3%3],rfl,rfl,(FK _ _).symm,by rw[bS,e'];rfl,vI jS ⟨w0,by omega⟩⟩
  ·rintro zs σ H4 ⟨v,xs,rfl,rfl,rfl,e',jS⟩ q nq
   exact⟨_,as++[q],rs++[xs],rfl,S.upd nq,(FN _ _).symm,(R.same ((ae.refl H4).upd nq)).snoc aA,by rw[bS,e];rfl,vI vX ⟨e',jS⟩⟩
 rintro zs σ H3 ⟨v,ts,tk,rfl,S3,rfl,tr,tl,tok⟩ pt npt;have W4:=(ae.refl H3).upd npt (o:=.lst (ts.map V.ref));have ht:=aA (H:=H3) (a:=pt) (o:=.lst (ts.map V.ref));have QI:=tr.same W4;generalize upd H3 pt (.lst (ts.map V.ref))=H4 at W4 ht QI ⊢;have Ck:=S3.trans W4;refine⟨_,rfl,_,rfl,by omega,by omega,?_⟩
 rw[dz];refine nC (λi zs σ H5=>∃(v:Option V) (as:List Addr) (rs:List (List Int)),σ=[v,some (.int sz),some (.ref a)]/\ae H4 H5/\zs=as.map V.ref/\Rows H5 as rs/\rs.length=i/\∀r∈rs,mL sz r) ⟨none,[],[],rfl,ae.refl _,rfl,.nil,rfl,λr hr=>(nomatch hr)⟩ ?_ ?_ ?_
 ·rintro i zs σ H5 hi ⟨v,as,rs,rfl,S,rfl,R,e,vX⟩
  have:=R.length;rw[aH];exact kL (by omega)
 ·rintro B i zs σ H5 hi ⟨v,as,rs,rfl,S,rfl,R,e,vX⟩
  try dsimp only[aG,dW]
  rw[if_pos rfl];refine⟨_,rfl,_,rfl,by omega,by omega,?_⟩
  rw[dz];refine nC (λj zs σ H6=>∃(v:Option V) (xs:List Int),σ=[v,some (.ref a),some (.int (0+(i:Int)))]/\H6=H5/\zs=aQ xs/\xs.length=j/\∀x∈xs,0<=x/\x<=1000000000) ⟨none,[],rfl,rfl,rfl,rfl,λr hr=>(nomatch hr)⟩ ?_ ?_ ?_
  ·rintro j zs σ H6 hj ⟨v,xs,rfl,rfl,rfl,e',jS⟩
   rw[ig];exact kL (by omega)
  ·rintro B' j zs σ H6 hj ⟨v,xs,rfl,rfl,rfl,e',jS⟩
   try dsimp only[aG,dW]
   rw[if_pos rfl];refine⟨_,rfl,_,rfl,_,_,rfl,rfl,.inl ⟨by decide,by decide⟩,_,_,rfl,rfl,_,rfl,_,_,rfl,rfl,a,ns,5+9*i+j,by rw[show ((5+9*i+j:Nat):Int)=5+9*(0+(i:Int))+(0+(j:Int)) by omega];rfl,(iU.trans (Ck.trans S)).seq hS,ji,by omega,λn3 _ _=>?_⟩
   obtain⟨w0,w3⟩:=kg (a:=n3/5) (m:=3) (by decide)
   refine⟨_,_,rfl,rfl,⟨by decide,by decide⟩,_,_,rfl,rfl,(by show (0:Int)<3;decide),?_⟩
   exact⟨_,xs++[n3/5%3],rfl,rfl,(FK _ _).symm,by rw[bS,e'];rfl,vI jS ⟨w0,by omega⟩⟩
  ·rintro zs σ H6 ⟨v,xs,rfl,rfl,rfl,e',jS⟩ q nq
   exact⟨_,as++[q],rs++[xs],rfl,S.upd nq,(FN _ _).symm,(R.same ((ae.refl H6).upd nq)).snoc aA,by rw[bS,e];rfl,vI vX ⟨e',jS⟩⟩
 rintro zs σ H5 ⟨v',gs,gv,rfl,S5,rfl,gr,gl,Wy⟩ pg npg;have W6:=(ae.refl H5).upd npg (o:=.lst (gs.map V.ref));have hg:=aA (H:=H5) (a:=pg) (o:=.lst (gs.map V.ref));have IA:=gr.same W6;generalize upd H5 pg (.lst (gs.map V.ref))=H6 at W6 hg IA ⊢;have w5:=S5.trans W6;refine⟨_,rfl,_,rfl,by omega,by omega,?_⟩
 rw[dz];refine nC (λj zs σ H7=>∃(v:Option V) (xs:List Int),σ=[v,some (.ref a)]/\H7=H6/\zs=aQ xs/\xs.length=j/\∀x∈xs,0<=x/\x<=1000000000) ⟨none,[],rfl,rfl,rfl,rfl,λr hr=>(nomatch hr)⟩ ?_ ?_ ?_
 ·rintro j zs σ H7 hj ⟨v,xs,rfl,rfl,rfl,e',jS⟩
  rw[ig];exact kL (by omega)
 ·rintro B' j zs σ H7 hj ⟨v,xs,rfl,rfl,rfl,e',jS⟩
  try dsimp only[aG,dW]
  rw[if_pos rfl];refine⟨_,rfl,_,rfl,_,_,rfl,rfl,a,ns,90+j,by rw[show ((90+j:Nat):Int)=90+(0+(j:Int)) by omega];rfl,(iU.trans (Ck.trans w5)).seq hS,ji,by omega,λn3 _ _=>?_⟩
  obtain⟨w0,w3⟩:=kg (a:=n3/7) (m:=4) (by decide)
  refine⟨_,_,rfl,rfl,⟨by decide,by decide⟩,_,_,rfl,rfl,(by show (0:Int)<4;decide),?_⟩
  exact⟨_,xs++[n3/7%4],rfl,rfl,(FK _ _).symm,by rw[bS,e'];rfl,vI jS ⟨w0,by omega⟩⟩
 rintro zs σ H7 ⟨v'',fs,rfl,rfl,rfl,fl,Wk⟩ pf npf;have W8:=(ae.refl H7).upd npf (o:=.lst (aQ fs));have hf:=aA (H:=H7) (a:=pf) (o:=.lst (aQ fs));generalize upd H7 pf (.lst (aQ fs))=H8 at W8 hf ⊢;have Cm:=Ck.trans (w5.trans W8);have ok:aq.Ok ⟨bs,ds,tk,gv,fs⟩:=⟨by show 1<=bs.length;omega,by show bs.length<=6;omega,by show ds.length<=8;omega,okb,A4,ndb,ndd,by show tk.length=ds.length;omega,by show gv.length=ds.length;omega,by show ∀r∈tk,mL bs.length r;rw[lb];exact tok,by show ∀r∈gv,mL bs.length r;rw[lb];exact Wy,by show mL bs.length fs;rw[lb];exact⟨fl,Wk⟩⟩
 refine⟨_,rfl,_,rfl,_,rfl,_,rfl,_,rfl,?_⟩;intro x dx nx D2 ne;have nx':upd H8 dx (.own x) x=none:=by rw[bg (Ne.symm ne)];exact nx
 have U:=((ae.refl H8).upd D2 (o:=.own x)).upd nx' (o:=.ins AR.aC dx []);have b8:=U _ _ (Cm _ _ (S2 _ _ hb));have Vu:=U _ _ (Cm _ _ hd);have t8:=U _ _ ((w5.trans W8) _ _ ht);have g8:=U _ _ (W8 _ _ hg);refine⟨x,dx,pb,pd,pt,pg,pf,ts,gs,⟨bs,ds,tk,gv,fs⟩,rfl,aA,ok,ai.of b8,ai.of Vu,ai.of t8,(QI.same (w5.trans W8)).same U,ai.of g8,(IA.same W8).same U,U _ _ hf,λb2 d2 t2 g2 f2 ts2 WA H9 fr kp NI=>⟨rfl,?_⟩⟩
 exact hQ x dx b2 d2 t2 g2 f2 ts2 WA _ H9 ((iU.trans Cm).trans λq o e=>kp q o (U q o e) (e6 e nx)) NI ok xyb xyd
theorem A3(T:TD w K mg AR FR base):ax P w K mg base a8 1 AR.zI FR.xZ ["cell","j"] (OZ K):=by
 refine T.wz.bz ["cell","j","turned","ways"] ?_;rintro nd _ A _ s H vs Q E hr ⟨c,j,rfl,jl,hQ⟩;refine⟨_,(ar (qs 2 nd (ag i8 (ag dS (pv 0) (ag i8 ah (pv 1))) (ag dS (ag i8 (pv 1) (pv 1)) ah)))
   (ar (qs 3 nd (bB (bP ah (q3 ah ah (ag LH (ag LH ah ah) ah)))))
   (ak (au (ag du (ag eE (pv 2) ah) (qx eN (pv 3) (ag du (ag dS (pv 2) (ag i8 (pv 1) (pv 1))) ah))))))),?_⟩
 try dsimp only[aN,aO,aP,Cx.aD,Cx.aI]
 obtain⟨s0,s1⟩:=E3 jl
 try dsimp only[aG]
 refine⟨_,rfl,_,rfl,_,_,rfl,rfl,.inl ⟨by decide,by decide⟩,_,_,rfl,rfl,_,rfl,_,rfl,_,_,rfl,rfl,.inl ⟨by omega,by omega⟩,_,_,rfl,rfl,_,_,rfl,rfl,.inr ⟨by omega,by omega⟩,?_⟩
 refine⟨_,_,rfl,rfl,adC,_,_,rfl,rfl,adD,by show 4<=sizeLine;decide,λq nq=>?_⟩
 try dsimp only[aG]
 rw[Uk];obtain⟨w1,w2,_⟩:=Rr (k:=(Bv c j+j*j)%4) (kU _ (by decide)) (j4 _ (by decide))
 exact⟨_,rfl,_,_,rfl,rfl,⟨by decide,by decide⟩,_,rfl,_,rfl,_,rfl,_,rfl,_,_,rfl,rfl,.inl ⟨by omega,by omega⟩,_,_,rfl,rfl,_,_,rfl,rfl,(by decide:(0:Int)<4),q,_,_,_,rfl,rfl,ai.of aA,w1,_,_,rfl,rfl,w2,hQ _ ((ae.refl H).upd nq)⟩
theorem Lg(T:TD w K mg AR FR base):ax P w K mg base a8 1 AR.zJ FR.x_ ["cell","many"] (O0 K):=by
 refine T.Fl.bz ["cell","many"] ?_;rintro nd _ A _ s H vs Q E hr ⟨c,m,rfl,m8,hQ⟩;refine⟨_,(ar (bu (qp bX (pv 1) ah) (ak (au (bB jV))) bw)
   (ak (au (qm ["j","cell","many"] [0,1] (fY (by rfl) T.fA (q1 (ag du (pv 0) ah))) λ_=>(ag du (ag dS (ag eE (pv 1) ah) (ag i8 (pv 0) (pv 0))) (pv 2)))))),?_⟩
 try dsimp only[aN,aO,aP,Cx.aD,Cx.aI]
 refine⟨_,rfl,rfl,_,rfl,Az (λe=>?_) (λe=>?_)⟩
 ·refine⟨by decide,λq nq=>hQ q _ ((ae.refl H).upd nq) ?_⟩
  rw[aA];unfold kf;rw[if_pos (by omega)]
  rfl
 ·obtain⟨k,hk,k4⟩:=mJ c (k:=4) (by decide)
  refine⟨_,rfl,_,_,rfl,rfl,(by decide:(0:Int)<4),_,rfl,by omega,by omega,?_⟩
  rw[hk,dz];refine pS (τ:=[some (.int c),some (.int m)]) (λ(j:Nat)=>V.int ((c/5+j*j)%m)) (lM (by omega)) (λB j H2 hj S Q' hq=>?_) ?_
  ·obtain⟨s0,s1⟩:=E3 (j:=j) (by omega)
   rw[rh];exact⟨_,rfl,_,_,rfl,rfl,⟨by decide,by decide⟩,_,rfl,_,rfl,_,_,rfl,rfl,.inl ⟨by omega,by omega⟩,_,_,rfl,rfl,_,rfl,_,_,rfl,rfl,(by omega:(0:Int)<m),hq _ (ae.refl _)⟩
  ·intro H2 S q nq
   refine hQ q _ (S.upd nq) ?_;rw[aA];unfold kf;rw[if_neg (by omega),hk,dz,show ∀m:List Int,aQ m=m.map V.int from λ_=>rfl,ek]
   rfl
theorem Le(T:TD w K mg AR FR base):ax P w K mg base a8 2 AR.zG FR.xX ["cell","many"] (OX K):=by
 refine T.Fi.bz ["cell","many"] ?_;rintro nd _ A _ s H vs Q E hr ⟨c,m,rfl,m8,hQ⟩;refine⟨_,(ak (au (qm ["j","cell","many"] [0,1] (fY (by rfl) T.fA (q1 (ag du (pv 0) ah))) λ_=>(dR (q2 (T.wz.ca (A3 T) hr aw (q2 (pv 1) (pv 0))) (T.Fl.ca (Lg T) hr aw (q2 (ag eE (pv 1) (ag dS ah (pv 0))) (pv 2)))))))),?_⟩
 try dsimp only[aN,aO,aP,Cx.aD,Cx.aI]
 obtain⟨k,hk,k3⟩:=mJ c (k:=3) (by decide)
 refine⟨_,rfl,_,_,rfl,rfl,(by decide:(0:Int)<3),_,rfl,by omega,by omega,?_⟩
 rw[hk,dz];refine rT (τ:=[some (.int c),some (.int m)]) (λ(j:Nat)=>(fv c j,kf (c/(3+j)) m)) ku (λS h=>h.same S) (by omega) (λB j H2 hj S Q' hq=>?_) ?_
 ·refine⟨_,rfl,_,rfl,c,j,rfl,by omega,λH3 S3=>?_⟩
  refine⟨_,rfl,_,rfl,_,_,rfl,rfl,_,_,rfl,rfl,⟨by omega,by omega⟩,_,rfl,_,m,rfl,m8,λq H4 S4 g4=>?_⟩
  refine⟨by show 2<=sizeLine;decide,λq2 n2=>?_⟩
  have U:=(ae.refl H4).upd n2 (o:=.tup [.int (fv c j),.ref q]);exact hq _ _ ((S3.trans S4).trans U) ⟨q2,rfl,q,aA,U _ _ g4⟩
 ·intro ys H2 S r q nq
  obtain⟨as,rfl,R⟩:=ku.all r;have U:=(ae.refl H2).upd nq (o:=.lst (as.map V.ref));refine hQ q as _ (S.trans U) aA ?_;unfold gS;rw[hk,dz];exact R.same U
theorem tG(T:TD w K mg AR FR base):ax P w K mg base a8 2 AR.zE FR.xV ["cell","size","sign"] (OV K):=by
 refine T.qS.bz ["cell","size","sign","bag","j","one"] ?_;rintro nd _ A _ s H vs Q E hr ⟨c,z,sg,rfl,z6,hQ⟩;refine⟨_,(ar (qs 3 nd (bB jV))
   (ar (qK PassesOwn.never rfl (fY (by rfl) T.fA (q1 (pv 1))) (qn 4 nd)
   (ar (qs 5 nd (T.wz.ca (A3 T) hr aw (q2 (pv 0) (pv 4))))
   (ar (bu (PW.pt (EG (fZ (pv 2)) (EH (qp bX (ag du (ag dS (pv 0) (pv 4)) ah) ah)))) (ak (qs 5 nd (A_ BN (pv 5)))) bw)
   (ak (eX (fX ph uh ui qz (pv 3) (q1 (pv 5))))))))
   (ak (au (pv 3))))),?_⟩
 try dsimp only[aN,aO,aP,Cx.aD,Cx.aI]
 refine⟨by decide,λq nq=>?_⟩
 have S0:=(ae.refl H).upd nq (o:=.lst []);have g0:=aA (H:=H) (a:=q) (o:=.lst [])
 try dsimp only[aG]
 generalize upd H q (.lst [])=H1 at S0 g0 ⊢;refine⟨_,rfl,_,rfl,by omega,by omega,?_⟩
 rw[dz];refine Wl (λi σ H2=>∃(o4 o5:Option V),σ=[some (.int c),some (.int z),some (.bl sg),some (.ref q),o4,o5]/\ae H H2/\H2 q=some (.lst (aQ ((bJ i).map (kJ c sg))))) ⟨none,none,rfl,S0,g0⟩ ?_ ?_
 ·rintro i σ H2 hi ⟨o4,o5,rfl,S2,g2⟩
  try dsimp only[aG]
  rw[rh];refine⟨_,rfl,_,rfl,c,i,rfl,by omega,λH3 S3=>?_⟩
  try dsimp only[aG]
  have g3:=S3 _ _ g2;have Cj:=S2.trans S3;have es:aQ ((bJ (i+1)).map (kJ c sg))=aQ ((bJ i).map (kJ c sg))++[.int (kJ c sg i)]:=by
   rw[BW,dX,agP];rfl
  have eM:(aQ ((bJ i).map (kJ c sg))).length+1<=sizeLine:=by
   rw[ig,aH,g_,sizeLine_eq];omega
  refine⟨_,rfl,_,rfl,?_⟩
  cases sg with
  | false=>exact bt (bt ⟨_,rfl,.inl ⟨rfl,_,ai.of g3⟩,_,rfl,q,_,_,rfl,rfl,g3,eM,_,_,rfl,Cj.ub nq,by rw[aA,es];rfl⟩)
  | true =>
   refine bI ⟨_,rfl,_,rfl,_,_,rfl,rfl,_,_,rfl,rfl,(by decide:(0:Int)<3),rfl,_,rfl,Az (λe=>?_) (λe=>?_)⟩
   ·have e1:kJ c true i = -fv c i:=if_pos ⟨rfl,e⟩
    rw[e1] at es;exact⟨_,rfl,_,rfl,_,rfl,.inl ⟨rfl,_,ai.of g3⟩,_,rfl,q,_,_,rfl,rfl,g3,eM,_,_,rfl,Cj.ub nq,by rw[aA,es]⟩
   ·have e1:kJ c true i=fv c i:=if_neg λz=>e z.2
    rw[e1] at es;exact⟨_,rfl,.inl ⟨rfl,_,ai.of g3⟩,_,rfl,q,_,_,rfl,rfl,g3,eM,_,_,rfl,Cj.ub nq,by rw[aA,es]⟩
 ·rintro σ H2 ⟨o4,o5,rfl,S2,g2⟩
  exact⟨_,rfl,hQ q H2 S2 nq g2⟩
theorem Lf(T:TD w K mg AR FR base):ax P w K mg base a8 1 AR.zH FR.xY ["cell","size"] (OY K):=by
 refine T.Fj.bz ["cell","size"] ?_;rintro nd _ A _ s H vs Q E hr ⟨c,z,rfl,z6,hQ⟩;refine⟨_,(ak (au (tL (N':=["j","cell"]) (nt:=1) (caps:=[0]) _ _ (gQ.of (by kernel_rfl)) (fY (by rfl) T.fA (q1 (pv 1))) (λ_=>(i_ (i:=0) ["j","cell"] (by decide +kernel) (by rfl))) (λ_=>(adN (qp bX (ag du (ag eE (pv 1) (ag dS (pv 0) ah)) ah) ah))) (λ_=>(pv 0))))),?_⟩
 try dsimp only[aN,aO,aP,Cx.aD,Cx.aI]
 refine⟨_,rfl,_,rfl,by omega,by omega,?_⟩
 rw[dz];refine Vk (τ:=[some (.int c)]) (λ(j:Nat)=>decide (c/((j:Int)+1)%2=0)) (by omega) (λB j H2 hj S Q' hq=>?_) (λB j H2 hj Q' hq=>⟨_,rfl,hq⟩) ?_
 ·rw[rh]
  refine⟨_,rfl,_,rfl,_,_,rfl,rfl,_,_,rfl,rfl,⟨by omega,by omega⟩,_,_,rfl,rfl,(by decide:(0:Int)<2),rfl,_,rfl,?_⟩
  have h:=hq H2 (ae.refl _);rw[show decide (V.int (c/((j:Int)+1)%2)=V.int 0)=decide (c/((j:Int)+1)%2=0) from by rw[C4];rfl]
  exact h
 ·intro H2 S q nq
  refine hQ q _ (S.upd nq) ?_;rw[aA];unfold iB;rw[show ∀m:List Int,aQ m=m.map V.int from λ_=>rfl,ek]
  simp only[rh];rfl
theorem ab4(T:TD w K mg AR FR base):ax P w K mg base a8 3 AR.zL FR.yb ["cell","size"] (O2 K):=by
 refine T.QV.bz ["cell","size","bag"] ?_;rintro nd _ A _ s H vs Q E hr ⟨c,z,rfl,z6,hQ⟩;refine⟨_,(ar (qs 2 nd (T.qS.ca (tG T) hr aw (q3 (pv 0) (pv 1) i9)))
   (ak (au (qm ["j","bag","cell"] [2,0] (fY (by rfl) T.fA (q1 (pv 1))) λ_=>(qx eN (bB (q2 (qx eN (pv 1) (pv 0)) fj)) (qy UQ T.oV rO (q1 (qc bX (ag du (ag dS (ag eE (pv 2) ah) (ag i8 (pv 0) (pv 0))) ah) ah)))))))),?_⟩
 try dsimp only[aN,aO,aP,Cx.aD,Cx.aI]
 refine⟨_,rfl,_,rfl,c,z,false,rfl,z6,λq H1 S1 nq g1=>?_⟩
 try dsimp only[aG]
 refine⟨_,rfl,_,rfl,by omega,by omega,?_⟩
 rw[dz];refine pS (τ:=[some (.ref q),some (.int c)]) (λ(j:Nat)=>vm (if (c/3+j*j)%4=1 then none else some (fv c j))) (lM (by omega)) (λB j H2 hj S Q' hq=>?_) ?_
 ·obtain⟨s0,s1⟩:=E3 (j:=j) (by omega)
  rw[rh];refine⟨_,rfl,_,rfl,q,_,_,_,rfl,rfl,ai.of (S _ _ g1),Ua hj,by show 2<=sizeLine;decide,λq2 n2=>?_⟩
  refine⟨_,rfl,_,_,rfl,rfl,⟨by decide,by decide⟩,_,rfl,_,rfl,_,_,rfl,rfl,.inl ⟨by omega,by omega⟩,_,_,rfl,rfl,_,_,rfl,rfl,(by decide:(0:Int)<4),rfl,.inr ⟨_,rfl,?_⟩⟩
  refine⟨q2,_,_,_,rfl,rfl,ai.of aA,?_,hq _ ((ae.refl H2).upd n2)⟩;by_cases e:(c/3+(j:Int)*j)%4=1
  ·rw[if_pos e,if_pos (decide_eq_true (by show V.int ((c/3+(j:Int)*j)%4)=_;rw[e]))]
   exact c7 (j:=1) rfl
  ·rw[if_neg e,if_neg (λz=>e (by have:=of_decide_eq_true z;injection this))]
   exact c7 (j:=0) rfl
 ·intro H2 S q2 n2
  refine hQ q2 _ ((S1.trans S).upd n2) ?_;rw[aA];unfold qw;rw[show ∀m:Mark,cX m=m.map vm from λ_=>rfl,ek]
  rfl
theorem ab9(T:TD w K mg AR FR base):ax P w K mg base a8 3 AR.zR FR.yh ["cell","size"] (O_ K):=by
 refine T.QX.bz ["cell","size"] ?_;rintro nd _ A _ s H vs Q E hr ⟨c,z,rfl,z6,hQ⟩;refine⟨_,(ar (bu (qp bX (ag du (pv 0) ah) ah) (ak (au fj)) bw)
   (ar (bu (qp bX (ag du (pv 0) ah) ah) (ak (au (dR (q2 af (T.Fj.ca (Lf T) hr aw (q2 (ag eE (pv 0) ah) (pv 1))))))) bw)
   (ak (au (dR (q2 af (T.qS.ca (tG T) hr aw (q3 (ag eE (pv 0) ah) (pv 1) i9)))))))),?_⟩
 try dsimp only[aN,aO,aP,Cx.aD,Cx.aI]
 refine⟨_,rfl,_,_,rfl,rfl,(by decide:(0:Int)<3),rfl,_,rfl,Az (λe=>?_) (λe=>?_)⟩
 ·refine hQ _ _ (ae.refl _) ?_
  unfold kI;rw[if_pos e];rfl
 refine⟨_,rfl,_,_,rfl,rfl,(by decide:(0:Int)<3),rfl,_,rfl,Az (λe2=>?_) (λe2=>?_)⟩
 ·refine⟨_,rfl,_,_,rfl,rfl,⟨by decide,by decide⟩,_,rfl,_,z,rfl,z6,λq H2 S2 g2=>?_⟩
  refine⟨by show 2<=sizeLine;decide,λq2 n2=>?_⟩
  have U:=(ae.refl H2).upd n2 (o:=.tup [.str "trap",.ref q]);refine hQ _ _ (S2.trans U) ?_;unfold kI;rw[if_neg e,if_pos e2];exact⟨q2,q,rfl,aA,U _ _ g2⟩
 ·refine⟨_,rfl,_,_,rfl,rfl,⟨by decide,by decide⟩,_,rfl,_,z,true,rfl,z6,λq H2 S2 nq g2=>?_⟩
  refine⟨by show 2<=sizeLine;decide,λq2 n2=>?_⟩
  have U:=(ae.refl H2).upd n2 (o:=.tup [.str "weight",.ref q]);refine hQ _ _ (S2.trans U) ?_;unfold kI;rw[if_neg e,if_neg e2];exact⟨q2,q,rfl,aA,U _ _ g2⟩
theorem Eg(T:TD w K mg AR FR base):ax P w K mg base a8 4 AR.zU FR.yk ["kind","cell","size"] (Pc K):=by
 refine T.BA.bz ["kind","cell","size"] ?_;rintro nd _ A _ s H vs Q E hr ⟨k,c,z,rfl,z6,hF,hK,hB⟩;refine⟨_,(ar (bu (qp bX (pv 0) af) (ak (au (qm ["j","cell","size"] [1,2] (fY (by rfl) T.fA (q1 (ag du (pv 1) ah))) λ_=>(T.QV.ca (ab4 T) hr aw (q2 (ag eE (pv 1) (ag dS (pv 0) ah)) (pv 2)))))) bw)
   (ar (bu (qp bX (pv 0) af) (ak (au (qm ["j","cell","size"] [1,2] (fY (by rfl) T.fA (q1 (ag du (pv 1) ah))) λ_=>(T.QX.ca (ab9 T) hr aw (q2 (ag eE (pv 1) (ag dS (pv 0) ah)) (pv 2)))))) bw)
   (ak (au (qm ["j","cell","size"] [1,2] (fY (by rfl) T.fA (q1 (ag du (pv 1) ah))) λ_=>(T.qS.ca (tG T) hr aw (q3 (ag eE (pv 1) (ag dS (pv 0) ah)) (pv 2) i9))))))),?_⟩
 try dsimp only[aN,aO,aP,Cx.aD,Cx.aI]
 obtain⟨k4,hk,kl⟩:=mJ c (k:=4) (by decide)
 refine⟨_,rfl,rfl,_,rfl,AA (λe=>?_) (λe=>?_)⟩
 ·refine⟨_,rfl,_,_,rfl,rfl,(by decide:(0:Int)<4),_,rfl,by omega,by omega,?_⟩
  rw[hk,dz];refine rT (τ:=[some (.int c),some (.int z)]) (λ(j:Nat)=>qw (c/(j+3)) z) kx (λS h=>h.same S) (by omega) (λB j H2 hj S Q' hq=>?_) ?_
  ·exact⟨_,rfl,_,rfl,_,_,rfl,rfl,_,_,rfl,rfl,⟨by omega,by omega⟩,_,rfl,_,z,rfl,z6,λq H4 S4 g4=>hq _ _ S4 ⟨q,rfl,g4⟩⟩
  ·intro ys H2 S r q nq
   obtain⟨as,rfl,R⟩:=kx.all r;have U:=(ae.refl H2).upd nq (o:=.lst (as.map V.ref));refine hF e q as _ (S.trans U) aA ?_;unfold ky;rw[hk,dz];exact R.same U
 refine⟨_,rfl,rfl,_,rfl,AA (λe2=>?_) (λe2=>?_)⟩
 ·refine⟨_,rfl,_,_,rfl,rfl,(by decide:(0:Int)<4),_,rfl,by omega,by omega,?_⟩
  rw[hk,dz];refine rT (τ:=[some (.int c),some (.int z)]) (λ(j:Nat)=>kI (c/(j+3)) z) hX (λS h=>h.same S) (by omega) (λB j H2 hj S Q' hq=>?_) ?_
  ·exact⟨_,rfl,_,rfl,_,_,rfl,rfl,_,_,rfl,rfl,⟨by omega,by omega⟩,_,rfl,_,z,rfl,z6,λv H4 S4 g4=>hq _ _ S4 g4⟩
  ·intro ys H2 S r q nq
   have U:=(ae.refl H2).upd nq (o:=.lst ys);refine hK e2 q ys _ (S.trans U) aA ?_;unfold mU;rw[hk,dz];exact Paired.eZ r λ_ _ h=>h.same U
 ·refine⟨_,rfl,_,_,rfl,rfl,(by decide:(0:Int)<4),_,rfl,by omega,by omega,?_⟩
  rw[hk,dz];refine rT (τ:=[some (.int c),some (.int z)]) (λ(j:Nat)=>(eH (c/(j+3)) z false).map some) kx (λS h=>h.same S) (by omega) (λB j H2 hj S Q' hq=>?_) ?_
  ·exact⟨_,rfl,_,rfl,_,_,rfl,rfl,_,_,rfl,rfl,⟨by omega,by omega⟩,_,rfl,_,z,false,rfl,z6,λq H4 S4 nq g4=>hq _ _ S4 ⟨q,rfl,by rw[qU];exact g4⟩⟩
  ·intro ys H2 S r q nq
   obtain⟨as,rfl,R⟩:=kx.all r;have U:=(ae.refl H2).upd nq (o:=.lst (as.map V.ref));refine hB e e2 q as _ (S.trans U) aA ?_;unfold jf;rw[hk,dz];exact R.same U
theorem Lj(T:TD w K mg AR FR base):ax P w K mg base a8 5 AR.zQ FR.yg ["cell","size","many"] (O7 K):=by
 refine T.Fo.bz ["cell","size","many","kinds","kind","rest","pairs","own"] ?_;rintro nd _ A _ s H vs Q E hr ⟨c,z,m,rfl,z6,m8,hQ⟩;refine⟨_,(ar (qs 3 nd (bB (bP af (bP af (bP af (bP af (bP af (bP af (bP af (bP af (q3 af af af)))))))))))
   (ar (qs 4 nd (qx eN (pv 3) (ag du (pv 0) ah)))
   (ar (qs 5 nd (ag eE (pv 0) ah))
   (ar (bu (qp bX (pv 4) af) (ak (au (dR (q2 (pv 4) (T.Fi.ca (Le T) hr aw (q2 (pv 5) (pv 2))))))) bw)
   (ar (bu (qp bX (pv 4) af) (ar (Bf (i:=6) (N':=["door","rest"]) (nt:=1) (caps:=[5]) _ _ (gQ.of (by kernel_rfl)) nd rfl rfl (cT (T.Fl.ca (Lg T) hr aw (q2 (pv 5) (pv 2)))) (λ_=>(i_ (i:=0) ["door","rest"] (by decide +kernel) (by rfl))) (λ_=>kG) (λ_=>(dR (q2 (pv 0) (qm ["j","rest"] [1] (fY (by rfl) T.fA (q1 (ag du (ag eE (pv 1) ah) ah))) λ_=>(T.wz.ca (A3 T) hr aw (q2 (pv 1) (pv 0))))))))
   (ak (au (dR (q2 (pv 4) (pv 6)))))) bw)
   (ar (bu (qp bX (pv 4) af) (ak (au (dR (q2 (pv 4) (T.qS.ca (tG T) hr aw (q3 (pv 5) (pv 1) i9)))))) bw)
   (ar (bu (qp bX (pv 4) af) (ak (au (dR (q3 (pv 4) (T.qS.ca (tG T) hr aw (q3 (pv 5) (pv 1) i9)) (T.wz.ca (A3 T) hr aw (q2 (pv 5) ah)))))) bw)
   (ar (bu (PW.pt (kH (qp bX (pv 4) af) (lL (qp bX (pv 4) af)))) (ak (au (dR (q2 (pv 4) (T.Fj.ca (Lf T) hr aw (q2 (pv 5) (pv 1))))))) bw)
   (ar (bu (qp jx (pv 4) af) (ak (au (dR (q2 (pv 4) (T.BA.ca (Eg T) hr aw (q3 (pv 4) (pv 5) (pv 1))))))) bw)
   (ar (qs 7 nd (bB (q2 (dR (q2 af (T.qS.ca (tG T) hr aw (q3 (ag eE (pv 5) ah) (pv 1) i9)))) (dR (q2 af (T.BA.ca (Eg T) hr aw (q3 af (ag eE (pv 5) ah) (pv 1))))))))
   (ar (eX (fX ph uh ui qz (pv 7) (q1 (dR (q2 af (T.BA.ca (Eg T) hr aw (q3 af (ag eE (pv 5) ah) (pv 1))))))))
   (ak (au (dR (q3 (pv 4) (T.Fi.ca (Le T) hr aw (q2 (ag eE (pv 5) ah) (pv 2))) (qx eN (pv 7) (ag du (pv 5) ah))))))))))))))))),?_⟩
 try dsimp only[aN,aO,aP,Cx.aD,Cx.aI]
 refine⟨by show 11<=sizeLine;decide,λq nq=>?_⟩
 have U0:=(ae.refl H).upd nq (o:=.lst [.str "run",.str "branch",.str "fence",.str "room",.str "wants",.str "fall",.str "sum",.str "dry",.str "wet",.str "kept",.str "most"]);have g0:=aA (H:=H) (a:=q) (o:=.lst [.str "run",.str "branch",.str "fence",.str "room",.str "wants",.str "fall",.str "sum",.str "dry",.str "wet",.str "kept",.str "most"])
 try dsimp only[aG]
 generalize upd H q (.lst [.str "run",.str "branch",.str "fence",.str "room",.str "wants",.str "fall",.str "sum",.str "dry",.str "wet",.str "kept",.str "most"])=H1 at U0 g0 ⊢;obtain⟨k,hk,ZN⟩:=mJ c (k:=11) (by decide)
 have Dn:=aac (k:=k) (by omega)
 rw[<-hk] at Dn;refine⟨_,rfl,_,rfl,_,_,rfl,rfl,(by decide:(0:Int)<11),q,_,_,_,rfl,rfl,ai.of g0,Dn,?_⟩
 try dsimp only[aG]
 refine⟨_,rfl,_,_,rfl,rfl,⟨by decide,by decide⟩,?_⟩
 try dsimp only[aG]
 have fin:∀v H',ae H1 H'->cD H' v (qJ c z m)->Q v H':=λv H' S h=>hQ v H' (U0.trans S) h
 have hP:qJ c z m=LP k (c/11) z m:=by unfold qJ;rw[hk,dz]
 rw[hP] at fin;clear hQ hP Dn hk;have kk:k=0\/k=1\/k=2\/k=3\/k=4\/k=5\/k=6\/k=7\/k=8\/k=9\/k=10:=by omega
 rcases kk with rfl|rfl|rfl|rfl|rfl|rfl|rfl|rfl|rfl|rfl|rfl
 ·have fin:∀v H',ae H1 H'->cD H' v (.wr true (gS (c/11) m))->Q v H':=fin
  refine⟨_,rfl,rfl,_,rfl,gY ?_⟩;refine⟨_,rfl,_,rfl,_,rfl,_,m,rfl,m8,λl as H2 S2 g2 R=>?_⟩
  refine⟨by show 2<=sizeLine;decide,λp np=>?_⟩
  have U:=(ae.refl H2).upd np (o:=.tup [.str "run",.ref l]);exact fin _ _ (S2.trans U) ⟨p,l,as,rfl,aA,U _ _ g2,R.same U⟩
 ·have fin:∀v H',ae H1 H'->cD H' v (.wr false (kD (c/11) m))->Q v H':=fin
  refine⟨_,rfl,rfl,_,rfl,aE (by decide) ⟨_,rfl,rfl,_,rfl,gY ?_⟩⟩
  refine⟨_,rfl,_,rfl,_,m,rfl,m8,λl H2 S2 g2=>⟨l,rfl,⟨_,ai.of g2⟩,?_⟩⟩
  obtain⟨k3,YG,k3l⟩:=mJ (c/11/2) (k:=3) (by decide)
  refine fV (K:=K) (τ:=[some (.int (c/11))]) (λd=>(d,(bJ (c/11/2%3).toNat).map (fv (c/11)))) ku (λS h=>h.same S) (ai.of g2) (kr _) (by have:=C5 (c/11) m;omega) (λB v d H3 hd hF S Q' hq=>?_) ?_
  ·obtain rfl:v=V.int d:=hF
   refine⟨_,rfl,_,rfl,_,_,rfl,rfl,⟨by decide,by decide⟩,_,_,rfl,rfl,(by decide:(0:Int)<3),_,rfl,by omega,by omega,?_⟩
   rw[YG,dz] at hq ⊢;refine rT (τ:=[some (.int (c/11))]) (fv (c/11)) isIn (λ_ h=>h) (by omega) (λB j H4 hj S Q' hq=>?_) ?_
   ·exact⟨_,rfl,_,rfl,_,j,rfl,by omega,λH5 S5=>hq _ _ S5 rfl⟩
   ·intro ys H4 S4 r q4 n4
    have e:=isIn.all r;subst e;refine⟨by show 2<=sizeLine;decide,λp np=>?_⟩
    have U:=((ae.refl H4).upd n4 (o:=.lst (aQ ((bJ k3).map (fv (c/11)))))).upd np (o:=.tup [.int d,.ref q4]);refine hq _ _ (S4.trans U) ⟨p,rfl,q4,aA,?_⟩;rw[bg (λz=>by rw[z,aA] at np;cases np)]
    exact aA
  ·intro ys H3 S3 r q4 n4
   obtain⟨as,rfl,R⟩:=ku.all r
   try dsimp only[aG]
   refine⟨_,rfl,_,rfl,by show 2<=sizeLine;decide,λp np=>?_⟩
   have U4:=(ae.refl H3).upd n4 (o:=.lst (as.map V.ref));have U:=U4.upd np (o:=.tup [.str "branch",.ref q4]);exact fin _ _ ((S2.trans S3).trans U) ⟨p,q4,as,rfl,aA,by rw[bg (λz=>by rw[z,aA] at np;cases np)];exact aA,R.same U⟩
 ·have fin:∀v H',ae H1 H'->cD H' v (.mk .fence (ky (c/11) z))->Q v H':=fin
  refine⟨_,rfl,rfl,_,rfl,aE (by decide) ⟨_,rfl,rfl,_,rfl,aE (by decide) ⟨_,rfl,rfl,_,rfl,aE (by decide) ⟨_,rfl,rfl,_,rfl,aE (by decide) ⟨_,rfl,rfl,_,rfl,aE (by decide) ⟨_,rfl,rfl,_,rfl,aE (by decide) ⟨_,rfl,rfl,_,rfl,Ax (by decide) ?_⟩⟩⟩⟩⟩⟩⟩
  refine⟨_,rfl,_,rfl,_,rfl,_,rfl,_,_,z,rfl,z6,λ_ l as H2 S2 g2 R=>?_,λh=>absurd h (by decide),λh=>absurd rfl h⟩
  refine⟨by show 2<=sizeLine;decide,λp np=>?_⟩
  have U:=(ae.refl H2).upd np (o:=.tup [.str "fence",.ref l]);exact fin _ _ (S2.trans U) ⟨p,l,as,rfl,aA,U _ _ g2,R.same U⟩
 ·have fin:∀v H',ae H1 H'->cD H' v (.mk .room (jf (c/11) z))->Q v H':=fin
  refine⟨_,rfl,rfl,_,rfl,aE (by decide) ⟨_,rfl,rfl,_,rfl,aE (by decide) ⟨_,rfl,rfl,_,rfl,aE (by decide) ⟨_,rfl,rfl,_,rfl,aE (by decide) ⟨_,rfl,rfl,_,rfl,aE (by decide) ⟨_,rfl,rfl,_,rfl,aE (by decide) ⟨_,rfl,rfl,_,rfl,Ax (by decide) ?_⟩⟩⟩⟩⟩⟩⟩
  refine⟨_,rfl,_,rfl,_,rfl,_,rfl,_,_,z,rfl,z6,λh=>absurd h (by decide),λh=>absurd h (by decide),λ_ _ l as H2 S2 g2 R=>?_⟩
  refine⟨by show 2<=sizeLine;decide,λp np=>?_⟩
  have U:=(ae.refl H2).upd np (o:=.tup [.str "room",.ref l]);exact fin _ _ (S2.trans U) ⟨p,l,as,rfl,aA,U _ _ g2,R.same U⟩
 ·have fin:∀v H',ae H1 H'->cD H' v (.mk .wants (jf (c/11) z))->Q v H':=fin
  refine⟨_,rfl,rfl,_,rfl,aE (by decide) ⟨_,rfl,rfl,_,rfl,aE (by decide) ⟨_,rfl,rfl,_,rfl,aE (by decide) ⟨_,rfl,rfl,_,rfl,aE (by decide) ⟨_,rfl,rfl,_,rfl,aE (by decide) ⟨_,rfl,rfl,_,rfl,aE (by decide) ⟨_,rfl,rfl,_,rfl,Ax (by decide) ?_⟩⟩⟩⟩⟩⟩⟩
  refine⟨_,rfl,_,rfl,_,rfl,_,rfl,_,_,z,rfl,z6,λh=>absurd h (by decide),λh=>absurd h (by decide),λ_ _ l as H2 S2 g2 R=>?_⟩
  refine⟨by show 2<=sizeLine;decide,λp np=>?_⟩
  have U:=(ae.refl H2).upd np (o:=.tup [.str "wants",.ref l]);exact fin _ _ (S2.trans U) ⟨p,l,as,rfl,aA,U _ _ g2,R.same U⟩
 ·have fin:∀v H',ae H1 H'->cD H' v (.b3 (eH (c/11) z true))->Q v H':=fin
  refine⟨_,rfl,rfl,_,rfl,aE (by decide) ⟨_,rfl,rfl,_,rfl,aE (by decide) ⟨_,rfl,rfl,_,rfl,gY ?_⟩⟩⟩
  refine⟨_,rfl,_,rfl,_,rfl,_,z,true,rfl,z6,λl H2 S2 nl g2=>?_⟩
  refine⟨by show 2<=sizeLine;decide,λp np=>?_⟩
  have U:=(ae.refl H2).upd np (o:=.tup [.str "fall",.ref l]);exact fin _ _ (S2.trans U) ⟨p,l,rfl,aA,U _ _ g2⟩
 ·have fin:∀v H',ae H1 H'->cD H' v (.sum (eH (c/11) z true) (fv (c/11) 7))->Q v H':=fin
  refine⟨_,rfl,rfl,_,rfl,aE (by decide) ⟨_,rfl,rfl,_,rfl,aE (by decide) ⟨_,rfl,rfl,_,rfl,aE (by decide) ⟨_,rfl,rfl,_,rfl,gY ?_⟩⟩⟩⟩
  refine⟨_,rfl,_,rfl,_,rfl,_,z,true,rfl,z6,λl H2 S2 nl g2=>?_⟩
  refine⟨_,rfl,_,7,rfl,by decide,λH3 S3=>?_⟩
  refine⟨by show 3<=sizeLine;decide,λp np=>?_⟩
  have U:=S3.upd np (o:=.tup [.str "sum",.ref l,.int (fv (c/11) 7)]);exact fin _ _ (S2.trans U) ⟨p,l,rfl,aA,U _ _ g2⟩
 ·have fin:∀v H',ae H1 H'->cD H' v (.st true (iB (c/11) z))->Q v H':=fin
  refine⟨_,rfl,rfl,_,rfl,aE (by decide) ⟨_,rfl,rfl,_,rfl,aE (by decide) ⟨_,rfl,rfl,_,rfl,aE (by decide) ⟨_,rfl,rfl,_,rfl,aE (by decide) ⟨_,rfl,rfl,_,rfl,gY (bI ?_)⟩⟩⟩⟩⟩
  refine⟨_,rfl,_,rfl,_,rfl,_,z,rfl,z6,λl H2 S2 g2=>?_⟩
  refine⟨by show 2<=sizeLine;decide,λp np=>?_⟩
  have U:=(ae.refl H2).upd np (o:=.tup [.str "dry",.ref l]);exact fin _ _ (S2.trans U) ⟨p,l,rfl,aA,U _ _ g2⟩
 ·have fin:∀v H',ae H1 H'->cD H' v (.st false (iB (c/11) z))->Q v H':=fin
  refine⟨_,rfl,rfl,_,rfl,aE (by decide) ⟨_,rfl,rfl,_,rfl,aE (by decide) ⟨_,rfl,rfl,_,rfl,aE (by decide) ⟨_,rfl,rfl,_,rfl,aE (by decide) ⟨_,rfl,rfl,_,rfl,aE (by decide) ⟨_,rfl,rfl,_,rfl,gY ?_⟩⟩⟩⟩⟩⟩
  refine⟨_,rfl,_,rfl,_,rfl,_,z,rfl,z6,λl H2 S2 g2=>?_⟩
  refine⟨by show 2<=sizeLine;decide,λp np=>?_⟩
  have U:=(ae.refl H2).upd np (o:=.tup [.str "wet",.ref l]);exact fin _ _ (S2.trans U) ⟨p,l,rfl,aA,U _ _ g2⟩
 ·have fin:∀v H',ae H1 H'->cD H' v (.kept (mU (c/11) z))->Q v H':=fin
  refine⟨_,rfl,rfl,_,rfl,aE (by decide) ⟨_,rfl,rfl,_,rfl,aE (by decide) ⟨_,rfl,rfl,_,rfl,aE (by decide) ⟨_,rfl,rfl,_,rfl,aE (by decide) ⟨_,rfl,rfl,_,rfl,aE (by decide) ⟨_,rfl,rfl,_,rfl,aE (by decide) ⟨_,rfl,rfl,_,rfl,Ax (by decide) ?_⟩⟩⟩⟩⟩⟩⟩
  refine⟨_,rfl,_,rfl,_,rfl,_,rfl,_,_,z,rfl,z6,λh=>absurd h (by decide),λ_ l us H2 S2 g2 R=>?_,λ_ h=>absurd rfl h⟩
  refine⟨by show 2<=sizeLine;decide,λp np=>?_⟩
  have U:=(ae.refl H2).upd np (o:=.tup [.str "kept",.ref l]);exact fin _ _ (S2.trans U) ⟨p,l,us,rfl,aA,U _ _ g2,Paired.eZ R λ_ _ h=>h.same U⟩
 ·have fin:∀v H',ae H1 H'->cD H' v (.most (gS (c/11/3) m) (jU (c/11) z))->Q v H':=fin
  refine⟨_,rfl,rfl,_,rfl,aE (by decide) ⟨_,rfl,rfl,_,rfl,aE (by decide) ⟨_,rfl,rfl,_,rfl,aE (by decide) ⟨_,rfl,rfl,_,rfl,aE (by decide) ⟨_,rfl,rfl,_,rfl,aE (by decide) ⟨_,rfl,rfl,_,rfl,aE (by decide) ⟨_,rfl,rfl,_,rfl,Kb ?_⟩⟩⟩⟩⟩⟩⟩
  refine⟨_,rfl,_,_,rfl,rfl,⟨by decide,by decide⟩,_,rfl,_,z,true,rfl,z6,λl1 H2 S2 nl g2=>?_⟩
  refine⟨by show 2<=sizeLine;decide,λp1 n1=>?_⟩
  have U1:=(ae.refl H2).upd n1 (o:=.tup [.str "fall",.ref l1]);have h1:=aA (H:=H2) (a:=p1) (o:=.tup [.str "fall",.ref l1]);have g1:=U1 _ _ g2;have T1:=S2.trans U1;generalize upd H2 p1 (.tup [.str "fall",.ref l1])=H3 at U1 h1 g1 T1 ⊢;refine⟨_,rfl,_,_,rfl,rfl,⟨by decide,by decide⟩,_,rfl,_,_,z,rfl,z6,λh=>absurd h (by decide),λh=>absurd h (by decide),λ_ _ l2 dY H4 S4 g4 R4=>?_⟩
  refine⟨by show 2<=sizeLine;decide,λp2 n2=>?_⟩
  have U2:=(ae.refl H4).upd n2 (o:=.tup [.str "room",.ref l2]);have h2:=aA (H:=H4) (a:=p2) (o:=.tup [.str "room",.ref l2]);have uz:=S4.trans U2;have g4:=U2 _ _ g4;have R4:=R4.same U2;generalize upd H4 p2 (.tup [.str "room",.ref l2])=H5 at U2 h2 uz g4 R4 ⊢;have pf:cD H5 (.ref p1) (.b3 (eH (c/11/7) z true)):=⟨p1,l1,rfl,uz _ _ h1,uz _ _ g1⟩;have pr:cD H5 (.ref p2) (.mk .room (jf (c/11/3) z)):=⟨p2,l2,dY,rfl,h2,g4,R4⟩;have T5:=T1.trans uz;clear h1 g1 T1 h2 g4 R4 uz U1 U2 S4 n2 n1 S2 g2 nl;refine⟨by show 2<=sizeLine;decide,λq7 n7=>?_⟩
  have U7:=(ae.refl H5).upd n7 (o:=.lst [.ref p1,.ref p2]);have h7:=aA (H:=H5) (a:=q7) (o:=.lst [.ref p1,.ref p2])
  try dsimp only[aG]
  generalize upd H5 q7 (.lst [.ref p1,.ref p2])=H6 at U7 h7 ⊢;refine⟨_,rfl,.inl ⟨rfl,_,ai.of h7⟩,_,rfl,_,_,rfl,rfl,⟨by decide,by decide⟩,_,rfl,_,_,z,rfl,z6,λ_ l3 xf H7 S7 g7 R7=>?_,λh=>absurd h (by decide),λh=>absurd rfl h⟩
  refine⟨by show 2<=sizeLine;decide,λp3 n3=>?_⟩
  have U3:=(ae.refl H7).upd n3 (o:=.tup [.str "fence",.ref l3]);have h3:=aA (H:=H7) (a:=p3) (o:=.tup [.str "fence",.ref l3]);have g7:=U3 _ _ g7;have R7:=R7.same U3;have S8:=S7.trans U3;have n38:H5 p3=none:=U7.free (S7.free n3);generalize upd H7 p3 (.tup [.str "fence",.ref l3])=H8 at U3 h3 g7 R7 S8 ⊢;have An:=S8 _ _ h7;refine⟨q7,_,_,rfl,rfl,An,by show 3<=sizeLine;decide,?_⟩
  have q3:p3≠q7:=λe=>by rw[e,S7 _ _ h7] at n3;cases n3
  have ql:l3≠q7:=λe=>by
   rw[e,An] at g7;injection g7 with g7
   injection g7 with g7
   cases xf with
   | nil=>cases g7
   | cons a xf =>
    injection g7 with ga _
    injection ga with ga
    obtain⟨m',hm⟩:=R7.DO a (cB ..);obtain⟨_,_,e1,e2,_⟩:=pf
    cases e1;rw[<-ga,(U7.trans S8) _ _ e2] at hm
    cases hm
  have qr:∀a∈xf,a≠q7:=λa ha e=>by
   obtain⟨m',hm⟩:=R7.DO a ha;rw[e,An] at hm;injection hm with hm
   injection hm with hm
   exact aaW hm.symm
  have S9:=(U7.trans S8).ub n7 (o:=.lst [.ref p1,.ref p2,.ref p3]);have h9:=aA (H:=H8) (a:=q7) (o:=.lst [.ref p1,.ref p2,.ref p3]);have pe:cD (upd H8 q7 (.lst [.ref p1,.ref p2,.ref p3])) (.ref p3) (.mk .fence (ky (c/11/3) z)):=⟨p3,l3,xf,rfl,(bg q3).trans h3,(bg ql).trans g7,R7.upd qr⟩;have pf:=pf.same S9;have pr:=pr.same S9;have T9:=T5.trans S9;clear q3 ql qr S9 h3 g7 R7 An S8 U3 S7 U7 h7
  try dsimp only[aix,ahA]
  generalize upd H8 q7 (.lst [.ref p1,.ref p2,.ref p3])=H9 at pe pf pr T9 h9 ⊢;refine⟨_,rfl,_,rfl,_,_,rfl,rfl,⟨by decide,by decide⟩,_,rfl,_,m,rfl,m8,λl as GC rE Wq Sw=>?_⟩
  obtain⟨v,hv,po⟩:=acP pf pr pe;have po:=po.same rE;refine⟨_,rfl,_,rfl,_,_,rfl,rfl,(by decide:(0:Int)<3),q7,_,_,_,rfl,rfl,ai.of (rE _ _ h9),hv,?_⟩
  refine⟨by show 3<=sizeLine;decide,λp np=>?_⟩
  have U:=(ae.refl GC).upd np (o:=.tup [.str "most",.ref l,v]);exact fin _ _ ((T9.trans rE).trans U) ⟨p,l,as,v,rfl,aA,U _ _ Wq,Sw.same U,po.same U⟩
theorem Ef(T:TD w K mg AR FR base):ax P w K mg base a8 1 AR.zK FR.ya ["names","places"] (O1 K):=by
 refine T.Bz.bz ["names","places"] ?_;rintro nd _ A _ s H vs Q E hr ⟨a,l,ns,is,rfl,ha,hl,wl,hi,hw,hQ⟩;refine⟨_,(ak (au (fX lW qY qZ oA af (q1 (ag cI (ag cI (bB (q1 af)) (qm ["place","names"] [0] (cT (pv 1)) λ_=>(qx eN (pv 1) (pv 0)))) (bB (q1 af))))))),?_⟩
 try dsimp only[aN,aO,aP,Cx.aD,Cx.aI]
 refine⟨rfl,by decide,λq1 n1=>?_⟩
 have L1:LW H q1 [c_] (upd H q1 (.lst [.str c_])):=LW.lit [c_] n1;generalize upd H q1 (.lst [.str c_])=H1 at L1 ⊢;refine⟨_,rfl,l,rfl,⟨_,ai.of (L1.sm _ _ hl)⟩,?_⟩;refine fV (K:=K) (τ:=[some (.ref a)]) (λi=>ns.getD i.toNat ay) cH (λ_ h=>h) (ai.of (L1.sm _ _ hl)) (kr is) wl (λB v c H2 hc hF S Q' hq=>?_) ?_
 ·obtain rfl:v=V.int c:=hF
  exact⟨_,rfl,_,rfl,a,_,_,_,rfl,rfl,ai.of ((L1.sm.trans S) _ _ ha),kz (hi c hc),hq _ _ (ae.refl _) rfl⟩
 ·intro ys H2 S r q2 n2
  have e:=cH.all r;subst e;have b0:=LW.lit (H:=H2) (is.map λi=>ns.getD i.toNat ay) n2
  generalize upd H2 q2 _=H3 at b0 ⊢;refine LW.cat (H0:=H) ((S.trans b0.sm) _ _ L1.at') b0.at' ((L1.sm.trans S).trans b0.sm) (by rw[aH];show 1+_<=_;omega) λp1 H4 L4=>?_
  refine⟨by decide,λq3 n3=>?_⟩
  have L3:LW H4 q3 [dm] (upd H4 q3 (.lst [.str dm])):=LW.lit [dm] n3;generalize upd H4 q3 (.lst [.str dm])=H5 at L3 ⊢;refine LW.cat (H0:=H) (L3.sm _ _ L4.at') L3.at' (L4.sm.trans L3.sm) (by rw[bS,aH];show 1+_+1<=_;omega) λp2 H6 L6=>?_
  refine⟨_,p2,fG ns is,1001,rfl,rfl,ai.of L6.at',hw,?_,hQ _ L6.sm⟩;rw[oE];show _*1001+_*1<=_;omega
theorem ab7(T:TD w K mg AR FR base):ax P w K mg base a8 1 AR.si FR.rX ["net","paper"] (aeR K):=by
 exact⟨λ_ _ _ _ h=>False.elim h,λ_ _ _ _ _ _ _ _ _ _ _ _ _ h=>False.elim h⟩
theorem Li(T:TD w K mg AR FR base):ax P w K mg base a8 5 AR.zP FR.yf ["net","pair"] (O6 AR.aC K):=by
 refine T.Fn.bz ["net","pair","row"] ?_;rintro nd _ A _ s H vs Q E hr ⟨x,dx,b,d,t,g,f,ts,gs,N,p,c,rfl,n,ok,hB,wl,gd,hQ⟩;refine⟨_,(ar (qs 2 nd (qx eN (qf (pv 0)) (qx aW (pv 1) ah)))
   (ar (bu (adM (qx aW (pv 1) ah) (λ_=>rfl)) (ak (qs 2 nd (ag bp (ag bp (ag bp (pv 2) af) (fX lW qY qZ oA af (q1 (qm ["point"] [] (cT (qx aW (pv 1) ah)) λ_=>(qy (jE rfl T.hD) T.gC gT (q1 (pv 0))))))) af))) bw)
   (ak (au (pv 2))))),?_⟩
 try dsimp only[aN,aO,aP,Cx.aD,Cx.aI]
 obtain⟨l,ht,hl⟩:=hB;have a0:bT [V.int c.1,V.ref l] 0=some (.int c.1):=c7 (j:=0) rfl;have eM:=sizeLine_eq;have nl:=(qG (uS ok gd.1)).2.1;refine⟨_,rfl,x,_,dx,_,_,rfl,n.ob,T.c9,T.gZ,rfl,_,rfl,p,_,_,_,rfl,rfl,av.of ht,a0,d,_,_,_,rfl,rfl,ai.of n.hd,kz gd.1,?_⟩
 try dsimp only[aG]
 refine⟨_,rfl,p,_,_,_,rfl,rfl,av.of ht,rfl,!decide (c.2=[]),?_,?_⟩
 ·exact .inl ⟨_,ai.of hl,by cases c.2<;>rfl⟩
 by_cases e:c.2=[]
 ·rw[decide_eq_true e]
  refine bt ⟨_,rfl,?_⟩;have h:=hQ _ (ae.refl _);unfold gA iJ at h;rw[if_pos e] at h;exact h
 ·rw[decide_eq_false e]
  refine bI ?_;have hb:∀y∈c.2.map bj,y.length<=1001:=λy hy=>by
   obtain⟨i,hi,rfl⟩:=bR.mp hy;exact(kA (gd.2 i hi)).2.1
  have hj:=lG hb;rw[aH] at hj;refine⟨_,rfl,_,_,rfl,rfl,by show _+3<=_;omega,rfl,_,rfl,p,_,_,_,rfl,rfl,av.of ht,rfl,l,rfl,⟨_,ai.of hl⟩,?_⟩
  refine fV (K:=K) (τ:=[]) bj cH (λ_ h=>h) (ai.of hl) (kr c.2) wl (λB v i H2 hi hF S Q' hq=>?_) ?_
  ·obtain rfl:v=V.int i:=hF
   exact⟨_,rfl,i,rfl,km (la (gd.2 i hi)),hq _ _ (ae.refl _) rfl⟩
  ·intro ys H2 S r q2 n2
   have ey:=cH.all r;subst ey;refine⟨_,q2,c.2.map bj,1001,rfl,rfl,ai.of aA,hb,by rw[aH];show _*1001+_*1<=_;omega,_,_,rfl,rfl,?_,_,_,rfl,rfl,?_,?_⟩
   ·rw[fO]
    show _+3+(jn (c.2.map bj)).length<=_;omega
   ·rw[fO,fO]
    show _+3+(jn (c.2.map bj)).length+2<=_;omega
   ·try dsimp only[aG]
    refine⟨_,rfl,?_⟩;rw[show ∀x:Str,x++zalias233z " [ " ++ fo (zalias233z " ") (c.2.map bj)++zalias233z " ]" = x++zalias233z " [ " ++ jn (c.2.map bj)++zalias233z " ]" from λ_=>rfl,acZ N e]
    exact hQ _ (S.upd n2)
theorem qH(T:TD w K mg AR FR base):ax P w K mg base a8 1 AR.zF FR.xW ["bag"] (OW K):=by
 refine T.oU.bz ["bag","words","one"] ?_;rintro nd _ A _ s H vs Q E hr ⟨l,m,rfl,hl,m0,wl,hn,hQ⟩;refine⟨_,(ar (qs 1 nd (bB jV))
   (ar (qK PassesOwn.never rfl (cT (pv 0)) (qn 2 nd)
   (ak (bu (qp i7 (pv 2) fj) (ak (eX (fX ph uh ui qz (pv 1) (q1 af)))) (ak (eX (fX ph uh ui qz (pv 1) (q1 (qy (jE rfl T.hD) T.gC gT (q1 (pv 2))))))))))
   (ak (au (ag bp (ag bp af (fX lW qY qZ oA af (q1 (pv 1)))) af))))),?_⟩
 try dsimp only[aN,aO,aP,Cx.aD,Cx.aI]
 refine⟨by decide,λq nq=>?_⟩
 have L0:LW H q [] (upd H q (.lst [])):=LW.lit [] nq
 try dsimp only[aG]
 generalize upd H q (.lst [])=H1 at L0 ⊢;refine⟨_,rfl,l,rfl,⟨_,ai.of (L0.sm _ _ hl)⟩,?_⟩;have eM:=sizeLine_eq;refine sO (K:=K) (a:=l) (xs:=cX m) (λi σ H2=>∃(o:Option V),σ=[some (.ref l),some (.ref q),o]/\LW H q ((m.take i).map fh) H2) ⟨none,rfl,L0⟩ (λi σ H2 _ jM=>by obtain⟨_,_,L⟩:=jM;exact ai.of (L.sm _ _ hl)) ?_ ?_
 ·rintro i v σ H2 hx ⟨o,rfl,L⟩
  obtain⟨c,hc,e⟩:=Paired.getL (AM m) hx;obtain rfl:v=vm c:=e;have hm:=kS hc;have es:(m.take (i+1)).map fh=(m.take i).map fh++[fh c]:=by
   rw[oX,hc,dX];rfl
  have hz:(bq ((m.take i).map fh)).length+1<=sizeLine:=by
   rw[ja,aH,lZ];omega
  have fin:∃o,[some (V.ref l),some (V.ref q),some (vm c)]=[some (V.ref l),some (V.ref q),o]/\LW H q ((m.take (i+1)).map fh) (upd H2 q (.lst (bq ((m.take i).map fh)++[.str (fh c)]))):=⟨_,rfl,⟨L.sm.ub L.nw,L.nw,by rw[aA,es,FO];rfl⟩⟩
  refine⟨_,rfl,rfl,_,rfl,?_⟩
  cases c with
  | none=>exact bI ⟨_,rfl,.inl ⟨rfl,_,ai.of L.at'⟩,q,_,_,rfl,rfl,L.at',hz,fin⟩
  | some n=>exact bt ⟨_,rfl,.inl ⟨rfl,_,ai.of L.at'⟩,_,rfl,n,rfl,km (Cq 1000 (hn n hm)),q,_,_,rfl,rfl,L.at',hz,fin⟩
 ·rintro σ H2 ⟨o,rfl,L⟩
  rw[show (cX m).length=m.length from aH ..,oY] at L
  have hw:∀y∈m.map fh,y.length<=1001:=λy hy=>by
   obtain⟨c,hc,rfl⟩:=bR.mp hy
   cases c with
   | none=>exact(by decide:1<=1001)
   | some n=>exact(K7 (hn n hc)).2.1
  have hj:=lG hw;rw[aH] at hj;refine⟨rfl,_,rfl,_,q,m.map fh,1001,rfl,rfl,ai.of L.at',hw,by rw[aH];show _*1001+_*1<=_;omega,_,_,rfl,rfl,by show 2+(jn (m.map fh)).length<=_;omega,_,_,rfl,rfl,?_,?_⟩
  ·rw[fO]
   show 2+(jn (m.map fh)).length+2<=_;omega
  ·show Q (.str (zalias233z "< " ++ jn (m.map fh)++zalias233z " >")) H2
   rw[Ub m0];exact hQ _ L.sm
theorem Lk(T:TD w K mg AR FR base):ax P w K mg base a8 5 AR.zS FR.yi ["net","reason"] (Pa AR.aC K):=by
 refine T.Fp.bz ["net","reason"] ?_;rintro nd _ A _ s H vs Q E hr ⟨x,dx,b,d,t,g,f,ts,gs,N,v,r,rfl,n,ok,hv,l1,gd,fl,hQ⟩;refine⟨_,(ar (bu (qp i7 (pv 1) fj) (ak (au af)) bw)
   (ar (bu (qp bX (qx aW (pv 1) ah) af) (ak (au (ag bp af (T.Bz.ca (Ef T) hr aw (q2 (qf (pv 0)) (qx aW (pv 1) ah)))))) bw)
   (ak (au (ag bp af (T.oU.ca (qH T) hr aw (q1 (qx aW (pv 1) ah)))))))),?_⟩
 try dsimp only[aN,aO,aP,Cx.aD,Cx.aI]
 refine⟨_,rfl,rfl,_,rfl,?_⟩
 cases r with
 | no =>
  obtain rfl:v=V.aR:=hv;exact bI (hQ _ (ae.refl _))
 | yes k bs =>
  obtain⟨a,l,rfl,ht,hl⟩:=hv;have lb:=l1 k bs rfl;refine bt ?_;have a0:bT [V.str (kindS k),V.ref l] 0=some (.str (kindS k)):=c7 (j:=0) rfl;have eM:=sizeLine_eq;refine⟨_,rfl,a,_,_,_,rfl,rfl,av.of ht,a0,rfl,_,rfl,?_⟩
  cases k with
  | true =>
   have hw:=λw hw=>(vQ ok ok.bn gd w hw).2.1
   have hj:=lG hw;rw[oE] at hj;refine gY ⟨_,rfl,x,_,dx,_,_,rfl,n.ob,T.c9,T.gy,rfl,_,rfl,a,_,_,_,rfl,rfl,av.of ht,rfl,b,l,N.aa,bs,rfl,n.hb,hl,lb,gd,hw,λH' S=>?_⟩
   exact⟨_,_,rfl,rfl,by show 5+(jn (fG N.aa bs)).length<=_;omega,hQ _ S⟩
  | false =>
   have hw:=λw hw=>(uD ok (n_ ok gd) w hw).2.1
   have hj:=lG hw;rw[nk,aH] at hj;refine aE (by decide) ⟨_,rfl,a,_,_,_,rfl,rfl,av.of ht,rfl,l,bs.map some,rfl,by rw[qU];exact hl,λe=>fl (uu.mp e),by rw[aH];exact lb,n_ ok gd,λH' S=>?_⟩
   exact⟨_,_,rfl,rfl,by show 7+(jn (aT (bs.map some))).length<=_;omega,hQ _ S⟩
theorem ab8(T:TD w K mg AR FR base):ax P w K mg base a8 6 AR.si FR.rX ["net","paper"] (O9 AR.aC K):=by
 refine T.wA.bz ["net","paper","kind","told"] ?_;rintro nd _ A _ s H vs Q E hr ⟨x,dx,b,d,t,g,f,ts,gs,N,v,P,rfl,n,ok,hv,gd,fit,fl,wl,hQ⟩;refine⟨_,(ar (qs 2 nd (qx aW (pv 1) ah))
   (ar (bu (PW.pt (kH (qp bX (pv 2) af) (lL (qp bX (pv 2) af)))) (ar (Bf (i:=3) (N':=["block","net"]) (nt:=1) (caps:=[0]) _ _ (gQ.of (by kernel_rfl)) nd rfl rfl (cT (qx aW (pv 1) ah)) (λ_=>(i_ (i:=0) ["block","net"] (by decide +kernel) (by rfl))) (λ_=>kG) (λ_=>(ag bp (ag bp (qy (jE rfl T.hD) T.gC gT (q1 (qx aW (pv 0) ah))) af) (T.Bz.ca (Ef T) hr aw (q2 (qf (pv 1)) (qx aW (pv 0) ah))))))
   (ar (bu (qp bX (pv 2) af) (ak (qs 3 nd (ag cI (pv 3) (bB (q2 af (fX lW qY qZ oA af (q1 (ag cI (bB (q1 (qx aW (qx aW (pv 1) ah) ah))) (T.wA.ca (ab7 T) hr aw (q2 (pv 0) (qx aW (pv 1) ah))))))))))) bw)
   (ak (au (pv 3))))) bw)
   (ar (bu (qp bX (pv 2) af) (ak (au (qm ["pair","net"] [0] (cT (qx aW (pv 1) ah)) λ_=>(T.Fn.ca (Li T) hr aw (q2 (pv 1) (pv 0)))))) bw)
   (ar (bu (qp bX (pv 2) af) (ak (au (bB (q1 (T.oU.ca (qH T) hr aw (q1 (qx aW (pv 1) ah))))))) bw)
   (ar (bu (qp bX (pv 2) af) (ak (au (bB (q2 (qy (jE rfl T.hD) T.gC gT (q1 (qx aW (pv 1) ah))) (T.oU.ca (qH T) hr aw (q1 (qx aW (pv 1) ah))))))) bw)
   (ar (bu (PW.pt (kH (qp bX (pv 2) af) (lL (qp bX (pv 2) af)))) (ak (au (qm ["place","net"] [0] (cT (qx aW (pv 1) ah)) λ_=>(qx eN (qf (pv 1)) (pv 0))))) bw)
   (ar (bu (qp bX (pv 2) af) (ak (au (qm ["reason","net"] [0] (cT (qx aW (pv 1) ah)) λ_=>(T.Fp.ca (Lk T) hr aw (q2 (pv 1) (pv 0)))))) bw)
   (ak (au (qm ["bag"] [] (cT (qx aW (pv 1) ah)) λ_=>(T.oU.ca (qH T) hr aw (q1 (pv 0))))))))))))),?_⟩
 try dsimp only[aN,aO,aP,Cx.aD,Cx.aI]
 obtain⟨a,l,r,rfl,ht⟩:=hv.top;have a0:bT (V.str (bK P)::V.ref l::r) 0=some (.str (bK P)):=c7 (j:=0) rfl;refine⟨_,rfl,a,_,_,_,rfl,rfl,av.of ht,a0,?_⟩
 try dsimp only[aG]
 cases P with
 | wr k bs=>cases k<;>cases gd
 | mk k ms =>
  cases k with
  | fence =>
   obtain⟨a2,l2,dY,e2,k1,k2,k3⟩:=hv
   cases e2;have gm:∀m∈ms,fg m:=gd;refine⟨_,rfl,rfl,_,rfl,aE (of_decide_eq_false rfl) ⟨_,rfl,rfl,_,rfl,aE (of_decide_eq_false rfl) ⟨_,rfl,rfl,_,rfl,aE (of_decide_eq_false rfl) ⟨_,rfl,rfl,_,rfl,aE (of_decide_eq_false rfl) ⟨_,rfl,rfl,_,rfl,aE (of_decide_eq_false rfl) ⟨_,rfl,rfl,_,rfl,aE (of_decide_eq_false rfl) ⟨_,rfl,rfl,_,rfl,aE (of_decide_eq_false rfl) ⟨_,rfl,rfl,_,rfl,aE (of_decide_eq_false rfl) ?_⟩⟩⟩⟩⟩⟩⟩⟩;refine⟨_,rfl,a,_,_,_,rfl,rfl,av.of k1,rfl,l2,rfl,⟨_,ai.of k2⟩,?_⟩;refine fV (K:=K) (τ:=[]) (λm=>jn (aT m)) cH (λ_ h=>h) (ai.of k2) (jW k3) fit.1 (λB v m H2 hm hF S Q' hq=>?_) ?_
   ·obtain⟨q,rfl,mF⟩:=hF
    exact⟨_,rfl,q,m,rfl,S _ _ mF,fl m hm,fit.2 m hm,sQ ok (gm m hm),λH' S'=>hq _ _ S' rfl⟩
   ·intro ys H2 S r q nq
    have e:=cH.all r;subst e;have L:=LW.back S (LW.lit (H:=H2) (ms.map λm=>jn (aT m)) nq)
    exact hQ.of2 (show (ms.map λm=>jn (aT m))=dj N (.mk .fence ms) from by unfold dj iG;rw[ek];rfl) L
  | room =>
   obtain⟨a2,l2,dY,e2,k1,k2,k3⟩:=hv
   cases e2;have gm:∀m∈ms,fg m:=λm hm=>(gd m hm).1
   refine⟨_,rfl,rfl,_,rfl,aE (of_decide_eq_false rfl) ⟨_,rfl,rfl,_,rfl,aE (of_decide_eq_false rfl) ⟨_,rfl,rfl,_,rfl,aE (of_decide_eq_false rfl) ⟨_,rfl,rfl,_,rfl,aE (of_decide_eq_false rfl) ⟨_,rfl,rfl,_,rfl,aE (of_decide_eq_false rfl) ⟨_,rfl,rfl,_,rfl,aE (of_decide_eq_false rfl) ⟨_,rfl,rfl,_,rfl,aE (of_decide_eq_false rfl) ⟨_,rfl,rfl,_,rfl,aE (of_decide_eq_false rfl) ?_⟩⟩⟩⟩⟩⟩⟩⟩;refine⟨_,rfl,a,_,_,_,rfl,rfl,av.of k1,rfl,l2,rfl,⟨_,ai.of k2⟩,?_⟩;refine fV (K:=K) (τ:=[]) (λm=>jn (aT m)) cH (λ_ h=>h) (ai.of k2) (jW k3) fit.1 (λB v m H2 hm hF S Q' hq=>?_) ?_
   ·obtain⟨q,rfl,mF⟩:=hF
    exact⟨_,rfl,q,m,rfl,S _ _ mF,fl m hm,fit.2 m hm,sQ ok (gm m hm),λH' S'=>hq _ _ S' rfl⟩
   ·intro ys H2 S r q nq
    have e:=cH.all r;subst e;have L:=LW.back S (LW.lit (H:=H2) (ms.map λm=>jn (aT m)) nq)
    exact hQ.of2 (show (ms.map λm=>jn (aT m))=dj N (.mk .room ms) from by unfold dj iG;rw[ek];rfl) L
  | wants=>cases gd
 | b3 ws =>
  obtain⟨a2,l2,e2,k1,k2⟩:=hv
  cases e2;have lw:ws.length<=1000:=fit;refine⟨_,rfl,rfl,_,rfl,aE (of_decide_eq_false rfl) ⟨_,rfl,rfl,_,rfl,aE (of_decide_eq_false rfl) ⟨_,rfl,rfl,_,rfl,aE (of_decide_eq_false rfl) ⟨_,rfl,rfl,_,rfl,gY ?_⟩⟩⟩⟩;exact⟨_,rfl,a,_,_,_,rfl,rfl,av.of k1,rfl,l2,ws.map some,rfl,by rw[qU];exact k2,λe=>fl (uu.mp e),by rw[aH];exact lw,n_ ok gd,λH' S=>⟨by show 1<=sizeLine;decide,λq nq=>hQ.of (LW.back S (LW.lit [jn (aT (ws.map some))] nq))⟩⟩
 | sum ws k=>cases gd
 | st k bs=>cases gd
 | kept rs=>cases gd
 | most bs q=>cases gd
theorem ab6(T:TD w K mg AR FR base):ax P w K mg base a8 7 AR.si FR.rX ["net","paper"] (O8 AR.aC K):=by
 refine T.wA.bz ["net","paper","kind","told"] ?_;rintro nd _ A _ s H vs Q E hr ⟨x,dx,b,d,t,g,f,ts,gs,N,v,P,rfl,n,ok,hv,fn,hQ⟩;refine⟨_,(ar (qs 2 nd (qx aW (pv 1) ah))
   (ar (bu (PW.pt (kH (qp bX (pv 2) af) (lL (qp bX (pv 2) af)))) (ar (Bf (i:=3) (N':=["block","net"]) (nt:=1) (caps:=[0]) _ _ (gQ.of (by kernel_rfl)) nd rfl rfl (cT (qx aW (pv 1) ah)) (λ_=>(i_ (i:=0) ["block","net"] (by decide +kernel) (by rfl))) (λ_=>kG) (λ_=>(ag bp (ag bp (qy (jE rfl T.hD) T.gC gT (q1 (qx aW (pv 0) ah))) af) (T.Bz.ca (Ef T) hr aw (q2 (qf (pv 1)) (qx aW (pv 0) ah))))))
   (ar (bu (qp bX (pv 2) af) (ak (qs 3 nd (ag cI (pv 3) (bB (q2 af (fX lW qY qZ oA af (q1 (ag cI (bB (q1 (qx aW (qx aW (pv 1) ah) ah))) (T.wA.ca (ab8 T) hr aw (q2 (pv 0) (qx aW (pv 1) ah))))))))))) bw)
   (ak (au (pv 3))))) bw)
   (ar (bu (qp bX (pv 2) af) (ak (au (qm ["pair","net"] [0] (cT (qx aW (pv 1) ah)) λ_=>(T.Fn.ca (Li T) hr aw (q2 (pv 1) (pv 0)))))) bw)
   (ar (bu (qp bX (pv 2) af) (ak (au (bB (q1 (T.oU.ca (qH T) hr aw (q1 (qx aW (pv 1) ah))))))) bw)
   (ar (bu (qp bX (pv 2) af) (ak (au (bB (q2 (qy (jE rfl T.hD) T.gC gT (q1 (qx aW (pv 1) ah))) (T.oU.ca (qH T) hr aw (q1 (qx aW (pv 1) ah))))))) bw)
   (ar (bu (PW.pt (kH (qp bX (pv 2) af) (lL (qp bX (pv 2) af)))) (ak (au (qm ["place","net"] [0] (cT (qx aW (pv 1) ah)) λ_=>(qx eN (qf (pv 1)) (pv 0))))) bw)
   (ar (bu (qp bX (pv 2) af) (ak (au (qm ["reason","net"] [0] (cT (qx aW (pv 1) ah)) λ_=>(T.Fp.ca (Lk T) hr aw (q2 (pv 1) (pv 0)))))) bw)
   (ak (au (qm ["bag"] [] (cT (qx aW (pv 1) ah)) λ_=>(T.oU.ca (qH T) hr aw (q1 (pv 0))))))))))))),?_⟩
 try dsimp only[aN,aO,aP,Cx.aD,Cx.aI]
 obtain⟨a,l,r,rfl,ht⟩:=hv.top;have a0:bT (V.str (bK P)::V.ref l::r) 0=some (.str (bK P)):=c7 (j:=0) rfl;refine⟨_,rfl,a,_,_,_,rfl,rfl,av.of ht,a0,?_⟩
 try dsimp only[aG]
 cases P with
 | wr k bs =>
  cases k with
  | true =>
   obtain⟨a2,l2,dY,e2,k1,k2,k3⟩:=hv
   cases e2;refine⟨_,rfl,rfl,_,rfl,gY (bI ?_)⟩;refine⟨_,rfl,a,_,_,_,rfl,rfl,av.of k1,rfl,l2,rfl,⟨_,ai.of k2⟩,?_⟩;have eM:=sizeLine_eq;refine fV (K:=K) (τ:=[some (.ref x)]) (λc=>jn (c8 N c)) cH (λ_ h=>h) (ai.of k2) (jW k3) fn.ft.1 (λB v c H2 hc hF S Q' hq=>?_) ?_
   ·obtain⟨q,rfl,z,z1,z2⟩:=hF
    have gc:=fn.gd c hc;have lc:=fn.ft.2 c hc;have hw:=λw hw=>(vQ ok ok.dn gc.2 w hw).2.1
    have hj:=lG hw;rw[oE] at hj;have lt:(zalias233z (toString c.1)).length<=1001:=(kA gc.1).2.1;have n2:=n.same S;refine⟨_,rfl,q,_,_,_,rfl,rfl,av.of (S _ _ z1),c7 (j:=0) rfl,c.1,rfl,km (la gc.1),_,_,rfl,rfl,by show _+1<=_;omega,_,rfl,x,_,dx,_,_,rfl,n2.ob,T.c9,T.gZ,rfl,_,rfl,q,_,_,_,rfl,rfl,av.of (S _ _ z1),rfl,d,z,N.az,c.2,rfl,n2.hd,S _ _ z2,lc,gc.2,hw,λH' S'=>?_⟩
    exact⟨_,_,rfl,rfl,by rw[fO];show _+1+(jn (fG N.az c.2)).length<=_;omega,hq _ _ S' rfl⟩
   ·intro ys H2 S r q nq
    have e:=cH.all r;subst e;have L:=LW.back S (LW.lit (H:=H2) (bs.map λc=>jn (c8 N c)) nq)
    try dsimp only[aG]
    generalize upd H2 q _=H3 at L ⊢;refine⟨_,rfl,rfl,_,rfl,aE (of_decide_eq_false rfl) ?_⟩;exact⟨_,rfl,hQ.of2 (show (bs.map λc=>jn (c8 N c))=dj N (.wr true bs) from by unfold dj iG;rw[ek];rfl) L⟩
  | false =>
   obtain⟨a2,l2,dY,e2,k1,k2,k3⟩:=hv
   cases e2;refine⟨_,rfl,rfl,_,rfl,aE (of_decide_eq_false rfl) ⟨_,rfl,rfl,_,rfl,aE (of_decide_eq_false rfl) ⟨_,rfl,rfl,_,rfl,gY ?_⟩⟩⟩;refine⟨_,rfl,a,_,_,_,rfl,rfl,av.of k1,rfl,l2,rfl,⟨_,ai.of k2⟩,?_⟩;refine fV (K:=K) (τ:=[some (.ref x)]) (λc=>jn (gA N c)) cH (λ_ h=>h) (ai.of k2) (jW k3) fn.ft.1 (λB v c H2 hc hF S Q' hq=>?_) ?_
   ·obtain⟨q,rfl,z,z1,z2⟩:=hF
    exact⟨_,rfl,_,rfl,x,dx,b,d,t,g,f,ts,gs,N,q,c,rfl,n.same S,ok,⟨z,S _ _ z1,S _ _ z2⟩,fn.ft.2 c hc,fn.gd c hc,λH' S'=>hq _ _ S' rfl⟩
   ·intro ys H2 S r q nq
    have e:=cH.all r;subst e;have L:=LW.back S (LW.lit (H:=H2) (bs.map λc=>jn (gA N c)) nq)
    exact hQ.of2 (show (bs.map λc=>jn (gA N c))=dj N (.wr false bs) from by unfold dj iG;rw[ek];rfl) L
 | mk k ms =>
  cases k with
  | fence =>
   obtain⟨a2,l2,dY,e2,k1,k2,k3⟩:=hv
   cases e2;have gm:∀m∈ms,fg m:=fn.gd;refine⟨_,rfl,rfl,_,rfl,aE (of_decide_eq_false rfl) ⟨_,rfl,rfl,_,rfl,aE (of_decide_eq_false rfl) ⟨_,rfl,rfl,_,rfl,aE (of_decide_eq_false rfl) ⟨_,rfl,rfl,_,rfl,aE (of_decide_eq_false rfl) ⟨_,rfl,rfl,_,rfl,aE (of_decide_eq_false rfl) ⟨_,rfl,rfl,_,rfl,aE (of_decide_eq_false rfl) ⟨_,rfl,rfl,_,rfl,aE (of_decide_eq_false rfl) ⟨_,rfl,rfl,_,rfl,aE (of_decide_eq_false rfl) ?_⟩⟩⟩⟩⟩⟩⟩⟩;refine⟨_,rfl,a,_,_,_,rfl,rfl,av.of k1,rfl,l2,rfl,⟨_,ai.of k2⟩,?_⟩;refine fV (K:=K) (τ:=[]) (λm=>jn (aT m)) cH (λ_ h=>h) (ai.of k2) (jW k3) fn.ft.1 (λB v m H2 hm hF S Q' hq=>?_) ?_
   ·obtain⟨q,rfl,mF⟩:=hF
    exact⟨_,rfl,q,m,rfl,S _ _ mF,fn.fl m hm,fn.ft.2 m hm,sQ ok (gm m hm),λH' S'=>hq _ _ S' rfl⟩
   ·intro ys H2 S r q nq
    have e:=cH.all r;subst e;have L:=LW.back S (LW.lit (H:=H2) (ms.map λm=>jn (aT m)) nq)
    exact hQ.of2 (show (ms.map λm=>jn (aT m))=dj N (.mk .fence ms) from by unfold dj iG;rw[ek];rfl) L
  | room =>
   obtain⟨a2,l2,dY,e2,k1,k2,k3⟩:=hv
   cases e2;have gm:∀m∈ms,fg m:=λm hm=>(fn.gd m hm).1
   refine⟨_,rfl,rfl,_,rfl,aE (of_decide_eq_false rfl) ⟨_,rfl,rfl,_,rfl,aE (of_decide_eq_false rfl) ⟨_,rfl,rfl,_,rfl,aE (of_decide_eq_false rfl) ⟨_,rfl,rfl,_,rfl,aE (of_decide_eq_false rfl) ⟨_,rfl,rfl,_,rfl,aE (of_decide_eq_false rfl) ⟨_,rfl,rfl,_,rfl,aE (of_decide_eq_false rfl) ⟨_,rfl,rfl,_,rfl,aE (of_decide_eq_false rfl) ⟨_,rfl,rfl,_,rfl,aE (of_decide_eq_false rfl) ?_⟩⟩⟩⟩⟩⟩⟩⟩;refine⟨_,rfl,a,_,_,_,rfl,rfl,av.of k1,rfl,l2,rfl,⟨_,ai.of k2⟩,?_⟩;refine fV (K:=K) (τ:=[]) (λm=>jn (aT m)) cH (λ_ h=>h) (ai.of k2) (jW k3) fn.ft.1 (λB v m H2 hm hF S Q' hq=>?_) ?_
   ·obtain⟨q,rfl,mF⟩:=hF
    exact⟨_,rfl,q,m,rfl,S _ _ mF,fn.fl m hm,fn.ft.2 m hm,sQ ok (gm m hm),λH' S'=>hq _ _ S' rfl⟩
   ·intro ys H2 S r q nq
    have e:=cH.all r;subst e;have L:=LW.back S (LW.lit (H:=H2) (ms.map λm=>jn (aT m)) nq)
    exact hQ.of2 (show (ms.map λm=>jn (aT m))=dj N (.mk .room ms) from by unfold dj iG;rw[ek];rfl) L
  | wants =>
   obtain⟨a2,l2,dY,e2,k1,k2,k3⟩:=hv
   cases e2;have gm:∀m∈ms,fg m:=λm hm=>(fn.gd m hm).1
   refine⟨_,rfl,rfl,_,rfl,aE (of_decide_eq_false rfl) ⟨_,rfl,rfl,_,rfl,aE (of_decide_eq_false rfl) ⟨_,rfl,rfl,_,rfl,aE (of_decide_eq_false rfl) ⟨_,rfl,rfl,_,rfl,aE (of_decide_eq_false rfl) ⟨_,rfl,rfl,_,rfl,aE (of_decide_eq_false rfl) ⟨_,rfl,rfl,_,rfl,aE (of_decide_eq_false rfl) ⟨_,rfl,rfl,_,rfl,aE (of_decide_eq_false rfl) ⟨_,rfl,rfl,_,rfl,aE (of_decide_eq_false rfl) ?_⟩⟩⟩⟩⟩⟩⟩⟩;refine⟨_,rfl,a,_,_,_,rfl,rfl,av.of k1,rfl,l2,rfl,⟨_,ai.of k2⟩,?_⟩;refine fV (K:=K) (τ:=[]) (λm=>jn (aT m)) cH (λ_ h=>h) (ai.of k2) (jW k3) fn.ft.1 (λB v m H2 hm hF S Q' hq=>?_) ?_
   ·obtain⟨q,rfl,mF⟩:=hF
    exact⟨_,rfl,q,m,rfl,S _ _ mF,fn.fl m hm,fn.ft.2 m hm,sQ ok (gm m hm),λH' S'=>hq _ _ S' rfl⟩
   ·intro ys H2 S r q nq
    have e:=cH.all r;subst e;have L:=LW.back S (LW.lit (H:=H2) (ms.map λm=>jn (aT m)) nq)
    exact hQ.of2 (show (ms.map λm=>jn (aT m))=dj N (.mk .wants ms) from by unfold dj iG;rw[ek];rfl) L
 | b3 ws =>
  obtain⟨a2,l2,e2,k1,k2⟩:=hv
  cases e2;have lw:ws.length<=1000:=fn.ft;refine⟨_,rfl,rfl,_,rfl,aE (of_decide_eq_false rfl) ⟨_,rfl,rfl,_,rfl,aE (of_decide_eq_false rfl) ⟨_,rfl,rfl,_,rfl,aE (of_decide_eq_false rfl) ⟨_,rfl,rfl,_,rfl,gY ?_⟩⟩⟩⟩;exact⟨_,rfl,a,_,_,_,rfl,rfl,av.of k1,rfl,l2,ws.map some,rfl,by rw[qU];exact k2,λe=>fn.fl (uu.mp e),by rw[aH];exact lw,n_ ok fn.gd,λH' S=>⟨by show 1<=sizeLine;decide,λq nq=>hQ.of (LW.back S (LW.lit [jn (aT (ws.map some))] nq))⟩⟩
 | sum ws k =>
  obtain⟨a2,l2,e2,k1,k2⟩:=hv
  cases e2;have lw:ws.length<=1000:=fn.ft;refine⟨_,rfl,rfl,_,rfl,aE (of_decide_eq_false rfl) ⟨_,rfl,rfl,_,rfl,aE (of_decide_eq_false rfl) ⟨_,rfl,rfl,_,rfl,aE (of_decide_eq_false rfl) ⟨_,rfl,rfl,_,rfl,aE (of_decide_eq_false rfl) ⟨_,rfl,rfl,_,rfl,gY ?_⟩⟩⟩⟩⟩;exact⟨_,rfl,a,_,_,_,rfl,rfl,av.of k1,rfl,k,rfl,km (la fn.gd.2),_,rfl,a,_,_,_,rfl,rfl,av.of k1,rfl,l2,ws.map some,rfl,by rw[qU];exact k2,λe=>fn.fl (uu.mp e),by rw[aH];exact lw,n_ ok fn.gd.1,λH' S=>⟨by show 2<=sizeLine;decide,λq nq=>hQ.of (LW.back S (LW.lit [bj k,jn (aT (ws.map some))] nq))⟩⟩
 | st k bs =>
  cases k with
  | true =>
   obtain⟨a2,l2,e2,k1,k2⟩:=hv
   cases e2;refine⟨_,rfl,rfl,_,rfl,aE (of_decide_eq_false rfl) ⟨_,rfl,rfl,_,rfl,aE (of_decide_eq_false rfl) ⟨_,rfl,rfl,_,rfl,aE (of_decide_eq_false rfl) ⟨_,rfl,rfl,_,rfl,aE (of_decide_eq_false rfl) ⟨_,rfl,rfl,_,rfl,aE (of_decide_eq_false rfl) ⟨_,rfl,rfl,_,rfl,gY (bI ?_)⟩⟩⟩⟩⟩⟩;refine⟨_,rfl,a,_,_,_,rfl,rfl,av.of k1,rfl,l2,rfl,⟨_,ai.of k2⟩,?_⟩;refine fV (K:=K) (τ:=[some (.ref x)]) (λi=>N.aa.getD i.toNat ay) cH (λ_ h=>h) (ai.of k2) (kr bs) fn.ft (λB v c H2 hc hF S Q' hq=>?_) ?_
   ·obtain rfl:v=V.int c:=hF
    have n2:=n.same S;exact⟨_,rfl,x,_,dx,_,_,rfl,n2.ob,T.c9,T.gy,rfl,_,rfl,b,_,_,_,rfl,rfl,ai.of n2.hb,kz (fn.gd c hc),hq _ _ (ae.refl _) rfl⟩
   ·intro ys H2 S r q nq
    have e:=cH.all r;subst e;have L:=LW.back S (LW.lit (H:=H2) (bs.map λi=>N.aa.getD i.toNat ay) nq)
    exact hQ.of2 (show (bs.map λi=>N.aa.getD i.toNat ay)=dj N (.st true bs) from by unfold dj iG;rw[ek];rfl) L
  | false =>
   obtain⟨a2,l2,e2,k1,k2⟩:=hv
   cases e2;refine⟨_,rfl,rfl,_,rfl,aE (of_decide_eq_false rfl) ⟨_,rfl,rfl,_,rfl,aE (of_decide_eq_false rfl) ⟨_,rfl,rfl,_,rfl,aE (of_decide_eq_false rfl) ⟨_,rfl,rfl,_,rfl,aE (of_decide_eq_false rfl) ⟨_,rfl,rfl,_,rfl,aE (of_decide_eq_false rfl) ⟨_,rfl,rfl,_,rfl,aE (of_decide_eq_false rfl) ⟨_,rfl,rfl,_,rfl,gY ?_⟩⟩⟩⟩⟩⟩⟩;refine⟨_,rfl,a,_,_,_,rfl,rfl,av.of k1,rfl,l2,rfl,⟨_,ai.of k2⟩,?_⟩;refine fV (K:=K) (τ:=[some (.ref x)]) (λi=>N.aa.getD i.toNat ay) cH (λ_ h=>h) (ai.of k2) (kr bs) fn.ft (λB v c H2 hc hF S Q' hq=>?_) ?_
   ·obtain rfl:v=V.int c:=hF
    have n2:=n.same S;exact⟨_,rfl,x,_,dx,_,_,rfl,n2.ob,T.c9,T.gy,rfl,_,rfl,b,_,_,_,rfl,rfl,ai.of n2.hb,kz (fn.gd c hc),hq _ _ (ae.refl _) rfl⟩
   ·intro ys H2 S r q nq
    have e:=cH.all r;subst e;have L:=LW.back S (LW.lit (H:=H2) (bs.map λi=>N.aa.getD i.toNat ay) nq)
    exact hQ.of2 (show (bs.map λi=>N.aa.getD i.toNat ay)=dj N (.st false bs) from by unfold dj iG;rw[ek];rfl) L
 | kept rs =>
  obtain⟨a2,l2,Rv,e2,k1,k2,k3⟩:=hv
  cases e2;refine⟨_,rfl,rfl,_,rfl,aE (of_decide_eq_false rfl) ⟨_,rfl,rfl,_,rfl,aE (of_decide_eq_false rfl) ⟨_,rfl,rfl,_,rfl,aE (of_decide_eq_false rfl) ⟨_,rfl,rfl,_,rfl,aE (of_decide_eq_false rfl) ⟨_,rfl,rfl,_,rfl,aE (of_decide_eq_false rfl) ⟨_,rfl,rfl,_,rfl,aE (of_decide_eq_false rfl) ⟨_,rfl,rfl,_,rfl,aE (of_decide_eq_false rfl) ⟨_,rfl,rfl,_,rfl,gY ?_⟩⟩⟩⟩⟩⟩⟩⟩;refine⟨_,rfl,a,_,_,_,rfl,rfl,av.of k1,rfl,l2,rfl,⟨_,ai.of k2⟩,?_⟩;refine fV (K:=K) (τ:=[some (.ref x)]) (λr=>jn (f9 N r)) cH (λ_ h=>h) (ai.of k2) k3 fn.ft.1 (λB v c H2 hc hF S Q' hq=>?_) ?_
  ·exact⟨_,rfl,_,rfl,x,dx,b,d,t,g,f,ts,gs,N,v,c,rfl,n.same S,ok,hF.same S,λk bs e=>fn.ft.2 k bs (e ▸ hc),fn.gd c hc,fn.fl c hc,λH' S'=>hq _ _ S' rfl⟩
  ·intro ys H2 S r q nq
   have e:=cH.all r;subst e;have L:=LW.back S (LW.lit (H:=H2) (rs.map λr=>jn (f9 N r)) nq)
   exact hQ.of2 (show (rs.map λr=>jn (f9 N r))=dj N (.kept rs) from by unfold dj iG;rw[ek];rfl) L
 | most bs qp =>
  obtain⟨a2,l2,dY,u,e2,k1,k2,k3,k4⟩:=hv
  cases e2;refine⟨_,rfl,rfl,_,rfl,aE (of_decide_eq_false rfl) ⟨_,rfl,rfl,_,rfl,gY ?_⟩⟩;refine⟨_,rfl,a,_,_,_,rfl,rfl,av.of k1,rfl,l2,rfl,⟨_,ai.of k2⟩,?_⟩;have eM:=sizeLine_eq;refine fV (K:=K) (τ:=[some (.ref x)]) (λc=>jn (c8 N c)) cH (λ_ h=>h) (ai.of k2) (jW k3) fn.ft.1 (λB v c H2 hc hF S Q' hq=>?_) ?_
  ·obtain⟨q,rfl,z,z1,z2⟩:=hF
   have gc:=fn.gd.1 c hc;have lc:=fn.ft.2.1 c hc;have hw:=λw hw=>(vQ ok ok.dn gc.2 w hw).2.1
   have hj:=lG hw;rw[oE] at hj;have lt:(zalias233z (toString c.1)).length<=1001:=(kA gc.1).2.1;have n2:=n.same S;refine⟨_,rfl,q,_,_,_,rfl,rfl,av.of (S _ _ z1),c7 (j:=0) rfl,c.1,rfl,km (la gc.1),_,_,rfl,rfl,by show _+1<=_;omega,_,rfl,x,_,dx,_,_,rfl,n2.ob,T.c9,T.gZ,rfl,_,rfl,q,_,_,_,rfl,rfl,av.of (S _ _ z1),rfl,d,z,N.az,c.2,rfl,n2.hd,S _ _ z2,lc,gc.2,hw,λH' S'=>?_⟩
   exact⟨_,_,rfl,rfl,by rw[fO];show _+1+(jn (fG N.az c.2)).length<=_;omega,hq _ _ S' rfl⟩
  ·intro ys H2 S r q nq
   have e:=cH.all r;subst e;have L:=LW.back S (LW.lit (H:=H2) (bs.map λc=>jn (c8 N c)) nq)
   try dsimp only[aG]
   generalize upd H2 q _=H3 at L ⊢;refine⟨_,rfl,rfl,_,rfl,gY ?_⟩;have p3:=k4.same L.sm;have h3:=L.sm _ _ k1;obtain⟨c2,l3,r3,rfl,Y6⟩:=p3.top;have a3:bT (V.str (bK qp)::V.ref l3::r3) 0=some (.str (bK qp)):=c7 (j:=0) rfl;have ln:(d4 N qp).length<=99:=by
    have:=fn.ln;have e:(d4 N (.most bs qp)).length=(bs.flatMap (c8 N)).length+((d4 N qp).length+1)+1:=by
     show (bs.flatMap (c8 N)++cW::d4 N qp).length+1=_;rw[bS,bF]
    omega
   obtain⟨pl,pb⟩:=LU ok (Kd ok fn.gd.2) (by omega:(d4 N qp).length<=100)
   refine⟨_,rfl,rfl,_,rfl,a,_,_,_,rfl,rfl,av.of h3,rfl,c2,_,_,_,rfl,rfl,av.of Y6,a3,by show 1<=sizeLine;decide,λq5 n5=>?_⟩
   have L5:LW H3 q5 [bK qp] (upd H3 q5 (.lst [.str (bK qp)])):=LW.lit [bK qp] n5;generalize upd H3 q5 (.lst [.str (bK qp)])=H5 at L5 ⊢;have S5:=L.sm.trans L5.sm;refine⟨_,rfl,_,rfl,a,_,_,_,rfl,rfl,av.of (S5 _ _ k1),rfl,x,dx,b,d,t,g,f,ts,gs,N,.ref c2,qp,rfl,n.same S5,ok,k4.same S5,fn.gd.2,fn.ft.2.2,fn.fl,by omega,bV.mk λq6 H6 L6=>?_⟩
   refine LW.cat (H0:=H3) (L6.sm _ _ L5.at') L6.at' (L5.sm.trans L6.sm) (by rw[bF] at pl;show 1+_<=_;omega) λp7 H7 L7=>?_
   refine⟨_,p7,bK qp::dj N qp,100200,rfl,rfl,ai.of L7.at',pb,by show _*100200+_*1<=_;omega,by show 2<=sizeLine;decide,λq8 n8=>?_⟩
   have L8:LW H7 q8 [cW,jn (bK qp::dj N qp)] (upd H7 q8 (.lst [.str cW,.str (fo (zalias233z " ") (bK qp::dj N qp))])):=LW.lit [cW,jn (bK qp::dj N qp)] n8;generalize upd H7 q8 (.lst [.str cW,.str (fo (zalias233z " ") (bK qp::dj N qp))])=H8 at L8 ⊢;have S8:=L7.sm.trans L8.sm;have bl:=fn.ft.1;refine LW.cat (H0:=H) (S8 _ _ L.at') L8.at' (L.sm.trans S8) (by rw[aH];show _+2<=_;omega) λp9 H9 L9=>?_
   try dsimp only[aG]
   refine⟨_,rfl,hQ.of2 ?_ L9⟩;rw[Kj];unfold dj iG;rw[dX,ek];rfl
theorem AZ(T:TD w K mg AR FR base):ax P w K mg base a8 1 AR.zm FR.xy ["lists"] (Oz K):=by
 refine T.wu.bz ["lists","words","more"] ?_;rintro nd _ A _ s H vs Q E hr ⟨l,us,ws,rfl,hl,R,wl,hQ⟩;refine⟨_,(ar (qs 1 nd (bB jV))
   (ar (qK PassesOwn.never rfl (cT (pv 0)) (qn 2 nd)
   (ak (eX (fX ph PySem.F.slot_list_extend PySem.F.type_list_extend aa3 (pv 1) (q1 (pv 2))))))
   (ak (au (pv 1))))),?_⟩
 try dsimp only[aN,aO,aP,Cx.aD,Cx.aI]
 refine⟨by decide,λq nq=>?_⟩
 have L0:LW H q [] (upd H q (.lst [])):=LW.lit [] nq
 try dsimp only[aG]
 generalize upd H q (.lst [])=H1 at L0 ⊢;refine⟨_,rfl,l,rfl,⟨_,ai.of (L0.sm _ _ hl)⟩,?_⟩;have hlen:=Paired.length R;refine sO (K:=K) (a:=l) (xs:=us) (λi σ H2=>∃(o:Option V),σ=[some (.ref l),some (.ref q),o]/\LW H q (ws.take i).flatten H2) ⟨none,rfl,L0⟩ (λi σ H2 _ jM=>by obtain⟨_,_,L⟩:=jM;exact ai.of (L.sm _ _ hl)) ?_ ?_
 ·rintro i v σ H2 hx ⟨o,rfl,L⟩
  obtain⟨a,w,rfl,hw,ha⟩:=agZ R hx;have e:(ws.take (i+1)).flatten=(ws.take i).flatten++w:=by
   rw[oX,hw,Gw];simp
  have hle:(ws.take (i+1)).flatten.length<=ws.flatten.length:=by
   conv=>rhs;rw[<-ahI (i+1) ws,Gw,bS]
   omega
  have eM:=sizeLine_eq;have YN:=congrArg ri e;rw[bS] at YN;refine⟨_,rfl,.inl ⟨rfl,_,ai.of L.at'⟩,_,rfl,q,a,_,_,rfl,rfl,L.at',L.sm _ _ ha,by rw[ja,ja];omega,_,rfl,?_⟩
  rw[e,<-FO];exact⟨L.sm.ub L.nw,L.nw,aA⟩
 ·rintro σ H2 ⟨o,rfl,L⟩
  rw[hlen,oY] at L;exact⟨_,rfl,hQ.of L⟩
theorem Ll(T:TD w K mg AR FR base):ax P w K mg base a8 1 AR.zW FR.yp ["names","places"] (Ph K):=by
 refine T.Fq.bz ["names","places"] ?_;rintro nd _ A _ s H vs Q E hr ⟨a,l,ns,is,rfl,ha,hl,wl,hi,hQ⟩;refine⟨_,(ak (au (ag cI (ag cI (bB (q1 af)) (qm ["place","names"] [0] (cT (pv 1)) λ_=>(qx eN (pv 1) (pv 0)))) (bB (q1 af))))),?_⟩
 try dsimp only[aN,aO,aP,Cx.aD,Cx.aI]
 refine⟨by decide,λq1 n1=>?_⟩
 have L1:LW H q1 [c_] (upd H q1 (.lst [.str c_])):=LW.lit [c_] n1;generalize upd H q1 (.lst [.str c_])=H1 at L1 ⊢;refine⟨_,rfl,l,rfl,⟨_,ai.of (L1.sm _ _ hl)⟩,?_⟩;refine fV (K:=K) (τ:=[some (.ref a)]) (λi=>ns.getD i.toNat ay) cH (λ_ h=>h) (ai.of (L1.sm _ _ hl)) (kr is) wl (λB v c H2 hc hF S Q' hq=>?_) ?_
 ·obtain rfl:v=V.int c:=hF
  exact⟨_,rfl,_,rfl,a,_,_,_,rfl,rfl,ai.of ((L1.sm.trans S) _ _ ha),kz (hi c hc),hq _ _ (ae.refl _) rfl⟩
 ·intro ys H2 S r q2 n2
  have e:=cH.all r;subst e;have b0:=LW.lit (H:=H2) (is.map λi=>ns.getD i.toNat ay) n2
  generalize upd H2 q2 _=H3 at b0 ⊢;refine LW.cat (H0:=H) ((S.trans b0.sm) _ _ L1.at') b0.at' ((L1.sm.trans S).trans b0.sm) (by rw[aH];show 1+_<=_;omega) λp1 H4 L4=>?_
  refine⟨by decide,λq3 n3=>?_⟩
  have L3:LW H4 q3 [dm] (upd H4 q3 (.lst [.str dm])):=LW.lit [dm] n3;generalize upd H4 q3 (.lst [.str dm])=H5 at L3 ⊢;exact LW.cat (H0:=H) (L3.sm _ _ L4.at') L3.at' (L4.sm.trans L3.sm) (by rw[bS,aH];show 1+_+1<=_;omega) λp2 H6 L6=>hQ.of L6
theorem Lb(T:TD w K mg AR FR base):ax P w K mg base a8 5 AR.sd FR.xF ["net","paper"] (OF AR.aC K):=by
 refine T.Fg.bz ["net","paper"] ?_;rintro nd _ A _ s H vs Q E hr ⟨x,dx,b,d,t,g,f,p,l,ts,gs,N,as,us,bs,rfl,n,hp,a1,hl,R,l1,l2,gd,wl,hQ⟩;refine⟨_,(ak (au (T.wu.ca (AZ T) hr aw (q1 (tL (N':=["many","doors","net"]) (nt:=2) (caps:=[0]) _ _ (gQ.of (by kernel_rfl)) (cT (qx aW (pv 1) ah)) (λ_=>(Ba (by rfl) (oJ (i_ (i:=0) ["many","doors","net"] (by decide +kernel) (by rfl)) (oJ (i_ (i:=1) ["many","doors","net"] (by decide +kernel) (by rfl)) Bb)))) (λ_=>kG) (λ_=>(ag cI (bB (q1 (qy (jE rfl T.hD) T.gC gT (q1 (pv 0))))) (T.Fq.ca (Ll T) hr aw (q2 (qf (pv 2)) (pv 1)))))))))),?_⟩
 try dsimp only[aN,aO,aP,Cx.aD,Cx.aI]
 refine⟨_,rfl,p,_,_,_,rfl,rfl,hp,a1,l,rfl,⟨_,ai.of hl⟩,?_⟩;refine HJ (K:=K) (τ:=[some (.ref x)]) (c8 N) lH (λS h=>h.same S) (ai.of hl) R l1 (λB q c H2 hc e2 S Q' hq=>?_) ?_
 ·refine⟨_,rfl,c.1,rfl,km (la (gd c hc).1),by show 1<=sizeLine;decide,λq1 n1=>?_⟩
  have L1:LW H2 q1 [bj c.1] (upd H2 q1 (.lst [.str (bj c.1)])):=LW.lit [bj c.1] n1;generalize upd H2 q1 (.lst [.str (bj c.1)])=H3 at L1 ⊢;have S3:=S.trans L1.sm;have n3:=n.same S3;have lc:=l2 c hc;refine⟨_,rfl,x,_,dx,_,_,rfl,n3.ob,T.c9,T.gZ,rfl,_,rfl,d,q,N.az,c.2,rfl,n3.hd,S3 _ _ e2,lc,(gd c hc).2,bV.mk λq4 H4 L4=>?_⟩
  refine LW.cat (H0:=H2) (L4.sm _ _ L1.at') L4.at' (L1.sm.trans L4.sm) (by rw[oE];show 1+_<=_;omega) λp5 H5 L5=>hq _ _ L5.sm ⟨p5,rfl,L5.at'⟩
 ·intro ys H2 S r q nq
  have r2:=Paired.eZ r λ_ _ h=>h.same ((ae.refl H2).upd nq (o:=.lst ys))
  refine⟨q,ys,_,rfl,aA,r2,?_,?_⟩
  ·rw[<-j6];exact wl
  ·rw[<-j6];exact hQ.skip (S.upd nq)
theorem acb(T:TD w K mg AR FR base):ax P w K mg base a8 1 AR.zV FR.yl ["loops"] (Pd K):=by
 refine T.QZ.bz ["loops"] ?_;rintro nd _ A _ s H vs Q E hr ⟨l,is,rfl,hl,wl,hn,hQ⟩;refine⟨_,(ar (bu (qp (Er hr.FI) (pv 0) (bB jV)) (ak (au (bB jV))) bw)
   (ak (au (ag cI (ag cI (bB (q1 af)) (qm ["point"] [] (cT (pv 0)) λ_=>(qy (jE rfl T.hD) T.gC gT (q1 (pv 0))))) (bB (q1 af)))))),?_⟩
 try dsimp only[aN,aO,aP,Cx.aD,Cx.aI]
 refine⟨_,rfl,by decide,λq nq=>?_⟩
 have U0:=(ae.refl H).upd nq (o:=.lst []);refine⟨l,q,_,[],rfl,rfl,ai.of (U0 _ _ hl),ai.of aA,_,rfl,?_⟩;have hQ:=hQ.skip U0;have hl:=U0 _ _ hl
 try dsimp only[qP]
 generalize upd H q (.lst [])=H at U0 hl hQ ⊢;refine dZ (λh=>?_) (λh=>?_)
 ·subst h
  refine⟨by decide,λq nq=>?_⟩
  exact hQ.of (LW.lit [] nq)
 unfold iJ at hQ;rw[if_neg h] at hQ;refine⟨by decide,λq1 n1=>?_⟩
 have L1:LW H q1 [cp] (upd H q1 (.lst [.str cp])):=LW.lit [cp] n1;generalize upd H q1 (.lst [.str cp])=H1 at L1 ⊢;refine⟨_,rfl,l,rfl,⟨_,ai.of (L1.sm _ _ hl)⟩,?_⟩;refine fV (K:=K) (τ:=[]) bj cH (λ_ h=>h) (ai.of (L1.sm _ _ hl)) (kr is) wl (λB v c H2 hc hF S Q' hq=>?_) ?_
 ·obtain rfl:v=V.int c:=hF
  exact⟨_,rfl,c,rfl,km (la (hn c hc)),hq _ _ (ae.refl _) rfl⟩
 ·intro ys H2 S r q2 n2
  have e:=cH.all r;subst e;have b0:=LW.lit (H:=H2) (is.map bj) n2;generalize upd H2 q2 _=H3 at b0 ⊢;refine LW.cat (H0:=H) ((S.trans b0.sm) _ _ L1.at') b0.at' ((L1.sm.trans S).trans b0.sm) (by rw[aH];show 1+_<=_;omega) λp1 H4 L4=>?_
  refine⟨by decide,λq3 n3=>?_⟩
  have L3:LW H4 q3 [e8] (upd H4 q3 (.lst [.str e8])):=LW.lit [e8] n3;generalize upd H4 q3 (.lst [.str e8])=H5 at L3 ⊢;exact LW.cat (H0:=H) (L3.sm _ _ L4.at') L3.at' (L4.sm.trans L3.sm) (by rw[bS,aH];show 1+_+1<=_;omega) λp2 H6 L6=>hQ.of L6
theorem abQ(T:TD w K mg AR FR base):ax P w K mg base a8 5 AR.se FR.xI ["net","paper"] (OI AR.aC K):=by
 refine T.QN.bz ["net","paper"] ?_;rintro nd _ A _ s H vs Q E hr ⟨x,dx,b,d,t,g,f,p,l,ts,gs,N,as,us,bs,rfl,n,hp,a1,hl,R,l1,l2,gd,wl,hQ⟩;refine⟨_,(ak (au (T.wu.ca (AZ T) hr aw (q1 (tL (N':=["door","loops","net"]) (nt:=2) (caps:=[0]) _ _ (gQ.of (by kernel_rfl)) (cT (qx aW (pv 1) ah)) (λ_=>(Ba (by rfl) (oJ (i_ (i:=0) ["door","loops","net"] (by decide +kernel) (by rfl)) (oJ (i_ (i:=1) ["door","loops","net"] (by decide +kernel) (by rfl)) Bb)))) (λ_=>kG) (λ_=>(ag cI (bB (q1 (qx eN (qf (pv 2)) (pv 0)))) (T.QZ.ca (acb T) hr aw (q1 (pv 1)))))))))),?_⟩
 try dsimp only[aN,aO,aP,Cx.aD,Cx.aI]
 refine⟨_,rfl,p,_,_,_,rfl,rfl,hp,a1,l,rfl,⟨_,ai.of hl⟩,?_⟩;refine HJ (K:=K) (τ:=[some (.ref x)]) (gA N) lH (λS h=>h.same S) (ai.of hl) R l1 (λB q c H2 hc e2 S Q' hq=>?_) ?_
 ·have n2:=n.same S
  refine⟨_,rfl,x,_,dx,_,_,rfl,n2.ob,T.c9,T.gZ,rfl,_,rfl,d,_,_,_,rfl,rfl,ai.of n2.hd,kz (gd c hc).1,by show 1<=sizeLine;decide,λq1 n1=>?_⟩
  have L1:LW H2 q1 [N.az.getD c.1.toNat ay] (upd H2 q1 (.lst [.str (N.az.getD c.1.toNat ay)])):=LW.lit [N.az.getD c.1.toNat ay] n1;generalize upd H2 q1 (.lst [.str (N.az.getD c.1.toNat ay)])=H3 at L1 ⊢;have S3:=S.trans L1.sm;have lc:=l2 c hc;refine⟨_,rfl,q,c.2,rfl,S3 _ _ e2,lc,(gd c hc).2,bV.mk λq4 H4 L4=>?_⟩
  refine LW.cat (H0:=H2) (L4.sm _ _ L1.at') L4.at' (L1.sm.trans L4.sm) (by show 1+(iJ c.2).length<=_;have:=Ky c.2;omega) λp5 H5 L5=>hq _ _ L5.sm ⟨p5,rfl,L5.at'⟩
 ·intro ys H2 S r q nq
  have r2:=Paired.eZ r λ_ _ h=>h.same ((ae.refl H2).upd nq (o:=.lst ys))
  refine⟨q,ys,_,rfl,aA,r2,?_,?_⟩
  ·rw[<-j6];exact wl
  ·rw[<-j6];exact hQ.skip (S.upd nq)
theorem Ed(T:TD w K mg AR FR base):ax P w K mg base a8 1 AR.zq FR.xC ["bag"] (OC K):=by
 refine T.Bx.bz ["bag"] ?_;rintro nd _ A _ s H vs Q E hr ⟨l,m,rfl,hl,wl,hn,hQ⟩;refine⟨_,(ak (au (ag cI (ag cI (bB (q1 af)) (qm ["number"] [] (cT (pv 0)) λ_=>(LX (qp i7 (pv 0) fj) af (qy (jE rfl T.hD) T.gC gT (q1 (pv 0)))))) (bB (q1 af))))),?_⟩
 try dsimp only[aN,aO,aP,Cx.aD,Cx.aI]
 refine⟨by decide,λq1 n1=>?_⟩
 have L1:LW H q1 [ba] (upd H q1 (.lst [.str ba])):=LW.lit [ba] n1;generalize upd H q1 (.lst [.str ba])=H1 at L1 ⊢;refine⟨_,rfl,l,rfl,⟨_,ai.of (L1.sm _ _ hl)⟩,?_⟩;refine fV (K:=K) (τ:=[]) fh cH (λ_ h=>h) (ai.of (L1.sm _ _ hl)) (AM m) wl (λB v c H2 hc hF S Q' hq=>?_) ?_
 ·obtain rfl:v=vm c:=hF
  refine⟨_,rfl,rfl,_,rfl,?_⟩
  cases c with
  | none=>exact bI (hq _ _ (ae.refl _) rfl)
  | some n=>exact bt ⟨_,rfl,n,rfl,km (hn n hc),hq _ _ (ae.refl _) rfl⟩
 ·intro ys H2 S r q2 n2
  have e:=cH.all r;subst e;have b0:=LW.lit (H:=H2) (m.map fh) n2;generalize upd H2 q2 _=H3 at b0 ⊢;refine LW.cat (H0:=H) ((S.trans b0.sm) _ _ L1.at') b0.at' ((L1.sm.trans S).trans b0.sm) (by rw[aH];show 1+_<=_;omega) λp1 H4 L4=>?_
  refine⟨by decide,λq3 n3=>?_⟩
  have L3:LW H4 q3 [aX] (upd H4 q3 (.lst [.str aX])):=LW.lit [aX] n3;generalize upd H4 q3 (.lst [.str aX])=H5 at L3 ⊢;exact LW.cat (H0:=H) (L3.sm _ _ L4.at') L3.at' (L4.sm.trans L3.sm) (by rw[bS,aH];show 1+_+1<=_;omega) λp2 H6 L6=>hQ.of L6
theorem La(T:TD w K mg AR FR base):ax P w K mg base a8 2 AR.lx FR.xE ["net","paper"] (OE K):=by
 refine T.Ff.bz ["net","paper"] ?_;rintro nd _ A _ s H vs Q E hr ⟨x,p,l,as,us,ms,rfl,hp,a1,hl,R,l1,l2,gd,wl,hQ⟩;refine⟨_,(ak (au (T.wu.ca (AZ T) hr aw (q1 (qm ["bag"] [] (cT (qx aW (pv 1) ah)) λ_=>(T.Bx.ca (Ed T) hr aw (q1 (pv 0)))))))),?_⟩
 try dsimp only[aN,aO,aP,Cx.aD,Cx.aI]
 refine⟨_,rfl,p,_,_,_,rfl,rfl,hp,a1,l,rfl,⟨_,ai.of hl⟩,?_⟩;refine fV (K:=K) (τ:=[]) aT lH (λS h=>h.same S) (ai.of hl) (jW R) l1 (λB v c H2 hc hF S Q' hq=>?_) ?_
 ·obtain⟨q,rfl,e2⟩:=hF
  exact⟨_,rfl,q,c,rfl,S _ _ e2,l2 c hc,λn hn=>la (gd c hc n hn),bV.mk λq4 H4 L4=>hq _ _ L4.sm ⟨q4,rfl,L4.at'⟩⟩
 ·intro ys H2 S r q nq
  have r2:=Paired.eZ r λ_ _ h=>h.same ((ae.refl H2).upd nq (o:=.lst ys))
  refine⟨q,ys,_,rfl,aA,r2,?_,?_⟩
  ·rw[<-j6];exact wl
  ·rw[<-j6];exact hQ.skip (S.upd nq)
theorem Eo(T:TD w K mg AR FR base):ax P w K mg base a8 2 AR.nY FR.zb ["net","paper"] (Qk K):=by
 refine T.BM.bz ["net","paper"] ?_;rintro nd _ A _ s H vs Q E hr ⟨x,p,l,us,ws,rfl,hp,a1,hl,wl,gd,hQ⟩;refine⟨_,(ak (au (T.Bx.ca (Ed T) hr aw (q1 (qx aW (pv 1) ah))))),?_⟩
 try dsimp only[aN,aO,aP,Cx.aD,Cx.aI]
 exact⟨_,rfl,p,_,_,_,rfl,rfl,hp,a1,l,ws.map some,rfl,by rw[qU];exact hl,by rw[aH];exact wl,λn hn=>by obtain⟨y,hy,e⟩:=bR.mp hn;cases e;exact Iz gd hy,hQ⟩
theorem acy(T:TD w K mg AR FR base):ax P w K mg base a8 2 AR.sL FR.yR ["net","paper"] (PZ K):=by
 refine T.Rj.bz ["net","paper"] ?_;rintro nd _ A _ s H vs Q E hr ⟨x,p,l,us,ws,k,rfl,hp,a1,a2,hl,wl,gd,gk,hQ⟩;refine⟨_,(ak (au (ag cI (bB (q1 (qy (jE rfl T.hD) T.gC gT (q1 (qx aW (pv 1) ah))))) (T.Bx.ca (Ed T) hr aw (q1 (qx aW (pv 1) ah)))))),?_⟩
 try dsimp only[aN,aO,aP,Cx.aD,Cx.aI]
 refine⟨_,rfl,p,_,_,_,rfl,rfl,hp,a2,k,rfl,km (la gk),by show 1<=sizeLine;decide,λq1 n1=>?_⟩
 have L1:LW H q1 [bj k] (upd H q1 (.lst [.str (bj k)])):=LW.lit [bj k] n1;generalize upd H q1 (.lst [.str (bj k)])=H1 at L1 ⊢;refine⟨_,rfl,p,_,_,_,rfl,rfl,L1.sm.Ol hp,a1,l,ws.map some,rfl,by rw[qU];exact L1.sm _ _ hl,by rw[aH];exact wl,λn hn=>by obtain⟨y,hy,e⟩:=bR.mp hn;cases e;exact Iz gd hy,bV.mk λq4 H4 L4=>?_⟩
 exact LW.cat (H0:=H) (L4.sm _ _ L1.at') L4.at' (L1.sm.trans L4.sm) (by rw[nk,aH];show 1+_<=_;omega) λp5 H5 L5=>hQ.of L5
theorem acx(T:TD w K mg AR FR base):ax P w K mg base a8 5 AR.nN FR.yQ ["net","paper"] (PY AR.aC K):=by
 refine T.Ri.bz ["net","paper"] ?_;rintro nd _ A _ s H vs Q E hr ⟨x,dx,b,d,t,g,f,p,l,ts,gs,N,us,bs,rfl,n,hp,a1,hl,l1,gd,hQ⟩;refine⟨_,(ak (au (qm ["bowl","net"] [0] (cT (qx aW (pv 1) ah)) λ_=>(qx eN (qf (pv 1)) (pv 0))))),?_⟩
 try dsimp only[aN,aO,aP,Cx.aD,Cx.aI]
 refine⟨_,rfl,p,_,_,_,rfl,rfl,hp,a1,l,rfl,⟨_,ai.of hl⟩,?_⟩;refine fV (K:=K) (τ:=[some (.ref x)]) (λi=>N.aa.getD i.toNat ay) cH (λ_ h=>h) (ai.of hl) (kr bs) l1 (λB v c H2 hc hF S Q' hq=>?_) ?_
 ·obtain rfl:v=V.int c:=hF
  have n2:=n.same S;exact⟨_,rfl,x,_,dx,_,_,rfl,n2.ob,T.c9,T.gy,rfl,_,rfl,b,_,_,_,rfl,rfl,ai.of n2.hb,kz (gd c hc),hq _ _ (ae.refl _) rfl⟩
 ·intro ys H2 S r q nq
  have e:=cH.all r;subst e;exact hQ.of (LW.back S (LW.lit _ nq))
theorem acI(T:TD w K mg AR FR base):ax P w K mg base a8 5 AR.sN FR.y_ ["net","reason"] (Qi AR.aC K):=by
 refine T.Rk.bz ["net","reason"] ?_;rintro nd _ A _ s H vs Q E hr ⟨x,dx,b,d,t,g,f,p,l,ts,gs,N,us,bs,rfl,n,hp,a1,hl,l1,gd,hQ⟩;refine⟨_,(ak (au (T.Fq.ca (Ll T) hr aw (q2 (qf (pv 0)) (qx aW (pv 1) ah))))),?_⟩
 try dsimp only[aN,aO,aP,Cx.aD,Cx.aI]
 exact⟨_,rfl,x,_,dx,_,_,rfl,n.ob,T.c9,T.gy,rfl,_,rfl,p,_,_,_,rfl,rfl,hp,a1,b,l,N.aa,bs,rfl,n.hb,hl,l1,gd,hQ⟩
theorem ach(T:TD w K mg AR FR base):ax P w K mg base a8 6 AR.sk FR.rY ["net","paper"] (Pm AR.aC K):=by
 refine T.t5.bz ["net","paper"] ?_;rintro nd _ A _ s H vs Q E hr ⟨x,dx,b,d,t,g,f,ts,gs,N,v,r,rfl,n,hv,l1,gd,hQ⟩;refine⟨_,(ar (bu (qp i7 (pv 1) fj) (ak (au (bB (q1 af)))) bw)
   (ak (au (ag cI (bB (q1 (qx aW (pv 1) ah))) (cy (T.BM.da T.jG (Eo T) hr aw T.jQ (qx aW (pv 1) ah) (q2 (pv 0) (pv 1))) (T.Rk.da T.jG (acI T) hr aw T.jQ (qx aW (pv 1) ah) (q2 (pv 0) (pv 1)))))))),?_⟩
 try dsimp only[aN,aO,aP,Cx.aD,Cx.aI]
 refine⟨_,rfl,rfl,_,rfl,?_⟩
 cases r with
 | no =>
  obtain rfl:v=V.aR:=hv;exact bI ⟨by show 1<=sizeLine;decide,λq nq=>hQ.of (LW.lit [iK] nq)⟩
 | yes k bs =>
  obtain⟨a,l,rfl,ht,hl⟩:=hv;have lb:=l1 k bs rfl;refine bt ?_;have a0:bT [V.str (kindS k),V.ref l] 0=some (.str (kindS k)):=c7 (j:=0) rfl;refine⟨_,rfl,a,_,_,_,rfl,rfl,av.of ht,a0,by show 1<=sizeLine;decide,λq1 n1=>?_⟩
  have L1:LW H q1 [kindS k] (upd H q1 (.lst [.str (kindS k)])):=LW.lit [kindS k] n1;generalize upd H q1 (.lst [.str (kindS k)])=H1 at L1 ⊢;have ej:=L1.sm _ _ ht;have oj:=L1.sm _ _ hl;have oB:=n.same L1.sm
  cases k with
  | true =>
   have hw:bV (fG N.aa bs) H1 (λy H2=>oM (.ref q1) y H2 Q):=bV.mk λq2 H2 b0=>LW.cat (H0:=H) (b0.sm _ _ L1.at') b0.at' (L1.sm.trans b0.sm) (by rw[oE];show 1+_<=_;omega) λp H3 L3=>hQ.of L3
   exact .inr (⟨_,rfl,a,_,_,_,rfl,rfl,av.of ej,a0,_,rfl,rfl,rfl,_,rfl,_,rfl,x,dx,b,d,t,g,f,a,l,ts,gs,N,_,bs,rfl,oB,av.of ej,rfl,oj,lb,gd,hw⟩)
  | false =>
   have hw:bV (aT (bs.map some)) H1 (λy H2=>oM (.ref q1) y H2 Q):=bV.mk λq2 H2 b0=>LW.cat (H0:=H) (b0.sm _ _ L1.at') b0.at' (L1.sm.trans b0.sm) (by rw[nk,aH];show 1+_<=_;omega) λp H3 L3=>hQ.of L3
   exact .inl ⟨_,rfl,a,_,_,_,rfl,rfl,av.of ej,a0,_,rfl,rfl,rfl,_,rfl,_,rfl,x,a,l,_,bs,rfl,av.of ej,rfl,oj,lb,gd,hw⟩
theorem abV(T:TD w K mg AR FR base):ax P w K mg base a8 7 AR.sf FR.xR ["net","paper"] (OR AR.aC K):=by
 refine T.QS.bz ["net","paper"] ?_;rintro nd _ A _ s H vs Q E hr ⟨x,dx,b,d,t,g,f,p,l,ts,gs,N,us,ws,rs,rfl,n,hp,a1,hl,R,l1,l2,gd,wl,hQ⟩;refine⟨_,(ak (au (T.wu.ca (AZ T) hr aw (q1 (qm ["reason","net"] [0] (cT (qx aW (pv 1) ah)) λ_=>(T.t5.ca (ach T) hr aw (q2 (pv 1) (pv 0)))))))),?_⟩
 try dsimp only[aN,aO,aP,Cx.aD,Cx.aI]
 refine⟨_,rfl,p,_,_,_,rfl,rfl,hp,a1,l,rfl,⟨_,ai.of hl⟩,?_⟩;refine fV (K:=K) (τ:=[some (.ref x)]) (f9 N) lH (λS h=>h.same S) (ai.of hl) R l1 (λB v c H2 hc hF S Q' hq=>?_) ?_
 ·exact⟨_,rfl,_,rfl,x,dx,b,d,t,g,f,ts,gs,N,v,c,rfl,n.same S,hF.same S,λk bs e=>l2 k bs (e ▸ hc),gd c hc,bV.mk λq4 H4 L4=>hq _ _ L4.sm ⟨q4,rfl,L4.at'⟩⟩
 ·intro ys H2 S r q nq
  have r2:=Paired.eZ r λ_ _ h=>h.same ((ae.refl H2).upd nq (o:=.lst ys))
  refine⟨q,ys,_,rfl,aA,r2,?_,?_⟩
  ·rw[<-j6];exact wl
  ·rw[<-j6];exact hQ.skip (S.upd nq)
theorem aci(T:TD w K mg AR FR base):ax P w K mg base a8 3 AR.sk FR.rY ["net","paper"] (Pn K):=by
 refine T.t5.bz ["net","paper"] ?_;rintro nd _ A _ s H vs Q E hr ⟨x,N,v,P,rfl,hv,fit,gd,wl,hQ⟩;refine⟨_,(ar (bu (qp i7 (pv 1) fj) (ak (au (bB (q1 af)))) bw)
   (ak (au (ag cI (bB (q1 (qx aW (pv 1) ah))) (cy (T.Ff.da T.jG (La T) hr aw T.jQ (qx aW (pv 1) ah) (q2 (pv 0) (pv 1))) (T.BM.da T.jG (Eo T) hr aw T.jQ (qx aW (pv 1) ah) (q2 (pv 0) (pv 1)))))))),?_⟩
 try dsimp only[aN,aO,aP,Cx.aD,Cx.aI]
 obtain⟨a,l,r,rfl,ht⟩:=hv.top;refine⟨_,rfl,rfl,_,rfl,bt ?_⟩;have wl:(fT N P).length+1<=10000:=wl;have a0:bT (V.str (bK P)::V.ref l::r) 0=some (.str (bK P)):=c7 (j:=0) rfl;refine⟨_,rfl,a,_,_,_,rfl,rfl,av.of ht,a0,by show 1<=sizeLine;decide,λq1 n1=>?_⟩
 have L1:LW H q1 [bK P] (upd H q1 (.lst [.str (bK P)])):=LW.lit [bK P] n1;generalize upd H q1 (.lst [.str (bK P)])=H1 at L1 ⊢;have ej:=L1.sm _ _ ht;have lE:=hv.same L1.sm;have hw:bV (fT N P) H1 (λy H2=>oM (.ref q1) y H2 Q):=bV.mk λq2 H2 b0=>LW.cat (H0:=H) (b0.sm _ _ L1.at') b0.at' (L1.sm.trans b0.sm) (by show 1+_<=_;omega) λp H3 L3=>hQ.of L3
 have wl:(fT N P).length<=10000:=qW wl;clear hQ
 cases P with
 | wr k bs=>cases k<;>cases gd
 | mk k ms =>
  obtain⟨a2,l2,dY,e2,k1,k2,k3⟩:=lE
  cases e2
  cases k with
  | fence=>exact .inl ⟨_,rfl,a,_,_,_,rfl,rfl,av.of ej,a0,_,rfl,rfl,rfl,_,rfl,_,rfl,x,a,l2,dY,_,ms,rfl,av.of k1,rfl,k2,k3,fit.1,fit.2,gd,wl,hw⟩
  | room=>exact .inl ⟨_,rfl,a,_,_,_,rfl,rfl,av.of ej,a0,_,rfl,rfl,rfl,_,rfl,_,rfl,x,a,l2,dY,_,ms,rfl,av.of k1,rfl,k2,k3,fit.1,fit.2,λm hm=>(gd m hm).1,wl,hw⟩
  | wants=>cases gd
 | b3 ws =>
  obtain⟨a2,l2,e2,k1,k2⟩:=lE
  cases e2;exact .inr (⟨_,rfl,a,_,_,_,rfl,rfl,av.of ej,a0,_,rfl,rfl,rfl,_,rfl,_,rfl,x,a,l2,_,ws,rfl,av.of k1,rfl,k2,fit,gd,hw⟩)
 | sum ws k=>cases gd
 | st k bs=>cases gd
 | kept rs=>cases gd
 | most bs q=>cases gd
theorem ace(T:TD w K mg AR FR base):ax P w K mg base a8 6 AR.sj FR.yo ["net","paper"] (Pg AR.aC K):=by
 refine T.Q2.bz ["net","paper"] ?_;rintro nd _ A _ s H vs Q E hr ⟨x,dx,b,d,t,g,f,p,ts,gs,N,bs,q,rfl,n,hP,fit,gd,wl,hQ⟩;refine⟨_,(ak (au (ag cI (ag cI (T.Fg.ca (Lb T) hr aw (q2 (pv 0) (pv 1))) (bB (q1 af))) (T.t5.ca (aci T) hr aw (q2 (pv 0) (qx aW (pv 1) ah)))))),?_⟩
 try dsimp only[aN,aO,aP,Cx.aD,Cx.aI]
 obtain⟨a,l,as,u,e0,h1,h2,h3,h4⟩:=hP
 cases e0;obtain⟨f1,f2,f3⟩:=fit;have el:(fT N (.most bs q)).length=(bs.flatMap (c8 N)).length+(1+(d4 N q).length):=by
  show (bs.flatMap (c8 N)++cW::bK q::fT N q).length=_;rw[bS];show _=_+(1+((fT N q).length+1));rw[bF,bF];omega
 refine⟨_,rfl,_,rfl,x,dx,b,d,t,g,f,p,l,ts,gs,N,as,_,bs,rfl,n,av.of h1,rfl,h2,h3,f1,f2,gd.1,by omega,bV.mk λq1 H1 L1=>?_⟩
 refine⟨by show 1<=sizeLine;decide,λq2 n2=>?_⟩
 have b0:LW H1 q2 [cW] (upd H1 q2 (.lst [.str cW])):=LW.lit [cW] n2;generalize upd H1 q2 (.lst [.str cW])=H2 at b0 ⊢;refine LW.cat (H0:=H) (b0.sm _ _ L1.at') b0.at' (L1.sm.trans b0.sm) (by show _+1<=_;omega) λp3 H3 L3=>?_
 refine⟨_,rfl,_,rfl,p,_,_,_,rfl,rfl,av.of (L3.sm _ _ h1),rfl,x,N,u,q,rfl,h4.same L3.sm,f3,gd.2,by omega,bV.mk λp4 H4 L4=>?_⟩
 refine LW.cat (H0:=H) (L4.sm _ _ L3.at') L4.at' (L3.sm.trans L4.sm) (by rw[bS];show _+1+_<=_;omega) λp5 H5 L5=>hQ.of ?_
 rw[kW] at L5;exact L5
theorem acg(T:TD w K mg AR FR base):ax P w K mg base a8 8 AR.sk FR.rY ["net","paper"] (Pl AR.aC K):=by
 refine T.t5.bz ["net","paper"] ?_;rintro nd _ A _ s H vs Q E hr ⟨x,dx,b,d,t,g,f,ts,gs,N,v,P,rfl,n,hv,hP,hQ⟩;refine⟨_,(ar (bu (qp i7 (pv 1) fj) (ak (au (bB (q1 af)))) bw)
   (ak (au (ag cI (bB (q1 (qx aW (pv 1) ah))) (cy (T.Fg.da T.jG (Lb T) hr aw T.jQ (qx aW (pv 1) ah) (q2 (pv 0) (pv 1))) (cy (T.QN.da T.jG (abQ T) hr aw T.jQ (qx aW (pv 1) ah) (q2 (pv 0) (pv 1))) (cy (T.Ff.da T.jG (La T) hr aw T.jQ (qx aW (pv 1) ah) (q2 (pv 0) (pv 1))) (cy (T.BM.da T.jG (Eo T) hr aw T.jQ (qx aW (pv 1) ah) (q2 (pv 0) (pv 1))) (cy (T.Rj.da T.jG (acy T) hr aw T.jQ (qx aW (pv 1) ah) (q2 (pv 0) (pv 1))) (cy (T.Ri.da T.jG (acx T) hr aw T.jQ (qx aW (pv 1) ah) (q2 (pv 0) (pv 1))) (cy (T.QS.da T.jG (abV T) hr aw T.jQ (qx aW (pv 1) ah) (q2 (pv 0) (pv 1))) (T.Q2.da T.jG (ace T) hr aw T.jQ (qx aW (pv 1) ah) (q2 (pv 0) (pv 1)))))))))))))),?_⟩
 try dsimp only[aN,aO,aP,Cx.aD,Cx.aI]
 refine⟨_,rfl,rfl,_,rfl,?_⟩
 cases P with
 | none =>
  obtain rfl:v=V.aR:=hv;exact bI ⟨by show 1<=sizeLine;decide,λq nq=>hQ.of (LW.lit [iK] nq)⟩
 | some P =>
  obtain⟨fit,gd,wl⟩:=hP P rfl;have wl:(fT N P).length+1<=10000:=wl;have hv:cD H v P:=hv;obtain⟨a,l,r,rfl,ht⟩:=hv.top;refine bt ?_;have a0:bT (V.str (bK P)::V.ref l::r) 0=some (.str (bK P)):=c7 (j:=0) rfl;refine⟨_,rfl,a,_,_,_,rfl,rfl,av.of ht,a0,by show 1<=sizeLine;decide,λq1 n1=>?_⟩
  have L1:LW H q1 [bK P] (upd H q1 (.lst [.str (bK P)])):=LW.lit [bK P] n1;generalize upd H q1 (.lst [.str (bK P)])=H1 at L1 ⊢;have ej:=L1.sm _ _ ht;have lE:=hv.same L1.sm;have oB:=n.same L1.sm;have hw:bV (fT N P) H1 (λy H2=>oM (.ref q1) y H2 Q):=bV.mk λq2 H2 b0=>LW.cat (H0:=H) (b0.sm _ _ L1.at') b0.at' (L1.sm.trans b0.sm) (by show 1+_<=_;omega) λp H3 L3=>hQ.of L3
  have wl:(fT N P).length<=10000:=qW wl;clear hQ hP
  cases P with
  | wr k bs =>
   obtain⟨a2,l2,dY,e2,k1,k2,k3⟩:=lE
   cases e2
   cases k with
   | true=>exact .inl ⟨_,rfl,a,_,_,_,rfl,rfl,av.of ej,a0,_,rfl,rfl,rfl,_,rfl,_,rfl,x,dx,b,d,t,g,f,a,l2,ts,gs,N,dY,_,bs,rfl,oB,av.of k1,rfl,k2,k3,fit.1,fit.2,gd,wl,hw⟩
   | false=>exact .inr (.inl ⟨_,rfl,a,_,_,_,rfl,rfl,av.of ej,a0,_,rfl,rfl,rfl,_,rfl,_,rfl,x,dx,b,d,t,g,f,a,l2,ts,gs,N,dY,_,bs,rfl,oB,av.of k1,rfl,k2,k3,fit.1,fit.2,gd,wl,hw⟩)
  | mk k ms =>
   obtain⟨a2,l2,dY,e2,k1,k2,k3⟩:=lE
   cases e2
   cases k with
   | fence=>exact .inr (.inr (.inl ⟨_,rfl,a,_,_,_,rfl,rfl,av.of ej,a0,_,rfl,rfl,rfl,_,rfl,_,rfl,x,a,l2,dY,_,ms,rfl,av.of k1,rfl,k2,k3,fit.1,fit.2,gd,wl,hw⟩))
   | room=>exact .inr (.inr (.inl ⟨_,rfl,a,_,_,_,rfl,rfl,av.of ej,a0,_,rfl,rfl,rfl,_,rfl,_,rfl,x,a,l2,dY,_,ms,rfl,av.of k1,rfl,k2,k3,fit.1,fit.2,λm hm=>(gd m hm).1,wl,hw⟩))
   | wants=>exact .inr (.inr (.inl ⟨_,rfl,a,_,_,_,rfl,rfl,av.of ej,a0,_,rfl,rfl,rfl,_,rfl,_,rfl,x,a,l2,dY,_,ms,rfl,av.of k1,rfl,k2,k3,fit.1,fit.2,λm hm=>(gd m hm).1,wl,hw⟩))
  | b3 ws =>
   obtain⟨a2,l2,e2,k1,k2⟩:=lE
   cases e2;exact .inr (.inr (.inr (.inl ⟨_,rfl,a,_,_,_,rfl,rfl,av.of ej,a0,_,rfl,rfl,rfl,_,rfl,_,rfl,x,a,l2,_,ws,rfl,av.of k1,rfl,k2,fit,gd,hw⟩)))
  | sum ws k =>
   obtain⟨a2,l2,e2,k1,k2⟩:=lE
   cases e2;exact .inr (.inr (.inr (.inr (.inl ⟨_,rfl,a,_,_,_,rfl,rfl,av.of ej,a0,_,rfl,rfl,rfl,_,rfl,_,rfl,x,a,l2,_,ws,k,rfl,av.of k1,rfl,rfl,k2,fit,gd.1,gd.2,hw⟩))))
  | st k bs =>
   obtain⟨a2,l2,e2,k1,k2⟩:=lE
   cases e2
   cases k with
   | true=>exact .inr (.inr (.inr (.inr (.inr (.inl ⟨_,rfl,a,_,_,_,rfl,rfl,av.of ej,a0,_,rfl,rfl,rfl,_,rfl,_,rfl,x,dx,b,d,t,g,f,a,l2,ts,gs,N,_,bs,rfl,oB,av.of k1,rfl,k2,fit,gd,hw⟩)))))
   | false=>exact .inr (.inr (.inr (.inr (.inr (.inl ⟨_,rfl,a,_,_,_,rfl,rfl,av.of ej,a0,_,rfl,rfl,rfl,_,rfl,_,rfl,x,dx,b,d,t,g,f,a,l2,ts,gs,N,_,bs,rfl,oB,av.of k1,rfl,k2,fit,gd,hw⟩)))))
  | kept rs =>
   obtain⟨a2,l2,Rv,e2,k1,k2,k3⟩:=lE
   cases e2;exact .inr (.inr (.inr (.inr (.inr (.inr (.inl ⟨_,rfl,a,_,_,_,rfl,rfl,av.of ej,a0,_,rfl,rfl,rfl,_,rfl,_,rfl,x,dx,b,d,t,g,f,a,l2,ts,gs,N,_,Rv,rs,rfl,oB,av.of k1,rfl,k2,k3,fit.1,fit.2,gd,wl,hw⟩))))))
  | most bs q=>exact .inr (.inr (.inr (.inr (.inr (.inr (.inr (⟨_,rfl,a,_,_,_,rfl,rfl,av.of ej,a0,_,rfl,rfl,rfl,_,rfl,_,rfl,x,dx,b,d,t,g,f,a,ts,gs,N,bs,q,rfl,oB,lE,fit,gd,wl,hw⟩)))))))
theorem Lm(T:TD w K mg AR FR base):ax P w K mg base a8 9 AR.zY FR.yr ["net","paper"] (Pk AR.aC K):=by
 refine T.Fs.bz ["net","paper"] ?_;rintro nd _ A _ s H vs Q E hr ⟨x,dx,b,d,t,g,f,ts,gs,N,v,P,rfl,n,hv,hP,hw,hQ⟩;refine⟨_,(ak (au (fX lW qY qZ oA af (q1 (T.t5.ca (acg T) hr aw (q2 (pv 0) (pv 1))))))),?_⟩
 try dsimp only[aN,aO,aP,Cx.aD,Cx.aI]
 refine⟨rfl,_,rfl,_,rfl,x,dx,b,d,t,g,f,ts,gs,N,v,P,rfl,n,hv,hP,bV.mk λq H' L=>?_⟩
 refine⟨_,q,tK N P,1600,rfl,rfl,ai.of L.at',hw,?_,hQ _ L.sm⟩;have:(tK N P).length<=10000:=by
  cases P with
  | none=>exact(by decide:1<=10000)
  | some P=>exact(hP P rfl).2.2
 show _*1600+_*1<=_;omega
theorem ab1(T:TD w K mg AR FR base):ax P w K mg base a8 1 AR.kh FR.ke ["found","due"] (aeQ K):=by
 exact⟨λ_ _ _ _ h=>False.elim h,λ_ _ _ _ _ _ _ _ _ _ _ _ _ h=>False.elim h⟩
theorem abX(T:TD w K mg AR FR base):ax P w K mg base a8 2 AR.kh FR.ke ["found","due"] (aeM K):=by
 refine T.t4.bz ["found","due"] ?_;rintro nd _ A _ s H vs Q E hr ⟨x,y,rfl,hA,hQ⟩;refine⟨_,(ar (bu (qp i7 (pv 1) fj) (ak (au (qc i7 (pv 0) fj))) bw)
   (ar (bu (fZ (qb gj T.e9 fu (q2 (pv 1) (qt T.gC gT)))) (ak (au (fH (qb gj T.e9 fu (q2 (pv 0) (qt T.gC gT))) (g6 (qc bX (pv 0) (pv 1)))))) bw)
   (ar (bu (fZ (qb gj T.e9 fu (q2 (pv 1) (qt T.oV rO)))) (ak (au (fH (qb gj T.e9 fu (q2 (pv 0) (qt T.oV rO))) (fH (v8 (qb gj T.e9 fu (q2 (pv 0) (qt T.BS Hq)))) (g6 (qc bX (pv 0) (pv 1))))))) bw)
   (ar (bu (PW.pt (kH (qp jx (qb gj T.e9 fu (q2 (pv 1) (qt T.uc xq))) (qb gj T.e9 fu (q2 (pv 0) (qt T.uc xq)))) (lL (qp jx (qb gj T.e9 fu (q2 (pv 1) (qt T.kP ma))) (qb gj T.e9 fu (q2 (pv 0) (qt T.kP ma))))))) (ak (au i9)) bw)
   (ar (bu (qp jx (ql (pv 0) T.dG) (ql (pv 1) T.dG)) (ak (au i9)) bw)
   (ak (au (qb (lh rfl) T.j1 lg (q1 (qm ["k","found","due"] [0,1] (fY (by rfl) T.fA (q1 (ql (pv 1) T.dG))) λ_=>(T.t4.ca (ab1 T) hr aw (q2 (qx AE (pv 1) (pv 0)) (qx AE (pv 2) (pv 0)))))))))))))),?_⟩
 try dsimp only[aN,aO,aP,Cx.aD,Cx.aI]
 have hB:x=y/\((∃i,x=.int i)\/(∃s,x=.str s)\/x=.aR):=hA;clear hA;obtain⟨rfl,hC⟩:=hB;rcases hC with ⟨i,rfl⟩|⟨s',rfl⟩|rfl
 ·refine⟨_,rfl,rfl,_,rfl,dZ (λe=>nomatch e) λ_=>?_⟩
  refine⟨_,rfl,_,_,_,_,rfl,.int i,rfl,_,rfl,bt ?_⟩;refine⟨_,rfl,_,_,_,_,rfl,.int i,rfl,_,rfl,bI ?_⟩;exact⟨_,rfl,_,_,_,_,rfl,.int i,rfl,_,rfl,bI ⟨_,rfl,_,_,_,_,rfl,.int i,rfl,_,rfl,_,rfl,bI ⟨_,rfl,_,rfl,rfl,by rw[decide_eq_true rfl];exact hQ _ (ae.refl _)⟩⟩⟩
 ·refine⟨_,rfl,rfl,_,rfl,dZ (λe=>nomatch e) λ_=>?_⟩
  refine⟨_,rfl,_,_,_,_,rfl,.str s',rfl,_,rfl,bI ?_⟩;exact⟨_,rfl,_,_,_,_,rfl,.str s',rfl,_,rfl,bI ⟨_,rfl,_,rfl,rfl,by rw[decide_eq_true rfl];exact hQ _ (ae.refl _)⟩⟩
 ·exact⟨_,rfl,rfl,_,rfl,dZ (λ_=>⟨_,rfl,rfl,hQ _ (ae.refl _)⟩) (λe=>absurd rfl e)⟩
theorem Ak{i k:Nat}(T:TD w K mg AR FR base)(F:ax P w K mg base a8 k AR.kh FR.ke ["found","due"] (oQ i K)):ax P w K mg base a8 (k+1) AR.kh FR.ke ["found","due"] (oQ (i+1) K):=by
 refine T.t4.bz ["found","due"] ?_;rintro nd _ A _ s H vs Q E hr ⟨x,y,rfl,hA,hQ⟩;refine⟨_,(ar (bu (qp i7 (pv 1) fj) (ak (au (qc i7 (pv 0) fj))) bw)
   (ar (bu (fZ (qb gj T.e9 fu (q2 (pv 1) (qt T.gC gT)))) (ak (au (fH (qb gj T.e9 fu (q2 (pv 0) (qt T.gC gT))) (g6 (qc bX (pv 0) (pv 1)))))) bw)
   (ar (bu (fZ (qb gj T.e9 fu (q2 (pv 1) (qt T.oV rO)))) (ak (au (fH (qb gj T.e9 fu (q2 (pv 0) (qt T.oV rO))) (fH (v8 (qb gj T.e9 fu (q2 (pv 0) (qt T.BS Hq)))) (g6 (qc bX (pv 0) (pv 1))))))) bw)
   (ar (bu (PW.pt (kH (qp jx (qb gj T.e9 fu (q2 (pv 1) (qt T.uc xq))) (qb gj T.e9 fu (q2 (pv 0) (qt T.uc xq)))) (lL (qp jx (qb gj T.e9 fu (q2 (pv 1) (qt T.kP ma))) (qb gj T.e9 fu (q2 (pv 0) (qt T.kP ma))))))) (ak (au i9)) bw)
   (ar (bu (qp jx (ql (pv 0) T.dG) (ql (pv 1) T.dG)) (ak (au i9)) bw)
   (ak (au (qb (lh rfl) T.j1 lg (q1 (qm ["k","found","due"] [0,1] (fY (by rfl) T.fA (q1 (ql (pv 1) T.dG))) λ_=>(T.t4.ca F hr aw (q2 (qx AE (pv 1) (pv 0)) (qx AE (pv 2) (pv 0)))))))))))))),?_⟩
 try dsimp only[aN,aO,aP,Cx.aD,Cx.aI]
 rcases hA with ⟨rfl,hA⟩|⟨a,b,xs,ys,rfl,rfl,R,xl,hh⟩
 ·rcases hA with ⟨i,rfl⟩|⟨s',rfl⟩|rfl
  ·refine⟨_,rfl,rfl,_,rfl,bt ?_⟩
   refine⟨_,rfl,_,_,_,_,rfl,.int i,rfl,_,rfl,bt ?_⟩;refine⟨_,rfl,_,_,_,_,rfl,.int i,rfl,_,rfl,bI ?_⟩;exact⟨_,rfl,_,_,_,_,rfl,.int i,rfl,_,rfl,bI ⟨_,rfl,_,_,_,_,rfl,.int i,rfl,_,rfl,_,rfl,bI ⟨_,rfl,_,rfl,rfl,by rw[decide_eq_true rfl];exact hQ _ (ae.refl _)⟩⟩⟩
  ·refine⟨_,rfl,rfl,_,rfl,bt ?_⟩
   refine⟨_,rfl,_,_,_,_,rfl,.str s',rfl,_,rfl,bI ?_⟩;exact⟨_,rfl,_,_,_,_,rfl,.str s',rfl,_,rfl,bI ⟨_,rfl,_,rfl,rfl,by rw[decide_eq_true rfl];exact hQ _ (ae.refl _)⟩⟩
  ·exact⟨_,rfl,rfl,_,rfl,bI ⟨_,rfl,rfl,hQ _ (ae.refl _)⟩⟩
 have hl:=Paired.length R;have eM:=sizeLine_eq;refine⟨_,rfl,rfl,_,rfl,bt ?_⟩;rcases hh with ⟨ha,hb⟩|⟨ha,hb⟩
 ·refine⟨_,rfl,_,_,_,_,rfl,.lst hb,rfl,_,rfl,bt ?_⟩
  refine⟨_,rfl,_,_,_,_,rfl,.lst hb,rfl,_,rfl,bt ?_⟩;refine⟨_,rfl,_,_,_,_,rfl,.lst hb,rfl,_,rfl,_,_,_,_,rfl,.lst ha,rfl,rfl,_,rfl,bt ?_⟩;refine⟨_,rfl,_,_,_,_,rfl,.lst hb,rfl,_,rfl,_,_,_,_,rfl,.lst ha,rfl,rfl,_,rfl,bt ?_⟩;refine⟨_,rfl,a,_,rfl,.inl (ai.of ha),_,rfl,b,_,rfl,.inl (ai.of hb),rfl,_,rfl,vB (by rw[hl]) ?_⟩
  refine⟨_,rfl,b,_,rfl,.inl (ai.of hb),_,rfl,by omega,by omega,?_⟩
  rw[dz];refine pS (τ:=[some (.ref a),some (.ref b)]) (λ_=>.bl true) (lM (by omega)) (λB j H2 hj S Q' hq=>?_) ?_
  ·rw[rh]
   have hx:xs[j]?=some xs[j]:=cw (by omega)
   obtain⟨y,hy,al⟩:=Paired.getL R hx;refine⟨_,rfl,_,rfl,.inl ⟨a,_,_,_,rfl,rfl,ai.of (S _ _ ha),c7 hx,_,rfl,_,rfl,.inl ⟨b,_,_,_,rfl,rfl,ai.of (S _ _ hb),c7 hy,?_⟩⟩⟩;exact⟨_,_,rfl,al.same S _,λH3 S3=>hq H3 S3⟩
  ·intro H2 S q nq
   refine⟨q,(bJ ys.length).map λ_=>true,rfl,ai.of (by rw[aA,ek];rfl),?_⟩
   rw[all_true];exact hQ _ (S.upd nq)
 ·refine⟨_,rfl,_,_,_,_,rfl,.tup hb,rfl,_,rfl,bt ?_⟩
  refine⟨_,rfl,_,_,_,_,rfl,.tup hb,rfl,_,rfl,bt ?_⟩;refine⟨_,rfl,_,_,_,_,rfl,.tup hb,rfl,_,rfl,_,_,_,_,rfl,.tup ha,rfl,rfl,_,rfl,bt ?_⟩;refine⟨_,rfl,_,_,_,_,rfl,.tup hb,rfl,_,rfl,_,_,_,_,rfl,.tup ha,rfl,rfl,_,rfl,bt ?_⟩;refine⟨_,rfl,a,_,rfl,.inr (av.of ha),_,rfl,b,_,rfl,.inr (av.of hb),rfl,_,rfl,vB (by rw[hl]) ?_⟩
  refine⟨_,rfl,b,_,rfl,.inr (av.of hb),_,rfl,by omega,by omega,?_⟩
  rw[dz];refine pS (τ:=[some (.ref a),some (.ref b)]) (λ_=>.bl true) (lM (by omega)) (λB j H2 hj S Q' hq=>?_) ?_
  ·rw[rh]
   have hx:xs[j]?=some xs[j]:=cw (by omega)
   obtain⟨y,hy,al⟩:=Paired.getL R hx;refine⟨_,rfl,_,rfl,.inr (.inl ⟨a,_,_,_,rfl,rfl,av.of (S _ _ ha),c7 hx,_,rfl,_,rfl,.inr (.inl ⟨b,_,_,_,rfl,rfl,av.of (S _ _ hb),c7 hy,?_⟩)⟩)⟩;exact⟨_,_,rfl,al.same S _,λH3 S3=>hq H3 S3⟩
  ·intro H2 S q nq
   refine⟨q,(bJ ys.length).map λ_=>true,rfl,ai.of (by rw[aA,ek];rfl),?_⟩
   rw[all_true];exact hQ _ (S.upd nq)
theorem abY(T:TD w K mg AR FR base):ax P w K mg base a8 3 AR.kh FR.ke ["found","due"] (aeN K):=Ak T (abX T)
theorem abZ(T:TD w K mg AR FR base):ax P w K mg base a8 4 AR.kh FR.ke ["found","due"] (aeO K):=Ak T (abY T)
theorem ab0(T:TD w K mg AR FR base):ax P w K mg base a8 5 AR.kh FR.ke ["found","due"] (aeP K):=Ak T (abZ T)
theorem Ld(T:TD w K mg AR FR base):ax P w K mg base a8 6 AR.kh FR.ke ["found","due"] (aeL K):=Ak T (ab0 T)
theorem aen:l8 ["self","net","row","number"] ["self","net","row","number"] (eU tQ):=⟨rfl,rfl,rfl,by decide +kernel,rfl,by decide +kernel,by decide +kernel⟩
theorem abM(T:TD w K mg AR FR base):ax P w K mg base a8 1 AR.nG FR.C1 ["self","net","row","number"] (Ox AR.bc K):=by
 refine T.wU.ok aen (λvs H Q E h=>?_) (λbY A outer s H vs Q E hr h=>?_)
 ·obtain⟨c,dx,x,r,m,rfl,hc,rl,hQ⟩:=h
  rfl
 ·obtain⟨c,dx,x,r,m,rfl,hc,rl,hQ⟩:=h
  refine⟨_,(ar (lK (pv 0) (pv 1) rfl)
   (ar (lK (pv 0) (fX lW PySem.F.slot_str_split PySem.F.type_str_split (aa5 32) (pv 2) (q1 af)) rfl)
   (ar (lK (pv 0) ah rfl)
   (ak (lK (pv 0) (pv 3) rfl))))),?_⟩
  try dsimp only[aN,aO,aP,Cx.aD,Cx.aI]
  refine⟨_,rfl,_,rfl,c,AR.bc,dx,_,rfl,hc,T.iC,T.vK,by show 0<1000;decide,?_⟩
  have S1:dg c H _:=(dg.refl c H).wB (.ins AR.bc dx (uP x));have g1:=aA (H:=H) (a:=c) (o:=.ins AR.bc dx (uP x));rw[show d_ (zalias233z "net") (V.ref x) []=(uP x) from rfl]
  generalize upd H c (.ins AR.bc dx (uP x))=H1 at S1 g1 ⊢;refine⟨_,rfl,rfl,r,rfl,rfl,b_ rl (by decide),λlw vP=>?_⟩
  have S2:=S1.upd vP (o:=.lst (bq (cO 32 r)));have nc:lw≠c:=λe=>by rw[e,g1] at vP;cases vP
  have g2:upd H1 lw (.lst (bq (cO 32 r))) c=_:=(bg (Ne.symm nc)).trans g1;have w2:=aA (H:=H1) (a:=lw) (o:=.lst (bq (cO 32 r)));have abe:=S1.free vP ⟨_,g1⟩;generalize upd H1 lw (.lst (bq (cO 32 r)))=H2 at S2 g2 w2 ⊢;refine⟨_,rfl,c,AR.bc,dx,_,rfl,g2,T.iC,T.tu,by show 1<1000;decide,?_⟩
  rw[show d_ (zalias233z "words") (V.ref lw) (uP x)=(rV x lw) from rfl]
  have S3:=S2.wB (.ins AR.bc dx (rV x lw));have g3:=aA (H:=H2) (a:=c) (o:=.ins AR.bc dx (rV x lw));have w3:upd H2 c (.ins AR.bc dx (rV x lw)) lw=_:=(bg nc).trans w2;generalize upd H2 c (.ins AR.bc dx (rV x lw))=H3 at S3 g3 w3 ⊢;refine⟨_,rfl,c,AR.bc,dx,_,rfl,g3,T.iC,T.oC,by show 2<1000;decide,?_⟩
  rw[show d_ (zalias233z "place") (V.int 0) (rV x lw)=(uQ x lw) from rfl]
  have S4:=S3.wB (.ins AR.bc dx (uQ x lw));have g4:=aA (H:=H3) (a:=c) (o:=.ins AR.bc dx (uQ x lw));have w4:upd H3 c (.ins AR.bc dx (uQ x lw)) lw=_:=(bg nc).trans w3;generalize upd H3 c (.ins AR.bc dx (uQ x lw))=H4 at S4 g4 w4 ⊢;refine⟨_,rfl,_,rfl,c,AR.bc,dx,_,rfl,g4,T.iC,T.AQ,by show 3<1000;decide,?_⟩
  exact hQ lw _ abe (S4.wB _) aA ((bg nc).trans w4)
theorem A0(T:TD w K mg AR FR base):ax P w K mg base a8 5 AR.zp FR.xB ["cursor"] (OB AR.aC AR.bc K):=by
 refine T.wx.bz ["cursor"] ?_;rintro nd _ A _ s H vs Q E hr ⟨c,ca,N,m,W,p,rfl,cu,hQ⟩;refine⟨_,(ak (au (qc Es (qf (pv 0)) (ql (qf (pv 0)) T.dG)))),?_⟩
 try dsimp only[aN,aO,aP,Cx.aD,Cx.aI]
 obtain⟨cu,n⟩:=cu;refine⟨_,rfl,c,_,_,_,_,rfl,cu.ob,T.iC,T.oC,rfl,_,rfl,c,_,_,_,_,rfl,cu.ob,T.iC,T.tu,rfl,_,_,rfl,.inl (ai.of cu.hw),_,_,rfl,rfl,?_⟩;rw[aH];have e:decide ((p:Int)≥(W.length:Int))=decide (¬ p<W.length):=decide_eq_decide.mpr (by omega)
 show Q (V.bl (decide ((p:Int)≥(W.length:Int)))) H;rw[e];exact hQ
theorem aem:l8 ["self","words","row"] ["self","words","row"] (eU tP):=⟨rfl,rfl,rfl,by decide +kernel,rfl,by decide +kernel,by decide +kernel⟩
unseal PySem.eval in
theorem K8(T:TD w K mg AR FR base):ax P w K mg base a8 1 AR.nF FR.C0 ["self","words","row"] (aeK AR.a_ K):=by
 refine T.wR.ok aem (λvs H Q E h=>?_) (λbY A outer s H vs Q E hr h=>?_)
 ·obtain⟨e,t,w',y,rfl,he,hQ⟩:=h
  rfl
 ·obtain⟨e,t,w',y,rfl,he,hQ⟩:=h
  refine⟨_,(ar (adJ T.ag5 (by rfl) T.KA (q2 (pv 0) (pv 1)))
   (ak (adK (pv 0) (pv 2)))),?_⟩
  try dsimp only[aN,aO,aP,Cx.aD,Cx.aI]
  refine⟨_,rfl,_,rfl,e,AR.a_,t,_,rfl,he,T.ec_BadPaper,λt'=>?_⟩
  refine⟨_,rfl,_,rfl,e,AR.a_,AR.cf,t',rfl,aA,T.ec_BadPaper,T.FZ,T.FW,λdx nd=>hQ dx t' ?_⟩
  have ne:dx≠e:=λz=>by rw[z,aA] at nd;cases nd
  rw[bg ne] at nd;exact nd
theorem mO(T:TD w K mg AR FR base):ax P w K mg base (bG P w) 5 AR.z9 FR.yL ["cursor"] (E2 AR.aC AR.bc AR.a_ K):=by
 refine T.lQ.cV ["cursor","number"] ?_;rintro nd _ A _ s H vs Q E hr ⟨c,ca,N,m,W,p,rfl,cu,aK,hE⟩;refine⟨_,(ar (qs 1 nd (qf (pv 0)))
   (ak (adG adY T.Ry (K8 T) (hr.mono (by decide)) (by rfl) T.DN T.xh (q2 (adi (Mh (adt (pv 1) (Mh ads)))) (pv 1))))),?_⟩
 try dsimp only[aN,aO,aP,Cx.aD,Cx.aI]
 obtain⟨cu,n⟩:=cu;refine⟨_,rfl,c,_,_,_,_,rfl,cu.ob,T.iC,T.AQ,rfl,?_⟩
 try dsimp only[aG]
 have eM:=sizeLine_eq;have nl:=PySem.W.KT.len_num (n:=(m:Int)) (by omega) (by omega)
 have l1:(zalias233z "row ").length=4:=by decide
 have l2:(zalias233z " is no paper").length=12:=by decide
 have l0:ay.length=0:=rfl;refine⟨by rw[fO];omega,_,rfl,_,.inr ⟨_,rfl,aax (by omega) (by omega),rfl⟩,?_,?_,?_,_,rfl,by show 2<=sizeLine;decide,?_⟩
 ·rw[fO,fO]
  have:(toString (m:Int):Str).length<=10:=nl;omega
 ·rw[fO,fO,fO]
  have:(toString (m:Int):Str).length<=10:=nl;omega
 ·rw[fO,fO,fO]
  have:(toString (m:Int):Str).length<=10:=nl;omega
 exact ahj (y:=.int (m:Int)) λe' H' SS ne' he=>hE e' H' SS ne' he
theorem mP(T:TD w K mg AR FR base):ax P w K mg base (bG P w) 6 AR.Af FR.y8 ["cursor"] (Qh AR.aC AR.bc AR.a_ K):=by
 refine T.lR.cV ["cursor","word"] ?_;rintro nd _ A _ s H vs Q E hr ⟨c,ca,N,m,W,p,rfl,cu,aK,hT⟩;refine⟨_,(ar (bu (fZ (T.wx.ca (A0 T) hr aw (q1 (pv 0)))) (ak (eX (T.lQ.ca (mO T) hr bh (q1 (pv 0))))) bw)
   (ar (qs 1 nd (qx eN (qf (pv 0)) (qf (pv 0))))
   (ar (lK (pv 0) (ag dS (qf (pv 0)) ah) rfl)
   (ak (au (pv 1)))))),?_⟩
 try dsimp only[aN,aO,aP,Cx.aD,Cx.aI]
 have me:=cu;obtain⟨cu,n⟩:=cu;obtain⟨hQ,hE⟩:=hT;refine⟨_,rfl,c,ca,N,m,W,p,rfl,me,_,rfl,?_⟩;by_cases hp:p<W.length
 ·rw[decide_eq_false (λz=>z hp)]
  refine bt ?_;have ha:bT (bq W) (p:Int)=some (.str W[p]):=c7 (by rw[eu,cw hp];rfl)
  refine⟨_,rfl,c,_,_,_,_,rfl,cu.ob,T.iC,T.tu,rfl,_,rfl,c,_,_,_,_,rfl,cu.ob,T.iC,T.oC,rfl,_,_,_,_,rfl,rfl,ai.of cu.hw,ha,?_⟩
  try dsimp only[aG]
  refine⟨_,rfl,c,_,_,_,_,rfl,cu.ob,T.iC,T.oC,rfl,_,_,rfl,rfl,_,rfl,c,AR.bc,_,_,rfl,cu.ob,T.iC,T.oC,by show 4<1000;decide,?_⟩
  have S1:=(dg.refl c H).wB (.ins AR.bc ca.dx (uR ca.x ca.lw (p+1) (m:Int)));refine⟨_,rfl,hQ W[p] (p+1) (by rw[drop_cons hp];rfl) (lU _) hp _ _ S1 ?_ rfl⟩
  exact me.move S1 aA hp
 ·rw[decide_eq_true hp]
  refine bI ?_;exact⟨_,rfl,c,ca,N,m,W,p,rfl,me,aK,λe H' S ne he=>hE (by rw[drop_nil hp];rfl) e H' S.cz ne he⟩
theorem ack(T:TD w K mg AR FR base):ax P w K mg base a8 1 AR.z4 FR.yv ["word","figures"] (Pq K):=by
 refine T.Q6.bz ["word","figures"] ?_;rintro nd _ A _ s H vs Q E hr ⟨w,n,rfl,hw,hl,n2,hQ⟩;refine⟨_,(ar (bu (PW.pt (kH (ik (EF lI lI ah (qb Hz T.dG xp (q1 (pv 0))) (pv 1))) (lL (ik (fZ (qb (lh rfl) T.j1 lg (q1 (qm ["sign"] [] (Md (pv 0)) λ_=>(v3 A7 A7 af (pv 0) af))))))))) (ak (au fj)) bw)
   (ar (bu (PW.pt (EG (fZ (fX lW ah3 ah7 (KO 48) (pv 0) (q1 af))) (EH (qp jx (pv 0) af)))) (ak (au fj)) bw)
   (ak (au (qy (UR T.hD) T.oV rO (q1 (pv 0))))))),?_⟩
 try dsimp only[aN,aO,aP,Cx.aD,Cx.aI]
 have hx:=abL hw;have no:jF n w=none->∀H',ae H H'->Q .aR H':=λe H' S=>by have:=hQ H' S;rw[e] at this;exact this
 have yes:∀c,jF n w=some c->∀H',ae H H'->Q (.int ((c:Nat):Int)) H':=λc e H' S=>by have:=hQ H' S;rw[e] at this;exact this
 refine⟨_,rfl,w,rfl,b_ hl (by decide),_,_,rfl,rfl,_,rfl,?_⟩
 refine dZ (λh1=>?_) (λh1=>?_)
 rotate_left
 ·refine⟨_,rfl,?_⟩
  refine bI (bI ?_);exact no (by unfold jF;rw[if_neg (λz=>h1 (by have:=z.1.1;omega))]) _ (ae.refl _)
 refine⟨_,rfl,_,_,rfl,rfl,_,rfl,?_⟩;refine vA (λh2=>?_) (λh2=>?_)
 ·refine bI ?_
  exact no (by unfold jF;rw[if_neg (λz=>h2 (by have:=z.1.2;omega))]) _ (ae.refl _)
 refine⟨_,rfl,w,rfl,hx,?_⟩;refine HL (λi zs σ H2=>(∃v,σ=[v])/\ae H H2/\zs=((w.cps.toList.take i).map λc=>decide (48<=c)&&decide (c<=57)).map V.bl) ⟨⟨none,rfl⟩,ae.refl _,rfl⟩ ?_ ?_ ?_
 ·rintro i zs σ H2 hi ⟨_,S,rfl⟩
  rw[aH,aH,lZ];have hs:=sizeLine_eq;have Yr:w.cps.size=w.length:=rfl;omega
 ·rintro B i c zs σ H2 hc ⟨⟨v,rfl⟩,S,rfl⟩
  try dsimp only[aG,dW]
  rw[if_pos rfl];have lC:w.cps.toList[i]?=some c:=by simpa using hc
  have fin:∀k:Bool,(decide (48<=c)&&decide (c<=57))=k->(((w.cps.toList.take i).map λc=>decide (48<=c)&&decide (c<=57)).map V.bl++[V.bl k])=((w.cps.toList.take (i+1)).map λc=>decide (48<=c)&&decide (c<=57)).map V.bl:=λk e=>by
   rw[oX,lC,uf,dX,dX,<-e];rfl
  refine⟨_,rfl,_,_,rfl,rfl,_,rfl,?_⟩;have ea:(!decide ((⟨#[c]⟩:Str).cps.toList<(zalias233z "0").cps.toList))=decide (48<=c):=AJ;have ez:(!decide ((zalias233z "9").cps.toList<(⟨#[c]⟩:Str).cps.toList))=decide (c<=57):=AJ;rw[ea];refine dZ (λg1=>?_) (λg1=>?_)
  ·refine⟨_,_,rfl,rfl,⟨_,rfl⟩,S,?_⟩
   rw[ez];exact fin _ (by simp[g1])
  ·exact⟨⟨_,rfl⟩,S,fin _ (by simp[g1])⟩
 rintro zs σ H2 ⟨_,S,rfl⟩ p hp;rw[<-gE,oY];have S2:=S.upd hp (o:=.lst ((w.cps.toList.map λc=>decide (48<=c)&&decide (c<=57)).map V.bl))
 refine⟨p,_,rfl,ai.of aA,_,rfl,?_⟩;have VQ:(List.map (λc=>decide (48<=c)&&decide (c<=57)) w.cps.toList).all id=pT w:=by
  unfold pT;rw[Gr];rfl
 rw[VQ]
 cases hd:pT w with
 | false =>
  refine bI ?_;exact no (by unfold jF;rw[if_neg (λz=>by rw[hd] at z;exact absurd z.2.1 (by decide))]) _ S2
 | true =>
  refine bt ?_;have S3:=S2;generalize upd H2 p _=H3 at S2 S3 ⊢;refine⟨_,rfl,rfl,w,rfl,rfl,_,rfl,?_⟩;have fin:¬ (i3 48 w=true/\w≠BQ)->jF n w=some (numOf w):=λh=>by
   unfold jF;rw[if_pos ⟨⟨by omega,by omega⟩,hd,h⟩]
  have ret:¬ (i3 48 w=true/\w≠BQ)->∃z:Str,[V.str w]=[V.str z]/\Cv z/\z.cps.toList≠[]/\z.length<=4000/\Q (.int ((numOf z:Nat):Int)) H3:=λh=>⟨w,rfl,VA hd,λz=>by have e:w.length=0:=(congrArg ri z:_) ;omega,by omega,yes _ (fin h) _ S3⟩
  cases hh:i3 48 w with
  | false =>
   refine bt ?_;exact⟨_,rfl,ret λz=>by rw[hh] at z;exact absurd z.1 (by decide)⟩
  | true =>
   refine bI ?_;refine⟨_,rfl,rfl,_,rfl,?_⟩;refine vA (λe=>?_) (λe=>?_)
   ·exact no (by unfold jF;rw[if_neg (λz=>z.2.2 ⟨hh,λq=>e (by rw[q])⟩)]) _ S3
   ·exact⟨_,rfl,ret λz=>z.2 (V.str.inj e)⟩
theorem A2(T:TD w K mg AR FR base):ax P w K mg base (bG P w) 6 AR.zt FR.xJ ["cursor","word"] (OJ AR.aC AR.bc AR.a_ K):=by
 obtain⟨_,Vc⟩:=T.UM;refine T.wy.cV ["cursor","word","count"] ?_;rintro nd _ A _ s H vs Q E hr ⟨c,ca,N,m,W,p,w,rfl,cu,aK,hw,wl,hQ,hE⟩;refine⟨_,(ar (qs 2 nd (T.Q6.ca (ack T) hr aw (q2 (pv 1) (mR (v:=.int 1000) (by rfl) Vc ⟨_,rfl⟩))))
   (ar (bu (qp i7 (pv 2) fj) (ak (eX (T.lQ.ca (mO T) hr bh (q1 (pv 0))))) bw)
   (ak (au (pv 2))))),?_⟩
 try dsimp only[aN,aO,aP,Cx.aD,Cx.aI]
 refine⟨_,rfl,w,1000,rfl,hw,wl,by decide,λH1 S1=>?_⟩
 try dsimp only[aG]
 cases q:jF 1000 w with
 | none =>
  refine⟨_,rfl,rfl,_,rfl,?_⟩;refine dZ (λ_=>?_) (λz=>absurd rfl z)
  exact⟨_,rfl,c,ca,N,m,W,p,rfl,cu.same S1,aK,λe H' S ne he=>hE q e H' (S1.trans S) (S1.free ne) he⟩
 | some n =>
  refine⟨_,rfl,rfl,_,rfl,?_⟩;refine dZ (λz=>nomatch z) (λ_=>?_)
  exact⟨_,rfl,hQ n q H1 S1⟩
theorem Ek(T:TD w K mg AR FR base):ax P w K mg base (bG P w) 7 AR.nQ FR.yW ["cursor"] (P5 AR.aC AR.bc AR.a_ K):=by
 refine T.t_.cV ["cursor"] ?_;rintro nd _ A _ s H vs Q E hr ⟨c,ca,N,m,W,p,rfl,cu,aK,wk,hT⟩;refine⟨_,(ak (au (T.wy.ca (A2 T) hr bh (q2 (pv 0) (T.lR.ca (mP T) hr bh (q1 (pv 0))))))),?_⟩
 try dsimp only[aN,aO,aP,Cx.aD,Cx.aI]
 obtain⟨hQ,hE⟩:=hT;refine⟨_,rfl,_,rfl,c,ca,N,m,W,p,rfl,cu,aK,λw p' e hp fF v H1 S1 aV hv=>?_,λe ee H' S ne he=>hE (by cases q:W.drop p with|nil=>rfl|cons a r=>rw[q] at e;cases e) ee H' S ne he⟩
 obtain rfl:v=V.str w:=hv;obtain⟨ea,hw⟩:=oS wk e;refine⟨c,ca,N,m,W,p',w,rfl,aV,aK,hw.1,hw.2,λn en H' S=>?_,λen ee H' S ne he=>?_⟩
 ·exact hQ (some (n:Int)) p' (by rw[ea];show ((bZ w).map _).map _=_;rw[en];rfl) hp fF _ H' (S1.trans S.cz) (aV.same S) rfl
 ·exact hE (by rw[ea];show ((bZ w).map _).map _=_;rw[en];rfl) ee H' (S1.trans S.cz) (S1.free ne aV.has) he
theorem El(T:TD w K mg AR FR base):ax P w K mg base (bG P w) 7 AR.Ac FR.y4 ["cursor","sign"] (Qe AR.aC AR.bc AR.a_ K):=by
 refine T.BJ.cV ["cursor","sign"] ?_;rintro nd _ A _ s H vs Q E hr ⟨c,ca,N,m,W,p,sg,rfl,cu,aK,hT⟩;refine⟨_,(ak (bu (qp jx (T.lR.ca (mP T) hr bh (q1 (pv 0))) (pv 1)) (ak (eX (T.lQ.ca (mO T) hr bh (q1 (pv 0))))) bw)),?_⟩
 try dsimp only[aN,aO,aP,Cx.aD,Cx.aI]
 obtain⟨hQ,hE⟩:=hT;refine⟨_,rfl,c,ca,N,m,W,p,rfl,cu,aK,λw p' e hp fF v H1 S1 aV hv=>?_,λe ee H' S ne he=>hE (by cases q:W.drop p with|nil=>rfl|cons a r=>rw[q] at e;cases e) ee H' S ne he⟩
 obtain rfl:v=V.str w:=hv;refine⟨_,rfl,rfl,_,rfl,?_⟩
 cases q:W.drop p with
 | nil=>rw[q] at e;cases e
 | cons a r =>
  rw[q] at e hQ hE;have e1:(a,r)=(w,W.drop p'):=a6 e;injection e1 with e1 e2
  refine vA (λh=>?_) (λh=>?_)
  ·have h:¬ a=sg:=λz=>h (by rw[<-e1,z])
   refine⟨_,rfl,c,ca,N,m,W,p',rfl,aV,aK,λee H' S ne he=>hE (by unfold kO;dsimp only;rw[if_neg h]) ee H' (S1.trans S.cz) (S1.free ne aV.has) he⟩
  ·have h:a=sg:=by rw[e1];injection h
   exact hQ () p' (by unfold kO;dsimp only;rw[if_pos h,e2]) hp fF _ H1 S1 aV rfl
theorem Ee(T:TD w K mg AR FR base):ax P w K mg base a8 6 AR.zv FR.xM ["cursor","word"] (OM AR.aC AR.bc K):=by
 refine T.By.bz ["cursor","word"] ?_;rintro nd _ A _ s H vs Q E hr ⟨c,ca,N,m,W,p,w,rfl,cu,hQ⟩;refine⟨_,(ak (au (fH (v8 (T.wx.ca (A0 T) hr aw (q1 (pv 0)))) (g6 (qc bX (qx eN (qf (pv 0)) (qf (pv 0))) (pv 1)))))),?_⟩
 try dsimp only[aN,aO,aP,Cx.aD,Cx.aI]
 have me:=cu;obtain⟨cu,n⟩:=cu;refine⟨_,rfl,c,ca,N,m,W,p,rfl,me,_,rfl,_,rfl,?_⟩;by_cases hp:p<W.length
 ·rw[decide_eq_false (λz=>z hp)]
  refine bI ⟨_,rfl,c,_,_,_,_,rfl,cu.ob,T.iC,T.tu,rfl,_,rfl,c,_,_,_,_,rfl,cu.ob,T.iC,T.oC,rfl,_,_,_,_,rfl,rfl,ai.of cu.hw,c7 (v:=.str W[p]) (by rw[eu,cw hp];rfl),_,rfl,rfl,?_⟩
  rw[drop_cons hp,aiL] at hQ;rw[show decide (V.str W[p]=V.str w)=decide (some W[p]=some w) from decide_eq_decide.mpr ⟨λh=>by injection h with h;rw[h],λh=>by injection h with h;rw[h]⟩]
  exact hQ
 ·rw[decide_eq_true hp]
  rw[drop_nil hp,List.head?_nil,decide_eq_false (λz=>nomatch z)] at hQ
  exact bt hQ
theorem Ln(T:TD w K mg AR FR base):ax P w K mg base a8 1 AR.zZ FR.yt ["names","name"] (Po K):=by
 refine T.Ft.bz ["names","name"] ?_;rintro nd _ A _ s H vs Q E hr ⟨l,ys,y,rfl,hl,hQ⟩;refine⟨_,(ar (bu (qp LF (pv 1) (pv 0)) (ak (au (fX ph PySem.F.slot_list_index PySem.F.type_list_index aa4 (pv 0) (q1 (pv 1))))) bw)
   (ak (au (A_ BN ah)))),?_⟩
 try dsimp only[aN,aO,aP,Cx.aD,Cx.aI]
 refine⟨_,rfl,_,rfl,l,_,rfl,.inl (ai.of hl),rfl,Io ys,_,rfl,?_⟩;show if iI (.str y) (bq ys)=true then _ else _
 rw[Kc];refine dZ (λqh=>?_) (λqh=>?_)
 ·exact⟨_,rfl,.inl ⟨rfl,_,ai.of hl⟩,_,rfl,l,ys,y,rfl,rfl,hl,qh,hQ⟩
 ·refine⟨_,rfl,?_⟩
  have e:bL ys y = -1:=by unfold bL;rw[if_neg qh]
  rw[e] at hQ;exact hQ
theorem abR(T:TD w K mg AR FR base):ax P w K mg base a8 5 AR.zu FR.xK ["net","name"] (OL AR.aC K):=by
 refine T.QO.bz ["net","name"] ?_;rintro nd _ A _ s H vs Q E hr ⟨x,dx,b,d,t,g,f,ts,gs,N,y,rfl,n,hQ⟩;refine⟨_,(ak (au (T.Ft.ca (Ln T) hr aw (q2 (qf (pv 0)) (pv 1))))),?_⟩
 try dsimp only[aN,aO,aP,Cx.aD,Cx.aI]
 exact⟨_,rfl,x,_,dx,_,_,rfl,n.ob,T.c9,T.gZ,rfl,_,rfl,d,N.az,y,rfl,n.hd,hQ⟩
theorem Ly(T:TD w K mg AR FR base):ax P w K mg base (bG P w) 7 AR.nR FR.yX ["cursor"] (P6 AR.aC AR.bc AR.a_ K):=by
 refine T.BI.cV ["cursor"] ?_;rintro nd _ A _ s H vs Q E hr ⟨c,ca,N,m,W,p,rfl,cu,aK,wk,hT⟩;refine⟨_,(ak (au (T.QO.ca (abR T) hr aw (q2 (qf (pv 0)) (T.lR.ca (mP T) hr bh (q1 (pv 0))))))),?_⟩
 try dsimp only[aN,aO,aP,Cx.aD,Cx.aI]
 obtain⟨hQ,hE⟩:=hT;have me:=cu;obtain⟨cu,n⟩:=cu;refine⟨_,rfl,c,_,_,_,_,rfl,cu.ob,T.iC,T.vK,rfl,_,rfl,c,ca,N,m,W,p,rfl,me,aK,λw p' e hp fF v H1 S1 aV hv=>?_,λe ee H' S ne he=>hE (by cases q:W.drop p with|nil=>rfl|cons a r=>rw[q] at e;cases e) ee H' S ne he⟩
 obtain rfl:v=V.str w:=hv;obtain⟨ea,hw⟩:=oS wk e;exact⟨_,_,_,_,_,_,_,_,_,N,w,rfl,n.cz cu.ob S1,hQ (some (bL N.az w)) p' (by rw[ea];rfl) hp fF _ H1 S1 aV rfl⟩
theorem abO(T:TD w K mg AR FR base):ax P w K mg base a8 5 AR.zr FR.xG ["net","name"] (OG AR.aC K):=by
 refine T.QL.bz ["net","name"] ?_;rintro nd _ A _ s H vs Q E hr ⟨x,dx,b,d,t,g,f,ts,gs,N,y,rfl,n,hQ⟩;refine⟨_,(ak (au (T.Ft.ca (Ln T) hr aw (q2 (qf (pv 0)) (pv 1))))),?_⟩
 try dsimp only[aN,aO,aP,Cx.aD,Cx.aI]
 exact⟨_,rfl,x,_,dx,_,_,rfl,n.ob,T.c9,T.gy,rfl,_,rfl,b,N.aa,y,rfl,n.hb,hQ⟩
theorem Lx(T:TD w K mg AR FR base):ax P w K mg base (bG P w) 7 AR.jH FR.yV ["cursor"] (P4 AR.aC AR.bc AR.a_ K):=by
 refine T.t6.cV ["cursor"] ?_;rintro nd _ A _ s H vs Q E hr ⟨c,ca,N,m,W,p,rfl,cu,aK,wk,hT⟩;refine⟨_,(ak (au (T.QL.ca (abO T) hr aw (q2 (qf (pv 0)) (T.lR.ca (mP T) hr bh (q1 (pv 0))))))),?_⟩
 try dsimp only[aN,aO,aP,Cx.aD,Cx.aI]
 obtain⟨hQ,hE⟩:=hT;have me:=cu;obtain⟨cu,n⟩:=cu;refine⟨_,rfl,c,_,_,_,_,rfl,cu.ob,T.iC,T.vK,rfl,_,rfl,c,ca,N,m,W,p,rfl,me,aK,λw p' e hp fF v H1 S1 aV hv=>?_,λe ee H' S ne he=>hE (by cases q:W.drop p with|nil=>rfl|cons a r=>rw[q] at e;cases e) ee H' S ne he⟩
 obtain rfl:v=V.str w:=hv;obtain⟨ea,hw⟩:=oS wk e;exact⟨_,_,_,_,_,_,_,_,_,N,w,rfl,n.cz cu.ob S1,hQ (some (bL N.aa w)) p' (by rw[ea];rfl) hp fF _ H1 S1 aV rfl⟩
theorem acF(T:TD w K mg AR FR base):ax P w K mg base (bG P w) 7 AR.nV FR.y1 ["cursor"] (Qb AR.aC AR.bc AR.a_ K):=by
 refine T.FE.cV ["cursor","word","count"] ?_;rintro nd _ A _ s H vs Q E hr ⟨c,ca,N,m,W,p,rfl,cu,aK,wk,hT⟩;refine⟨_,(ar (qs 1 nd (T.lR.ca (mP T) hr bh (q1 (pv 0))))
   (ar (bu (ik (fZ (fX lW ah3 ah7 (KO 45) (pv 1) (q1 af)))) (ak (au (T.wy.ca (A2 T) hr bh (q2 (pv 0) (pv 1))))) bw)
   (ar (qs 2 nd (T.wy.ca (A2 T) hr bh (q2 (pv 0) (L_ Ov (pv 1) (Mj ah) Mi))))
   (ar (bu (qp bX (pv 2) ah) (ak (eX (T.lQ.ca (mO T) hr bh (q1 (pv 0))))) bw)
   (ak (au (A_ BN (pv 2)))))))),?_⟩
 try dsimp only[aN,aO,aP,Cx.aD,Cx.aI]
 obtain⟨hQ,hE⟩:=hT;refine⟨_,rfl,c,ca,N,m,W,p,rfl,cu,aK,λw p' e hp fF v H1 S1 aV hv=>?_,λe ee H' S ne he=>hE (by cases q:W.drop p with|nil=>rfl|cons a r=>rw[q] at e;cases e) ee H' S ne he⟩
 obtain rfl:v=V.str w:=hv;obtain⟨ea,hw⟩:=oS wk e
 try dsimp only[aG]
 refine⟨_,rfl,rfl,w,rfl,rfl,_,rfl,?_⟩;rw[ea] at hQ hE
 cases hh:i3 45 w with
 | false =>
  refine bI ?_;refine⟨_,rfl,_,rfl,c,ca,N,m,W,p',w,rfl,aV,aK,hw.1,hw.2,λn en H' S=>?_,λen ee H' S ne he=>?_⟩
  ·exact hQ (some (n:Int)) p' (by show ((gz w).map some).map _=_;unfold gz;rw[hh,en];rfl) hp fF _ H' (S1.trans S.cz) (aV.same S) rfl
  ·exact hE (by show ((gz w).map some).map _=_;unfold gz;rw[hh,en];rfl) ee H' (S1.trans S.cz) (S1.free ne aV.has) he
 | true =>
  refine bt ?_;refine⟨_,rfl,_,rfl,1,rfl,w,rfl,b_ hw.2 (by decide),?_⟩
  have tl:qF (tZ w)/\(tZ w).length<=2000:=⟨λc hc=>hw.1 c (Vs hc),b_ (Vr ..) hw.2⟩
  refine⟨c,ca,N,m,W,p',tZ w,rfl,aV,aK,tl.1,tl.2,λn en H' S=>?_,λen ee H' S ne he=>?_⟩
  ·try dsimp only[aG]
   refine⟨_,rfl,rfl,_,rfl,?_⟩;refine dZ (λh=>?_) (λh=>?_)
   ·have h:n=0:=by injection h with h;omega
    refine⟨_,rfl,c,ca,N,m,W,p',rfl,aV.same S,aK,λee H2 S2 ne he=>hE ?_ ee H2 (S1.trans (S.trans S2).cz) (S1.free (S.free ne) aV.has) he⟩
    show ((gz w).map some).map _=_;unfold gz;rw[hh,if_pos rfl,en]
    try dsimp only
    rw[if_pos h];rfl
   ·have h:¬ n=0:=λz=>h (by rw[z];rfl)
    refine⟨_,rfl,_,rfl,hQ (some (-(n:Int))) p' ?_ hp fF _ H' (S1.trans S.cz) (aV.same S) rfl⟩;show ((gz w).map some).map _=_;unfold gz;rw[hh,if_pos rfl,en]
    try dsimp only
    rw[if_neg h];rfl
  ·refine hE ?_ ee H' (S1.trans S.cz) (S1.free ne aV.has) he
   show ((gz w).map some).map _=_;unfold gz;rw[hh,if_pos rfl,en];rfl
theorem acE(T:TD w K mg AR FR base):ax P w K mg base (bG P w) 7 AR.nU FR.yZ ["cursor"] (Qa AR.aC AR.bc AR.a_ K):=by
 refine T.FD.cV ["cursor","word"] ?_;rintro nd _ A _ s H vs Q E hr ⟨c,ca,N,m,W,p,rfl,cu,aK,wk,hT⟩;refine⟨_,(ar (qs 1 nd (T.lR.ca (mP T) hr bh (q1 (pv 0))))
   (ak (au (LX (qp bX (pv 1) af) fj (T.wy.ca (A2 T) hr bh (q2 (pv 0) (pv 1))))))),?_⟩
 try dsimp only[aN,aO,aP,Cx.aD,Cx.aI]
 obtain⟨hQ,hE⟩:=hT;refine⟨_,rfl,c,ca,N,m,W,p,rfl,cu,aK,λw p' e hp fF v H1 S1 aV hv=>?_,λe ee H' S ne he=>hE (by cases q:W.drop p with|nil=>rfl|cons a r=>rw[q] at e;cases e) ee H' S ne he⟩
 obtain rfl:v=V.str w:=hv;obtain⟨ea,hw⟩:=oS wk e
 try dsimp only[aG]
 rw[ea] at hQ hE;have et:gf N .eW (w::W.drop p')=(if w=oP then some none else (bZ w).map λ(n:Nat)=>some (n:Int)).map λv=>(v,W.drop p'):=rfl
 rw[et] at hQ hE;refine⟨_,rfl,rfl,_,rfl,?_⟩;refine dZ (λh=>?_) (λh=>?_)
 ·have h:w=oP:=by injection h
  rw[if_pos h] at hQ;exact hQ none p' rfl hp fF _ H1 S1 aV rfl
 ·have h:¬ w=oP:=λz=>h (by rw[z])
  rw[if_neg h] at hQ hE;refine⟨_,rfl,_,rfl,c,ca,N,m,W,p',w,rfl,aV,aK,hw.1,hw.2,λn en H' S=>?_,λen ee H' S ne he=>?_⟩
  ·exact hQ (some (n:Int)) p' (by rw[en];rfl) hp fF _ H' (S1.trans S.cz) (aV.same S) rfl
  ·exact hE (by rw[en];rfl) ee H' (S1.trans S.cz) (S1.free ne aV.has) he
theorem tH(T:TD w K mg AR FR base):ax P w K mg base (bG P w) 8 AR.Ab FR.yT ["cursor","left","right","take"] (P1 AR.aC AR.bc AR.a_ AR.nR AR.jH AR.nQ AR.nV AR.nU K):=by
 refine T.qT.cV ["cursor","left","right","take","found"] ?_;rintro nd _ A _ s H vs Q E hr ⟨c,ca,N,m,W,p,b,e,k,rfl,cu,aK,wk,hT⟩;refine⟨_,(ar (eX (T.BJ.ca (El T) hr bh (q2 (pv 0) (pv 1))))
   (ar (qs 4 nd (bB jV))
   (ar (EE PassesOwn.leaving (ik (fZ (T.By.ca (Ee T) hr aw (q2 (pv 0) (pv 2)))))
   (ak (eX (fX ph uh ui qz (pv 4) (q1 (cy (T.BI.va 3 (Ly T) hr bh (q1 (pv 0))) (cy (T.t6.va 3 (Lx T) hr bh (q1 (pv 0))) (cy (T.t_.va 3 (Ek T) hr bh (q1 (pv 0))) (cy (T.FE.va 3 (acF T) hr bh (q1 (pv 0))) (T.FD.va 3 (acE T) hr bh (q1 (pv 0))))))))))))
   (ar (eX (T.BJ.ca (El T) hr bh (q2 (pv 0) (pv 2))))
   (ak (au (pv 4))))))),?_⟩
 try dsimp only[aN,aO,aP,Cx.aD,Cx.aI]
 obtain⟨hQ,hE⟩:=hT;have eM:=sizeLine_eq;refine⟨_,rfl,_,rfl,c,ca,N,m,W,p,b,rfl,cu,aK,λu p1 e1 hp mB v H1 S1 aV _=>?_,λe1 ee H' S ne he=>hE (aey e1) ee H' S ne he⟩
 have eb:=aez (N:=N) (e:=e) (k:=k) e1;refine⟨by decide,λr nr=>?_⟩
 have U1:=(ae.refl H1).upd nr (o:=.lst (cX []));have g1:=aA (H:=H1) (a:=r) (o:=.lst (cX []));have vT:=S1.free nr aV.has;have bf:=aV.same U1;have S2:=S1.trans U1.cz (c:=c)
 try dsimp only[aG]
 rw[show (HO.lst ([]:List V))=.lst (cX []) from rfl]
 generalize upd H1 r (.lst (cX []))=H2 at U1 g1 bf S2 ⊢;refine FT (λn σ H3=>∃(p2:Nat) (dn:Mark),σ=[some (.ref c),some (.str b),some (.str e),some (.ref (zl AR.nR AR.jH AR.nQ AR.nV AR.nU k)),some (.ref r)]/\dg c H H3/\bN AR.aC AR.bc H3 c ca N (m:Int) W p2/\H3 r=some (.lst (cX dn))/\p<=p2/\dn.length<=p2/\aU N b e k (W.drop p)=(cR N e k (W.drop p2)).map (λx=>(dn++x.1,x.2))/\n=W.length-p2) ⟨_,p1,[],rfl,S2,bf,g1,hp,dy _,by rw[eb];cases cR N e k (W.drop p1)<;>rfl,rfl⟩ ?_ (λσ H Q Q' hm ⟨v1,e1,v2,e2,c,ca,N,m,W,p,w,e3,cu,b,e4,q⟩=>⟨v1,e1,v2,e2,c,ca,N,m,W,p,w,e3,cu,b,e4,hm _ _ q⟩)
 rintro n σ H3 ⟨p2,dn,rfl,S3,eC,g3,bW,jm,eF,rfl⟩;have rc:r≠c:=λz=>by
  obtain⟨o,ho⟩:=cu.has;rw[z,ho] at vT
  cases vT
 refine⟨_,rfl,_,rfl,c,ca,N,m,W,p2,e,rfl,eC,_,rfl,?_⟩;by_cases hh:(W.drop p2).head?=some e
 ·rw[decide_eq_true hh]
  refine bt ?_;have e2:=Uz (N:=N) (k:=k) hh;rw[e2] at eF;refine⟨_,rfl,_,rfl,c,ca,N,m,W,p2,e,rfl,eC,aK,λu p3 e3 Av mD v H4 S4 lj _=>?_,λe3=>?_⟩
  ·refine⟨_,rfl,hQ dn p3 ?_ (by omega) mD _ H4 (S3.trans S4) lj ⟨r,rfl,vT,S4 _ _ rc g3⟩⟩
   rw[eF,fm,eY]
   cases q:W.drop p2 with
   | nil=>rw[q] at hh;cases hh
   | cons a l =>
    rw[q] at e3 hh;unfold kO at e3
    try dsimp only at e3
    rw[if_pos (a6 hh)] at e3;have e3:=a6 e3;injection e3 with _ e3
    rw[<-e3];rfl
  ·exfalso
   cases q:W.drop p2 with
   | nil=>rw[q] at hh;cases hh
   | cons a l =>
    rw[q] at e3 hh;unfold kO at e3
    try dsimp only at e3
    rw[if_pos (a6 hh)] at e3
    cases e3
 ·rw[decide_eq_false hh]
  refine bI ?_;refine⟨_,rfl,.inl ⟨rfl,_,ai.of g3⟩,?_⟩;have fin:Tk AR.aC AR.bc AR.a_ (gf N k) qq H3 c ca N (m:Int) W p2 (λx H1=>(λxs H2=>Bg (.ref r) xs H2 λ_ H1=>∃m',m'<W.length-p2/\∃(p2:Nat) (dn:Mark),([some (.ref c),some (.str b),some (.str e),some (.ref (zl AR.nR AR.jH AR.nQ AR.nV AR.nU k)),some (.ref r)]:St)=[some (.ref c),some (.str b),some (.str e),some (.ref (zl AR.nR AR.jH AR.nQ AR.nV AR.nU k)),some (.ref r)]/\dg c H H1/\bN AR.aC AR.bc H1 c ca N (m:Int) W p2/\H1 r=some (.lst (cX dn))/\p<=p2/\dn.length<=p2/\aU N b e k (W.drop p)=(cR N e k (W.drop p2)).map (λx=>(dn++x.1,x.2))/\m'=W.length-p2) [x] H1) E:=by
   refine⟨λv p3 e3 Av mD u H4 S4 lj hu=>?_,λe3 ee H' S ne he=>hE (by rw[eF,UA hh e3];rfl) ee H' (S3.trans S) (S3.free ne eC.has) he⟩
   obtain rfl:u=vm v:=hu;obtain⟨e4,p2l⟩:=afw e3 mD;have wl:=wk.1;refine⟨r,_,_,rfl,rfl,S4 _ _ rc g3,by rw[aH];omega,W.length-p3,by omega,p3,dn++[v],rfl,((S3.trans S4).BP vT),cu.move ((S3.trans S4).BP vT) ((bg rc.symm).trans lj.1.ob) mD,?_,by omega,by rw[bS,ur];omega,?_,rfl⟩
   ·rw[aA,show cX (dn++[v])=cX dn++[vm v] from dX]
   ·rw[eF,UB hh e3]
    cases cR N e k (W.drop p3) with
    | none=>rfl
    | some x=>simp
  cases k with
  | door=>exact .inl ⟨rfl,_,rfl,c,ca,N,m,W,p2,rfl,eC,aK,wk,fin⟩
  | dC=>exact .inr (.inl ⟨rfl,_,rfl,c,ca,N,m,W,p2,rfl,eC,aK,wk,fin⟩)
  | cnt=>exact .inr (.inr (.inl ⟨rfl,_,rfl,c,ca,N,m,W,p2,rfl,eC,aK,wk,fin⟩))
  | num=>exact .inr (.inr (.inr (.inl ⟨rfl,_,rfl,c,ca,N,m,W,p2,rfl,eC,aK,wk,fin⟩)))
  | eW=>exact .inr (.inr (.inr (.inr ⟨rfl,_,rfl,c,ca,N,m,W,p2,rfl,eC,aK,wk,fin⟩)))
theorem Lw(T:TD w K mg AR FR base):ax P w K mg base (bG P w) 9 AR.nP FR.yU ["cursor"] (P2 AR.aC AR.bc AR.a_ K):=by
 refine T.BH.cV ["cursor","many"] ?_;rintro nd _ A _ s H vs Q E hr ⟨c,ca,N,m,W,p,rfl,cu,aK,wk,hT⟩;refine⟨_,(ar (qs 1 nd (T.t_.ca (Ek T) hr bh (q1 (pv 0))))
   (ak (au (dR (q2 (pv 1) (T.qT.ca (tH T) hr bh (bP (pv 0) (q3 af af T.BI.ga)))))))),?_⟩
 try dsimp only[aN,aO,aP,Cx.aD,Cx.aI]
 obtain⟨hQ,hE⟩:=hT;refine⟨_,rfl,c,ca,N,m,W,p,rfl,cu,aK,wk,λv p1 e1 hp mB u H1 S1 aV hu=>?_,λe1 ee H' S ne he=>hE (by show (dw N _).map _=_;rw[Um e1];rfl) ee H' S ne he⟩
 obtain rfl:u=vm v:=hu;obtain⟨n,rfl,eb⟩:=Uo e1
 try dsimp only[aG]
 refine⟨_,rfl,_,rfl,c,ca,N,m,W,p1,c_,dm,.door,rfl,aV,aK,wk,λmk p2 e2 bW bA u H2 S2 bf hu=>?_,λe2 ee H' S ne he=>hE (by show (dw N _).map _=_;rw[eb,e2];rfl) ee H' (S1.trans S) (S1.free ne aV.has) he⟩
 obtain⟨a,rfl,na,ha⟩:=hu;rw[rP (k:=.door) (λz=>nomatch z) e2] at ha
 refine⟨by show 2<=sizeLine;decide,λq nq=>?_⟩
 have U2:=(ae.refl H2).upd nq (o:=.tup [.int (n:Int),.ref a]);have pF:=S1.trans S2;exact hQ (.wr ((n:Int),bU mk)) p2 (by show (dw N _).map _=_;rw[eb,e2];rfl) (by omega) bA _ _ (pF.trans U2.cz) (bf.same U2) ⟨q,a,rfl,pF.free nq bf.has,S1.free na aV.has,aA,U2 _ _ ha⟩
theorem acG(T:TD w K mg AR FR base):ax P w K mg base (bG P w) 9 AR.nW FR.y2 ["cursor"] (Qc AR.aC AR.bc AR.a_ K):=by
 refine T.FG.cV ["cursor","door","loops"] ?_;rintro nd _ A _ s H vs Q E hr ⟨c,ca,N,m,W,p,rfl,cu,aK,wk,hT⟩;refine⟨_,(ar (qs 1 nd (T.BI.ca (Ly T) hr bh (q1 (pv 0))))
   (ar (bu (ik (fZ (T.By.ca (Ee T) hr aw (q2 (pv 0) af)))) (ak (au (dR (q2 (pv 1) (bB jV))))) bw)
   (ar (qs 2 nd (T.qT.ca (tH T) hr bh (bP (pv 0) (q3 af af T.t_.ga))))
   (ar (bu (qp (Er hr.FI) (pv 2) (bB jV)) (ak (eX (T.lQ.ca (mO T) hr bh (q1 (pv 0))))) bw)
   (ak (au (dR (q2 (pv 1) (pv 2))))))))),?_⟩
 try dsimp only[aN,aO,aP,Cx.aD,Cx.aI]
 obtain⟨hQ,hE⟩:=hT;refine⟨_,rfl,c,ca,N,m,W,p,rfl,cu,aK,wk,λv p1 e1 hp mB u H1 S1 aV hu=>?_,λe1 ee H' S ne he=>hE (by show (fz N _).map _=_;rw[acY e1];rfl) ee H' S ne he⟩
 obtain rfl:u=vm v:=hu;obtain⟨n,rfl,eb⟩:=ac0 e1
 try dsimp only[aG]
 refine⟨_,rfl,c,ca,N,m,W,p1,cp,rfl,aV,_,rfl,?_⟩;by_cases hh:(W.drop p1).head?=some cp
 ·rw[if_pos hh] at eb
  rw[decide_eq_true hh];refine bt ?_;refine⟨_,rfl,c,ca,N,m,W,p1,cp,e8,.cnt,rfl,aV,aK,wk,λmk p2 e2 bW bA u H2 S2 bf hu=>?_,λe2 ee H' S ne he=>hE (by show (fz N _).map _=_;rw[eb,e2];rfl) ee H' (S1.trans S) (S1.free ne aV.has) he⟩
  obtain⟨a,rfl,na,ha⟩:=hu;rw[rP (k:=.cnt) (λz=>nomatch z) e2] at ha
  rw[e2] at eb
  try dsimp only[aG] at eb ⊢
  refine⟨_,rfl,by decide,λq nq=>?_⟩
  have U2:=(ae.refl H2).upd nq (o:=.lst (aQ []));refine⟨a,q,_,[],rfl,rfl,ai.of (U2 _ _ ha),ai.of aA,_,rfl,?_⟩;have pF:=S1.trans S2;refine dZ (λh=>?_) (λh=>?_)
  ·rw[if_pos (Kf.mp h)] at eb
   exact⟨_,rfl,c,ca,N,m,W,p2,rfl,bf.same U2,aK,λee H' S ne he=>hE (by show (fz N _).map _=_;rw[eb];rfl) ee H' (pF.trans (U2.trans S).cz) (pF.free (U2.free ne) bf.has) he⟩
  ·rw[if_neg (λz=>h (Kf.mpr z))] at eb
   refine⟨_,rfl,_,rfl,by show 2<=sizeLine;decide,λq2 oF=>?_⟩
   have U3:=U2.upd oF (o:=.tup [.int n,.ref a]);exact hQ (.wr (n,bU mk)) p2 (by show (fz N _).map _=_;rw[eb];rfl) (by omega) bA _ _ (pF.trans U3.cz) (bf.same U3) ⟨q2,a,rfl,pF.free (U2.free oF) bf.has,S1.free na aV.has,aA,U3 _ _ ha⟩
 ·rw[if_neg hh] at eb
  rw[decide_eq_false hh];refine bI ?_;refine⟨_,rfl,by decide,λq nq=>?_⟩
  have U2:=(ae.refl H1).upd nq (o:=.lst (aQ []));have g2:=aA (H:=H1) (a:=q) (o:=.lst (aQ []));refine⟨by show 2<=sizeLine;decide,λq2 oF=>?_⟩
  have U3:=U2.upd oF (o:=.tup [.int n,.ref q]);exact hQ (.wr (n,[])) p1 (by show (fz N _).map _=_;rw[eb];rfl) hp mB _ _ (S1.trans U3.cz) (aV.same U3) ⟨q2,q,rfl,S1.free (U2.free oF) aV.has,S1.free nq aV.has,aA,by rw[bg (e6 g2 oF)];exact g2⟩
theorem acD(T:TD w K mg AR FR base):ax P w K mg base (bG P w) 9 AR.nT FR.yY ["cursor"] (P_ AR.aC AR.bc AR.a_ K):=by
 refine T.FC.cV ["cursor"] ?_;rintro nd _ A _ s H vs Q E hr ⟨c,ca,N,m,W,p,rfl,cu,aK,wk,hT⟩;refine⟨_,(ak (au (T.qT.ca (tH T) hr bh (bP (pv 0) (q3 af af T.FD.ga))))),?_⟩
 try dsimp only[aN,aO,aP,Cx.aD,Cx.aI]
 obtain⟨hQ,hE⟩:=hT;refine⟨_,rfl,c,ca,N,m,W,p,ba,aX,.eW,rfl,cu,aK,wk,λmk p2 e2 bW bA u H2 S2 bf hu=>?_,λe2 ee H' S ne he=>hE (by show (aU N ba aX .eW _).map _=_;rw[e2];rfl) ee H' S ne he⟩
 obtain⟨a,rfl,na,ha⟩:=hu;exact hQ (.mk mk) p2 (by show (aU N ba aX .eW _).map _=_;rw[e2];rfl) bW bA _ H2 S2 bf ⟨a,rfl,na,ha⟩
theorem acz(T:TD w K mg AR FR base):ax P w K mg base (bG P w) 9 AR.nO FR.yS ["cursor"] (P0 AR.aC AR.bc AR.a_ K):=by
 refine T.BE.cV ["cursor"] ?_;rintro nd _ A _ s H vs Q E hr ⟨c,ca,N,m,W,p,rfl,cu,aK,wk,hT⟩;refine⟨_,(ak (au (T.qT.ca (tH T) hr bh (bP (pv 0) (q3 af af T.t_.ga))))),?_⟩
 try dsimp only[aN,aO,aP,Cx.aD,Cx.aI]
 obtain⟨hQ,hE⟩:=hT;refine⟨_,rfl,c,ca,N,m,W,p,ba,aX,.cnt,rfl,cu,aK,wk,λmk p2 e2 bW bA u H2 S2 bf hu=>?_,λe2 ee H' S ne he=>hE (by show (aU N ba aX .cnt _).map _=_;rw[e2];rfl) ee H' S ne he⟩
 obtain⟨a,rfl,na,ha⟩:=hu;exact hQ (.mk mk) p2 (by show (aU N ba aX .cnt _).map _=_;rw[e2];rfl) bW bA _ H2 S2 bf ⟨a,rfl,na,ha⟩
theorem acr(T:TD w K mg AR FR base):ax P w K mg base (bG P w) 9 AR.sG FR.yG ["cursor"] (PH AR.aC AR.bc AR.a_ K):=by
 refine T.Rb.cV ["cursor"] ?_;rintro nd _ A _ s H vs Q E hr ⟨c,ca,N,m,W,p,rfl,cu,aK,wk,hT⟩;refine⟨_,(ak (au (dR (q2 af (T.qT.ca (tH T) hr bh (bP (pv 0) (q3 af af T.t6.ga))))))),?_⟩
 try dsimp only[aN,aO,aP,Cx.aD,Cx.aI]
 obtain⟨hQ,hE⟩:=hT
 try dsimp only at hQ hE
 refine⟨_,rfl,c,ca,N,m,W,p,c_,dm,.dC,rfl,cu,aK,wk,λmk p2 e2 bW bA u H2 S2 bf hu=>?_,λe2 ee H' S ne he=>hE (by rw[e2];rfl) ee H' S ne he⟩
 obtain⟨a,rfl,na,ha⟩:=hu;rw[rP (k:=.dC) (λz=>nomatch z) e2] at ha
 refine⟨by show 2<=sizeLine;decide,λq nq=>?_⟩
 have U2:=(ae.refl H2).upd nq (o:=.tup [.str "trap",.ref a]);exact hQ (.rs (.yes true (bU mk))) p2 (by rw[e2];rfl) bW bA _ _ (S2.trans U2.cz) (bf.same U2) ⟨q,a,rfl,S2.free nq bf.has,na,aA,U2 _ _ ha⟩
theorem Em(T:TD w K mg AR FR base):ax P w K mg base (bG P w) 9 AR.Ae FR.y7 ["cursor"] (Qg AR.aC AR.bc AR.a_ K):=by
 refine T.BK.cV ["cursor"] ?_;rintro nd _ A _ s H vs Q E hr ⟨c,ca,N,m,W,p,rfl,cu,aK,wk,hT⟩;refine⟨_,(ak (au (T.qT.ca (tH T) hr bh (bP (pv 0) (q3 af af T.FE.ga))))),?_⟩
 try dsimp only[aN,aO,aP,Cx.aD,Cx.aI]
 exact⟨_,rfl,c,ca,N,m,W,p,ba,aX,.num,rfl,cu,aK,wk,hT⟩
theorem acu(T:TD w K mg AR FR base):ax P w K mg base (bG P w) 10 AR.sI FR.yI ["cursor"] (PL AR.aC AR.bc AR.a_ K):=by
 refine T.Rf.cV ["cursor"] ?_;rintro nd _ A _ s H vs Q E hr ⟨c,ca,N,m,W,p,rfl,cu,aK,wk,hT⟩;refine⟨_,(ak (au (dR (q2 af (T.BK.ca (Em T) hr bh (q1 (pv 0))))))),?_⟩
 try dsimp only[aN,aO,aP,Cx.aD,Cx.aI]
 obtain⟨hQ,hE⟩:=hT
 try dsimp only at hQ hE
 refine⟨_,rfl,c,ca,N,m,W,p,rfl,cu,aK,wk,λmk p2 e2 bW bA u H2 S2 bf hu=>?_,λe2 ee H' S ne he=>hE (by rw[e2];rfl) ee H' S ne he⟩
 obtain⟨a,rfl,na,ha⟩:=hu;rw[rP (k:=.num) (λz=>nomatch z) e2] at ha
 refine⟨by show 2<=sizeLine;decide,λq nq=>?_⟩
 have U2:=(ae.refl H2).upd nq (o:=.tup [.str "weight",.ref a]);exact hQ (.rs (.yes false (bU mk))) p2 (by rw[e2];rfl) bW bA _ _ (S2.trans U2.cz) (bf.same U2) ⟨q,a,rfl,S2.free nq bf.has,na,aA,U2 _ _ ha⟩
theorem Lq(T:TD w K mg AR FR base):ax P w K mg base (bG P w) 5 AR.sC FR.yB ["cursor"] (Py AR.aC AR.bc K):=by
 refine T.Fw.cV ["cursor"] ?_;rintro nd _ A _ s H vs Q E hr ⟨c,rfl,hQ⟩;refine⟨_,(ak (au fj)),?_⟩
 try dsimp only[aN,aO,aP,Cx.aD,Cx.aI]
 exact hQ
theorem acA(T:TD w K mg AR FR base):ax P w K mg base (bG P w) 11 AR.sM FR.rZ ["cursor","forms"] (P7 AR.aC AR.bc AR.a_ AR.pI K):=by
 refine T.ua.cV ["cursor","forms","form"] ?_;rintro nd _ A _ s H vs Q E hr ⟨c,ca,N,m,W,p,rfl,cu,aK,wk,hT⟩;refine⟨_,(ar (qs 2 nd (T.lR.ca (mP T) hr bh (q1 (pv 0))))
   (ar (bu (qp Ew (pv 2) (pv 1)) (ak (eX (T.lQ.ca (mO T) hr bh (q1 (pv 0))))) bw)
   (ak (au (cy (T.Rb.da T.gK (acr T) hr bh T.gO (pv 2) (q1 (pv 0))) (cy (T.Rf.da T.gK (acu T) hr bh T.gO (pv 2) (q1 (pv 0))) (T.Fw.da T.gK (Lq T) hr bh T.gO (pv 2) (q1 (pv 0))))))))),?_⟩
 try dsimp only[aN,aO,aP,Cx.aD,Cx.aI]
 obtain⟨hQ,hE⟩:=hT;refine⟨_,rfl,c,ca,N,m,W,p,rfl,cu,aK,λw p1 e1 hp mB v H1 S1 aV hv=>?_,λe1 ee H' S ne he=>hE (by show (fM N _).map _=_;rw[FQ e1];rfl) ee H' S ne he⟩
 obtain rfl:v=V.str w:=hv;obtain⟨ea,hw⟩:=oS wk e1;rw[ea] at hQ hE;have eR:tI N .gP (w::W.drop p1)=(fM N (w::W.drop p1)).map λx=>(.rs x.1,x.2):=rfl
 rw[eR] at hQ hE;unfold fM at hQ hE
 try dsimp only at hQ hE
 try dsimp only[aG]
 refine⟨_,rfl,_,rfl,AR.pI,_,rfl,.inr (T.ZQ H1),rfl,(by rfl),_,rfl,?_⟩
 have ei:iI (.str w) [.str (zalias233z "trap"),.str (zalias233z "weight"),.str (zalias233z "none")]=decide (w∈[zalias233z "trap",zalias233z "weight",zalias233z "none"]):=DE (l:=[zalias233z "trap",zalias233z "weight",zalias233z "none"]);rw[ei];by_cases h1:w="trap"
 ·rw[if_pos h1] at hQ hE
  subst h1;refine bt ?_;refine .inl ⟨_,rfl,_,rfl,rfl,rfl,_,rfl,c,ca,N,m,W,p1,rfl,aV,aK,wk,λi p2 e2 bW bA u H2 S2 bf hu=>?_,λe2 ee H' S ne he=>?_⟩
  ·try dsimp only at e2
   refine hQ i p2 ((Bj (f:=λm=>.yes true (bU m))).trans e2) (by omega) bA u H2 (S1.trans S2) bf (hu.old S1 aV.has)
  ·try dsimp only at e2
   exact hE ((Bj (f:=λm=>.yes true (bU m))).trans e2) ee H' (S1.trans S) (S1.free ne aV.has) he
 rw[if_neg h1] at hQ hE;by_cases h2:w="weight"
 ·rw[if_pos h2] at hQ hE
  subst h2;refine bt ?_;refine .inr (.inl ⟨_,rfl,_,rfl,rfl,rfl,_,rfl,c,ca,N,m,W,p1,rfl,aV,aK,wk,λi p2 e2 bW bA u H2 S2 bf hu=>?_,λe2 ee H' S ne he=>?_⟩)
  ·try dsimp only at e2
   refine hQ i p2 ((Bj (f:=λm=>.yes false (bU m))).trans e2) (by omega) bA u H2 (S1.trans S2) bf (hu.old S1 aV.has)
  ·try dsimp only at e2
   exact hE ((Bj (f:=λm=>.yes false (bU m))).trans e2) ee H' (S1.trans S) (S1.free ne aV.has) he
 rw[if_neg h2] at hQ hE;by_cases h3:w=iK
 ·rw[if_pos h3] at hQ hE
  subst h3;refine bt ?_;exact .inr (.inr ⟨_,rfl,_,rfl,rfl,rfl,_,rfl,c,rfl,hQ (.rs .no) p1 rfl hp mB _ H1 S1 aV rfl⟩)
 rw[if_neg h3] at hQ hE;rw[decide_eq_false (show ¬ w∈[zalias233z "trap",zalias233z "weight",zalias233z "none"] from λz=>by
  simp only[bE,F8,or_false] at z;rcases z with z|z|z
  ·exact h1 z
  ·exact h2 z
  ·exact h3 z)]
 refine bI ?_;exact⟨_,rfl,c,ca,N,m,W,p1,rfl,aV,aK,λee H' S ne he=>hE rfl ee H' (S1.trans S.cz) (S1.free ne aV.has) he⟩
theorem acH(T:TD w K mg AR FR base):ax P w K mg base (bG P w) 12 AR.nX FR.y3 ["cursor"] (Qd AR.aC AR.bc AR.a_ K):=by
 refine T.FH.cV ["cursor"] ?_;rintro nd _ A _ s H vs Q E hr ⟨c,ca,N,m,W,p,rfl,cu,aK,wk,hT⟩;refine⟨_,(ak (au (T.ua.ca (acA T) hr bh (q2 (pv 0) (qg T.aaI))))),?_⟩
 try dsimp only[aN,aO,aP,Cx.aD,Cx.aI]
 exact⟨_,rfl,c,ca,N,m,W,p,rfl,cu,aK,wk,hT⟩
theorem oI(T:TD w K mg AR FR base):ax P w K mg base (bG P w) 13 AR.Ad FR.y6 ["cursor","take"] (Qf AR.aC AR.bc AR.a_ AR.nP AR.nW AR.nT AR.nO AR.jH AR.nX K):=by
 refine T.m3.cV ["cursor","take","found"] ?_;rintro nd _ A _ s H vs Q E hr ⟨c,ca,N,m,W,p,k,rfl,cu,aK,wk,hT⟩;refine⟨_,(ar (qs 2 nd (bB jV))
   (ar (EE PassesOwn.leaving (ik (fZ (T.wx.ca (A0 T) hr aw (q1 (pv 0)))))
   (ak (eX (fX ph uh ui qz (pv 2) (q1 (cy (T.BH.va 1 (Lw T) hr bh (q1 (pv 0))) (cy (T.FG.va 1 (acG T) hr bh (q1 (pv 0))) (cy (T.FC.va 1 (acD T) hr bh (q1 (pv 0))) (cy (T.BE.va 1 (acz T) hr bh (q1 (pv 0))) (cy (T.t6.va 1 (Lx T) hr bh (q1 (pv 0))) (T.FH.va 1 (acH T) hr bh (q1 (pv 0)))))))))))))
   (ak (au (pv 2))))),?_⟩
 try dsimp only[aN,aO,aP,Cx.aD,Cx.aI]
 obtain⟨hQ,hE⟩:=hT
 try dsimp only at hQ hE
 have eM:=sizeLine_eq;refine⟨by decide,λr nr=>?_⟩
 have U1:=(ae.refl H).upd nr (o:=.lst []);have g1:=aA (H:=H) (a:=r) (o:=.lst []);have bf:=cu.same U1
 try dsimp only[aG]
 generalize upd H r (.lst [])=H2 at U1 g1 bf ⊢;have rc:r≠c:=λz=>by
  obtain⟨o,ho⟩:=cu.has;rw[z,ho] at nr
  cases nr
 refine FT (λn σ H3=>∃(p2:Nat) (dn:List Itm) (vs:List V),σ=[some (.ref c),some (.ref (zj AR.nP AR.nW AR.nT AR.nO AR.jH AR.nX k)),some (.ref r)]/\dg c H H3/\bN AR.aC AR.bc H3 c ca N (m:Int) W p2/\H3 r=some (.lst vs)/\Paired (jB c r H3) vs dn/\p<=p2/\vs.length<=p2/\bC N k (W.drop p)=(bC N k (W.drop p2)).map (dn++·)/\n=W.length-p2) ⟨_,p,[],[],rfl,U1.cz,bf,g1,.nil,bH _,dy _,by cases bC N k (W.drop p)<;>rfl,rfl⟩ ?_ (λσ H Q Q' hm ⟨v1,e1,c,ca,N,m,W,p,e3,cu,b,e4,q⟩=>⟨v1,e1,c,ca,N,m,W,p,e3,cu,b,e4,hm _ _ q⟩)
 rintro n σ H3 ⟨p2,dn,vs,rfl,S3,eC,g3,R3,bW,jm,eF,rfl⟩;refine⟨_,rfl,c,ca,N,m,W,p2,rfl,eC,_,rfl,?_⟩;by_cases hh:p2<W.length
 ·rw[decide_eq_false (λz=>z hh)]
  refine bI ?_;refine⟨_,rfl,.inl ⟨rfl,_,ai.of g3⟩,?_⟩;have fin:Tk AR.aC AR.bc AR.a_ (tI N k) hV H3 c ca N (m:Int) W p2 (λx H1=>(λxs H2=>Bg (.ref r) xs H2 λ_ H1=>∃m',m'<W.length-p2/\∃(p2:Nat) (dn:List Itm) (vs:List V),([some (.ref c),some (.ref (zj AR.nP AR.nW AR.nT AR.nO AR.jH AR.nX k)),some (.ref r)]:St)=[some (.ref c),some (.ref (zj AR.nP AR.nW AR.nT AR.nO AR.jH AR.nX k)),some (.ref r)]/\dg c H H1/\bN AR.aC AR.bc H1 c ca N (m:Int) W p2/\H1 r=some (.lst vs)/\Paired (jB c r H1) vs dn/\p<=p2/\vs.length<=p2/\bC N k (W.drop p)=(bC N k (W.drop p2)).map (dn++·)/\m'=W.length-p2) [x] H1) E:=by
   refine⟨λi p3 e3 Av mD u H4 S4 lj hu=>?_,λe3 ee H' S ne he=>hE (by rw[eF,VV hh e3];rfl) ee H' (S3.trans S) (S3.free ne eC.has) he⟩
   have l3:=wo e3;rw[lY,lY] at l3;have wl:=wk.1;have g4:=S4 _ _ rc g3;have S5:=(S3.trans S4).BP nr (o:=.lst (vs++[u]));refine⟨r,_,_,rfl,rfl,g4,by omega,W.length-p3,by omega,p3,dn++[i],vs++[u],rfl,S5,cu.move S5 ((bg rc.symm).trans lj.1.ob) mD,aA,?_,by omega,by rw[bS,ur];omega,?_,rfl⟩
   ·exact Paired.snoc (Paired.eZ R3 λ_ _ h=>(h.cz S4).upd) ((hu.off eC.has ⟨_,g3⟩).upd)
   ·rw[eF,VW hh e3]
    cases bC N k (W.drop p3) with
    | none=>rfl
    | some x=>simp
  cases k with
  | fe=>exact .inl ⟨rfl,_,rfl,c,ca,N,m,W,p2,rfl,eC,aK,wk,fin⟩
  | pair=>exact .inr (.inl ⟨rfl,_,rfl,c,ca,N,m,W,p2,rfl,eC,aK,wk,fin⟩)
  | mark=>exact .inr (.inr (.inl ⟨rfl,_,rfl,c,ca,N,m,W,p2,rfl,eC,aK,wk,fin⟩))
  | eA=>exact .inr (.inr (.inr (.inl ⟨rfl,_,rfl,c,ca,N,m,W,p2,rfl,eC,aK,wk,fin⟩)))
  | dC=>exact .inr (.inr (.inr (.inr (.inl ⟨rfl,_,rfl,c,ca,N,m,W,p2,rfl,eC,aK,wk,Uu fin⟩))))
  | gP=>exact .inr (.inr (.inr (.inr (.inr ⟨rfl,_,rfl,c,ca,N,m,W,p2,rfl,eC,aK,wk,fin⟩))))
 ·rw[decide_eq_true hh]
  refine bt ?_;have ed:=drop_nil hh;have p2l:p2=W.length:=by have:=eC.le;omega
  rw[ed,show bC N k []=some [] from rfl,fm,eY] at eF
  exact⟨_,rfl,hQ dn p2 (by rw[eF,ed];rfl) bW eC.le _ H3 S3 eC ⟨r,vs,rfl,g3,Paired.eZ R3 λ_ _ h=>h.is⟩⟩
theorem acp(T:TD w K mg AR FR base):ax P w K mg base (bG P w) 14 AR.sE FR.yE ["cursor"] (PD AR.aC AR.bc AR.a_ K):=by
 refine T.Q_.cV ["cursor"] ?_;rintro nd _ A _ s H vs Q E hr ⟨c,ca,N,m,W,p,rfl,cu,aK,wk,hT⟩;refine⟨_,(ak (au (dR (q2 af (T.m3.ca (oI T) hr bh (q2 (pv 0) T.BH.ga)))))),?_⟩
 try dsimp only[aN,aO,aP,Cx.aD,Cx.aI]
 obtain⟨hQ,hE⟩:=hT
 try dsimp only at hQ hE
 refine⟨_,rfl,c,ca,N,m,W,p,.fe,rfl,cu,aK,wk,λis p2 e2 bW bA u H2 S2 bf hu=>?_,λe2 ee H' S ne he=>hE (end_none e2) ee H' S ne he⟩
 obtain⟨e2,ed⟩:=nE e2;obtain⟨r,vs,rfl,iH,R⟩:=hu;refine⟨by show 2<=sizeLine;decide,λq nq=>?_⟩
 have U2:=(ae.refl H2).upd nq (o:=.tup [.str "run",.ref r]);refine hQ (.wr true (is.map gW)) p2 (by rw[e2,ed];rfl) bW bA _ _ (S2.trans U2.cz) (bf.same U2) ?_
 obtain⟨as,ea,RB⟩:=AD (k:=.fe) rfl R (nD e2);exact⟨q,r,as,rfl,aA,by rw[<-ea];exact U2 _ _ iH,RB.same U2⟩
theorem acj(T:TD w K mg AR FR base):ax P w K mg base (bG P w) 14 AR.so FR.yu ["cursor"] (Pp AR.aC AR.bc AR.a_ K):=by
 refine T.Q5.cV ["cursor"] ?_;rintro nd _ A _ s H vs Q E hr ⟨c,ca,N,m,W,p,rfl,cu,aK,wk,hT⟩;refine⟨_,(ak (au (dR (q2 af (T.m3.ca (oI T) hr bh (q2 (pv 0) T.FG.ga)))))),?_⟩
 try dsimp only[aN,aO,aP,Cx.aD,Cx.aI]
 obtain⟨hQ,hE⟩:=hT
 try dsimp only at hQ hE
 refine⟨_,rfl,c,ca,N,m,W,p,.pair,rfl,cu,aK,wk,λis p2 e2 bW bA u H2 S2 bf hu=>?_,λe2 ee H' S ne he=>hE (end_none e2) ee H' S ne he⟩
 obtain⟨e2,ed⟩:=nE e2;obtain⟨r,vs,rfl,iH,R⟩:=hu;refine⟨by show 2<=sizeLine;decide,λq nq=>?_⟩
 have U2:=(ae.refl H2).upd nq (o:=.tup [.str "branch",.ref r]);refine hQ (.wr false (is.map gW)) p2 (by rw[e2,ed];rfl) bW bA _ _ (S2.trans U2.cz) (bf.same U2) ?_
 obtain⟨as,ea,RB⟩:=AD (k:=.pair) rfl R (nD e2);exact⟨q,r,as,rfl,aA,by rw[<-ea];exact U2 _ _ iH,RB.same U2⟩
theorem Lp(T:TD w K mg AR FR base):ax P w K mg base (bG P w) 14 AR.sx FR.yy ["cursor"] (Pu AR.aC AR.bc AR.a_ K):=by
 refine T.Fv.cV ["cursor"] ?_;rintro nd _ A _ s H vs Q E hr ⟨c,ca,N,m,W,p,rfl,cu,aK,wk,hT⟩;refine⟨_,(ak (au (dR (q2 af (T.m3.ca (oI T) hr bh (q2 (pv 0) T.FC.ga)))))),?_⟩
 try dsimp only[aN,aO,aP,Cx.aD,Cx.aI]
 obtain⟨hQ,hE⟩:=hT
 try dsimp only at hQ hE
 refine⟨_,rfl,c,ca,N,m,W,p,.mark,rfl,cu,aK,wk,λis p2 e2 bW bA u H2 S2 bf hu=>?_,λe2 ee H' S ne he=>hE (end_none e2) ee H' S ne he⟩
 obtain⟨e2,ed⟩:=nE e2;obtain⟨r,vs,rfl,iH,R⟩:=hu;refine⟨by show 2<=sizeLine;decide,λq nq=>?_⟩
 have U2:=(ae.refl H2).upd nq (o:=.tup [.str "fence",.ref r]);refine hQ (.mk .fence (is.map gM)) p2 (by rw[e2,ed];rfl) bW bA _ _ (S2.trans U2.cz) (bf.same U2) ?_
 obtain⟨as,ea,RB⟩:=AB (k:=.mark) rfl R (nD e2);exact⟨q,r,as,rfl,aA,by rw[<-ea];exact U2 _ _ iH,RB.same U2⟩
theorem Lr(T:TD w K mg AR FR base):ax P w K mg base (bG P w) 14 AR.sD FR.yD ["cursor"] (PC AR.aC AR.bc AR.a_ K):=by
 refine T.Fx.cV ["cursor"] ?_;rintro nd _ A _ s H vs Q E hr ⟨c,ca,N,m,W,p,rfl,cu,aK,wk,hT⟩;refine⟨_,(ak (au (dR (q2 af (T.m3.ca (oI T) hr bh (q2 (pv 0) T.BE.ga)))))),?_⟩
 try dsimp only[aN,aO,aP,Cx.aD,Cx.aI]
 obtain⟨hQ,hE⟩:=hT
 try dsimp only at hQ hE
 refine⟨_,rfl,c,ca,N,m,W,p,.eA,rfl,cu,aK,wk,λis p2 e2 bW bA u H2 S2 bf hu=>?_,λe2 ee H' S ne he=>hE (end_none e2) ee H' S ne he⟩
 obtain⟨e2,ed⟩:=nE e2;obtain⟨r,vs,rfl,iH,R⟩:=hu;refine⟨by show 2<=sizeLine;decide,λq nq=>?_⟩
 have U2:=(ae.refl H2).upd nq (o:=.tup [.str "room",.ref r]);refine hQ (.mk .room (is.map gM)) p2 (by rw[e2,ed];rfl) bW bA _ _ (S2.trans U2.cz) (bf.same U2) ?_
 obtain⟨as,ea,RB⟩:=AB (k:=.eA) rfl R (nD e2);exact⟨q,r,as,rfl,aA,by rw[<-ea];exact U2 _ _ iH,RB.same U2⟩
theorem acs(T:TD w K mg AR FR base):ax P w K mg base (bG P w) 14 AR.sH FR.yH ["cursor"] (PK AR.aC AR.bc AR.a_ K):=by
 refine T.Rc.cV ["cursor"] ?_;rintro nd _ A _ s H vs Q E hr ⟨c,ca,N,m,W,p,rfl,cu,aK,wk,hT⟩;refine⟨_,(ak (au (dR (q2 af (T.m3.ca (oI T) hr bh (q2 (pv 0) T.BE.ga)))))),?_⟩
 try dsimp only[aN,aO,aP,Cx.aD,Cx.aI]
 obtain⟨hQ,hE⟩:=hT
 try dsimp only at hQ hE
 refine⟨_,rfl,c,ca,N,m,W,p,.eA,rfl,cu,aK,wk,λis p2 e2 bW bA u H2 S2 bf hu=>?_,λe2 ee H' S ne he=>hE (end_none e2) ee H' S ne he⟩
 obtain⟨e2,ed⟩:=nE e2;obtain⟨r,vs,rfl,iH,R⟩:=hu;refine⟨by show 2<=sizeLine;decide,λq nq=>?_⟩
 have U2:=(ae.refl H2).upd nq (o:=.tup [.str "wants",.ref r]);refine hQ (.mk .wants (is.map gM)) p2 (by rw[e2,ed];rfl) bW bA _ _ (S2.trans U2.cz) (bf.same U2) ?_
 obtain⟨as,ea,RB⟩:=AB (k:=.eA) rfl R (nD e2);exact⟨q,r,as,rfl,aA,by rw[<-ea];exact U2 _ _ iH,RB.same U2⟩
theorem Lo(T:TD w K mg AR FR base):ax P w K mg base (bG P w) 10 AR.su FR.yx ["cursor"] (Pt AR.aC AR.bc AR.a_ K):=by
 refine T.Fu.cV ["cursor"] ?_;rintro nd _ A _ s H vs Q E hr ⟨c,ca,N,m,W,p,rfl,cu,aK,wk,hT⟩;refine⟨_,(ak (au (dR (q2 af (T.BK.ca (Em T) hr bh (q1 (pv 0))))))),?_⟩
 try dsimp only[aN,aO,aP,Cx.aD,Cx.aI]
 obtain⟨hQ,hE⟩:=hT
 try dsimp only at hQ hE
 refine⟨_,rfl,c,ca,N,m,W,p,rfl,cu,aK,wk,λmk p2 e2 bW bA u H2 S2 bf hu=>?_,λe2 ee H' S ne he=>hE (by rw[e2];rfl) ee H' S ne he⟩
 obtain⟨a,rfl,na,ha⟩:=hu;rw[rP (k:=.num) (λz=>nomatch z) e2] at ha
 refine⟨by show 2<=sizeLine;decide,λq nq=>?_⟩
 have U2:=(ae.refl H2).upd nq (o:=.tup [.str "fall",.ref a]);exact hQ (.b3 (bU mk)) p2 (by rw[e2];rfl) bW bA _ _ (S2.trans U2.cz) (bf.same U2) ⟨q,a,rfl,aA,U2 _ _ ha⟩
theorem acq(T:TD w K mg AR FR base):ax P w K mg base (bG P w) 10 AR.sF FR.yF ["cursor"] (PF AR.aC AR.bc AR.a_ K):=by
 refine T.Ra.cV ["cursor","part"] ?_;rintro nd _ A _ s H vs Q E hr ⟨c,ca,N,m,W,p,rfl,cu,aK,wk,hT⟩;refine⟨_,(ar (qs 1 nd (T.t_.ca (Ek T) hr bh (q1 (pv 0))))
   (ak (au (dR (q3 af (T.BK.ca (Em T) hr bh (q1 (pv 0))) (pv 1)))))),?_⟩
 try dsimp only[aN,aO,aP,Cx.aD,Cx.aI]
 obtain⟨hQ,hE⟩:=hT;refine⟨_,rfl,c,ca,N,m,W,p,rfl,cu,aK,wk,λv p1 e1 hp mB u H1 S1 aV hu=>?_,λe1 ee H' S ne he=>hE (ae3 e1) ee H' S ne he⟩
 obtain rfl:u=vm v:=hu;obtain⟨n,rfl,eb⟩:=ae4 e1
 try dsimp only[aG]
 refine⟨_,rfl,c,ca,N,m,W,p1,rfl,aV,aK,wk,λmk p2 e2 bW bA u H2 S2 bf hu=>?_,λe2 ee H' S ne he=>hE (by rw[eb,e2];rfl) ee H' (S1.trans S) (S1.free ne aV.has) he⟩
 obtain⟨a,rfl,na,ha⟩:=hu;rw[rP (k:=.num) (λz=>nomatch z) e2] at ha
 refine⟨_,rfl,by show 3<=sizeLine;decide,λq nq=>?_⟩
 have U2:=(ae.refl H2).upd nq (o:=.tup [.str "sum",.ref a,.int (n:Int)]);exact hQ (.sum (bU mk) (n:Int)) p2 (by rw[eb,e2];rfl) (by omega) bA _ _ ((S1.trans S2).trans U2.cz) (bf.same U2) ⟨q,a,rfl,aA,U2 _ _ ha⟩
theorem acm(T:TD w K mg AR FR base):ax P w K mg base (bG P w) 14 AR.sq FR.yw ["cursor"] (Pr AR.aC AR.bc AR.a_ K):=by
 refine T.Q7.cV ["cursor"] ?_;rintro nd _ A _ s H vs Q E hr ⟨c,ca,N,m,W,p,rfl,cu,aK,wk,hT⟩;refine⟨_,(ak (au (dR (q2 af (T.m3.ca (oI T) hr bh (q2 (pv 0) T.t6.ga)))))),?_⟩
 try dsimp only[aN,aO,aP,Cx.aD,Cx.aI]
 obtain⟨hQ,hE⟩:=hT
 try dsimp only at hQ hE
 refine⟨_,rfl,c,ca,N,m,W,p,.dC,rfl,cu,aK,wk,λis p2 e2 bW bA u H2 S2 bf hu=>?_,λe2 ee H' S ne he=>hE (end_none e2) ee H' S ne he⟩
 obtain⟨e2,ed⟩:=nE e2;obtain⟨r,vs,rfl,iH,R⟩:=hu;refine⟨by show 2<=sizeLine;decide,λq nq=>?_⟩
 have U2:=(ae.refl H2).upd nq (o:=.tup [.str "dry",.ref r]);refine hQ (.st true (is.map gI)) p2 (by rw[e2,ed];rfl) bW bA _ _ (S2.trans U2.cz) (bf.same U2) ?_
 have ea:=DG R (nD e2);exact⟨q,r,rfl,aA,by rw[<-ea];exact U2 _ _ iH⟩
theorem acv(T:TD w K mg AR FR base):ax P w K mg base (bG P w) 14 AR.sJ FR.yJ ["cursor"] (PM AR.aC AR.bc AR.a_ K):=by
 refine T.Rg.cV ["cursor"] ?_;rintro nd _ A _ s H vs Q E hr ⟨c,ca,N,m,W,p,rfl,cu,aK,wk,hT⟩;refine⟨_,(ak (au (dR (q2 af (T.m3.ca (oI T) hr bh (q2 (pv 0) T.t6.ga)))))),?_⟩
 try dsimp only[aN,aO,aP,Cx.aD,Cx.aI]
 obtain⟨hQ,hE⟩:=hT
 try dsimp only at hQ hE
 refine⟨_,rfl,c,ca,N,m,W,p,.dC,rfl,cu,aK,wk,λis p2 e2 bW bA u H2 S2 bf hu=>?_,λe2 ee H' S ne he=>hE (end_none e2) ee H' S ne he⟩
 obtain⟨e2,ed⟩:=nE e2;obtain⟨r,vs,rfl,iH,R⟩:=hu;refine⟨by show 2<=sizeLine;decide,λq nq=>?_⟩
 have U2:=(ae.refl H2).upd nq (o:=.tup [.str "wet",.ref r]);refine hQ (.st false (is.map gI)) p2 (by rw[e2,ed];rfl) bW bA _ _ (S2.trans U2.cz) (bf.same U2) ?_
 have ea:=DG R (nD e2);exact⟨q,r,rfl,aA,by rw[<-ea];exact U2 _ _ iH⟩
theorem acn(T:TD w K mg AR FR base):ax P w K mg base (bG P w) 14 AR.sy FR.yz ["cursor"] (Pw AR.aC AR.bc AR.a_ K):=by
 refine T.Q8.cV ["cursor"] ?_;rintro nd _ A _ s H vs Q E hr ⟨c,ca,N,m,W,p,rfl,cu,aK,wk,hT⟩;refine⟨_,(ak (au (dR (q2 af (T.m3.ca (oI T) hr bh (q2 (pv 0) T.FH.ga)))))),?_⟩
 try dsimp only[aN,aO,aP,Cx.aD,Cx.aI]
 obtain⟨hQ,hE⟩:=hT
 try dsimp only at hQ hE
 refine⟨_,rfl,c,ca,N,m,W,p,.gP,rfl,cu,aK,wk,λis p2 e2 bW bA u H2 S2 bf hu=>?_,λe2 ee H' S ne he=>hE (end_none e2) ee H' S ne he⟩
 obtain⟨e2,ed⟩:=nE e2;obtain⟨r,vs,rfl,iH,R⟩:=hu;refine⟨by show 2<=sizeLine;decide,λq nq=>?_⟩
 have U2:=(ae.refl H2).upd nq (o:=.tup [.str "kept",.ref r]);refine hQ (.kept (is.map gR)) p2 (by rw[e2,ed];rfl) bW bA _ _ (S2.trans U2.cz) (bf.same U2) ?_
 exact⟨q,r,vs,rfl,aA,U2 _ _ iH,Paired.eZ (Kh R (nD e2)) λ_ _ h=>h.same U2⟩
theorem acC(T:TD w K mg AR FR base):ax P w K mg base (bG P w) 15 AR.sM FR.rZ ["cursor","forms"] (P9 AR.aC AR.bc AR.a_ AR.pG K):=by
 refine T.ua.cV ["cursor","forms","form"] ?_;rintro nd _ A _ s H vs Q E hr ⟨c,ca,N,m,W,p,rfl,cu,aK,wk,hT⟩;refine⟨_,(ar (qs 2 nd (T.lR.ca (mP T) hr bh (q1 (pv 0))))
   (ar (bu (qp Ew (pv 2) (pv 1)) (ak (eX (T.lQ.ca (mO T) hr bh (q1 (pv 0))))) bw)
   (ak (au (cy (T.Fv.da T.gK (Lp T) hr bh T.gO (pv 2) (q1 (pv 0))) (cy (T.Fx.da T.gK (Lr T) hr bh T.gO (pv 2) (q1 (pv 0))) (T.Fu.da T.gK (Lo T) hr bh T.gO (pv 2) (q1 (pv 0))))))))),?_⟩
 try dsimp only[aN,aO,aP,Cx.aD,Cx.aI]
 obtain⟨hQ,hE⟩:=hT;refine⟨_,rfl,c,ca,N,m,W,p,rfl,cu,aK,λw p1 e1 hp mB v H1 S1 aV hv=>?_,λe1 ee H' S ne he=>hE (by rw[FQ e1];rfl) ee H' S ne he⟩
 obtain rfl:v=V.str w:=hv;obtain⟨ea,hw⟩:=oS wk e1;rw[ea] at hQ hE;unfold ie at hQ hE
 try dsimp only at hQ hE
 try dsimp only[aG]
 refine⟨_,rfl,_,rfl,AR.pG,_,rfl,.inr (T.ZO H1),rfl,(by rfl),_,rfl,?_⟩
 have ei:iI (.str w) [.str (zalias233z "fence"),.str (zalias233z "room"),.str (zalias233z "fall")]=decide (w∈[zalias233z "fence",zalias233z "room",zalias233z "fall"]):=DE (l:=[zalias233z "fence",zalias233z "room",zalias233z "fall"]);rw[ei];by_cases h0:w="fence"
 ·rw[if_pos h0] at hQ hE
  subst h0;refine bt ?_;exact .inl ⟨_,rfl,_,rfl,rfl,rfl,_,rfl,c,ca,N,m,W,p1,rfl,aV,aK,wk,λP p2 e2 bW bA u H2 S2 bf hu=>hQ P p2 e2 (by omega) bA u H2 (S1.trans S2) bf hu,λe2 ee H' S ne he=>hE e2 ee H' (S1.trans S) (S1.free ne aV.has) he⟩
 rw[if_neg h0] at hQ hE;by_cases h1:w="room"
 ·rw[if_pos h1] at hQ hE
  subst h1;refine bt ?_;exact .inr (.inl ⟨_,rfl,_,rfl,rfl,rfl,_,rfl,c,ca,N,m,W,p1,rfl,aV,aK,wk,λP p2 e2 bW bA u H2 S2 bf hu=>hQ P p2 e2 (by omega) bA u H2 (S1.trans S2) bf hu,λe2 ee H' S ne he=>hE e2 ee H' (S1.trans S) (S1.free ne aV.has) he⟩)
 rw[if_neg h1] at hQ hE;by_cases h2:w="fall"
 ·rw[if_pos h2] at hQ hE
  subst h2;refine bt ?_;exact .inr (.inr (⟨_,rfl,_,rfl,rfl,rfl,_,rfl,c,ca,N,m,W,p1,rfl,aV,aK,wk,λP p2 e2 bW bA u H2 S2 bf hu=>hQ P p2 e2 (by omega) bA u H2 (S1.trans S2) bf hu,λe2 ee H' S ne he=>hE e2 ee H' (S1.trans S) (S1.free ne aV.has) he⟩))
 rw[if_neg h2] at hQ hE;rw[decide_eq_false (show ¬ w∈[zalias233z "fence",zalias233z "room",zalias233z "fall"] from λz=>by
  simp only[bE,F8,or_false] at z;rcases z with z|z|z
  ·exact h0 z
  ·exact h1 z
  ·exact h2 z)]
 refine bI ?_;exact⟨_,rfl,c,ca,N,m,W,p1,rfl,aV,aK,λee H' S ne he=>hE rfl ee H' (S1.trans S.cz) (S1.free ne aV.has) he⟩
theorem aco(T:TD w K mg AR FR base):ax P w K mg base (bG P w) 16 AR.sA FR.yA ["cursor"] (Px AR.aC AR.bc AR.a_ K):=by
 refine T.Q9.cV ["cursor","blocks"] ?_;rintro nd _ A _ s H vs Q E hr ⟨c,ca,N,m,W,p,rfl,cu,aK,wk,hT⟩;refine⟨_,(ar (qs 1 nd (bB jV))
   (ar (EE PassesOwn.leaving (ik (fZ (T.By.ca (Ee T) hr aw (q2 (pv 0) af))))
   (ak (eX (fX ph uh ui qz (pv 1) (q1 (T.BH.ca (Lw T) hr bh (q1 (pv 0))))))))
   (ar (eX (T.BJ.ca (El T) hr bh (q2 (pv 0) af)))
   (ak (au (dR (q3 af (pv 1) (T.ua.ca (acC T) hr bh (q2 (pv 0) (qg T.aaG)))))))))),?_⟩
 try dsimp only[aN,aO,aP,Cx.aD,Cx.aI]
 obtain⟨hQ,hE⟩:=hT;unfold tV at hQ hE;have eM:=sizeLine_eq;refine⟨by decide,λr nr=>?_⟩
 have U1:=(ae.refl H).upd nr (o:=.lst []);have g1:=aA (H:=H) (a:=r) (o:=.lst []);have bf:=cu.same U1
 try dsimp only[aG]
 generalize upd H r (.lst [])=H2 at U1 g1 bf ⊢;have rc:r≠c:=λz=>by
  obtain⟨o,ho⟩:=cu.has;rw[z,ho] at nr
  cases nr
 refine FT (λn σ H3=>∃(p2:Nat) (dn:List Itm) (vs:List V),σ=[some (.ref c),some (.ref r)]/\dg c H H3/\bN AR.aC AR.bc H3 c ca N (m:Int) W p2/\H3 r=some (.lst vs)/\Paired (jB c r H3) vs dn/\(∀i∈dn,ou .fe i)/\p<=p2/\vs.length<=p2/\cS N (W.drop p).length (W.drop p)=(cS N (W.drop p2).length (W.drop p2)).map (λx=>(dn.map gW++x.1,x.2))/\n=W.length-p2) ⟨_,p,[],[],rfl,U1.cz,bf,g1,.nil,(λi hi=>nomatch hi),bH _,dy _,by cases cS N (W.drop p).length (W.drop p)<;>rfl,rfl⟩ ?_ (λσ H Q Q' hm ⟨v1,e1,c,ca,N,m,W,p,w,e3,cu,b,e4,q⟩=>⟨v1,e1,c,ca,N,m,W,p,w,e3,cu,b,e4,hm _ _ q⟩)
 rintro n σ H3 ⟨p2,dn,vs,rfl,S3,eC,g3,R3,K3,bW,jm,eF,rfl⟩;refine⟨_,rfl,c,ca,N,m,W,p2,cW,rfl,eC,_,rfl,?_⟩;by_cases hh:(W.drop p2).head?=some cW
 ·rw[decide_eq_true hh]
  refine bt ?_;rw[AN hh,fm,eY] at eF;rw[eF] at hQ hE
  try dsimp only at hQ hE
  refine⟨_,rfl,c,ca,N,m,W,p2,cW,rfl,eC,aK,λu p3 e3 Av mD v H4 S4 lj _=>?_,λe3=>?_⟩
  ·have et:(W.drop p2).tail=W.drop p3:=by
    cases q:W.drop p2 with
    | nil=>rw[q] at hh;cases hh
    | cons a l =>
     rw[q] at e3 hh;unfold kO at e3
     try dsimp only at e3
     rw[if_pos (a6 hh)] at e3;exact(Prod.mk.inj (a6 e3)).2
   rw[et] at hQ hE;refine⟨_,rfl,_,rfl,c,ca,N,m,W,p3,rfl,lj,aK,wk,λP p4 e4 jM YZ u H5 S5 Vp hu=>?_,λe4 ee H' S ne he=>hE (by rw[e4];rfl) ee H' ((S3.trans S4).trans S) ((S3.trans S4).free ne lj.has) he⟩
   refine⟨by show 3<=sizeLine;decide,λq nq=>?_⟩
   have U5:=(ae.refl H5).upd nq (o:=.tup [.str "most",.ref r,u]);have Co:=S4.trans S5;obtain⟨as,VP,RB⟩:=AD (k:=.fe) rfl (Paired.eZ R3 λ_ _ h=>(h.cz Co).is) K3
   exact hQ (.most (dn.map gW) P) p4 (by rw[e4];rfl) (by omega) YZ _ _ ((S3.trans Co).trans U5.cz) (Vp.same U5) ⟨q,r,as,u,rfl,aA,by rw[<-VP];exact U5 _ _ (Co _ _ rc g3),RB.same U5,cD.same U5 hu⟩
  ·exfalso
   cases q:W.drop p2 with
   | nil=>rw[q] at hh;cases hh
   | cons a l =>
    rw[q] at e3 hh;unfold kO at e3
    try dsimp only at e3
    rw[if_pos (a6 hh)] at e3
    cases e3
 ·rw[decide_eq_false hh]
  refine bI ?_;refine⟨_,rfl,.inl ⟨rfl,_,ai.of g3⟩,?_⟩;refine⟨_,rfl,c,ca,N,m,W,p2,rfl,eC,aK,wk,λi p3 e3 Av mD u H4 S4 lj hu=>?_,λe3 ee H' S ne he=>hE (by rw[eF,AO hh e3];rfl) ee H' (S3.trans S) (S3.free ne eC.has) he⟩
  have l3:=wo e3;rw[lY,lY] at l3;have wl:=wk.1;have g4:=S4 _ _ rc g3;have S5:=(S3.trans S4).BP nr (o:=.lst (vs++[u]));refine⟨r,_,_,rfl,rfl,g4,by omega,W.length-p3,by omega,p3,dn++[i],vs++[u],rfl,S5,cu.move S5 ((bg rc.symm).trans lj.1.ob) mD,aA,?_,?_,by omega,by rw[bS,ur];omega,?_,rfl⟩
  ·exact Paired.snoc (Paired.eZ R3 λ_ _ h=>(h.cz S4).upd) ((hu.off eC.has ⟨_,g3⟩).upd)
  ·intro j hj
   rcases dH.mp hj with z|z
   ·exact K3 j z
   ·rw[dc.mp z];exact QE e3
  ·rw[eF,aa1 hh e3]
   cases cS N (W.drop p3).length (W.drop p3) with
   | none=>rfl
   | some x=>simp
theorem acB(T:TD w K mg AR FR base):ax P w K mg base (bG P w) 17 AR.sM FR.rZ ["cursor","forms"] (P8 AR.aC AR.bc AR.a_ AR.pH K):=by
 refine T.ua.cV ["cursor","forms","form"] ?_;rintro nd _ A _ s H vs Q E hr ⟨c,ca,N,m,W,p,rfl,cu,aK,wk,hT⟩;refine⟨_,(ar (qs 2 nd (T.lR.ca (mP T) hr bh (q1 (pv 0))))
   (ar (bu (qp Ew (pv 2) (pv 1)) (ak (eX (T.lQ.ca (mO T) hr bh (q1 (pv 0))))) bw)
   (ak (au (cy (T.Q_.da T.gK (acp T) hr bh T.gO (pv 2) (q1 (pv 0))) (cy (T.Q5.da T.gK (acj T) hr bh T.gO (pv 2) (q1 (pv 0))) (cy (T.Fv.da T.gK (Lp T) hr bh T.gO (pv 2) (q1 (pv 0))) (cy (T.Fx.da T.gK (Lr T) hr bh T.gO (pv 2) (q1 (pv 0))) (cy (T.Rc.da T.gK (acs T) hr bh T.gO (pv 2) (q1 (pv 0))) (cy (T.Fu.da T.gK (Lo T) hr bh T.gO (pv 2) (q1 (pv 0))) (cy (T.Ra.da T.gK (acq T) hr bh T.gO (pv 2) (q1 (pv 0))) (cy (T.Q7.da T.gK (acm T) hr bh T.gO (pv 2) (q1 (pv 0))) (cy (T.Rg.da T.gK (acv T) hr bh T.gO (pv 2) (q1 (pv 0))) (cy (T.Q8.da T.gK (acn T) hr bh T.gO (pv 2) (q1 (pv 0))) (cy (T.Q9.da T.gK (aco T) hr bh T.gO (pv 2) (q1 (pv 0))) (T.Fw.da T.gK (Lq T) hr bh T.gO (pv 2) (q1 (pv 0)))))))))))))))))),?_⟩
 try dsimp only[aN,aO,aP,Cx.aD,Cx.aI]
 obtain⟨hQ,hE⟩:=hT;refine⟨_,rfl,c,ca,N,m,W,p,rfl,cu,aK,λw p1 e1 hp mB v H1 S1 aV hv=>?_,λe1 ee H' S ne he=>hE (by rw[FQ e1];rfl) ee H' S ne he⟩
 obtain rfl:v=V.str w:=hv;obtain⟨ea,hw⟩:=oS wk e1;rw[ea] at hQ hE;rw[LQ] at hQ hE
 try dsimp only[aG]
 refine⟨_,rfl,_,rfl,AR.pH,_,rfl,.inr (T.ZP H1),rfl,(by rfl),_,rfl,?_⟩
 have ei:iI (.str w) (bq tJ)=decide (w∈tJ):=DE (l:=tJ);refine(show if (!iI (.str w) (bq tJ))=true then _ else _ from ?_)
 rw[ei];by_cases h0:w="run"
 ·rw[if_pos h0] at hQ hE
  subst h0;refine bt ?_;exact .inl ⟨_,rfl,_,rfl,rfl,rfl,_,rfl,c,ca,N,m,W,p1,rfl,aV,aK,wk,λP p2 e2 bW bA u H2 S2 bf hu=>hQ (some P) p2 (kE e2) (by omega) bA u H2 (S1.trans S2) bf hu,λe2 ee H' S ne he=>hE (kF e2) ee H' (S1.trans S) (S1.free ne aV.has) he⟩
 rw[if_neg h0] at hQ hE;by_cases h1:w="branch"
 ·rw[if_pos h1] at hQ hE
  subst h1;refine bt ?_;exact .inr (.inl ⟨_,rfl,_,rfl,rfl,rfl,_,rfl,c,ca,N,m,W,p1,rfl,aV,aK,wk,λP p2 e2 bW bA u H2 S2 bf hu=>hQ (some P) p2 (kE e2) (by omega) bA u H2 (S1.trans S2) bf hu,λe2 ee H' S ne he=>hE (kF e2) ee H' (S1.trans S) (S1.free ne aV.has) he⟩)
 rw[if_neg h1] at hQ hE;by_cases h2:w="fence"
 ·rw[if_pos h2] at hQ hE
  subst h2;refine bt ?_;exact .inr (.inr (.inl ⟨_,rfl,_,rfl,rfl,rfl,_,rfl,c,ca,N,m,W,p1,rfl,aV,aK,wk,λP p2 e2 bW bA u H2 S2 bf hu=>hQ (some P) p2 (kE e2) (by omega) bA u H2 (S1.trans S2) bf hu,λe2 ee H' S ne he=>hE (kF e2) ee H' (S1.trans S) (S1.free ne aV.has) he⟩))
 rw[if_neg h2] at hQ hE;by_cases h3:w="room"
 ·rw[if_pos h3] at hQ hE
  subst h3;refine bt ?_;exact .inr (.inr (.inr (.inl ⟨_,rfl,_,rfl,rfl,rfl,_,rfl,c,ca,N,m,W,p1,rfl,aV,aK,wk,λP p2 e2 bW bA u H2 S2 bf hu=>hQ (some P) p2 (kE e2) (by omega) bA u H2 (S1.trans S2) bf hu,λe2 ee H' S ne he=>hE (kF e2) ee H' (S1.trans S) (S1.free ne aV.has) he⟩)))
 rw[if_neg h3] at hQ hE;by_cases h4:w="wants"
 ·rw[if_pos h4] at hQ hE
  subst h4;refine bt ?_;exact .inr (.inr (.inr (.inr (.inl ⟨_,rfl,_,rfl,rfl,rfl,_,rfl,c,ca,N,m,W,p1,rfl,aV,aK,wk,λP p2 e2 bW bA u H2 S2 bf hu=>hQ (some P) p2 (kE e2) (by omega) bA u H2 (S1.trans S2) bf hu,λe2 ee H' S ne he=>hE (kF e2) ee H' (S1.trans S) (S1.free ne aV.has) he⟩))))
 rw[if_neg h4] at hQ hE;by_cases h5:w="fall"
 ·rw[if_pos h5] at hQ hE
  subst h5;refine bt ?_;exact .inr (.inr (.inr (.inr (.inr (.inl ⟨_,rfl,_,rfl,rfl,rfl,_,rfl,c,ca,N,m,W,p1,rfl,aV,aK,wk,λP p2 e2 bW bA u H2 S2 bf hu=>hQ (some P) p2 (kE e2) (by omega) bA u H2 (S1.trans S2) bf hu,λe2 ee H' S ne he=>hE (kF e2) ee H' (S1.trans S) (S1.free ne aV.has) he⟩)))))
 rw[if_neg h5] at hQ hE;by_cases h6:w="sum"
 ·rw[if_pos h6] at hQ hE
  subst h6;refine bt ?_;exact .inr (.inr (.inr (.inr (.inr (.inr (.inl ⟨_,rfl,_,rfl,rfl,rfl,_,rfl,c,ca,N,m,W,p1,rfl,aV,aK,wk,λP p2 e2 bW bA u H2 S2 bf hu=>hQ (some P) p2 (kE e2) (by omega) bA u H2 (S1.trans S2) bf hu,λe2 ee H' S ne he=>hE (kF e2) ee H' (S1.trans S) (S1.free ne aV.has) he⟩))))))
 rw[if_neg h6] at hQ hE;by_cases h7:w="dry"
 ·rw[if_pos h7] at hQ hE
  subst h7;refine bt ?_;exact .inr (.inr (.inr (.inr (.inr (.inr (.inr (.inl ⟨_,rfl,_,rfl,rfl,rfl,_,rfl,c,ca,N,m,W,p1,rfl,aV,aK,wk,λP p2 e2 bW bA u H2 S2 bf hu=>hQ (some P) p2 (kE e2) (by omega) bA u H2 (S1.trans S2) bf hu,λe2 ee H' S ne he=>hE (kF e2) ee H' (S1.trans S) (S1.free ne aV.has) he⟩)))))))
 rw[if_neg h7] at hQ hE;by_cases h8:w="wet"
 ·rw[if_pos h8] at hQ hE
  subst h8;refine bt ?_;exact .inr (.inr (.inr (.inr (.inr (.inr (.inr (.inr (.inl ⟨_,rfl,_,rfl,rfl,rfl,_,rfl,c,ca,N,m,W,p1,rfl,aV,aK,wk,λP p2 e2 bW bA u H2 S2 bf hu=>hQ (some P) p2 (kE e2) (by omega) bA u H2 (S1.trans S2) bf hu,λe2 ee H' S ne he=>hE (kF e2) ee H' (S1.trans S) (S1.free ne aV.has) he⟩))))))))
 rw[if_neg h8] at hQ hE;by_cases h9:w="kept"
 ·rw[if_pos h9] at hQ hE
  subst h9;refine bt ?_;exact .inr (.inr (.inr (.inr (.inr (.inr (.inr (.inr (.inr (.inl ⟨_,rfl,_,rfl,rfl,rfl,_,rfl,c,ca,N,m,W,p1,rfl,aV,aK,wk,λP p2 e2 bW bA u H2 S2 bf hu=>hQ (some P) p2 (kE e2) (by omega) bA u H2 (S1.trans S2) bf hu,λe2 ee H' S ne he=>hE (kF e2) ee H' (S1.trans S) (S1.free ne aV.has) he⟩)))))))))
 rw[if_neg h9] at hQ hE;by_cases pY:w="most"
 ·rw[if_pos pY] at hQ hE
  subst pY;refine bt ?_;exact .inr (.inr (.inr (.inr (.inr (.inr (.inr (.inr (.inr (.inr (.inl ⟨_,rfl,_,rfl,rfl,rfl,_,rfl,c,ca,N,m,W,p1,rfl,aV,aK,wk,λP p2 e2 bW bA u H2 S2 bf hu=>hQ (some P) p2 (kE e2) (by omega) bA u H2 (S1.trans S2) bf hu,λe2 ee H' S ne he=>hE (kF e2) ee H' (S1.trans S) (S1.free ne aV.has) he⟩))))))))))
 rw[if_neg pY] at hQ hE;by_cases Am:w="none"
 ·rw[if_pos Am] at hQ hE
  subst Am;refine bt ?_;exact .inr (.inr (.inr (.inr (.inr (.inr (.inr (.inr (.inr (.inr (.inr (⟨_,rfl,_,rfl,rfl,rfl,_,rfl,c,rfl,hQ none p1 rfl hp mB _ H1 S1 aV rfl⟩)))))))))))
 rw[if_neg Am] at hQ hE;rw[decide_eq_false (show ¬ w∈tJ from λz=>by
  simp only[tJ,bE,F8,or_false] at z;rcases z with z|z|z|z|z|z|z|z|z|z|z|z
  all_goals first|exact h0 z|exact h1 z|exact h2 z|exact h3 z|exact h4 z|exact h5 z|exact h6 z|exact h7 z|exact h8 z|exact h9 z|exact pY z|exact Am z)]
 refine bI ?_;exact⟨_,rfl,c,ca,N,m,W,p1,rfl,aV,aK,λee H' S ne he=>hE rfl ee H' (S1.trans S.cz) (S1.free ne aV.has) he⟩
theorem K9(T:TD w K mg AR FR base):ax P w K mg base a8 5 AR.zo FR.xA ["net","doors"] (OA AR.aC K):=by
 refine T.Fd.bz ["net","doors"] ?_;rintro nd _ A _ s H vs Q E hr ⟨x,dx,b,d,t,g,f,p,ts,gs,N,ds,rfl,n,hp,l1,hQ⟩;refine⟨_,(ak (au (qb (lh rfl) T.j1 lg (q1 (qm ["door","net"] [0] (cT (pv 1)) λ_=>(v3 lI LG ah (pv 0) (ql (qf (pv 1)) T.dG))))))),?_⟩
 try dsimp only[aN,aO,aP,Cx.aD,Cx.aI]
 refine⟨_,rfl,p,rfl,⟨_,hp⟩,?_⟩;refine rS (K:=K) (τ:=[some (.ref x)]) (λd=>decide (0<=d)&&decide (d<(N.az.length:Int))) hp (kr ds) l1 (λB v c H2 hc hF S Q' hq=>?_) ?_
 ·subst hF
  have n2:=n.same S;have h:=hq H2 (ae.refl _);refine⟨_,rfl,_,_,rfl,rfl,_,rfl,?_⟩;refine dZ (λe=>?_) (λe=>?_)
  ·refine⟨_,rfl,x,_,dx,_,_,rfl,n2.ob,T.c9,T.gZ,rfl,d,_,rfl,.inl (ai.of n2.hd),_,_,rfl,rfl,?_⟩
   rw[aH];rw[decide_eq_true e,uk] at h;exact h
  ·rw[decide_eq_false e,o_] at h
   exact h
 ·intro H2 S q nq
  refine⟨q,_,rfl,ai.of aA,?_⟩;rw[rJ];exact hQ _ (S.upd nq)
theorem Lu(T:TD w K mg AR FR base):ax P w K mg base a8 6 AR.nM FR.yO ["net","paper"] (PU AR.aC K):=by
 refine T.Fz.bz ["net","paper"] ?_;rintro nd _ A _ s H vs Q E hr ⟨x,dx,b,d,t,g,f,p,l,ts,gs,as,N,us,bs,rfl,n,hp,a1,hl,R,l1,l2,hQ⟩;refine⟨_,(ak (au (qb (lh rfl) T.j1 lg (q1 (tL (N':=["many","doors","net"]) (nt:=2) (caps:=[0]) _ _ (gQ.of (by kernel_rfl)) (cT (qx aW (pv 1) ah)) (λ_=>(Ba (by rfl) (oJ (i_ (i:=0) ["many","doors","net"] (by decide +kernel) (by rfl)) (oJ (i_ (i:=1) ["many","doors","net"] (by decide +kernel) (by rfl)) Bb)))) (λ_=>kG) (λ_=>(fH (qc Es (pv 0) ah) (g6 (T.Fd.ca (K9 T) hr aw (q2 (pv 2) (pv 1))))))))))),?_⟩
 try dsimp only[aN,aO,aP,Cx.aD,Cx.aI]
 refine⟨_,rfl,p,_,_,_,rfl,rfl,hp,a1,l,rfl,⟨_,ai.of hl⟩,?_⟩;refine HH (K:=K) (τ:=[some (.ref x)]) (λc=>.bl (decide (c.1≥0)&&uT N.az.length c.2)) (ai.of hl) R l1 (λB q c H2 hc e2 S Q' hq=>?_) ?_
 ·refine⟨_,rfl,_,_,rfl,rfl,_,rfl,?_⟩
  refine dZ (λe=>?_) (λe=>?_)
  ·refine⟨_,rfl,_,rfl,x,dx,b,d,t,g,f,q,ts,gs,N,c.2,rfl,n.same S,ai.of (S _ _ e2),l2 c hc,λH3 S3=>?_⟩
   have h:=hq H3 S3;rw[decide_eq_true e,uk] at h;exact h
  ·have h:=hq H2 (ae.refl _)
   rw[decide_eq_false e,o_] at h;exact h
 ·intro H2 S q nq
  refine⟨q,bs.map λc=>decide (c.1≥0)&&uT N.az.length c.2,rfl,ai.of (by rw[aA,ek];rfl),?_⟩
  rw[rJ];exact hQ _ (S.upd nq)
theorem abP(T:TD w K mg AR FR base):ax P w K mg base a8 6 AR.nJ FR.xH ["net","paper"] (OH AR.aC K):=by
 refine T.QM.bz ["net","paper"] ?_;rintro nd _ A _ s H vs Q E hr ⟨x,dx,b,d,t,g,f,p,l,ts,gs,as,N,us,bs,rfl,n,hp,a1,hl,R,l1,hQ⟩;refine⟨_,(ak (au (T.Fd.ca (K9 T) hr aw (q2 (pv 0) (tL (N':=["door","loops"]) (nt:=2) (caps:=[]) _ _ (gQ.of (by kernel_rfl)) (cT (qx aW (pv 1) ah)) (λ_=>(Ba (by rfl) (oJ (i_ (i:=0) ["door","loops"] (by decide +kernel) (by rfl)) (oJ (i_ (i:=1) ["door","loops"] (by decide +kernel) (by rfl)) Bb)))) (λ_=>kG) (λ_=>(pv 0))))))),?_⟩
 try dsimp only[aN,aO,aP,Cx.aD,Cx.aI]
 refine⟨_,rfl,_,rfl,p,_,_,_,rfl,rfl,hp,a1,l,rfl,⟨_,ai.of hl⟩,?_⟩;refine HH (K:=K) (τ:=[]) (λc=>.int c.1) (ai.of hl) R l1 (λB q c H2 hc e2 S Q' hq=>⟨_,rfl,hq H2 (ae.refl _)⟩) ?_
 intro H2 S q nq;refine⟨x,dx,b,d,t,g,f,q,ts,gs,N,bs.map λc:Int×List Int=>c.1,rfl,n.same (S.upd nq),ai.of (by rw[aA,aQ,ek];rfl),by rw[aH];exact l1,λH3 S3=>hQ _ ((S.upd nq).trans S3)⟩
theorem Lc(T:TD w K mg AR FR base):ax P w K mg base a8 5 AR.zy FR.xP ["net","bag"] (OP AR.aC K):=by
 refine T.Fh.bz ["net","bag"] ?_;rintro nd _ A _ s H vs Q E hr ⟨x,dx,b,d,t,g,f,p,ts,gs,N,us,rfl,n,hp,hQ⟩;refine⟨_,(ak (au (qc bX (ql (pv 1) T.dG) (ql (qf (pv 0)) T.dG)))),?_⟩
 try dsimp only[aN,aO,aP,Cx.aD,Cx.aI]
 refine⟨_,rfl,p,_,rfl,.inl hp,_,rfl,x,_,dx,_,_,rfl,n.ob,T.c9,T.gy,rfl,b,_,rfl,.inl (ai.of n.hb),rfl,?_⟩;rw[aH];have e:decide (V.int (us.length:Int)=V.int (N.aa.length:Int))=decide (us.length=N.aa.length):=decide_eq_decide.mpr ⟨λh=>by injection h with h;exact R5 h,λh=>by rw[h]⟩
 rw[e];exact hQ
theorem abS(T:TD w K mg AR FR base):ax P w K mg base a8 6 AR.zw FR.xN ["net","mark"] (ON AR.aC K):=by
 refine T.QP.bz ["net","mark"] ?_;rintro nd _ A _ s H vs Q E hr ⟨x,dx,b,d,t,g,f,p,ts,gs,N,m,rfl,n,hp,l1,hQ⟩;refine⟨_,(ak (au (fH (T.Fh.ca (Lc T) hr aw (q2 (pv 0) (pv 1))) (g6 (qb (lh rfl) T.j1 lg (q1 (qm ["number"] [] (cT (pv 1)) λ_=>(LZ (qc i7 (pv 0) fj) (g6 (qc Es (pv 0) ah)))))))))),?_⟩
 try dsimp only[aN,aO,aP,Cx.aD,Cx.aI]
 refine⟨_,rfl,_,rfl,x,dx,b,d,t,g,f,p,ts,gs,N,_,rfl,n,hp,_,rfl,?_⟩;rw[aH];refine dZ (λe=>?_) (λe=>?_)
 ·refine⟨_,rfl,p,rfl,⟨_,hp⟩,?_⟩
  refine rS (K:=K) (τ:=[]) D9 hp (AM m) l1 (λB v c H2 hc hF S Q' hq=>?_) ?_
  ·subst hF
   have h:=hq H2 (ae.refl _);refine⟨_,rfl,rfl,_,rfl,?_⟩
   cases c with
   | none=>exact bI h
   | some k=>exact bt ⟨_,rfl,_,_,rfl,rfl,h⟩
  ·intro H2 S q nq
   refine⟨q,_,rfl,ai.of aA,?_⟩;rw[rJ];have h:=hQ _ (S.upd nq (o:=.lst ((m.map D9).map V.bl)));unfold jR at h;rw[decide_eq_true e,uk] at h;exact h
 ·have h:=hQ H (ae.refl _)
  unfold jR at h;rw[decide_eq_false e,o_] at h;exact h
theorem Eh(T:TD w K mg AR FR base):ax P w K mg base a8 7 AR.jg FR.ym ["net","paper"] (Pe AR.aC K):=by
 refine T.BB.bz ["net","paper"] ?_;rintro nd _ A _ s H vs Q E hr ⟨x,dx,b,d,t,g,f,p,l,ts,gs,as,N,us,ms,rfl,n,hp,a1,hl,R,l1,l2,hQ⟩;refine⟨_,(ak (au (qb (lh rfl) T.j1 lg (q1 (qm ["mark","net"] [0] (cT (qx aW (pv 1) ah)) λ_=>(T.QP.ca (abS T) hr aw (q2 (pv 1) (pv 0)))))))),?_⟩
 try dsimp only[aN,aO,aP,Cx.aD,Cx.aI]
 refine⟨_,rfl,p,_,_,_,rfl,rfl,hp,a1,l,rfl,⟨_,ai.of hl⟩,?_⟩;refine rS (K:=K) (τ:=[some (.ref x)]) (jR N.aa.length) (ai.of hl) (jW R) l1 (λB v c H2 hc hF S Q' hq=>?_) ?_
 ·obtain⟨q,rfl,e⟩:=hF
  exact⟨_,rfl,_,rfl,x,dx,b,d,t,g,f,q,ts,gs,N,c,rfl,n.same S,ai.of (S _ _ e),l2 c hc,hq⟩
 ·intro H2 S q nq
  refine⟨q,_,rfl,ai.of aA,?_⟩;rw[rJ];exact hQ _ (S.upd nq)
theorem K_(T:TD w K mg AR FR base):ax P w K mg base a8 8 AR.ia FR.xD ["net","paper"] (OD AR.aC K):=by
 refine T.Fe.bz ["net","paper"] ?_;rintro nd _ A _ s H vs Q E hr ⟨x,dx,b,d,t,g,f,p,l,ts,gs,as,N,us,ms,rfl,n,hp,a1,hl,R,l1,l2,hQ⟩;refine⟨_,(ak (au (fH (T.BB.ca (Eh T) hr aw (q2 (pv 0) (pv 1))) (g6 (v8 (qb (UP rfl) T.F1 Ux (q1 (qm ["beads"] [] (cT (qx aW (pv 1) ah)) λ_=>(qc LF fj (pv 0)))))))))),?_⟩
 try dsimp only[aN,aO,aP,Cx.aD,Cx.aI]
 refine⟨_,rfl,_,rfl,x,dx,b,d,t,g,f,p,l,ts,gs,as,N,us,ms,rfl,n,hp,a1,hl,R,l1,l2,λH1 S1=>⟨_,rfl,?_⟩⟩
 cases e:tq N.aa.length ms with
 | true =>
  refine bI ?_;refine⟨_,rfl,p,_,_,_,rfl,rfl,S1.Ol hp,a1,l,rfl,⟨_,ai.of (S1 _ _ hl)⟩,?_⟩;refine rS (K:=K) (τ:=[]) vS (ai.of (S1 _ _ hl)) (jW R) l1 (λB v c H2 hc hF S Q' hq=>?_) ?_
  ·obtain⟨q,rfl,e⟩:=hF
   have h:=hq H2 (ae.refl _);rw[<-Rp] at h;exact⟨_,rfl,q,_,rfl,.inl (ai.of (S _ _ (S1 _ _ e))),rfl,Wh c,h⟩
  ·intro H2 S q nq
   refine⟨q,_,rfl,ai.of aA,_,rfl,?_⟩;rw[Tu];have h:=hQ _ (S1.trans (S.upd nq (o:=.lst ((ms.map vS).map V.bl))));unfold pN at h;rw[e,uk] at h;exact h
 | false =>
  have h:=hQ H1 S1;refine bt ?_;unfold pN at h;rw[e,o_] at h;exact h
theorem En(T:TD w K mg AR FR base):ax P w K mg base a8 6 AR.ib FR.za ["net","paper"] (Qj AR.aC K):=by
 refine T.BL.bz ["net","paper"] ?_;rintro nd _ A _ s H vs Q E hr ⟨x,dx,b,d,t,g,f,p,l,ts,gs,N,us,ws,rfl,n,hp,a1,hl,hQ⟩;refine⟨_,(ak (au (T.Fh.ca (Lc T) hr aw (q2 (pv 0) (qx aW (pv 1) ah))))),?_⟩
 try dsimp only[aN,aO,aP,Cx.aD,Cx.aI]
 refine⟨_,rfl,_,rfl,p,_,_,_,rfl,rfl,hp,a1,x,dx,b,d,t,g,f,l,ts,gs,N,_,rfl,n,ai.of hl,?_⟩;rw[ig];exact hQ
theorem Lv(T:TD w K mg AR FR base):ax P w K mg base a8 5 AR.kj FR.yP ["net","paper"] (PV AR.aC K):=by
 refine T.FA.bz ["net","paper","bowls"] ?_;rintro nd _ A _ s H vs Q E hr ⟨x,dx,b,d,t,g,f,p,l,ts,gs,N,us,bs,rfl,n,b6,hp,a1,hl,l1,hQ⟩;refine⟨_,(ar (qs 2 nd (qx aW (pv 1) ah))
   (ak (au (fH (qb (lh rfl) T.j1 lg (q1 (qm ["bowl","net"] [0] (cT (pv 2)) λ_=>(v3 lI LG ah (pv 0) (ql (qf (pv 1)) T.dG))))) (g6 (qc (Er hr.FI) (pv 2) (qb (UY rfl) T.F2 Uy (q1 (qy (UW rfl) T.BU Hr (q1 (pv 2))))))))))),?_⟩
 try dsimp only[aN,aO,aP,Cx.aD,Cx.aI]
 refine⟨_,rfl,p,_,_,_,rfl,rfl,hp,a1,?_⟩;refine⟨_,rfl,l,rfl,⟨_,ai.of hl⟩,?_⟩;refine rS (K:=K) (τ:=[some (.ref x)]) (λd=>decide (0<=d)&&decide (d<(N.aa.length:Int))) (ai.of hl) (kr bs) l1 (λB v c H2 hc hF S Q' hq=>?_) ?_
 ·subst hF
  have n2:=n.same S;have h:=hq H2 (ae.refl _);refine⟨_,rfl,_,_,rfl,rfl,_,rfl,?_⟩;refine dZ (λe=>?_) (λe=>?_)
  ·refine⟨_,rfl,x,_,dx,_,_,rfl,n2.ob,T.c9,T.gy,rfl,b,_,rfl,.inl (ai.of n2.hb),_,_,rfl,rfl,?_⟩
   rw[aH];rw[decide_eq_true e,uk] at h;exact h
  ·rw[decide_eq_false e,o_] at h
   exact h
 ·intro H2 S q nq
  refine⟨q,_,rfl,ai.of aA,_,rfl,?_⟩;rw[rJ];have S1:=S.upd nq (o:=.lst ((bs.map λd=>decide (0<=d)&&decide (d<(N.aa.length:Int))).map V.bl))
  generalize upd H2 q (.lst ((bs.map λd=>decide (0<=d)&&decide (d<(N.aa.length:Int))).map V.bl))=H3 at S1 ⊢
  cases e:(bs.all λd=>decide (0<=d)&&decide (d<(N.aa.length:Int))) with
  | false =>
   have h:=hQ H3 S1;unfold mW at h;rw[e,o_] at h;exact bt h
  | true =>
   have hb:∀y∈bs,0<=y/\y<6:=λy hy=>by
    have:=e_.mp e y hy;rw[de,decide_eq_true_eq,decide_eq_true_eq] at this;omega
   refine bI ⟨_,rfl,_,rfl,l,bs,rfl,ai.of (S1 _ _ hl),l1,hb,λls nd hm q2 oF=>?_⟩
   have S2:=(ae.refl H3).upd oF (o:=Bk P w q2 ls);have lb:ls.length<64:=by
    rw[(Mb nd hm hb).length_eq];exact F9 (aau bs) (by decide)
   refine⟨q2,ls,rfl,aA,lb,λns pn sn q3 nq3=>?_⟩
   have S3:=S2.upd nq3 (o:=.lst (aQ ns));refine⟨l,q3,bs,ns,rfl,rfl,ai.of (S3 _ _ (S1 _ _ hl)),ai.of aA,?_⟩;rw[EY nd hm hb pn sn];have h:=hQ _ (S1.trans S3);unfold mW at h;rw[e,uk,<-EY nd hm hb pn sn] at h;rw[<-EY nd hm hb pn sn];exact h
theorem acw(T:TD w K mg AR FR base):ax P w K mg base a8 7 AR.z8 FR.yK ["net","reason"] (PN AR.aC K):=by
 refine T.Rh.bz ["net","reason"] ?_;rintro nd _ A _ s H vs Q E hr ⟨x,dx,b,d,t,g,f,p,l,ts,gs,N,k,bs,rfl,n,b6,hp,hl,l1,hQ⟩;refine⟨_,(ar (bu (qp bX (qx aW (pv 1) ah) af) (ak (au (T.FA.ca (Lv T) hr aw (q2 (pv 0) (pv 1))))) bw)
   (ak (au (fH (qc bX (qx aW (pv 1) ah) af) (g6 (T.BL.ca (En T) hr aw (q2 (pv 0) (pv 1)))))))),?_⟩
 try dsimp only[aN,aO,aP,Cx.aD,Cx.aI]
 refine⟨_,rfl,p,_,_,_,rfl,rfl,av.of hp,rfl,rfl,_,rfl,?_⟩
 cases k with
 | true =>
  refine bI ?_;exact⟨_,rfl,_,rfl,x,dx,b,d,t,g,f,p,l,ts,gs,N,_,bs,rfl,n,b6,av.of hp,rfl,hl,l1,hQ⟩
 | false =>
  refine bt ?_;refine⟨_,rfl,p,_,_,_,rfl,rfl,av.of hp,rfl,rfl,_,rfl,?_⟩;refine bI ?_;exact⟨_,rfl,_,rfl,x,dx,b,d,t,g,f,p,l,ts,gs,N,_,bs,rfl,n,av.of hp,rfl,hl,hQ H (ae.refl _)⟩
theorem abU(T:TD w K mg AR FR base):ax P w K mg base a8 8 AR.nK FR.xQ ["net","paper"] (OQ AR.aC K):=by
 refine T.QR.bz ["net","paper"] ?_;rintro nd _ A _ s H vs Q E hr ⟨x,dx,b,d,t,g,f,p,l,ts,gs,N,us,ws,rs,rfl,n,b6,hp,a1,hl,R,l1,l2,hQ⟩;refine⟨_,(ak (au (qb (lh rfl) T.j1 lg (q1 (qm ["reason","net"] [0] (cT (qx aW (pv 1) ah)) λ_=>(LZ (qc i7 (pv 0) fj) (g6 (T.Rh.ca (acw T) hr aw (q2 (pv 1) (pv 0)))))))))),?_⟩
 try dsimp only[aN,aO,aP,Cx.aD,Cx.aI]
 refine⟨_,rfl,p,_,_,_,rfl,rfl,hp,a1,l,rfl,⟨_,ai.of hl⟩,?_⟩;refine rS (K:=K) (τ:=[some (.ref x)]) (oN N.aa.length) (ai.of hl) R l1 (λB v c H2 hc hF S Q' hq=>?_) ?_
 ·refine⟨_,rfl,rfl,_,rfl,?_⟩
  cases c with
  | no =>
   obtain rfl:v=V.aR:=hF;exact bI (hq H2 (ae.refl _))
  | yes k bs =>
   obtain⟨a,l',rfl,h1,h2⟩:=hF;exact bt ⟨_,rfl,_,rfl,x,dx,b,d,t,g,f,a,l',ts,gs,N,k,bs,rfl,n.same S,b6,S _ _ h1,S _ _ h2,l2 k bs hc,hq⟩
 ·intro H2 S q nq
  refine⟨q,_,rfl,ai.of aA,?_⟩;rw[rJ];exact hQ _ (S.upd nq)
theorem acd(T:TD w K mg AR FR base):ax P w K mg base a8 9 AR.nL FR.yn ["net","paper"] (Pf AR.aC K):=by
 refine T.Q0.bz ["net","paper"] ?_;rintro nd _ A _ s H vs Q E hr ⟨x,dx,b,d,t,g,f,p,ts,gs,N,bs,q,rfl,n,b6,hP,fit,hQ⟩;refine⟨_,(ak (au (fH (T.Fz.ca (Lu T) hr aw (q2 (pv 0) (pv 1))) (fH (qc (LD T.zd) (qx aW (qx aW (pv 1) ah) ah) (qg T.AK)) (g6 (cy (T.BB.da T.zd (Eh T) hr aw T.AK (qx aW (qx aW (pv 1) ah) ah) (q2 (pv 0) (qx aW (pv 1) ah))) (cy (T.Fe.da T.zd (K_ T) hr aw T.AK (qx aW (qx aW (pv 1) ah) ah) (q2 (pv 0) (qx aW (pv 1) ah))) (T.BL.da T.zd (En T) hr aw T.AK (qx aW (qx aW (pv 1) ah) ah) (q2 (pv 0) (qx aW (pv 1) ah)))))))))),?_⟩
 try dsimp only[aN,aO,aP,Cx.aD,Cx.aI]
 obtain⟨a,l,as,u,e0,h1,h2,h3,h4⟩:=hP
 cases e0;obtain⟨f1,f2,f3⟩:=fit;refine⟨_,rfl,_,rfl,x,dx,b,d,t,g,f,p,l,ts,gs,as,N,_,bs,rfl,n,av.of h1,rfl,h2,h3,f1,f2,λH1 S1=>⟨_,rfl,?_⟩⟩
 have n1:=n.same S1;have h:=λH2 (S2:ae H1 H2)=>hQ H2 (S1.trans S2)
 cases e:oO N.az.length bs with
 | false =>
  have h:=h H1 (ae.refl _);rw[show lT N.aa.length N.az.length (.most bs q)=(oO N.az.length bs&&sX N.aa.length q) from rfl,e,o_] at h
  exact bt h
 | true =>
  rw[show lT N.aa.length N.az.length (.most bs q)=(oO N.az.length bs&&sX N.aa.length q) from rfl,e,uk] at h
  refine bI ?_;have q1:=h4.same S1;obtain⟨c,l',r,rfl,ht⟩:=q1.top;have ej:=S1 _ _ h1;have a0:bT (V.str (bK q)::V.ref l'::r) 0=some (.str (bK q)):=c7 (j:=0) rfl;refine⟨_,rfl,p,_,_,_,rfl,rfl,av.of ej,rfl,c,_,_,_,rfl,rfl,av.of ht,a0,_,rfl,rfl,_,rfl,?_⟩;rw[GV];have go:∀ff,EC AR.jg AR.ia AR.ib q=some ff->nh [("fence",AR.jg),("room",AR.ia),("fall",AR.ib)] (bK q)=some ff:=λff e=>by rw[GV];exact e
  have no:EC AR.jg AR.ia AR.ib q=none->sX N.aa.length q=false->Q (.bl false) H1:=λ_ e=>by
   have h:=h H1 (ae.refl _);rw[e] at h;exact h
  cases q with
  | mk k ms =>
   obtain⟨a2,l2,dY,e2,k1,k2,k3⟩:=q1
   cases e2
   cases k with
   | fence=>exact bI (.inl ⟨_,rfl,p,_,_,_,rfl,rfl,av.of ej,rfl,c,_,_,_,rfl,rfl,av.of ht,a0,_,rfl,rfl,go _ rfl,_,rfl,_,rfl,p,_,_,_,rfl,rfl,av.of ej,rfl,x,dx,b,d,t,g,f,c,l2,ts,gs,dY,N,_,ms,rfl,n1,av.of k1,rfl,k2,k3,f3.1,f3.2,h⟩)
   | room=>exact bI (.inr (.inl ⟨_,rfl,p,_,_,_,rfl,rfl,av.of ej,rfl,c,_,_,_,rfl,rfl,av.of ht,a0,_,rfl,rfl,go _ rfl,_,rfl,_,rfl,p,_,_,_,rfl,rfl,av.of ej,rfl,x,dx,b,d,t,g,f,c,l2,ts,gs,dY,N,_,ms,rfl,n1,av.of k1,rfl,k2,k3,f3.1,f3.2,h⟩))
   | wants=>exact bt (no rfl rfl)
  | b3 ws =>
   obtain⟨a2,l2,e2,k1,k2⟩:=q1
   cases e2;exact bI (.inr (.inr ⟨_,rfl,p,_,_,_,rfl,rfl,av.of ej,rfl,c,_,_,_,rfl,rfl,av.of ht,a0,_,rfl,rfl,go _ rfl,_,rfl,_,rfl,p,_,_,_,rfl,rfl,av.of ej,rfl,x,dx,b,d,t,g,f,c,l2,ts,gs,N,_,ws,rfl,n1,av.of k1,rfl,k2,h H1 (ae.refl _)⟩))
  | wr r bs=>exact bt (no rfl rfl)
  | sum ws v=>exact bt (no rfl rfl)
  | st v bs=>exact bt (no rfl rfl)
  | kept rs=>exact bt (no rfl rfl)
  | most bs q=>exact bt (no rfl rfl)
theorem acJ(T:TD w K mg AR FR base):ax P w K mg base a8 10 AR.Ag FR.zc ["net","paper"] (Ql AR.aC K):=by
 refine T.Rm.bz ["net","paper"] ?_;rintro nd _ A _ s H vs Q E hr ⟨x,dx,b,d,t,g,f,p,ts,gs,N,P,rfl,n,b6,hP,fit,hQ⟩;refine⟨_,(ak (au (fH (qc (LD T.mf) (qx aW (pv 1) ah) (qg T.mH)) (g6 (cy (T.Fz.da T.mf (Lu T) hr aw T.mH (qx aW (pv 1) ah) (q2 (pv 0) (pv 1))) (cy (T.QM.da T.mf (abP T) hr aw T.mH (qx aW (pv 1) ah) (q2 (pv 0) (pv 1))) (cy (T.BB.da T.mf (Eh T) hr aw T.mH (qx aW (pv 1) ah) (q2 (pv 0) (pv 1))) (cy (T.Fe.da T.mf (K_ T) hr aw T.mH (qx aW (pv 1) ah) (q2 (pv 0) (pv 1))) (cy (T.BL.da T.mf (En T) hr aw T.mH (qx aW (pv 1) ah) (q2 (pv 0) (pv 1))) (cy (T.FA.da T.mf (Lv T) hr aw T.mH (qx aW (pv 1) ah) (q2 (pv 0) (pv 1))) (cy (T.QR.da T.mf (abU T) hr aw T.mH (qx aW (pv 1) ah) (q2 (pv 0) (pv 1))) (T.Q0.da T.mf (acd T) hr aw T.mH (qx aW (pv 1) ah) (q2 (pv 0) (pv 1)))))))))))))),?_⟩
 try dsimp only[aN,aO,aP,Cx.aD,Cx.aI]
 obtain⟨c,l,r,e0,ht⟩:=hP.top
 cases e0;have a0:bT (V.str (bK P)::V.ref l::r) 0=some (.str (bK P)):=c7 (j:=0) rfl;refine⟨_,rfl,p,_,_,_,rfl,rfl,av.of ht,a0,_,rfl,rfl,_,rfl,?_⟩;rw[GW];refine bI ?_;have go:∀ff,Me AR.nM AR.nJ AR.jg AR.ia AR.ib AR.kj AR.nK AR.nL P=ff->nh [("run",AR.nM),("branch",AR.nJ),("fence",AR.jg),("room",AR.ia),("wants",AR.ia),("fall",AR.ib),("sum",AR.ib),("dry",AR.kj),("wet",AR.kj),("kept",AR.nK),("most",AR.nL)] (bK P)=some ff:=λff e=>by rw[GW,e]
 cases P with
 | wr k bs =>
  obtain⟨a2,l2,dY,e2,k1,k2,k3⟩:=hP
  cases e2
  cases k with
  | true=>exact .inl ⟨_,rfl,p,_,_,_,rfl,rfl,av.of ht,a0,_,rfl,rfl,go _ rfl,_,rfl,_,rfl,x,dx,b,d,t,g,f,p,l2,ts,gs,dY,N,_,bs,rfl,n,av.of k1,rfl,k2,k3,fit.1,fit.2,hQ⟩
  | false=>exact .inr (.inl ⟨_,rfl,p,_,_,_,rfl,rfl,av.of ht,a0,_,rfl,rfl,go _ rfl,_,rfl,_,rfl,x,dx,b,d,t,g,f,p,l2,ts,gs,dY,N,_,bs,rfl,n,av.of k1,rfl,k2,k3,fit.1,hQ⟩)
 | mk k ms =>
  obtain⟨a2,l2,dY,e2,k1,k2,k3⟩:=hP
  cases e2
  cases k with
  | fence=>exact .inr (.inr (.inl ⟨_,rfl,p,_,_,_,rfl,rfl,av.of ht,a0,_,rfl,rfl,go _ rfl,_,rfl,_,rfl,x,dx,b,d,t,g,f,p,l2,ts,gs,dY,N,_,ms,rfl,n,av.of k1,rfl,k2,k3,fit.1,fit.2,hQ⟩))
  | room=>exact .inr (.inr (.inr (.inl ⟨_,rfl,p,_,_,_,rfl,rfl,av.of ht,a0,_,rfl,rfl,go _ rfl,_,rfl,_,rfl,x,dx,b,d,t,g,f,p,l2,ts,gs,dY,N,_,ms,rfl,n,av.of k1,rfl,k2,k3,fit.1,fit.2,hQ⟩)))
  | wants=>exact .inr (.inr (.inr (.inl ⟨_,rfl,p,_,_,_,rfl,rfl,av.of ht,a0,_,rfl,rfl,go _ rfl,_,rfl,_,rfl,x,dx,b,d,t,g,f,p,l2,ts,gs,dY,N,_,ms,rfl,n,av.of k1,rfl,k2,k3,fit.1,fit.2,hQ⟩)))
 | b3 ws =>
  obtain⟨a2,l2,e2,k1,k2⟩:=hP
  cases e2;exact .inr (.inr (.inr (.inr (.inl ⟨_,rfl,p,_,_,_,rfl,rfl,av.of ht,a0,_,rfl,rfl,go _ rfl,_,rfl,_,rfl,x,dx,b,d,t,g,f,p,l2,ts,gs,N,_,ws,rfl,n,av.of k1,rfl,k2,hQ H (ae.refl _)⟩))))
 | sum ws v =>
  obtain⟨a2,l2,e2,k1,k2⟩:=hP
  cases e2;exact .inr (.inr (.inr (.inr (.inl ⟨_,rfl,p,_,_,_,rfl,rfl,av.of ht,a0,_,rfl,rfl,go _ rfl,_,rfl,_,rfl,x,dx,b,d,t,g,f,p,l2,ts,gs,N,_,ws,rfl,n,av.of k1,rfl,k2,hQ H (ae.refl _)⟩))))
 | st k bs =>
  obtain⟨a2,l2,e2,k1,k2⟩:=hP
  cases e2;exact .inr (.inr (.inr (.inr (.inr (.inl ⟨_,rfl,p,_,_,_,rfl,rfl,av.of ht,a0,_,rfl,rfl,go _ rfl,_,rfl,_,rfl,x,dx,b,d,t,g,f,p,l2,ts,gs,N,_,bs,rfl,n,b6,av.of k1,rfl,k2,fit,hQ⟩)))))
 | kept rs =>
  obtain⟨a2,l2,vs2,e2,k1,k2,k3⟩:=hP
  cases e2;exact .inr (.inr (.inr (.inr (.inr (.inr (.inl ⟨_,rfl,p,_,_,_,rfl,rfl,av.of ht,a0,_,rfl,rfl,go _ rfl,_,rfl,_,rfl,x,dx,b,d,t,g,f,p,l2,ts,gs,N,_,vs2,rs,rfl,n,b6,av.of k1,rfl,k2,k3,fit.1,fit.2,hQ⟩))))))
 | most bs q =>
  exact .inr (.inr (.inr (.inr (.inr (.inr (.inr ⟨_,rfl,p,_,_,_,rfl,rfl,av.of ht,a0,_,rfl,rfl,go _ rfl,_,rfl,_,rfl,x,dx,b,d,t,g,f,p,ts,gs,N,bs,q,rfl,n,b6,hP,fit,hQ⟩))))))
theorem acf(T:TD w K mg AR FR base):ax P w K mg base (bG P w) 18 AR.zX FR.yq ["net","row","number"] (Pj AR.aC AR.a_ K):=by
 refine T.Q4.cV ["net","row","number","cursor","paper"] ?_;rintro nd _ A _ s H vs Q E hr ⟨x,dx,b,d,t,g,f,ts,gs,N,r,m,rfl,n,b6,rl,aK,wk,fit,hQ,hE⟩;refine⟨_,(ar (qs 3 nd (LY T.DV (abM T) (hr.mono (by decide)) (by rfl) T.aaB T.CD .nil aw (q3 (pv 0) (pv 1) (pv 2))))
   (ar (qs 4 nd (T.ua.ca (acB T) hr bh (q2 (pv 3) (qg T.aaH))))
   (ar (bu (PW.pt (kH (ik (fZ (T.wx.ca (A0 T) hr aw (q1 (pv 3))))) (lL (PW.pt (EG (qp acN (pv 4) fj) (EH (ik (fZ (T.Rm.ca (acJ T) hr aw (q2 (pv 0) (pv 4))))))))))) (ak (eX (T.lQ.ca (mO T) hr bh (q1 (pv 3))))) bw)
   (ak (au (pv 4)))))),?_⟩
 try dsimp only[aN,aO,aP,Cx.aD,Cx.aI]
 refine⟨_,rfl,_,rfl,_,rfl,λc iE nc D2 qi=>?_⟩
 refine⟨c,iE,x,r,m,rfl,aA,rl,λlw H1 vP S1 g1 w1=>⟨rfl,?_⟩⟩
 have SS:ae H H1:=λb o e=>S1 b o (e6 e nc) (((ae.refl H).upd D2 (o:=.own c)).upd ((bg qi.symm).trans nc) b o e)
 have SC:∀{H':Hp},dg c H1 H'->ae H H':=λS b o e=>S b o (e6 e nc) (SS b o e)
 have aV:bN AR.aC AR.bc H1 c ⟨iE,x,lw,dx,b,d,t,g,f,ts,gs⟩ N (m:Int) (cO 32 r) 0:=⟨⟨g1,w1,dy _⟩,n.same SS⟩;generalize hW:cO 32 r=W at *
 try dsimp only[aG]
 refine⟨_,rfl,c,_,N,m,W,0,rfl,aV,aK,wk,λP p2 e hp bW v H2 S2 bf hv=>?_,λe ee H' S ne he=>hE (by unfold cN;rw[show dE N W=none from e]) ee H' (SC S) (SS.free ne) he⟩
 have e:dE N W=some (P,W.drop p2):=e;have hb:∀{H3:Hp} {Q3:VK},bN AR.aC AR.bc H3 c ⟨iE,x,lw,dx,b,d,t,g,f,ts,gs⟩ N (m:Int) W p2->ae H H3->cN N W=none->E2 AR.aC AR.bc AR.a_ K [.ref c] H3 Q3 E:=λcu S z=>⟨c,_,N,m,W,p2,rfl,cu,aK,λee H' S' ne he=>hE z ee H' (S.trans S') (S.free ne) he⟩
 try dsimp only[aG]
 refine⟨_,rfl,c,_,N,m,W,p2,rfl,bf,_,rfl,?_⟩;by_cases hh:p2<W.length
 ·rw[decide_eq_false (λz=>z hh)]
  refine bI (bI ?_);have z:cN N W=none:=by
   unfold cN;rw[e,Sb hh]
   cases P<;>rfl
  exact⟨_,rfl,hb bf (SC S2) z⟩
 rw[decide_eq_true hh];refine bt ?_;have e0:W.drop p2=[]:=aiB (BX hh);rw[e0] at e
 cases P with
 | none =>
  cases hv;refine⟨_,rfl,rfl,_,rfl,?_⟩;refine bt (bt ?_);exact⟨_,rfl,hQ none (by unfold cN;rw[e]) _ _ (SC S2) rfl⟩
 | some P =>
  have hv:cD H2 v P:=hv;obtain⟨a,l,z,rfl,ht⟩:=hv.top;refine⟨_,rfl,rfl,_,rfl,?_⟩;refine bI ?_;refine⟨_,rfl,_,rfl,x,dx,b,d,t,g,f,a,ts,gs,N,P,rfl,bf.2,b6,hv,fit _ _ e,λH3 S3=>⟨_,rfl,?_⟩⟩
  cases J3:lT N.aa.length N.az.length P with
  | true =>
   refine bt ?_;exact⟨_,rfl,hQ (some P) (by unfold cN;rw[e];dsimp only;rw[J3];rfl) _ _ ((SC S2).trans S3) (hv.same S3)⟩
  | false =>
   refine bI ?_;exact⟨_,rfl,hb (bf.same S3) ((SC S2).trans S3) (by unfold cN;rw[e];dsimp only;rw[J3];rfl)⟩
theorem Ei(T:TD w K mg AR FR base):ax P w K mg base (bG P w) 19 AR.z5 FR.yC ["net","row"] (Pz AR.aC AR.a_ K):=by
 refine T.BC.cV ["net","row"] ?_;rintro nd _ A _ s H vs Q E hr ⟨x,dx,b,d,t,g,f,ts,gs,N,r,rfl,n,b6,rl,wk,fit,hQ,hE⟩;refine⟨_,(ak (au (T.Q4.ca (acf T) hr bh (q3 (pv 0) (pv 1) ah)))),?_⟩
 try dsimp only[aN,aO,aP,Cx.aD,Cx.aI]
 exact⟨_,rfl,_,rfl,x,dx,b,d,t,g,f,ts,gs,N,r,1,rfl,n,b6,rl,by decide,wk,fit,hQ,hE⟩
theorem jT(T:TD w K mg AR FR base):ax P w K mg base a8 1 AR.zB FR.xS ["size","number","word"] (OS K):=by
 refine T.jy.bz ["size","number","word"] ?_;rintro nd _ A _ s H vs Q E hr ⟨z,num,u,rfl,z1,z7,n0,n9,ul,hQ⟩;refine⟨_,(ak (au (ag bp (ag bp af (fX lW qY qZ oA af (q1 (ag cI (bB (q1 (pv 2))) (qm ["j","number"] [1] (fY (by rfl) T.fA (q1 (ag LI (pv 0) ah))) λ_=>(qy (jE rfl T.hD) T.gC gT (q1 (ag dS (pv 1) (pv 0))))))))) af))),?_⟩
 try dsimp only[aN,aO,aP,Cx.aD,Cx.aI]
 have eM:=sizeLine_eq;have zz:((z:Int)-1).toNat=z-1:=by omega
 refine⟨rfl,_,rfl,by show 1<=sizeLine;decide,λq1 n1=>?_⟩
 have L1:LW H q1 [u] (upd H q1 (.lst [.str u])):=LW.lit [u] n1;generalize upd H q1 (.lst [.str u])=H1 at L1 ⊢;refine⟨_,rfl,_,_,rfl,rfl,_,rfl,by omega,by omega,?_⟩
 rw[zz];have nb:∀j:Nat,j<=7->fS (num+j):=λj hj=>⟨by omega,rg (by omega:num+j<10000000000) tY⟩
 refine rT (τ:=[some (.int num)]) (λ(j:Nat)=>bj (num+j)) cH (λ_ h=>h) (by omega) (λB j H2 hj S Q' hq=>?_) ?_
 ·exact⟨_,rfl,_,rfl,_,_,rfl,rfl,_,rfl,km (la (nb j (by omega))),hq _ _ (ae.refl _) rfl⟩
 ·intro ys H2 S r q2 n2
  have e:=cH.all r;subst e;have b0:LW H2 q2 (dB num (z-1)) (upd H2 q2 (.lst (bq (dB num (z-1))))):=LW.lit _ n2;have bl:(dB num (z-1)).length=z-1:=by unfold dB;rw[aH,g_]
  have hw:∀y∈u::dB num (z-1),y.length<=1001:=λy hy=>by
   rcases bE.mp hy with e|hy
   ·rw[e];omega
   ·obtain⟨j,hj,rfl⟩:=bR.mp hy
    have:=iq.mp hj;exact(kA (nb j (by omega))).2.1
  have hj:=lG hw;rw[bF,bl] at hj;unfold dB at b0;generalize upd H2 q2 _=H3 at b0 ⊢;refine LW.cat (H0:=H) ((S.trans b0.sm) _ _ L1.at') b0.at' ((L1.sm.trans S).trans b0.sm) (by rw[aH,g_];show 1+_<=_;omega) λp1 H4 L4=>?_
  refine⟨_,p1,u::dB num (z-1),1001,rfl,rfl,ai.of L4.at',hw,by rw[bF,bl];show _*1001+_*1<=_;omega,_,_,rfl,rfl,by show 2+(jn (u::dB num (z-1))).length<=_;omega,_,_,rfl,rfl,?_,?_⟩
  ·rw[fO]
   show 2+(jn (u::dB num (z-1))).length+2<=_;omega
  ·show Q (.str (zalias233z "< " ++ jn (u::dB num (z-1))++zalias233z " >")) H4
   rw[Ug];exact hQ _ L4.sm
theorem ab2(T:TD w K mg AR FR base):ax P w K mg base a8 2 AR.zC FR.xT ["size","number"] (OT K):=by
 refine T.QT.bz ["size","number","bag","more","told"] ?_;rintro nd _ A _ s H vs Q E hr ⟨z,num,rfl,z1,z6,n0,n9,hQ⟩;refine⟨_,(ar (qs 2 nd (T.jy.ca (jT T) hr aw (q3 (pv 0) (pv 1) af)))
   (ar (qs 3 nd (T.jy.ca (jT T) hr aw (q3 (ag dS (pv 0) ah) (pv 1) af)))
   (ar (qs 4 nd (bB (bP (ag bp af (pv 3)) (bP af (bP (ag bp af (pv 3)) (q3 (ag bp af (pv 3)) af (ag bp af (pv 3))))))))
   (ar (qs 4 nd (ag cI (pv 4) (bB (q2 (ag bp af (T.jy.ca (jT T) hr aw (q3 (pv 0) (pv 1) af))) (ag bp af (T.jy.ca (jT T) hr aw (q3 (pv 0) (pv 1) af)))))))
   (ar (qs 4 nd (ag cI (pv 4) (bB (q2 (ag bp af (T.jy.ca (jT T) hr aw (q3 (pv 0) (pv 1) af))) (ag bp af (T.jy.ca (jT T) hr aw (q3 (pv 0) (pv 1) af)))))))
   (ar (qs 4 nd (ag cI (pv 4) (bB (q2 (ag bp af (T.jy.ca (jT T) hr aw (q3 (pv 0) (pv 1) af))) (ag bp af (T.jy.ca (jT T) hr aw (q3 (pv 0) (pv 1) af)))))))
   (ar (qs 4 nd (ag cI (pv 4) (bB (q2 (ag bp af (T.jy.ca (jT T) hr aw (q3 (pv 0) (pv 1) af))) (ag bp af (T.jy.ca (jT T) hr aw (q3 (pv 0) (pv 1) af)))))))
   (ar (qs 4 nd (ag cI (pv 4) (bB (q2 (ag bp af (T.jy.ca (jT T) hr aw (q3 (pv 0) (pv 1) af))) (ag bp af (pv 2))))))
   (ar (qs 4 nd (ag cI (pv 4) (bB (q1 (ag bp af (T.jy.ca (jT T) hr aw (q3 (pv 0) (pv 1) af)))))))
   (ar (qs 4 nd (ag cI (pv 4) (bB (bP (ag bp af (pv 2)) (bP (ag bp af (pv 2)) (q3 (ag bp af (pv 2)) af (ag bp (ag bp (ag bp af (pv 2)) af) (pv 2))))))))
   (ar (qs 4 nd (ag cI (pv 4) (bB (bP af (bP (ag bp (ag bp (ag bp af (pv 2)) af) (pv 2)) (q3 (ag bp af (L_ Ov (pv 2) Mi (Mj (A_ BN ah)))) (ag bp af (pv 2)) (ag bp (ag bp af (pv 2)) af)))))))
   (ak (au (ag cI (pv 4) (bB (bP (ag bp af (pv 2)) (bP af (bP af (q3 af af (ag bp (ag bp af (pv 2)) af)))))))))))))))))))),?_⟩
 try dsimp only[aN,aO,aP,Cx.aD,Cx.aI]
 refine⟨_,rfl,_,rfl,z,num,wS "7",rfl,z1,by omega,n0,n9,by decide,λH1 S1=>?_⟩
 try dsimp only[aG]
 refine⟨_,rfl,_,_,rfl,rfl,_,rfl,z+1,num,wS "7",rfl,by omega,by omega,n0,n9,by decide,λH2 S2=>?_⟩
 try dsimp only[aG]
 rw[Nat.add_sub_cancel];have z7:z<=7:=by omega
 have zk:z-1<=7:=by omega
 have hb:∀{u k},k<=7->u.length<=10->(jn (bo u num k)).length<=11000:=λe h=>Ue h e n0 n9
 have hB:=hb (u:=wS "7") zk (by decide)
 have hM:=hb (u:=wS "7") z7 (by decide)
 generalize WB:jn (bo (wS "7") num (z-1))=BG at hB ⊢;generalize WC:jn (bo (wS "7") num z)=MR at hM ⊢;refine⟨_,rfl,_,_,rfl,rfl,a1 hM,_,rfl,_,_,rfl,rfl,a1 hM,_,rfl,_,_,rfl,rfl,a1 hM,_,rfl,_,_,rfl,rfl,a1 hM,by show 6<=sizeLine;decide,λq nq=>?_⟩
 generalize e3:upd H2 q (.lst _)=H3;have LA:=LW.back (S1.trans S2) (LW.eq nq e3 (.cons (.cons (.cons (.cons (.cons (.cons .nil)))))))
 try dsimp only[aG]
 refine⟨_,rfl,_,rfl,_,rfl,z,num,wS "-1",rfl,z1,z7,n0,n9,by decide,λ_ U=>?_⟩
 replace LA:=LA.next U;refine⟨_,_,rfl,rfl,a1 (hb zk (by decide)),_,rfl,_,rfl,z,num,wS "*",rfl,z1,z7,n0,n9,by decide,λ_ U=>?_⟩
 replace LA:=LA.next U;refine⟨_,_,rfl,rfl,a1 (hb zk (by decide)),LA.more (.cons (.cons .nil)) λ_ _ LB=>?_⟩
 replace LA:=LB
 try dsimp only[aG]
 refine⟨_,rfl,_,rfl,_,rfl,z,num,wS "-1",rfl,z1,z7,n0,n9,by decide,λ_ U=>?_⟩
 replace LA:=LA.next U;refine⟨_,_,rfl,rfl,a1 (hb zk (by decide)),_,rfl,_,rfl,z,num,wS "*",rfl,z1,z7,n0,n9,by decide,λ_ U=>?_⟩
 replace LA:=LA.next U;refine⟨_,_,rfl,rfl,a1 (hb zk (by decide)),LA.more (.cons (.cons .nil)) λ_ _ LB=>?_⟩
 replace LA:=LB
 try dsimp only[aG]
 refine⟨_,rfl,_,rfl,_,rfl,z,num,wS "-0",rfl,z1,z7,n0,n9,by decide,λ_ U=>?_⟩
 replace LA:=LA.next U;refine⟨_,_,rfl,rfl,a1 (hb zk (by decide)),_,rfl,_,rfl,z,num,wS "07",rfl,z1,z7,n0,n9,by decide,λ_ U=>?_⟩
 replace LA:=LA.next U;refine⟨_,_,rfl,rfl,a1 (hb zk (by decide)),LA.more (.cons (.cons .nil)) λ_ _ LB=>?_⟩
 replace LA:=LB
 try dsimp only[aG]
 refine⟨_,rfl,_,rfl,_,rfl,z,num,wS "+7",rfl,z1,z7,n0,n9,by decide,λ_ U=>?_⟩
 replace LA:=LA.next U;refine⟨_,_,rfl,rfl,a1 (hb zk (by decide)),_,rfl,_,rfl,z,num,wS "",rfl,z1,z7,n0,n9,by decide,λ_ U=>?_⟩
 replace LA:=LA.next U;refine⟨_,_,rfl,rfl,a1 (hb zk (by decide)),LA.more (.cons (.cons .nil)) λ_ _ LB=>?_⟩
 replace LA:=LB
 try dsimp only[aG]
 refine⟨_,rfl,_,rfl,_,rfl,z,num,wS "1_0",rfl,z1,z7,n0,n9,by decide,λ_ U=>?_⟩
 replace LA:=LA.next U;refine⟨_,_,rfl,rfl,a1 (hb zk (by decide)),_,rfl,_,_,rfl,rfl,a1 hB,LA.more (.cons (.cons .nil)) λ_ _ LB=>?_⟩
 replace LA:=LB
 try dsimp only[aG]
 refine⟨_,rfl,_,rfl,_,rfl,z,num,wS "- 1",rfl,z1,z7,n0,n9,by decide,λ_ U=>?_⟩
 replace LA:=LA.next U;refine⟨_,_,rfl,rfl,a1 (hb zk (by decide)),LA.more (.cons .nil) λ_ _ LB=>?_⟩
 replace LA:=LB
 try dsimp only[aG]
 refine⟨_,rfl,_,rfl,_,_,rfl,rfl,a1 hB,_,rfl,_,_,rfl,rfl,a1 hB,_,rfl,_,_,rfl,rfl,a1 hB,_,rfl,_,_,rfl,rfl,a1 hB,_,_,rfl,rfl,a2 hB,_,rfl,_,_,rfl,rfl,a3 hB hB,LA.more (.cons (.cons (.cons (.cons (.cons .nil))))) λ_ _ LB=>?_⟩
 replace LA:=LB
 try dsimp only[aG]
 refine⟨_,rfl,_,rfl,_,_,rfl,rfl,a1 hB,_,_,rfl,rfl,a2 hB,_,rfl,_,_,rfl,rfl,a3 hB hB,_,rfl,_,rfl,_,rfl,_,rfl,b_ hB (by decide),_,_,rfl,rfl,a1 (b_ (Vq _ _ _) hB),_,rfl,_,_,rfl,rfl,a1 hB,_,rfl,_,_,rfl,rfl,a1 hB,_,_,rfl,rfl,a2 hB,LA.more (.cons (.cons (.cons (.cons (.cons .nil))))) λ_ _ LB=>?_⟩
 replace LA:=LB
 try dsimp only[aG]
 refine⟨_,rfl,_,rfl,_,_,rfl,rfl,a1 hB,_,rfl,_,_,rfl,rfl,a1 hB,_,_,rfl,rfl,a2 hB,LA.more (.cons (.cons (.cons (.cons (.cons (.cons .nil)))))) λ_ _ LB=>?_⟩
 subst WB WC;exact hQ.of2 (TM z num) LB
theorem ab3(T:TD w K mg AR FR base):ax P w K mg base a8 5 AR.zD FR.xU ["net","number"] (OU AR.aC K):=by
 refine T.QU.bz ["net","number","bowl","told"] ?_;rintro nd _ A _ s H vs Q E hr ⟨x,dx,b,d,t,g,f,ts,gs,N,num,rfl,n,ok,n0,n9,hQ⟩;refine⟨_,(ar (qs 2 nd (qx eN (qf (pv 0)) ah))
   (ar (qs 3 nd (bB (bP af (bP af (bP af (bP af (bP af (bP af (bP af (q3 af af af))))))))))
   (ar (qs 3 nd (ag cI (pv 3) (bB (bP af (bP af (q3 af af (ag bp (ag bp af (ag acM af ah)) af)))))))
   (ar (qs 3 nd (ag cI (pv 3) (bB (bP af (bP af (q3 af (ag bp (ag bp (ag bp af (pv 2)) af) (pv 2)) (ag bp (ag bp af (pv 2)) af)))))))
   (ar (qs 3 nd (ag cI (pv 3) (bB (bP af (bP af (bP af (q3 af af af)))))))
   (ar (qs 3 nd (ag cI (pv 3) (bB (q2 (ag bp (ag bp (ag bp (ag bp af (pv 2)) af) (pv 2)) af) (ag bp (ag bp af (qy (jE rfl T.hD) T.gC gT (q1 (pv 1)))) af)))))
   (ar (bu (qp Et (ql (qf (pv 0)) T.dG) ah) (ar (qs 3 nd (ag cI (pv 3) (bB (q3 (ag bp (ag bp af (qx eN (qf (pv 0)) ah)) af) (ag bp (ag bp af (qx eN (qf (pv 0)) ah)) af) (ag bp af (qx eN (qf (pv 0)) ah))))))
   (ak (qs 3 nd (ag cI (pv 3) (bB (q2 (ag bp (ag bp af (qx eN (qf (pv 0)) ah)) af) (ag bp (ag bp af (qx eN (qf (pv 0)) ah)) af))))))) bw)
   (ar (bu (qp Et (ql (qf (pv 0)) T.dG) ah) (ak (qs 3 nd (ag cI (pv 3) (bB (q2 (ag bp (ag bp (ag bp af (qx eN (qf (pv 0)) ah)) af) (pv 2)) (ag bp (ag bp (ag bp (ag bp af (qx eN (qf (pv 0)) ah)) af) (pv 2)) af)))))) bw)
   (ak (au (pv 3))))))))))),?_⟩
 try dsimp only[aN,aO,aP,Cx.aD,Cx.aI]
 have jk:=ok.b1;have pL:bT (bq N.aa) 0=some (.str (N.aa.getD 0 ay)):=kz (i:=0) ⟨by decide,by omega⟩
 have gq:(N.aa.getD 0 ay).length<=11000:=b_ (AX (qE ok.bn jk)) (by decide)
 have Hl:fS num:=⟨n0,rg (by omega:num<10000000000) tY⟩
 have JR:(zalias233z (toString num)).length<=11000:=b_ (kA Hl).2.1 (by decide)
 have h9:kB.length<=11000:=b_ Lz (by decide)
 refine⟨_,rfl,x,_,dx,_,_,rfl,n.ob,T.c9,T.gy,rfl,b,_,_,_,rfl,rfl,ai.of n.hb,pL,?_⟩
 try dsimp only[aG]
 generalize Ao:N.aa.getD 0 ay=bn at gq ⊢;refine⟨by show 10<=sizeLine;decide,λq nq=>?_⟩
 generalize e1:upd H q (.lst _)=H1;have LA:=LW.eq nq e1 (.cons (.cons (.cons (.cons (.cons (.cons (.cons (.cons (.cons (.cons .nil))))))))))
 try dsimp only[aG]
 refine⟨_,rfl,rfl,rfl,_,_,rfl,rfl,a1 h9,_,_,rfl,rfl,a2 h9,LA.more (.cons (.cons (.cons (.cons (.cons .nil))))) λ_ _ LB=>?_⟩
 replace LA:=LB
 try dsimp only[aG]
 refine⟨_,rfl,_,rfl,_,_,rfl,rfl,a1 gq,_,_,rfl,rfl,a2 gq,_,rfl,_,_,rfl,rfl,a3 gq gq,_,rfl,_,_,rfl,rfl,a1 gq,_,_,rfl,rfl,a2 gq,LA.more (.cons (.cons (.cons (.cons (.cons .nil))))) λ_ _ LB=>?_⟩
 replace LA:=LB
 try dsimp only[aG]
 refine⟨_,rfl,LA.more (.cons (.cons (.cons (.cons (.cons (.cons .nil)))))) λ_ _ LB=>?_⟩
 replace LA:=LB
 try dsimp only[aG]
 refine⟨_,rfl,_,rfl,_,_,rfl,rfl,a1 gq,_,_,rfl,rfl,a2 gq,_,rfl,_,_,rfl,rfl,a3 gq gq,_,_,rfl,rfl,a4 gq gq,_,rfl,num,rfl,km (la Hl),_,_,rfl,rfl,a1 JR,_,_,rfl,rfl,a2 JR,LA.more (.cons (.cons .nil)) λ_ _ LB=>?_⟩
 replace LA:=LB
 try dsimp only[aG]
 have m:=n.same LA.sm;refine⟨_,rfl,x,_,dx,_,_,rfl,m.ob,T.c9,T.gZ,rfl,d,_,rfl,.inl (ai.of m.hd),_,_,rfl,rfl,_,rfl,dZ (λe=>?_) (λe=>?_)⟩
 ·rw[ja] at e
  have rL:bT (bq N.az) 0=some (.str (N.az.getD 0 ay)):=kz (i:=0) ⟨by decide,by omega⟩
  have jm:(N.az.getD 0 ay).length<=11000:=b_ (AX (qE ok.dn (by omega))) (by decide)
  generalize IF:N.az.getD 0 ay=dn at jm rL
  try dsimp only[aG]
  refine⟨_,rfl,_,rfl,x,_,dx,_,_,rfl,m.ob,T.c9,T.gZ,rfl,d,_,_,_,rfl,rfl,ai.of m.hd,rL,_,_,rfl,rfl,a1 jm,_,_,rfl,rfl,a2 jm,_,rfl,x,_,dx,_,_,rfl,m.ob,T.c9,T.gZ,rfl,d,_,_,_,rfl,rfl,ai.of m.hd,rL,_,_,rfl,rfl,a1 jm,_,_,rfl,rfl,a2 jm,_,rfl,x,_,dx,_,_,rfl,m.ob,T.c9,T.gZ,rfl,d,_,_,_,rfl,rfl,ai.of m.hd,rL,_,_,rfl,rfl,a1 jm,LA.more (.cons (.cons (.cons .nil))) λ_ _ LB=>?_⟩
  replace LA:=LB;have m:=n.same LA.sm
  try dsimp only[aG]
  refine⟨_,rfl,_,rfl,x,_,dx,_,_,rfl,m.ob,T.c9,T.gZ,rfl,d,_,_,_,rfl,rfl,ai.of m.hd,rL,_,_,rfl,rfl,a1 jm,_,_,rfl,rfl,a2 jm,_,rfl,x,_,dx,_,_,rfl,m.ob,T.c9,T.gZ,rfl,d,_,_,_,rfl,rfl,ai.of m.hd,rL,_,_,rfl,rfl,a1 jm,_,_,rfl,rfl,a2 jm,LA.more (.cons (.cons .nil)) λ_ _ LB=>?_⟩
  replace LA:=LB;have m:=n.same LA.sm
  try dsimp only[aG]
  refine⟨_,rfl,x,_,dx,_,_,rfl,m.ob,T.c9,T.gy,rfl,b,_,rfl,.inl (ai.of m.hb),_,_,rfl,rfl,_,rfl,dZ (λe2=>?_) (λe2=>?_)⟩
  ·rw[ja] at e2
   have atC:bT (bq N.aa) 1=some (.str (N.aa.getD 1 ay)):=kz (i:=1) ⟨by decide,by omega⟩
   have gX:(N.aa.getD 1 ay).length<=11000:=b_ (AX (qE ok.bn (by omega))) (by decide)
   generalize Dd:N.aa.getD 1 ay=cn at gX atC
   try dsimp only[aG]
   refine⟨_,rfl,_,rfl,x,_,dx,_,_,rfl,m.ob,T.c9,T.gy,rfl,b,_,_,_,rfl,rfl,ai.of m.hb,atC,_,_,rfl,rfl,a1 gX,_,_,rfl,rfl,a2 gX,_,rfl,_,_,rfl,rfl,a3 gX gq,_,rfl,x,_,dx,_,_,rfl,m.ob,T.c9,T.gy,rfl,b,_,_,_,rfl,rfl,ai.of m.hb,atC,_,_,rfl,rfl,a1 gX,_,_,rfl,rfl,a2 gX,_,rfl,_,_,rfl,rfl,a3 gX gq,_,_,rfl,rfl,a4 gX gq,LA.more (.cons (.cons .nil)) λ_ _ LB=>?_⟩
   replace LA:=LB;refine⟨_,rfl,hQ.of2 ?_ LA⟩;subst Ao IF Dd;exact TU (by omega) (by omega)
  ·rw[ja] at e2
   refine⟨_,rfl,hQ.of2 ?_ LA⟩;subst Ao IF;exact TR (by omega) (by omega)
 ·rw[ja] at e
  try dsimp only[aG]
  refine⟨_,rfl,x,_,dx,_,_,rfl,m.ob,T.c9,T.gy,rfl,b,_,rfl,.inl (ai.of m.hb),_,_,rfl,rfl,_,rfl,dZ (λe2=>?_) (λe2=>?_)⟩
  ·rw[ja] at e2
   have atC:bT (bq N.aa) 1=some (.str (N.aa.getD 1 ay)):=kz (i:=1) ⟨by decide,by omega⟩
   have gX:(N.aa.getD 1 ay).length<=11000:=b_ (AX (qE ok.bn (by omega))) (by decide)
   generalize Dd:N.aa.getD 1 ay=cn at gX atC
   try dsimp only[aG]
   refine⟨_,rfl,_,rfl,x,_,dx,_,_,rfl,m.ob,T.c9,T.gy,rfl,b,_,_,_,rfl,rfl,ai.of m.hb,atC,_,_,rfl,rfl,a1 gX,_,_,rfl,rfl,a2 gX,_,rfl,_,_,rfl,rfl,a3 gX gq,_,rfl,x,_,dx,_,_,rfl,m.ob,T.c9,T.gy,rfl,b,_,_,_,rfl,rfl,ai.of m.hb,atC,_,_,rfl,rfl,a1 gX,_,_,rfl,rfl,a2 gX,_,rfl,_,_,rfl,rfl,a3 gX gq,_,_,rfl,rfl,a4 gX gq,LA.more (.cons (.cons .nil)) λ_ _ LB=>?_⟩
   replace LA:=LB;refine⟨_,rfl,hQ.of2 ?_ LA⟩;subst Ao Dd;exact TQ (by omega) (by omega)
  ·rw[ja] at e2
   refine⟨_,rfl,hQ.of2 ?_ LA⟩;subst Ao;exact TN (by omega) (by omega)
theorem aca(T:TD w K mg AR FR base):ax P w K mg base a8 20 AR.zT FR.yj ["net","row"] (Pb AR.aC K):=by
 refine T.QY.bz ["net","row","e","others"] ?_;rintro nd _ A _ s H vs Q E hr ⟨x,dx,b,d,t,g,f,ts,gs,N,r,rfl,n,b6,rl,wk,fit,hn,hQ⟩;refine⟨_,(ar (adI (i:=2) nd (by rfl) T.DN (ac7 (T.BC.xa (Ei T) hr (q2 (pv 0) (pv 1)))) (λ_ _=>(ar (qs 3 nd (qb US T.e9 fu (q2 (pv 2) (dR (bP (qg T.aay) (bP (qg T.aaz) (bP (qg T.aaA) (q3 (qg T.aaD) (qg T.aaE) (qg T.aaF)))))))))
   (ak (au (fH (qb Hy T.e9 fu (q2 (pv 2) (qg T.KA))) (fH (qb Hy T.e9 fu (q2 (pv 2) (qt T.F0 Uw))) (fH (v8 (pv 3)) (g6 (qc bX (adk (pv 2) rfl) ah))))))))))
   (ak (au i9))),?_⟩
 try dsimp only[aN,aO,aP,Cx.aD,Cx.aI]
 have no:∀{D:Addr},cF K D (.ref AR.cf::dP)=true->D≠AR.a_->D≠AR.cf->pz K (.ref AR.a_) (.ref D)=some false:=λq h1 h2=>VS T.ec_BadPaper q h1 h2
 have n1:=no T.ec_BadAsk (by first|exact T.ne_BadAsk_BadPaper|exact(Ne.symm T.ajq)) T.ne_BadAsk_HallError
 have n2:=no T.ec_BadNet (by first|exact T.ne_BadNet_BadPaper|exact(Ne.symm T.ajr)) T.ne_BadNet_HallError
 have n3:=no T.ec_BadText (by first|exact T.ne_BadText_BadPaper|exact(Ne.symm T.ajs)) T.ne_BadText_HallError
 have n4:=no T.ec_NoGo (by first|exact T.ne_NoGo_BadPaper|exact(Ne.symm T.ajt)) T.ne_NoGo_HallError
 have n5:=no T.ec_TooWide (by first|exact T.ne_TooWide_BadPaper|exact(Ne.symm T.aju)) T.ne_TooWide_HallError
 have n6:=no T.ec_Unlike (by first|exact T.ne_Unlike_BadPaper|exact(Ne.symm T.ajv)) T.ne_Unlike_HallError
 refine⟨_,rfl,_,rfl,x,dx,b,d,t,g,f,ts,gs,N,r,rfl,n,b6,rl,wk,fit,λP e=>(by rw[hn] at e;cases e),λ_ ad H' S nad Yk=>?_⟩
 refine⟨_,rfl,U8 T.ec_BadPaper,λe o ne xo=>?_⟩
 have mm:(e,o)∈([]++[(e,o)]:List (Addr×Obj)):=by simp
 refine⟨_,rfl,by show 6<=sizeLine;decide,λtp ntp=>?_⟩
 have U:=(ae.refl H').upd ntp (o:=.tup [V.ref AR.iu,V.ref AR.iP,V.ref AR.iw,V.ref AR.ix,V.ref AR.iQ,V.ref AR.iR]);have JA:=U _ _ Yk;have xd:w6 (upd H' tp (.tup [V.ref AR.iu,V.ref AR.iP,V.ref AR.iw,V.ref AR.ix,V.ref AR.iQ,V.ref AR.iR])) (some ad):=λd z=>by cases z;exact⟨_,JA⟩
 refine⟨e,o,_,tp,_,[AR.iu,AR.iP,AR.iw,AR.ix,AR.iQ,AR.iR],false,rfl,aA,mm,xo,xd,T.wG,aae n1 n2 n3 n4 n5 n6,?_⟩
 try dsimp only[aG]
 refine⟨_,rfl,e,o,_,_,_,_,true,rfl,mm,xo,xd,T.wG,.inr ⟨_,rfl,rfl⟩,VU T.ec_BadPaper T.ec_HallError,_,rfl,bI ?_⟩;refine⟨_,rfl,e,o,_,_,_,_,true,rfl,mm,xo,xd,T.wG,.inl ⟨_,rfl,rfl⟩,VR T.ec_BadPaper,_,rfl,bI ?_⟩;refine⟨_,rfl,_,rfl,_,rfl,bI ?_⟩;exact⟨_,rfl,e,o,AR.a_,ad,_,_,rfl,mm,xo,JA,rfl,trivial,T.wG,T.FW,T.FZ.hd,rfl,hQ _ (S.trans U)⟩
set_option maxHeartbeats 40000000 in
theorem abW(T:TD w K mg AR FR base):ax P w K mg base a8 21 AR.zA FR.rW ["script"] (wc K):=by
 refine T.agN.bz ["script","net","size","many","cell","paper","due","handed","text","number","rows","made"] ?_;rintro nd _ A _ s H vs Q E hr ⟨a,ns,rfl,hS,l63,hQ⟩;refine⟨_,(ar (qs 1 nd (T.QW.ca (ab5 T) hr aw (q1 (pv 0))))
   (ar (qs 2 nd (ql (qf (pv 1)) T.dG))
   (ar (qs 3 nd (ql (qf (pv 1)) T.dG))
   (ar (qK PassesOwn.never rfl (cT (pv 0)) (qn 4 nd)
   (ar (qs 5 nd (T.Fo.ca (Lj T) hr aw (q3 (pv 4) (pv 2) (pv 3))))
   (ar (qs 6 nd (fX lW qY qZ oA af (q1 (ag cI (bB (q1 (qx aW (pv 5) ah))) (T.wA.ca (ab6 T) hr aw (q2 (pv 1) (pv 5)))))))
   (ar (qs 7 nd (T.Fo.ca (Lj T) hr aw (q3 (pv 4) (pv 2) (pv 3))))
   (ar (qs 8 nd (T.Fs.ca (Lm T) hr aw (q2 (pv 1) (pv 7))))
   (ar (bu (PW.pt (kH (ik (fZ (qb gj T.e9 fu (q2 (pv 8) (qt T.gC gT))))) (kH (qp jx (pv 8) (pv 6)) (lL (ik (fZ (T.t4.ca (Ld T) hr aw (q2 (pv 7) (pv 5))))))))) (ak (au i9)) bw)
   (ar (bu (ik (fZ (T.t4.ca (Ld T) hr aw (q2 (T.BC.ca (Ei T).never hr aw (q2 (pv 1) (pv 6))) (pv 5))))) (ak (au i9)) bw)
   (ar (qs 9 nd (ag du (ag eE (pv 4) ah) ah))
   (ar (qs 10 nd (ag cI (T.QT.ca (ab2 T) hr aw (q2 (pv 2) (pv 9))) (T.QU.ca (ab3 T) hr aw (q2 (pv 1) (pv 9)))))
   (ak (bu (ik (fZ (T.QY.ca (aca T) hr aw (q2 (pv 1) (qx eN (pv 10) (ag du (ag eE (pv 4) ah) (ql (pv 10) T.dG))))))) (ak (au i9)) bw)))))))))))
   (ar (qs 11 nd (adm T.Ry (K8 T) (hr.mono (by decide)) (by rfl) T.DN T.xh (q2 af ah)))
   (ak (au (fH (qc bX (T.Fs.ca (Lm T) hr aw (q2 (pv 1) fj)) af) (fH (qc i7 (T.BC.ca (Ei T).never hr aw (q2 (pv 1) af)) fj) (g6 (qc bX (adl (pv 11) rfl) ah))))))))))),?_⟩
 try dsimp only[aN,aO,aP,Cx.aD,Cx.aI]
 refine⟨_,rfl,a,ns,rfl,hS,l63,λx dx b d t g f ts gs N H1 S1 n1 ok x1 x2=>?_⟩
 try dsimp only[aG]
 refine⟨_,rfl,x,_,dx,_,_,rfl,n1.ob,T.c9,T.gy,rfl,b,_,rfl,.inl (ai.of n1.hb),?_⟩
 try dsimp only[aG]
 refine⟨_,rfl,x,_,dx,_,_,rfl,n1.ob,T.c9,T.gZ,rfl,d,_,rfl,.inl (ai.of n1.hd),?_⟩
 try dsimp only[aG]
 rw[ja,ja];refine⟨_,rfl,a,rfl,⟨_,S1.seq hS⟩,?_⟩;refine sO (K:=K) (a:=a) (xs:=aQ ns) (λi σ H2=>∃(o4 o5 o6 o7 o8 o9 Ea:Option V),σ=[some (.ref a),some (.ref x),some (.int (N.aa.length:Int)),some (.int (N.az.length:Int)),o4,o5,o6,o7,o8,o9,Ea,none]/\ae H1 H2) ⟨none,none,none,none,none,none,none,rfl,ae.refl _⟩ (λi σ H2 _ jM=>by obtain⟨_,_,_,_,_,_,_,_,S⟩:=jM;exact(S1.trans S).seq hS) ?_ ?_
 ·rintro i v σ H2 hx ⟨o4,o5,o6,o7,o8,o9,Ea,rfl,S2⟩
  obtain⟨c,hc,rfl⟩:=ints_get hx
  try dsimp only[aG]
  have fn:=ac4 ok c;refine⟨_,rfl,_,rfl,_,rfl,c,N.aa.length,N.az.length,rfl,ok.b6,ok.d8,λv5 H3 S3 p3=>?_⟩
  try dsimp only[aG]
  generalize hP:qJ c N.aa.length N.az.length=P at fn p3;have T3:=S2.trans S3;obtain⟨a5,l5,r5,rfl,ht⟩:=p3.top;have a0:bT (V.str (bK P)::V.ref l5::r5) 0=some (.str (bK P)):=c7 (j:=0) rfl;obtain⟨pl,pb⟩:=LU ok fn.gd fn.ln;have eM:=sizeLine_eq;refine⟨rfl,_,rfl,a5,_,_,_,rfl,rfl,av.of ht,a0,by show 1<=sizeLine;decide,λq4 m4=>?_⟩
  have L4:LW H3 q4 [bK P] (upd H3 q4 (.lst [.str (bK P)])):=LW.lit [bK P] m4;generalize upd H3 q4 (.lst [.str (bK P)])=H4 at L4 ⊢;have T4:=T3.trans L4.sm;refine⟨_,rfl,_,rfl,x,dx,b,d,t,g,f,ts,gs,N,.ref a5,P,rfl,n1.same T4,ok,p3.same L4.sm,fn,bV.mk λq5 H5 L5=>?_⟩
  refine LW.cat (H0:=H3) (L5.sm _ _ L4.at') L5.at' (L4.sm.trans L5.sm) (by rw[bF] at pl;show 1+_<=_;omega) λq6 H6 L6=>?_
  refine⟨_,q6,bK P::dj N P,100200,rfl,rfl,ai.of L6.at',pb,by show _*100200+_*1<=_;omega,?_⟩
  rw[show fo (zalias233z " ") (bK P::dj N P)=jn (d4 N P) from Kj N P]
  try dsimp only[aG]
  have T6:=T3.trans L6.sm;have p6:=p3.same L6.sm;have MD:=iy.row ok fn;obtain⟨rs,rl,rk,rf⟩:=MD.row (N:=N);refine⟨_,rfl,_,rfl,_,rfl,c,N.aa.length,N.az.length,rfl,ok.b6,ok.d8,λv7 H7 S7 p7=>?_⟩
  rw[hP] at p7
  try dsimp only[aG]
  have T7:=T6.trans S7;refine⟨_,rfl,_,rfl,x,dx,b,d,t,g,f,ts,gs,N,v7,some P,rfl,n1.same T7,p7,λq e=>(by cases e;exact⟨fn.ft,fn.gd,b_ fn.ln (by decide)⟩),λw hw=>b_ (MD.wd w hw).2.1 (by decide),λH8 S8=>?_⟩
  try dsimp only[aG]
  have T8:=T7.trans S8;have p78:=p7.same S8;have LK:=p6.same (S7.trans S8);refine⟨_,rfl,_,_,_,_,rfl,.str _,rfl,_,rfl,bt ?_⟩;refine⟨_,rfl,_,rfl,rfl,_,rfl,?_⟩;refine Kb ?_;refine⟨_,rfl,_,rfl,v7,.ref a5,rfl,LR (N:=N) fn.ft fn.gd p78 LK,λH9 S9=>⟨_,rfl,bt ?_⟩⟩
  have T9:=T8.trans S9;refine⟨_,rfl,_,rfl,x,dx,b,d,t,g,f,ts,gs,N,jn (d4 N P),rfl,n1.same T9,ok.b6,rl,by rw[rs];exact rk,by rw[rs];exact rf,λP' e v10 GC rE p10=>?_,λe=>(by rw[rs,Ml ok fn.gd fn.wm] at e;cases e)⟩
  have eP:P'=some P:=by
   rw[rs,Ml ok fn.gd fn.wm] at e;exact(a6 e).symm
  subst eP;have SA:=T9.trans rE;refine⟨_,rfl,v10,.ref a5,rfl,LR (N:=N) fn.ft fn.gd p10 (LK.same (S9.trans rE)),λSr Sx=>⟨_,rfl,bt ?_⟩⟩
  have GN:=SA.trans Sx;obtain⟨D4,D5⟩:=kg (a:=c/65) (m:=1000000000) (by decide)
  refine⟨_,rfl,_,_,rfl,rfl,⟨by decide,by decide⟩,_,_,rfl,rfl,(by decide:(0:Int)<1000000000),?_⟩
  try dsimp only[aG]
  have bad:=TZ ok x1 x2 D4 D5;refine⟨_,rfl,_,rfl,N.aa.length,c/65%1000000000,rfl,ok.b1,ok.b6,D4,D5,bV.mk λq12 H12 Ce=>?_⟩
  have SD:=GN.trans Ce.sm;refine⟨_,rfl,_,rfl,x,dx,b,d,t,g,f,ts,gs,N,_,rfl,n1.same SD,ok,D4,D5,bV.mk λq13 H13 Cf=>?_⟩
  have m33:=TF N.aa.length (c/65%1000000000);have m99:=TV N (c/65%1000000000);refine LW.cat (H0:=Sr) (Cf.sm _ _ Ce.at') Cf.at' (Ce.sm.trans Cf.sm) (by rw[aH,aH];omega) λMo H14 uy=>?_
  try dsimp only[aG]
  rw[<-dX] at uy;have bl:33<=(j_ N.aa.length (c/65%1000000000)++gJ N (c/65%1000000000)).length:=by rw[bS];omega
  generalize j_ N.aa.length (c/65%1000000000)++gJ N (c/65%1000000000)=BR at bad uy bl;have GO:=GN.trans uy.sm;have eB:(bq (BR.map jn)).length=BR.length:=by rw[ja,aH]
  obtain⟨j,hj,jl⟩:=mJ (c/11) (k:=(BR.length:Int)) (by omega)
  have jl:j<BR.length:=by omega
  obtain⟨ro,nn⟩:=bad BR[j] (pA jl);obtain⟨ES,rl2,rk2,rf2⟩:=ro.row (N:=N);refine⟨_,rfl,_,rfl,_,rfl,_,_,rfl,rfl,⟨by decide,by decide⟩,_,rfl,Mo,_,rfl,.inl (ai.of uy.at'),_,_,rfl,rfl,(by rw[eB];omega),Mo,_,_,.str (jn BR[j]),rfl,rfl,ai.of uy.at',?_,?_⟩
  ·rw[eB,hj]
   refine c7 ?_;show ((BR.map jn).map V.str)[j]?=_;rw[eu,eu,cw jl];rfl
  ·refine⟨x,dx,b,d,t,g,f,ts,gs,N,jn BR[j],rfl,n1.same GO,ok.b6,rl2,by rw[ES];exact rk2,by rw[ES];exact rf2,by rw[ES];exact nn,λH15 Sy=>⟨_,rfl,bt ?_⟩⟩
   exact⟨_,_,_,_,_,_,_,rfl,GO.trans Sy⟩
 ·rintro σ H2 ⟨o4,o5,o6,o7,o8,o9,Ea,rfl,S2⟩
  refine⟨by show 2<=sizeLine;decide,λe te ne=>?_⟩
  refine⟨e,te,_,_,rfl,aA,λiE t' nd=>⟨rfl,?_⟩⟩
  have qB:iE≠e:=λz=>by rw[z,aA] at nd;cases nd
  rw[bg qB] at nd
  try dsimp only[aG]
  have SH:ae H2 (upd (upd (upd (upd H2 e (.ext (cq AR.a_ te none e))) e (.ext (cq AR.a_ t' none e))) iE (.xd [(zalias233z "row",.int 4)])) e (.ext (cq AR.a_ t' (some iE) e))):=λb o h=>by
   have h1:=e6 h ne;have h2:=e6 h nd;rw[bg h1,bg h2,bg h1,bg h1];exact h
  have he:=aA (H:=upd (upd (upd H2 e (.ext (cq AR.a_ te none e))) e (.ext (cq AR.a_ t' none e))) iE (.xd [(zalias233z "row",.int 4)])) (a:=e) (o:=.ext (cq AR.a_ t' (some iE) e));have hd:(upd (upd (upd (upd H2 e (.ext (cq AR.a_ te none e))) e (.ext (cq AR.a_ t' none e))) iE (.xd [(zalias233z "row",.int 4)])) e (.ext (cq AR.a_ t' (some iE) e))) iE=some (.xd [(zalias233z "row",.int 4)]):=by
   rw[bg qB];exact aA
  generalize upd (upd (upd (upd H2 e (.ext (cq AR.a_ te none e))) e (.ext (cq AR.a_ t' none e))) iE (.xd [(zalias233z "row",.int 4)])) e (.ext (cq AR.a_ t' (some iE) e))=H3 at SH he hd ⊢;have T3:=S2.trans SH;obtain⟨rs,rl,rk,rf⟩:=abi.row (N:=N);refine⟨_,rfl,x,dx,b,d,t,g,f,ts,gs,N,.aR,none,rfl,n1.same T3,rfl,(λq e=>nomatch e),(λw hw=>by rw[dc.mp hw];exact(by decide:4<=1600)),λH4 S4=>?_⟩
  refine⟨rfl,_,rfl,?_⟩;rw[decide_eq_true (show V.str (fo (sg 32) (tK N none))=V.str (zalias233z "none") from rfl)]
  refine bI ?_;have T4:=T3.trans S4;refine⟨_,rfl,x,dx,b,d,t,g,f,ts,gs,N,zalias233z "none",rfl,n1.same T4,ok.b6,rl,?_,?_,?_,?_⟩
  ·rw[show cO 32 (zalias233z "none")=[iK] from rs];exact rk
  ·rw[show cO 32 (zalias233z "none")=[iK] from rs];exact rf
  ·rw[show cO 32 (zalias233z "none")=[iK] from rs]
   intro P' e5 v5 H5 S5 p5;have eP:P'=none:=(a6 ((show cN N [iK]=some none from rfl).symm.trans e5)).symm
   subst eP;obtain rfl:v5=V.aR:=p5;refine⟨rfl,_,rfl,?_⟩;rw[decide_eq_true rfl];refine bI ?_;refine⟨_,rfl,e,AR.a_,t',iE,[(zalias233z "row",V.int 4)],V.int 4,rfl,(S4.trans S5) _ _ he,(S4.trans S5) _ _ hd,rfl,trivial,T.wG,T.FW,T.FZ.hd,rfl,?_⟩;rw[decide_eq_true rfl];exact hQ _
  ·rw[show cO 32 (zalias233z "none")=[iK] from rs]
   exact λe5=>absurd e5 (by rw[show cN N [iK]=some none from rfl];exact λz=>nomatch z)
end
theorem r_{us:List Value}{n:Nat}(hl:us.length=n+1):∃a r,us=a::r/\r.length=n:=by cases us with|nil=>cases hl|cons a r=>exact⟨a,r,rfl,ahR hl⟩
theorem ai4{us:List Value}(hl:us.length=0):us=[]:=Se hl
theorem V9{us:List Value}(hl:us.length=0):us=[]:=Se hl
theorem V_{us:List Value}(hl:us.length=1):∃a0,us=[a0]:=by obtain⟨a,r,rfl,h⟩:=r_ hl;obtain rfl:=V9 h;exact⟨a,rfl⟩
theorem Wa{us:List Value}(hl:us.length=2):∃a0 a1,us=[a0,a1]:=by obtain⟨a,r,rfl,h⟩:=r_ hl;obtain⟨_,rfl⟩:=V_ h;exact⟨a,_,rfl⟩
theorem Ig{us:List Value}(hl:us.length=3):∃a0 a1 a2,us=[a0,a1,a2]:=by obtain⟨a,r,rfl,h⟩:=r_ hl;obtain⟨_,_,rfl⟩:=Wa h;exact⟨a,_,_,rfl⟩
theorem Ih{us:List Value}(hl:us.length=4):∃a0 a1 a2 a3,us=[a0,a1,a2,a3]:=by obtain⟨a,r,rfl,h⟩:=r_ hl;obtain⟨_,_,_,rfl⟩:=Ig h;exact⟨a,_,_,_,rfl⟩
theorem Wb{us:List Value}(hl:us.length=5):∃a0 a1 a2 a3 a4,us=[a0,a1,a2,a3,a4]:=by obtain⟨a,r,rfl,h⟩:=r_ hl;obtain⟨_,_,_,_,rfl⟩:=Ih h;exact⟨a,_,_,_,_,rfl⟩
theorem Wc{us:List Value}(hl:us.length=6):∃a0 a1 a2 a3 a4 a5,us=[a0,a1,a2,a3,a4,a5]:=by obtain⟨a,r,rfl,h⟩:=r_ hl;obtain⟨_,_,_,_,_,rfl⟩:=Wb h;exact⟨a,_,_,_,_,_,rfl⟩
set_option maxHeartbeats 0 in
theorem all_mk{l:RT}{w:World}{K:aj}{h:Heap}{mg:Str->Option Value}{fa zx Aa z_ nH zM zO zN zI zJ zG zE zH zL zR zU zQ zK zP zF zS si zm zW sd zV se zq lx nY sL nN sN sf sj sk zY kh nG zp nF z9 Af z4 zt nQ Ac zv zZ zu nR zr jH nV nU Ab nP nW nT nO sG Ae sI sC sM nX Ad sE so sx sD sH su sF sq sJ sy sA zo nM nJ zy zw jg ia ib kj z8 nK nL Ag zX z5 zB zC zD zT zA aC bc cf a_ iu iP iw ix iQ iR rz rq rn rp pI pG pH:Addr}(X:K.In h)(G:h.Ns mainGlobals mg)(YA:mg "law" = some (.ref fa))
  {xO yN yM yc ye yd xZ x_ xX xV xY yb yh yk yg ya yf xW yi rX xy yp xF yl xI xC xE zb yR yQ y_ xR yo rY yr ke xB yL y8 yv xJ yW y4 xM yt xK yX xG yV y1 yZ yT yU y2 yY yS yG y7 yI yB rZ y3 y6 yE yu yy yD yH yx yF yw yJ yz yA xA yO xH xP xN ym xD za yP yK xQ yn zc yq yC xS xT xU yj rW:FuncData}
  {abC Tt:Option Addr} {aeE:Array (Option Value)} {abx ZT Vx ady HC Vo:Value}
  {abB Ts:Option Addr} {aeD:Array (Option Value)} {abw ZS Vw adx HB Vn:Value}
  {abA Tr:Option Addr} {aeC:Array (Option Value)} {abv ZR Vv adw HA Vm:Value}
  {Jm:Int} {ago:Tok} {Jn:Int} {agp:Tok} {Jr:Int} {agt:Tok} {Js:Int} {agu:Tok} {Jt:Int} {agv:Tok} {Ju:Int} {agw:Tok} {Jv:Int} {agx:Tok} {Jw:Int} {agy:Tok} {Jx:Int} {agz:Tok} {Jy:Int} {agA:Tok} {Jo:Int} {agq:Tok} {Jp:Int} {agr:Tok} {Jq:Int} {ags:Tok} {V4:Nat}
  {IZ:Int} {af7:Tok} {I_:Int} {af8:Tok} {Je:Int} {agd:Tok} {Jf:Int} {age:Tok} {Jg:Int} {agf:Tok} {Jh:Int} {agg:Tok} {Ji:Int} {agh:Tok} {Jj:Int} {agi:Tok} {Jk:Int} {agj:Tok} {Jl:Int} {agk:Tok} {Ja:Int} {af9:Tok} {Jb:Int} {aga:Tok} {Jc:Int} {agb:Tok} {Jd:Int} {agc:Tok} {V3:Nat}
  {II:Int} {afy:Tok} {IJ:Int} {afz:Tok} {IK:Int} {afA:Tok} {V1:Nat}
  {IL:Int} {afF:Tok} {IM:Int} {afG:Tok} {IQ:Int} {afI:Tok} {IS:Int} {afJ:Tok} {IT:Int} {afK:Tok} {IU:Int} {afL:Tok} {IV:Int} {afM:Tok} {IW:Int} {afN:Tok} {IX:Int} {afO:Tok} {IY:Int} {afP:Tok} {IP:Int} {afH:Tok} {V2:Nat}
  {abE:Option Addr} {aeG:Array (Option Value)} {aa8:Nat} {agl:Tok} {agm:Tok} {agn:Tok}
  {abz:Option Addr} {aeB:Array (Option Value)} {aa6:Nat} {afB:Tok} {afC:Tok} {afD:Tok}
  {abD:Option Addr} {aeF:Array (Option Value)} {aa7:Nat} {afV:Tok} {afW:Tok} {afZ:Tok} {af0:Tok} {af1:Tok} {af2:Tok} {af3:Tok} {af4:Tok} {af5:Tok} {af6:Tok} {afX:Tok} {afY:Tok}
  {afU:Tok}
  {afQ:Tok}
  {afE:Tok}
  {afR:Tok}
  {afS:Tok}
  {afT:Tok}
  (SR:cC K mainGlobals "Net" = some (some (.ref aC)))
  (SO:cC K mainGlobals "Cursor" = some (some (.ref bc)))
  (SQ:cC K mainGlobals "HallError" = some (some (.ref cf)))
  (SM:cC K mainGlobals "BadPaper" = some (some (.ref a_)))
  (SJ:cC K mainGlobals "BadAsk" = some (some (.ref iu)))
  (SK:cC K mainGlobals "BadNet" = some (some (.ref iP)))
  (SN:cC K mainGlobals "BadText" = some (some (.ref iw)))
  (SU:cC K mainGlobals "NoGo" = some (some (.ref ix)))
  (SV:cC K mainGlobals "TooWide" = some (some (.ref iQ)))
  (SW:cC K mainGlobals "Unlike" = some (some (.ref iR)))
  (WV:Df K mg "is_name" "is_name" MW zx xO ["word"])
  (XT:Df K mg "refuse_bad_names" "refuse_bad_names" NV Aa yN ["names","least","most"])
  (XS:Df K mg "refuse_bad_bags" "refuse_bad_bags" NU z_ yM ["bags","many","width"])
  (Tg:eg K (.ref aC) "__init__" = some (some (.ref nH)))
  (Zj:Gk K (.ref nH)=true)
  (aaq:K.lookup nH=some ⟨abx,abC,.func (kT "__init__" "Net.__init__" (lp tR) (iY tR) (eU tR) .none ZT Vx ady Tt HC Vo),aeE⟩)
  (UO:uq K HC "Net.__init__" = true)
  (ZW:jz K (.ref nH)=true)
  (Xe:Df K mg "_law_mixed" "_law_mixed" Nd zM yc ["script","k"])
  (Xg:Df K mg "_law_names" "_law_names" Ng zO ye ["script","k","many"])
  (Xf:Df K mg "_law_named_net" "_law_named_net" Nf zN yd ["script"])
  (Xa:Df K mg "_law_count" "_law_count" M_ zI xZ ["cell","j"])
  (Xb:Df K mg "_law_doors" "_law_doors" Na zJ x_ ["cell","many"])
  (W9:Df K mg "_law_blocks" "_law_blocks" M8 zG xX ["cell","many"])
  (W5:Df K mg "_law_bag" "_law_bag" M6 zE xV ["cell","size","sign"])
  (W_:Df K mg "_law_bowls" "_law_bowls" M9 zH xY ["cell","size"])
  (Xd:Df K mg "_law_mark" "_law_mark" Nc zL yb ["cell","size"])
  (Xk:Df K mg "_law_reason" "_law_reason" Nk zR yh ["cell","size"])
  (Xn:Df K mg "_law_rows_of" "_law_rows_of" Nn zU yk ["kind","cell","size"])
  (Xi:Df K mg "_law_paper" "_law_paper" Ni zQ yg ["cell","size","many"])
  (Xc:Df K mg "_law_list_row" "_law_list_row" Nb zK ya ["names","places"])
  (Xh:Df K mg "_law_pair_row" "_law_pair_row" Nh zP yf ["net","pair"])
  (W7:Df K mg "_law_bag_row" "_law_bag_row" M7 zF xW ["bag"])
  (Xl:Df K mg "_law_reason_row" "_law_reason_row" Nl zS yi ["net","reason"])
  (Xj:Df K mg "_law_pieces" "_law_pieces" Nj si rX ["net","paper"])
  (WG:Df K mg "all_words" "all_words" MH zm xy ["lists"])
  (Xs:Df K mg "names_words" "names_words" Nu zW yp ["names","places"])
  (WM:Df K mg "blocks_words" "blocks_words" MN sd xF ["net","paper"])
  (Xo:Df K mg "loops_words" "loops_words" Np zV yl ["loops"])
  (WQ:Df K mg "branch_words" "branch_words" MQ se xI ["net","paper"])
  (WJ:Df K mg "bag_words" "bag_words" MK zq xC ["bag"])
  (WL:Df K mg "bags_words" "bags_words" MM lx xE ["net","paper"])
  (Yi:Df K mg "weights_words" "weights_words" Oh nY zb ["net","paper"])
  (XY:Df K mg "sum_words" "sum_words" NZ sL yR ["net","paper"])
  (XX:Df K mg "set_words" "set_words" NY nN yQ ["net","paper"])
  (Yg:Df K mg "trap_words" "trap_words" Of sN y_ ["net","reason"])
  (WY:Df K mg "kept_words" "kept_words" MZ sf xR ["net","paper"])
  (Xr:Df K mg "most_words" "most_words" Nt sj yo ["net","paper"])
  (Xv:Df K mg "paper_words" "paper_words" Nx sk rY ["net","paper"])
  (Xu:Df K mg "paper_text" "paper_text" Nw zY yr ["net","paper"])
  (WZ:Df K mg "_law_alike" "_law_alike" M1 kh ke ["found","due"])
  (Tf:eg K (.ref bc) "__init__" = some (some (.ref nG)))
  (Zi:Gk K (.ref nG)=true)
  (aap:K.lookup nG=some ⟨abw,abB,.func (kT "__init__" "Cursor.__init__" (lp tQ) (iY tQ) (eU tQ) .none ZS Vw adx Ts HB Vn),aeD⟩)
  (UH:uq K HB "Cursor.__init__" = true)
  (ZV:jz K (.ref nG)=true)
  (WI:Df K mg "at_end" "at_end" MJ zp xB ["cursor"])
  (Te:eg K (.ref a_) "__init__" = some (some (.ref nF)))
  (Zh:Gk K (.ref nF)=true)
  (aao:K.lookup nF=some ⟨abv,abA,.func (kT "__init__" "BadPaper.__init__" (lp tP) (iY tP) (eU tP) .none ZR Vv adw Tr HA Vm),aeC⟩)
  (UG:uq K HA "BadPaper.__init__" = true)
  (ZU:jz K (.ref nF)=true)
  (XR:Df K mg "refuse" "refuse" NT z9 yL ["cursor"])
  (Ye:Df K mg "take_word" "take_word" Oe Af y8 ["cursor"])
  (Xy:Df K mg "read_count" "read_count" NA z4 yv ["word","figures"])
  (WR:Df K mg "count_or_refuse" "count_or_refuse" MS zt xJ ["cursor","word"])
  (X3:Df K mg "take_count" "take_count" N4 nQ yW ["cursor"])
  (Yb:Df K mg "take_sign" "take_sign" Ob Ac y4 ["cursor","sign"])
  (WT:Df K mg "is_ahead" "is_ahead" MU zv xM ["cursor","word"])
  (Xw:Df K mg "place_of" "place_of" Ny zZ yt ["names","name"])
  (WS:Df K mg "door_at" "door_at" MT zu xK ["net","name"])
  (X4:Df K mg "take_door" "take_door" N5 nR yX ["cursor"])
  (WN:Df K mg "bowl_at" "bowl_at" MO zr xG ["net","name"])
  (X2:Df K mg "take_bowl" "take_bowl" N3 jH yV ["cursor"])
  (X8:Df K mg "take_number" "take_number" N9 nV y1 ["cursor"])
  (X7:Df K mg "take_mark_number" "take_mark_number" N8 nU yZ ["cursor"])
  (X0:Df K mg "take_between" "take_between" N1 Ab yT ["cursor","left","right","take"])
  (X1:Df K mg "take_block" "take_block" N2 nP yU ["cursor"])
  (X9:Df K mg "take_pair" "take_pair" N_ nW y2 ["cursor"])
  (X6:Df K mg "take_mark" "take_mark" N7 nT yY ["cursor"])
  (XZ:Df K mg "take_beads" "take_beads" N0 nO yS ["cursor"])
  (XJ:Df K mg "read_trap" "read_trap" NO sG yG ["cursor"])
  (Yd:Df K mg "take_weights" "take_weights" Od Ae y7 ["cursor"])
  (XN:Df K mg "read_weight" "read_weight" NQ sI yI ["cursor"])
  (XE:Df K mg "read_none" "read_none" NH sC yB ["cursor"])
  (X5:Df K mg "take_form" "take_form" N6 sM rZ ["cursor","forms"])
  (X_:Df K mg "take_reason" "take_reason" Oa nX y3 ["cursor"])
  (Yc:Df K mg "take_to_end" "take_to_end" Oc Ad y6 ["cursor","take"])
  (XH:Df K mg "read_run" "read_run" NL sE yE ["cursor"])
  (Xx:Df K mg "read_branch" "read_branch" Nz so yu ["cursor"])
  (XB:Df K mg "read_fence" "read_fence" ND sx yy ["cursor"])
  (XG:Df K mg "read_room" "read_room" NK sD yD ["cursor"])
  (XM:Df K mg "read_wants" "read_wants" NP sH yH ["cursor"])
  (XA:Df K mg "read_fall" "read_fall" NC su yx ["cursor"])
  (XI:Df K mg "read_sum" "read_sum" NM sF yF ["cursor"])
  (Xz:Df K mg "read_dry" "read_dry" NB sq yw ["cursor"])
  (XO:Df K mg "read_wet" "read_wet" NR sJ yJ ["cursor"])
  (XC:Df K mg "read_kept" "read_kept" NF sy yz ["cursor"])
  (XD:Df K mg "read_most" "read_most" NG sA yA ["cursor"])
  (WH:Df K mg "are_doors" "are_doors" MI zo xA ["net","doors"])
  (XU:Df K mg "run_well_made" "run_well_made" NW nM yO ["net","paper"])
  (WO:Df K mg "branch_well_made" "branch_well_made" MP nJ xH ["net","paper"])
  (WW:Df K mg "is_wide_enough" "is_wide_enough" MX zy xP ["net","bag"])
  (WU:Df K mg "is_mark" "is_mark" MV zw xN ["net","mark"])
  (Xp:Df K mg "marks_well_made" "marks_well_made" Nq jg ym ["net","paper"])
  (WK:Df K mg "bags_well_made" "bags_well_made" ML ia xD ["net","paper"])
  (Yh:Df K mg "weights_well_made" "weights_well_made" Og ib za ["net","paper"])
  (XW:Df K mg "set_well_made" "set_well_made" NX kj yP ["net","paper"])
  (XQ:Df K mg "reason_well_made" "reason_well_made" NS z8 yK ["net","reason"])
  (WX:Df K mg "kept_well_made" "kept_well_made" MY nK xQ ["net","paper"])
  (Xq:Df K mg "most_well_made" "most_well_made" Nr nL yn ["net","paper"])
  (Yj:Df K mg "well_made" "well_made" Oi Ag zc ["net","paper"])
  (Xt:Df K mg "paper_of_row" "paper_of_row" Nv zX yq ["net","row","number"])
  (XF:Df K mg "read_paper" "read_paper" NJ z5 yC ["net","row"])
  (W0:Df K mg "_law_bad_bag" "_law_bad_bag" M3 zB xS ["size","number","word"])
  (W2:Df K mg "_law_bad_bags" "_law_bad_bags" M4 zC xT ["size","number"])
  (W3:Df K mg "_law_bad_words" "_law_bad_words" M5 zD xU ["net","number"])
  (Xm:Df K mg "_law_refused" "_law_refused" Nm zT yj ["net","row"])
  (Jz:Df K mg "law" "law" M0 zA rW ["script"])
  (ado:B4 K aC ay=true)
  (Yv:pq K aC=true)
  (adA:Gn K aC=true)
  (ael:eg K (.ref aC) "__setattr__" = some (some (.builtin "object.__setattr__")))
  (DW:Gm K aC=true)
  (ZZ:jz K (.ref aC)=true)
  (gy:eg K (.ref aC) "bowls" = some none)
  (gZ:eg K (.ref aC) "doors" = some none)
  (D1:eg K (.ref aC) "takes" = some none)
  (DZ:eg K (.ref aC) "gives" = some none)
  (DY:eg K (.ref aC) "first" = some none)
  (adn:B4 K bc ay=true)
  (Yu:pq K bc=true)
  (adz:Gn K bc=true)
  (aek:eg K (.ref bc) "__setattr__" = some (some (.builtin "object.__setattr__")))
  (DV:Gm K bc=true)
  (ZY:jz K (.ref bc)=true)
  (vK:eg K (.ref bc) "net" = some none)
  (tu:eg K (.ref bc) "words" = some none)
  (oC:eg K (.ref bc) "place" = some none)
  (AQ:eg K (.ref bc) "number" = some none)
  (ec_HallError:cF K cf dP=true)
  (xp_HallError:((uo K cf).map (·.ns)).bind (λN=>cC K N "__init__")=some none)
  (ec_BadPaper:cF K a_ (.ref cf::dP)=true)
  (ahn:eg K (.ref a_) "__setattr__" = some (some (.builtin "object.__setattr__")))
  (ahf:pq K a_=true)
  (ZX:jz K (.ref a_)=true)
  (ahc:eg K (.ref a_) "__getattribute__" = some (some (.builtin "BaseException.__getattribute__")))
  (ahd:eg K (.ref a_) "__getattr__" = some none)
  (ag9:eg K (.ref a_) "__class__" = some (some (.builtin "object.__class__")))
  (aha:RX K (.builtin "object.__class__") "__get__" = some (some (.builtin "getset_descriptor.__get__")))
  (ahb:aio K (.builtin "object.__class__")=some true)
  (ahq:eg K (.ref a_) "row" = some none)
  (ec_BadAsk:cF K iu (.ref cf::dP)=true)
  (ahm:eg K (.ref iu) "__setattr__" = some (some (.builtin "object.__setattr__")))
  (ahe:pq K iu=true)
  (ec_BadNet:cF K iP (.ref cf::dP)=true)
  (xp_BadNet:((uo K iP).map (·.ns)).bind (λN=>cC K N "__init__")=some none)
  (ec_BadText:cF K iw (.ref cf::dP)=true)
  (aho:eg K (.ref iw) "__setattr__" = some (some (.builtin "object.__setattr__")))
  (ahg:pq K iw=true)
  (ec_NoGo:cF K ix (.ref cf::dP)=true)
  (ahp:eg K (.ref ix) "__setattr__" = some (some (.builtin "object.__setattr__")))
  (ahh:pq K ix=true)
  (ec_TooWide:cF K iQ (.ref cf::dP)=true)
  (xp_TooWide:((uo K iQ).map (·.ns)).bind (λN=>cC K N "__init__")=some none)
  (ec_Unlike:cF K iR (.ref cf::dP)=true)
  (xp_Unlike:((uo K iR).map (·.ns)).bind (λN=>cC K N "__init__")=some none)
  (xbg:RX K (.ref cf) "__getattribute__" = some (some (.builtin "type.__getattribute__")))
  (xbr:PySem.W.readsIn K cf (.type "type")=true)
  (xbf:PySem.W.findCls K (.ref cf) (.type "type") "__init__" = some (.val (.builtin "ValueError.__init__")))
  (ne_BadAsk_HallError:iu≠cf)
  (ne_BadAsk_BadPaper:iu≠a_)
  (ne_BadNet_HallError:iP≠cf)
  (ne_BadNet_BadPaper:iP≠a_)
  (ne_BadText_HallError:iw≠cf)
  (ne_BadText_BadPaper:iw≠a_)
  (ne_NoGo_HallError:ix≠cf)
  (ne_NoGo_BadPaper:ix≠a_)
  (ne_TooWide_HallError:iQ≠cf)
  (ne_TooWide_BadPaper:iQ≠a_)
  (ne_Unlike_HallError:iR≠cf)
  (ne_Unlike_BadPaper:iR≠a_)
  (Ta:cC K mainGlobals "WRITERS" = some (some (.ref rz)))
  (aak:K.lookup rz=some ⟨.type "dict",none,.dict #[⟨Jm,.str (zalias233z "run") ago,.ref sd⟩,⟨Jn,.str (zalias233z "branch") agp,.ref se⟩,⟨Jr,.str (zalias233z "fence") agt,.ref lx⟩,⟨Js,.str (zalias233z "room") agu,.ref lx⟩,⟨Jt,.str (zalias233z "wants") agv,.ref lx⟩,⟨Ju,.str (zalias233z "fall") agw,.ref nY⟩,⟨Jv,.str (zalias233z "sum") agx,.ref sL⟩,⟨Jw,.str (zalias233z "dry") agy,.ref nN⟩,⟨Jx,.str (zalias233z "wet") agz,.ref nN⟩,⟨Jy,.str (zalias233z "kept") agA,.ref sf⟩,⟨Jo,.str (zalias233z "trap") agq,.ref sN⟩,⟨Jp,.str (zalias233z "weight") agr,.ref nY⟩,⟨Jq,.str (zalias233z "most") ags,.ref sj⟩] V4,#[]⟩)
  (hD_WRITERS_0:Jm=cj w (.inr (zalias233z "run")))
  (hD_WRITERS_1:Jn=cj w (.inr (zalias233z "branch")))
  (hD_WRITERS_2:Jr=cj w (.inr (zalias233z "fence")))
  (hD_WRITERS_3:Js=cj w (.inr (zalias233z "room")))
  (hD_WRITERS_4:Jt=cj w (.inr (zalias233z "wants")))
  (hD_WRITERS_5:Ju=cj w (.inr (zalias233z "fall")))
  (hD_WRITERS_6:Jv=cj w (.inr (zalias233z "sum")))
  (hD_WRITERS_7:Jw=cj w (.inr (zalias233z "dry")))
  (hD_WRITERS_8:Jx=cj w (.inr (zalias233z "wet")))
  (hD_WRITERS_9:Jy=cj w (.inr (zalias233z "kept")))
  (hD_WRITERS_10:Jo=cj w (.inr (zalias233z "trap")))
  (hD_WRITERS_11:Jp=cj w (.inr (zalias233z "weight")))
  (hD_WRITERS_12:Jq=cj w (.inr (zalias233z "most")))
  (sD_WRITERS:(rz==sysModules)=false)
  (S_:cC K mainGlobals "READERS" = some (some (.ref rq)))
  (aaj:K.lookup rq=some ⟨.type "dict",none,.dict #[⟨IZ,.str (zalias233z "run") af7,.ref sE⟩,⟨I_,.str (zalias233z "branch") af8,.ref so⟩,⟨Je,.str (zalias233z "fence") agd,.ref sx⟩,⟨Jf,.str (zalias233z "room") age,.ref sD⟩,⟨Jg,.str (zalias233z "wants") agf,.ref sH⟩,⟨Jh,.str (zalias233z "fall") agg,.ref su⟩,⟨Ji,.str (zalias233z "sum") agh,.ref sF⟩,⟨Jj,.str (zalias233z "dry") agi,.ref sq⟩,⟨Jk,.str (zalias233z "wet") agj,.ref sJ⟩,⟨Jl,.str (zalias233z "kept") agk,.ref sy⟩,⟨Ja,.str (zalias233z "trap") af9,.ref sG⟩,⟨Jb,.str (zalias233z "weight") aga,.ref sI⟩,⟨Jc,.str (zalias233z "most") agb,.ref sA⟩,⟨Jd,.str (zalias233z "none") agc,.ref sC⟩] V3,#[]⟩)
  (hD_READERS_0:IZ=cj w (.inr (zalias233z "run")))
  (hD_READERS_1:I_=cj w (.inr (zalias233z "branch")))
  (hD_READERS_2:Je=cj w (.inr (zalias233z "fence")))
  (hD_READERS_3:Jf=cj w (.inr (zalias233z "room")))
  (hD_READERS_4:Jg=cj w (.inr (zalias233z "wants")))
  (hD_READERS_5:Jh=cj w (.inr (zalias233z "fall")))
  (hD_READERS_6:Ji=cj w (.inr (zalias233z "sum")))
  (hD_READERS_7:Jj=cj w (.inr (zalias233z "dry")))
  (hD_READERS_8:Jk=cj w (.inr (zalias233z "wet")))
  (hD_READERS_9:Jl=cj w (.inr (zalias233z "kept")))
  (hD_READERS_10:Ja=cj w (.inr (zalias233z "trap")))
  (hD_READERS_11:Jb=cj w (.inr (zalias233z "weight")))
  (hD_READERS_12:Jc=cj w (.inr (zalias233z "most")))
  (hD_READERS_13:Jd=cj w (.inr (zalias233z "none")))
  (sD_READERS:(rq==sysModules)=false)
  (SX:cC K mainGlobals "BOUNDS" = some (some (.ref rn)))
  (aah:K.lookup rn=some ⟨.type "dict",none,.dict #[⟨II,.str (zalias233z "fence") afy,.ref jg⟩,⟨IJ,.str (zalias233z "room") afz,.ref ia⟩,⟨IK,.str (zalias233z "fall") afA,.ref ib⟩] V1,#[]⟩)
  (hD_BOUNDS_0:II=cj w (.inr (zalias233z "fence")))
  (hD_BOUNDS_1:IJ=cj w (.inr (zalias233z "room")))
  (hD_BOUNDS_2:IK=cj w (.inr (zalias233z "fall")))
  (sD_BOUNDS:(rn==sysModules)=false)
  (SY:cC K mainGlobals "MAKERS" = some (some (.ref rp)))
  (aai:K.lookup rp=some ⟨.type "dict",none,.dict #[⟨IL,.str (zalias233z "run") afF,.ref nM⟩,⟨IM,.str (zalias233z "branch") afG,.ref nJ⟩,⟨IQ,.str (zalias233z "fence") afI,.ref jg⟩,⟨IS,.str (zalias233z "room") afJ,.ref ia⟩,⟨IT,.str (zalias233z "wants") afK,.ref ia⟩,⟨IU,.str (zalias233z "fall") afL,.ref ib⟩,⟨IV,.str (zalias233z "sum") afM,.ref ib⟩,⟨IW,.str (zalias233z "dry") afN,.ref kj⟩,⟨IX,.str (zalias233z "wet") afO,.ref kj⟩,⟨IY,.str (zalias233z "kept") afP,.ref nK⟩,⟨IP,.str (zalias233z "most") afH,.ref nL⟩] V2,#[]⟩)
  (hD_MAKERS_0:IL=cj w (.inr (zalias233z "run")))
  (hD_MAKERS_1:IM=cj w (.inr (zalias233z "branch")))
  (hD_MAKERS_2:IQ=cj w (.inr (zalias233z "fence")))
  (hD_MAKERS_3:IS=cj w (.inr (zalias233z "room")))
  (hD_MAKERS_4:IT=cj w (.inr (zalias233z "wants")))
  (hD_MAKERS_5:IU=cj w (.inr (zalias233z "fall")))
  (hD_MAKERS_6:IV=cj w (.inr (zalias233z "sum")))
  (hD_MAKERS_7:IW=cj w (.inr (zalias233z "dry")))
  (hD_MAKERS_8:IX=cj w (.inr (zalias233z "wet")))
  (hD_MAKERS_9:IY=cj w (.inr (zalias233z "kept")))
  (hD_MAKERS_10:IP=cj w (.inr (zalias233z "most")))
  (sD_MAKERS:(rp==sysModules)=false)
  (Td:cC K mainGlobals "REASON_FORMS" = some (some (.ref pI)))
  (aan:K.lookup pI=some ⟨.type "tuple",abE,.seq #[.str (zalias233z "trap") agl,.str (zalias233z "weight") agm,.str (zalias233z "none") agn] aa8,aeG⟩)
  (Tb:cC K mainGlobals "BOUND_FORMS" = some (some (.ref pG)))
  (aal:K.lookup pG=some ⟨.type "tuple",abz,.seq #[.str (zalias233z "fence") afB,.str (zalias233z "room") afC,.str (zalias233z "fall") afD] aa6,aeB⟩)
  (Tc:cC K mainGlobals "PAPER_FORMS" = some (some (.ref pH)))
  (aam:K.lookup pH=some ⟨.type "tuple",abD,.seq #[.str (zalias233z "run") afV,.str (zalias233z "branch") afW,.str (zalias233z "fence") afZ,.str (zalias233z "room") af0,.str (zalias233z "wants") af1,.str (zalias233z "fall") af2,.str (zalias233z "sum") af3,.str (zalias233z "dry") af4,.str (zalias233z "wet") af5,.str (zalias233z "kept") af6,.str (zalias233z "most") afX,.str (zalias233z "none") afY] aa7,aeF⟩)
  (Ww:cC K mainGlobals "MOST_SIGNS" = some (some (.int 8 afU)))
  (Ws:cC K mainGlobals "MOST_BEADS" = some (some (.int 1000000000 afQ)))
  (Wr:cC K mainGlobals "LEAST_BOWLS" = some (some (.int 1 afE)))
  (Wt:cC K mainGlobals "MOST_BOWLS" = some (some (.int 6 afR)))
  (Wu:cC K mainGlobals "MOST_DOORS" = some (some (.int 8 afS)))
  (Wv:cC K mainGlobals "MOST_FIGURES" = some (some (.int 1000 afT)))
  (dG:cC K mainGlobals "len" = some none)
  (j1:cC K mainGlobals "all" = some none)
  (BU:cC K mainGlobals "set" = some none)
  (kP:cC K mainGlobals "list" = some none)
  (fA:cC K mainGlobals "range" = some none)
  (oV:cC K mainGlobals "int" = some none)
  (gC:cC K mainGlobals "str" = some none)
  (e9:cC K mainGlobals "isinstance" = some none)
  (BS:cC K mainGlobals "bool" = some none)
  (uc:cC K mainGlobals "tuple" = some none)
  (F1:cC K mainGlobals "any" = some none)
  (F2:cC K mainGlobals "sorted" = some none)
  (F0:cC K mainGlobals "ValueError" = some none)
  (hb:∀(s:Shared) (v:Value),BindsTo s rW ⟨[v],[]⟩ [("script",v)])
  : ∃fd:FuncData,(∀(s:Shared) (v:Value),BindsTo s fd ⟨[v],[]⟩ [("script",v)])/\∀base:Heap,K.In base->base.Ns mainGlobals mg->base.NoDigits->ax l.prog w K mg base a8 21 fa fd ["script"] (wc K):=by
 have e:=YA.symm.trans Jz.m
 cases e;have wV:=Ai (st:=tR) aaq UO ZW;have CF:=wV.binds (ps:=["self","bowls","doors","takes","gives","first"]) λ_ _ _ _ _ _ us hl=>by obtain⟨_,_,_,_,_,_,rfl⟩:=Wc hl;rfl
 have wU:=Ai (st:=tQ) aap UH ZV;have CD:=wU.binds (ps:=["self","net","row","number"]) λ_ _ _ _ _ _ us hl=>by obtain⟨_,_,_,_,rfl⟩:=Ih hl;rfl
 have wR:=Ai (st:=tP) aao UG ZU;have xh:=wR.binds (ps:=["self","words","row"]) λ_ _ _ _ _ _ us hl=>by obtain⟨_,_,_,rfl⟩:=Ig hl;rfl
 have T:Txt w K mg (rm.mk _ _ _ _ _ _ _ _ _ _ _ _ _ _ _ _ _ _ _ _ _ _ _ _ _ _ _ _ _ _ _ _ _ _ _ _ _ _ _ _ _ _ _ _ _ _ _ _ _ _ _ _ _ _ _ _ _ _ _ _ _ _ _ _ _ _ _ _ _ _ _ _ _ _ _ _ _ _ _ _ _ _ _ _ _ _ _ _ _ _ _ _ _ _ _ _ _ _ _ _ _ _ _ _ _ _ _ _ _ _ _ _ _ _) (wW.mk _ _ _ _ _ _ _ _ _ _ _ _ _ _ _ _ _ _ _ _ _ _ _ _ _ _ _ _ _ _ _ _ _ _ _ _ _ _ _ _ _ _ _ _ _ _ _ _ _ _ _ _ _ _ _ _ _ _ _ _ _ _ _ _ _ _ _ _ _ _ _ _ _ _ _ _ _ _ _ _ _ _ _ _ _ _ _ _ _ _ _ _ _ _ _ _ _):=⟨WV,XT,XS,wV,CF,Xe,Xg,Xf,Xa,Xb,W9,W5,W_,Xd,Xk,Xn,Xi,Xc,Xh,W7,Xl,Xj,WG,Xs,WM,Xo,WQ,WJ,WL,Yi,XY,XX,Yg,WY,Xr,Xv,Xu,WZ,wU,CD,WI,wR,xh,XR,Ye,Xy,WR,X3,Yb,WT,Xw,WS,X4,WN,X2,X8,X7,X0,X1,X9,X6,XZ,XJ,Yd,XN,XE,X5,X_,Yc,XH,Xx,XB,XG,XM,XA,XI,Xz,XO,XC,XD,WH,XU,WO,WW,WU,Xp,WK,Yh,XW,XQ,WX,Xq,Yj,Xt,XF,W0,W2,W3,Xm,Jz,j5 X G dG,j5 X G j1,j5 X G BU,j5 X G kP,j5 X G fA,j5 X G oV,j5 X G gC,j5 X G e9,j5 X G BS,j5 X G uc,j5 X G F1,j5 X G F2,j5 X G F0,⟨ado,Yv,adA,ael⟩,fq X G SR,⟨DW,Tg,Zj,ZZ⟩,gy,gZ,D1,DZ,DY,⟨adn,Yu,adz,aek⟩,fq X G SO,⟨DV,Tf,Zi,ZY⟩,vK,tu,oC,AQ,fq X G SQ,ec_HallError,⟨ec_HallError,xp_HallError⟩,fq X G SM,ec_BadPaper,⟨HS ec_BadPaper,ahc,ahd,(uV ec_BadPaper _).trans rfl,(uV ec_BadPaper _).trans rfl,ag9,aha,ahb⟩,⟨ahn,ahf⟩,⟨ec_BadPaper,Te,Zh,ZX⟩,ahq,fq X G SJ,ec_BadAsk,⟨ahm,ahe⟩,fq X G SK,ec_BadNet,⟨ec_BadNet,xp_BadNet⟩,fq X G SN,ec_BadText,⟨aho,ahg⟩,fq X G SU,ec_NoGo,⟨ahp,ahh⟩,fq X G SV,ec_TooWide,⟨ec_TooWide,xp_TooWide⟩,fq X G SW,ec_Unlike,⟨ec_Unlike,xp_Unlike⟩,⟨xbg,xbr,xbf⟩,ne_BadAsk_HallError,ne_BadAsk_BadPaper,ne_BadNet_HallError,ne_BadNet_BadPaper,ne_BadText_HallError,ne_BadText_BadPaper,ne_NoGo_HallError,ne_NoGo_BadPaper,ne_TooWide_HallError,ne_TooWide_BadPaper,ne_Unlike_HallError,ne_Unlike_BadPaper,fq X G Ta,⟨⟨_,_,_,aak,⟨rfl,rfl,rfl⟩,rfl,(.cons ⟨⟨_,rfl⟩,rfl,hD_WRITERS_0⟩ (.cons ⟨⟨_,rfl⟩,rfl,hD_WRITERS_1⟩ (.cons ⟨⟨_,rfl⟩,rfl,hD_WRITERS_2⟩ (.cons ⟨⟨_,rfl⟩,rfl,hD_WRITERS_3⟩ (.cons ⟨⟨_,rfl⟩,rfl,hD_WRITERS_4⟩ (.cons ⟨⟨_,rfl⟩,rfl,hD_WRITERS_5⟩ (.cons ⟨⟨_,rfl⟩,rfl,hD_WRITERS_6⟩ (.cons ⟨⟨_,rfl⟩,rfl,hD_WRITERS_7⟩ (.cons ⟨⟨_,rfl⟩,rfl,hD_WRITERS_8⟩ (.cons ⟨⟨_,rfl⟩,rfl,hD_WRITERS_9⟩ (.cons ⟨⟨_,rfl⟩,rfl,hD_WRITERS_10⟩ (.cons ⟨⟨_,rfl⟩,rfl,hD_WRITERS_11⟩ (.cons ⟨⟨_,rfl⟩,rfl,hD_WRITERS_12⟩ .nil)))))))))))))⟩,(by show ([zalias233z "run",zalias233z "branch",zalias233z "fence",zalias233z "room",zalias233z "wants",zalias233z "fall",zalias233z "sum",zalias233z "dry",zalias233z "wet",zalias233z "kept",zalias233z "trap",zalias233z "weight",zalias233z "most"]:List Str).Nodup;decide +kernel),sD_WRITERS⟩,fq X G S_,⟨⟨_,_,_,aaj,⟨rfl,rfl,rfl⟩,rfl,(.cons ⟨⟨_,rfl⟩,rfl,hD_READERS_0⟩ (.cons ⟨⟨_,rfl⟩,rfl,hD_READERS_1⟩ (.cons ⟨⟨_,rfl⟩,rfl,hD_READERS_2⟩ (.cons ⟨⟨_,rfl⟩,rfl,hD_READERS_3⟩ (.cons ⟨⟨_,rfl⟩,rfl,hD_READERS_4⟩ (.cons ⟨⟨_,rfl⟩,rfl,hD_READERS_5⟩ (.cons ⟨⟨_,rfl⟩,rfl,hD_READERS_6⟩ (.cons ⟨⟨_,rfl⟩,rfl,hD_READERS_7⟩ (.cons ⟨⟨_,rfl⟩,rfl,hD_READERS_8⟩ (.cons ⟨⟨_,rfl⟩,rfl,hD_READERS_9⟩ (.cons ⟨⟨_,rfl⟩,rfl,hD_READERS_10⟩ (.cons ⟨⟨_,rfl⟩,rfl,hD_READERS_11⟩ (.cons ⟨⟨_,rfl⟩,rfl,hD_READERS_12⟩ (.cons ⟨⟨_,rfl⟩,rfl,hD_READERS_13⟩ .nil))))))))))))))⟩,(by show ([zalias233z "run",zalias233z "branch",zalias233z "fence",zalias233z "room",zalias233z "wants",zalias233z "fall",zalias233z "sum",zalias233z "dry",zalias233z "wet",zalias233z "kept",zalias233z "trap",zalias233z "weight",zalias233z "most",zalias233z "none"]:List Str).Nodup;decide +kernel),sD_READERS⟩,fq X G SX,⟨⟨_,_,_,aah,⟨rfl,rfl,rfl⟩,rfl,(.cons ⟨⟨_,rfl⟩,rfl,hD_BOUNDS_0⟩ (.cons ⟨⟨_,rfl⟩,rfl,hD_BOUNDS_1⟩ (.cons ⟨⟨_,rfl⟩,rfl,hD_BOUNDS_2⟩ .nil)))⟩,(by show ([zalias233z "fence",zalias233z "room",zalias233z "fall"]:List Str).Nodup;decide +kernel),sD_BOUNDS⟩,fq X G SY,⟨⟨_,_,_,aai,⟨rfl,rfl,rfl⟩,rfl,(.cons ⟨⟨_,rfl⟩,rfl,hD_MAKERS_0⟩ (.cons ⟨⟨_,rfl⟩,rfl,hD_MAKERS_1⟩ (.cons ⟨⟨_,rfl⟩,rfl,hD_MAKERS_2⟩ (.cons ⟨⟨_,rfl⟩,rfl,hD_MAKERS_3⟩ (.cons ⟨⟨_,rfl⟩,rfl,hD_MAKERS_4⟩ (.cons ⟨⟨_,rfl⟩,rfl,hD_MAKERS_5⟩ (.cons ⟨⟨_,rfl⟩,rfl,hD_MAKERS_6⟩ (.cons ⟨⟨_,rfl⟩,rfl,hD_MAKERS_7⟩ (.cons ⟨⟨_,rfl⟩,rfl,hD_MAKERS_8⟩ (.cons ⟨⟨_,rfl⟩,rfl,hD_MAKERS_9⟩ (.cons ⟨⟨_,rfl⟩,rfl,hD_MAKERS_10⟩ .nil)))))))))))⟩,(by show ([zalias233z "run",zalias233z "branch",zalias233z "fence",zalias233z "room",zalias233z "wants",zalias233z "fall",zalias233z "sum",zalias233z "dry",zalias233z "wet",zalias233z "kept",zalias233z "most"]:List Str).Nodup;decide +kernel),sD_MAKERS⟩,fq X G Td,λ_=>.inr ⟨_,_,_,aan,rfl,rfl,(by show 3<=sizeLine;decide),(.cons ⟨_,rfl⟩ (.cons ⟨_,rfl⟩ (.cons ⟨_,rfl⟩ .nil)))⟩,fq X G Tb,λ_=>.inr ⟨_,_,_,aal,rfl,rfl,(by show 3<=sizeLine;decide),(.cons ⟨_,rfl⟩ (.cons ⟨_,rfl⟩ (.cons ⟨_,rfl⟩ .nil)))⟩,fq X G Tc,λ_=>.inr ⟨_,_,_,aam,rfl,rfl,(by show 12<=sizeLine;decide),(.cons ⟨_,rfl⟩ (.cons ⟨_,rfl⟩ (.cons ⟨_,rfl⟩ (.cons ⟨_,rfl⟩ (.cons ⟨_,rfl⟩ (.cons ⟨_,rfl⟩ (.cons ⟨_,rfl⟩ (.cons ⟨_,rfl⟩ (.cons ⟨_,rfl⟩ (.cons ⟨_,rfl⟩ (.cons ⟨_,rfl⟩ (.cons ⟨_,rfl⟩ .nil))))))))))))⟩,⟨_,fq X G Ww⟩,⟨_,fq X G Ws⟩,⟨_,fq X G Wr⟩,⟨_,fq X G Wt⟩,⟨_,fq X G Wu⟩,⟨_,fq X G Wv⟩⟩
 exact⟨rW,hb,λbase _ _ hD=>abW ⟨T,hD⟩⟩
theorem walk{l:RT}{q:Program}{loose:List Str}{XP:(Str->Option Value)->Heap->Prop}{YP:World->Heap->Prop}{d:DefRec}{K:Params->aj}(hn:l.most=some 63)(ve:d.params.defaults=[])
  (hY:∀(w:World) (h:Heap),YP w h->(K w.params).In h)
  (F:∀(w:World) (mg:Str->Option Value) (fa:Addr) (h:Heap),(K w.params).In h->h.Ns mainGlobals mg->mg d.name=some (.ref fa) ->
   ∃fd:FuncData,(∀(s:Shared) (u:Value),BindsTo s fd ⟨[u],[]⟩ [("script",u)])/\∀base:Heap,(K w.params).In base->base.Ns mainGlobals mg->base.NoDigits->ax l.prog w (K w.params) mg base a8 21 fa fd ["script"] (wc (K w.params))) :
  RU q loose XP YP l.row.toRowW d [] (λf vs=>RZ f vs) :=
 L2.agX (n:=63) (k:=21) (x:="script") (CX:=λ_=>a8) (sp:=λw=>wc (K w.params)) hn (by decide) ve ⟨rfl,by decide,by decide⟩ hY F (λ_ _ a ns hl _ hS=>⟨a,ns,rfl,hS,hl,λ_=>rfl⟩) λ_ _ _ _ _ z=>z
theorem agW{q:Program}{loose:List Str}{XP:(Str->Option Value)->Heap->Prop}{α:Type}{Yf:Shared->α}{Ya:World->α}{r:PySem.W.RowW}{d:DefRec}{Kt:List (Str×Expr)}{run:Value->List Value->Sem Value}{YP:World->Heap->Prop}
  (hY:∀(w:World) (dq br:Shared) (args:List PySem.W.WData) (vals:List Value) (as:List Addr),Yf dq=Ya w->PySem.W.Laid r.records w dq br args vals as->YP w br.heap) (h:RU q loose XP YP r d Kt run):PySem.W.WalkX q loose XP Yf Ya r d Kt run :=
 λw dq br mg mb G Y a o pm cd doc dV kV h2 h3 h4 h5 h6 hg args vals as L sW JL JU vw JN=>h w dq br mg mb G (hY w dq br args vals as Y L) a o pm cd doc dV kV h2 h3 h4 h5 h6 hg args vals as sW JL JU vw JN
end Law
open PySem PySem.W PyProof.Rows
set_option maxRecDepth 100000 in
set_option maxHeartbeats 0 in
theorem PySem.Challenge.cw_beadhall_k97_papers_written_holds : PySem.Challenge.rw_beadhall_k97_papers_written.Holds := by
 w_on;o_law;z_head;(case hw=>w_witness2)
 k_fill
 refine Law.agW (λw dq br args vals as Y L=>PySem.W.InK.keeps w dq.heap br.heap (PySem.W.X.z_facts (by intro P;kernel_rfl) Y).2.1 L.keeps) (Law.walk (l:=ajL) rfl rfl (λw h Y=>Y) ?F)
 case F =>
  intro w mg fa h KX G vo;refine' Law.all_mk KX G vo ?_ ?_ ?_ ?_ ?_ ?_ ?_ ?_ ?_ ?_ ?_ ?_ ?_ ?_ ?_ ?_ ?_ ?_ ?_ ?_ ?_ ?_ ?_ ?_ ?_ ?_ ?_ ?_ ?_ ?_ ?_ ?_ ?_ ?_ ?_ ?_ ?_ ?_ ?_ ?_ ?_ ?_ ?_ ?_ ?_ ?_ ?_ ?_ ?_ ?_ ?_ ?_ ?_ ?_ ?_ ?_ ?_ ?_ ?_ ?_ ?_ ?_ ?_ ?_ ?_ ?_ ?_ ?_ ?_ ?_ ?_ ?_ ?_ ?_ ?_ ?_ ?_ ?_ ?_ ?_ ?_ ?_ ?_ ?_ ?_ ?_ ?_ ?_ ?_ ?_ ?_ ?_ ?_ ?_ ?_ ?_ ?_ ?_ ?_ ?_ ?_ ?_ ?_ ?_ ?_ ?_ ?_ ?_ ?_ ?_ ?_ ?_ ?_ ?_ ?_ ?_ ?_ ?_ ?_ ?_ ?_ ?_ ?_ ?_ ?_ ?_ ?_ ?_ ?_ ?_ ?_ ?_ ?_ ?_ ?_ ?_ ?_ ?_ ?_ ?_ ?ec_HallError ?xp_HallError ?ec_BadPaper ?_ ?_ ?_ ?_ ?_ ?_ ?_ ?_ ?_ ?ec_BadAsk ?_ ?_ ?ec_BadNet ?xp_BadNet ?ec_BadText ?_ ?_ ?ec_NoGo ?_ ?_ ?ec_TooWide ?xp_TooWide ?ec_Unlike ?xp_Unlike ?_ ?_ ?_ ?ne_BadAsk_HallError ?ne_BadAsk_BadPaper ?ne_BadNet_HallError ?ne_BadNet_BadPaper ?ne_BadText_HallError ?ne_BadText_BadPaper ?ne_NoGo_HallError ?ne_NoGo_BadPaper ?ne_TooWide_HallError ?ne_TooWide_BadPaper ?ne_Unlike_HallError ?ne_Unlike_BadPaper ?_ ?_ ?hD_WRITERS_0 ?hD_WRITERS_1 ?hD_WRITERS_2 ?hD_WRITERS_3 ?hD_WRITERS_4 ?hD_WRITERS_5 ?hD_WRITERS_6 ?hD_WRITERS_7 ?hD_WRITERS_8 ?hD_WRITERS_9 ?hD_WRITERS_10 ?hD_WRITERS_11 ?hD_WRITERS_12 ?sD_WRITERS ?_ ?_ ?hD_READERS_0 ?hD_READERS_1 ?hD_READERS_2 ?hD_READERS_3 ?hD_READERS_4 ?hD_READERS_5 ?hD_READERS_6 ?hD_READERS_7 ?hD_READERS_8 ?hD_READERS_9 ?hD_READERS_10 ?hD_READERS_11 ?hD_READERS_12 ?hD_READERS_13 ?sD_READERS ?_ ?_ ?hD_BOUNDS_0 ?hD_BOUNDS_1 ?hD_BOUNDS_2 ?sD_BOUNDS ?_ ?_ ?hD_MAKERS_0 ?hD_MAKERS_1 ?hD_MAKERS_2 ?hD_MAKERS_3 ?hD_MAKERS_4 ?hD_MAKERS_5 ?hD_MAKERS_6 ?hD_MAKERS_7 ?hD_MAKERS_8 ?hD_MAKERS_9 ?hD_MAKERS_10 ?sD_MAKERS ?_ ?_ ?_ ?_ ?_ ?_ ?_ ?_ ?_ ?_ ?_ ?_ ?_ ?_ ?_ ?_ ?_ ?_ ?_ ?_ ?_ ?_ ?_ ?_ ?_ ?hb
  all_goals try (first|exact L2.Vy KX G (by k_is) (by k_is) (by k_is) (by k_is) (by first|exact L2.Up λ_=>rfl|exact L2.Uq λ_ _=>rfl|exact L2.Ur λ_ _ _=>rfl|exact L2.Us λ_ _ _ _=>rfl|exact L2.aiX λ_ _ _ _ _=>rfl|exact L2.aiY λ_ _ _ _ _ _=>rfl|exact L2.aiZ λ_ _ _ _ _ _ _=>rfl|exact L2.aiW rfl)|k_is|with_reducible rfl)
  try (case ec_HallError=>kernel_rfl)
  try (case xp_HallError=>kernel_rfl)
  try (case ec_BadPaper=>kernel_rfl)
  try (case ec_BadAsk=>kernel_rfl)
  try (case ec_BadNet=>kernel_rfl)
  try (case xp_BadNet=>kernel_rfl)
  try (case ec_BadText=>kernel_rfl)
  try (case ec_NoGo=>kernel_rfl)
  try (case ec_TooWide=>kernel_rfl)
  try (case xp_TooWide=>kernel_rfl)
  try (case ec_Unlike=>kernel_rfl)
  try (case xp_Unlike=>kernel_rfl)
  try (case ne_BadAsk_HallError=>decide)
  try (case ne_BadAsk_BadPaper=>decide)
  try (case ne_BadNet_HallError=>decide)
  try (case ne_BadNet_BadPaper=>decide)
  try (case ne_BadText_HallError=>decide)
  try (case ne_BadText_BadPaper=>decide)
  try (case ne_NoGo_HallError=>decide)
  try (case ne_NoGo_BadPaper=>decide)
  try (case ne_TooWide_HallError=>decide)
  try (case ne_TooWide_BadPaper=>decide)
  try (case ne_Unlike_HallError=>decide)
  try (case ne_Unlike_BadPaper=>decide)
  try (case hD_WRITERS_0=>rfl)
  try (case hD_WRITERS_1=>rfl)
  try (case hD_WRITERS_2=>rfl)
  try (case hD_WRITERS_3=>rfl)
  try (case hD_WRITERS_4=>rfl)
  try (case hD_WRITERS_5=>rfl)
  try (case hD_WRITERS_6=>rfl)
  try (case hD_WRITERS_7=>rfl)
  try (case hD_WRITERS_8=>rfl)
  try (case hD_WRITERS_9=>rfl)
  try (case hD_WRITERS_10=>rfl)
  try (case hD_WRITERS_11=>rfl)
  try (case hD_WRITERS_12=>rfl)
  try (case sD_WRITERS=>rfl)
  try (case hD_READERS_0=>rfl)
  try (case hD_READERS_1=>rfl)
  try (case hD_READERS_2=>rfl)
  try (case hD_READERS_3=>rfl)
  try (case hD_READERS_4=>rfl)
  try (case hD_READERS_5=>rfl)
  try (case hD_READERS_6=>rfl)
  try (case hD_READERS_7=>rfl)
  try (case hD_READERS_8=>rfl)
  try (case hD_READERS_9=>rfl)
  try (case hD_READERS_10=>rfl)
  try (case hD_READERS_11=>rfl)
  try (case hD_READERS_12=>rfl)
  try (case hD_READERS_13=>rfl)
  try (case sD_READERS=>rfl)
  try (case hD_BOUNDS_0=>rfl)
  try (case hD_BOUNDS_1=>rfl)
  try (case hD_BOUNDS_2=>rfl)
  try (case sD_BOUNDS=>rfl)
  try (case hD_MAKERS_0=>rfl)
  try (case hD_MAKERS_1=>rfl)
  try (case hD_MAKERS_2=>rfl)
  try (case hD_MAKERS_3=>rfl)
  try (case hD_MAKERS_4=>rfl)
  try (case hD_MAKERS_5=>rfl)
  try (case hD_MAKERS_6=>rfl)
  try (case hD_MAKERS_7=>rfl)
  try (case hD_MAKERS_8=>rfl)
  try (case hD_MAKERS_9=>rfl)
  try (case hD_MAKERS_10=>rfl)
  try (case sD_MAKERS=>rfl)
  exact λs v=>.of_eq rfl
