import PyProof.Rows.All
import Wide.All
import OpenK.AllK
import Wide.FinOn
import Lean
import PyProof.EqAt
import PyProof.EqKinds
import PyProof.TupleCall
import PyProof.P3Eq
import PyProof.NeData
import PyProof.P3In
import PyProof.StrLawsChain
import KE.KIntText
import KE.IntTextLaws
import PyProof.Rows.StrJoinMade
import PyProof.Rows.FStr
import PyProof.ListMulRoad
import PyProof.EnumStmt
import PySem.Challenge.RW_openhouses_k44_whole_three_times_the_bes
open List renaming getElem?_eq_getElem→YU,length_map→YV,mem_of_getElem?→YY,getElem?_eq_some_iff→YZ,length_append→Za,mem_map→Zd,getElem?_map→Ze,mem_cons→Zg,map_append→Zi,mem_append_right→Zj,mem_singleton→Zl,getElem_of_mem→Zm,mem_append→Zp,mem_cons_self→Zq,map_cons→Zr,take_add_one→Zs,size_toArray→Zt,take_length→Zu,mem_cons_of_mem→Zv,getD_eq_getElem?_getD→Zw,getElem?_append_right→Zx,mem_filter→Zy,getElem?_append_left→Zz,nodup_cons→Z3,length_cons→Z4,length_take→Z8,length_singleton→Z9,map_map→ZA,not_mem_nil→ZE,length_eq_zero_iff→ZF,nodup_append→ZJ,mem_append_left→ZN,getElem_mem→ZQ,append_assoc→ZR,getElem?_cons_zero→ZS,pairwise_iff_getElem→ZU,length_pos_iff→ZV,append_nil→ZY,pairwise_cons→ZZ,length_filter_le→ab,cons_append→ah,getElem?_of_mem→aj,lt_trans→aq,filter_sublist→ar,nodup_nil→au,all_eq_true→aw,getElem?_cons_succ→ax,find?_cons→aA,range→aD,length→aE,filter_cons→aF,any_eq_true→aG,ext_getElem→aH,map_congr_left→aJ,filter_append→aL,pairwise_singleton→aM,not_lt→aN,length_range→aP,pairwise_map→aT,getElem_take→aU,cons→aY,any_cons→aZ,mem_map_of_mem→bh,mem_range→bq,take_zero→br,isEmpty_eq_false_iff→b5,flatMap_cons→b6,lt_asymm→b7,sum_cons→b8,lookup_cons→bB,nil_sublist→bC,getElem_map→bD,take_of_length_le→bE,lt_irrefl→bM,filterMap_cons→bP,all_cons→bR,mem_filterMap→bT,all_map→bY,getElem_inj→cj,sublist_nil→cq,mem_flatMap→cu,of_mem_zip→cz,nil_append→cB,length_zip→cD,dropLast_concat_getLast→cE,nodup_iff_pairwise_ne→cG,exists_mem_of_ne_nil→cI,mem_of_find?_eq_some→cJ,getElem?_take_of_lt→cK,length_filterMap_le→cM,getElem?_set_self→cO,getElem_cons_drop→cQ,getElem?_eq_none→cS,take_append_drop→cU,getElem?_set_ne→cW,mem_erase_of_ne→dc,pairwise_append→de,getElem_toArray→di,length_eraseIdx→dj,mem_of_mem_take→dk,flatMap_append→du,filter_eq_self→dv,map_eq_nil_iff→dy,map_inj_right→dz,ne_nil_of_mem→dB,take_sublist→dG,getElem?_inj→dI,flatten_cons→dJ,flatMap_nil→dP,length_nil→dQ,foldl_cons→dU,zip_append→dW,filter_nil→dY,replicate→dZ,filterMap→e7,le_trans→eC,map_nil→eF
open PySem.Heap renaming get?_push_of_some→YW,lt_size→Zc,get?_push_size→Zf,size_push→ZH,get?_update_other→ZL,get?_update_self→ZM,get?_update_ne→dt
open PySem.W renaming Frag→YX,mg_none_of→ZG,nsIn→ZP,kia_one→ZX,fnOf→ay,mg_of→aW,kitOne→bF,keepIn→bG,codeIn→bH,methodObj→bQ,instObj→bZ,OpenLaw→cc,lookIn→cy,cellsFrom_some→cH,kitx_list→cX,kitx_dict→cY,plainGet→dq,findIn→dF,KdlSrc→dM,WalkO→dO
open Nat renaming le_refl→Zb,ne_of_lt→Zh,lt_of_lt_of_le→Zk,lt_succ_of_lt→Z0,le_trans→Z2,lt_succ_self→Z6,zero_le→Z7,le_succ→ZC,lt_irrefl→ZK,ne_of_gt→ZO,sub_self→af,not_lt_zero→aB,zero_add→aI,le_succ_of_le→aV,mul_le_mul_right→bc,pow_le_pow_right→bg,le_of_lt→bj,not_lt→bI,lt_or_ge→bJ,add_sub_cancel→bW,eq_zero_or_pos→bX,min_le_left→cF,pow_succ→eJ,add_mul→eL,mod_lt→eN
open Bool renaming false_ne_true→Zn,false_eq_true→Z1,and_eq_true→ZI,eq_iff_iff→ag,not_eq_true'→aQ,false_and→bL,and_true→cL,or_false→e9,not_true→eD
open Option renaming some→Zo,map_some→aK,none→aX,mem_toList→bu,isSome_iff_exists→b0,isSome_map→bU,isSome_some→cZ,isNone_none→dh,toList→dX
open Array renaming length_toList→Z5,getElem?_eq_getElem→ZT,getElem?_toList→ZW,getElem?_eq_none→aO,perm_iff_toList_perm→bo,toList_append→bO,toList→bV,toList_inj→cg,getD_eq_getD_getElem?→cA,ext→cN,mem_of_getElem?→cP,mem_toList_iff→cR,toArray_toList→cT,toList_push→dA,getD→eG
open Int renaming le_refl→ZD,zero_add→aa,mul_le_mul_of_nonneg_right→ae,emod_nonneg→ai,add_zero→ak,emod_lt_of_pos→az,mul_assoc→ba,le_trans→bp,lt_of_lt_of_le→bx,toNat_natCast→b9,add_assoc→bA,mul_comm→bK,mul_one→bN,lt_trans→cV,natAbs_dvd_natAbs→df,mul_add→dw,toNat_of_nonneg→dE,lt_of_le_of_lt→dN,le_antisymm→e6,mul_nonneg→eE,ediv_one→eI,le_of_eq→eK,add_mul→eM
local macro_rules|`(tactic|exists $es,*)=>`(tactic|refine ⟨$es,*, ?_⟩)
set_option Elab.async false
set_option linter.all false
set_option maxRecDepth 100000
namespace L2
open PySem PySem.Spec PyProof.Rows
abbrev A4:=Sum Int Str
def IJ:A4->Value->Bool
 | .inl k,v=>Value.isInt k v
 | .inr x,v=>Value.isStrOf x v
def keyH (w:World):A4->Int
 | .inl k=>hashInt k
 | .inr x=>hashStr w x
theorem Bm:∀ {k:A4} {v:Value},IJ k v=true->(∃ i t,k=Sum.inl i/\v=Value.int i t)\/(∃ x t,k=Sum.inr x/\v=Value.str x t)
 | .inl i,v,h=>by
  obtain ⟨t,e⟩:=Value.isInt_shape (k:=i) (v:=v) h;exact .inl ⟨i,t,rfl,e⟩
 | .inr x,v,h=>by
  obtain ⟨t,e⟩:=Value.isStrOf_shape (x:=x) (v:=v) h;exact .inr ⟨x,t,rfl,e⟩
theorem Pu (i:Int) (t:Tok):IJ (.inl i) (.int i t)=true:=by simp [IJ,Value.isInt]
theorem Pt (x:Str) (t:Tok):IJ (.inr x) (.str x t)=true:=by simp [IJ,Value.isStrOf]
theorem UZ (a b:Int):decide ((Sum.inl a:A4)=Sum.inl b)=(a == b):=by
 by_cases e:a=b
 ·subst e; simp
 ·have h:¬ (Sum.inl a:A4)=Sum.inl b:=fun q=>e (Sum.inl.inj q)
  rw [decide_eq_false h];exact (beq_eq_false_iff_ne.mpr e).symm
theorem UW (a b:Str):decide ((Sum.inr a:A4)=Sum.inr b)=decide (a=b):=by
 by_cases e:a=b
 ·subst e; simp
 ·have h:¬ (Sum.inr a:A4)=Sum.inr b:=fun q=>e (Sum.inr.inj q)
  rw [decide_eq_false h,decide_eq_false e]
theorem UY (a:Int) (b:Str):decide ((Sum.inl a:A4)=Sum.inr b)=false:=decide_eq_false (fun q=>nomatch q)
theorem UX (a:Str) (b:Int):decide ((Sum.inr a:A4)=Sum.inl b)=false:=decide_eq_false (fun q=>nomatch q)
def A2 (prog:Program) (w:World):PySem.KeyKind prog w A4 where
 is:=IJ
 hash:=keyH w
 inj:=fun v a b ha hb=>by
  rcases Bm ha with ⟨i,t,rfl,rfl⟩ | ⟨x,t,rfl,rfl⟩
  ·rcases Bm hb with ⟨j,u,rfl,e⟩ | ⟨y,u,rfl,e⟩
   ·injection e with e1 _; rw [e1]
   ·exact nomatch e
  ·rcases Bm hb with ⟨j,u,rfl,e⟩ | ⟨y,u,rfl,e⟩
   ·exact nomatch e
   ·injection e with e1 _; rw [e1]
 byValue:=fun k v h=>by
  rcases Bm h with ⟨i,t,rfl,rfl⟩ | ⟨x,t,rfl,rfl⟩ <;> rfl
 pyHash:=fun hv h=>by
  rcases Bm hv with ⟨i,t,rfl,rfl⟩ | ⟨x,t,rfl,rfl⟩
  ·exact wpAny_pyHash_int h
  ·exact wpAny_pyHash_str h
 eqBool:=fun hu hv h=>by
  rcases Bm hu with ⟨i,t,rfl,rfl⟩ | ⟨x,t,rfl,rfl⟩
  ·rcases Bm hv with ⟨j,u,rfl,rfl⟩ | ⟨y,u,rfl,rfl⟩
   ·rw [UZ] at h; exact wpAny_eqBool_int h
   ·rw [UY] at h; exact SeqAt.EqAt.int_str i t y u _ _ _ _ h
  ·rcases Bm hv with ⟨j,u,rfl,rfl⟩ | ⟨y,u,rfl,rfl⟩
   ·rw [UX] at h; exact SeqAt.EqAt.str_int x t j u _ _ _ _ h
   ·rw [UW] at h; exact wpAny_eqBool_str h
 «strs»:=fun k x t v h=>by
  rcases Bm h with ⟨i,u,rfl,e⟩ | ⟨y,u,rfl,e⟩
  ·exact nomatch e
  ·injection e with e1 _;subst e1;cases v <;> rfl
theorem LG (prog:Program) (w:World) (i:Int) (t:Tok):(A2 prog w).is (.inl i) (.int i t)=true:=Pu i t
theorem Hq (prog:Program) (w:World) (x:Str) (t:Tok):(A2 prog w).is (.inr x) (.str x t)=true:=Pt x t
inductive V where
 | non | bl (b:Bool) | int (i:Int) | str (x:Str) | byt (b:Array UInt8) | flt (b:UInt64) | ref (a:Addr) | ty (n:String)
 deriving DecidableEq
def A3:V->Value->Prop
 | .non,u=>u=Value.none
 | .bl b,u=>u=Value.bool b
 | .int i,u=>∃ t,u=Value.int i t
 | .str x,u=>∃ t,u=Value.str x t
 | .byt b,u=>∃ t,u=Value.bytes b t
 | .flt b,u=>∃ t,u=Value.float b t
 | .ref a,u=>u=Value.ref a
 | .ty n,u=>u=Value.type n
abbrev A5:List V->List Value->Prop:=Paired A3
theorem A5.length {xs:List V} {us:List Value} (r:A5 xs us):xs.length=us.length:=Paired.length r
theorem A5.get:∀ {xs:List V} {us:List Value} {i:Nat} {x:V},A5 xs us->xs[i]? = some x->∃ u,us[i]? = some u/\A3 x u
 | _,_,_,_,.nil,e=>by simp at e
 | _,_,0,_,.cons r _,e=>by simp at e; subst e; exact ⟨_,rfl,r⟩
 | _,_,i + 1,x,.cons _ t,e=>by
  obtain ⟨u,h1,h2⟩:=A5.get (i:=i) (x:=x) t (by simpa using e);exact ⟨u,by simpa using h1,h2⟩
theorem A5.set {x:V} {u:Value} (r:A3 x u):∀ {xs:List V} {us:List Value} (i:Nat),A5 xs us->A5 (xs.set i x) (us.set i u)
 | _,_,_,.nil=>.nil
 | _,_,0,.cons _ t=>.cons r t
 | _,_,i + 1,.cons q t=>.cons q (A5.set r i t)
theorem A5.append:∀ {xs ys:List V} {us ws:List Value},A5 xs us->A5 ys ws->A5 (xs ++ ys) (us ++ ws)
 | _,_,_,_,.nil,s=>s
 | _,_,_,_,.cons r t,s=>.cons r (A5.append t s)
def GU:Option V->Option Value->Prop
 | some v,some u=>A3 v u
 | none,none=>True
 | _,_=>False
def KV {κ:Type}:List (κ × V)->List (κ × Value)->Prop:=Paired fun (p:κ × V) (q:κ × Value)=>p.1=q.1/\A3 p.2 q.2
def kV:A4->V
 | .inl i=>.int i
 | .inr x=>.str x
inductive HO where
 /-- a list -/
 | lst (xs:List V)
 /-- a tuple (never changes) -/
 | tup (xs:List V)
 /-- a dict whose keys are ints and texts; one whose keys are tuples of ints and texts (the empty one is both) -/
 | dK (kvs:List (A4 × V)) | dT (kvs:List (List A4 × V))
 /-- a set of ints: Ap members,Ap size -/
 | set (S:Int->Bool) (n:Nat)
 /-- an instance of the class at C,Ap dict at dx,Ap attributes -/
 | ins (C dx:Addr) (fs:List (Str × V))
 /-- the dict of the instance at x -/
 | own (x:Addr)
 /-- the dict of an exception -/
 | xd (fs:List (Str × V))
 /-- a bound method,f of x -/
 | met (f x:Addr)
 /-- a range object lo,lo + 1,.. below hi -/
 | rng (lo hi:Int)
 /-- a thing that is known to the object (the script; a dict while a loop walks it): read,never written while it is so -/
 | frz (o:Obj) (u:HO)
 /-- a code Wa table -/
 | tbl (ps:Array Value)
 /-- any other thing,by what is true of Ap one object (a def of one's own: SetO a S n:=HO.ext fun h=>..) -/
 | ext (φ:Heap->Prop)
abbrev Hp:=Addr->Option HO
def upd (H:Hp) (a:Addr) (o:HO):Hp:=fun b=>if b=a then some o else H b
theorem Ab {H:Hp} {a:Addr} {o:HO}:upd H a o a=some o:=by unfold upd; rw [if_pos rfl]
theorem Af {H:Hp} {a b:Addr} {o:HO} (h:b ≠ a):upd H a o b=H b:=by unfold upd; rw [if_neg h]
theorem Kw {H:Hp} {a:Addr} {o u:HO}:upd (upd H a o) a u=upd H a u:=by
 funext b; unfold upd; split <;> rfl
theorem Cg {H:Hp} {a b:Addr} {o u:HO} (h:H a=some o) (h':H b=some u) (d:o ≠ u):a ≠ b:=by
 intro e; subst e; rw [h] at h'; exact d (Zo.inj h')
theorem Ai {H:Hp} {a b:Addr} {o:HO} (h:H a=some o) (h':H b=none):a ≠ b:=by
 intro e; subst e; rw [h] at h'; cases h'
def MU (h:Heap) (a:Addr):Prop:=∀ o,h.get? a=some o->o.dict=none
theorem MU.new {h:Heap} {o:Obj} (hd:o.dict=none) (hf:o.isFreed=false):MU (h.push o) h.objs.size:=fun o' e=>by
 rw [Zf _ hf] at e;cases e
 exact hd
section
variable (P:Program) (w:World)
def A6 (H:Hp) (h:Heap) (a:Addr):HO->Prop
 | .lst xs=>xs.length<=sizeLine/\∃ (Ap:List Value) (n:Nat),A5 xs Ap/\h.get? a=some { cls:=.type "list",data:=.seq Ap.toArray n }
 | .tup xs=>xs.length<=sizeLine/\∃ Ap:List Value,A5 xs Ap/\IsTup h a Ap.toArray/\MU h a
 | .dK kvs=>kvs.length<=sizeLine/\(a == sysModules)=false/\∃ vs,KV kvs vs/\h.DictOf (A2 P w) a vs
 | .dT kvs=>kvs.length<=sizeLine/\(a == sysModules)=false/\∃ xs:List (List A4 × Addr × Value),
   Paired (fun (p:List A4 × V) (q:List A4 × Addr × Value)=>p.1=q.1/\H q.2.1=some (.tup (p.1.map kV))/\A3 p.2 q.2.2) kvs xs /\
   ∃ o es ep,h.get? a=some o/\o.ExactDict/\o.data=.dict es ep/\es.toList=xs.map (entryOfKey (tupleKind (A2 P w)))/\(xs.map (·.1)).Nodup
 | .set S n=>h.SetOf (intKind P w) a S n
 | .ins C dx fs=>H dx=some (.own a)/\fs.length<=1000/\dx ≠ a/\h.get? a=some (bZ C dx) /\
   ∃ mA,h.Ns1 dx mA/\(∀ f,GU (fs.lookup f) (mA f))/\PySem.Within mA (fs.map (·.1))
 | .own _=>∃ o,h.get? a=some o
 | .xd fs=>∃ mA,h.Ns1 a mA/\∀ f,GU (fs.lookup f) (mA f)
 | .rng lo hi=>∃ t u v,h.get? a=some { cls:=.type "range",data:=.fields #[.int lo t,.int hi u,.int 1 v] }
 | .frz o u=>h.get? a=some o/\A6 H h a u
 | .tbl ps=>h.get? a=some { cls:=.none,data:=.fields ps }
 | .met f x=>h.get? a=some (bQ (.ref f) (.ref x))
 | .ext φ=>φ h/\(∃ o,h.get? a=some o)/\∀ h1 h2:Heap,φ h1->(∀ o,h1.get? a=some o->h2.get? a=some o)->φ h2
def FI (H:Hp) (h:Heap):Prop:=∀ a o,H a=some o->A6 P w H h a o
end
section
variable {P:Program} {w:World} {H H':Hp} {h h':Heap} {a:Addr} {o:HO}
theorem A6.lt (x:A6 P w H h a o):a < h.objs.size:=by
 cases o with
 | lst xs=>obtain ⟨_,_,_,_,e⟩:=x; exact Zc e
 | tup xs=>obtain ⟨_,_,_,p,_⟩:=x; exact p.lt
 | dK kvs=>obtain ⟨_,_,_,_,o,_,_,e,_⟩:=x; exact Zc e
 | dT kvs=>obtain ⟨_,_,_,_,o,_,_,e,_⟩:=x; exact Zc e
 | set S n=>obtain ⟨o,_,_,_,e,_⟩:=x; exact Zc e
 | ins C dx fs=>obtain ⟨_,_,_,e,_⟩:=x; exact Zc e
 | own y=>obtain ⟨_,e⟩:=x; exact Zc e
 | xd fs=>obtain ⟨_,⟨_,_,_,e,_⟩,_⟩:=x; exact Zc e
 | rng lo hi=>obtain ⟨_,_,_,e⟩:=x; exact Zc e
 | frz ob u=>obtain ⟨e,_⟩:=x; exact Zc e
 | tbl ps=>exact Zc (show h.get? a=some _ from x)
 | met f y=>exact Zc (show h.get? a=some _ from x)
 | ext φ=>obtain ⟨_,⟨_,e⟩,_⟩:=x; exact Zc e
theorem Paired.mapP {α β:Type} {F G:α->β->Prop}:∀ {LK:List α} {LJ:List β},Paired F LK LJ->(∀ a b,F a b->G a b)->Paired G LK LJ
 | _,_,.nil,_=>.nil
 | _,_,.cons r t,f=>.cons (f _ _ r) (Paired.mapP t f)
theorem A6.stay (x:A6 P w H h a o) (k:∀ b u,(b=a\/H b=some (.own a))->h.get? b=some u->h'.get? b=some u)
  (ho:∀ b,H b=some (.own a)->H' b=some (.own a)) (ht:∀ b xs,H b=some (.tup xs)->H' b=some (.tup xs)):A6 P w H' h' a o:=by
 induction o with
 | lst xs=>obtain ⟨z,Ap,n,r,e⟩:=x; exact ⟨z,Ap,n,r,k _ _ (.inl rfl) e⟩
 | tup xs=>
  obtain ⟨z,Ap,r,⟨ob,e,c⟩,dn⟩:=x;have e':=k _ _ (.inl rfl) e;exact ⟨z,Ap,r,⟨ob,e',c⟩,fun o q=>by rw [e'] at q; cases q; exact dn _ e⟩
 | dK kvs=>obtain ⟨z,y,vs,r,ob,es,ep,e,c⟩:=x; exact ⟨z,y,vs,r,ob,es,ep,k _ _ (.inl rfl) e,c⟩
 | dT kvs=>
  obtain ⟨z,y,xs,r,ob,es,ep,e,c⟩:=x;exact ⟨z,y,xs,Paired.mapP r fun p q z=>⟨z.1,ht _ _ z.2.1,z.2.2⟩,ob,es,ep,k _ _ (.inl rfl) e,c⟩
 | set S n=>obtain ⟨ob,es,ep,t,e,c⟩:=x; exact ⟨ob,es,ep,t,k _ _ (.inl rfl) e,c⟩
 | ins C dx fs=>
  obtain ⟨d,z,ne,e,mA,⟨od,es,ep,e2,c⟩,r⟩:=x;exact ⟨ho _ d,z,ne,k _ _ (.inl rfl) e,mA,⟨od,es,ep,k _ _ (.inr d) e2,c⟩,r⟩
 | own y=>obtain ⟨ob,e⟩:=x; exact ⟨ob,k _ _ (.inl rfl) e⟩
 | xd fs=>obtain ⟨mA,⟨od,es,ep,e,c⟩,r⟩:=x; exact ⟨mA,⟨od,es,ep,k _ _ (.inl rfl) e,c⟩,r⟩
 | rng lo hi=>obtain ⟨t,u,v,e⟩:=x; exact ⟨t,u,v,k _ _ (.inl rfl) e⟩
 | frz ob u ih=>obtain ⟨e,q⟩:=x; exact ⟨k _ _ (.inl rfl) e,ih q⟩
 | tbl ps=>
  have e:h.get? a=some { cls:=.none,data:=.fields ps }:=x;show h'.get? a=some { cls:=.none,data:=.fields ps }
  exact k a _ (.inl rfl) e
 | met f y=>
  have e:h.get? a=some (bQ (.ref f) (.ref y)):=x;show h'.get? a=some (bQ (.ref f) (.ref y))
  exact k a _ (.inl rfl) e
 | ext φ=>obtain ⟨p,⟨o,e⟩,st⟩:=x; exact ⟨st _ _ p fun o q=>k _ _ (.inl rfl) q,⟨o,k _ _ (.inl rfl) e⟩,st⟩
theorem FI.lt (x:FI P w H h) (e:H a=some o):a < h.objs.size:=(x a o e).lt
theorem FI.fresh (x:FI P w H h) (e:h.objs.size<=a):H a=none:=by
 cases q:H a with
 | none=>rfl
 | some u=>exact absurd (Zk (x.lt q) e) (ZK _)
theorem FI.kept (x:FI P w H h) (k:∀ b u,h.get? b=some u->h'.get? b=some u):FI P w H h':=fun a o e=>
 (x a o e).stay (fun b u _ q=>k b u q) (fun _ q=>q) fun _ _ q=>q
theorem FI.laid (x:FI P w H h) (k:∀ b u,h.get? b=some u->h'.get? b=some u) (hp:h.objs.size<=a) (new:A6 P w (upd H a o) h' a o):FI P w (upd H a o) h':=fun b u e=>by
 have hn:=x.fresh hp;by_cases hb:b=a
 ·subst hb; rw [Ab] at e; cases e; exact new
 ·rw [Af hb] at e;exact (x b u e).stay (fun c v _ q=>k c v q) (fun c q=>by rw [Af (Ai q hn)]; exact q) fun c xs q=>by rw [Af (Ai q hn)]; exact q
end
def Rd (H:Hp) (a:Addr) (u:HO):Prop:=H a=some u\/∃ o,H a=some (.frz o u)
theorem Rd.ok {P:Program} {w:World} {H:Hp} {h:Heap} {a:Addr} {u:HO} (r:Rd H a u) (x:FI P w H h):A6 P w H h a u:=by
 rcases r with r | ⟨o,r⟩
 ·exact x a u r
 ·obtain ⟨_,q⟩:=x a _ r;exact q
def Mut:Option HO->Prop
 | some (.lst _)=>True
 | some (.dK _)=>True
 | some (.dT _)=>True
 | some (.set _ _)=>True
 | some (.ins _ _ _)=>True
 | some (.ext _)=>True
 | _=>False
section
variable {P:Program} {w:World} {H:Hp} {h h':Heap} {x e:Addr} {o':HO}
theorem FI.write (ok:FI P w H h) (mu:Mut (H x)) (he:e=x\/H e=some (.own x)) (k:∀ b u,b ≠ e->h.get? b=some u->h'.get? b=some u) (heo:∃ u,h'.get? e=some u)
  (new:A6 P w (upd H x o') h' x o'):FI P w (upd H x o') h':=fun b u q=>by
 have nown:∀ c y,H c=some (.own y)->c ≠ x:=fun c y r z=>by subst z; rw [r] at mu; exact mu
 have ntup:∀ c xs,H c=some (.tup xs)->c ≠ x:=fun c xs r z=>by subst z; rw [r] at mu; exact mu
 by_cases hb:b=x
 ·subst hb; rw [Ab] at q; cases q; exact new
 ·rw [Af hb] at q;by_cases hbe:b=e
  ·have q':H b=some (.own x):=by
    rcases he with z | z
    ·exact absurd (hbe.trans z) hb
    ·rw [hbe]; exact z
   rw [q] at q'; cases q';obtain ⟨v,hv⟩:=heo;exact ⟨v,by rw [hbe]; exact hv⟩
  ·refine (ok b u q).stay (fun c v hc r=>k c v ?_ r) (fun c r=>by rw [Af (nown c b r)]; exact r) fun c xs r=>by rw [Af (ntup c xs r)]; exact r
   rcases hc with rfl | hc
   ·exact hbe
   ·rintro rfl;rcases he with z | z
    ·exact nown c b hc z
    ·rw [hc] at z; cases z; exact hb rfl
end
structure Un (fs ex:List Addr) (H H':Hp) (h h':Heap):Prop where
 keep:∀ b o,h.get? b=some o->H b=none->b ∉ fs->b ∉ ex->h'.get? b=some o
 slot:∀ b o,h.get? b=some o->H b=none->b ∈ fs->b ∉ ex->∃ sl,h'.get? b=some { o with slots:=sl }
 free:∀ b o,h.get? b=some o->H b=none->b ∉ ex->H' b=none
 there:∀ b o,h.get? b=some o->b ∉ ex->∃ o',h'.get? b=some o'
 tups:∀ b xs,H b=some (.tup xs)->H' b=some (.tup xs)
 frzs:∀ b o u,H b=some (.frz o u)->H' b=some (.frz o u)
 tbls:∀ b ps,H b=some (.tbl ps)->∃ more,H' b=some (.tbl (ps ++ more))
section
variable {fs VB ex Um:List Addr} {H H1 H2:Hp} {h h1 h2 h':Heap} {a x e:Addr} {o:HO}
theorem Un.any (u:Un fs ex H H1 h h1) {b:Addr} {ob:Obj} (q:h.get? b=some ob) (n:H b=none) (hx:b ∉ ex):∃ sl,h1.get? b=some { ob with slots:=sl }:=by
 by_cases hb:b ∈ fs
 ·exact u.slot b ob q n hb hx
 ·exact ⟨ob.slots,u.keep b ob q n hb hx⟩
theorem Un.kept (k:∀ b u,h.get? b=some u->h'.get? b=some u):Un fs ex H H h h':=
 ⟨fun b ob q _ _ _=>k b ob q,fun b ob q _ _ _=>⟨ob.slots,k b ob q⟩,fun _ _ _ n _=>n,fun b ob q _=>⟨ob,k b ob q⟩,fun _ _ q=>q,fun _ _ _ q=>q,fun _ ps q=>⟨#[],by rw [q]; simp⟩⟩
theorem Un.refl:Un fs ex H H h h:=Un.kept fun _ _ q=>q
theorem Un.laid (k:∀ b u,h.get? b=some u->h'.get? b=some u) (hp:h.objs.size<=a) (hn:H a=none):Un fs ex H (upd H a o) h h' where
 keep:=fun b u q _ _ _=>k b u q
 slot:=fun b u q _ _ _=>⟨u.slots,k b u q⟩
 free:=fun b u q n _=>by rw [Af (Zh (Zk (Zc q) hp))]; exact n
 there:=fun b u q _=>⟨u,k b u q⟩
 tups:=fun b xs q=>by rw [Af (Ai q hn)]; exact q
 frzs:=fun b u xs q=>by rw [Af (Ai q hn)]; exact q
 tbls:=fun b ps q=>⟨#[],by rw [Af (Ai q hn),q]; simp⟩
theorem Un.write (mu:Mut (H x)) (he:e=x\/H e=some (.own x)) (k:∀ b u,b ≠ e->h.get? b=some u->h'.get? b=some u) (heo:∃ u,h'.get? e=some u):Un fs ex H (upd H x o) h h':=by
 have hx:∀ b,H b=none->b ≠ x:=fun b n z=>by subst z; rw [n] at mu; exact mu
 have hb:∀ b,H b=none->b ≠ e:=fun b n z=>by
  subst z;rcases he with r | r
  ·exact hx b n r
  ·rw [n] at r; cases r
 have hm:∀ b u,H b=some u->¬ Mut (some u)->b ≠ x:=fun b u q nm z=>by subst z; rw [q] at mu; exact nm mu
 refine ⟨fun b u q n _ _=>k b u (hb b n) q,fun b u q n _ _=>⟨u.slots,k b u (hb b n) q⟩,fun b u q n _=>by rw [Af (hx b n)]; exact n,fun b u q _=>?_,
  fun b xs q=>by rw [Af (hm b _ q fun z=>z)]; exact q,fun b u xs q=>by rw [Af (hm b _ q fun z=>z)]; exact q,fun b ps q=>⟨#[],by rw [Af (hm b _ q fun z=>z),q]; simp⟩⟩
 by_cases hbe:b=e
 ·subst hbe; exact heo
 ·exact ⟨u,k b u hbe q⟩
end
def trk (h:Heap) (H:Hp):List Addr:=(aD h.objs.size).filter fun a=>(H a).isSome
def KR (h:Heap) (H:Hp):Heap:=PySem.W.hideAll h (trk h H)
theorem PF (h:Heap) (H:Hp):(KR h H).objs.size=h.objs.size:=PySem.W.hideAll_size _ _
theorem R7 {h:Heap} {H:Hp} {b:Addr} {o:Obj} (e:h.get? b=some o) (n:H b=none):(KR h H).get? b=some o:=
 PySem.W.hideAll_get _ e fun hm=>by
  have q:(H b).isSome=true:=(Zy.mp hm).2;rw [n] at q; simp at q
theorem SM {h:Heap} {H:Hp} {b:Addr} {o:Obj} (e:(KR h H).get? b=some o):h.get? b=some o/\H b=none:=by
 have e':h.get? b=some o:=PySem.W.of_hideAll (trk h H) e;exists e';cases q:H b with
 | none=>rfl
 | some x=>
  have hm:b ∈ trk h H:=Zy.mpr ⟨bq.mpr (Zc e'),by simp [q]⟩;have z:(KR h H).get? b=none:=PySem.W.hideAll_none (trk h H) hm;rw [z] at e; cases e
def Tz (g h:Heap) (L:Addr):List (Addr × Obj):=(aD h.objs.size).filterMap fun a=>if a=L\/(g.get? a).isSome=true then none else (h.get? a).map fun o=>(a,o)
def C4 (g h:Heap) (L d:Addr):List (Addr × Obj):=(Tz g h L).filter fun p=>decide (p.1 ≠ d)
structure Mod (K:YX) (mg:Str->Option Value) (base:Heap):Prop where
 kin:K.In base
 glob:base.Ns mainGlobals mg
 blt:∃ mb,base.Ns builtinsNs mb/\∀ x:Str,x ≠ "__name__"->mb x=bootBuiltins x
 nolimit:base.NoLimit
structure Cx where
 prog:Program
 w:World
 K:YX
 mg:Str->Option Value
 base:Heap
 A:Around
 N:List Str
 s₀:Shared
 H₀:Hp
 env:Env
 outer:List Env
 stack:List Env
 ex:List Addr
 fn:Str->Bool
 calm:Bool
 pn:List (Addr × Obj)
 xe:Value->Shared->Prop
def RE (l:List Env):List Addr:=l.filterMap (·.frame)
abbrev Cx.fs (X:Cx):List Addr:=RE X.outer
def Vis (sc:Scope) (x:Str):Prop:=sc.names.lookup x=some .local\/sc.names.lookup x=some .cell\/sc.names.lookup x=some .free
def Vv (sc:Scope) (x:Str):Prop:=sc.names.lookup x=some .local\/sc.names.lookup x=some .cell
def Look (env:Env) (h:Heap) (m:Str->Option Value) (x:Str) (u:Value):Prop:=
 (env.kindOf x=some .local/\m x=some u)\/((env.kindOf x=some .cell\/env.kindOf x=some .free)/\∃ c,env.cells.lookup x=some c/\h.IsCell c (some u))
structure Cx.Ok (X:Cx):Prop where
 mod:Mod X.K X.mg X.base
 kind:X.env.scope.kind=.function
 glob:X.env.globals=mainGlobals
 blt:X.env.builtins=builtinsNs
 above:X.s₀.heap.objs.size<=X.env.locals
 inj:∀ x y c,X.env.cells.lookup x=some c->X.env.cells.lookup y=some c->x=y
 has:∀ x,(X.env.kindOf x=some .cell\/X.env.kindOf x=some .free)->∃ c,X.env.cells.lookup x=some c
 cab:∀ x c,X.fn x=true->X.env.cells.lookup x=some c->X.s₀.heap.objs.size<=c
 hd:X.calm=true->X.A.handled=none
 frames:X.A.frames=some X.stack
 stk:X.stack=X.outer\/(X.stack=X.env :: X.outer/\X.env.frame=some X.env.locals)
 exf:∀ b ∈ X.ex,b ≠ X.env.locals/\∀ x c,X.env.cells.lookup x=some c->c ≠ b
 bs:∀ b o,X.base.get? b=some o->X.s₀.heap.get? b=some o/\X.H₀ b=none
 bsz:X.base.objs.size<=X.s₀.heap.objs.size
 noex:∀ b o,X.base.get? b=some o->b ∉ X.ex
 exfs:∀ b ∈ X.ex,b ∉ X.fs
 funs:X.s₀.heap.FunFrames X.base X.outer
 frf:∀ b ∈ X.fs,X.H₀ b=none
structure An (X:Cx) (pins:List (Addr × Obj)) (σ:List (Option V)) (H:Hp) (s:Shared):Prop where
 ok:X.Ok
 os:s.os=X.s₀.os
 bare:AllBare s.gens
 base:Un X.fs X.ex X.H₀ H X.s₀.heap s.heap
 loc:∃ m,s.heap.Ns X.env.locals m/\∀ (i:Nat) (x:Str) (v:V),X.N[i]? = some x->σ[i]? = some (some v)->Vis X.env.scope x->∃ u,A3 v u/\Look X.env s.heap m x u
 cell:∀ x c,X.env.cells.lookup x=some c->∃ v,s.heap.IsCell c v
 free:H X.env.locals=none
 freeC:∀ x c,X.env.cells.lookup x=some c->H c=none
 pin:∀ p ∈ X.pn ++ pins,s.heap.get? p.1=some p.2/\H p.1=none/\p.1 ≠ X.env.locals/\p.1 ∉ X.fs/\∀ v,p.2.data ≠ .cell v
 hok:FI X.prog X.w H s.heap
 len:σ.length=X.N.length
section
variable {X:Cx} {pins:List (Addr × Obj)} {σ:List (Option V)} {H H':Hp} {s:Shared} {h':Heap}
theorem Cx.Ok.nofr (ok:X.Ok) {b:Addr} {o:Obj} (e:X.base.get? b=some o):b ∉ X.fs:=fun hb=>by
 have:=(ok.funs.mem hb).1;rw [e] at this; cases this
theorem An.bs (I:An X pins σ H s):∀ b o,X.base.get? b=some o->s.heap.get? b=some o/\H b=none:=fun b o e=>
 ⟨I.base.keep b o (I.ok.bs b o e).1 (I.ok.bs b o e).2 (I.ok.nofr e) (I.ok.noex b o e),I.base.free b o (I.ok.bs b o e).1 (I.ok.bs b o e).2 (I.ok.noex b o e)⟩
theorem An.bk (I:An X pins σ H s):∀ b o,X.base.get? b=some o->s.heap.get? b=some o:=fun b o e=>(I.bs b o e).1
theorem An.mod (I:An X pins σ H s):Mod X.K X.mg X.base:=I.ok.mod
theorem An.kIn (I:An X pins σ H s):X.K.In s.heap:=I.ok.mod.kin.keeps I.bk
theorem An.lt (I:An X pins σ H s):X.env.locals < s.heap.objs.size:=let ⟨_,hn,_⟩:=I.loc; hn.lt
theorem An.sz (I:An X pins σ H s):X.s₀.heap.objs.size<=s.heap.objs.size:=Z2 I.ok.above (bj I.lt)
theorem An.nofs (I:An X pins σ H s) {a:Addr} (h:s.heap.objs.size<=a):a ∉ X.fs:=fun hb=>by
 obtain ⟨_,o,ho,_⟩:=I.ok.funs.mem hb;exact absurd (Zk (Zc ho) (Z2 I.sz h)) (ZK _)
theorem An.cne (I:An X pins σ H s):∀ x c,X.env.cells.lookup x=some c->c ≠ X.env.locals:=fun x c e z=>by
 obtain ⟨v,o,ho,hd⟩:=I.cell x c e;obtain ⟨m,⟨o',es,ep,Jy,Lb,_⟩,_⟩:=I.loc;rw [z,Jy] at ho; cases ho; rw [Lb] at hd; cases hd
theorem An.funs (I:An X pins σ H s):s.heap.FunFrames X.base X.outer:=by
 have all:∀ (l:List Env),(∀ b ∈ RE l,b ∈ X.fs)->X.s₀.heap.FunFrames X.base l->s.heap.FunFrames X.base l:=by
  intro l;induction l with
  | nil=>intro _ _; trivial
  | cons env r ih=>
   intro hs hl;obtain ⟨hk,⟨L,o,hf,hn,ho,hd⟩,hr⟩:=hl;have hL:L ∈ X.fs:=hs L (by unfold RE; rw [bP,hf]; exact Zq);obtain ⟨sl,e⟩:=I.base.slot L o ho (I.ok.frf L hL) hL fun z=>I.ok.exfs L z hL
   exact ⟨hk,⟨L,_,hf,hn,e,hd⟩,ih (fun b hb=>hs b (by unfold RE; rw [bP,hf]; exact Zv _ hb)) hr⟩
 exact all X.outer (fun _ hb=>hb) I.ok.funs
theorem An.stack (I:An X pins σ H s):s.heap.FunFrames X.base X.stack:=by
 rcases I.ok.stk with e | ⟨e,hf⟩
 ·rw [e]; exact I.funs
 ·rw [e];obtain ⟨m,hn,_⟩:=I.loc;refine .cons (by rw [I.ok.kind]; decide) hf hn ?_ I.funs;exact Heap.get?_none_of_le (Z2 I.ok.bsz I.ok.above)
theorem An.stkSub (I:An X pins σ H s):∀ b ∈ RE X.stack,b ∈ X.env.locals :: X.fs:=fun b hb=>by
 rcases I.ok.stk with e | ⟨e,hf⟩
 ·rw [e] at hb; exact Zv _ hb
 ·rw [e] at hb;unfold RE at hb;rw [bP,hf] at hb;exact hb
theorem An.stkFree (I:An X pins σ H s):∀ b ∈ RE X.stack,H b=none:=fun b hb=>by
 rcases Zg.mp (I.stkSub b hb) with e | hb
 ·rw [e]; exact I.free
 ·obtain ⟨_,o,ho,_⟩:=I.ok.funs.mem hb;exact I.base.free b o ho (I.ok.frf b hb) fun z=>I.ok.exfs b z hb
theorem An.step {g':Array GenState} {t':Nat} {d':Drawn} {ch:List Addr} (I:An X pins σ H s)
  (hch:∀ b ∈ ch,(b ∈ X.ex\/X.s₀.heap.objs.size<=b)/\b ≠ X.env.locals/\(∀ x c,X.env.cells.lookup x=some c->c ≠ b)/\∀ p ∈ X.pn ++ pins,p.1 ≠ b)
  (keep:∀ b o,b ≠ X.env.locals->b ∉ X.fs->b ∉ ch->s.heap.get? b=some o->H b=none->h'.get? b=some o)
  (slot:∀ b o,b ≠ X.env.locals->b ∈ X.fs->b ∉ ch->s.heap.get? b=some o->H b=none->∃ sl,h'.get? b=some { o with slots:=sl }) (free:∀ b o,b ∉ ch->s.heap.get? b=some o->H b=none->H' b=none)
  (there:∀ b o,b ∉ ch->s.heap.get? b=some o->∃ o',h'.get? b=some o')
  (tups:∀ b xs,H b=some (.tup xs)->H' b=some (.tup xs)) (frzs:∀ b o u,H b=some (.frz o u)->H' b=some (.frz o u)) (tbls:∀ b ps,H b=some (.tbl ps)->∃ more,H' b=some (.tbl (ps ++ more)))
  (ns:∀ m,s.heap.Ns X.env.locals m->h'.Ns X.env.locals m) (hok:FI X.prog X.w H' h') (hg:AllBare g') :
  An X pins σ H' { s with heap:=h',gens:=g',drawn:=d',toks:=t' }:=by
 have neL:∀ b o,X.s₀.heap.get? b=some o->b ≠ X.env.locals:=fun b o e=>Zh (Zk (Zc e) I.ok.above)
 have neC:∀ b o,X.s₀.heap.get? b=some o->b ∉ X.ex->b ∉ ch:=fun b o e hx hb=>by
  rcases (hch b hb).1 with z | z
  ·exact hx z
  ·exact absurd (Zk (Zc e) z) (ZK _)
 have cellK:∀ x c,X.env.cells.lookup x=some c->∀ v,s.heap.IsCell c v->h'.IsCell c v:=fun x c e v ⟨o,ho,hd⟩=>by
  have nch:c ∉ ch:=fun z=>(hch c z).2.2.1 x c e rfl
  by_cases hc:c ∈ X.fs
  ·obtain ⟨sl,q⟩:=slot c o (I.cne x c e) hc nch ho (I.freeC x c e);exact ⟨_,q,hd⟩
  ·exact ⟨o,keep c o (I.cne x c e) hc nch ho (I.freeC x c e),hd⟩
 refine ⟨I.ok,I.os,hg,⟨fun b o e n hb hx=>?_,fun b o e n hb hx=>?_,fun b o e n hx=>?_,fun b o e hx=>?_,fun b xs e=>tups b xs (I.base.tups b xs e),fun b o xs e=>frzs b o xs (I.base.frzs b o xs e),fun b ps e=>?_⟩,?_,fun x c e=>?_,?_,fun x c e=>?_,fun p hp=>?_,hok,I.len⟩
 ·exact keep b o (neL b o e) hb (neC b o e hx) (I.base.keep b o e n hb hx) (I.base.free b o e n hx)
 ·obtain ⟨sl,e1⟩:=I.base.slot b o e n hb hx;obtain ⟨WW,e2⟩:=slot b _ (neL b o e) hb (neC b o e hx) e1 (I.base.free b o e n hx);exact ⟨WW,e2⟩
 ·obtain ⟨o',e1⟩:=I.base.there b o e hx;exact free b o' (neC b o e hx) e1 (I.base.free b o e n hx)
 ·obtain ⟨o',e1⟩:=I.base.there b o e hx;exact there b o' (neC b o e hx) e1
 ·obtain ⟨m1,e1⟩:=I.base.tbls b ps e;obtain ⟨m2,e2⟩:=tbls b _ e1;exact ⟨m1 ++ m2,by rw [e2,Array.append_assoc]⟩
 ·obtain ⟨m,hn,hl⟩:=I.loc;refine ⟨m,ns m hn,fun i x v e1 e2 e3=>?_⟩;obtain ⟨u,r,l⟩:=hl i x v e1 e2 e3;exists u,r;rcases l with l | ⟨k,c,e,z⟩
  ·exact .inl l
  ·exact .inr ⟨k,c,e,cellK x c e _ z⟩
 ·obtain ⟨v,z⟩:=I.cell x c e;exact ⟨v,cellK x c e v z⟩
 ·obtain ⟨m,⟨o,_,_,ho,_⟩,_⟩:=I.loc;exact free _ o (fun z=>(hch _ z).2.1 rfl) ho I.free
 ·obtain ⟨v,o,ho,hd⟩:=I.cell x c e;exact free c o (fun z=>(hch c z).2.2.1 x c e rfl) ho (I.freeC x c e)
 ·obtain ⟨e,n,ne,nf,d⟩:=I.pin p hp;have nch:p.1 ∉ ch:=fun z=>(hch p.1 z).2.2.2 p hp rfl
  exact ⟨keep p.1 p.2 ne nf nch e n,free p.1 p.2 nch e n,ne,nf,d⟩
theorem An.un {t':Nat} (I:An X pins σ H s) (u:Un X.fs [] H H' s.heap h') (hok:FI X.prog X.w H' h'):An X pins σ H' { s with heap:=h',toks:=t' }:=by
 obtain ⟨m,⟨o,es,ep,ho,r⟩,_⟩:=id I.loc;obtain ⟨sl,hL⟩:=u.any ho I.free (by simp);exact I.step (g':=s.gens) (d':=s.drawn) (ch:=[]) (fun _ z=>nomatch z) (fun b o _ hb _ e n=>u.keep b o e n hb (by simp)) (fun b o _ hb _ e n=>u.slot b o e n hb (by simp)) (fun b o _ e n=>u.free b o e n (by simp)) (fun b o _ e=>u.there b o e (by simp)) u.tups u.frzs u.tbls (fun m' hm=>by
  obtain ⟨o',Tn,Tr,Jy,r'⟩:=hm;rw [ho] at Jy; cases Jy;exact ⟨_,Tn,Tr,hL,r'⟩) hok I.bare
theorem An.call {g':Array GenState} {t':Nat} {d':Drawn} {ch:List Addr} (I:An X pins σ H s) (u:Un (RE X.stack) ch H H' s.heap h') (hok:FI X.prog X.w H' h') (hg:AllBare g')
  (hch:∀ b ∈ ch,(b ∈ X.ex\/X.s₀.heap.objs.size<=b)/\b ≠ X.env.locals/\(∀ x c,X.env.cells.lookup x=some c->c ≠ b)/\∀ p ∈ X.pn ++ pins,p.1 ≠ b) :
  An X pins σ H' { s with heap:=h',gens:=g',drawn:=d',toks:=t' }:=by
 obtain ⟨m,⟨o,es,ep,ho,r⟩,_⟩:=id I.loc;obtain ⟨sl,hL⟩:=u.any ho I.free fun z=>(hch _ z).2.1 rfl
 exact I.step (ch:=ch) hch (fun b o hL hb hc e n=>u.keep b o e n (fun z=>(Zg.mp (I.stkSub b z)).elim hL hb) hc) (fun b o _ _ hc e n=>u.any e n hc) (fun b o hc e n=>u.free b o e n hc) (fun b o hc e=>u.there b o e hc) u.tups u.frzs u.tbls (fun m' hm=>by
  obtain ⟨o',Tn,Tr,Jy,r'⟩:=hm;rw [ho] at Jy; cases Jy;exact ⟨_,Tn,Tr,hL,r'⟩) hok hg
theorem An.turned {t':Nat} {it:Addr} (I:An X pins σ H s) (k:∀ b o,b ≠ it->s.heap.get? b=some o->h'.get? b=some o) (hn:H it=none) (hL:it ≠ X.env.locals)
  (h1:it ∈ X.ex\/X.s₀.heap.objs.size<=it) (h2:∀ x c,X.env.cells.lookup x=some c->c ≠ it) (h3:∀ p ∈ X.pn ++ pins,p.1 ≠ it):An X pins σ H { s with heap:=h',toks:=t' }:=by
 have nit:∀ b u,H b=some u->b ≠ it:=fun b u e z=>by rw [z,hn] at e; cases e
 refine I.step (g':=s.gens) (d':=s.drawn) (ch:=[it]) (fun b hb=>?_) (fun b o _ _ hc e _=>k b o (fun z=>hc (by simp [z])) e) (fun b o _ _ hc e _=>⟨o.slots,k b o (fun z=>hc (by simp [z])) e⟩) (fun _ _ _ _ n=>n)
  (fun b o hc e=>⟨o,k b o (fun z=>hc (by simp [z])) e⟩) (fun _ _ e=>e) (fun _ _ _ e=>e) (fun b ps e=>⟨#[],by rw [e]; simp⟩) (fun m hm=>?_) (fun b u e=>?_) I.bare
 ·have e:b=it:=by simpa using hb
  subst e;exact ⟨h1,hL,h2,h3⟩
 ·obtain ⟨o,es,ep,ho,r⟩:=hm;exact ⟨o,es,ep,k _ o (Ne.symm hL) ho,r⟩
 ·refine (I.hok b u e).stay (fun c v hc q=>k c v ?_ q) (fun _ q=>q) fun _ _ q=>q
  rcases hc with z | z
  ·rw [z]; exact nit b u e
  ·exact nit c _ z
theorem An.tok (I:An X pins σ H s) (t:Nat):An X pins σ H { s with toks:=t }:=I.un (h':=s.heap) (t':=t) Un.refl I.hok
theorem An.kept {t':Nat} (I:An X pins σ H s) (k:∀ b u,s.heap.get? b=some u->h'.get? b=some u):An X pins σ H { s with heap:=h',toks:=t' }:=I.un (Un.kept k) (I.hok.kept k)
theorem An.laid {a:Addr} {o:HO} {t':Nat} (I:An X pins σ H s) (k:∀ b u,s.heap.get? b=some u->h'.get? b=some u) (hp:s.heap.objs.size<=a) (new:A6 X.prog X.w (upd H a o) h' a o) :
  An X pins σ (upd H a o) { s with heap:=h',toks:=t' }:=I.un (Un.laid k hp (I.hok.fresh hp)) (I.hok.laid k hp new)
theorem An.write {x e:Addr} {o:HO} {t':Nat} (I:An X pins σ H s) (mu:Mut (H x)) (he:e=x\/H e=some (.own x)) (k:∀ b u,b ≠ e->s.heap.get? b=some u->h'.get? b=some u) (heo:∃ u,h'.get? e=some u)
  (new:A6 X.prog X.w (upd H x o) h' x o):An X pins σ (upd H x o) { s with heap:=h',toks:=t' }:=I.un (Un.write mu he k heo) (I.hok.write mu he k heo new)
theorem An.pins_of {Ua:List (Addr × Obj)} (I:An X pins σ H s) (h:∀ p ∈ Ua,s.heap.get? p.1=some p.2/\H p.1=none/\p.1 ≠ X.env.locals/\p.1 ∉ X.fs/\∀ v,p.2.data ≠ .cell v):An X Ua σ H s:=
 ⟨I.ok,I.os,I.bare,I.base,I.loc,I.cell,I.free,I.freeC,fun p hp=>(Zp.mp hp).elim (fun z=>I.pin p (ZN _ z)) (h p),I.hok,I.len⟩
theorem I0 {N:List Str} (hN:N.Nodup) {i j:Nat} {x:Str} (a:N[i]? = some x) (b:N[j]? = some x):i=j:=by
 obtain ⟨h1,e1⟩:=YZ.mp a;obtain ⟨h2,e2⟩:=YZ.mp b;exact (cj hN).mp (e1.trans e2.symm)
theorem EX {M:Model} {A:Around} {E:Value->Shared->Prop} {i:Nat} {x:Str} {v:V} {u:Value} {Q:Unit->Shared->Prop} (I:An X pins σ H s) (hN:X.N.Nodup) (hi:X.N[i]? = some x) (hx:Vv X.env.scope x) (r:A3 v u)
  (h:∀ s',An X pins (σ.set i (some v)) H s'->(∃ a,Heap.SameBut a s.heap s'.heap/\(a=X.env.locals\/X.env.cells.lookup x=some a))->Q () s') (hf:X.fn x=true\/X.env.scope.names.lookup x=some .local:=by first | exact .inl rfl | exact .inr rfl | assumption):wpAny M A (storeName X.env x u) Q E s:=by
 obtain ⟨m,hn,hl⟩:=id I.loc;have hcls:(X.env.scope.kind == .class || (X.env.scope.kind == .module && X.env.locals != X.env.globals))=false:=by rw [I.ok.kind]; rfl
 have hiσ:i < σ.length:=by rw [I.len]; exact (YZ.mp hi).1
 have cne:=I.cne;have tracked:∀ {a:Addr} {h':Heap},(∃ o,s.heap.get? a=some o/\H a=none)->Heap.SameBut a s.heap h'->FI X.prog X.w H h':=fun {a h'} ha hs b ob e=>by
  obtain ⟨_,_,hfree⟩:=ha;refine (I.hok b ob e).stay (fun c w' hc q=>(hs.2 c ?_).trans q) (fun _ q=>q) fun _ _ q=>q
  rintro rfl;rcases hc with rfl | hc
  ·rw [hfree] at e; cases e
  ·rw [hfree] at hc; cases hc
 rcases hx with hk | hk
 ·refine wpAny_storeName_local hk hn (fun h' Ww hs=>?_) hcls;obtain ⟨oL,_,_,hoL,_⟩:=id hn;refine h _ ⟨I.ok,I.os,I.bare,⟨fun b o e n hb hx=>?_,fun b o e n hb hx=>?_,I.base.free,fun b o e hx=>?_,I.base.tups,I.base.frzs,I.base.tbls⟩,⟨_,Ww,fun j y v' e1 e2 e3=>?_⟩,fun y c e=>?_,I.free,I.freeC,fun p hp=>?_,tracked ⟨oL,hoL,I.free⟩ hs,by simpa using I.len⟩ ⟨_,hs,.inl rfl⟩
  ·exact (hs.2 b (Zh (Zk (Zc e) I.ok.above))).trans (I.base.keep b o e n hb hx)
  ·obtain ⟨sl,e1⟩:=I.base.slot b o e n hb hx;exact ⟨sl,(hs.2 b (Zh (Zk (Zc e) I.ok.above))).trans e1⟩
  ·obtain ⟨o',e1⟩:=I.base.there b o e hx;exact ⟨o',(hs.2 b (Zh (Zk (Zc e) I.ok.above))).trans e1⟩
  ·by_cases hj:j=i
   ·subst hj;rw [hi] at e1; cases e1;rw [cO hiσ] at e2;cases e2
    exact ⟨u,r,.inl ⟨hk,by simp⟩⟩
   ·rw [cW (Ne.symm hj)] at e2;obtain ⟨u',r',q⟩:=hl j y v' e1 e2 e3;exists u',r';rcases q with ⟨k,e⟩ | ⟨k,c,e,z⟩
    ·refine .inl ⟨k,?_⟩;have:y ≠ x:=fun e=>hj (I0 hN e1 (e ▸ hi))
     simp [this,e]
    ·exact .inr ⟨k,c,e,z.sameBut hs (cne y c e)⟩
  ·obtain ⟨w',z⟩:=I.cell y c e;exact ⟨w',z.sameBut hs (cne y c e)⟩
  ·obtain ⟨e,n,ne,nf,d⟩:=I.pin p hp;exact ⟨(hs.2 p.1 ne).trans e,n,ne,nf,d⟩
 ·have hfn:X.fn x=true:=by
   rcases hf with z | z
   ·exact z
   ·rw [z] at hk; cases hk
  obtain ⟨c,hc⟩:=I.ok.has x (.inl hk);obtain ⟨w',z⟩:=I.cell x c hc;refine wpAny_storeName_cell I.ok.kind hk hc z (fun h' Ht hs=>?_);obtain ⟨oc,hoc,hocd⟩:=id z;refine h { s with heap:=h' } ⟨I.ok,I.os,I.bare,⟨fun b o e n hb hx=>?_,fun b o e n hb hx=>?_,I.base.free,fun b o e hx=>?_,I.base.tups,I.base.frzs,I.base.tbls⟩,⟨m,hn.sameBut hs (Ne.symm (cne x c hc)),fun j y v' e1 e2 e3=>?_⟩,fun y c' e=>?_,I.free,I.freeC,fun p hp=>?_,tracked ⟨oc,hoc,I.freeC x c hc⟩ hs,by simpa using I.len⟩ ⟨c,hs,.inr hc⟩
  ·exact (hs.2 b (Zh (Zk (Zc e) (I.ok.cab x c hfn hc)))).trans (I.base.keep b o e n hb hx)
  ·obtain ⟨sl,e1⟩:=I.base.slot b o e n hb hx;exact ⟨sl,(hs.2 b (Zh (Zk (Zc e) (I.ok.cab x c hfn hc)))).trans e1⟩
  ·obtain ⟨o',e1⟩:=I.base.there b o e hx;exact ⟨o',(hs.2 b (Zh (Zk (Zc e) (I.ok.cab x c hfn hc)))).trans e1⟩
  ·by_cases hj:j=i
   ·subst hj;rw [hi] at e1; cases e1;rw [cO hiσ] at e2;cases e2
    exact ⟨u,r,.inr ⟨.inl hk,c,hc,Ht⟩⟩
   ·rw [cW (Ne.symm hj)] at e2;obtain ⟨u',r',q⟩:=hl j y v' e1 e2 e3;exists u',r';rcases q with q | ⟨k,c',e,z'⟩
    ·exact .inl q
    ·refine .inr ⟨k,c',e,z'.sameBut hs ?_⟩;rintro rfl;exact hj (I0 hN e1 (I.ok.inj _ _ _ e hc ▸ hi))
  ·by_cases hcc:c'=c
   ·subst hcc; exact ⟨_,Ht⟩
   ·obtain ⟨w2,z2⟩:=I.cell y c' e;exact ⟨w2,z2.sameBut hs hcc⟩
  ·obtain ⟨e,n,ne,nf,d⟩:=I.pin p hp;refine ⟨(hs.2 p.1 ?_).trans e,n,ne,nf,d⟩;intro q;rw [q,hoc] at e;have q':oc=p.2:=Zo.inj e;exact d w' (by rw [<-q']; exact hocd)
theorem Lo {M:Model} {A:Around} {E:Value->Shared->Prop} {i:Nat} {x:Str} {v:V} {u:Value} {Q:Unit->Shared->Prop} (I:An X pins σ H s) (hN:X.N.Nodup) (hi:X.N[i]? = some x) (hx:Vv X.env.scope x) (r:A3 v u)
  (h:∀ s',An X pins (σ.set i (some v)) H s'->Q () s') (hf:X.fn x=true\/X.env.scope.names.lookup x=some .local:=by first | exact .inl rfl | exact .inr rfl | assumption):wpAny M A (storeName X.env x u) Q E s:=
 EX I hN hi hx r (fun s' I' _=>h s' I') hf
theorem An.call' {s':Shared} {ch:List Addr} (I:An X pins σ H s) (ho:s'.os=s.os) (u:Un (RE X.stack) ch H H' s.heap s'.heap) (hok:FI X.prog X.w H' s'.heap) (hg:AllBare s'.gens)
  (hch:∀ b ∈ ch,(b ∈ X.ex\/X.s₀.heap.objs.size<=b)/\b ≠ X.env.locals/\(∀ x c,X.env.cells.lookup x=some c->c ≠ b)/\∀ p ∈ X.pn ++ pins,p.1 ≠ b):An X pins σ H' s':=by
 obtain ⟨h',g',d',t',o'⟩:=s';have e:o'=s.os:=ho;subst e;exact I.call (g':=g') (t':=t') (d':=d') u hok hg hch
end
abbrev XK:=Value->Option Addr->Hp->Prop
abbrev St:=List (Option V)
abbrev VK:=V->Hp->Prop
abbrev TE:=St->Hp->VK->Prop
abbrev TT:=St->Hp->(Bool->Hp->Prop)->Prop
abbrev TA:=St->Hp->(List V->Hp->Prop)->Prop
structure EW where
 nx:St->Hp->Prop
 rt:VK
 bk:St->Hp->Prop:=fun _ _=>False
 ct:St->Hp->Prop:=fun _ _=>False
abbrev TS:=EW->St->Hp->Prop
def EP (X:Cx) (pins:List (Addr × Obj)) (σ:St) (Q:VK) (u:Value) (s':Shared):Prop:=∃ v H',An X pins σ H' s'/\A3 v u/\Q v H'
def TP (X:Cx) (pins:List (Addr × Obj)) (σ:St) (Q:Bool->Hp->Prop) (b:Bool) (s':Shared):Prop:=∃ H',An X pins σ H' s'/\Q b H'
def AP (X:Cx) (pins:List (Addr × Obj)) (σ:St) (Q:List V->Hp->Prop) (us:List Value) (s':Shared):Prop:=∃ vs H',An X pins σ H' s'/\A5 vs us/\Q vs H'
def SP (X:Cx) (pins:List (Addr × Obj)) (D:EW) (f:Flow) (s':Shared):Prop:=
 match f with
 | .next=>∃ As H',An X pins As H' s'/\D.nx As H'
 | .brk=>∃ As H',An X pins As H' s'/\D.bk As H'
 | .cont=>∃ As H',An X pins As H' s'/\D.ct As H'
 | .ret u=>∃ v As H',An X pins As H' s'/\A3 v u/\D.rt v H'
def PE (X:Cx) (e:Expr) (t:TE):Prop:=
 ∀ ⦃pins:List (Addr × Obj)⦄ (s:Shared) (σ:St) (H:Hp) (Q:VK),An X pins σ H s->t σ H Q->wpAny (model X.prog X.w) X.A (eval e X.env) (EP X pins σ Q) X.xe s
def PT (X:Cx) (e:Expr) (t:TT):Prop:=
 ∀ ⦃pins:List (Addr × Obj)⦄ (s:Shared) (σ:St) (H:Hp) (Q:Bool->Hp->Prop),An X pins σ H s->t σ H Q->wpAny (model X.prog X.w) X.A (isTrue e X.env (eval e X.env)) (TP X pins σ Q) X.xe s
def PW (X:Cx) (e:Expr) (t:TT):Prop:=
 ∀ ⦃whole:Sem Value⦄ (pins:List (Addr × Obj)) (s:Shared) (σ:St) (H:Hp) (Q:Bool->Hp->Prop),An X pins σ H s->t σ H Q->wpAny (model X.prog X.w) X.A (isTrue e X.env whole) (TP X pins σ Q) X.xe s
theorem PW.pt {X:Cx} {e:Expr} {t:TT} (h:PW X e t):PT X e t:=@h _
def PA (X:Cx) (es:List Expr) (t:TA):Prop:=
 ∀ ⦃pos:Pos⦄ (pins:List (Addr × Obj)) (s:Shared) (σ:St) (H:Hp) (Q:List V->Hp->Prop),An X pins σ H s->t σ H Q->wpAny (model X.prog X.w) X.A (spliced (backTo pos (starEach es X.env))) (AP X pins σ Q) X.xe s
def PS (X:Cx) (st:Stmt) (t:TS):Prop:=
 ∀ ⦃pins:List (Addr × Obj)⦄ (s:Shared) (σ:St) (H:Hp) (D:EW),An X pins σ H s->t D σ H->wpAny (model X.prog X.w) X.A (exec st X.env) (SP X pins D) X.xe s
def Mj (X:Cx) (st:List Stmt) (t:TS):Prop:=
 ∀ ⦃pins:List (Addr × Obj)⦄ (s:Shared) (σ:St) (H:Hp) (D:EW),An X pins σ H s->t D σ H->wpAny (model X.prog X.w) X.A (execs st X.env) (SP X pins D) X.xe s
theorem B6 {α:Type} {t:Sem α} {Q Q':α->Shared->Prop} {M:Model} {A:Around} {E:Value->Shared->Prop} {s:Shared} (h:wpAny M A t Q E s) (hQ:∀ a s,Q a s->Q' a s):wpAny M A t Q' E s:=wpAny_mono h hQ fun _ _ x=>x
section
variable {X:Cx}
def Sv (i:Nat):TE:=fun σ H Q=>∃ v,σ[i]? = some (some v)/\Q v H
def tC (v:V):TE:=fun _ H Q=>Q v H
theorem UJ {i:Nat} {x:Str} {pos:Pos} (hN:X.N[i]? = some x) (hv:Vis X.env.scope x) (hd:(x == ("__debug__":Str))=false:=by decide) (hcd:(x == ("__classdict__":Str))=false:=by decide):PE X (.Name x pos) (Sv i):=by
 intro pins s σ H Q I h;obtain ⟨v,e,h⟩:=h;obtain ⟨m,hn,hl⟩:=I.loc;obtain ⟨u,r,l⟩:=hl i x v hN e hv;have fin:EP X pins σ Q u s:=⟨v,H,I,r,h⟩
 rcases l with ⟨hk,hm⟩ | ⟨hk,c,hc,hcell⟩
 ·exact wpAny_Name (wpAny_loadName_local I.ok.kind hk hn hm fin) hd
 ·rcases hk with hk | hk
  ·exact wpAny_Name (wpAny_loadName_cell I.ok.kind hk hc hcell fin) hd
  ·exact wpAny_Name (wpAny_loadName_free I.ok.kind hk hc hcell fin hcd) hd
theorem Ag {i j pos}:PE X (.Constant (.int i) j pos) (tC (.int i)):=fun _ _ _ H _ I h=>wpAny_Constant_int ⟨.int i,H,I.tok _,⟨_,rfl⟩,h⟩
theorem Gf {b j pos}:PE X (.Constant (.bool b) j pos) (tC (.bl b)):=fun _ _ _ H _ I h=>Constant_bool ⟨.bl b,H,I,rfl,h⟩
theorem G7 {j pos}:PE X (.Constant .none j pos) (tC .non):=fun _ _ _ H _ I h=>Constant_none ⟨.non,H,I,rfl,h⟩
theorem Dy {x j pos}:PE X (.Constant (.str x) j pos) (tC (.str x)):=fun _ _ _ H _ I h=>Calls.Constant_str ⟨.str x,H,I.tok _,⟨_,rfl⟩,h⟩
def Gl (X:Cx) (x:Str):Prop:=X.env.kindOf x=some .globalImplicit
theorem Od {E:Value->Shared->Prop} {pins:List (Addr × Obj)} {s:Shared} {σ:St} {H:Hp} {x:Str} {u:Value} {pos:Pos} {Q:Value->Shared->Prop} (I:An X pins σ H s) (hg:Gl X x) (hm:X.mg x=some u) (h:Q u s)
  (hd:(x == ("__debug__":Str))=false:=by decide):wpAny (model X.prog X.w) X.A (eval (.Name x pos) X.env) Q E s:=
 Calls.Name_function_global I.ok.kind hg (Calls.loadGlobal_global (by rw [I.ok.glob]; exact I.mod.glob.keeps I.bk) hm h) hd
theorem IH {E:Value->Shared->Prop} {pins:List (Addr × Obj)} {s:Shared} {σ:St} {H:Hp} {x:Str} {u:Value} {pos:Pos} {Q:Value->Shared->Prop} (I:An X pins σ H s) (hg:Gl X x) (hm:X.mg x=none) (hv:bootBuiltins x=some u) (h:Q u s)
  (hn:x ≠ "__name__":=by decide) (hd:(x == ("__debug__":Str))=false:=by decide):wpAny (model X.prog X.w) X.A (eval (.Name x pos) X.env) Q E s:=by
 obtain ⟨mb,h1,h2⟩:=I.mod.blt;exact Calls.Name_function_global I.ok.kind hg (Calls.loadGlobal_builtin (by rw [I.ok.glob]; exact I.mod.glob.keeps I.bk) hm (by rw [I.ok.blt]; exact h1.keeps I.bk) ((h2 x hn).trans hv) h) hd
theorem SF {x:Str} {v:V} {u:Value} {pos:Pos} (hg:Gl X x) (hm:X.mg x=some u) (r:A3 v u) (hd:(x == ("__debug__":Str))=false:=by decide):PE X (.Name x pos) (tC v):=
 fun _ _ _ H _ I h=>Od I hg hm ⟨v,H,I,r,h⟩ hd
theorem NL {x:Str} {v:V} {u:Value} {pos:Pos} (hg:Gl X x) (hm:X.mg x=none) (hv:bootBuiltins x=some u) (r:A3 v u) (hn:x ≠ "__name__":=by decide) (hd:(x == ("__debug__":Str))=false:=by decide):PE X (.Name x pos) (tC v):=
 fun _ _ _ H _ I h=>IH I hg hm hv ⟨v,H,I,r,h⟩ hn hd
variable {a b:Expr} {ta tb:TE} {pos:Pos}
def PC (X:Cx) (op:CmpOp) (a b:Expr) (t:TE):Prop:=
 ∀ ⦃pins:List (Addr × Obj)⦄ (s:Shared) (σ:St) (H:Hp) (Q:VK),An X pins σ H s->t σ H Q ->
  wpAny (model X.prog X.w) X.A (eval a X.env) (fun v AJ=>wpAny (model X.prog X.w) X.A (eval b X.env) (fun u Er=>wpAny (model X.prog X.w) X.A (compareOp op v u) (EP X pins σ Q) X.xe Er) X.xe AJ) X.xe s
theorem LC (b:Expr) {op:CmpOp} (h:op ≠ .In) (h2:op ≠ .NotIn):behindInMarks op b=false:=by
 have e1:(op == CmpOp.In)=false:=by cases op <;> first | rfl | exact absurd rfl h
 have e2:(op == CmpOp.NotIn)=false:=by cases op <;> first | rfl | exact absurd rfl h2
 cases b <;> simp [behindInMarks,e1,e2]
def tIsN (ta:TE):TE:=fun σ H Q=>ta σ H fun x H1=>Q (.bl (decide (x=.non))) H1
def tNotN (ta:TE):TE:=fun σ H Q=>ta σ H fun x H1=>Q (.bl (!decide (x=.non))) H1
theorem A3.none_iff {x:V} {v:Value} (r:A3 x v):(v == Value.none)=decide (x=.non):=by
 cases x with
 | non=>cases r; rfl
 | bl _=>cases r; rfl
 | int _=>obtain ⟨t,rfl⟩:=r; rfl
 | str _=>obtain ⟨t,rfl⟩:=r; rfl
 | byt _=>obtain ⟨t,rfl⟩:=r; rfl
 | flt _=>obtain ⟨t,rfl⟩:=r; rfl
 | ref _=>cases r; rfl
 | ty _=>cases r; rfl
theorem G8 {j pos'} (ha:PE X a ta):PC X .Is a (.Constant .none j pos') (tIsN ta):=by
 intro pins s σ H Q I h;refine B6 (ha (pins:=pins) s σ H _ I h) fun v s1 ⟨x,H1,I1,r1,q1⟩=>?_
 exact Constant_none (is_none_gen ⟨.bl _,H1,I1,by rw [r1.none_iff]; rfl,q1⟩)
theorem KC {j pos'} (ha:PE X a ta):PC X .IsNot a (.Constant .none j pos') (tNotN ta):=by
 intro pins s σ H Q I h;refine B6 (ha (pins:=pins) s σ H _ I h) fun v s1 ⟨x,H1,I1,r1,q1⟩=>?_
 exact Constant_none (isnot_none_gen ⟨.bl _,H1,I1,by rw [r1.none_iff]; rfl,q1⟩)
def tB (t:TE):TT:=fun σ H Q=>t σ H fun x H1=>∃ c,x=.bl c/\Q c H1
theorem KA {op:CmpOp} {t:TE} (h:PC X op a b t) (h1:behindInMarks op b=false:=by first | exact LC _ (by decide) (by decide) | rfl):PE X (.Compare a [op] [b] pos) t:=fun pins s σ H Q I hw=>wpAny_Compare1 (h (pins:=pins) s σ H Q I hw) h1
theorem E5 {op:CmpOp} {t:TE} (h:PC X op a b t) (h1:behindInMarks op b=false:=by first | exact LC _ (by decide) (by decide) | rfl):PT X (.Compare a [op] [b] pos) (tB t):=by
 intro pins s σ H Q I hw;refine wpAny_isTrue_Compare1 (B6 (h (pins:=pins) s σ H _ I hw) fun v s1 h1=>B6 h1 fun u s2 h2=>B6 h2 fun c s3 ⟨x,H1,I1,r1,q1⟩=>?_) h1;obtain ⟨d,rfl,q⟩:=q1;cases r1
 exact wpAny_truthy_bool ⟨H1,I1,q⟩
theorem F3 {e:Expr} {t:TE} (h:PE X e t) (he:∀ whole,isTrue e X.env whole=(do let v <- whole; standAt e.pos; holding [v] (truthy v)):=by intro _; rfl):PT X e (tB t):=by
 intro pins s σ H Q I hw;refine isTrue_plain (B6 (h (pins:=pins) s σ H _ I hw) fun v s1 ⟨x,H1,I1,r1,q1⟩=>?_) (he _);obtain ⟨d,rfl,q⟩:=q1;cases r1
 exact wpAny_truthy_bool ⟨H1,I1,q⟩
variable {tA WV:TT} {C4:List Expr}
def tAnd (t u:TT):TT:=fun σ H Q=>t σ H fun c H1=>if c=true then u σ H1 Q else Q false H1
def tOr (t u:TT):TT:=fun σ H Q=>t σ H fun c H1=>if c=true then Q true H1 else u σ H1 Q
def tNot (t:TT):TT:=fun σ H Q=>t σ H fun c H1=>Q (!c) H1
theorem NA (ha:PT X a tA):PW X (.BoolOp .And [a] pos) tA:=by
 intro wh pins s σ H Q I h;refine isTrue_and (B6 (ha (pins:=pins) s σ H Q I h) fun c s1 e=>?_);cases c with
 | true=>exact isTrue_and_nil e
 | false=>exact e
theorem K7 (ha:PT X a tA):PW X (.BoolOp .Or [a] pos) tA:=by
 intro wh pins s σ H Q I h;refine isTrue_or (B6 (ha (pins:=pins) s σ H Q I h) fun c s1 e=>?_);cases c with
 | false=>exact isTrue_or_nil e
 | true=>exact e
theorem M3 (ha:PT X a tA) (hb:PW X (.BoolOp .And (b :: C4) pos) WV):PW X (.BoolOp .And (a :: b :: C4) pos) (tAnd tA WV):=by
 intro wh pins s σ H Q I h;refine isTrue_and (B6 (ha (pins:=pins) s σ H _ I h) fun c s1 ⟨H1,I1,q1⟩=>?_);cases c with
 | true=>exact hb (whole:=wh) (pins:=pins) s1 σ H1 Q I1 q1
 | false=>exact ⟨H1,I1,q1⟩
theorem N4 (ha:PT X a tA) (hb:PW X (.BoolOp .Or (b :: C4) pos) WV):PW X (.BoolOp .Or (a :: b :: C4) pos) (tOr tA WV):=by
 intro wh pins s σ H Q I h;refine isTrue_or (B6 (ha (pins:=pins) s σ H _ I h) fun c s1 ⟨H1,I1,q1⟩=>?_);cases c with
 | true=>exact ⟨H1,I1,q1⟩
 | false=>exact hb (whole:=wh) (pins:=pins) s1 σ H1 Q I1 q1
theorem F4 (ha:PT X a tA):PT X (.UnaryOp .Not a pos) (tNot tA):=by
 intro pins s σ H Q I h;exact isTrue_not (ha (pins:=pins) s σ H (fun c H1=>Q (!c) H1) I h)
def tAndV (ta tb:TE):TE:=fun σ H Q=>ta σ H fun x H1=>∃ c,x=.bl c/\if c=true then tb σ H1 Q else Q (.bl false) H1
theorem Ra {op} {t:TE} (h:PE X a t):PE X (.BoolOp op [a] pos) t:=fun pins s σ H Q I hw=>BoolOp_one (h (pins:=pins) s σ H Q I hw)
theorem Rf (ha:PE X a ta) (hb:PE X (.BoolOp .And (b :: C4) pos) tb):PE X (.BoolOp .And (a :: b :: C4) pos) (tAndV ta tb):=by
 intro pins s σ H Q I h;refine BoolOp_and (B6 (ha (pins:=pins) s σ H _ I h) fun v s1 ⟨x,H1,I1,r1,q1⟩=>?_);obtain ⟨c,rfl,q1⟩:=q1;cases r1
 refine wpAny_truthy_bool ?_;cases c with
 | true=>exact hb (pins:=pins) s1 σ H1 Q I1 q1
 | false=>exact ⟨.bl false,H1,I1,rfl,q1⟩
def tIf (t:TT) (ta tb:TE):TE:=fun σ H Q=>t σ H fun c H1=>if c=true then ta σ H1 Q else tb σ H1 Q
theorem Ip {c:Expr} (hc:PT X c tA) (ha:PE X a ta) (hb:PE X b tb):PE X (.IfExp c a b pos) (tIf tA ta tb):=by
 intro pins s σ H Q I h;refine wpAny_IfExp (B6 (hc (pins:=pins) s σ H _ I h) fun d s1 ⟨H1,I1,q1⟩=>?_);cases d with
 | true=>exact ha (pins:=pins) s1 σ H1 Q I1 q1
 | false=>exact hb (pins:=pins) s1 σ H1 Q I1 q1
end
def A9 (K:YX) (H:Hp) (a:Addr) (xs:List V):Prop:=
 Rd H a (.lst xs) \/
  ∃ (o:Obj) (Ap:Array Value) (n:Nat),K.lookup a=some o/\o.cls=.type "list"/\o.dict=none/\o.data=.seq Ap n/\Ap.size<=sizeLine/\A5 xs Ap.toList
def AF (K:YX) (H:Hp) (a:Addr) (xs:List V):Prop:=
 Rd H a (.tup xs) \/
  ∃ (o:Obj) (Ap:Array Value) (n:Nat),K.lookup a=some o/\o.cls=.type "tuple"/\o.data=.seq Ap n/\Ap.size<=sizeLine/\A5 xs Ap.toList
def absV:Value->Option V
 | .none=>some .non
 | .bool b=>some (.bl b)
 | .int i _=>some (.int i)
 | .str x _=>some (.str x)
 | .bytes b _=>some (.byt b)
 | .float b _=>some (.flt b)
 | .ref a=>some (.ref a)
 | .type n=>some (.ty n)
 | _=>none
theorem A3.abs {x:V} {u:Value} (r:A3 x u):absV u=some x:=by
 cases x with
 | non=>cases r; rfl
 | bl _=>cases r; rfl
 | int _=>obtain ⟨t,rfl⟩:=r; rfl
 | str _=>obtain ⟨t,rfl⟩:=r; rfl
 | byt _=>obtain ⟨t,rfl⟩:=r; rfl
 | flt _=>obtain ⟨t,rfl⟩:=r; rfl
 | ref _=>cases r; rfl
 | ty _=>cases r; rfl
theorem A3.inj {x y:V} {u:Value} (r:A3 x u) (q:A3 y u):x=y:=Zo.inj (r.abs.symm.trans q.abs)
theorem A5.inj:∀ {xs ys:List V} {us:List Value},A5 xs us->A5 ys us->xs=ys
 | _,_,_,.nil,.nil=>rfl
 | _,_,_,.cons r t,.cons r' t'=>by rw [r.inj r',A5.inj t t']
section
variable {X:Cx} {pins:List (Addr × Obj)} {σ:St} {H:Hp} {s:Shared} {a:Addr} {xs ys:List V}
theorem A9.of {K:YX} (h:H a=some (.lst xs)):A9 K H a xs:=.inl (.inl h)
theorem AF.of {K:YX} (h:H a=some (.tup xs)):AF K H a xs:=.inl (.inl h)
theorem An.list (I:An X pins σ H s) (h:A9 X.K H a xs):∃ Ap:List Value,A5 xs Ap/\PlainL s.heap a Ap.toArray/\xs.length<=sizeLine:=by
 rcases h with h | ⟨o,Ap,n,hk,hc,hd,hs,hz,r⟩
 ·obtain ⟨z,Ap,n,r,e⟩:=h.ok I.hok;exact ⟨Ap,r,⟨_,n,e,rfl,rfl,rfl⟩,z⟩
 ·exists Ap.toList,r,⟨o,n,I.kIn a o hk,hc,hd,by simpa using hs⟩
  have e:=r.length;simp only [Z5] at e;lia
theorem An.tuple (I:An X pins σ H s) (h:AF X.K H a xs):∃ Ap:List Value,A5 xs Ap/\IsTup s.heap a Ap.toArray/\xs.length<=sizeLine:=by
 rcases h with h | ⟨o,Ap,n,hk,hc,hs,hz,r⟩
 ·obtain ⟨z,Ap,r,p,_⟩:=h.ok I.hok;exact ⟨Ap,r,p,z⟩
 ·exists Ap.toList,r,⟨o,I.kIn a o hk,hc,n,by simpa using hs⟩
  have e:=r.length;simp only [Z5] at e;lia
theorem An.list_inj (I:An X pins σ H s) (h:A9 X.K H a xs) (h':A9 X.K H a ys):xs=ys:=by
 obtain ⟨Ap,r,⟨o,n,e,_,_,d⟩,_⟩:=I.list h;obtain ⟨its',r',⟨o',n',e',_,_,d'⟩,_⟩:=I.list h';rw [e] at e'; cases e';rw [d] at d';injection d' with d1 _;have:Ap=its':=by simpa using congrArg bV d1
 subst this;exact r.inj r'
theorem An.tuple_inj (I:An X pins σ H s) (h:AF X.K H a xs) (h':AF X.K H a ys):xs=ys:=by
 obtain ⟨Ap,r,⟨o,e,_,n,d⟩,_⟩:=I.tuple h;obtain ⟨its',r',⟨o',e',_,n',d'⟩,_⟩:=I.tuple h';rw [e] at e'; cases e';rw [d] at d';injection d' with d1 _;have:Ap=its':=by simpa using congrArg bV d1
 subst this;exact r.inj r'
end
abbrev Cx.wish (X:Cx) (E:Value->Shared->Prop):Cx:={ X with xe:=E }
abbrev Cx.nox (X:Cx):Cx:=X.wish fun _ _=>False
theorem Cx.Ok.wish {X:Cx} (ok:X.Ok) (E:Value->Shared->Prop):(X.wish E).Ok:=
 ⟨ok.mod,ok.kind,ok.glob,ok.blt,ok.above,ok.inj,ok.has,ok.cab,ok.hd,ok.frames,ok.stk,ok.exf,ok.bs,ok.bsz,ok.noex,ok.exfs,ok.funs,ok.frf⟩
theorem Cx.Ok.unwish {X:Cx} {E:Value->Shared->Prop} (ok:(X.wish E).Ok):X.Ok:=
 ⟨ok.mod,ok.kind,ok.glob,ok.blt,ok.above,ok.inj,ok.has,ok.cab,ok.hd,ok.frames,ok.stk,ok.exf,ok.bs,ok.bsz,ok.noex,ok.exfs,ok.funs,ok.frf⟩
section
variable {X:Cx} {pins:List (Addr × Obj)} {σ:St} {H:Hp} {s:Shared} {E:Value->Shared->Prop}
theorem An.wish (I:An X pins σ H s) (E:Value->Shared->Prop):An (X.wish E) pins σ H s:=⟨I.ok.wish E,I.os,I.bare,I.base,I.loc,I.cell,I.free,I.freeC,I.pin,I.hok,I.len⟩
theorem An.unwish (I:An (X.wish E) pins σ H s):An X pins σ H s:=⟨I.ok.unwish,I.os,I.bare,I.base,I.loc,I.cell,I.free,I.freeC,I.pin,I.hok,I.len⟩
theorem SP.unwish {D:EW} {f:Flow} {s':Shared} (h:SP (X.wish E) pins D f s'):SP X pins D f s':=by
 cases f with
 | next=>obtain ⟨As,H',I,q⟩:=h; exact ⟨As,H',I.unwish,q⟩
 | brk=>obtain ⟨As,H',I,q⟩:=h; exact ⟨As,H',I.unwish,q⟩
 | cont=>obtain ⟨As,H',I,q⟩:=h; exact ⟨As,H',I.unwish,q⟩
 | ret u=>obtain ⟨v,As,H',I,r,q⟩:=h; exact ⟨v,As,H',I.unwish,r,q⟩
theorem Mj.nox {st:List Stmt} {t:TS} (h:Mj X.nox st t):Mj X st t:=fun pins s σ H D I hw=>
 wpAny_mono (h (pins:=pins) s σ H D (I.wish _) hw) (fun _ _ q=>q.unwish) fun _ _ z=>False.elim z
end
section
variable {X:Cx} {st:Stmt} {C4:List Stmt} {t u:TS} {e:Expr} {te:TE} {pos:Pos}
def tNext:TS:=fun D σ H=>D.nx σ H
def tSeq (t u:TS):TS:=fun D σ H=>t { D with nx:=u D } σ H
theorem BP:Mj X [] tNext:=fun _ _ σ H _ I h=>wpAny_execs_nil ⟨σ,H,I,h⟩
theorem Ae (h1:PS X st t) (h2:Mj X C4 u):Mj X (st :: C4) (tSeq t u):=by
 intro pins s σ H D I h;refine wpAny_execs_cons (B6 (h1 (pins:=pins) s σ H { D with nx:=u D } I h) fun f s1 q=>?_);cases f with
 | next=>
  obtain ⟨As,H',I',q⟩:=q;exact h2 (pins:=pins) s1 As H' D I' q
 | ret v=>exact q
 | brk=>exact q
 | cont=>exact q
theorem Aj (h1:PS X st t):Mj X [st] t:=by
 intro pins s σ H D I h;refine wpAny_execs_cons (B6 (h1 (pins:=pins) s σ H D I h) fun f s1 q=>?_);cases f with
 | next=>exact wpAny_execs_nil q
 | ret v=>exact q
 | brk=>exact q
 | cont=>exact q
theorem An.quiet {pins:List (Addr × Obj)} {σ:St} {H:Hp} {s:Shared} (I:An X pins σ H s):interactive X.env=false:=by simp [interactive,I.ok.kind]
def tDrop (te:TE):TS:=fun D σ H=>te σ H fun _ H1=>D.nx σ H1
theorem Fd (he:PE X e te) (hs:swapsWith e none pos.line X.env=pure false:=by rfl):PS X (.Expr e pos) (tDrop te):=by
 intro pins s σ H D I h;exact wpAny_Expr_any (B6 (he (pins:=pins) s σ H _ I h) fun v s1 ⟨x,H1,I1,r1,q1⟩=>⟨σ,H1,I1,q1⟩) I.quiet hs
def tRet (te:TE):TS:=fun D σ H=>te σ H D.rt
theorem AG (he:PE X e te):PS X (.Return (some e) pos) (tRet te):=by
 intro pins s σ H D I h;exact wpAny_Return_some (B6 (he (pins:=pins) s σ H _ I h) fun v s1 ⟨x,H1,I1,r1,q1⟩=>⟨x,σ,H1,I1,r1,q1⟩)
def tIfS (c:TT) (t u:TS):TS:=fun D σ H=>c σ H fun b H1=>if b=true then t D σ H1 else u D σ H1
theorem Dt {c:Expr} {a b:List Stmt} {tc:TT} (hc:PT X c tc) (ha:Mj X a t) (hb:Mj X b u):PS X (.If c a b pos) (tIfS tc t u):=by
 intro pins s σ H D I h;refine wpAny_If (B6 (hc (pins:=pins) s σ H _ I h) fun d s1 ⟨H1,I1,q1⟩=>?_);cases d with
 | true=>exact ha (pins:=pins) s1 σ H1 D I1 q1
 | false=>exact hb (pins:=pins) s1 σ H1 D I1 q1
end
abbrev TG:=V->St->Hp->(St->Hp->Prop)->Prop
abbrev Us:=List V->St->Hp->(St->Hp->Prop)->Prop
def PG (X:Cx) (target:Expr) (t:TG):Prop:=
 ∀ ⦃pins:List (Addr × Obj)⦄ (s:Shared) (σ:St) (H:Hp) (v:V) (u:Value) (Q:St->Hp->Prop),An X pins σ H s->A3 v u->t v σ H Q ->
  wpAny (model X.prog X.w) X.A (assign target X.env u) (fun _ s'=>∃ As H',An X pins As H' s'/\Q As H') X.xe s
def PGs (X:Cx) (ts:List Expr) (t:Us):Prop:=
 ∀ ⦃pins:List (Addr × Obj)⦄ (s:Shared) (σ:St) (H:Hp) (vs:List V) (us:List Value) (Q:St->Hp->Prop),An X pins σ H s->A5 vs us->t vs σ H Q ->
  wpAny (model X.prog X.w) X.A (assignInOrder ((assignEach ts X.env).map (·.2)) us) (fun _ s'=>∃ As H',An X pins As H' s'/\Q As H') X.xe s
abbrev Vt:=V->V->V->Hp->(Hp->Prop)->Prop
def PSet (X:Cx) (t:Vt):Prop:=
 ∀ ⦃pins:List (Addr × Obj)⦄ (s:Shared) (σ:St) (H:Hp) (o i v:V) (ov iv u:Value) (Q:Hp->Prop),An X pins σ H s->A3 o ov->A3 i iv->A3 v u->t o i v H Q ->
  wpAny (model X.prog X.w) X.A (setItem ov iv u) (fun _ s'=>∃ H',An X pins σ H' s'/\Q H') X.xe s
section
variable {X:Cx} {pos:Pos}
def Ke (i:Nat):TG:=fun v σ H Q=>Q (σ.set i (some v)) H
theorem Ah {i:Nat} {x:Str} (hN:X.N.Nodup) (hi:X.N[i]? = some x) (hx:Vv X.env.scope x) (hf:X.fn x=true\/X.env.scope.names.lookup x=some .local:=by first | exact .inl rfl | exact .inr rfl | assumption):PG X (.Name x pos) (Ke i):=by
 intro pins s σ H v u Q I r h;exact wpAny_assign_Name (Lo I hN hi hx r (fun s' I'=>⟨_,H,I',h⟩) hf)
def gNil:Us:=fun vs σ H Q=>vs=[]/\Q σ H
def gCons (t:TG) (u:Us):Us:=fun vs σ H Q=>∃ v r,vs=v :: r/\t v σ H fun As H'=>u r As H' Q
theorem BC:PGs X [] gNil:=by
 intro pins s σ H vs us Q I r h;obtain ⟨e,h⟩:=h;subst e;cases r
 exact assignInOrder_nil ⟨σ,H,I,h⟩
theorem Ar {e:Expr} {es:List Expr} {t:TG} {u:Us} (h1:PG X e t) (h2:PGs X es u)
  (hs:(assignEach (e :: es) X.env).map (·.2)=assign e X.env :: (assignEach es X.env).map (·.2):=by rfl):PGs X (e :: es) (gCons t u):=by
 intro pins s σ H vs us Q I r h;obtain ⟨v,vr,e1,h⟩:=h;subst e1;cases r with
 | cons r rr=>
  rw [hs];refine assignInOrder_cons (B6 (h1 (pins:=pins) s σ H _ _ _ I r h) fun _ s1 ⟨Vz,H1,I1,q1⟩=>?_);exact h2 (pins:=pins) s1 Vz H1 _ _ Q I1 rr q1
def gTup (K:YX) (n:Nat) (t:Us):TG:=fun v σ H Q=>∃ a xs,v=.ref a/\AF K H a xs/\xs.length=n/\t xs σ H Q
theorem UI {es:List Expr} {k:Nat} {t:Us} {n:Nat} (hc:X.calm=true) (h:PGs X es t)
  (hn:(assignEach es X.env).length=n:=by rfl) (hst:(assignEach es X.env).findIdx? (·.1)=none:=by rfl):PG X (.Tuple es k pos) (gTup X.K n t):=by
 intro pins s σ H v u Q I r hw;obtain ⟨a,xs,e1,hq,hl,hw⟩:=hw;subst e1;cases r
 obtain ⟨Ap,rv,ht,hz⟩:=I.tuple hq;refine assign_Tuple_tuple (I.ok.hd hc) ht (by simp [hn,<-hl,rv.length]) hst fun h' hx=>?_
 have I1:An X pins σ H { s with heap:=h' }:=I.kept (t':=s.toks) fun b o e=>hx b o (Zh (Zc e)) e
 exact h (pins:=pins) _ σ H xs _ Q I1 (by simpa using rv) hw
def gSub (to ti:TE) (t:Vt):TG:=fun v σ H Q=>to σ H fun o H1=>ti σ H1 fun i H2=>t o i v H2 fun H3=>Q σ H3
theorem M4 {o i:Expr} {to ti:TE} {t:Vt} (ho:PE X o to) (hi:PE X i ti) (hs:PSet X t)
  (ha:∀ v,assign (.Subscript o i pos) X.env v=(do
   let ov <- holding [v] (eval o X.env)
   let iv <- holding [v,ov] (eval i X.env)
   standAt pos
   holding [v,ov,iv] (setItem ov iv v)
   release [v,ov,iv] []):=by intro _; rfl):PG X (.Subscript o i pos) (gSub to ti t):=by
 intro pins s σ H v u Q I r h;rw [ha];refine wpAny_bind (wpAny_holding (B6 (ho (pins:=pins) s σ H _ I h) fun ov s1 ⟨x,H1,I1,r1,q1⟩=>?_));refine wpAny_bind (wpAny_holding (B6 (hi (pins:=pins) s1 σ H1 _ I1 q1) fun iv s2 ⟨y,H2,I2,r2,q2⟩=>?_));refine wpAny_bind (wpAny_standAt (wpAny_bind (wpAny_holding (B6 (hs (pins:=pins) s2 σ H2 x y v ov iv u _ I2 r1 r2 r q2) fun _ s3 ⟨H3,I3,q3⟩=>?_))));exact wpAny_release ⟨σ,H3,I3,q3⟩
def Qy (te:TE) (g:TG):TS:=fun D σ H=>te σ H fun x H1=>g x σ H1 D.nx
theorem E6 {tg e:Expr} {te:TE} {g:TG} (he:PE X e te) (hg:PG X tg g) (hs:swapsWithSole [tg] e pos.line X.env=pure false:=by rfl) (hw:swappedStores [tg] e X.env=pure none:=by rfl)
  (h1:(assignEach [tg] X.env).map (·.2)=[assign tg X.env]:=by rfl):PS X (.Assign [tg] e pos) (Qy te g):=by
 intro pins s σ H D I h;refine wpAny_Assign_stores (B6 (he (pins:=pins) s σ H _ I h) fun v s1 ⟨x,H1,I1,r1,q1⟩=>?_) hs hw;rw [h1];exact B6 (hg (pins:=pins) s1 σ H1 x v _ I1 r1 q1) fun _ s2 q=>q
theorem Aq {i:Nat} {x:Str} {e:Expr} {te:TE} {pos':Pos} (hN:X.N.Nodup) (hi:X.N[i]? = some x) (hx:Vv X.env.scope x) (he:PE X e te) (hs:swapsWith e (some (.Name x pos')) pos.line X.env=pure false:=by rfl) (hf:X.fn x=true\/X.env.scope.names.lookup x=some .local:=by first | exact .inl rfl | exact .inr rfl | assumption) :
  PS X (.Assign [.Name x pos'] e pos) (Qy te (Ke i)):=by
 intro pins s σ H D I h;refine wpAny_Assign_Name (B6 (he (pins:=pins) s σ H _ I h) fun v s1 ⟨y,H1,I1,r1,q1⟩=>?_) hs;exact Lo I1 hN hi hx r1 (fun s2 I2=>⟨_,H1,I2,q1⟩) hf
end
section
variable {X:Cx} {pos:Pos}
def U5 (c:TT) (tb:TS):TS:=fun D σ H=>∃ W:Nat->St->Hp->Prop,(∃ m,W m σ H)/\∀ m σ H,W m σ H ->
 c σ H fun b H1=>if b=true then ∃ N:St->Hp->Prop,(∀ As H',N As H'->∃ m',m' < m/\W m' As H')/\tb { D with nx:=N,ct:=N,bk:=D.nx } σ H1 else D.nx σ H1
theorem L5 {c:Expr} {body:List Stmt} {tc:TT} {tb:TS} (hp:PassesOwn (model X.prog X.w) X.A X.env X.xe) (hc:PT X c tc) (hb:Mj X body tb):PS X (.While c body [] pos) (U5 tc tb):=by
 intro pins s σ H D I h;obtain ⟨W,⟨m0,w0⟩,turn⟩:=h;refine wpAny_While (codeAny_whileLoop (fun n s'=>∃ As H',An X pins As H' s'/\W n As H') ?_ m0 ⟨σ,H,I,w0⟩);rintro n s1 ⟨Vz,H1,I1,w1⟩;refine wpAny_passesOwn hp (B6 (hc (pins:=pins) s1 Vz H1 _ I1 (turn n Vz H1 w1)) fun b s2 ⟨H2,I2,q2⟩=>?_);cases b with
 | true=>
  obtain ⟨N,hN,q2⟩:=q2;rw [if_pos rfl];refine wpAny_passesOwn hp (B6 (hb (pins:=pins) s2 Vz H2 _ I2 q2) fun f s3 q3=>?_);cases f with
  | next=>
   obtain ⟨Qj,H3,I3,n3⟩:=q3;obtain ⟨m',hm,w3⟩:=hN Qj H3 n3;exact ⟨m',hm,Qj,H3,I3,w3⟩
  | cont=>
   obtain ⟨Qj,H3,I3,n3⟩:=q3;obtain ⟨m',hm,w3⟩:=hN Qj H3 n3;exact ⟨m',hm,Qj,H3,I3,w3⟩
  | brk=>exact q3
  | ret v=>exact q3
 | false=>
  rw [if_neg Zn];exact wpAny_execs_nil ⟨Vz,H2,I2,q2⟩
end
structure It where
 go:Nat->Hp->Prop
 yld:Nat->Hp->V->Hp->Prop
 stop:Nat->Hp->Prop
def Ek (X:Cx) (pins:List (Addr × Obj)) (H:Hp) (b:Addr):Prop:=
 H b=none/\b ≠ X.env.locals/\b ∉ X.fs/\(b ∈ X.ex\/X.s₀.heap.objs.size<=b)/\(∀ x c,X.env.cells.lookup x=some c->c ≠ b)/\∀ p ∈ X.pn ++ pins,p.1 ≠ b
theorem An.fpOk {X:Cx} {pins:List (Addr × Obj)} {σ:St} {H H':Hp} {s:Shared} {b:Addr} (I:An X pins σ H s) (hb:s.heap.objs.size<=b) (hn:H' b=none):Ek X pins H' b:=by
 refine ⟨hn,ZO (Zk I.lt hb),I.nofs hb,.inr (Z2 I.sz hb),fun x c e z=>?_,fun p hp z=>?_⟩
 ·obtain ⟨v,q⟩:=I.cell x c e;exact absurd (Zk q.lt (by rw [z]; exact hb)) (ZK _)
 ·exact absurd (Zk (Zc (I.pin p hp).1) (by rw [z]; exact hb)) (ZK _)
structure Mh (P:Program) (w:World) (K:YX) (tg:Expr) (J:It) (fp:List Addr) (it:Addr) (tn:Nat->Heap->Prop):Prop where
 mem:it ∈ fp
 obj:∀ i h,tn i h->∀ b ∈ fp,∃ o,h.get? b=some o/\∀ v,o.data ≠ .cell v
 keep:∀ i h h',tn i h->(∀ b ∈ fp,∀ o,h.get? b=some o->h'.get? b=some o)->tn i h'
 item:∀ (X:Cx),X.prog=P->X.w=w->X.K=K->X.calm=true->∀ (i:Nat) (pins:List (Addr × Obj)) (s:Shared) (σ:St) (H:Hp) (E:Value->Shared->Prop),An X pins σ H s->(∀ b ∈ fp,Ek X pins H b)->tn i s.heap->J.go i H ->
  wpAny (model P w) X.A (pyNext (.ref it)) (fun r s1=>∃ u,r=some u /\
   wpAny (model P w) X.A (letOwnedTupleGo tg (.ref it) u) (fun _ s2=>∃ x H',An X pins σ H' s2/\A3 x u/\J.yld i H x H'/\tn (i + 1) s2.heap/\∀ b ∈ fp,H' b=none) E s1) E s
 done:∀ (X:Cx),X.prog=P->X.w=w->X.K=K->X.calm=true->∀ (i:Nat) (pins:List (Addr × Obj)) (s:Shared) (σ:St) (H:Hp) (E:Value->Shared->Prop),An X pins σ H s->(∀ b ∈ fp,Ek X pins H b)->tn i s.heap->J.stop i H ->
  wpAny (model P w) X.A (pyNext (.ref it)) (fun r s1=>r=none/\An X pins σ H s1) E s
 self:∀ (A:Around) (i:Nat) (s:Shared) (Q:Value->Shared->Prop) (E:Value->Shared->Prop),tn i s.heap->Q (.ref it) s->wpAny (model P w) A (pyIter (.ref it)) Q E s
abbrev TI:=St->Hp->(It->Hp->Prop)->Prop
def PIE (X:Cx) (pins:List (Addr × Obj)) (σ:St) (tg:Expr) (R:It->Hp->Prop) (itv:Value) (s2:Shared):Prop:=
 ∃ (it:Addr) (fp:List Addr) (tn:Nat->Heap->Prop) (J:It) (H':Hp),itv=.ref it/\An X pins σ H' s2/\Mh X.prog X.w X.K tg J fp it tn/\tn 0 s2.heap/\(∀ b ∈ fp,Ek X pins H' b)/\R J H'
def PI (X:Cx) (tg iter:Expr) (wi:TI):Prop:=
 ∀ ⦃pins:List (Addr × Obj)⦄ (s:Shared) (σ:St) (H:Hp) (R:It->Hp->Prop),An X pins σ H s->wi σ H R ->
  wpAny (model X.prog X.w) X.A (eval iter X.env) (fun v s1=>wpAny (model X.prog X.w) X.A (pyIter v) (PIE X pins σ tg R) X.xe s1) X.xe s
theorem IU {M:Model} {A:Around} {E:Value->Shared->Prop} {s:Shared} {tg:Expr} {it:Addr} {u:Value} {o:Obj} {n:String} {vs:Array Value} {Q:Unit->Shared->Prop} (ho:s.heap.get? it=some o) (hc:o.cls=.type n) (hd:o.data=.fields vs)
  (hn:["enumerate","zip","dict_itemiterator","dict_reverseitemiterator","odict_iterator","itertools.zip_longest","itertools.pairwise"].contains n=false) (hQ:Q () s):wpAny M A (letOwnedTupleGo tg (.ref it) u) Q E s:=by
 unfold letOwnedTupleGo;cases tg <;> first
  | exact wpAny_pure hQ
  | (cases u <;> first
    | exact wpAny_pure hQ
    | (refine wpAny_bind (wpAny_load ho ?_)
       rw [hc,hd];show wpAny M A (if (["enumerate","zip","dict_itemiterator","dict_reverseitemiterator","odict_iterator","itertools.zip_longest","itertools.pairwise"].contains n && vs[0]? == some (rawInt _))=true then _ else _) Q E s
       rw [if_neg (by intro h; rw [hn,bL] at h; cases h)];exact wpAny_pure hQ))
def Qb (K:YX) (a:Addr):It:=
 ⟨fun i H=>∃ xs x,A9 K H a xs/\xs[i]? = some x,fun i H x H'=>H'=H/\∀ xs,A9 K H a xs->xs[i]? = some x,fun i H=>∃ xs,A9 K H a xs/\xs.length<=i⟩
def Qa (K:YX) (a:Addr):It:=
 ⟨fun i H=>∃ xs x,AF K H a xs/\xs[i]? = some x,fun i H x H'=>H'=H/\∀ xs,AF K H a xs->xs[i]? = some x,fun i H=>∃ xs,AF K H a xs/\xs.length<=i⟩
def Sk (lo:Int) (n:Nat):It:=⟨fun i _=>i < n,fun i H x H'=>H'=H/\x=.int (lo + i),fun i _=>n<=i⟩
theorem JE {P:Program} {w:World} {K:YX} {tg:Expr} (a it:Addr):Mh P w K tg (Qb K a) [it] it (fun i h=>h.IsListIter it a i) where
 mem:=by simp
 obj:=fun i h st b hb=>by
  have e:b=it:=by simpa using hb
  subst e;obtain ⟨o,e,c,d⟩:=st;exact ⟨o,e,fun v z=>by rw [d] at z; cases z⟩
 keep:=fun i h h' st k=>st.at fun o e=>k it (by simp) o e
 item:=by
  intro X hP hw hK hc i pins s σ H E I hf st hg;subst hP hw hK;obtain ⟨xs,x,hq,hx⟩:=hg;obtain ⟨Ap,rv,p,hz⟩:=I.list hq;obtain ⟨u,hu,ru⟩:=rv.get hx;obtain ⟨f0,f1,f2,f3,f4,f5⟩:=hf it (by simp);refine wpAny_pyNext_list_item st p.isList (x:=u) (by simpa using hu) fun h' AQ sb=>?_
  have I1:An X pins σ H { s with heap:=h' }:=I.turned (t':=s.toks) (fun b o hb e=>(sb.2 b hb).trans e) f0 f1 f3 f4 f5;obtain ⟨o,e,c,d⟩:=id AQ;exact ⟨u,rfl,IU (s:={ s with heap:=h' }) e c d (by decide) ⟨x,H,I1,ru,⟨rfl,fun ys hy=>by rw [I.list_inj hy hq]; exact hx⟩,AQ,fun b hb=>(hf b hb).1⟩⟩
 done:=by
  intro X hP hw hK hc i pins s σ H E I hf st hg;subst hP hw hK;obtain ⟨xs,hq,hx⟩:=hg;obtain ⟨Ap,rv,p,hz⟩:=I.list hq;obtain ⟨f0,f1,f2,f3,f4,f5⟩:=hf it (by simp);have hl:=rv.length;exact wpAny_pyNext_list_end (I.ok.hd hc) st p.isList (by simp; lia) fun h' eb=>⟨rfl,I.turned (t':=s.toks) (fun b o hb e=>eb b o hb e) f0 f1 f3 f4 f5⟩
 self:=fun _ _ _ _ _ st h=>wpAny_pyIter_listiter st h
theorem HY {P:Program} {w:World} {K:YX} {tg:Expr} (a it:Addr):Mh P w K tg (Qa K a) [it] it (fun i h=>h.IsTupleIter it a i) where
 mem:=by simp
 obj:=fun i h st b hb=>by
  have e:b=it:=by simpa using hb
  subst e;obtain ⟨o,e,c,d⟩:=st;exact ⟨o,e,fun v z=>by rw [d] at z; cases z⟩
 keep:=fun i h h' st k=>st.at fun o e=>k it (by simp) o e
 item:=by
  intro X hP hw hK hc i pins s σ H E I hf st hg;subst hP hw hK;obtain ⟨xs,x,hq,hx⟩:=hg;obtain ⟨Ap,rv,p,hz⟩:=I.tuple hq;obtain ⟨u,hu,ru⟩:=rv.get hx;obtain ⟨f0,f1,f2,f3,f4,f5⟩:=hf it (by simp);refine wpAny_pyNext_tuple_item st (show s.heap.IsTuple a Ap.toArray from p) (x:=u) (by simpa using hu) fun h' AQ sb=>?_
  have I1:An X pins σ H { s with heap:=h' }:=I.turned (t':=s.toks) (fun b o hb e=>(sb.2 b hb).trans e) f0 f1 f3 f4 f5;obtain ⟨o,e,c,d⟩:=id AQ;exact ⟨u,rfl,IU (s:={ s with heap:=h' }) e c d (by decide) ⟨x,H,I1,ru,⟨rfl,fun ys hy=>by rw [I.tuple_inj hy hq]; exact hx⟩,AQ,fun b hb=>(hf b hb).1⟩⟩
 done:=by
  intro X hP hw hK hc i pins s σ H E I hf st hg;subst hP hw hK;obtain ⟨xs,hq,hx⟩:=hg;obtain ⟨Ap,rv,p,hz⟩:=I.tuple hq;obtain ⟨f0,f1,f2,f3,f4,f5⟩:=hf it (by simp);have hl:=rv.length;exact wpAny_pyNext_tuple_end (I.ok.hd hc) st (show s.heap.IsTuple a Ap.toArray from p) (by simp; lia) fun h' eb=>⟨rfl,I.turned (t':=s.toks) (fun b o hb e=>eb b o hb e) f0 f1 f3 f4 f5⟩
 self:=fun _ _ _ _ _ st h=>wpAny_pyIter_tupleiter st h
theorem Mq {P:Program} {w:World} {K:YX} {tg:Expr} (it:Addr) (lo:Int) (n:Nat):Mh P w K tg (Sk lo n) [it] it (fun i h=>IsRangeIter h it (lo + (i:Nat) * 1) ((n:Int) - (i:Nat)) 1) where
 mem:=by simp
 obj:=fun i h st b hb=>by
  have e:b=it:=by simpa using hb
  subst e;exact ⟨_,st,fun v z=>by
   have z':Data.fields _=Data.cell v:=z;cases z'⟩
 keep:=fun i h h' st k=>k it (by simp) _ st
 item:=by
  intro X hP hw hK hc i pins s σ H E I hf st hg;subst hP hw hK;obtain ⟨f0,f1,f2,f3,f4,f5⟩:=hf it (by simp);have W:=Walks.range (prog:=X.prog) (w:=X.w) (I.ok.hd hc) it lo 1 n;refine W.item i s _ _ hg st fun v h' tk hv AQ kk=>?_
  obtain ⟨t,rfl⟩:=hv;have I1:An X pins σ H { s with heap:=h',toks:=tk }:=I.turned (fun b o hb e=>kk b o (by simpa using hb) e) f0 f1 f3 f4 f5;refine ⟨_,rfl,IU (s:={ s with heap:=h',toks:=tk }) (n:="range_iterator") AQ rfl rfl (by decide) ⟨.int (lo + i),H,I1,⟨t,?_⟩,⟨rfl,rfl⟩,AQ,fun b hb=>(hf b hb).1⟩⟩;rw [bN]
 done:=by
  intro X hP hw hK hc i pins s σ H E I hf st hg;subst hP hw hK;obtain ⟨f0,f1,f2,f3,f4,f5⟩:=hf it (by simp);exact wpAny_pyNext_range_end (I.ok.hd hc) st (by have:n<=i:=hg; lia) fun h' eb=>⟨rfl,I.turned (t':=s.toks) (fun b o hb e=>eb b o hb e) f0 f1 f3 f4 f5⟩
 self:=fun _ _ _ _ _ st h=>wpAny_pyIter_rangeiter st h
section
variable {X:Cx} {tg:Expr}
def Uj (K:YX) (tl:TE):TI:=fun σ H R=>tl σ H fun x H1=>∃ a,x=.ref a/\(∃ xs,A9 K H1 a xs)/\R (Qb K a) H1
def iTup (K:YX) (tl:TE):TI:=fun σ H R=>tl σ H fun x H1=>∃ a,x=.ref a/\(∃ xs,AF K H1 a xs)/\R (Qa K a) H1
theorem K9 {l:Expr} {tl:TE} (hl:PE X l tl):PI X tg l (Uj X.K tl):=by
 intro pins s σ H R I h;refine B6 (hl (pins:=pins) s σ H _ I h) fun v s1 ⟨x,H1,I1,r1,q1⟩=>?_
 obtain ⟨a,e,⟨xs,hq⟩,q⟩:=q1;subst e;cases r1
 obtain ⟨Ap,rv,p,hz⟩:=I1.list hq;refine wpAny_pyIter_list p.isList ?_;refine ⟨s1.heap.objs.size,[s1.heap.objs.size],_,_,H1,rfl,I1.kept (t':=s1.toks) fun b o e=>YW _ e,JE a _,⟨_,Zf _ rfl,rfl,rfl⟩,fun b hb=>?_,q⟩;have e:b=s1.heap.objs.size:=by simpa using hb
 subst e;exact I1.fpOk (Zb _) (I1.hok.fresh (Zb _))
theorem QY {l:Expr} {tl:TE} (hl:PE X l tl):PI X tg l (iTup X.K tl):=by
 intro pins s σ H R I h;refine B6 (hl (pins:=pins) s σ H _ I h) fun v s1 ⟨x,H1,I1,r1,q1⟩=>?_
 obtain ⟨a,e,⟨xs,hq⟩,q⟩:=q1;subst e;cases r1
 obtain ⟨Ap,rv,p,hz⟩:=I1.tuple hq;refine wpAny_pyIter_tuple (show s1.heap.IsTuple a Ap.toArray from p) ?_;refine ⟨s1.heap.objs.size,[s1.heap.objs.size],_,_,H1,rfl,I1.kept (t':=s1.toks) fun b o e=>YW _ e,HY a _,⟨_,Zf _ rfl,rfl,rfl⟩,fun b hb=>?_,q⟩;have e:b=s1.heap.objs.size:=by simpa using hb
 subst e;exact I1.fpOk (Zb _) (I1.hok.fresh (Zb _))
theorem L3 {pins:List (Addr × Obj)} {σ:St} {H:Hp} {s:Shared} {R:It->Hp->Prop} {E:Value->Shared->Prop} {lo hi:Int} {t u v:Tok} {tk:Nat} (I:An X pins σ H s) (h1:-(2 ^ 62)<=lo) (h2:lo < 2 ^ 62) (h3:-(2 ^ 62)<=hi) (h4:hi < 2 ^ 62)
  (q:R (Sk lo (hi - lo).toNat) H):wpAny (model X.prog X.w) X.A (pyIter (.ref s.heap.objs.size)) (PIE X pins σ tg R) E { s with heap:=s.heap.push { cls:=.type "range",data:=.fields #[.int lo t,.int hi u,.int 1 v] },toks:=tk }:=by
 refine wpAny_pyIter_range (IsRange.new ..) (small_one h1 h2 h3 h4) ?_;have I1:An X pins σ H { s with heap:=s.heap.push { cls:=.type "range",data:=.fields #[.int lo t,.int hi u,.int 1 v] },toks:=tk }:=I.kept fun b o e=>YW _ e
 refine ⟨(s.heap.push { cls:=.type "range",data:=.fields #[.int lo t,.int hi u,.int 1 v] }).objs.size,[(s.heap.push { cls:=.type "range",data:=.fields #[.int lo t,.int hi u,.int 1 v] }).objs.size],_,_,H,rfl,
  I1.kept (t':=tk) fun b o e=>YW _ e,Mq _ lo (hi - lo).toNat,?_,fun b hb=>?_,q⟩
 ·have e1:lo + ((0:Nat):Int) * 1=lo:=by simp
  have e2:(((hi - lo).toNat:Nat):Int) - ((0:Nat):Int)=Builtin.Range.rangeSize lo hi 1:=by rw [rangeSize_one]; split <;> lia
  show IsRangeIter _ _ (lo + ((0:Nat):Int) * 1) ((((hi - lo).toNat:Nat):Int) - ((0:Nat):Int)) 1
  rw [e1,e2];exact Zf _ rfl
 ·have e:b=(s.heap.push { cls:=.type "range",data:=.fields #[.int lo t,.int hi u,.int 1 v] }).objs.size:=by simpa using hb
  subst e;exact I1.fpOk (Zb _) (I1.hok.fresh (Zb _))
def iRng1 (ta:TA):TI:=fun σ H R=>ta σ H fun vs H1=>∃ j:Int,vs=[.int j]/\-(2 ^ 62)<=j/\j < 2 ^ 62/\R (Sk 0 j.toNat) H1
def iRng2 (ta:TA):TI:=fun σ H R=>ta σ H fun vs H1=>∃ i j:Int,vs=[.int i,.int j]/\(-(2 ^ 62)<=i/\i < 2 ^ 62/\-(2 ^ 62)<=j/\j < 2 ^ 62)/\R (Sk i (j - i).toNat) H1
theorem CV {a:Expr} {ta:TA} {p pos:Pos} (hg:Gl X "range") (hm:X.mg "range"=none) (ha:PA X [a] ta) (hs:starEach [a] X.env=[(false,eval a X.env)]:=by rfl):PI X tg (.Call (.Name "range" p) [a] [] pos) (iRng1 ta):=by
 intro pins s σ H R I h;refine Call_ (IH I hg hm boot_range (PyProof.Rows.callWith_type1 (B6 (ha (pos:=pos) (pins:=pins) s σ H _ I h) fun us s1 ⟨vs,H1,I1,r1,q1⟩=>?_) hs rfl));obtain ⟨j,e,q1,q2,q⟩:=q1;subst e;cases r1 with
 | cons r rr=>
  cases rr
  obtain ⟨t,rfl⟩:=r;exact call_range_1 (L3 I1 (by lia) (by lia) q1 q2 (by simpa using q))
theorem OZ {a b:Expr} {ta:TA} {p pos:Pos} (hg:Gl X "range") (hm:X.mg "range"=none) (ha:PA X [a,b] ta) (hs:starEach [a,b] X.env=[(false,eval a X.env),(false,eval b X.env)]:=by rfl) (Ws:starEach [b] X.env=[(false,eval b X.env)]:=by rfl) :
  PI X tg (.Call (.Name "range" p) [a,b] [] pos) (iRng2 ta):=by
 intro pins s σ H R I h;refine Call_ (IH I hg hm boot_range (PyProof.Rows.callWith_type1 (B6 (ha (pos:=pos) (pins:=pins) s σ H _ I h) fun us s1 ⟨vs,H1,I1,r1,q1⟩=>?_) (by rw [hs,Ws]) (by rw [Ws]; rfl)));obtain ⟨i,j,e,⟨q1,q2,q3,q4⟩,q⟩:=q1;subst e;cases r1 with
 | cons r rr=>
  cases rr with
  | cons r' rr=>
   cases rr
   obtain ⟨t,rfl⟩:=r;obtain ⟨t',rfl⟩:=r';exact call_range_2 (L3 I1 q1 q2 q3 q4 q)
def tFor (wi:TI) (g:TG) (tb:TS):TS:=fun D σ H=>wi σ H fun J H1=>∃ W:Nat->Nat->St->Hp->Prop,(∃ m,W 0 m σ H1)/\∀ i m σ H,W i m σ H ->
 (J.stop i H/\D.nx σ H)\/(J.go i H/\∃ N:St->Hp->Prop,(∀ As H',N As H'->∃ m',m' < m/\W (i + 1) m' As H')/\∀ x H',J.yld i H x H'->g x σ H' fun Ay H2=>tb { D with nx:=N,ct:=N,bk:=D.nx } Ay H2)
def Dx (fp:List Addr) (h:Heap):List (Addr × Obj):=fp.filterMap fun b=>(h.get? b).map fun o=>(b,o)
theorem AX {fp:List Addr} {h:Heap} {b:Addr} {o:Obj} (hb:b ∈ fp) (e:h.get? b=some o):(b,o) ∈ Dx fp h:=bT.mpr ⟨b,hb,by rw [e]; rfl⟩
theorem Pl {fp:List Addr} {h:Heap} {p:Addr × Obj} (hp:p ∈ Dx fp h):p.1 ∈ fp/\h.get? p.1=some p.2:=by
 obtain ⟨b,hb,e⟩:=bT.mp hp;cases q:h.get? b with
 | none=>rw [q] at e; cases e
 | some o=>
  rw [q] at e;have e':(b,o)=p:=Zo.inj e;subst e';exact ⟨hb,q⟩
theorem An.pinned {pins:List (Addr × Obj)} {σ:St} {H:Hp} {s:Shared} {fp:List Addr} (I:An X pins σ H s) (hf:∀ b ∈ fp,Ek X pins H b) (ho:∀ b ∈ fp,∃ o,s.heap.get? b=some o/\∀ v,o.data ≠ .cell v):An X (pins ++ Dx fp s.heap) σ H s:=
 I.pins_of fun p hp=>(Zp.mp hp).elim (fun z=>I.pin p (Zj _ z)) fun z=>by
  obtain ⟨hb,e⟩:=Pl z;obtain ⟨f0,f1,f2,_⟩:=hf p.1 hb;obtain ⟨o,e',d⟩:=ho p.1 hb;rw [e] at e'; cases e';exact ⟨e,f0,f1,f2,d⟩
theorem An.unpinned {pins pl:List (Addr × Obj)} {σ:St} {H:Hp} {s:Shared} (I:An X (pins ++ pl) σ H s):An X pins σ H s:=I.pins_of fun p hp=>I.pin p (Zj _ (ZN _ hp))
theorem Bz {iter:Expr} {body:List Stmt} {wi:TI} {g:TG} {tb:TS} {pos:Pos} (hp:PassesOwn (model X.prog X.w) X.A X.env X.xe) (hc:X.calm=true) (hi:PI X tg iter wi) (hg:PG X tg g) (hb:Mj X body tb)
  (hs:∀ x,foldedSetIterable iter X.env x=pure x:=by intro _; rfl):PS X (.For tg iter body [] pos) (tFor wi g tb):=by
 intro pins s σ H D I h;refine wpAny_For (B6 (hi (pins:=pins) s σ H _ I h) fun v s1 h1=>B6 h1 fun itv s2 h2=>?_) hs;obtain ⟨it,fp,tn,J,H2,e,I2,T,Fj,f2,W,⟨m0,w0⟩,turn⟩:=h2;subst e;have stat:∀ {H':Hp},(∀ b ∈ fp,H' b=none)->∀ b ∈ fp,Ek X pins H' b:=fun hn b hb=>⟨hn b hb,(f2 b hb).2⟩
 refine codeAny_forLoop_any (fun n s'=>∃ i As H',An X pins As H' s'/\tn i s'.heap/\(∀ b ∈ fp,H' b=none)/\W i n As H') ?_ m0 ⟨0,σ,H2,I2,Fj,fun b hb=>(f2 b hb).1,w0⟩;rintro n s3 ⟨i,Qj,H3,I3,X9,fr3,w3⟩;rcases turn i n Qj H3 w3 with ⟨stop,qn⟩ | ⟨go,N,hN,step⟩
 ·refine wpAny_passesOwn hp (B6 (T.done X rfl rfl rfl hc i (pins:=pins) s3 Qj H3 X.xe I3 (stat fr3) X9 stop) fun r s4 ⟨hr,I4⟩=>?_);subst hr;exact wpAny_execs_nil ⟨Qj,H3,I4,qn⟩
 ·refine wpAny_passesOwn hp (B6 (T.item X rfl rfl rfl hc i (pins:=pins) s3 Qj H3 X.xe I3 (stat fr3) X9 go) fun r s4 ⟨u,hr,h4⟩=>?_);subst hr;refine wpAny_passesOwn hp (B6 h4 fun _ s5 ⟨x,H5,I5,r5,y5,X8,fr5⟩=>?_);have I5':=I5.pinned (stat fr5) (T.obj _ _ X8);refine wpAny_passesOwn hp (B6 (hg s5 Qj H5 x u _ I5' r5 (step x H5 y5)) fun _ s6 ⟨σ6,H6,I6,q6⟩=>?_);refine wpAny_passesOwn hp (B6 (hb s6 σ6 H6 _ I6 q6) fun f s7 q7=>?_);have again:∀ {El:St} {H7:Hp},An X (pins ++ Dx fp s5.heap) El H7 s7->N El H7->∃ m,m < n/\∃ i As H',An X pins As H' s7/\tn i s7.heap/\(∀ b ∈ fp,H' b=none)/\W i m As H':=fun {El H7} I7 n7=>by
   obtain ⟨m',hm,w7⟩:=hN El H7 n7;refine ⟨m',hm,i + 1,El,H7,I7.unpinned,T.keep _ _ _ X8 fun b hb o e=>(I7.pin (b,o) (Zj _ (Zj _ (AX hb e)))).1,fun b hb=>?_,w7⟩;obtain ⟨o,e,d⟩:=T.obj _ _ X8 b hb;exact (I7.pin (b,o) (Zj _ (Zj _ (AX hb e)))).2.1
  cases f with
  | next=>obtain ⟨El,H7,I7,n7⟩:=q7; exact again I7 n7
  | cont=>obtain ⟨El,H7,I7,n7⟩:=q7; exact again I7 n7
  | brk=>obtain ⟨El,H7,I7,q7⟩:=q7; exact ⟨El,H7,I7.unpinned,q7⟩
  | ret v=>obtain ⟨x7,El,H7,I7,r7,q7⟩:=q7; exact ⟨x7,El,H7,I7.unpinned,r7,q7⟩
end
theorem EF {K:YX} {a:Addr} {xs:List V} {g:TG} {tb:TS} {D:EW} {σ:St} {H:Hp} (Pv:Nat->St->Hp->Prop) (h0:Pv 0 σ H) (hl:∀ i σ H,i<=xs.length->Pv i σ H->A9 K H a xs)
  (hs:∀ i x σ H,xs[i]? = some x->Pv i σ H->g x σ H fun Ay H2=>tb { D with nx:=Pv (i + 1),ct:=Pv (i + 1),bk:=D.nx } Ay H2) (hd:∀ σ H,Pv xs.length σ H->D.nx σ H) :
  ∃ W:Nat->Nat->St->Hp->Prop,(∃ m,W 0 m σ H)/\∀ i m σ H,W i m σ H ->
   ((Qb K a).stop i H/\D.nx σ H)\/((Qb K a).go i H/\∃ N:St->Hp->Prop,(∀ As H',N As H'->∃ m',m' < m/\W (i + 1) m' As H')/\∀ x H',(Qb K a).yld i H x H'->g x σ H' fun Ay H2=>tb { D with nx:=N,ct:=N,bk:=D.nx } Ay H2):=by
 exists fun i m σ H=>m=xs.length - i/\i<=xs.length/\Pv i σ H,⟨xs.length,by simp,Z7 _,h0⟩
 rintro i m σ H ⟨rfl,hi,p⟩;have q:=hl i σ H hi p;by_cases Bv:i < xs.length
 ·refine .inr ⟨⟨xs,xs[i],q,by simp [Bv]⟩,Pv (i + 1),fun As H' p'=>⟨xs.length - (i + 1),by lia,rfl,Bv,p'⟩,fun x H' y=>?_⟩;obtain ⟨e,y⟩:=y;subst e;exact hs i x σ _ (y xs q) p
 ·have e:i=xs.length:=by lia
  subst e;exact .inl ⟨⟨xs,q,Zb _⟩,hd σ H p⟩
theorem Oo {K:YX} {a:Addr} {xs:List V} {g:TG} {tb:TS} {D:EW} {σ:St} {H:Hp} (Pv:Nat->St->Hp->Prop) (h0:Pv 0 σ H) (hl:∀ i σ H,i<=xs.length->Pv i σ H->AF K H a xs)
  (hs:∀ i x σ H,xs[i]? = some x->Pv i σ H->g x σ H fun Ay H2=>tb { D with nx:=Pv (i + 1),ct:=Pv (i + 1),bk:=D.nx } Ay H2) (hd:∀ σ H,Pv xs.length σ H->D.nx σ H) :
  ∃ W:Nat->Nat->St->Hp->Prop,(∃ m,W 0 m σ H)/\∀ i m σ H,W i m σ H ->
   ((Qa K a).stop i H/\D.nx σ H)\/((Qa K a).go i H/\∃ N:St->Hp->Prop,(∀ As H',N As H'->∃ m',m' < m/\W (i + 1) m' As H')/\∀ x H',(Qa K a).yld i H x H'->g x σ H' fun Ay H2=>tb { D with nx:=N,ct:=N,bk:=D.nx } Ay H2):=by
 exists fun i m σ H=>m=xs.length - i/\i<=xs.length/\Pv i σ H,⟨xs.length,by simp,Z7 _,h0⟩
 rintro i m σ H ⟨rfl,hi,p⟩;have q:=hl i σ H hi p;by_cases Bv:i < xs.length
 ·refine .inr ⟨⟨xs,xs[i],q,by simp [Bv]⟩,Pv (i + 1),fun As H' p'=>⟨xs.length - (i + 1),by lia,rfl,Bv,p'⟩,fun x H' y=>?_⟩;obtain ⟨e,y⟩:=y;subst e;exact hs i x σ _ (y xs q) p
 ·have e:i=xs.length:=by lia
  subst e;exact .inl ⟨⟨xs,q,Zb _⟩,hd σ H p⟩
theorem Fg {lo:Int} {n:Nat} {g:TG} {tb:TS} {D:EW} {σ:St} {H:Hp} (Pv:Nat->St->Hp->Prop) (h0:Pv 0 σ H)
  (hs:∀ i σ H,i < n->Pv i σ H->g (.int (lo + i)) σ H fun Ay H2=>tb { D with nx:=Pv (i + 1),ct:=Pv (i + 1),bk:=D.nx } Ay H2) (hd:∀ σ H,Pv n σ H->D.nx σ H) :
  ∃ W:Nat->Nat->St->Hp->Prop,(∃ m,W 0 m σ H)/\∀ i m σ H,W i m σ H ->
   ((Sk lo n).stop i H/\D.nx σ H)\/((Sk lo n).go i H/\∃ N:St->Hp->Prop,(∀ As H',N As H'->∃ m',m' < m/\W (i + 1) m' As H')/\∀ x H',(Sk lo n).yld i H x H'->g x σ H' fun Ay H2=>tb { D with nx:=N,ct:=N,bk:=D.nx } Ay H2):=by
 exists fun i m σ H=>m=n - i/\i<=n/\Pv i σ H,⟨n,by simp,Z7 _,h0⟩
 rintro i m σ H ⟨rfl,hi,p⟩;by_cases Bv:i < n
 ·refine .inr ⟨Bv,Pv (i + 1),fun As H' p'=>⟨n - (i + 1),by lia,rfl,Bv,p'⟩,fun x H' y=>?_⟩;obtain ⟨e,y⟩:=y;subst e y;exact hs i σ _ Bv p
 ·have e:i=n:=by lia
  subst e;exact .inl ⟨Zb _,hd σ H p⟩
abbrev R2:=V->V->Hp->VK->Prop
def Et (X:Cx) (f:Value->Value->Sem Value) (r:R2):Prop:=
 ∀ ⦃pins:List (Addr × Obj)⦄ (s:Shared) (σ:St) (H:Hp) (x y:V) (v u:Value) (Q:VK),An X pins σ H s->A3 x v->A3 y u->r x y H Q ->
  wpAny (model X.prog X.w) X.A (f v u) (EP X pins σ Q) X.xe s
def UnR (X:Cx) (f:Value->Sem Value) (r:V->Hp->VK->Prop):Prop:=
 ∀ ⦃pins:List (Addr × Obj)⦄ (s:Shared) (σ:St) (H:Hp) (x:V) (v:Value) (Q:VK),An X pins σ H s->A3 x v->r x H Q ->
  wpAny (model X.prog X.w) X.A (f v) (EP X pins σ Q) X.xe s
def Bi (X:Cx) (f:Value) (r:List V->Hp->VK->Prop):Prop:=
 ∀ ⦃pins:List (Addr × Obj)⦄ (s:Shared) (σ:St) (H:Hp) (xs:List V) (us:List Value) (Q:VK),An X pins σ H s->A5 xs us->r xs H Q ->
  wpAny (model X.prog X.w) X.A (call f us) (EP X pins σ Q) X.xe s
def TruR (X:Cx) (r:V->Hp->(Bool->Hp->Prop)->Prop):Prop:=
 ∀ ⦃pins:List (Addr × Obj)⦄ (s:Shared) (σ:St) (H:Hp) (x:V) (v:Value) (Q:Bool->Hp->Prop),An X pins σ H s->A3 x v->r x H Q ->
  wpAny (model X.prog X.w) X.A (truthy v) (TP X pins σ Q) X.xe s
def tOp (r:R2) (ta tb:TE):TE:=fun σ H Q=>ta σ H fun x H1=>tb σ H1 fun y H2=>r x y H2 Q
def tUn (r:V->Hp->VK->Prop) (ta:TE):TE:=fun σ H Q=>ta σ H fun x H1=>r x H1 Q
def rI (C:Int->Int->Prop) (g:Int->Int->V):R2:=fun x y H Q=>∃ i j,x=.int i/\y=.int j/\C i j/\Q (g i j) H
def TX (g:Int->Int->V):R2:=fun x y H Q=>∃ i j,x=.int i/\y=.int j/\Q (g i j) H
def rU (g:Int->V):V->Hp->VK->Prop:=fun x H Q=>∃ i,x=.int i/\Q (g i) H
section
variable {X:Cx} {a b c:Expr} {ta tb tc:TE} {pos:Pos}
theorem Vq (ha:PE X a ta) (hb:PE X b tb) {pins:List (Addr × Obj)} {s:Shared} {σ:St} {H:Hp} {R:V->V->Hp->Prop} (I:An X pins σ H s)
  (h:ta σ H fun x H1=>tb σ H1 fun y H2=>R x y H2) {Q:Value->Shared->Prop} {f:Value->Value->Sem Value}
  (hf:∀ v u s2 x y H2,An X pins σ H2 s2->A3 x v->A3 y u->R x y H2->wpAny (model X.prog X.w) X.A (f v u) Q X.xe s2) :
  wpAny (model X.prog X.w) X.A (eval a X.env) (fun v AJ=>wpAny (model X.prog X.w) X.A (eval b X.env) (fun u Er=>wpAny (model X.prog X.w) X.A (f v u) Q X.xe Er) X.xe AJ) X.xe s:=by
 refine B6 (ha (pins:=pins) s σ H _ I h) fun v s1 ⟨x,H1,I1,r1,q1⟩=>?_
 refine B6 (hb (pins:=pins) s1 σ H1 _ I1 q1) fun u s2 ⟨y,H2,I2,r2,q2⟩=>?_
 exact hf v u s2 x y H2 I2 r1 r2 q2
theorem Aw {op:Operator} {r:R2} (ho:Et X (binaryOp op) r) (ha:PE X a ta) (hb:PE X b tb):PE X (.BinOp a op b pos) (tOp r ta tb):=by
 intro pins s σ H Q I h;exact wpAny_BinOp (Vq ha hb I h fun v u s2 x y H2 I2 rx ry q=>ho (pins:=pins) s2 σ H2 x y v u Q I2 rx ry q)
theorem pe_un {op:UnaryOp} {r:V->Hp->VK->Prop} (ho:UnR X (unaryOp op) r) (ha:PE X a ta):PE X (.UnaryOp op a pos) (tUn r ta):=by
 intro pins s σ H Q I h;exact UnaryOp_ (B6 (ha (pins:=pins) s σ H _ I h) fun v s1 ⟨x,H1,I1,r1,q1⟩=>ho (pins:=pins) s1 σ H1 x v Q I1 r1 q1)
theorem opI {f:Value->Value->Sem Value} {C:Int->Int->Prop} {g:Int->Int->Int}
  (rule:∀ (i j:Int) (t u:Tok) (s:Shared) (Q:Value->Shared->Prop) (E:Value->Shared->Prop),C i j->Q (.int (g i j) s.toks) { s with toks:=s.toks + 1 }->wpAny (model X.prog X.w) X.A (f (.int i t) (.int j u)) Q E s) :
  Et X f (rI C fun i j=>.int (g i j)):=by
 intro pins s σ H x y v u Q I rx ry h;obtain ⟨i,j,rfl,rfl,hc,q⟩:=h;obtain ⟨t,rfl⟩:=rx;obtain ⟨t',rfl⟩:=ry;exact rule i j t t' s _ _ hc ⟨.int (g i j),H,I.tok _,⟨_,rfl⟩,q⟩
theorem opI0 {f:Value->Value->Sem Value} {g:Int->Int->Int}
  (rule:∀ (i j:Int) (t u:Tok) (s:Shared) (Q:Value->Shared->Prop) (E:Value->Shared->Prop),Q (.int (g i j) s.toks) { s with toks:=s.toks + 1 }->wpAny (model X.prog X.w) X.A (f (.int i t) (.int j u)) Q E s) :
  Et X f (TX fun i j=>.int (g i j)):=by
 intro pins s σ H x y v u Q I rx ry h;obtain ⟨i,j,rfl,rfl,q⟩:=h;obtain ⟨t,rfl⟩:=rx;obtain ⟨t',rfl⟩:=ry;exact rule i j t t' s _ _ ⟨.int (g i j),H,I.tok _,⟨_,rfl⟩,q⟩
theorem SJ {f:Value->Value->Sem Value} {g:Int->Int->Bool}
  (rule:∀ (i j:Int) (t u:Tok) (s:Shared) (Q:Value->Shared->Prop) (E:Value->Shared->Prop),Q (.bool (g i j)) s->wpAny (model X.prog X.w) X.A (f (.int i t) (.int j u)) Q E s) :
  Et X f (TX fun i j=>.bl (g i j)):=by
 intro pins s σ H x y v u Q I rx ry h;obtain ⟨i,j,rfl,rfl,q⟩:=h;obtain ⟨t,rfl⟩:=rx;obtain ⟨t',rfl⟩:=ry;exact rule i j t t' s _ _ ⟨.bl (g i j),H,I,rfl,q⟩
def CDiv (i j:Int):Prop:=0 < j/\j < 1073741824
def CPow (i j:Int):Prop:=0<=j/\j<=1000000/\i.natAbs < 2 ^ 64
def Vx (i j:Int):Prop:=(-(2 ^ 64) < i/\i < 2 ^ 64)\/(-(2 ^ 64) < j/\j < 2 ^ 64)
theorem Vx.ok {i j:Int} (h:Vx i j):IntMulOk i j:=by
 rcases h with ⟨h1,h2⟩ | ⟨h1,h2⟩
 ·exact .of_left (intBits_le_64 h1 h2)
 ·exact .of_right (intBits_le_64 h1 h2)
theorem Br:Et X (binaryOp .Add) (TX fun i j=>.int (i + j)):=opI0 fun _ _ _ _ _ _ _ q=>add_int q
theorem KD:Et X (binaryOp .Sub) (TX fun i j=>.int (i - j)):=opI0 fun _ _ _ _ _ _ _ q=>sub_int q
theorem Dz:Et X (binaryOp .Mult) (rI Vx fun i j=>.int (i * j)):=opI fun _ _ _ _ _ _ _ hc q=>mul_int q hc.ok
theorem NP:Et X (binaryOp .FloorDiv) (rI CDiv fun i j=>.int (i / j)):=opI fun i j _ _ _ _ _ hc q=>by
 have h1:(0:Int) < j:=hc.1;have h2:j < 1073741824:=hc.2;exact floordiv_int (by lia) (by rw [Int.fdiv_eq_ediv_of_nonneg i (by lia)]; exact q) (.inl (PyProof.noPylong_small (by lia)))
theorem DX:Et X (binaryOp .Mod) (rI (fun _ j=>0 < j) fun i j=>.int (i % j)):=opI fun i j _ _ _ _ _ hc q=>by
 have h1:(0:Int) < j:=hc;exact mod_int' (by lia) (by rw [Int.fmod_eq_emod_of_nonneg i (by lia)]; exact q)
theorem UN:Et X (binaryOp .Pow) (rI CPow fun i j=>.int (i ^ j.toNat)):=opI fun _ _ _ _ _ _ _ hc q=>pow_int_small hc.1 hc.2.1 hc.2.2 q
theorem unI {f:Value->Sem Value} {g:Int->Int}
  (rule:∀ (i:Int) (t:Tok) (s:Shared) (Q:Value->Shared->Prop) (E:Value->Shared->Prop),Q (.int (g i) s.toks) { s with toks:=s.toks + 1 }->wpAny (model X.prog X.w) X.A (f (.int i t)) Q E s) :
  UnR X f (rU fun i=>.int (g i)):=by
 intro pins s σ H x v Q I rx h;obtain ⟨i,rfl,q⟩:=h;obtain ⟨t,rfl⟩:=rx;exact rule i t s _ _ ⟨.int (g i),H,I.tok _,⟨_,rfl⟩,q⟩
theorem Uz:UnR X (unaryOp .USub) (rU fun i=>.int (-i)):=unI fun _ _ _ _ _ q=>neg_int q
end
def UB:V->V->Bool
 | .non,.non=>true | .non,.int _=>true | .int _,.non=>true | .non,.bl _=>true | .bl _,.non=>true | .non,.str _=>true | .str _,.non=>true
 | .int _,.int _=>true | .bl _,.bl _=>true | .str _,.str _=>true | .byt _,.byt _=>true
 | .int _,.str _=>true | .str _,.int _=>true | .bl _,.str _=>true | .str _,.bl _=>true
 | _,_=>false
def rEq:R2:=fun x y H Q=>UB x y=true/\Q (.bl (decide (x=y))) H
def rNe:R2:=fun x y H Q=>UB x y=true/\Q (.bl (!decide (x=y))) H
theorem Ot {i j:Int}:decide (V.int i=V.int j)=(i == j):=by
 rw [ag];simp
theorem RM {i j:Bool}:decide (V.bl i=V.bl j)=(i == j):=by
 rw [ag];simp
theorem Oq {i j:Str}:decide (V.str i=V.str j)=(i == j):=by
 rw [ag];simp
theorem Ou {i j:Array UInt8}:decide (V.byt i=V.byt j)=(i.toList == j.toList):=by
 rw [ag];cases i
 cases j
 simp
section
variable {X:Cx} {a b c:Expr} {ta tb tc:TE} {pos:Pos}
theorem AU {pins:List (Addr × Obj)} {σ:St} {H:Hp} {s:Shared} {Q:VK} {k k':Bool} (I:An X pins σ H s) (q:Q (.bl k) H) (e:k=k'):EP X pins σ Q (.bool k') s:=by
 subst e;exact ⟨.bl k,H,I,rfl,q⟩
theorem NQ:Et X (compareOp .Eq) rEq:=by
 intro pins s σ H x y v u Q I rx ry h;obtain ⟨hs,q⟩:=h;cases x with
 | non=>
  cases rx
  cases y with
  | non=>cases ry; exact PySem.EqNone.eq_none_none (AU I q (by simp))
  | bl j=>cases ry; exact PySem.EqNone.eq_none_bool (AU I q (by simp))
  | int j=>obtain ⟨t',rfl⟩:=ry; exact PySem.EqNone.eq_none_int (AU I q (by simp))
  | str j=>obtain ⟨t',rfl⟩:=ry; exact PySem.EqNone.eq_none_str (AU I q (by simp))
  | _=>exact absurd (show false=true from hs) Zn
 | bl i=>
  cases rx
  cases y with
  | non=>cases ry; exact PySem.EqNone.eq_bool_none (AU I q (by simp))
  | bl j=>cases ry; exact eq_bool (AU I q RM)
  | str j=>obtain ⟨t',rfl⟩:=ry; exact PySem.EqMixed.eq_bool_str (AU I q (by simp))
  | _=>exact absurd (show false=true from hs) Zn
 | int i=>
  obtain ⟨t,rfl⟩:=rx;cases y with
  | non=>cases ry; exact PySem.EqNone.eq_int_none (AU I q (by simp))
  | int j=>obtain ⟨t',rfl⟩:=ry; exact eq_int (AU I q Ot)
  | str j=>obtain ⟨t',rfl⟩:=ry; exact PySem.EqMixed.eq_int_str (AU I q (by simp))
  | _=>exact absurd (show false=true from hs) Zn
 | str i=>
  obtain ⟨t,rfl⟩:=rx;cases y with
  | non=>cases ry; exact PySem.EqNone.eq_str_none (AU I q (by simp))
  | bl j=>cases ry; exact PySem.EqMixed.eq_str_bool (AU I q (by simp))
  | int j=>obtain ⟨t',rfl⟩:=ry; exact PySem.EqMixed.eq_str_int (AU I q (by simp))
  | str j=>obtain ⟨t',rfl⟩:=ry; exact eq_str (AU I q Oq)
  | _=>exact absurd (show false=true from hs) Zn
 | byt i=>
  obtain ⟨t,rfl⟩:=rx;cases y with
  | byt j=>obtain ⟨t',rfl⟩:=ry; exact PySem.W.eq_bytes (AU I q Ou)
  | _=>exact absurd (show false=true from hs) Zn
 | _=>cases y <;> exact absurd (show false=true from hs) Zn
theorem Uc:Et X (compareOp .NotEq) rNe:=by
 intro pins s σ H x y v u Q I rx ry h;obtain ⟨hs,q⟩:=h;cases x with
 | non=>
  cases rx
  cases y with
  | non=>cases ry; exact PySem.EqNone.ne_none_none (AU I q (by simp))
  | bl j=>cases ry; exact PySem.EqNone.ne_none_bool (AU I q (by simp))
  | int j=>obtain ⟨t',rfl⟩:=ry; exact PySem.EqNone.ne_none_int (AU I q (by simp))
  | str j=>obtain ⟨t',rfl⟩:=ry; exact PySem.EqNone.ne_none_str (AU I q (by simp))
  | _=>exact absurd (show false=true from hs) Zn
 | bl i=>
  cases rx
  cases y with
  | non=>cases ry; exact PySem.EqNone.ne_bool_none (AU I q (by simp))
  | bl j=>cases ry; exact ne_bool (AU I q (congrArg not RM))
  | str j=>obtain ⟨t',rfl⟩:=ry; exact PySem.EqMixed.ne_bool_str (AU I q (by simp))
  | _=>exact absurd (show false=true from hs) Zn
 | int i=>
  obtain ⟨t,rfl⟩:=rx;cases y with
  | non=>cases ry; exact PySem.EqNone.ne_int_none (AU I q (by simp))
  | int j=>obtain ⟨t',rfl⟩:=ry; exact ne_int (AU I q (congrArg not Ot))
  | str j=>obtain ⟨t',rfl⟩:=ry; exact PySem.EqMixed.ne_int_str (AU I q (by simp))
  | _=>exact absurd (show false=true from hs) Zn
 | str i=>
  obtain ⟨t,rfl⟩:=rx;cases y with
  | non=>cases ry; exact PySem.EqNone.ne_str_none (AU I q (by simp))
  | bl j=>cases ry; exact PySem.EqMixed.ne_str_bool (AU I q (by simp))
  | int j=>obtain ⟨t',rfl⟩:=ry; exact PySem.EqMixed.ne_str_int (AU I q (by simp))
  | str j=>obtain ⟨t',rfl⟩:=ry; exact ne_str (AU I q (congrArg not Oq))
  | _=>exact absurd (show false=true from hs) Zn
 | byt i=>
  obtain ⟨t,rfl⟩:=rx;cases y with
  | byt j=>obtain ⟨t',rfl⟩:=ry; exact PySem.W.ne_bytes (AU I q (congrArg not Ou))
  | _=>exact absurd (show false=true from hs) Zn
 | _=>cases y <;> exact absurd (show false=true from hs) Zn
theorem JS:Et X (compareOp .Lt) (TX fun i j=>.bl (decide (i < j))):=SJ fun _ _ _ _ _ _ _ q=>lt_int q
theorem JU:Et X (compareOp .LtE) (TX fun i j=>.bl (decide (i<=j))):=SJ fun _ _ _ _ _ _ _ q=>le_int q
theorem Rj:Et X (compareOp .Gt) (TX fun i j=>.bl (decide (j < i))):=SJ fun _ _ _ _ _ _ _ q=>gt_int q
theorem op_ge:Et X (compareOp .GtE) (TX fun i j=>.bl (decide (j<=i))):=SJ fun _ _ _ _ _ _ _ q=>ge_int q
theorem BV (b:Expr) {op:CmpOp} (h:op ≠ .In:=by decide) (h2:op ≠ .NotIn:=by decide):behindInMarks op b=false:=by
 have e1:(op == CmpOp.In)=false:=by cases op <;> first | rfl | exact absurd rfl h
 have e2:(op == CmpOp.NotIn)=false:=by cases op <;> first | rfl | exact absurd rfl h2
 cases b <;> simp [behindInMarks,e1,e2]
theorem Ge {op:CmpOp} {r:R2} (ho:Et X (compareOp op) r) (ha:PE X a ta) (hb:PE X b tb) (hm:behindInMarks op b=false):PE X (.Compare a [op] [b] pos) (tOp r ta tb):=by
 intro pins s σ H Q I h;exact wpAny_Compare1 (Vq ha hb I h fun v u s2 x y H2 I2 rx ry q=>ho (pins:=pins) s2 σ H2 x y v u Q I2 rx ry q) hm
def TL (t:TE):TT:=fun σ H Q=>t σ H fun x H'=>∃ k,x=.bl k/\Q k H'
theorem BO {op:CmpOp} {r:R2} (ho:Et X (compareOp op) r) (ha:PE X a ta) (hb:PE X b tb) (hm:behindInMarks op b=false):PT X (.Compare a [op] [b] pos) (TL (tOp r ta tb)):=by
 intro pins s σ H Q I h;refine wpAny_isTrue_Compare1 (B6 (ha (pins:=pins) s σ H _ I h) fun v s1 ⟨x,H1,I1,r1,q1⟩=>B6 (hb (pins:=pins) s1 σ H1 _ I1 q1) fun u s2 ⟨y,H2,I2,r2,q2⟩=>
  B6 (ho (pins:=pins) s2 σ H2 x y v u _ I2 r1 r2 q2) fun c s3 ⟨z,H3,I3,r3,k,e,q3⟩=>?_) hm
 subst e;cases r3
 exact wpAny_truthy_bool ⟨H3,I3,q3⟩
def Mr (r r':R2) (ta tb tc:TE):TE:=fun σ H Q=>ta σ H fun x H1=>tb σ H1 fun y H2=>r x y H2 fun z H3=>∃ k,z=.bl k /\
 (if k=true then tc σ H3 fun w' H4=>r' y w' H4 Q else Q (.bl false) H3)
theorem Rc {op UP:CmpOp} {r r':R2} (ho:Et X (compareOp op) r) (Jy:Et X (compareOp UP) r') (ha:PE X a ta) (hb:PE X b tb) (hc:PE X c tc)
  (hm:lastMarks [op,UP] [b,c]=false:=by with_unfolding_all rfl):PE X (.Compare a [op,UP] [b,c] pos) (Mr r r' ta tb tc):=by
 intro pins s σ H Q I h;refine Compare_chain (B6 (ha (pins:=pins) s σ H _ I h) fun v s1 ⟨x,H1,I1,r1,q1⟩=>chain_link (B6 (hb (pins:=pins) s1 σ H1 _ I1 q1) fun u s2 ⟨y,H2,I2,r2,q2⟩=>
  B6 (ho (pins:=pins) s2 σ H2 x y v u _ I2 r1 r2 q2) fun d s3 ⟨z,H3,I3,r3,k,e,q3⟩=>?_)) hm
 subst e;cases r3
 refine wpAny_truthy_bool ?_;cases k with
 | false=>exact ite_ff ⟨.bl false,H3,I3,rfl,q3⟩
 | true=>exact ite_tt (chain_last (B6 (hc (pins:=pins) s3 σ H3 _ I3 q3) fun w' s4 ⟨z',H4,I4,r4,q4⟩=>Jy (pins:=pins) s4 σ H4 y z' u w' Q I4 r2 r4 q4))
theorem Io {op UP:CmpOp} {r r':R2} (ho:Et X (compareOp op) r) (Jy:Et X (compareOp UP) r') (ha:PE X a ta) (hb:PE X b tb) (hc:PE X c tc)
  (hm:lastMarks [op,UP] [b,c]=false:=by with_unfolding_all rfl):PT X (.Compare a [op,UP] [b,c] pos) (TL (Mr r r' ta tb tc)):=by
 intro pins s σ H Q I h;refine isTrue_chain (B6 (ha (pins:=pins) s σ H _ I h) fun v s1 ⟨x,H1,I1,r1,q1⟩=>test_link (B6 (hb (pins:=pins) s1 σ H1 _ I1 q1) fun u s2 ⟨y,H2,I2,r2,q2⟩=>
  B6 (ho (pins:=pins) s2 σ H2 x y v u _ I2 r1 r2 q2) fun d s3 ⟨z,H3,I3,r3,k,e,q3⟩=>?_)) hm
 subst e;cases r3
 refine wpAny_truthy_bool ?_;cases k with
 | false=>
  obtain ⟨k',e',q'⟩:=q3;cases e'
  exact ite_ff ⟨H3,I3,q'⟩
 | true=>
  refine ite_tt (test_last (B6 (hc (pins:=pins) s3 σ H3 _ I3 q3) fun w' s4 ⟨z',H4,I4,r4,q4⟩=>B6 (Jy (pins:=pins) s4 σ H4 y z' u w' _ I4 r2 r4 q4) fun d' s5 ⟨z2,H5,I5,r5,k2,e2,q5⟩=>?_));subst e2;cases r5
  exact wpAny_truthy_bool ⟨H5,I5,q5⟩
def TruV (K:YX) (x:V) (H:Hp) (k:Bool):Prop:=
 match x with
 | .non=>k=false
 | .bl b=>k=b
 | .int i=>k=(i != 0)
 | .str y=>y.length<=sizeLine/\k=((y.length:Int) != 0)
 | .byt y=>y.size<=sizeLine/\k=((y.size:Int) != 0)
 | .ref p=>(∃ xs,A9 K H p xs/\k = !xs.isEmpty)\/(∃ xs,AF K H p xs/\k = !xs.isEmpty)\/∃ kvs,H p=some (.dK kvs)/\k = !kvs.isEmpty
 | _=>False
theorem ME {κ:Type} {kvs:List (κ × V)} {vs:List (κ × Value)} (r:KV kvs vs):(!vs.isEmpty) = !kvs.isEmpty:=by
 cases r <;> rfl
theorem IP {xs:List V} {Ap:List Value} (r:A5 xs Ap):(!Ap.toArray.isEmpty) = !xs.isEmpty:=by
 cases r <;> simp
theorem F7:(sizeLine:Nat) < 2 ^ 63:=by rw [sizeLine_eq]; decide
theorem U2:TruR X (fun x H Q=>∃ k,TruV X.K x H k/\Q k H):=by
 intro pins s σ H x v Q I rx h;obtain ⟨k,e,q⟩:=h;have hl:=F7;have hs:sizeLine=16777216:=sizeLine_eq;cases x with
 | non=>
  cases rx
  have e':k=false:=e;subst e';exact truthy_none ⟨H,I,q⟩
 | bl b=>
  cases rx
  have e':k=b:=e;subst e';exact wpAny_truthy_bool ⟨H,I,q⟩
 | int i=>
  obtain ⟨t,rfl⟩:=rx;have e':k=(i != 0):=e;subst e';exact PySem.P.truthy_int ⟨H,I,q⟩
 | str y=>
  obtain ⟨t,rfl⟩:=rx;obtain ⟨hy,e'⟩:y.length<=sizeLine/\k=((y.length:Int) != 0):=e;subst e';exact PySem.P.truthy_str (by lia) ⟨H,I.tok _,q⟩
 | byt y=>
  obtain ⟨t,rfl⟩:=rx;obtain ⟨hy,e'⟩:y.size<=sizeLine/\k=((y.size:Int) != 0):=e;subst e';exact PySem.W.truthy_bytes (by lia) ⟨H,I.tok _,q⟩
 | ref p=>
  cases rx
  have e':(∃ xs,A9 X.K H p xs/\k = !xs.isEmpty)\/(∃ xs,AF X.K H p xs/\k = !xs.isEmpty)\/∃ kvs,H p=some (.dK kvs)/\k = !kvs.isEmpty:=e;rcases e' with ⟨xs,hx,e'⟩ | ⟨xs,hx,e'⟩ | ⟨kvs,hx,e'⟩
  ·subst e';obtain ⟨Ap,r,pl,hz⟩:=I.list hx;have hlen:=r.length;exact wpAny_truthy_list pl.isList (by simp only [Zt]; lia) ⟨H,I.tok _,by rw [IP r]; exact q⟩
  ·subst e';obtain ⟨Ap,r,pl,hz⟩:=I.tuple hx;have hlen:=r.length;exact truthy_tuple pl (by simp only [Zt]; lia) ⟨H,I.tok _,by rw [IP r]; exact q⟩
  ·subst e';obtain ⟨hz,hS,vs,r,m⟩:kvs.length<=sizeLine/\(p == sysModules)=false/\∃ vs,KV kvs vs/\s.heap.DictOf (A2 X.prog X.w) p vs:=I.hok p _ hx;have hlen:kvs.length=vs.length:=Paired.length r;exact wpAny_truthy_dict hS m (by lia) ⟨H,I.tok _,by rw [ME r]; exact q⟩
 | _=>exact (show False from e).elim
theorem L4 (ha:PE X a ta) (he:∀ whole,isTrue a X.env whole=(do let v <- whole; standAt a.pos; holding [v] (truthy v))) :
  PT X a (fun σ H Q=>ta σ H fun x H'=>∃ k,TruV X.K x H' k/\Q k H'):=by
 intro pins s σ H Q I h;exact isTrue_plain (B6 (ha (pins:=pins) s σ H _ I h) fun v s1 ⟨x,H1,I1,r1,q1⟩=>U2 (pins:=pins) s1 σ H1 x v Q I1 r1 q1) (he _)
theorem DY:Et X (binaryOp .Add) (fun x y H Q=>∃ i j,x=.str i/\y=.str j/\i.length + j.length<=sizeLine/\Q (.str (i ++ j)) H):=by
 intro pins s σ H x y v u Q I rx ry h;obtain ⟨i,j,rfl,rfl,hz,q⟩:=h;obtain ⟨t,rfl⟩:=rx;obtain ⟨t',rfl⟩:=ry;exact add_str (fun t' tk=>⟨.str (i ++ j),H,I.tok _,⟨_,rfl⟩,q⟩) hz
theorem Cf {x:V} {us:List Value} (r:A5 [x] us):∃ u,us=[u]/\A3 x u:=by
 cases r with
 | cons r1 r2=>cases r2; exact ⟨_,rfl,r1⟩
theorem Nj {x y:V} {us:List Value} (r:A5 [x,y] us):∃ u w',us=[u,w']/\A3 x u/\A3 y w':=by
 cases r with
 | cons r1 r2=>
  cases r2 with
  | cons r3 r4=>cases r4; exact ⟨_,_,rfl,r1,r3⟩
theorem RO:Bi X (.builtin "abs") (fun xs H Q=>∃ i,xs=[.int i]/\Q (.int (if i < 0 then -i else i)) H):=by
 intro pins s σ H xs us Q I r h;obtain ⟨i,rfl,q⟩:=h;obtain ⟨u,rfl,t,rfl⟩:=Cf r;exact call_abs_int fun u tk=>⟨.int (if i < 0 then -i else i),H,I.tok _,⟨_,rfl⟩,q⟩
theorem PY (hc:X.calm=true):Bi X (.builtin "max") (fun xs H Q=>∃ i j,xs=[.int i,.int j]/\Q (.int (if j > i then j else i)) H):=by
 intro pins s σ H xs us Q I r h;obtain ⟨i,j,rfl,q⟩:=h;obtain ⟨u,w',rfl,⟨t,rfl⟩,⟨t',rfl⟩⟩:=Nj r;refine max_two_ints (I.ok.hd hc) fun h' tk k=>⟨_,H,I.kept k,?_,q⟩
 by_cases hj:j > i
 ·rw [if_pos hj,if_pos hj]; exact ⟨_,rfl⟩
 ·rw [if_neg hj,if_neg hj]; exact ⟨_,rfl⟩
theorem GP (hc:X.calm=true):Bi X (.builtin "min") (fun xs H Q=>∃ i j,xs=[.int i,.int j]/\Q (.int (if j < i then j else i)) H):=by
 intro pins s σ H xs us Q I r h;obtain ⟨i,j,rfl,q⟩:=h;obtain ⟨u,w',rfl,⟨t,rfl⟩,⟨t',rfl⟩⟩:=Nj r;refine min_two_ints (I.ok.hd hc) fun h' tk k=>⟨_,H,I.kept k,?_,q⟩
 by_cases hj:j < i
 ·rw [if_pos hj,if_pos hj]; exact ⟨_,rfl⟩
 ·rw [if_neg hj,if_neg hj]; exact ⟨_,rfl⟩
theorem CY:Bi X (.type "int") (fun xs H Q=>(∃ i,xs=[.int i]/\Q (.int i) H)\/∃ k,xs=[.bl k]/\Q (.int (if k then 1 else 0)) H):=by
 intro pins s σ H xs us Q I r h;rcases h with ⟨i,rfl,q⟩ | ⟨k,rfl,q⟩
 ·obtain ⟨u,rfl,t,rfl⟩:=Cf r;exact call_int_int ⟨.int i,H,I,⟨_,rfl⟩,q⟩
 ·obtain ⟨u,rfl,r1⟩:=Cf r;cases r1
  exact call_int_bool ⟨.int (if k then 1 else 0),H,I.tok _,⟨_,rfl⟩,q⟩
end
structure Vu (h:Heap) (x dx C:Addr) (mA:Str->Option Value):Prop where
 obj:h.get? x=some (bZ C dx)
 ns:h.Ns1 dx mA
 ne:dx ≠ x
theorem Pq {h:Heap} {dx:Addr} {mA:Str->Option Value} (n:h.Ns1 dx mA):∃ od,h.get? dx=some od/\∀ name,cy name od=some (mA name):=by
 obtain ⟨o,es,ep,ho,hd,hk,_,hm⟩:=n;refine ⟨o,ho,fun name=>?_⟩;have e:=hm name;unfold nsFind findBy at e;rw [<-Array.find?_toList] at e;unfold cy;rw [hd];dsimp only;split
 ·rename_i y q
  rw [q] at e;exact congrArg some e
 ·rename_i q
  rw [q] at e;have a:es.toList.any (·.refKey)=false:=by
   rw [List.any_eq_false];intro y hy;obtain ⟨z,t,hkey⟩:=hk y (cR.mp hy);simp [DictEntry.refKey,hkey]
  have a':¬ es.toList.any (·.refKey)=true:=by rw [a]; exact Zn
  rw [if_neg a'];exact congrArg some e
theorem Vu.look {h:Heap} {x dx C:Addr} {mA:Str->Option Value} (I:Vu h x dx C mA):∃ od,PySem.W.InstAt h x (bZ C dx) C (some od)/\∀ name,cy name od=some (mA name):=
 let ⟨od,ho,hl⟩:=Pq I.ns
 ⟨od,⟨I.obj,rfl,rfl,ho⟩,hl⟩
section
variable {prog:Program} {w:World} {A:Around} {E:Value->Shared->Prop} {s:Shared} {K:YX} {x dx C f:Addr} {mA:Str->Option Value} {name:Str} {v:Value}
end
theorem GU.some_of {v:V} {o:Option Value} (r:GU (some v) o):∃ u,o=some u/\A3 v u:=by
 cases o with
 | none=>exact (show False from r).elim
 | some u=>exact ⟨u,rfl,r⟩
section
variable {P:Program} {w:World} {H H':Hp} {h h':Heap} {a C dx:Addr} {fs VB:List (Str × V)}
theorem Te (hok:FI P w H h) (e:H a=some (.ins C dx fs)):∃ mA,Vu h a dx C mA/\(∀ f,GU (fs.lookup f) (mA f))/\PySem.Within mA (fs.map (·.1))/\fs.length<=1000/\H dx=some (.own a):=by
 obtain ⟨d,z,ne,ob,mA,n,r,q⟩:=(show A6 P w H h a (.ins C dx fs) from hok a _ e)
 exact ⟨mA,⟨ob,n,ne⟩,r,q,z,d⟩
end
structure Cls (K:YX) (C:Addr):Prop where
 pg:dq K C Str.empty=true
 hd:PySem.W.hasDictIn K C=true
 po:PySem.W.plainOver K C=true
 sa:dF K (.ref C) "__setattr__"=some (some (.builtin "object.__setattr__"))
theorem Cls.get {K:YX} {C:Addr} (c:Cls K C) (f:Str):dq K C f=true:=c.pg
section
variable {X:Cx} {pins:List (Addr × Obj)} {σ:St} {H:Hp} {s:Shared} {a C dx:Addr} {fs:List (Str × V)} {f:Str} {v:V} {A:Around} {E:Value->Shared->Prop}
end
section
variable {X:Cx} {o e value:Expr} {f:Str} {pos pos' tpos:Pos} {ta tv:TE}
end
section
variable {X:Cx} {pins:List (Addr × Obj)} {σ:St} {H:Hp} {s:Shared} {A:Around} {E:Value->Shared->Prop} {Q:Value->Shared->Prop} {c:Value} {b:Bool}
inductive ER (K:YX) (H:Hp):V->Value->Prop where
 | non:ER K H .non (.type "NoneType")
 | bl (x:Bool):ER K H (.bl x) (.type "bool")
 | int (i:Int):ER K H (.int i) (.type "int")
 | str (x:Str):ER K H (.str x) (.type "str")
 | flt (x:UInt64):ER K H (.flt x) (.type "float")
 | lst {a:Addr} {xs:List V} (e:H a=some (.lst xs)):ER K H (.ref a) (.type "list")
 | frz {a:Addr} {o:Obj} {xs:List V} (e:H a=some (.frz o (.lst xs))):ER K H (.ref a) (.type "list")
 | tup {a:Addr} {xs:List V} (e:H a=some (.tup xs)):ER K H (.ref a) (.type "tuple")
 | dK {a:Addr} {kvs:List (A4 × V)} (e:H a=some (.dK kvs)):ER K H (.ref a) (.type "dict")
 | dT {a:Addr} {kvs:List (List A4 × V)} (e:H a=some (.dT kvs)):ER K H (.ref a) (.type "dict")
 | ins {a C dx:Addr} {fs:List (Str × V)} (e:H a=some (.ins C dx fs)) (cl:Cls K C) (ha:dF K (.ref C) "__class__"=some (some (.builtin "object.__class__")))
   (hn:PySem.W.specialIn K (.builtin "object.__class__") "__get__"=some (some (.builtin "getset_descriptor.__get__"))) (htk:PySem.W.takesIn K (.builtin "object.__class__")=some true)
   (hm:PySem.W.mroIn K C (.type "object")=some true):ER K H (.ref a) (.ref C)
theorem Py {x:V} {u t:Value} (I:An X pins σ H s) (rx:A3 x u) (ty:ER X.K H x t) (e:bF X.K t c=some b) (h:∀ tk,Q (.bool b) { s with toks:=tk }) :
  wpAny (model X.prog X.w) A (call (.builtin "isinstance") [u,c]) Q E s:=by
 cases ty with
 | non=>cases (show u=Value.none from rx); exact ZX PySem.W.kitx_none I.kIn True.intro e (fun z=>nomatch z) h
 | bl y=>cases (show u=Value.bool y from rx); exact ZX PySem.W.kitx_bool I.kIn True.intro e (fun z=>nomatch z) h
 | int i=>obtain ⟨t,q⟩:=(show ∃ t,u=Value.int i t from rx); cases q; exact ZX PySem.W.kitx_int I.kIn True.intro e (fun z=>nomatch z) h
 | str y=>obtain ⟨t,q⟩:=(show ∃ t,u=Value.str y t from rx); cases q; exact ZX PySem.W.kitx_str I.kIn True.intro e (fun z=>nomatch z) h
 | flt y=>obtain ⟨t,q⟩:=(show ∃ t,u=Value.float y t from rx); cases q; exact ZX PySem.W.kitx_float I.kIn True.intro e (fun z=>nomatch z) h
 | @lst a xs ea=>
  cases (show u=Value.ref a from rx)
  obtain ⟨_,_,n,_,h1⟩:=(show A6 X.prog X.w H s.heap a (.lst xs) from I.hok a _ ea)
  exact ZX cX I.kIn ⟨_,h1,rfl⟩ e (fun z=>nomatch z) h
 | @frz a ob xs ea=>
  cases (show u=Value.ref a from rx)
  obtain ⟨_,_,_,n,_,h1⟩:=(show A6 X.prog X.w H s.heap a (.frz ob (.lst xs)) from I.hok a _ ea)
  exact ZX cX I.kIn ⟨_,h1,rfl⟩ e (fun z=>nomatch z) h
 | @tup a xs ea=>
  cases (show u=Value.ref a from rx)
  obtain ⟨_,_,_,p,_⟩:=(show A6 X.prog X.w H s.heap a (.tup xs) from I.hok a _ ea)
  obtain ⟨o,h1,h2,_⟩:=p;exact ZX PySem.W.kitx_tuple I.kIn ⟨o,h1,h2⟩ e (fun z=>nomatch z) h
 | @dK a kvs ea=>
  cases (show u=Value.ref a from rx)
  obtain ⟨_,_,vs,_,p⟩:=(show A6 X.prog X.w H s.heap a (.dK kvs) from I.hok a _ ea)
  obtain ⟨o,es,ep,h1,h2,_⟩:=p;exact ZX cY I.kIn ⟨o,h1,h2.1⟩ e (fun z=>nomatch z) h
 | @dT a kvs ea=>
  cases (show u=Value.ref a from rx)
  obtain ⟨_,_,xs,_,o,es,ep,h1,h2,_⟩:=(show A6 X.prog X.w H s.heap a (.dT kvs) from I.hok a _ ea)
  exact ZX cY I.kIn ⟨o,h1,h2.1⟩ e (fun z=>nomatch z) h
 | @ins a C dx fs ea cl ha hn htk hm=>
  cases (show u=Value.ref a from rx)
  obtain ⟨mA,O,_⟩:=Te I.hok ea;obtain ⟨od,J,_⟩:=O.look;exact ZX (PySem.W.kitx_own (cl.get _) cl.hd ha hn htk hm) I.kIn J e (fun z=>nomatch z) h
end
structure Ei (k:Nat) (A:Around):Prop where
 hd:A.handled=none
 dp:A.depth + 3 * k + 5 < recursionLimit
 un:A.units + 16 * k + 200 < cLine
 gd:A.guards=some []:=by rfl
theorem Ei.mono {j k:Nat} {A:Around} (r:Ei k A) (h:j<=k):Ei j A:=⟨r.hd,by have:=r.dp; lia,by have:=r.un; lia,r.gd⟩
theorem Ei.deeper {k:Nat} {A:Around} (r:Ei (k + 1) A) (env:Env):Ei k (A.deeper env):=
 ⟨r.hd,by have:=r.dp; show A.depth + 1 + 3 * k + 5 < _; lia,by have:=r.un; show A.units + 3 + 16 * k + 200 < _; lia,r.gd⟩
theorem Ei.depth {k:Nat} {A:Around} (r:Ei k A):A.depth < recursionLimit:=by have:=r.dp; lia
theorem Ei.units {k:Nat} {A:Around} (r:Ei k A):A.units + 64 < cLine:=by have:=r.un; lia
def tNil:TA:=fun _ H Q=>Q [] H
def tCons (ta:TE) (tr:TA):TA:=fun σ H Q=>ta σ H fun x H1=>tr σ H1 fun xs H2=>Q (x :: xs) H2
section
variable {X:Cx} {e:Expr} {es:List Expr} {te:TE} {t:TA} {pos:Pos}
theorem Ac:PA X [] tNil:=fun _ _ _ _ H Q I h=>Calls.spliced_nil ⟨[],H,I,.nil,h⟩
theorem Aa (ha:PE X e te) (hr:PA X es t) (hs:starEach (e :: es) X.env=(false,eval e X.env) :: starEach es X.env:=by rfl):PA X (e :: es) (tCons te t):=by
 intro pos pins s σ H Q I h;rw [hs];show wpAny _ _ (spliced ((false,eval e X.env) :: backTo pos (starEach es X.env))) _ _ s
 refine Calls.spliced_cons (B6 (ha (pins:=pins) s σ H _ I h) fun u s1 ⟨x,H1,I1,r1,q1⟩=>?_);exact B6 (hr (pos:=pos) (pins:=pins) s1 σ H1 _ I1 q1) fun us s2 ⟨xs,H2,I2,r2,q2⟩=>⟨x :: xs,H2,I2,.cons r1 r2,q2⟩
def tTup (t:TA):TE:=fun σ H Q=>t σ H fun xs H1=>xs.length<=sizeLine/\∀ p,H1 p=none->Q (.ref p) (upd H1 p (.tup xs))
def tLst (t:TA):TE:=fun σ H Q=>t σ H fun xs H1=>xs.length<=sizeLine/\∀ p,H1 p=none->Q (.ref p) (upd H1 p (.lst xs))
theorem Bb {x1} (h:PA X es t):PE X (.Tuple es x1 pos) (tTup t):=by
 intro pins s σ H Q I hq;refine wpAny_Tuple_spliced (B6 (h (pos:=pos) (pins:=pins) s σ H _ I hq) fun us s1 ⟨xs,H1,I1,r,z,q⟩=>⟨by rw [<-r.length]; exact z,?_⟩);have hf:H1 s1.heap.objs.size=none:=I1.hok.fresh (Zb _);refine ⟨.ref s1.heap.objs.size,upd H1 s1.heap.objs.size (.tup xs),I1.laid (t':=s1.toks) (fun b u e=>YW _ e) (Zb _) ?_,rfl,q _ hf⟩;exact ⟨z,us,r,⟨_,Zf _ rfl,rfl,_,rfl⟩,MU.new rfl rfl⟩
theorem Bu (h:PA X es t):PE X (.List es pos) (tLst t):=by
 intro pins s σ H Q I hq;refine wpAny_List_spliced (B6 (h (pos:=pos) (pins:=pins) s σ H _ I hq) fun us s1 ⟨xs,H1,I1,r,z,q⟩=>⟨by rw [<-r.length]; exact z,?_⟩);have hf:H1 s1.heap.objs.size=none:=I1.hok.fresh (Zb _);refine ⟨.ref s1.heap.objs.size,upd H1 s1.heap.objs.size (.lst xs),I1.laid (t':=s1.toks) (fun b u e=>YW _ e) (Zb _) ?_,rfl,q _ hf⟩;exact ⟨z,us,0,r,Zf _ rfl⟩
end
abbrev Sp:=List V->Hp->VK->XK->Prop
abbrev Sa:=List Env->Hp->Shared->XK->Value->Shared->Prop
structure TC (P:Program) (w:World) (K:YX) (mg:Str->Option Value) (base:Heap) (A:Around) (outer:List Env) (s:Shared) (H:Hp):Prop where
 frames:A.frames=some outer
 mod:Mod K mg base
 bs:∀ b o,base.get? b=some o->s.heap.get? b=some o/\H b=none
 bsz:base.objs.size<=s.heap.objs.size
 funs:s.heap.FunFrames base outer
 frf:∀ b ∈ RE outer,H b=none
 hok:FI P w H s.heap
 bare:AllBare s.gens
def CE (outer:List Env) (P:Program) (w:World) (H:Hp) (s:Shared) (Q:VK) (u:Value) (s':Shared):Prop:=
 ∃ v H',s'.os=s.os/\AllBare s'.gens/\Un (RE outer) [] H H' s.heap s'.heap/\FI P w H' s'.heap/\A3 v u/\Q v H'
def CR (CX:Sa) (outer:List Env) (P:Program) (w:World) (H:Hp) (s:Shared) (Q:VK) (E:XK) (r:Result) (s':Shared):Prop:=
 match r with
 | .ok (.ret u)=>CE outer P w H s Q u s'
 | .ok _=>False
 | .error e=>CX outer H s E e s'
structure AL (P:Program) (w:World) (K:YX) (mg:Str->Option Value) (base:Heap) (CX:Sa) (k:Nat) (f:Addr) (fd:FuncData) (ps:List Str) (sp:Sp):Prop where
 len:∀ vs H Q E,sp vs H Q E->vs.length=ps.length
 run:∀ (A:Around) (outer:List Env) (s:Shared) (H:Hp) (args:Args) (us:List Value) (vs:List V) (Q:VK) (E:XK),Ei k A->TC P w K mg base A outer s H->BindsTo s fd args (ps.zip us)->A5 vs us->sp vs H Q E ->
  codeAny (model P w) A (.call (.ref f) args) (CR CX outer P w H s Q E) s
section
variable {X:Cx} {pins:List (Addr × Obj)} {σ:St} {H:Hp} {s s':Shared}
theorem An.env0 (I:An X pins σ H s):TC X.prog X.w X.K X.mg X.base X.A X.stack s H:=
 ⟨I.ok.frames,I.ok.mod,I.bs,Z2 I.ok.bsz I.sz,I.stack,I.stkFree,I.hok,I.bare⟩
theorem An.after {Q:VK} {u:Value} (I:An X pins σ H s) (h:CE X.stack X.prog X.w H s Q u s'):EP X pins σ Q u s':=by
 obtain ⟨v,H',os,bare,un,hok,r,q⟩:=h;obtain ⟨hh,g,d,t,XI⟩:=s';obtain rfl:XI=s.os:=os;exact ⟨v,H',I.call (h':=hh) (g':=g) (d':=d) (t':=t) (ch:=[]) un hok bare (fun b z=>absurd z (by simp)),r,q⟩
end
def tCall (sp:Sp) (dvs:List V) (E:XK) (t:TA):TE:=fun σ H Q=>t σ H fun vs H1=>sp (vs ++ dvs) H1 Q E
def HB (K:YX) (fd:FuncData) (ps:List Str) (ds:List Value):Prop:=
 ∀ (s:Shared) (us:List Value),K.In s.heap->(us ++ ds).length=ps.length->BindsTo s fd ⟨us,[]⟩ (ps.zip (us ++ ds))
theorem HB.all {K:YX} {fd:FuncData} {ps:List Str} (h:∀ us:List Value,us.length=ps.length->bindArgs fd ⟨us,[]⟩=pure (ps.zip us)):HB K fd ps []:=fun s us _ hl=>by
 rw [ZY] at hl ⊢;exact .of_eq (h us hl)
def Na (CX:Sa) (X:Cx) (E:XK):Prop:=∀ (pins:List (Addr × Obj)) (σ:St) (H:Hp) (s:Shared) (e:Value) (s':Shared),An X pins σ H s->CX X.stack H s E e s'->X.xe e s'
section
variable {X:Cx} {CX:Sa} {k:Nat} {f C:Addr} {fd:FuncData} {ps:List Str} {sp:Sp} {dvs:List V} {ds:List Value} {E:XK} {x m:Str} {p pos apos:Pos} {e o:Expr} {es:List Expr} {ta:TE} {t:TA}
theorem UD {pins:List (Addr × Obj)} {σ:St} {H:Hp} {s:Shared} {Q:VK} {us:List Value} {vs:List V} (F:AL X.prog X.w X.K X.mg X.base CX k f fd ps sp) (hr:Ei k X.A) (hb:HB X.K fd ps ds) (hd:A5 dvs ds) (hx:Na CX X E)
  (I:An X pins σ H s) (r:A5 vs us) (h:sp (vs ++ dvs) H Q E):wpAny (model X.prog X.w) X.A (call (.ref f) us) (EP X pins σ Q) X.xe s:=by
 have r2:A5 (vs ++ dvs) (us ++ ds):=r.append hd;have hl:(us ++ ds).length=ps.length:=by rw [<-r2.length]; exact F.len _ _ _ _ h
 refine wpAny_call (codeAny_mono (F.run X.A X.stack s H ⟨us,[]⟩ (us ++ ds) (vs ++ dvs) Q E hr I.env0 (hb s us I.kIn hl) r2 h) fun r s' hq=>?_);cases r with
 | error e=>exact hx pins σ H s e s' I hq
 | ok fl=>
  cases fl with
  | ret u=>exact I.after hq
  | next=>exact False.elim hq
  | brk=>exact False.elim hq
  | cont=>exact False.elim hq
theorem Ak (F:AL X.prog X.w X.K X.mg X.base CX k f fd ps sp) (hr:Ei k X.A) (hg:Gl X x) (hm:X.mg x=some (.ref f)) (hk:bG X.K (.ref f)=true) (hb:HB X.K fd ps ds) (hd:A5 dvs ds) (hx:Na CX X E)
  (ha:PA X (e :: es) t) (hdb:(x == ("__debug__":Str))=false:=by decide) (he:starEach (e :: es) X.env=(false,eval e X.env) :: starEach es X.env:=by rfl) (hpl:(backTo pos (starEach es X.env)).any (·.1)=false:=by rfl) :
  PE X (.Call (.Name x p) (e :: es) [] pos) (tCall sp dvs E t):=by
 intro pins s σ H Q I h;refine wpAny_Call_Name_kw (Od I hg hm ?_ hdb);refine PySem.W.callWith_K (h₀:=X.base) I.ok.mod.kin hk (B6 (ha (pos:=pos) (pins:=pins) s σ H _ I h) fun us s1 ⟨vs,H1,I1,r,q⟩=>⟨I1.kIn,?_⟩) he hpl;exact UD F hr hb hd hx I1 r q
end
section
variable {X:Cx} {CX:Sa} {k:Nat} {f C:Addr} {fd:FuncData} {ps ks:List Str} {sp:Sp} {E:XK} {x m:Str} {p pos apos kpos:Pos} {e o:Expr} {es:List Expr} {kws:List Keyword} {te ta:TE} {t tk:TA} {nm:Option Str}
variable {g:List Value->List Value->List Value} {gV:List V->List V->List V}
end
structure AD (N P:List Str) (sc:Scope):Prop where
 kind:sc.kind=.function
 co:sc.isCoroutine=false
 gen:sc.isGenerator=false
 nd:N.Nodup
 pre:N.take P.length=P
 par:∀ x ∈ P,sc.names.lookup x=some .local\/sc.names.lookup x=some .cell
 nofree:∀ y ∈ sc.names,y.2 ≠ .free
theorem Km {kindOf:Str->Option NameKind} {x:Str}:∀ {binds:List (Str × Value)} {m:Str->Option Value},(∀ v,(x,v) ∉ binds)->bindL kindOf binds m x=m x
 | [],_,_=>rfl
 | (n,v) :: r,m,h=>by
  unfold bindL;rw [Km fun w hw=>h w (Zv _ hw)];split
  ·have:x ≠ n:=by rintro rfl; exact h v Zq
   simp [this]
  ·rfl
theorem Ko {kindOf:Str->Option NameKind} {x:Str}:∀ {binds:List (Str × Value)} {m:Str->Option Value},(∀ v,(x,v) ∉ binds)->bindC kindOf binds m x=m x
 | [],_,_=>rfl
 | (n,v) :: r,m,h=>by
  unfold bindC;rw [Ko fun w hw=>h w (Zv _ hw)];split
  ·rfl
  ·have:x ≠ n:=by rintro rfl; exact h v Zq
   simp [this]
theorem Kn {kindOf:Str->Option NameKind} {x:Str} {v:Value}:∀ {P:List Str} {vs:List Value} {i:Nat} {m:Str->Option Value},P.Nodup->P[i]? = some x->vs[i]? = some v->kindOf x=some .local ->
  bindL kindOf (P.zip vs) m x=some v
 | [],_,_,_,_,h,_,_=>by simp at h
 | _ :: _,[],_,_,_,_,h,_=>by simp at h
 | p :: P,w :: vs,0,m,nd,h1,h2,hk=>by
  simp at h1 h2; subst h1; subst h2;show bindL kindOf ((p,w) :: P.zip vs) m p=_
  unfold bindL;rw [Km fun v hv=>(Z3.mp nd).1 (cz hv).1,if_pos hk];simp
 | p :: P,w :: vs,i + 1,m,nd,h1,h2,hk=>by
  show bindL kindOf ((p,w) :: P.zip vs) m x=_
  unfold bindL;exact Kn (i:=i) (Z3.mp nd).2 (by simpa using h1) (by simpa using h2) hk
theorem Kq {kindOf:Str->Option NameKind} {x:Str} {v:Value}:∀ {P:List Str} {vs:List Value} {i:Nat} {m:Str->Option Value},P.Nodup->P[i]? = some x->vs[i]? = some v->kindOf x ≠ some .local ->
  bindC kindOf (P.zip vs) m x=some v
 | [],_,_,_,_,h,_,_=>by simp at h
 | _ :: _,[],_,_,_,_,h,_=>by simp at h
 | p :: P,w :: vs,0,m,nd,h1,h2,hk=>by
  simp at h1 h2; subst h1; subst h2;show bindC kindOf ((p,w) :: P.zip vs) m p=_
  unfold bindC;rw [Ko fun v hv=>(Z3.mp nd).1 (cz hv).1,if_neg hk];simp
 | p :: P,w :: vs,i + 1,m,nd,h1,h2,hk=>by
  show bindC kindOf ((p,w) :: P.zip vs) m x=_
  unfold bindC;exact Kq (i:=i) (Z3.mp nd).2 (by simpa using h1) (by simpa using h2) hk
def start (N:List Str) (vs:List V):St:=vs.map some ++ dZ (N.length - vs.length) none
def J3 (CX:Sa) (P:Program) (w:World) (K:YX) (mg:Str->Option Value) (base:Heap) (N:List Str) (qual:Str) (scope:Scope) (f:Addr) (cd:Value) (A:Around) (outer:List Env) (s:Shared) (H:Hp) (E:XK):Cx where
 prog:=P
 w:=w
 K:=K
 mg:=mg
 base:=base
 A:=A.deeper (envOfC qual scope s.heap.objs.size f cd)
 N:=N
 s₀:=s
 H₀:=H
 env:=envOfC qual scope s.heap.objs.size f cd
 outer:=outer
 stack:=envOfC qual scope s.heap.objs.size f cd :: outer
 ex:=[]
 calm:=true
 fn:=fun _=>true
 pn:=[]
 xe:=fun e s'=>wpAny (model P w) (A.deeper (envOfC qual scope s.heap.objs.size f cd)) (leaving (envOfC qual scope s.heap.objs.size f cd) e) (fun _ VV=>CX outer H s E e VV) (fun e' VV=>CX outer H s E e' VV) s'
theorem Mc {sc:Scope} {n:Nat} {x:Str} (h:sc.names.lookup x=some .cell):∃ c,(cellsFrom n sc.names []).lookup x=some c:=by
 have q:=cH sc.names n [] (.inl h);exact b0.mp q
theorem PB {CX:Sa} {P:Program} {w:World} {K:YX} {mg:Str->Option Value} {base:Heap} {N ps:List Str} {qual:Str} {scope:Scope} {f:Addr} {cd:Value} {A:Around} {outer:List Env} {s s1:Shared} {H:Hp} {E:XK} {us:List Value} {vs:List V}
  (S:AD N ps scope) (hd:A.handled=none) (e0:TC P w K mg base A outer s H) (hl:vs.length=ps.length) (r:A5 vs us)
  (x:InCallC s s.heap.objs.size (bindL (envOfC qual scope s.heap.objs.size f cd).kindOf (ps.zip us) fun _=>none) (cellsFrom (s.heap.objs.size + 1) scope.names []) (bindC (envOfC qual scope s.heap.objs.size f cd).kindOf (ps.zip us) fun _=>none) s1) :
  An (J3 CX P w K mg base N qual scope f cd A outer s H E) [] (start N vs) H s1:=by
 have hpl:ps.length<=N.length:=by have:=congrArg aE S.pre; rw [Z8] at this; lia
 obtain ⟨h1,tk,rfl,hk⟩:=x.done;have noA:∀ b:Addr,b ∉ (J3 CX P w K mg base N qual scope f cd A outer s H E).ex:=fun b z=>absurd (show b ∈ ([]:List Addr) from z) (by simp)
 refine ⟨⟨e0.mod,S.kind,rfl,rfl,Zb _,fun y z c h1 h2=>?_,fun y hy=>?_,fun y c _ h=>?_,fun _=>hd,Around.frames_deeper e0.frames,.inr ⟨rfl,rfl⟩,fun b z=>absurd z (noA b),e0.bs,e0.bsz,fun b _ _=>noA b,fun b z=>absurd z (noA b),e0.funs,e0.frf⟩,
  rfl,e0.bare,Un.kept hk,⟨_,x.toInCall.ns,fun i y v h1 h2 h3=>?_⟩,fun y c h=>⟨_,x.cell y c h⟩,e0.hok.fresh (Zb _),fun y c h=>?_,fun p hp=>absurd (show p ∈ ([]:List (Addr × Obj)) from hp) (by simp),e0.hok.kept hk,?_⟩
 ·exact name_of_addr x.apart (PySem.mem_of_lookup h1) (PySem.mem_of_lookup h2)
 ·have hy:scope.names.lookup y=some .cell\/scope.names.lookup y=some .free:=hy;rcases hy with hy | hy
  ·exact Mc hy
  ·exact absurd rfl (S.nofree _ (PySem.mem_of_lookup hy))
 ·exact bj (x.above y c (PySem.mem_of_lookup h))
 ·have hi:i < vs.length:=by
   unfold start at h2;by_cases hi:i < vs.length
   ·exact hi
   ·rw [Zx (by simpa using hi)] at h2;rw [List.getElem?_replicate] at h2;split at h2 <;> cases h2
  have ha:vs[i]? = some v:=by
   unfold start at h2;rw [Zz (by simpa using hi),Ze] at h2;cases e:vs[i]? with
   | none=>rw [e] at h2; cases h2
   | some a=>rw [e] at h2; cases h2; rfl
  obtain ⟨u,hu,rv⟩:=r.get ha;have hp:ps[i]? = some y:=by
   rw [<-S.pre,cK (by lia)]; exact h1
  have ndP:ps.Nodup:=by rw [<-S.pre]; exact S.nd.sublist (dG _ _)
  exists u,rv;rcases S.par y (YY hp) with k | k
  ·exact .inl ⟨k,Kn ndP hp hu k⟩
  ·obtain ⟨c,e⟩:=Mc (n:=s.heap.objs.size + 1) k;refine .inr ⟨.inl k,c,e,?_⟩;have q:=x.cell y c e;rw [Kq ndP hp hu (by show scope.names.lookup y ≠ _; rw [k]; decide)] at q;exact q
 ·exact e0.hok.fresh (bj (x.above y c (PySem.mem_of_lookup h)))
 ·unfold start;show _=N.length
  rw [Za,YV,List.length_replicate];lia
theorem fn_of {CX:Sa} {P:Program} {w:World} {K:YX} {mg:Str->Option Value} {base:Heap} {k:Nat} {f:Addr} {name qual:Str} {params:Arguments} {body:List Stmt} {scope:Scope} {dV kV doc pm cdv ct oc:Value} {an od:Option Addr}
  {osl:Array (Option Value)} {N ps:List Str} {sp:Sp} (lk:K.lookup f=some ⟨oc,od,.func (ay name qual params body scope dV kV doc pm an cdv ct),osl⟩) (hcd:bH K cdv qual=true) (S:AD N ps scope)
  (len:∀ vs H Q E,sp vs H Q E->vs.length=ps.length)
  (hbody:∀ (A:Around) (outer:List Env) (s:Shared) (H:Hp) (vs:List V) (Q:VK) (E:XK),Ei k (A.deeper (envOfC qual scope s.heap.objs.size f cdv))->sp vs H Q E ->
   ∃ t,Mj (J3 CX P w K mg base N qual scope f cdv A outer s H E) body t/\t { nx:=fun _ H'=>Q .non H',rt:=Q } (start N vs) H) :
  AL P w K mg base CX (k + 1) f (ay name qual params body scope dV kV doc pm an cdv ct) ps sp:=by
 refine ⟨len,fun A outer s H args us vs Q E hr e0 hb r hsp=>?_⟩;have hl:=len _ _ _ _ hsp;have KX:K.In s.heap:=e0.mod.kin.keeps fun b o e=>(e0.bs b o e).1
 have lim:s.heap.NoLimit:=e0.mod.nolimit.keeps fun b o e=>(e0.bs b o e).1
 have hkind:∀ y ∈ ps.zip us,scope.names.lookup y.1=some .local\/(scope.names.lookup y.1=some .cell/\((cellsFrom (s.heap.objs.size + 1) scope.names []).lookup y.1).isSome=true):=fun ⟨n,v⟩ hy=>by
  rcases S.par n (cz hy).1 with q | q
  ·exact .inl q
  ·exact .inr ⟨q,cH _ _ _ (.inl q)⟩
 refine codeAny_call_function hr.depth (KX _ _ lk) rfl S.co S.gen rfl (PySem.W.codeRec_of KX hcd) (hb _ _ _ _ ?_);refine wpAny_newFunctionEnv_cells S.kind hkind fun env he s1 x=>?_
 subst he;refine ⟨lim.keeps x.toInCall.keep,codeAny_func ?_⟩;obtain ⟨t,ht,hq⟩:=hbody A outer s H vs Q E (hr.deeper _) hsp;have I:An (J3 CX P w K mg base N qual scope f cdv A outer s H E) [] (start N vs) H s1:=PB S hr.hd e0 hl r x;refine wpAny_mono (ht s1 (start N vs) H _ I hq) (fun fl s' hs=>?_) fun e s' hs=>hs
 have fin:∀ {As:St} {H':Hp} {v:V} {u:Value},An (J3 CX P w K mg base N qual scope f cdv A outer s H E) [] As H' s'->A3 v u->Q v H'->CE outer P w H s Q u s':=
  fun {As H' v u} J rv q=>⟨v,H',J.os,J.bare,J.base,J.hok,rv,q⟩
 cases fl with
 | ret u=>
  obtain ⟨v,As,H',J,rv,q⟩:=hs;exact fin J rv q
 | next=>
  obtain ⟨As,H',J,q⟩:=hs;exact fin (v:=V.non) (u:=Value.none) J rfl q
 | brk=>
  obtain ⟨_,_,_,q⟩:=hs;exact False.elim q
 | cont=>
  obtain ⟨_,_,_,q⟩:=hs;exact False.elim q
section
variable {X:Cx} {x:Str} {p pos:Pos} {e:Expr} {es:List Expr} {t:TA} {id T:String} {r:List V->Hp->VK->Prop}
def tCB (r:List V->Hp->VK->Prop) (t:TA):TE:=fun σ H Q=>t σ H fun vs H1=>r vs H1 Q
theorem Al (hc:Bi X (.builtin id) r) (hg:Gl X x) (hm:X.mg x=none) (hv:bootBuiltins x=some (.builtin id)) (ha:PA X (e :: es) t) (hn:x ≠ "__name__":=by decide) (hdb:(x == ("__debug__":Str))=false:=by decide)
  (he:starEach (e :: es) X.env=(false,eval e X.env) :: starEach es X.env:=by rfl) (hpl:(backTo pos (starEach es X.env)).any (·.1)=false:=by rfl):PE X (.Call (.Name x p) (e :: es) [] pos) (tCB r t):=by
 intro pins s σ H Q I h;refine wpAny_Call_Name_kw (IH I hg hm hv ?_ hn hdb);exact PyProof.Rows.callWith_builtin1 (B6 (ha (pos:=pos) (pins:=pins) s σ H _ I h) fun us s1 ⟨vs,H1,I1,r1,q1⟩=>hc (pins:=pins) s1 σ H1 vs us Q I1 r1 q1) he hpl
theorem A7 (hc:Bi X (.type T) r) (hg:Gl X x) (hm:X.mg x=none) (hv:bootBuiltins x=some (.type T)) (ha:PA X (e :: es) t) (hn:x ≠ "__name__":=by decide) (hdb:(x == ("__debug__":Str))=false:=by decide)
  (he:starEach (e :: es) X.env=(false,eval e X.env) :: starEach es X.env:=by rfl) (hpl:(backTo pos (starEach es X.env)).any (·.1)=false:=by rfl):PE X (.Call (.Name x p) (e :: es) [] pos) (tCB r t):=by
 intro pins s σ H Q I h;refine wpAny_Call_Name_kw (IH I hg hm hv ?_ hn hdb);exact PyProof.Rows.callWith_type1 (B6 (ha (pos:=pos) (pins:=pins) s σ H _ I h) fun us s1 ⟨vs,H1,I1,r1,q1⟩=>hc (pins:=pins) s1 σ H1 vs us Q I1 r1 q1) he hpl
end
end L2
namespace HT
open PySem PyProof.Rows
section
open PySem.SeqAt
open PySem.AutoSeq1 (wpAny_loadPart')
open PySem.MeetsSeq PySem.MeetsSeq2 PySem.MeetsSeq3
end
section
variable {prog:Program} {w:World} {A:Around} {E:Value->Shared->Prop} {s:Shared}
theorem cat_tup {t b:Addr} {vs ws:List Value} {Q:Value->Shared->Prop} (ht:IsTup s.heap t vs.toArray) (hb:IsTup s.heap b ws.toArray) (hv:vs ≠ [])
  (h1:ws=[]->Q (.ref t) s) (h2:ws ≠ []->Q (.ref s.heap.objs.size) { s with heap:=s.heap.push { cls:=.type "tuple",data:=.seq (vs ++ ws).toArray } })
  (hsz:vs.length + ws.length<=sizeLine):wpAny (model prog w) A (binaryOp .Add (.ref t) (.ref b)) Q E s:=by
 obtain ⟨⟨cls,dd,data,sl⟩,ho,hc,n,hd⟩:=id ht;obtain ⟨⟨Vp,Ma,data2,Qc⟩,PD,PH,n2,hd2⟩:=id hb;simp only at hc hd PH hd2;subst hc hd PH hd2;have e:vs.toArray ++ ws.toArray=(vs ++ ws).toArray:=by simp
 by_cases hw:ws=[]
 ·exact concat_meets ⟨_,ho,rfl⟩ ⟨_,PD,rfl⟩ noFill_tuple_add seq_tuple_add PySem.F.slot_tuple_add PySem.F.entry_tuple_add (PySem.F.args_tuple_add_2 _ _)
   (tuple_addW1 t b vs.toArray ws.toArray n n2 dd Ma sl Qc (by simpa using hv) (by simp [hw])) ⟨ho,PD,h1 hw⟩
 ·refine concat_meets ⟨_,ho,rfl⟩ ⟨_,PD,rfl⟩ noFill_tuple_add seq_tuple_add PySem.F.slot_tuple_add PySem.F.entry_tuple_add (PySem.F.args_tuple_add_2 _ _)
   (tuple_addW2 t b vs.toArray ws.toArray n n2 dd Ma sl Qc (by simpa using hv) (by simpa using hw) (by rw [Zt,Zt]; exact hsz)) ⟨ho,PD,?_⟩
  rw [e];exact h2 hw
end
end HT
namespace L2
open PySem PySem.Spec PyProof.Rows
abbrev TO:=St->Hp->(Option Int->Hp->Prop)->Prop
def PO (X:Cx) (e:Option Expr) (t:TO):Prop:=
 ∀ ⦃pins:List (Addr × Obj)⦄ (s:Shared) (σ:St) (H:Hp) (Q:Option Int->Hp->Prop),An X pins σ H s->t σ H Q ->
  wpAny (model X.prog X.w) X.A (evalPart e X.env) (fun u s'=>∃ o H',An X pins σ H' s'/\IsPart u o/\Q o H') X.xe s
def Sx:TO:=fun _ H Q=>Q none H
def tPart (t:TE):TO:=fun σ H Q=>t σ H fun x H1=>∃ i,x=.int i/\Q (some i) H1
section
variable {X:Cx} {e:Expr} {te:TE} {lo hi:Option Expr} {tl th:TO} {pos p2:Pos}
theorem NF:PO X none Sx:=by
 intro pins s σ H Q I h;rw [evalPart_none];exact wpAny_pure ⟨none,H,I,.none,h⟩
theorem ND (h:PE X e te):PO X (some e) (tPart te):=by
 intro pins s σ H Q I hw;rw [evalPart_some];refine B6 (h (pins:=pins) s σ H _ I hw) fun u s1 ⟨x,H1,I1,r1,q1⟩=>?_
 obtain ⟨i,rfl,q⟩:=q1;obtain ⟨t,rfl⟩:=r1;exact ⟨some i,H1,I1,.int i t,q⟩
def TY (K:YX):R2:=fun x y H Q=>∃ a b xs ys,x=.ref a/\y=.ref b/\AF K H a xs/\AF K H b ys/\xs ≠ []/\xs.length + ys.length<=sizeLine /\
 (ys=[]->Q (.ref a) H)/\(ys ≠ []->∀ p,H p=none->Q (.ref p) (upd H p (.tup (xs ++ ys))))
theorem A5.nil_iff {xs:List V} {us:List Value} (r:A5 xs us):us=[] ↔ xs=[]:=by
 cases r with
 | nil=>simp
 | cons _ _=>simp
theorem SI:Et X (binaryOp .Add) (TY X.K):=by
 intro pins s σ H x y v u Q I rx ry h;obtain ⟨a,b,xs,ys,rfl,rfl,ha,hb,hx,hz,q1,q2⟩:=h;cases rx
 cases ry
 obtain ⟨Ap,r1,p1,_⟩:=I.tuple ha;obtain ⟨MC,r2,p2,_⟩:=I.tuple hb;refine HT.cat_tup p1 p2 (fun z=>hx (r1.nil_iff.mp z)) (fun z=>⟨.ref a,H,I,rfl,q1 (r2.nil_iff.mp z)⟩) (fun z=>?_) (by rw [<-r1.length,<-r2.length]; exact hz);refine ⟨.ref s.heap.objs.size,_,I.laid (t':=s.toks) (o:=.tup (xs ++ ys)) (fun b ob q=>YW _ q) (Zb _) ?_,rfl,q2 (fun w=>z (r2.nil_iff.mpr w)) _ (I.hok.fresh (Zb _))⟩;exact ⟨by rw [Za]; exact hz,_,r1.append r2,IsTup.new _ _,MU.new rfl rfl⟩
end
def Rz (n:Nat) (i:Int):Option Nat:=if 0<=i then (if i < n then some i.toNat else none) else if -(n:Int)<=i then some (i + n).toNat else none
def HV {α:Type} (xs:List α) (i:Int):Option α:=(Rz xs.length i).bind fun j=>xs[j]?
theorem KQ {n:Nat} {i:Int} {j:Nat} (h:Rz n i=some j):seqIndex? i n=some j/\j < n/\-(n:Int)<=i/\i < n:=by
 unfold Rz at h;by_cases h0:0<=i
 ·rw [if_pos h0] at h;by_cases h1:i < n
  ·rw [if_pos h1] at h;have e:i.toNat=j:=Zo.inj h;exact ⟨by rw [seqIndex_of h0 h1,e],by lia,by lia,h1⟩
  ·rw [if_neg h1] at h; cases h
 ·rw [if_neg h0] at h;by_cases h1:-(n:Int)<=i
  ·rw [if_pos h1] at h;have e:(i + n).toNat=j:=Zo.inj h;exact ⟨by rw [seqIndex_neg (by lia) h1,e],by lia,h1,by lia⟩
  ·rw [if_neg h1] at h; cases h
theorem HU {α:Type} {xs:List α} {i:Int} {v:α} (h:HV xs i=some v):∃ j,seqIndex? i xs.length=some j/\xs[j]? = some v/\j < xs.length/\-(xs.length:Int)<=i/\i < xs.length:=by
 unfold HV at h;cases e:Rz xs.length i with
 | none=>rw [e] at h; cases h
 | some j=>
  rw [e] at h;obtain ⟨h1,h2,h3,h4⟩:=KQ e;exact ⟨j,h1,h,h2,h3,h4⟩
theorem CD {α:Type} {xs:List α} {j:Nat} {v:α} (h:xs[j]? = some v):HV xs (j:Int)=some v:=by
 have hj:j < xs.length:=(YZ.mp h).1;have e:Rz xs.length (j:Int)=some j:=by
  unfold Rz;rw [if_pos (by lia),if_pos (by lia)]; simp
 unfold HV; rw [e]; exact h
theorem RQ {α:Type} (xs:List α) (v:α):HV (xs ++ [v]) (-1)=some v:=by
 have hl:(xs ++ [v]).length=xs.length + 1:=by simp
 have e:Rz (xs ++ [v]).length (-1)=some xs.length:=by
  unfold Rz;rw [hl,if_neg (by decide),if_pos (by lia)];congr 1;lia
 unfold HV;rw [e];show (xs ++ [v])[xs.length]? = some v
 simp
def T6 (b:Expr):Prop:=∀ o i,subscripted b false o i=operate [o,i] (getItem o i)
def VE (X:Cx) (r:R2):Prop:=
 ∀ (value slice:Expr) (pins:List (Addr × Obj)) (s:Shared) (σ:St) (H:Hp) (x y:V) (v u:Value) (Q:VK),An X pins σ H s->A3 x v->A3 y u->r x y H Q ->
  subscripted slice false v u=operate [v,u] (getItem v u)->wpAny (model X.prog X.w) X.A (subscriptTail value slice v u) (EP X pins σ Q) X.xe s
def MtR (X:Cx) (id:String) (r:V->List V->Hp->VK->Prop):Prop:=
 ∀ ⦃pins:List (Addr × Obj)⦄ (s:Shared) (σ:St) (H:Hp) (x:V) (xs:List V) (v:Value) (us:List Value) (Q:VK),An X pins σ H s->A3 x v->A5 xs us->r x xs H Q ->
  wpAny (model X.prog X.w) X.A (call (.builtin id) (v :: us)) (EP X pins σ Q) X.xe s
section
variable {X:Cx} {a b:Expr} {ta tb:TE} {pos:Pos}
theorem AA {r:R2} (hr:VE X r) (ha:PE X a ta) (hb:PE X b tb) (hs:T6 b):PE X (.Subscript a b pos) (tOp r ta tb):=by
 intro pins s σ H Q I h;exact Subscript_ (Vq ha hb I h fun v u s2 x y H2 I2 rx ry q=>hr a b (pins:=pins) s2 σ H2 x y v u Q I2 rx ry q (hs _ _))
def rIxL (K:YX):R2:=fun x y H Q=>∃ p xs i v,x=.ref p/\y=.int i/\A9 K H p xs/\HV xs i=some v/\Q v H
def rIxT (K:YX):R2:=fun x y H Q=>∃ p xs i v,x=.ref p/\y=.int i/\AF K H p xs/\HV xs i=some v/\Q v H
def rIxS:R2:=fun x y H Q=>∃ z i c,x=.str z/\y=.int i/\z.length<=sizeLine/\HV z.cps.toList i=some c/\Q (.str ⟨#[c]⟩) H
theorem Oe:VE X (rIxL X.K):=by
 intro value slice pins s σ H x y v u Q I rx ry h hs;obtain ⟨p,xs,i,z,rfl,rfl,hq,he,q⟩:=h;cases rx
 obtain ⟨t,rfl⟩:=ry;obtain ⟨Ap,r,pl,hz⟩:=I.list hq;obtain ⟨j,h1,h2,h3,h4,h5⟩:=HU he;obtain ⟨w,ew,Lx⟩:=r.get h2;have hl:=r.length;have hn:=F7;have fin:EP X pins σ Q w s:=⟨z,H,I,Lx,q⟩
 by_cases h0:0<=i
 ·have hj:i.toNat=j:=by
   rw [seqIndex_of h0 h5] at h1;exact Zo.inj h1
  exact item_listR pl.isList h0 (by lia) (by rw [hj]; simpa using ew) fin hs
 ·have hj:(i + (Ap.toArray.size:Int)).toNat=j:=by
   rw [seqIndex_neg (by lia) h4] at h1;rw [Zt,<-hl];exact Zo.inj h1
  exact subscriptTail_builtinR (x:=w) pl.isList.typeIs slot_list_getitem.lookup
   (wpAny_getItem_list_neg (Q:=fun r s'=>r=w/\EP X pins σ Q r s') pl.isList (by lia) (by rw [Zt] <;> lia) (by lia) (by rw [hj]; simpa using ew) ⟨rfl,fin⟩) hs
theorem Rx:VE X (rIxT X.K):=by
 intro value slice pins s σ H x y v u Q I rx ry h hs;obtain ⟨p,xs,i,z,rfl,rfl,hq,he,q⟩:=h;cases rx
 obtain ⟨t,rfl⟩:=ry;obtain ⟨Ap,r,pl,hz⟩:=I.tuple hq;obtain ⟨j,h1,h2,h3,h4,h5⟩:=HU he;obtain ⟨w,ew,Lx⟩:=r.get h2;have hl:=r.length;have hn:=F7;have fin:EP X pins σ Q w s:=⟨z,H,I,Lx,q⟩
 exact subscriptTail_builtinR (x:=w) pl.typeIs slot_tuple_getitem.lookup
  (getItem_tuple (j:=j) (Q:=fun r s'=>r=w/\EP X pins σ Q r s') pl (by lia) (by lia) (by rw [Zt,<-hl]; exact h1) (by simpa using ew) ⟨rfl,fin⟩) hs
theorem Ry:VE X rIxS:=by
 intro value slice pins s σ H x y v u Q I rx ry h hs;obtain ⟨z,i,c,rfl,rfl,hz,he,q⟩:=h;obtain ⟨t,rfl⟩:=rx;obtain ⟨t',rfl⟩:=ry;obtain ⟨j,h1,h2,h3,h4,h5⟩:=HU he;have hl:z.cps.toList.length=z.length:=by simp [Str.length]
 rw [hl] at h1 h4 h5;have hn:=F7;exact tail_any (typeIs_str s z t) slot_str_getitem.lookup (getItem_str (c:=c) (by
  have e1:decide (i < -(2 ^ 63:Int))=false:=decide_eq_false (by lia);have e2:decide (i >= 2 ^ 63)=false:=decide_eq_false (by lia);rw [e1,e2,e9]) (by rw [h1]; simpa using h2) ⟨.str ⟨#[c]⟩,H,I.tok _,⟨_,rfl⟩,q⟩) hs
theorem M9 (Ap:List Value) (n j:Nat) (u:Value):Obj.mapSeq (·.setIfInBounds j u) { cls:=.type "list",data:=.seq Ap.toArray n } = { cls:=.type "list",data:=.seq (Ap.set j u).toArray n }:=by
 simp [Obj.mapSeq]
theorem An.lst {pins:List (Addr × Obj)} {σ:St} {H:Hp} {s:Shared} {p:Addr} {xs:List V} (I:An X pins σ H s) (h:H p=some (.lst xs)) :
  ∃ (Ap:List Value) (n:Nat),A5 xs Ap/\s.heap.get? p=some { cls:=.type "list",data:=.seq Ap.toArray n }/\xs.length<=sizeLine:=by
 obtain ⟨z,Ap,n,r,e⟩:=I.hok p _ h;exact ⟨Ap,n,r,e,z⟩
theorem An.lstUpd {pins:List (Addr × Obj)} {σ:St} {H:Hp} {s:Shared} {p:Addr} {xs ys:List V} {Ap its':List Value} {n n':Nat} {f:Obj->Obj} (I:An X pins σ H s) (h:H p=some (.lst xs))
  (ho:s.heap.get? p=some { cls:=.type "list",data:=.seq Ap.toArray n }) (hf:f { cls:=.type "list",data:=.seq Ap.toArray n } = { cls:=.type "list",data:=.seq its'.toArray n' }) (r:A5 ys its') (hz:ys.length<=sizeLine) (t:Nat) :
  An X pins σ (upd H p (.lst ys)) { s with heap:=s.heap.update p f,toks:=t }:=by
 have e:(s.heap.update p f).get? p=some { cls:=.type "list",data:=.seq its'.toArray n' }:=by
  rw [ZM f ho (by rw [hf] <;> rfl),hf]
 refine I.write (x:=p) (e:=p) (by rw [h]; trivial) (.inl rfl) (fun b u hb q=>(ZL _ _ (Ne.symm hb)).trans q) ⟨_,e⟩ ?_;exact ⟨hz,its',n',r,e⟩
def rSetL:V->V->V->Hp->(Hp->Prop)->Prop:=fun o i v H Q=>∃ p xs k j,o=.ref p/\i=.int k/\H p=some (.lst xs)/\Rz xs.length k=some j/\Q (upd H p (.lst (xs.set j v)))
theorem Ig:PSet X rSetL:=by
 intro pins s σ H o i v ov iv u Q I ro ri rv h;obtain ⟨p,xs,k,j,rfl,rfl,hp,hj,q⟩:=h;cases ro
 obtain ⟨t,rfl⟩:=ri;obtain ⟨Ap,n,r,ho,hz⟩:=I.lst hp;obtain ⟨h1,h2,h3,h4⟩:=KQ hj;have hl:=r.length;have hn:=F7;have I':An X pins σ (upd H p (.lst (xs.set j v))) { s with heap:=s.heap.update p (Obj.mapSeq (·.setIfInBounds j u)) }:=
  I.lstUpd hp ho (M9 Ap n j u) (r.set rv j) (by rw [List.length_set]; exact hz) s.toks
 by_cases h0:0<=k
 ·have hk:k.toNat=j:=by
   rw [seqIndex_of h0 h4] at h1;exact Zo.inj h1
  exact PySem.W.ki_setAt ho h0 (by lia) (by rw [Zt,<-hl]; exact h4) (by rw [hk]; exact ⟨_,I',q⟩)
 ·have hk:(k + (Ap.toArray.size:Int)).toNat=j:=by
   rw [seqIndex_neg (by lia) h3] at h1;rw [Zt,<-hl];exact Zo.inj h1
  exact PySem.W.ki_setBack ho (by lia) (by rw [Zt,<-hl]; exact h3) (by lia) (by rw [hk]; exact ⟨_,I',q⟩)
def EG:V->Bool
 | .non=>true
 | .bl _=>true
 | .int _=>true
 | .str _=>true
 | _=>false
def Tq:V->V->Bool
 | .non,.non=>true
 | .bl a,.bl b=>a == b
 | .bl a,.int b=>(if a then 1 else 0) == b
 | .int a,.bl b=>a == (if b then 1 else 0)
 | .int a,.int b=>a == b
 | .str a,.str b=>a == b
 | _,_=>false
theorem Vm {A:Around} {s:Shared} {y x:V} {u v:Value} (ry:A3 y u) (rx:A3 x v) (fy:EG y=true) (fx:EG x=true):SeqAt.EqAt A s u v (Tq y x):=by
 cases y with
 | non=>
  cases ry
  cases x with
  | non=>cases rx; exact SeqAt.EqAt.same _
  | bl b=>cases rx; exact SeqAt.EqAt.none_bool b
  | int b=>obtain ⟨t,rfl⟩:=rx; exact SeqAt.EqAt.none_int b t
  | str b=>obtain ⟨t,rfl⟩:=rx; exact SeqAt.EqAt.none_str b t
  | _=>exact absurd (show false=true from fx) Zn
 | bl a=>
  cases ry
  cases x with
  | non=>cases rx; exact SeqAt.EqAt.bool_none a
  | bl b=>cases rx; exact SeqAt.EqAt.bool_bool a b
  | int b=>obtain ⟨t,rfl⟩:=rx; exact SeqAt.EqAt.bool_int a b t
  | str b=>obtain ⟨t,rfl⟩:=rx; exact SeqAt.EqAt.bool_str a b t
  | _=>exact absurd (show false=true from fx) Zn
 | int a=>
  obtain ⟨t',rfl⟩:=ry;cases x with
  | non=>cases rx; exact SeqAt.EqAt.int_none a t'
  | bl b=>cases rx; exact SeqAt.EqAt.int_bool a t' b
  | int b=>obtain ⟨t,rfl⟩:=rx; exact SeqAt.EqAt.int_int a t' b t
  | str b=>obtain ⟨t,rfl⟩:=rx; exact SeqAt.EqAt.int_str a t' b t
  | _=>exact absurd (show false=true from fx) Zn
 | str a=>
  obtain ⟨t',rfl⟩:=ry;cases x with
  | non=>cases rx; exact SeqAt.EqAt.str_none a t'
  | bl b=>cases rx; exact SeqAt.EqAt.str_bool a t' b
  | int b=>obtain ⟨t,rfl⟩:=rx; exact SeqAt.EqAt.str_int a t' b t
  | str b=>obtain ⟨t,rfl⟩:=rx; exact SeqAt.EqAt.str_str a t' b t
  | _=>exact absurd (show false=true from fx) Zn
 | _=>exact absurd (show false=true from fy) Zn
def MQ (x:V) (u:Value):Bool:=match u with
 | .none=>Tq .non x
 | .bool b=>Tq (.bl b) x
 | .int i _=>Tq (.int i) x
 | .str z _=>Tq (.str z) x
 | _=>false
theorem RI {x y:V} {u:Value} (r:A3 y u) (f:EG y=true):MQ x u=Tq y x:=by
 cases y with
 | non=>cases r; rfl
 | bl b=>cases r; rfl
 | int i=>obtain ⟨t,rfl⟩:=r; rfl
 | str z=>obtain ⟨t,rfl⟩:=r; rfl
 | _=>exact absurd (show false=true from f) Zn
theorem Gv {x:V}:∀ {xs:List V} {us:List Value},A5 xs us->xs.all EG=true->us.any (MQ x)=xs.any fun y=>Tq y x
 | _,_,.nil,_=>rfl
 | y :: xs,u :: us,.cons r t,f=>by
  rw [bR,ZI] at f;rw [aZ,aZ,RI r f.1,Gv t f.2]
theorem EB {A:Around} {s:Shared} {x:V} {v:Value} (rx:A3 x v) (fx:EG x=true):∀ {xs:List V} {us:List Value},A5 xs us->xs.all EG=true->∀ u ∈ us,SeqAt.EqAt A s u v (MQ x u)
 | _,_,.nil,_=>fun u hu=>by cases hu
 | y :: xs,u :: us,.cons r t,f=>fun u' hu=>by
  rw [bR,ZI] at f;rcases Zg.mp hu with rfl | hu
  ·rw [RI r f.1]; exact Vm r rx f.1 fx
  ·exact EB rx fx t f.2 u' hu
def inV (x:V) (xs:List V):Bool:=xs.any fun y=>Tq y x
def rIn (K:YX) (neg:Bool):R2:=fun x y H Q=>∃ p xs,y=.ref p/\(A9 K H p xs\/AF K H p xs)/\EG x=true/\xs.all EG=true/\Q (.bl (if neg then !inV x xs else inV x xs)) H
theorem Pj:Et X (compareOp .In) (rIn X.K false):=by
 intro pins s σ H x y v u Q I rx ry h;obtain ⟨p,xs,rfl,hq,fx,fs,q⟩:=h;cases ry
 rcases hq with hq | hq
 ·obtain ⟨Ap,r,pl,hz⟩:=I.list hq;refine SeqAt.in_listAt (MQ x) pl.isList (fun w hw=>EB rx fx r fs w (by simpa using hw)) ⟨.bl _,H,I,rfl,?_⟩;rw [show Ap.toArray.any (MQ x)=Ap.any (MQ x) by simp,Gv r fs];exact q
 ·obtain ⟨Ap,r,pl,hz⟩:=I.tuple hq;refine SeqAt.in_tupleAt (MQ x) pl (fun w hw=>EB rx fx r fs w (by simpa using hw)) ⟨.bl _,H,I,rfl,?_⟩;rw [show Ap.toArray.any (MQ x)=Ap.any (MQ x) by simp,Gv r fs];exact q
theorem KG:Et X (compareOp .NotIn) (rIn X.K true):=by
 intro pins s σ H x y v u Q I rx ry h;obtain ⟨p,xs,rfl,hq,fx,fs,q⟩:=h;cases ry
 rcases hq with hq | hq
 ·obtain ⟨Ap,r,pl,hz⟩:=I.list hq;refine SeqAt.notIn_listAt (MQ x) pl.isList (fun w hw=>EB rx fx r fs w (by simpa using hw)) ⟨.bl _,H,I,rfl,?_⟩;rw [show Ap.toArray.any (MQ x)=Ap.any (MQ x) by simp,Gv r fs];exact q
 ·obtain ⟨Ap,r,pl,hz⟩:=I.tuple hq;refine SeqAt.notIn_tupleAt (MQ x) pl (fun w hw=>EB rx fx r fs w (by simpa using hw)) ⟨.bl _,H,I,rfl,?_⟩;rw [show Ap.toArray.any (MQ x)=Ap.any (MQ x) by simp,Gv r fs];exact q
theorem Eh:Bi X (.builtin "len") (fun xs H Q=>∃ p ys,xs=[.ref p]/\(A9 X.K H p ys\/AF X.K H p ys)/\Q (.int ys.length) H):=by
 intro pins s σ H xs us Q I r h;obtain ⟨p,ys,rfl,hq,q⟩:=h;obtain ⟨u,rfl,rx⟩:=Cf r;cases rx
 have hn:=F7;rcases hq with hq | hq
 ·obtain ⟨Ap,r',pl,hz⟩:=I.list hq;have hlen:=r'.length;exact Calls.call_len_list pl.isList (by simp only [Zt] <;> lia) ⟨.int ys.length,H,I.tok _,⟨s.toks + 1,by rw [Zt,hlen]⟩,q⟩
 ·obtain ⟨Ap,r',pl,hz⟩:=I.tuple hq;have hlen:=r'.length;exact len_tuple pl (by simp only [Zt] <;> lia) ⟨.int ys.length,H,I.tok _,⟨s.toks + 1,by rw [Zt,hlen]⟩,q⟩
theorem Gs:Bi X (.builtin "len") (fun xs H Q=>∃ z,xs=[.str z]/\z.length<=sizeLine/\Q (.int z.length) H):=by
 intro pins s σ H xs us Q I r h;obtain ⟨z,rfl,hz,q⟩:=h;obtain ⟨u,rfl,t,rfl⟩:=Cf r;have hn:=F7;exact len_str (by lia) ⟨.int z.length,H,I.tok _,⟨_,rfl⟩,q⟩
theorem Gr:Bi X (.type "list") (fun xs H Q=>∃ p ys,xs=[.ref p]/\(A9 X.K H p ys\/AF X.K H p ys)/\∀ l,H l=none->Q (.ref l) (upd H l (.lst ys))):=by
 intro pins s σ H xs us Q I r h;obtain ⟨p,ys,rfl,hq,q⟩:=h;obtain ⟨u,rfl,rx⟩:=Cf r;cases rx
 have fin:∀ (Ap:List Value),A5 ys Ap->ys.length<=sizeLine->∀ (h':Heap) (c':Nat),(∀ b o',s.heap.get? b=some o'->h'.get? b=some o') ->
   h'.get? s.heap.objs.size=some { cls:=.type "list",dict:=none,data:=.seq Ap.toArray c',slots:=#[] }->EP X pins σ Q (.ref s.heap.objs.size) { s with heap:=h' }:=fun Ap r' hz h' c' kp e=>
  ⟨.ref s.heap.objs.size,_,I.laid (t':=s.toks) kp (Zb _) (show A6 X.prog X.w _ h' _ (.lst ys) from ⟨hz,Ap,c',r',e⟩),rfl,q _ (I.hok.fresh (Zb _))⟩
 rcases hq with hq | hq
 ·obtain ⟨Ap,r',pl,hz⟩:=I.list hq;have hlen:=r'.length;obtain ⟨o,ho,hc,n,hd⟩:=pl.isList;exact call_list_seq p (.inl rfl) ho hc hd (fun h' c' kp e=>fin Ap r' hz h' c' kp e) (by simp only [Zt] <;> lia)
 ·obtain ⟨Ap,r',pl,hz⟩:=I.tuple hq;have hlen:=r'.length;obtain ⟨o,ho,hc,n,hd⟩:=pl;exact call_list_seq p (.inr rfl) ho hc hd (fun h' c' kp e=>fin Ap r' hz h' c' kp e) (by simp only [Zt] <;> lia)
theorem J4:Bi X (.type "tuple") (fun xs H Q=>∃ p ys,xs=[.ref p]/\((A9 X.K H p ys/\∀ l,H l=none->Q (.ref l) (upd H l (.tup ys)))\/(AF X.K H p ys/\Q (.ref p) H))):=by
 intro pins s σ H xs us Q I r h;obtain ⟨p,ys,rfl,h⟩:=h;obtain ⟨u,rfl,rx⟩:=Cf r;cases rx
 rcases h with ⟨hq,q⟩ | ⟨hq,q⟩
 ·obtain ⟨Ap,r',pl,hz⟩:=I.list hq;have hlen:=r'.length;refine call_tuple_list pl.isList (fun h' kp=>?_) (by simp only [Zt] <;> lia);have I1:An X pins σ H { s with heap:=h' }:=I.kept (t':=s.toks) kp;have I2:An X pins σ (upd H h'.objs.size (.tup ys)) { s with heap:=h'.push { cls:=.type "tuple",data:=.seq Ap.toArray } }:=
   I1.laid (t':=s.toks) (fun b o e=>YW _ e) (Zb _) (show A6 X.prog X.w _ _ _ (.tup ys) from ⟨hz,Ap,r',IsTup.new _ _,MU.new rfl rfl⟩)
  exact ⟨.ref h'.objs.size,_,I2,rfl,q _ (I1.hok.fresh (Zb _))⟩
 ·obtain ⟨Ap,r',pl,hz⟩:=I.tuple hq;exact call_tuple_same pl ⟨.ref p,H,I,rfl,q⟩
def tyV (K:YX) (T:String) (x:V) (H:Hp):Prop:=match x with
 | .str _=>T="str"
 | .int _=>T="int"
 | .ref p=>(T="list"/\∃ xs,A9 K H p xs)\/(T="tuple"/\∃ o,K.lookup p=some o/\o.cls=.type "tuple"/\o.dict=none) \/
   (T="dict"/\((∃ kvs,H p=some (.dK kvs))\/∃ kvs,H p=some (.dT kvs)))\/(T="set"/\∃ S n,H p=some (.set S n))
 | _=>False
theorem Qs {pins:List (Addr × Obj)} {σ:St} {H:Hp} {s:Shared} {T:String} {x:V} {v:Value} (I:An X pins σ H s) (r:A3 x v) (ty:tyV X.K T x H) :
  s.TypeIs v T/\∀ a,v=.ref a->∃ ob,s.heap.get? a=some ob/\ob.dict=none:=by
 cases x with
 | str z=>
  obtain ⟨t,rfl⟩:=r;cases (show T="str" from ty)
  exact ⟨typeIs_str s z t,fun _ e=>nomatch e⟩
 | int i=>
  obtain ⟨t,rfl⟩:=r;cases (show T="int" from ty)
  exact ⟨typeIs_int s i t,fun _ e=>nomatch e⟩
 | ref p=>
  cases r
  rcases ty with ⟨rfl,xs,hq⟩ | ⟨rfl,o,hk,hc,hd⟩ | ⟨rfl,hk⟩ | ⟨rfl,S,n,hk⟩
  ·obtain ⟨Ap,_,pl,_⟩:=I.list hq;refine ⟨pl.isList.typeIs,fun a e=>?_⟩;cases e
   obtain ⟨o,n,e,c,hd,_⟩:=pl;exact ⟨o,e,hd⟩
  ·refine ⟨⟨o,I.kIn p o hk,hc⟩,fun a e=>?_⟩;cases e
   exact ⟨o,I.kIn _ o hk,hd⟩
  ·have z:∃ o,s.heap.get? p=some o/\o.ExactDict:=by
    rcases hk with ⟨kvs,hk⟩ | ⟨kvs,hk⟩
    ·obtain ⟨_,_,_,_,o,_,_,e,ex,_⟩:=I.hok p _ hk;exact ⟨o,e,ex⟩
    ·obtain ⟨_,_,_,_,o,_,_,e,ex,_⟩:=I.hok p _ hk;exact ⟨o,e,ex⟩
   obtain ⟨o,e,ex⟩:=z;refine ⟨⟨o,e,ex.1⟩,fun a e2=>?_⟩;cases e2
   exact ⟨o,e,ex.2.1⟩
  ·obtain ⟨o,_,_,_,e,ex,_⟩:=I.hok p _ hk;refine ⟨⟨o,e,ex.1⟩,fun a e2=>?_⟩;cases e2
   exact ⟨o,e,ex.2.1⟩
 | _=>exact False.elim ty
def tBM0 (K:YX) (T:String) (r:V->List V->Hp->VK->Prop) (to:TE):TE:=fun σ H Q=>to σ H fun x H1=>tyV K T x H1/\r x [] H1 Q
def tBM (K:YX) (T:String) (r:V->List V->Hp->VK->Prop) (to:TE) (t:TA):TE:=fun σ H Q=>to σ H fun x H1=>tyV K T x H1/\t σ H1 fun xs H2=>r x xs H2 Q
variable {o e:Expr} {es:List Expr} {to:TE} {t:TA} {name:Str} {apos EI:Pos} {T id:String} {r:V->List V->Hp->VK->Prop}
theorem UK (pa:PlainAttrs T) (slot:Slot T name id) (hty:typeOf (.builtin id)=pure (.type "method_descriptor")) (hm:MtR X id r) (ho:PE X o to)
  (hbase:attributeBase o name X.env (eval o X.env)=eval o X.env:=by rfl) (hline:(apos.endLine == EI.line)=true:=by rfl):PE X (.Call (.Attribute o name apos) [] [] EI) (tBM0 X.K T r to):=by
 intro pins s σ H Q I h;refine wpAny_Call_method0_late hbase hline (B6 (ho (pins:=pins) s σ H _ I h) fun v s1 ⟨x,H1,I1,r1,ty,q1⟩=>?_);obtain ⟨h1,h2⟩:=Qs I1 r1 ty;exact ⟨T,id,pa,slot,hty,h1,h2,Calls.callWith_builtin rfl (PySem.evalArgs_none (hm (pins:=pins) s1 σ H1 x [] v [] Q I1 r1 .nil q1))⟩
theorem Hl (pa:PlainAttrs T) (slot:Slot T name id) (hty:typeOf (.builtin id)=pure (.type "method_descriptor")) (hm:MtR X id r) (ho:PE X o to) (ha:PA X (e :: es) t)
  (hbase:attributeBase o name X.env (eval o X.env)=eval o X.env:=by rfl)
  (hfew:((backTo EI (starEach (e :: es) X.env)).all (fun x=>!x.1) && (backToKw EI (keywordEach [] X.env)).all (fun x=>x.1.isSome)
   && decide ((e :: es).length + ([]:List Keyword).length + (if ([]:List Keyword).isEmpty then 0 else 1) < 30))=true:=by rfl)
  (hline:(apos.endLine == EI.line)=true:=by rfl) (hs:starEach (e :: es) X.env=(false,eval e X.env) :: starEach es X.env:=by rfl) (hplain:(backTo EI (starEach es X.env)).any (·.1)=false:=by rfl) :
  PE X (.Call (.Attribute o name apos) (e :: es) [] EI) (tBM X.K T r to t):=by
 intro pins s σ H Q I h;refine wpAny_Call_method_late hbase hfew hline rfl (B6 (ho (pins:=pins) s σ H _ I h) fun v s1 ⟨x,H1,I1,r1,ty,q1⟩=>?_);obtain ⟨h1,h2⟩:=Qs I1 r1 ty;exists T,id,pa,slot,hty,h1,h2;have hA:=ha (pos:=EI) (pins:=pins) s1 σ H1 _ I1 q1;rw [hs] at hA ⊢;refine Calls.callWith_builtin (by show (false || (backTo EI (starEach es X.env)).any (·.1))=false; rw [hplain] <;> rfl) (Calls.evalArgs_plain ?_);exact B6 hA fun us s2 ⟨vs,H2,I2,r2,q2⟩=>hm (pins:=pins) s2 σ H2 x vs v us Q I2 r1 r2 q2
end
def MtM (X:Cx) (id:String) (r:V->List V->Hp->VK->Prop):Prop:=
 ∀ ⦃pins:List (Addr × Obj)⦄ (s:Shared) (σ:St) (H:Hp) (x:V) (xs:List V) (v:Value) (us:List Value) (Q:VK),An X pins σ H s->A3 x v->A5 xs us->r x xs H Q ->
  wpAny (model X.prog X.w) X.A (call (.builtin id) (v :: us)) (EP X pins σ Q) X.xe s
theorem A5.one:∀ {x:V} {us:List Value},A5 [x] us->∃ u,us=[u]/\A3 x u
 | _,_,.cons r .nil=>⟨_,rfl,r⟩
theorem A5.eraseIdx:∀ {xs:List V} {us:List Value} (i:Nat),A5 xs us->A5 (xs.eraseIdx i) (us.eraseIdx i)
 | _,_,_,.nil=>.nil
 | _,_,0,.cons _ t=>t
 | _,_,i + 1,.cons r t=>.cons r (A5.eraseIdx i t)
theorem JZ {α:Type}:∀ (l:List α) (i:Nat),(l.eraseIdx i).length<=l.length
 | [],_=>Zb _
 | _ :: _,0=>ZC _
 | _ :: r,i + 1=>Nat.succ_le_succ (JZ r i)
section
variable {X:Cx} {pins:List (Addr × Obj)} {σ:St} {H:Hp} {s:Shared} {l b:Addr} {xs ys zs:List V}
theorem An.lset {Ap its':List Value} {n:Nat} {f:Array Value->Array Value} {t':Nat} (I:An X pins σ H s) (hH:H l=some (.lst xs))
  (e:s.heap.get? l=some { cls:=.type "list",data:=.seq Ap.toArray n }) (hf:f Ap.toArray=its'.toArray) (hv:A5 ys its') (hz:ys.length<=sizeLine) :
  An X pins σ (upd H l (.lst ys)) { s with heap:=s.heap.update l (Obj.mapSeq f),toks:=t' }:=by
 have q:=PySem.IsL.update e f;rw [hf] at q;refine I.write (x:=l) (e:=l) (by rw [hH]; exact trivial) (.inl rfl) (fun b' u hb hu=>(ZL s.heap (Obj.mapSeq f) (Ne.symm hb)).trans hu) ⟨_,q⟩ ?_;exact ⟨hz,its',_,hv,q⟩
theorem An.lnew {Ap:List Value} {t':Nat} (I:An X pins σ H s) (hv:A5 ys Ap) (hz:ys.length<=sizeLine) :
  An X pins σ (upd H s.heap.objs.size (.lst ys)) { s with heap:=s.heap.push { cls:=.type "list",data:=.seq Ap.toArray },toks:=t' }:=
 I.laid (fun _ _ q=>YW _ q) (Zb _) ⟨hz,Ap,0,hv,Zf _ rfl⟩
theorem An.fresh (I:An X pins σ H s):H s.heap.objs.size=none:=I.hok.fresh (Zb _)
theorem An.lstM (I:An X pins σ H s) (hH:H l=some (.lst xs)):xs.length<=sizeLine/\∃ (Ap:List Value) (n:Nat),A5 xs Ap/\xs.length=Ap.length/\s.heap.get? l=some { cls:=.type "list",data:=.seq Ap.toArray n }:=by
 obtain ⟨z,Ap,n,r,e⟩:=I.hok l _ hH;exact ⟨z,Ap,n,r,r.length,e⟩
end
section
variable {X:Cx}
def S9:V->List V->Hp->VK->Prop:=fun x vs H Q=>∃ l xs y,x=.ref l/\vs=[y]/\H l=some (.lst xs)/\xs.length < sizeLine/\Q .non (upd H l (.lst (xs ++ [y])))
theorem Cc:MtM X "list.append" S9:=by
 intro pins s σ H x vs v us Q I rx rv h;obtain ⟨l,xs,y,rfl,rfl,hH,hz,q⟩:=h;cases rx
 obtain ⟨u,rfl,ru⟩:=rv.one;obtain ⟨z,Ap,n,r,hl,e⟩:=I.lstM hH;refine call_meets F.slot_list_append ⟨_,e,rfl⟩ F.entry_list_append (F.args_list_append_2 _ _) (PySem.list_append l Ap.toArray n u (by rw [Zt]; lia)) ⟨e,?_⟩;refine ⟨.non,_,I.lset (its':=Ap ++ [u]) hH e (by simp) (r.append (.cons ru .nil)) ?_,rfl,q⟩;rw [Za,Z9];lia
def UE:V->List V->Hp->VK->Prop:=fun x vs H Q=>∃ l xs i k y,x=.ref l/\vs=[.int i]/\H l=some (.lst xs)/\-(2 ^ 63)<=i/\i < 2 ^ 63/\seqIndex? i xs.length=some k/\xs[k]? = some y/\Q y (upd H l (.lst (xs.eraseIdx k)))
theorem Rp:MtM X "list.pop" UE:=by
 intro pins s σ H x vs v us Q I rx rv h;obtain ⟨l,xs,i,k,y,rfl,rfl,hH,h1,h2,hk,hy,q⟩:=h;cases rx
 obtain ⟨u,rfl,ru⟩:=rv.one;obtain ⟨t,rfl⟩:=ru;obtain ⟨z,Ap,n,r,hl,e⟩:=I.lstM hH;obtain ⟨w,hw,Lx⟩:=r.get hy;refine call_meets F.slot_list_pop ⟨_,e,rfl⟩ F.entry_list_pop (F.args_list_pop_2 _ _)
  (MeetsSeq.list_pop_at l Ap.toArray n i t k w (fitsIndex_both h1 h2) (by rw [Zt,<-hl]; exact hk) (by rw [<-ZW]; exact hw) (by rw [Zt]; lia)) ⟨e,?_⟩
 refine ⟨y,_,I.lset (its':=Ap.eraseIdx k) hH e ?_ (r.eraseIdx k) ?_,Lx,q⟩
 ·show Ap.toArray.eraseIdxIfInBounds k=(Ap.eraseIdx k).toArray
  rw [List.eraseIdxIfInBounds_toArray]
 ·have:=JZ xs k;lia
def rCat:R2:=fun x y H Q=>∃ l b xs zs,x=.ref l/\y=.ref b/\H l=some (.lst xs)/\H b=some (.lst zs)/\xs.length + zs.length<=sizeLine/\∀ p,H p=none->Q (.ref p) (upd H p (.lst (xs ++ zs)))
theorem KH:Et X (binaryOp .Add) rCat:=by
 intro pins s σ H x y v u Q I rx ry h;obtain ⟨l,b,xs,zs,rfl,rfl,hH,hB,hz,q⟩:=h;cases rx
 cases ry
 obtain ⟨z,Ap,n,r,hl,e⟩:=I.lstM hH;obtain ⟨z2,MC,n2,r2,MK,e2⟩:=I.lstM hB;refine PySem.P.add_list e e2 ?_ (by rw [Zt,Zt]; lia);have ea:Ap.toArray ++ MC.toArray=(Ap ++ MC).toArray:=by simp
 rw [ea];exact ⟨.ref _,_,I.lnew (t':=s.toks) (r.append r2) (by rw [Za]; lia),rfl,q _ I.fresh⟩
end
section
variable {prog:Program} {w:World} {A:Around} {E:Value->Shared->Prop} {s:Shared}
set_option maxRecDepth 100000 in
end
section
variable {X:Cx}
end
section
variable {κ:Type} [DecidableEq κ]
def Bd (kvs:List (κ × V)) (k:κ):Option V:=(kvs.find? fun kv=>decide (kv.1=k)).map (·.2)
def Bp (kvs:List (κ × V)) (k:κ) (v:V):List (κ × V):=
 if (kvs.any fun kv=>decide (kv.1=k))=true then kvs.map (fun kv=>if kv.1=k then (kv.1,v) else kv) else kvs ++ [(k,v)]
def IY (kvs:List (κ × V)) (k:κ):List (κ × V):=kvs.filter fun kv=>decide (kv.1 ≠ k)
theorem Bw {p:κ × V} {r:List (κ × V)} {k:κ} (e:p.1=k):Bd (p :: r) k=some p.2:=by simp [Bd,aA,e]
theorem Bo {p:κ × V} {r:List (κ × V)} {k:κ} (e:¬ p.1=k):Bd (p :: r) k=Bd r k:=by simp [Bd,aA,e]
theorem Cn (k:κ):∀ kvs:List (κ × V),(kvs.any fun kv=>decide (kv.1=k))=(Bd kvs k).isSome
 | []=>rfl
 | p :: r=>by
  rw [aZ];by_cases e:p.1=k
  ·simp only [Bw e,decide_eq_true e,Bool.true_or,cZ]
  ·rw [Bo e,decide_eq_false e,Bool.false_or]; exact Cn k r
theorem Li (k j:κ) (y:V):∀ kvs:List (κ × V),Bd (kvs.map fun kv=>if kv.1=k then (kv.1,y) else kv) j=(Bd kvs j).map fun x=>if j=k then y else x
 | []=>rfl
 | p :: r=>by
  have ih:=Li k j y r;rw [Zr];by_cases h:p.1=k
  ·rw [if_pos h];by_cases e:p.1=j
   ·rw [Bw (p:=(p.1,y)) e,Bw e,aK,if_pos (e.symm.trans h)]
   ·rw [Bo (p:=(p.1,y)) e,Bo e,ih]
  ·rw [if_neg h];by_cases e:p.1=j
   ·rw [Bw (p:=p) e,Bw e,aK,if_neg (fun z=>h (e.trans z))]
   ·rw [Bo (p:=p) e,Bo e,ih]
theorem JD (k j:κ) (y:V):∀ kvs:List (κ × V),Bd kvs k=none->Bd (kvs ++ [(k,y)]) j=if j=k then some y else Bd kvs j
 | [],_=>by
  by_cases e:k=j
  ·rw [if_pos e.symm]; exact Bw (p:=(k,y)) e
  ·rw [if_neg (fun z=>e z.symm)]; exact Bo (p:=(k,y)) e
 | p :: r,hn=>by
  rw [ah];have hk:¬ p.1=k:=fun z=>by rw [Bw z] at hn; cases hn
  rw [Bo hk] at hn;have ih:=JD k j y r hn;by_cases e:p.1=j
  ·rw [Bw e,Bw e,if_neg (fun z=>hk (e.trans z))]
  ·rw [Bo e,Bo e,ih]
theorem Qq (kvs:List (κ × V)) (k j:κ) (y:V):Bd (Bp kvs k y) j=if j=k then some y else Bd kvs j:=by
 unfold Bp;by_cases a:(kvs.any fun kv=>decide (kv.1=k))=true
 ·rw [if_pos a,Li];rw [Cn] at a;by_cases e:j=k
  ·obtain ⟨x,hx⟩:=b0.mp a;rw [if_pos e,e,hx,aK,if_pos rfl]
  ·rw [if_neg e];cases Bd kvs j with
   | none=>rfl
   | some x=>rw [aK,if_neg e]
 ·rw [if_neg a];refine JD k j y kvs ?_;rw [Cn] at a;cases q:Bd kvs k with
  | none=>rfl
  | some x=>rw [q] at a; exact (a rfl).elim
theorem Cv (kvs:List (κ × V)) (k:κ) (v:V):(Bp kvs k v).length<=kvs.length + 1:=by
 unfold Bp;split
 ·rw [YV]; lia
 ·rw [Za,Z4,dQ]; lia
theorem Im {kvs:List (κ × V)} {k:κ} (v:V) (h:Bd kvs k=none):Bp kvs k v=kvs ++ [(k,v)]:=by
 unfold Bp;rw [Cn,h];exact if_neg (by decide)
theorem GU.isSome_eq {o:Option V} {u:Option Value} (r:GU o u):o.isSome=u.isSome:=by
 cases o with
 | none=>cases u with
  | none=>rfl
  | some _=>exact (show False from r).elim
 | some _=>cases u with
  | none=>exact (show False from r).elim
  | some _=>rfl
theorem GU.getD {o:Option V} {u:Option Value} {d:V} {d':Value} (r:GU o u) (rd:A3 d d'):A3 (o.getD d) (u.getD d'):=by
 cases o with
 | none=>cases u with
  | none=>exact rd
  | some _=>exact (show False from r).elim
 | some _=>cases u with
  | none=>exact (show False from r).elim
  | some _=>exact r
theorem KV.val {kvs:List (κ × V)} {vs:List (κ × Value)} (r:KV kvs vs) (k:κ):GU (Bd kvs k) (valueAt vs k):=by
 unfold KV at r;induction r with
 | nil=>exact True.intro
 | @cons p q ps qs h t ih=>
  obtain ⟨h1,h2⟩:=h;by_cases e:p.1=k
  ·have e':q.1=k:=h1.symm.trans e;have b:valueAt (q :: qs) k=some q.2:=by simp [valueAt,aA,e']
   rw [Bw e,b]; exact h2
  ·have e':¬ q.1=k:=fun z=>e (h1.trans z)
   have b:valueAt (q :: qs) k=valueAt qs k:=by simp [valueAt,aA,e']
   rw [Bo e,b]; exact ih
theorem KV.any {kvs:List (κ × V)} {vs:List (κ × Value)} (r:KV kvs vs) (k:κ):(kvs.any fun kv=>decide (kv.1=k))=vs.any fun kv=>decide (kv.1=k):=by
 unfold KV at r;induction r with
 | nil=>rfl
 | cons h t ih=>rw [aZ,aZ,ih,h.1]
theorem KV.repl {kvs:List (κ × V)} {vs:List (κ × Value)} (r:KV kvs vs) (k:κ) {y:V} {u:Value} (ry:A3 y u) :
  KV (kvs.map fun kv=>if kv.1=k then (kv.1,y) else kv) (vs.map fun kv=>if kv.1=k then (kv.1,u) else kv):=by
 unfold KV at r ⊢;induction r with
 | nil=>exact .nil
 | @cons p q ps qs h t ih=>
  rw [Zr,Zr];refine .cons ?_ ih;obtain ⟨h1,h2⟩:=h;by_cases e:p.1=k
  ·rw [if_pos e,if_pos (h1.symm.trans e)]; exact ⟨h1,ry⟩
  ·rw [if_neg e,if_neg (fun z=>e (h1.trans z))]; exact ⟨h1,h2⟩
theorem KV.put {kvs:List (κ × V)} {vs:List (κ × Value)} (r:KV kvs vs) (k:κ) {y:V} {u:Value} (ry:A3 y u):KV (Bp kvs k y) (stored vs k u):=by
 unfold Bp stored;rw [r.any k];by_cases e:(vs.any fun kv=>decide (kv.1=k))=true
 ·rw [if_pos e,if_pos e]; exact r.repl k ry
 ·rw [if_neg e,if_neg e]; exact Paired.snoc r ⟨rfl,ry⟩
theorem KV.drop {kvs:List (κ × V)} {vs:List (κ × Value)} (r:KV kvs vs) (k:κ):KV (IY kvs k) (without vs k):=by
 unfold KV at r ⊢;unfold IY without;induction r with
 | nil=>exact .nil
 | @cons p q ps qs h t ih=>
  obtain ⟨h1,h2⟩:=h;rw [aF,aF];by_cases e:p.1=k
  ·have a:¬ decide (p.1 ≠ k)=true:=by simp [e]
   have b:¬ decide (q.1 ≠ k)=true:=by simp [h1.symm.trans e]
   rw [if_neg a,if_neg b]; exact ih
  ·have e':¬ q.1=k:=fun z=>e (h1.trans z)
   have a:decide (p.1 ≠ k)=true:=by simp [e]
   have b:decide (q.1 ≠ k)=true:=by simp [e']
   rw [if_pos a,if_pos b]; exact .cons ⟨h1,h2⟩ ih
theorem KV.length {kvs:List (κ × V)} {vs:List (κ × Value)} (r:KV kvs vs):kvs.length=vs.length:=Paired.length r
theorem RK (kvs:List (κ × V)) (k:κ):(IY kvs k).length<=kvs.length:=ab _ _
end
theorem Hs {P:Program} {w:World} {k:A4} {u:Value} (r:A3 (kV k) u):(A2 P w).is k u=true:=by
 cases k with
 | inl i=>obtain ⟨t,e⟩:=(show ∃ t,u=Value.int i t from r); subst e; exact LG P w i t
 | inr x=>obtain ⟨t,e⟩:=(show ∃ t,u=Value.str x t from r); subst e; exact Hq P w x t
theorem Kb {P:Program} {w:World}:∀ {ks:List A4} {us:List Value},A5 (ks.map kV) us->ItemsAre (A2 P w) ks us
 | [],_,r=>by rw [eF] at r; cases r; exact .nil
 | k :: ks,_,r=>by
  rw [Zr] at r;cases r with
  | cons h t=>exact .cons (Hs h) (Kb t)
abbrev KT (H:Hp):List (List A4 × V)->List (List A4 × Addr × Value)->Prop:=Paired fun p q=>p.1=q.1/\H q.2.1=some (.tup (p.1.map kV))/\A3 p.2 q.2.2
theorem KT.val {H:Hp} {kvs:List (List A4 × V)} {xs:List (List A4 × Addr × Value)} (r:KT H kvs xs) (k:List A4):GU (Bd kvs k) ((atKey xs k).map (·.2)):=by
 induction r with
 | nil=>exact True.intro
 | @cons p q ps qs h t ih=>
  obtain ⟨h1,_,h2⟩:=h;by_cases e:p.1=k
  ·have e':q.1=k:=h1.symm.trans e;have b:atKey (q :: qs) k=some q.2:=by simp [atKey,aA,e']
   rw [Bw e,b]; exact h2
  ·have e':¬ q.1=k:=fun z=>e (h1.trans z)
   have b:atKey (q :: qs) k=atKey qs k:=by simp [atKey,aA,e']
   rw [Bo e,b]; exact ih
theorem KT.repl {H:Hp} {kvs:List (List A4 × V)} {xs:List (List A4 × Addr × Value)} (r:KT H kvs xs) (k:List A4) {y:V} {u:Value} (ry:A3 y u) :
  KT H (kvs.map fun kv=>if kv.1=k then (kv.1,y) else kv) (xs.map (putAt k u)):=by
 induction r with
 | nil=>exact .nil
 | @cons p q ps qs h t ih=>
  rw [Zr,Zr];refine .cons ?_ ih;obtain ⟨h1,h2,h3⟩:=h;unfold putAt;by_cases e:p.1=k
  ·rw [if_pos e,if_pos (h1.symm.trans e)]; exact ⟨h1,h2,ry⟩
  ·rw [if_neg e,if_neg (fun z=>e (h1.trans z))]; exact ⟨h1,h2,h3⟩
theorem KT.put {H:Hp} {kvs:List (List A4 × V)} {xs:List (List A4 × Addr × Value)} (r:KT H kvs xs) (k:List A4) {b:Addr} {y:V} {u:Value} (hb:H b=some (.tup (k.map kV))) (ry:A3 y u) :
  KT H (Bp kvs k y) (storedH xs k b u):=by
 have e:(kvs.any fun kv=>decide (kv.1=k))=(atKey xs k).isSome:=by
  rw [Cn,(r.val k).isSome_eq,bU]
 unfold Bp storedH;rw [e];by_cases q:(atKey xs k).isSome=true
 ·rw [if_pos q,if_pos q]; exact r.repl k ry
 ·rw [if_neg q,if_neg q]; exact Paired.snoc r ⟨rfl,hb,ry⟩
theorem KT.keeps {H H':Hp} {kvs:List (List A4 × V)} {xs:List (List A4 × Addr × Value)} (r:KT H kvs xs) (ht:∀ b ys,H b=some (.tup ys)->H' b=some (.tup ys)):KT H' kvs xs:=
 Paired.mapP r fun _ _ z=>⟨z.1,ht _ _ z.2.1,z.2.2⟩
section
variable {P:Program} {w:World} {H:Hp} {h:Heap} {a:Addr}
theorem TV {u:HO} (ok:FI P w H h) (e:Rd H a u):A6 P w H h a u:=e.ok ok
theorem IZ {kvs:List (A4 × V)} (ok:FI P w H h) (e:Rd H a (.dK kvs)):kvs.length<=sizeLine/\(a == sysModules)=false/\∃ vs,KV kvs vs/\h.DictOf (A2 P w) a vs:=
 show A6 P w H h a (.dK kvs) from TV ok e
theorem RL {kvs:List (A4 × V)} (ok:FI P w H h) (e:H a=some (.dK kvs)):kvs.length<=sizeLine/\(a == sysModules)=false/\∃ vs,KV kvs vs/\h.DictOf (A2 P w) a vs:=IZ ok (.inl e)
theorem EE {ks:List A4} (ok:FI P w H h) (e:H a=some (.tup (ks.map kV))):(tupleKind (A2 P w)).is h ks a:=by
 obtain ⟨_,Ap,r,⟨o,h1,h2,n,h3⟩,_⟩:=(show A6 P w H h a (.tup (ks.map kV)) from ok a _ e)
 exact ⟨o,Ap.toArray,n,h1,h2,h3,by simpa using Kb r⟩
theorem IX {kvs:List (List A4 × V)} (ok:FI P w H h) (e:Rd H a (.dT kvs)):kvs.length<=sizeLine/\(a == sysModules)=false /\
  ∃ xs,KT H kvs xs/\h.DictOfH (tupleKind (A2 P w)) a xs:=by
 obtain ⟨z,y,xs,r,o,es,ep,h1,h2,h3,h4,h5⟩:=(show A6 P w H h a (.dT kvs) from TV ok e)
 refine ⟨z,y,xs,r,o,es,ep,h1,h2,h3,h4,fun x hx=>?_,h5⟩;have all:∀ {l:List (List A4 × V)} {m:List (List A4 × Addr × Value)},KT H l m->∀ x ∈ m,(tupleKind (A2 P w)).is h x.1 x.2.1:=by
  intro l m q;induction q with
  | nil=>intro x hx; exact nomatch hx
  | @cons p q ps qs hq t ih=>
   intro x hx;rcases Zg.mp hx with e | hx
   ·subst e;exact EE ok (by rw [<-hq.1]; exact hq.2.1)
   ·exact ih x hx
 exact all r x hx
theorem Up {kvs:List (List A4 × V)} (ok:FI P w H h) (e:H a=some (.dT kvs)):kvs.length<=sizeLine/\(a == sysModules)=false /\
  ∃ xs,KT H kvs xs/\h.DictOfH (tupleKind (A2 P w)) a xs:=IX ok (.inl e)
end
def BF (H:Hp) (a:Addr) (y:V) (r:Option V):Prop:=
 (∃ kvs k,Rd H a (.dK kvs)/\y=kV k/\r=Bd kvs k)\/∃ kvs k b,Rd H a (.dT kvs)/\y=.ref b/\H b=some (.tup (k.map kV))/\r=Bd kvs k
def DO (H:Hp) (a:Addr) (y v:V) (H':Hp):Prop:=
 (∃ kvs k,H a=some (.dK kvs)/\y=kV k/\kvs.length < sizeLine/\H'=upd H a (.dK (Bp kvs k v))) \/
 ∃ kvs k b,H a=some (.dT kvs)/\y=.ref b/\H b=some (.tup (k.map kV))/\kvs.length < sizeLine/\H'=upd H a (.dT (Bp kvs k v))
theorem BF.k {H:Hp} {a:Addr} {kvs:List (A4 × V)} {k:A4} (e:H a=some (.dK kvs)):BF H a (kV k) (Bd kvs k):=.inl ⟨kvs,k,.inl e,rfl,rfl⟩
theorem BF.t {H:Hp} {a b:Addr} {kvs:List (List A4 × V)} {k:List A4} (e:H a=some (.dT kvs)) (eb:H b=some (.tup (k.map kV))):BF H a (.ref b) (Bd kvs k):=.inr ⟨kvs,k,b,.inl e,rfl,eb,rfl⟩
theorem DO.k {H:Hp} {a:Addr} {kvs:List (A4 × V)} {k:A4} {v:V} (e:H a=some (.dK kvs)) (hl:kvs.length < sizeLine):DO H a (kV k) v (upd H a (.dK (Bp kvs k v))):=.inl ⟨kvs,k,e,rfl,hl,rfl⟩
theorem DO.t {H:Hp} {a b:Addr} {kvs:List (List A4 × V)} {k:List A4} {v:V} (e:H a=some (.dT kvs)) (eb:H b=some (.tup (k.map kV))) (hl:kvs.length < sizeLine) :
  DO H a (.ref b) v (upd H a (.dT (Bp kvs k v))):=.inr ⟨kvs,k,b,e,rfl,eb,hl,rfl⟩
section
variable {X:Cx} {pins:List (Addr × Obj)} {σ:St} {H:Hp} {s:Shared} {a:Addr} {y v:V} {u r:Value} {o:Option V} {A:Around} {E:Value->Shared->Prop}
theorem An.big (I:An X pins σ H s):sysModules < s.heap.objs.size:=by
 have h:mainGlobals < s.heap.objs.size:=(I.mod.glob.keeps I.bk).lt;exact Nat.lt_trans (by decide) h
theorem PR {Q:Value->Shared->Prop} (hu:A.units + 1 < cLine) (I:An X pins σ H s) (g:BF H a y (some v)) (ry:A3 y u) (h:∀ w' s',An X pins σ H s'->A3 v w'->Q w' s') :
  wpAny (model X.prog X.w) A (getItem (.ref a) u) Q E s:=by
 rcases g with ⟨kvs,k,e,ey,l⟩ | ⟨kvs,k,b,e,ey,eb,l⟩
 ·subst ey;obtain ⟨z,hd,vs,rel,dd⟩:=IZ I.hok e;obtain ⟨w',hw,Lx⟩:=GU.some_of (v:=v) (o:=valueAt vs k) (by rw [l]; exact rel.val k);exact wpAny_getItem_of (Hs ry) dd.mapOf hw (h w' _ (I.tok _) Lx)
 ·subst ey;cases (show u=Value.ref b from ry)
  obtain ⟨z,hd,xs,rel,dd⟩:=IX I.hok e;obtain ⟨w',hw,Lx⟩:=GU.some_of (v:=v) (o:=(atKey xs k).map (·.2)) (by rw [l]; exact rel.val k);obtain ⟨p,hp,hp2⟩:=Option.map_eq_some_iff.mp hw;refine wpAny_getItem_heap (tupleKind_room_in1 hu) (EE I.hok eb) dd hp ?_;rw [hp2];exact h w' _ (I.tok _) Lx
theorem d_in {Q:Value->Shared->Prop} (hu:A.units + 1 < cLine) (I:An X pins σ H s) (g:BF H a y o) (ry:A3 y u) (h:∀ s',An X pins σ H s'->Q (.bool o.isSome) s') :
  wpAny (model X.prog X.w) A (compareOp .In u (.ref a)) Q E s:=by
 rcases g with ⟨kvs,k,e,ey,l⟩ | ⟨kvs,k,b,e,ey,eb,l⟩
 ·subst ey;obtain ⟨z,hd,vs,rel,dd⟩:=IZ I.hok e;refine wpAny_in_of (Hs ry) hd dd.mapOf ?_;rw [<-(rel.val k).isSome_eq,<-l];exact h _ (I.tok _)
 ·subst ey;cases (show u=Value.ref b from ry)
  obtain ⟨z,hd,xs,rel,dd⟩:=IX I.hok e;refine wpAny_in_heap (tupleKind_room_in1 hu) (EE I.hok eb) hd dd ?_;have q:=(rel.val k).isSome_eq;rw [bU] at q;rw [<-q,<-l];exact h _ (I.tok _)
theorem Tt {Q:Value->Shared->Prop} (hu:A.units + 1 < cLine) (I:An X pins σ H s) (g:BF H a y o) (ry:A3 y u) (h:∀ s',An X pins σ H s'->Q (.bool (!o.isSome)) s') :
  wpAny (model X.prog X.w) A (compareOp .NotIn u (.ref a)) Q E s:=by
 rcases g with ⟨kvs,k,e,ey,l⟩ | ⟨kvs,k,b,e,ey,eb,l⟩
 ·subst ey;obtain ⟨z,hd,vs,rel,dd⟩:=IZ I.hok e;refine wpAny_notIn_of (Hs ry) hd dd.mapOf ?_;rw [<-(rel.val k).isSome_eq,<-l];exact h _ (I.tok _)
 ·subst ey;cases (show u=Value.ref b from ry)
  obtain ⟨z,hd,xs,rel,dd⟩:=IX I.hok e;refine wpAny_notIn_heap (tupleKind_room_in1 hu) (EE I.hok eb) hd dd ?_;have q:=(rel.val k).isSome_eq;rw [bU] at q;rw [<-q,<-l];exact h _ (I.tok _)
theorem Gp {h':Heap} {t':Nat} {ob:HO} (I:An X pins σ H s) (mu:Mut (H a)) (hs:Heap.SameBut a s.heap h') (he:∃ q,h'.get? a=some q) (new:A6 X.prog X.w (upd H a ob) h' a ob) :
  An X pins σ (upd H a ob) { s with heap:=h',toks:=t' }:=
 I.write (x:=a) (e:=a) mu (.inl rfl) (fun b q hb z=>(hs.2 b hb).trans z) he new
theorem KU {P:Program} {w:World} {H':Hp} {h':Heap} {kvs:List (A4 × V)} {vs:List (A4 × Value)} (z:kvs.length<=sizeLine) (hd:(a == sysModules)=false) (rel:KV kvs vs) (dd:h'.DictOf (A2 P w) a vs) :
  A6 P w H' h' a (.dK kvs):=⟨z,hd,vs,rel,dd⟩
theorem PQ {H':Hp} {Q:Unit->Shared->Prop} (hu:A.units + 1 < cLine) (I:An X pins σ H s) (g:DO H a y v H') (ry:A3 y u) (rv:A3 v r) (h:∀ s',An X pins σ H' s'->Q () s') :
  wpAny (model X.prog X.w) A (setItem (.ref a) u r) Q E s:=by
 rcases g with ⟨kvs,k,e,ey,l,eH⟩ | ⟨kvs,k,b,e,ey,eb,l,eH⟩
 ·subst ey eH;obtain ⟨z,hd,vs,rel,dd⟩:=RL I.hok e;have hz:vs.length<=sizeLine:=by rw [<-rel.length]; exact z
  have hl:(Bp kvs k v).length<=sizeLine:=by have:=Cv kvs k v; lia
  refine wpAny_setItem_pairs (hsz:=hz) (Hs ry) dd fun h' J2 hs=>h _ ?_
  have he:∃ q,h'.get? a=some q:=let ⟨q,_,_,hq,_⟩:=J2; ⟨q,hq⟩;exact Gp I (by rw [e]; exact True.intro) hs he (KU hl hd (rel.put k rv) J2)
 ·subst ey eH;cases (show u=Value.ref b from ry)
  obtain ⟨z,hd,xs,rel,dd⟩:=Up I.hok e;have hz:xs.length<=sizeLine:=by rw [<-Paired.length rel]; exact z
  have hl:(Bp kvs k v).length<=sizeLine:=by have:=Cv kvs k v; lia
  refine wpAny_setItem_heap (hsz:=hz) (tupleKind_room_in1 hu) (EE I.hok eb) dd fun h' J2 hs=>h _ ?_
  obtain ⟨q,es,ep,hq,h2,h3,h4,_,h5⟩:=J2;refine Gp I (by rw [e]; exact True.intro) hs ⟨q,hq⟩ ⟨hl,hd,_,(rel.put k eb rv).keeps fun c ys ec=>?_,q,es,ep,hq,h2,h3,h4,h5⟩;rw [Af (Cg ec e (fun z=>nomatch z))];exact ec
end
section
variable {X:Cx} {pins:List (Addr × Obj)} {σ:St} {H:Hp} {s:Shared} {a:Addr} {kvs:List (A4 × V)} {k:A4} {u:Value} {A:Around} {E:Value->Shared->Prop}
theorem PU {Q:Unit->Shared->Prop} (I:An X pins σ H s) (e:H a=some (.dK kvs)) (ry:A3 (kV k) u) (l:(Bd kvs k).isSome=true) (h:∀ s',An X pins σ (upd H a (.dK (IY kvs k))) s'->Q () s') :
  wpAny (model X.prog X.w) A (delItem (.ref a) u) Q E s:=by
 obtain ⟨z,hd,vs,rel,dd⟩:=RL I.hok e;refine wpAny_delItem_slot dd.typeIs (by decide) PySem.F.slot_dict_delitem
  (call_meetsIn PySem.F.slot_dict_delitem dd.typeIs PySem.F.entry_dict_delitem (PySem.F.args_dict_delitem_2 _ _) (meets_dict_delitem_pairs (A2 X.prog X.w) a (Hs ry)) ⟨vs,dd,by rw [<-rel.length]; exact z,by rw [<-(rel.val k).isSome_eq]; exact l,fun h' J2 hs=>h _ ?_⟩)
 have he:∃ q,h'.get? a=some q:=let ⟨q,_,_,hq,_⟩:=J2; ⟨q,hq⟩;exact Gp I (by rw [e]; exact True.intro) hs he (KU (Z2 (RK kvs k) z) hd (rel.drop k) J2)
end
def NoSl (i:Expr):Prop:=∀ ov iv,subscripted i false ov iv=operate [ov,iv] (getItem ov iv)
theorem S0 {prog:Program} {w:World} {A:Around} {E:Value->Shared->Prop} {s:Shared} {env:Env} {value slice:Expr} {pos:Pos} {T id:String} {Q:Value->Shared->Prop}
  (hl:typeLookup (.type T) "__getitem__"=pure (some (.builtin id))) (hs:NoSl slice)
  (h:wpAny (model prog w) A (eval value env) (fun o AJ=>wpAny (model prog w) A (eval slice env) (fun i Er=>Er.TypeIs o T/\wpAny (model prog w) A (getItem o i) Q E Er) E AJ) E s) :
  wpAny (model prog w) A (eval (.Subscript value slice pos) env) Q E s:=by
 refine Subscript_ (wpAny_mono h (fun o AJ h₁=>wpAny_mono h₁ (fun i Er MH=>?_) fun _ _ x=>x) fun _ _ x=>x);obtain ⟨hT,MH⟩:=MH;unfold subscriptTail;refine wpAny_bind ?_;rw [getitemInPython_of_ne hT.not_modules];refine wpAny_bind (wpAny_specialOf hT hl ?_);have fin:wpAny (model prog w) A (subscripted slice false o i) (fun r BZ=>wpAny (model prog w) A (letTemporaryGo value o r >>= fun _=>pure r) Q E BZ) E Er:=by
  rw [hs o i];exact wpAny_operating (wpAny_mono MH (fun r BZ MG=>wpAny_bind (wpAny_letTemporaryGo (wpAny_pure MG))) fun _ _ x=>x)
 first
  | exact wpAny_pure (wpAny_bind fin)
  | exact wpAny_bind (wpAny_pure (wpAny_bind fin))
  | exact wpAny_bind fin
theorem LZ {X:Cx} {pins:List (Addr × Obj)} {σ:St} {H:Hp} {s:Shared} {a:Addr} {y:V} {o:Option V} (I:An X pins σ H s) (g:BF H a y o):s.TypeIs (.ref a) "dict":=by
 rcases g with ⟨kvs,k,e,_,_⟩ | ⟨kvs,k,b,e,_,_,_⟩
 ·obtain ⟨_,_,vs,_,dd⟩:=IZ I.hok e;exact dd.typeIs
 ·obtain ⟨_,_,xs,_,dd⟩:=IX I.hok e;exact dd.typeIs
def tDGet (td ty:TE):TE:=fun σ H Q=>td σ H fun x H1=>ty σ H1 fun y H2=>∃ a v,x=.ref a/\BF H2 a y (some v)/\Q v H2
def tDIn (ty td:TE):TE:=fun σ H Q=>ty σ H fun y H1=>td σ H1 fun x H2=>∃ a o,x=.ref a/\BF H2 a y o/\Q (.bl o.isSome) H2
def Sy (ty td:TE):TE:=fun σ H Q=>ty σ H fun y H1=>td σ H1 fun x H2=>∃ a o,x=.ref a/\BF H2 a y o/\Q (.bl (!o.isSome)) H2
def sDPut (td ty tv:TE):TS:=fun D σ H=>tv σ H fun v H1=>td σ H1 fun x H2=>ty σ H2 fun y H3=>∃ a H4,x=.ref a/\DO H3 a y v H4/\D.nx σ H4
def sDDel (td ty:TE):TS:=fun D σ H=>td σ H fun x H1=>ty σ H1 fun y H2=>∃ a kvs k,x=.ref a/\H2 a=some (.dK kvs)/\y=kV k/\(Bd kvs k).isSome=true/\D.nx σ (upd H2 a (.dK (IY kvs k)))
section
variable {X:Cx} {o i e value:Expr} {pos pos' tpos:Pos} {td ty tv:TE}
theorem AH (hu:X.A.units + 1 < cLine) (ho:PE X o td) (hi:PE X i ty) (hs:NoSl i):PE X (.Subscript o i pos) (tDGet td ty):=by
 intro pins s σ H Q I h;refine S0 PySem.F.slot_dict_getitem.lookup hs (B6 (ho (pins:=pins) s σ H _ I h) fun u s1 ⟨x,H1,I1,rx,q1⟩=>B6 (hi (pins:=pins) s1 σ H1 _ I1 q1) fun iv s2 ⟨y,H2,I2,ry,a,v,ex,g,q2⟩=>?_);subst ex;obtain rfl:u=Value.ref a:=rx;exact ⟨LZ I2 g,PR hu I2 g ry fun w' s3 I3 Lx=>⟨v,H2,I3,Lx,q2⟩⟩
theorem UL (hu:X.A.units + 1 < cLine) (hi:PE X i ty) (ho:PE X o td):PC X .In i o (tDIn ty td):=by
 intro pins s σ H Q I h;refine B6 (hi (pins:=pins) s σ H _ I h) fun iv s1 ⟨y,H1,I1,ry,q1⟩=>B6 (ho (pins:=pins) s1 σ H1 _ I1 q1) fun u s2 ⟨x,H2,I2,rx,a,ov,ex,g,q2⟩=>?_
 subst ex;obtain rfl:u=Value.ref a:=rx;exact d_in hu I2 g ry fun s3 I3=>⟨.bl ov.isSome,H2,I3,rfl,q2⟩
theorem JR (hu:X.A.units + 1 < cLine) (hi:PE X i ty) (ho:PE X o td):PC X .NotIn i o (Sy ty td):=by
 intro pins s σ H Q I h;refine B6 (hi (pins:=pins) s σ H _ I h) fun iv s1 ⟨y,H1,I1,ry,q1⟩=>B6 (ho (pins:=pins) s1 σ H1 _ I1 q1) fun u s2 ⟨x,H2,I2,rx,a,ov,ex,g,q2⟩=>?_
 subst ex;obtain rfl:u=Value.ref a:=rx;exact Tt hu I2 g ry fun s3 I3=>⟨.bl (!ov.isSome),H2,I3,rfl,q2⟩
theorem Ca (hu:X.A.units + 1 < cLine) (ho:PE X o td) (hi:PE X i ty) (hv:PE X value tv) (hs:swapsWith value (some (.Subscript o i pos')) pos.line X.env=pure false) :
  PS X (.Assign [.Subscript o i pos'] value pos) (sDPut td ty tv):=by
 intro pins s σ H D I h;refine wpAny_Assign_Subscript (B6 (hv (pins:=pins) s σ H _ I h) fun r s1 ⟨v,H1,I1,rv,q1⟩=>B6 (ho (pins:=pins) s1 σ H1 _ I1 q1) fun u s2 ⟨x,H2,I2,rx,q2⟩=>B6 (hi (pins:=pins) s2 σ H2 _ I2 q2) fun iv s3 ⟨y,H3,I3,ry,a,H4,ex,g,q3⟩=>?_) hs;subst ex;obtain rfl:u=Value.ref a:=rx;exact PQ hu I3 g ry rv fun s4 I4=>⟨σ,H4,I4,q3⟩
theorem SD (ho:PE X o td) (hi:PE X i ty):PS X (.Delete [.Subscript o i tpos] pos) (sDDel td ty):=by
 intro pins s σ H D I h;refine wpAny_Delete (wpAny_deleteEach_cons (wpAny_delete_Subscript (B6 (ho (pins:=pins) s σ H _ I h) fun u s1 ⟨x,H1,I1,rx,q1⟩=>B6 (hi (pins:=pins) s1 σ H1 _ I1 q1) fun iv s2 ⟨y,H2,I2,ry,a,kvs,k,ex,e,ey,l,q2⟩=>?_)));subst ex ey;obtain rfl:u=Value.ref a:=rx;exact PU I2 e ry l fun s3 I3=>wpAny_deleteEach_nil ⟨σ,_,I3,q2⟩
end
theorem Ja {P:Program} {w:World} {H:Hp} (h:Heap) (hb:sysModules < h.objs.size):A6 P w H (h.push { cls:=.type "dict",data:=.dict #[] }) h.objs.size (.dK []):=
 ⟨Z7 _,beq_eq_false_iff_ne.mpr (Ne.symm (Zh hb)),[],.nil,Heap.DictOf.new h⟩
theorem LY {P:Program} {w:World} {H:Hp} (h:Heap) (hb:sysModules < h.objs.size):A6 P w H (h.push { cls:=.type "dict",data:=.dict #[] }) h.objs.size (.dT []):=
 ⟨Z7 _,beq_eq_false_iff_ne.mpr (Ne.symm (Zh hb)),[],.nil,_,#[],0,Zf _ rfl,⟨rfl,rfl,rfl⟩,rfl,rfl,au⟩
def U7:TE:=fun _ H Q=>∀ p,H p=none->Q (.ref p) (upd H p (.dK []))
def U6:TE:=fun _ H Q=>∀ p,H p=none->Q (.ref p) (upd H p (.dT []))
section
variable {X:Cx} {pos:Pos}
theorem L7:PE X (.Dict [] [] pos) U7:=fun pins s σ H Q I h=>
 wpAny_Dict_empty ⟨.ref s.heap.objs.size,_,I.laid (a:=s.heap.objs.size) (o:=.dK []) (t':=s.toks) (fun _ _ q=>YW _ q) (Zb _) (Ja s.heap I.big),rfl,h _ (I.hok.fresh (Zb _))⟩
theorem Iq:PE X (.Dict [] [] pos) U6:=fun pins s σ H Q I h=>
 wpAny_Dict_empty ⟨.ref s.heap.objs.size,_,I.laid (a:=s.heap.objs.size) (o:=.dT []) (t':=s.toks) (fun _ _ q=>YW _ q) (Zb _) (LY s.heap I.big),rfl,h _ (I.hok.fresh (Zb _))⟩
end
def IE (kvs more:List (A4 × V)):List (A4 × V):=more.foldl (fun acc kv=>Bp acc kv.1 kv.2) kvs
structure M2 (X:Cx) (o:Expr) (m:Str) (apos:Pos) (e f:Expr) (EI:Pos):Prop where
 base:attributeBase o m X.env (eval o X.env)=eval o X.env
 few:((backTo EI (starEach [e,f] X.env)).all (fun x=>!x.1) && (backToKw EI (keywordEach [] X.env)).all (fun x=>x.1.isSome)
  && decide (([e,f]:List Expr).length + ([]:List Keyword).length + (if ([]:List Keyword).isEmpty then 0 else 1) < 30))=true
 line:(apos.endLine == EI.line)=true
 trees:backTo EI (starEach [e,f] X.env)=[(false,eval e X.env),(false,eval f X.env)]
def IsD (H:Hp) (a:Addr):Prop:=(∃ kvs,Rd H a (.dK kvs))\/∃ kvs,Rd H a (.dT kvs)
theorem Va {X:Cx} {pins:List (Addr × Obj)} {σ:St} {H:Hp} {s:Shared} {a:Addr} (I:An X pins σ H s) (d:IsD H a) :
  s.TypeIs (.ref a) "dict"/\(∀ b,Value.ref a=.ref b->∃ ob,s.heap.get? b=some ob/\ob.dict=none)/\(a == sysModules)=false:=by
 rcases d with ⟨kvs,e⟩ | ⟨kvs,e⟩
 ·obtain ⟨_,hd,vs,_,dd⟩:=IZ I.hok e;refine ⟨dd.typeIs,fun b q=>?_,hd⟩;cases q
  obtain ⟨ob,_,_,h1,h2,_⟩:=dd;exact ⟨ob,h1,h2.2.1⟩
 ·obtain ⟨_,hd,xs,_,dd⟩:=IX I.hok e;refine ⟨dd.typeIs,fun b q=>?_,hd⟩;cases q
  obtain ⟨ob,_,_,h1,h2,_⟩:=dd;exact ⟨ob,h1,h2.2.1⟩
section
variable {X:Cx} {pins:List (Addr × Obj)} {σ:St} {H:Hp} {s:Shared} {a:Addr} {y d:V} {u r:Value} {o:Option V} {A:Around} {E:Value->Shared->Prop}
theorem Vo {Q:Value->Shared->Prop} (hu:A.units + 1 < cLine) (I:An X pins σ H s) (g:BF H a y o) (ry:A3 y u) (rd:A3 d r) (h:∀ w' s',An X pins σ H s'->A3 (o.getD d) w'->Q w' s') :
  wpAny (model X.prog X.w) A (call (.builtin "dict.get") [.ref a,u,r]) Q E s:=by
 rcases g with ⟨kvs,k,e,ey,l⟩ | ⟨kvs,k,b,e,ey,eb,l⟩
 ·subst ey;obtain ⟨z,hd,vs,rel,dd⟩:=IZ I.hok e;refine call_meetsIn PySem.F.slot_dict_get dd.typeIs PySem.F.entry_dict_get (PySem.F.args_dict_get_3 _ _ _) (meets_dict_get_default (A2 X.prog X.w) a (Hs ry) hd r) ⟨_,dd.mapOf,h _ _ (I.tok _) ?_⟩;rw [l];exact (rel.val k).getD rd
 ·subst ey;cases (show u=Value.ref b from ry)
  obtain ⟨z,hd,xs,rel,dd⟩:=IX I.hok e;refine call_meetsIn PySem.F.slot_dict_get dd.typeIs PySem.F.entry_dict_get (PySem.F.args_dict_get_3 _ _ _) (meetsH_dict_get_default (tupleKind (A2 X.prog X.w)) a b hd r) ⟨tupleKind_room_in1 hu,k,xs,EE I.hok eb,dd,h _ _ (I.tok _) ?_⟩;rw [l];exact (rel.val k).getD rd
end
def U8 (td ty tx:TE):TE:=fun σ H Q=>td σ H fun x H1=>∃ a,x=.ref a/\IsD H1 a/\ty σ H1 fun y H2=>tx σ H2 fun z H3=>∃ o,BF H3 a y o/\Q (o.getD z) H3
section
variable {X:Cx} {o e f:Expr} {apos EI:Pos} {td ty tx:TE}
theorem Rb (hu:X.A.units + 1 < cLine) (ho:PE X o td) (he:PE X e ty) (hf:PE X f tx) (m:M2 X o "get" apos e f EI):PE X (.Call (.Attribute o "get" apos) [e,f] [] EI) (U8 td ty tx):=by
 intro pins s σ H Q I h;refine wpAny_Call_method m.base m.few m.line PySem.F.plainAttrs_dict PySem.F.slot_dict_get PySem.F.type_dict_get (B6 (ho (pins:=pins) s σ H _ I h) fun u s1 ⟨x,H1,I1,rx,a,ex,d,q1⟩=>?_);subst ex;obtain rfl:u=Value.ref a:=rx;obtain ⟨t1,t2,_⟩:=Va I1 d;exists t1,t2;rw [m.trees];refine Calls.callWith_builtin rfl (Calls.evalArgs_plain (Calls.spliced_cons (B6 (he (pins:=pins) s1 σ H1 _ I1 q1) fun iv s2 ⟨y,H2,I2,ry,q2⟩=>
  Calls.spliced_cons (B6 (hf (pins:=pins) s2 σ H2 _ I2 q2) fun fv s3 ⟨z,H3,I3,rz,ov,g,q3⟩=>Calls.spliced_nil ?_))))
 exact Vo hu I3 g ry rz fun w' s4 I4 Lx=>⟨_,H3,I4,Lx,q3⟩
end
section
variable {X:Cx} {pins:List (Addr × Obj)} {σ:St} {H:Hp} {s:Shared} {a:Addr} {kvs:List (A4 × V)} {A:Around} {E:Value->Shared->Prop}
end
section
variable {X:Cx} {pins:List (Addr × Obj)} {σ:St} {H:Hp} {s:Shared} {a:Addr} {y:V} {u:Value} {A:Around} {E:Value->Shared->Prop}
end
end L2
namespace Att
open PySem PySem.W PySem.Calls PyProof.Rows
theorem HG {P:Params} {h:Heap}:∀ (ns:List Int) (vs:List Value),WellAll P h vs (ns.map WData.int)->IntsAre vs ns:=by
 intro ns;induction ns with
 | nil=>
  intro vs w;rw [eF] at w;cases w
  exact .nil
 | cons n ns ih=>
  intro vs w;rw [Zr] at w;cases w with
  | cons a b=>
   cases a
   exact .cons _ _ (ih _ b)
theorem OO {l:OpenLaw} {n:Nat} (hn:l.most=some n) {P:Params} {h:Heap} {args:List WData} {vals:List Value}
  (hpre:l.row.toRowW.claim.pre args=true) (hwl:WellAll P h vals args) :
  ∃ a vs ns,vals=[Value.ref a]/\args=[WData.list (ns.map WData.int)]/\h.get? a=some { cls:=.type "list",data:=.seq vs.toArray }/\IntsAre vs ns/\ns.length<=n:=by
 have hsh:WShape.hasAll [] args [.list .int]=true:=(pre_splitW hpre).1;have hc:l.pre.holds [] { args:=args } = true:=(pre_splitW hpre).2;obtain ⟨d,r,rfl,h1,h2⟩:=hasAllW_cons hsh;obtain rfl:=hasAllW_nil h2;obtain ⟨xs,rfl,h3⟩:=hasW_list h1;obtain ⟨ns,rfl⟩:=items_int h3;have hlen:ns.length<=n:=by
  unfold OpenLaw.pre at hc;have h4:(WTm.not (.lt (.lit (.int (n:Int))) (.len (.arg 0)))).holds [] { args:=[.list (ns.map .int)] } = true:=by
   have h4:=(holds_andW hc).1;rw [hn] at h4;exact h4
  have h5:=condW_of h4 (w_not (w_lt w_lit (w_len_list (w_arg rfl))));rw [YV] at h5;refine Nat.le_of_not_lt fun q=>?_
  have q':(n:Int) < ((ns.length:Nat):Int):=by lia
  first
   | (rw [decide_eq_true q'] at h5; exact absurd h5 (by decide))
   | (simp at h5; lia)
 cases hwl with
 | cons w1 w2=>
  cases w2
  cases w1 with
  | list ho hall=>exact ⟨_,_,ns,rfl,rfl,ho,HG ns _ hall,hlen⟩
theorem OX (l:OpenLaw) (args:List WData):l.row.toRowW.claim.post args (.bool true) args=true:=
 postW_of (r:=l.row.toRowW) (X:=(true == true))
  (show WShape.has [] (.bool true) .bool=true by first | rfl | decide | simp [WShape.has,WShape.arms,WShape.armsAll])
  (show (WTm.eq .res (.lit (.bool true))).value [] { args:=args,res:=some (.bool true),after:=args } = some (.bool (true == true)) from w_eq_bool (w_res rfl) w_lit) rfl
theorem attach_call {l:OpenLaw} {n:Nat} {q:Program} {loose:List Str} {XP:(Str->Option Value)->Heap->Prop} {YP:World->Heap->Prop} {d:DefRec}
  (hn:l.most=some n) (hdf:d.params.defaults=[])
  (call:∀ (w:World) (s₀ AJ:Shared) (mg mb:Str->Option Value) (fa:Addr) (o:Obj) (pm cd doc:Value) (a:Addr) (vs:List Value) (ns:List Int),
   Ground q loose [] XP w s₀ mg mb AJ.heap->YP w AJ.heap ->
   AJ.heap.get? fa=some o->o.data=.func (docDef d.name d.params d.body d.scope pm cd doc)->AJ.heap.CodeRec cd d.name->mg d.name=some (.ref fa) ->
   AJ.heap.get? a=some { cls:=.type "list",data:=.seq vs.toArray }->IntsAre vs ns->ns.length<=n->AJ.gens=#[] ->
   codeAny (model l.prog w) callerA (.call (.ref fa) ⟨[.ref a],[]⟩) (fun r s'=>r=.ok (.ret (.bool true))/\OldK AJ.heap s'.heap/\s'.os=AJ.os/\AllBare s'.gens) AJ) :
  WalkO q loose XP YP l.row.toRowW d [] (fun f vs=>PySem.call f vs):=by
 intro w s₀ AJ mg mb G Y fa o pm cd doc dV kV ho hd hcd hD hmg hg args vals as hpre hlay hrd hwl hlo;obtain rfl:dV=.none:=Dflts.none hD hdf;obtain rfl:kV=.none:=Dflts.noKw hD;obtain ⟨a,vs,ns,rfl,rfl,hobj,hints,hlen⟩:=OO hn hpre hwl;refine enter_call (codeAny_mono (call w s₀ AJ mg mb fa o pm cd doc a vs ns G Y ho (fd_plain hd) hcd hmg hobj hints hlen hg) fun r s' hq=>?_);obtain ⟨rfl,h2,h3,h4⟩:=hq;exact ⟨.inl ⟨.bool true,.bool true,[],rfl,fun _=>rfl,.bool true,OX l _,fun _=>⟨List.Pairwise.nil,fun _ hm=>(nomatch hm)⟩⟩,h2,h3,h4⟩
section
variable {prog:Program} {w:World} {A:Around} {E:Value->Shared->Prop} {s:Shared} {K:Frag}
end
end Att
namespace L2
open PySem PySem.Spec PyProof.Rows
theorem JC:∀ {vs:List Value} {ns:List Int},IntsAre vs ns->A5 (ns.map V.int) vs
 | _,_,.nil=>.nil
 | _,_,.cons n t h=>.cons ⟨t,rfl⟩ (JC h)
def T7 (H:Hp):Prop:=∀ b,H b=none\/∃ o xs,H b=some (.frz o (.lst xs))
theorem Rt {P:Program} {w:World} {K:YX} {mg mb:Str->Option Value} {CX:Sa} {k:Nat} {fa a:Addr} {fd:FuncData} {x:Str} {sp:Sp} {AJ:Shared} {vs:List Value} {ns:List Int}
  (KX:K.In AJ.heap) (hns:AJ.heap.Ns mainGlobals mg) (hb:AJ.heap.Ns builtinsNs mb) (hbb:∀ x:Str,x ≠ "__name__"->mb x=bootBuiltins x) (hlim:AJ.heap.NoLimit) (hg:AJ.gens=#[])
  (ha:AJ.heap.get? a=some { cls:=.type "list",data:=.seq vs.toArray }) (hi:IntsAre vs ns) (hl:ns.length<=sizeLine) (hr:Ei k callerA)
  (F:∀ base:Heap,K.In base->base.Ns mainGlobals mg->AL P w K mg base CX k fa fd [x] sp) (hbind:∀ (s:Shared) (u:Value),BindsTo s fd ⟨[u],[]⟩ [(x,u)])
  (hsp:∀ H:Hp,T7 H->A9 K H a (ns.map V.int)->sp [.ref a] H (fun v _=>v=.bl true) fun _ _ _=>False)
  (hCX:∀ H e s',CX [] H AJ (fun _ _ _=>False) e s'->False) :
  codeAny (model P w) callerA (.call (.ref fa) ⟨[.ref a],[]⟩) (fun r s'=>r=.ok (.ret (.bool true))/\OldK AJ.heap s'.heap/\s'.os=AJ.os/\AllBare s'.gens) AJ:=by
 have rv:=JC hi;have lenV:=hi.length;have core:∀ H:Hp,T7 H->A9 K H a (ns.map V.int)->FI P w H AJ.heap->(∀ b,H b ≠ none->b=a)->(H a ≠ none->K.lookup a=none) ->
   codeAny (model P w) callerA (.call (.ref fa) ⟨[.ref a],[]⟩) (fun r s'=>r=.ok (.ret (.bool true))/\OldK AJ.heap s'.heap/\s'.os=AJ.os/\AllBare s'.gens) AJ:=by
  intro H hO hS hok hA hK;have base_of:∀ {b:Addr} {o:Obj},AJ.heap.get? b=some o->H b=none->(KR AJ.heap H).get? b=some o:=fun e n=>R7 e n
  have noA:∀ {b:Addr} {o:Obj} {es:Array DictEntry} {ep:Nat},AJ.heap.get? b=some o->o.data=.dict es ep->H b=none:=fun {b o es ep} e d=>by
   cases q:H b with
   | none=>rfl
   | some u=>
    have e':b=a:=hA b (by rw [q]; simp);subst e';rw [ha] at e; cases e;have d':Data.seq vs.toArray _=Data.dict es ep:=d;cases d'
  have nsK:∀ {b:Addr} {m:Str->Option Value},AJ.heap.Ns b m->(KR AJ.heap H).Ns b m:=fun {b m} ⟨o,es,ep,e,d,r⟩=>⟨o,es,ep,base_of e (noA e d),d,r⟩
  have hKb:K.In (KR AJ.heap H):=fun b o e=>base_of (KX b o e) (by
   cases q:H b with
   | none=>rfl
   | some u=>
    have e':b=a:=hA b (by rw [q]; simp);subst e';rw [hK (by rw [q]; simp)] at e; cases e)
  have hM:Mod K mg (KR AJ.heap H):=⟨hKb,nsK hns,⟨mb,nsK hb,hbb⟩,let ⟨mc,h1,h2⟩:=hlim; ⟨mc,nsK h1,h2⟩⟩
  have e0:TC P w K mg (KR AJ.heap H) callerA [] AJ H:=⟨rfl,hM,fun b o e=>SM e,Nat.le_of_eq (PF _ _),trivial,fun b hb=>absurd (show b ∈ ([]:List Addr) from hb) (by simp),hok,.of_eq hg⟩
  refine codeAny_mono ((F _ hKb (nsK hns)).run callerA [] AJ H ⟨[.ref a],[]⟩ [.ref a] [.ref a] _ _ hr e0 (hbind AJ (.ref a)) (.cons rfl .nil) (hsp H hO hS)) fun r s' h=>?_
  cases r with
  | error e=>exact (hCX H e s' h).elim
  | ok fl=>
   cases fl with
   | next=>exact False.elim h
   | brk=>exact False.elim h
   | cont=>exact False.elim h
   | ret u=>
    obtain ⟨v,H',os,bare,un,Yo,r',q⟩:=h;have q':v=.bl true:=q;subst q';obtain rfl:u=Value.bool true:=r';refine ⟨rfl,OldK.of_keep fun b o e=>?_,os,bare⟩;cases q:H b with
    | none=>exact un.keep b o e q (by intro z; exact absurd (show b ∈ ([]:List Addr) from z) (by simp)) (by simp)
    | some u=>
     rcases hO b with z | ⟨ob,xs,z⟩
     ·rw [q] at z; cases z
     ·have z2:=un.frzs b ob _ z;obtain ⟨e1,_⟩:=hok b _ z;obtain ⟨e2,_⟩:=Yo b _ z2;rw [e] at e1; cases e1;exact e2
 cases hk:K.lookup a with
 | some o=>
  have e:=KX a o hk;rw [ha] at e;cases e
  refine core (fun _=>none) (fun _=>.inl rfl) (.inr ⟨_,vs.toArray,_,hk,rfl,rfl,rfl,by rw [Zt,lenV]; exact hl,by simpa using rv⟩) (fun b u z=>by have z':(none:Option HO)=some u:=z; cases z') (fun b z=>absurd rfl z) fun z=>absurd rfl z
 | none=>
  refine core (fun b=>if b=a then some (.frz { cls:=.type "list",data:=.seq vs.toArray } (.lst (ns.map V.int))) else none) (fun b=>?_) (.inl (.inr ⟨{ cls:=.type "list",data:=.seq vs.toArray },if_pos rfl⟩)) (fun b u z=>?_) (fun b z=>?_) fun _=>hk
  ·by_cases hb:b=a
   ·exact .inr ⟨_,_,if_pos hb⟩
   ·exact .inl (if_neg hb)
  ·by_cases hb:b=a
   ·have z':=(if_pos hb).symm.trans z;cases z'
    subst hb;exact ⟨ha,by rw [YV]; exact hl,vs,_,rv,ha⟩
   ·have z':=(if_neg hb).symm.trans z;cases z'
  ·by_cases hb:b=a
   ·exact hb
   ·exact absurd (if_neg hb) z
theorem walk_of {l:cc} {n k:Nat} {q:Program} {loose:List Str} {XP:(Str->Option Value)->Heap->Prop} {YP:World->Heap->Prop} {d:DefRec} {K:Params->YX} {CX:World->Sa} {sp:World->Sp} {x:Str}
  (hn:l.most=some n) (Yq:n<=sizeLine) (hdf:d.params.defaults=[]) (hr:Ei k callerA)
  (hY:∀ (w:World) (h:Heap),YP w h->(K w.params).In h)
  (F:∀ (w:World) (mg:Str->Option Value) (fa:Addr) (h:Heap),(K w.params).In h->h.Ns mainGlobals mg->mg d.name=some (.ref fa) ->
   ∃ fd:FuncData,(∀ (s:Shared) (u:Value),BindsTo s fd ⟨[u],[]⟩ [(x,u)]) /\
    ∀ base:Heap,(K w.params).In base->base.Ns mainGlobals mg->AL l.prog w (K w.params) mg base (CX w) k fa fd [x] (sp w))
  (hsp:∀ (w:World) (H:Hp) (a:Addr) (ns:List Int),ns.length<=n->T7 H->A9 (K w.params) H a (ns.map V.int)->sp w [.ref a] H (fun v _=>v=.bl true) fun _ _ _=>False)
  (hCX:∀ (w:World) (H:Hp) (s:Shared) (e:Value) (s':Shared),CX w [] H s (fun _ _ _=>False) e s'->False) :
  dO q loose XP YP l.row.toRowW d [] (fun f vs=>PySem.call f vs):=by
 refine Att.attach_call hn hdf fun w s₀ AJ mg mb fa o pm cd doc a vs ns G Y ho hd hcd hmg hobj hints hlen hg=>?_
 have KX:=hY w _ Y;obtain ⟨fd,hb,hF⟩:=F w mg fa _ KX G.T.g hmg;exact Rt KX G.T.g G.T.b G.T.builtins G.T.nolimit hg hobj hints (Z2 hlen Yq) hr hF hb (fun H hO hS=>hsp w H a ns hlen hO hS) fun H e s'=>hCX w H AJ e s'
def Ee (s:Stmt):Arguments:=match s with
 | .FunctionDef _ a _ _ _ _ _ _ _ _=>a
 | _=>{ posonlyargs:=[],args:=[],vararg:=none,kwonlyargs:=[],kw_defaults:=[],kwarg:=none,defaults:=[] }
def Cr (s:Stmt):List Stmt:=match s with
 | .FunctionDef _ _ b _ _ _ _ _ _ _=>b
 | _=>[]
def Ao (s:Stmt):Scope:=match s with
 | .FunctionDef _ _ _ _ _ _ sc _ _ _=>sc
 | _=>{ kind:=.function,names:=[],isGenerator:=false,isCoroutine:=false }
abbrev Ce:Sa:=fun _ _ _ _ _ _=>False
abbrev E0:XK:=fun _ _ _=>False
theorem Ax {X:Cx}:Na Ce X E0:=fun _ _ _ _ _ _ _ h=>h.elim
structure EU (K:YX) (x qual:Str) (st:Stmt) (f:Addr) (fd:FuncData):Prop where
 ex:∃ (oc:Value) (od:Option Addr) (kV doc pm:Value) (an:Option Addr) (cdv ct:Value) (osl:Array (Option Value)),
  fd=ay x qual (Ee st) (Cr st) (Ao st) .none kV doc pm an cdv ct/\K.lookup f=some ⟨oc,od,.func fd,osl⟩/\bH K cdv qual=true
 kp:bG K (.ref f)=true
section
variable {P:Program} {w:World} {K:YX} {mg:Str->Option Value} {base:Heap}
theorem EU.ok {x qual:Str} {st:Stmt} {f:Addr} {fd:FuncData} {N ps:List Str} {k:Nat} {sp:Sp} (F:EU K x qual st f fd) (S:AD N ps (Ao st)) (len:∀ vs H Q E,sp vs H Q E->vs.length=ps.length)
  (hbody:∀ (cdv:Value) (A:Around) (outer:List Env) (s:Shared) (H:Hp) (vs:List V) (Q:VK) (E:XK),Ei k (A.deeper (envOfC qual (Ao st) s.heap.objs.size f cdv))->sp vs H Q E ->
   ∃ t,Mj (J3 Ce P w K mg base N qual (Ao st) f cdv A outer s H E).nox (Cr st) t/\t { nx:=fun _ H'=>Q .non H',rt:=Q } (start N vs) H):AL P w K mg base Ce (k + 1) f fd ps sp:=by
 obtain ⟨oc,od,kV,doc,pm,an,cdv,ct,osl,rfl,lk,hcd⟩:=F.ex;refine fn_of lk hcd S len fun A outer s H vs Q E hr hsp=>?_
 obtain ⟨t,h,q⟩:=hbody cdv A outer s H vs Q E hr hsp;exact ⟨t,h.nox,q⟩
theorem EU.binds {x qual:Str} {st:Stmt} {f:Addr} {fd:FuncData} {ps:List Str} (F:EU K x qual st f fd)
  (h:∀ (kV doc pm:Value) (an:Option Addr) (cdv ct:Value) (us:List Value),us.length=ps.length->bindArgs (ay x qual (Ee st) (Cr st) (Ao st) .none kV doc pm an cdv ct) ⟨us,[]⟩=pure (ps.zip us)):HB K fd ps []:=by
 obtain ⟨oc,od,kV,doc,pm,an,cdv,ct,osl,rfl,lk,hcd⟩:=F.ex;exact .all (h kV doc pm an cdv ct)
theorem Vi {x qual:Str} {st:Stmt} {f:Addr} {oc:Value} {od an:Option Addr} {osl:Array (Option Value)} {kV doc pm cdv ct:Value} (l:K.lookup f=some ⟨oc,od,.func (ay x qual (Ee st) (Cr st) (Ao st) .none kV doc pm an cdv ct),osl⟩)
  (c:bH K cdv qual=true) (k:bG K (.ref f)=true):EU K x qual st f (ay x qual (Ee st) (Cr st) (Ao st) .none kV doc pm an cdv ct):=⟨⟨oc,od,kV,doc,pm,an,cdv,ct,osl,rfl,l,c⟩,k⟩
end
theorem En {A:Around} {k:Nat} (hr:Ei k A):A.units + 1 < cLine:=Nat.lt_of_le_of_lt (Nat.add_le_add_left (by decide:1<=64) _) hr.units
section
variable {X:Cx}
theorem pv (i:Nat) {x:Str} {pos:Pos} (hN:X.N[i]? = some x:=by rfl) (hv:Vis X.env.scope x:=by first | exact Or.inl rfl | exact Or.inr (Or.inl rfl) | exact Or.inr (Or.inr rfl)) (hd:(x == ("__debug__":Str))=false:=by decide)
  (hcd:(x == ("__classdict__":Str))=false:=by decide):PE X (.Name x pos) (Sv i):=UJ hN hv hd hcd
end
theorem F8 {A B:Prop} (h:B):if false=true then A else B:=by
 rw [if_neg Zn];exact h
theorem IK {A B:Prop} (h:A):if true=true then A else B:=by
 rw [if_pos rfl];exact h
theorem Ck {c A B:Prop} [Decidable c] (h1:c->A) (h2:¬ c->B):if c then A else B:=by
 by_cases h:c
 ·rw [if_pos h];exact h1 h
 ·rw [if_neg h];exact h2 h
def Au (H H':Hp):Prop:=∀ b o,H b=some o->H' b=some o
theorem Au.refl (H:Hp):Au H H:=fun _ _ h=>h
theorem Au.trans {H H1 H2:Hp} (a:Au H H1) (b:Au H1 H2):Au H H2:=fun c o h=>b c o (a c o h)
theorem Au.free {H H':Hp} (e:Au H H') {l:Addr} (h:H' l=aX):H l=aX:=by
 cases q:H l with
 | none=>rfl
 | some o=>
  rw [e l o q] at h;cases h
section
variable {κ:Type} [DecidableEq κ]
theorem Qr {kvs:List (κ × V)} {k:κ} (h:Bd kvs k=none):¬ k ∈ kvs.map (·.1):=by
 intro m;obtain ⟨p,hp,e⟩:=Zd.mp m;have q:(kvs.any fun kv=>decide (kv.1=k))=true:=aG.mpr ⟨p,hp,decide_eq_true e⟩;rw [Cn,h] at q;exact absurd q (by simp)
theorem So {kvs:List (κ × V)} {k:κ} {v:V} (h:Bd kvs k=some v):k ∈ kvs.map (·.1):=by
 have q:(kvs.any fun kv=>decide (kv.1=k))=true:=by
  rw [Cn,h];all_goals rfl
 obtain ⟨p,hp,e⟩:=aG.mp q;exact Zd.mpr ⟨p,hp,of_decide_eq_true e⟩
end
abbrev Am (X:Cx) (scope:Scope) (cl:List (Str × Addr)) (N:List Str) (s2:Shared) (H:Hp) (C:Addr) (fp:List Addr):Cx where
 prog:=X.prog
 w:=X.w
 K:=X.K
 mg:=X.mg
 base:=X.base
 A:=X.A
 N:=N
 s₀:=s2
 H₀:=H
 env:=compEnvC scope cl C X.env
 outer:=X.stack
 stack:=X.stack
 ex:=fp
 fn:=fun _=>false
 calm:=X.calm
 pn:=[]
 xe:=fun _ _=>False
structure BN (X:Cx) (scope:Scope) (cl:List (Str × Addr)):Prop where
 clos:closureFor scope X.env=pure cl
 cell:∀ y ∈ scope.names,y.2 ≠ .cell
 kind:scope.kind=.function
 names:∀ y ∈ scope.names,y.2=.local->scope.names.lookup y.1=some .local
 sub:∀ x c,cl.lookup x=some c->X.env.cells.lookup x=some c
 has:∀ x,((relabel scope X.env).names.lookup x=some .cell\/(relabel scope X.env).names.lookup x=some .free)->∃ c,cl.lookup x=some c
def Cp (X:Cx) (cl:List (Str × Addr)) (scope:Scope) (N:List Str) (σ As:St):Prop:=
 As.length=N.length/\∀ (i:Nat) (x:Str) (v:V),N[i]? = some x->As[i]? = some (some v) ->
  (∃ j:Nat,X.N[j]? = some x/\σ[j]? = some (some v))/\(X.env.kindOf x=some .cell\/X.env.kindOf x=some .free) /\
   ((relabel scope X.env).names.lookup x=some .cell\/(relabel scope X.env).names.lookup x=some .free)
theorem Cp.none (X:Cx) (cl:List (Str × Addr)) (scope:Scope) (N:List Str) (σ:St):Cp X cl scope N σ (N.map fun _=>aX):=by
 refine ⟨by simp,fun i x v h1 h2=>?_⟩;rw [Ze,h1] at h2;cases h2
section
variable {X:Cx} {pins:List (Addr × Obj)} {σ As:St} {H H':Hp} {s2 s':Shared} {scope:Scope} {cl:List (Str × Addr)} {N:List Str} {fp:List Addr} {C D:Addr} {h₁ h':Heap} {t':Nat}
theorem Je (I:An X pins σ H s2) (hf:∀ b ∈ fp,Ek X pins H b) (hfo:∀ b ∈ fp,∃ o,s2.heap.get? b=some o) (co:BN X scope cl) (hσ:Cp X cl scope N σ As)
  (k:∀ b o,s2.heap.get? b=some o->h₁.get? b=some o) (hD:s2.heap.objs.size<=D) (hC:s2.heap.objs.size<=C) (hDC:C ≠ D)
  (new:h₁.get? D=some { cls:=.type "list",data:=.seq ([]:List Value).toArray 0 }\/∃ n,h₁.get? D=some { cls:=.type "list",data:=.seq ([]:List Value).toArray n }) {m:Str->Option Value} (hn:h₁.Ns C m) :
  An (Am X scope cl N s2 H C fp) [] As (upd H D (.lst [])) { s2 with heap:=h₁,toks:=t' }:=by
 have fD:H D=none:=I.hok.fresh hD;have fC:H C=none:=I.hok.fresh hC;have newO:A6 X.prog X.w (upd H D (.lst [])) h₁ D (.lst []):=by
  exists Z7 _,[]
  rcases new with e | ⟨n,e⟩
  ·exact ⟨0,.nil,e⟩
  ·exact ⟨n,.nil,e⟩
 have lts:∀ b ∈ fp,b < s2.heap.objs.size:=fun b hb=>let ⟨_,e⟩:=hfo b hb; Zc e
 have cells_lt:∀ x c,cl.lookup x=some c->c < s2.heap.objs.size:=fun x c e=>by
  obtain ⟨v,q⟩:=I.cell x c (co.sub x c e);exact q.lt
 have ok:Cx.Ok (Am X scope cl N s2 H C fp):=by
  refine ⟨I.ok.mod,?_,I.ok.glob,I.ok.blt,hC,?_,?_,?_,I.ok.hd,I.ok.frames,.inl rfl,?_,I.bs,Z2 I.ok.bsz I.sz,?_,?_,I.stack,I.stkFree⟩
  ·exact co.kind
  ·exact fun x y c e1 e2=>I.ok.inj x y c (co.sub x c e1) (co.sub y c e2)
  ·exact fun x h=>co.has x h
  ·exact fun x c h _=>by cases h
  ·intro b hb;refine ⟨fun e=>?_,fun x c e=>(hf b hb).2.2.2.2.1 x c (co.sub x c e)⟩;have z:=lts b hb;exact absurd (Zk z hC) (by rw [show b=C from e]; exact ZK _)
  ·intro b o e hb;have Fz:b ∈ fp:=hb;rcases (hf b Fz).2.2.2.1 with z | z
   ·exact I.ok.noex b o e z
   ·exact absurd (Zk (Zc e) (Z2 I.ok.bsz z)) (ZK _)
  ·intro b hb hz;have Fz:b ∈ fp:=hb;obtain ⟨_,f1,f2,_⟩:=hf b Fz;rcases Zg.mp (I.stkSub b hz) with e | e
   ·exact f1 e
   ·exact f2 e
 refine ⟨ok,rfl,I.bare,Un.laid k hD fD,?_,?_,?_,?_,?_,I.hok.laid k hD newO,hσ.1⟩
 ·refine ⟨m,hn,fun i x v e1 e2 _=>?_⟩;obtain ⟨⟨j,j1,j2⟩,kk,kr⟩:=hσ.2 i x v e1 e2;obtain ⟨mo,_,hl⟩:=I.loc;obtain ⟨u,r,l⟩:=hl j x v j1 j2 (by
   rcases kk with z | z
   ·exact .inr (.inl z)
   ·exact .inr (.inr z))
  refine ⟨u,r,.inr ⟨kr,?_⟩⟩;obtain ⟨c,hc⟩:=co.has x kr;rcases l with ⟨z,_⟩ | ⟨_,c',Ht,hcell⟩
  ·rcases kk with q | q
   ·rw [z] at q; cases q
   ·rw [z] at q; cases q
  ·have e3:=co.sub x c hc;rw [Ht] at e3;have e4:c'=c:=Zo.inj e3;subst e4;obtain ⟨o,ho,hd⟩:=hcell;exact ⟨c',hc,o,k _ o ho,hd⟩
 ·intro x c e;obtain ⟨v,o,ho,hd⟩:=I.cell x c (co.sub x c e);exact ⟨v,o,k _ o ho,hd⟩
 ·show upd H D (.lst []) C=none
  rw [Af hDC];exact fC
 ·intro x c e;rw [Af (Zh (Zk (cells_lt x c e) hD))];exact I.freeC x c (co.sub x c e)
 ·intro p hp;cases hp
theorem EL {pl:List (Addr × Obj)} (I:An X pins σ H s2) (hf:∀ b ∈ fp,Ek X pins H b) (hC:s2.heap.objs.size<=C) (I2:An (Am X scope cl N s2 H C fp) pl As H' s')
  (hs:Heap.SameBut C s'.heap h'):An X pins σ H' { s' with heap:=h' }:=by
 have nC:∀ b o,s2.heap.get? b=some o->b ≠ C:=fun b o e=>Zh (Zk (Zc e) hC)
 have u:=I2.base;refine I.call' (s':={ s' with heap:=h' }) (ch:=fp) I2.os ⟨?_,?_,u.free,?_,u.tups,u.frzs,u.tbls⟩ ?_ I2.bare fun b hb=>?_
 ·exact fun b o e n h1 h2=>(hs.2 b (nC b o e)).trans (u.keep b o e n h1 h2)
 ·intro b o e n h1 h2;obtain ⟨sl,q⟩:=u.slot b o e n h1 h2;exact ⟨sl,(hs.2 b (nC b o e)).trans q⟩
 ·intro b o e h2;obtain ⟨o',q⟩:=u.there b o e h2;exact ⟨o',(hs.2 b (nC b o e)).trans q⟩
 ·intro b ob e;have hfree:H' C=none:=I2.free;refine (I2.hok b ob e).stay (fun c w' hc q=>(hs.2 c ?_).trans q) (fun _ q=>q) fun _ _ q=>q
  rintro rfl;rcases hc with rfl | hc
  ·rw [hfree] at e; cases e
  ·rw [hfree] at hc; cases hc
 ·obtain ⟨_,f1,_,f3,f4,f5⟩:=hf b hb;exact ⟨f3,f1,f4,f5⟩
end
section
variable {prog:Program} {w:World} {A:Around} {R:Result->Shared->Prop} {s:Shared}
theorem BW {elt target iter:Expr} {ifs:List Expr} {scope:Scope} {pos:Pos} {it acc:Value} {env:Env} (I:Nat->Shared->Prop)
  (turn:∀ n s,I n s->wpAny (model prog w) A (pyNext it) (fun r AJ=>match r with
   | none=>R (.ok .next) AJ
   | some v=>wpAny (model prog w) A (letOwnedTupleGo target it v) (fun _ Ll=>wpAny (model prog w) A (assign target env v) (fun _ Er=>
     wpAny (model prog w) A (forIn ifs true fun c r=>if r=true then do let ok <- isTrue c env (eval c env); pure (ForInStep.yield ok) else pure (ForInStep.yield r)) (fun ok BZ=>
      if ok=true then wpAny (model prog w) A (eval elt env) (fun x Q0=>
       wpAny (model prog w) A (call (.builtin "list.append") [acc,x]) (fun _ Qz=>∃ m,m < n/\I m Qz) (notedBy (model prog w) A env fun e s'=>R (.error e) s') Q0) (notedBy (model prog w) A env fun e s'=>R (.error e) s') BZ
      else ∃ m,m < n/\I m BZ) (notedBy (model prog w) A env fun e s'=>R (.error e) s') Er) (notedBy (model prog w) A env fun e s'=>R (.error e) s') Ll) (notedBy (model prog w) A env fun e s'=>R (.error e) s') AJ) (notedBy (model prog w) A env fun e s'=>R (.error e) s') s)
  (n:Nat) (h:I n s) :
  codeAny (model prog w) A (.compLoop (.ListComp elt [⟨target,iter,ifs,0⟩] scope pos) 0 it acc env) R s:=by
 refine codeAny_loop rfl I (fun n s hI=>?_) n h;show wpAny _ A ((compTurn (.ListComp elt [⟨target,iter,ifs,0⟩] scope pos) 0 it acc env).onRaise (fun x=>do noteFrame x env; theTreesLotGoes x)) _ _ s
 refine wpAny_noted ?_;rw [compTurn_list];refine wpAny_bind (wpAny_standAt (wpAny_bind (wpAny_mono (turn n s hI) (fun r AJ h₁=>?_) fun _ _ h'=>h')));cases r with
 | none=>exact wpAny_pure h₁
 | some v=>
  refine wpAny_bind (wpAny_mono h₁ (fun _ Ll R0=>?_) fun _ _ h'=>h');refine wpAny_bind (wpAny_mono R0 (fun _ Er MH=>wpAny_bind (wpAny_mono MH (fun ok BZ MG=>?_) fun _ _ h'=>h')) fun _ _ h'=>h');cases ok with
  | false=>exact wpAny_pure ⟨rfl,MG⟩
  | true=>
   exact wpAny_bind (wpAny_bind (wpAny_mono MG (fun x Q0 Vf=>wpAny_bind (wpAny_mono Vf (fun _ Qz Ve=>wpAny_pure (wpAny_pure ⟨rfl,Ve⟩)) fun _ _ h'=>h')) fun _ _ h'=>h'))
end
def Uu (X:Cx) (ifs:List Expr) (t:TT):Prop:=
 ∀ ⦃pins:List (Addr × Obj)⦄ (s:Shared) (σ:St) (H:Hp) (Q:Bool->Hp->Prop),An X pins σ H s->t σ H Q ->
  wpAny (model X.prog X.w) X.A (forIn ifs true fun c r=>if r=true then do let ok <- isTrue c X.env (eval c X.env); pure (ForInStep.yield ok) else pure (ForInStep.yield r)) (TP X pins σ Q) X.xe s
def Kx:TT:=fun _ H Q=>Q true H
theorem AV {X:Cx}:Uu X [] Kx:=fun _ _ _ H _ I h=>wpAny_tests_nil ⟨H,I,h⟩
theorem Ds {X:Cx} {c:Expr} {t:TT} (h:PT X c t):Uu X [c] t:=fun pins s σ H Q I q=>wpAny_tests_one (h (pins:=pins) s σ H Q I q)
def Nn (wi:TI) (g:TG) (tt:TT) (te:TE) (σ0:St->St):TE:=fun σ H Q=>wi σ H fun J H1=>∀ D,H1 D=none->∃ W:Nat->Nat->St->Hp->Prop,(∃ m,W 0 m (σ0 σ) (upd H1 D (.lst []))) /\
 ∀ i m As H',W i m As H'->(J.stop i H'/\Q (.ref D) H')\/(J.go i H'/\∀ x H2,J.yld i H' x H2->g x As H2 fun Ay H3=>tt Ay H3 fun b H4=>
  if b=true then te Ay H4 (fun v H5=>∃ acc,H5 D=some (.lst acc)/\acc.length < sizeLine/\∃ m',m' < m/\W (i + 1) m' Ay (upd H5 D (.lst (acc ++ [v])))) else ∃ m',m' < m/\W (i + 1) m' Ay H4)
theorem Bj {X:Cx} {tg iter elt:Expr} {ifs:List Expr} {scope:Scope} {cl:List (Str × Addr)} {N:List Str} {pos:Pos} {wi:TI} {g:TG} {tt:TT} {te:TE} {σ0:St->St} (hc:X.calm=true) (co:BN X scope cl)
  (hσ:∀ σ,σ.length=X.N.length->Cp X cl scope N σ (σ0 σ)) (hi:PI X tg iter wi)
  (hb:∀ s2 H C fp,PG (Am X scope cl N s2 H C fp) tg g/\Uu (Am X scope cl N s2 H C fp) ifs tt/\PE (Am X scope cl N s2 H C fp) elt te)
  (hs:∀ x,foldedSetIterable iter X.env x=pure x:=by intro _; rfl):PE X (.ListComp elt [⟨tg,iter,ifs,0⟩] scope pos) (Nn wi g tt te σ0):=by
 intro pins s σ H Q I h;rw [eval_ListComp];refine wpAny_comprehension_free (use:=none) rfl hs co.clos co.kind co.names (wpAny_mono (hi (pins:=pins) s σ H _ I h) (fun xv s1 h1=>wpAny_mono h1 (fun itv s2 h2=>?_) fun _ _ e=>e) fun _ _ e=>e);obtain ⟨it,fp,tn,J,H2,rfl,I2,T,Fj,f2,hW⟩:=h2;refine wpAny_newObj_type (wpAny_newFunctionEnv co.cell (by intro y hy; cases hy) (fun h₁ B5 Bl=>?_) co.kind);dsimp only at B5 Bl ⊢;generalize IS:s2.heap.push { cls:=.type "list",dict:=none,data:=.seq ([]:List Value).toArray } = HH at B5 Bl ⊢;have By:HH.objs.size=s2.heap.objs.size + 1:=by rw [<-IS,ZH]
 have old:∀ b o,s2.heap.get? b=some o->h₁.get? b=some o:=fun b o e=>
  Bl.extBut b o (Zh (by rw [By]; exact Z0 (Zc e))) (YW _ (IS ▸ YW _ e))
 have newD:∃ n,h₁.get? s2.heap.objs.size=some { cls:=.type "list",data:=.seq ([]:List Value).toArray n }:=
  ⟨_,Bl.extBut _ _ (Zh (by rw [By]; exact Z6 _)) (YW _ (IS ▸ Zf _ rfl))⟩
 obtain ⟨W,⟨m0,w0⟩,turn⟩:=hW s2.heap.objs.size I2.fresh;have hfo:∀ b ∈ fp,∃ o,s2.heap.get? b=some o:=fun b hb=>let ⟨o,e,_⟩:=T.obj _ _ Fj b hb; ⟨o,e⟩
 have I3:An (Am X scope cl N s2 H2 HH.objs.size fp) [] (σ0 σ) (upd H2 s2.heap.objs.size (.lst [])) { s2 with heap:=h₁,toks:=s2.toks + ([]:List (Str × Value)).length }:=
  Je I2 f2 hfo co (hσ σ I.len) old (Zb _) (by rw [By]; exact ZC _) (ZO (by rw [By]; exact Z6 _)) (.inr newD) B5
 have fC:s2.heap.objs.size<=HH.objs.size:=by rw [By]; exact ZC _
 obtain ⟨hg,ht,he⟩:=hb s2 H2 HH.objs.size fp;have loop:∀ BZ:Shared,BZ = { s2 with heap:=h₁,toks:=s2.toks + ([]:List (Str × Value)).length } ->
   codeAny (model X.prog X.w) X.A (.compLoop (.ListComp elt [⟨tg,iter,ifs,0⟩] scope pos) 0 (.ref it) (.ref s2.heap.objs.size) (compEnvC scope cl HH.objs.size X.env))
    (compPost (model X.prog X.w) X.A X.xe none (EP X pins σ Q) (.ref s2.heap.objs.size) HH.objs.size) BZ:=by
  rintro BZ rfl;have stat:∀ {H':Hp} ,(∀ b ∈ fp,H' b=none)->∀ b ∈ fp,Ek (Am X scope cl N s2 H2 HH.objs.size fp) [] H' b:=fun hn b hb=>by
   refine ⟨hn b hb,?_,?_,.inl hb,?_,fun p hp=>by cases hp⟩
   ·obtain ⟨o,e⟩:=hfo b hb;exact Zh (show b < HH.objs.size by rw [By]; exact Z0 (Zc e))
   ·intro hz;obtain ⟨_,q1,q2,_⟩:=f2 b hb;rcases Zg.mp (I2.stkSub b hz) with e | e
    ·exact q1 e
    ·exact q2 e
   ·exact fun x c e=>(f2 b hb).2.2.2.2.1 x c (co.sub x c e)
  refine BW (fun n s'=>∃ i As H',An (Am X scope cl N s2 H2 HH.objs.size fp) [] As H' s'/\tn i s'.heap/\(∀ b ∈ fp,H' b=none)/\W i n As H') ?_ m0
   ⟨0,σ0 σ,_,I3,T.keep _ _ _ Fj fun b hb o e=>old b o e,fun b hb=>?_,w0⟩
  ·rintro n s4 ⟨i,FK,H4,I4,Lp,LQ,w4⟩;rcases turn i n FK H4 w4 with ⟨stop,qn⟩ | ⟨go,step⟩
   ·refine wpAny_mono (T.done (Am X scope cl N s2 H2 HH.objs.size fp) rfl rfl rfl hc i [] s4 FK H4 (fun _ _=>False) I4 (stat LQ) Lp stop) (fun r s5 ⟨hr,I5⟩=>?_) fun _ _ z=>z.elim
    subst hr;obtain ⟨m5,R3,_⟩:=id I5.loc;exact ⟨m5,R3,fun h' Kc=>⟨.ref _,H4,EL I2 f2 fC I5 Kc,rfl,qn⟩⟩
   ·refine wpAny_mono (T.item (Am X scope cl N s2 H2 HH.objs.size fp) rfl rfl rfl hc i [] s4 FK H4 (fun _ _=>False) I4 (stat LQ) Lp go) (fun r s5 ⟨u,hr,h5⟩=>?_) fun _ _ z=>z.elim
    subst hr;refine wpAny_mono h5 (fun _ s6 ⟨x,H6,I6,r6,y6,HZ,RF⟩=>?_) fun _ _ z=>z.elim
    have RX:=I6.pinned (stat RF) (T.obj _ _ HZ);refine wpAny_mono (hg s6 FK H6 x u _ RX r6 (step x H6 y6)) (fun _ s7 ⟨El,H7,I7,q7⟩=>?_) fun _ _ z=>z.elim
    refine wpAny_mono (ht s7 El H7 _ I7 q7) (fun ok s8 ⟨H8,I8,q8⟩=>?_) fun _ _ z=>z.elim
    have again:∀ {s9:Shared} {FJ:St} {H9:Hp} ,An (Am X scope cl N s2 H2 HH.objs.size fp) ([] ++ Dx fp s6.heap) FJ H9 s9->(∃ m',m' < n/\W (i + 1) m' FJ H9)->∃ m,m < n/\∃ i As H',An (Am X scope cl N s2 H2 HH.objs.size fp) [] As H' s9/\tn i s9.heap/\(∀ b ∈ fp,H' b=none)/\W i m As H':=fun {s9 FJ H9} I9 n9=>by
     obtain ⟨m',hm,w9⟩:=n9;refine ⟨m',hm,i + 1,FJ,H9,I9.unpinned,T.keep _ _ _ HZ fun b hb o e=>(I9.pin (b,o) (Zj _ (Zj _ (AX hb e)))).1,fun b hb=>?_,w9⟩;obtain ⟨o,e,d⟩:=T.obj _ _ HZ b hb;exact (I9.pin (b,o) (Zj _ (Zj _ (AX hb e)))).2.1
    cases ok with
    | false=>
     rw [if_neg Zn] at q8 ⊢;exact again I8 q8
    | true=>
     rw [if_pos rfl] at q8 ⊢;refine wpAny_mono (he s8 El H8 _ I8 q8) (fun y s9 ⟨v,H9,I9,r9,acc,hacc,hsz,q9⟩=>?_) fun _ _ z=>z.elim
     refine wpAny_mono (Cc (X:=Am X scope cl N s2 H2 HH.objs.size fp) s9 El H9 (.ref s2.heap.objs.size) [v] (.ref s2.heap.objs.size) [y] (fun _ Nf=>∃ m',m' < n/\W (i + 1) m' El Nf) I9 rfl (.cons r9 .nil) ⟨_,acc,v,rfl,rfl,hacc,hsz,q9⟩) (fun _ V3 ⟨_,Nf,RY,_,QU⟩=>?_) fun _ _ z=>z.elim
     exact again RY QU
  ·have z:=(f2 b hb).1;obtain ⟨o,e⟩:=hfo b hb;rw [Af (Zh (Zc e))];exact z
 exact codeAny_compStart_list (loop _ rfl) (T.self _ 0 _ _ _ (T.keep _ _ _ Fj fun b hb o e=>old b o e) (loop _ rfl))
def Its (x:Str):It:=⟨fun i _=>i < x.cps.size,fun i H v H'=>H'=H/\∃ c,x.cps[i]? = some c/\v=.str ⟨#[c]⟩,fun i _=>x.cps.size<=i⟩
theorem O8 {P:Program} {w:World} {K:YX} {tg:Expr} (it:Addr) (x:Str) (t:Tok):Mh P w K tg (Its x) [it] it (fun i h=>h.IsStrIter it "str_ascii_iterator" x t i) where
 mem:=by simp
 obj:=fun i h st b hb=>by
  have e:b=it:=by simpa using hb
  subst e;obtain ⟨o,e,c,d⟩:=st;exact ⟨o,e,fun v z=>by rw [d] at z; cases z⟩
 keep:=fun i h h' st k=>let ⟨o,e,r⟩:=st; ⟨o,k it (by simp) o e,r⟩
 item:=by
  intro X hP hw hK hc i pins s σ H E I hf st hg;subst hP hw hK;obtain ⟨f0,f1,f2,f3,f4,f5⟩:=hf it (by simp);have Tg:i < x.cps.size:=hg;refine wpAny_pyNext_ascii_item st (c:=x.cps[i]) (by simp [Tg]) fun h' AQ sb=>?_
  have I1:An X pins σ H { s with heap:=h',toks:=s.toks + 1 }:=I.turned (fun b o hb e=>(sb.2 b hb).trans e) f0 f1 f3 f4 f5;obtain ⟨o,e,c,d⟩:=id AQ;exact ⟨_,rfl,IU (s:={ s with heap:=h',toks:=s.toks + 1 }) e c d (by decide) ⟨.str ⟨#[x.cps[i]]⟩,H,I1,⟨_,rfl⟩,⟨rfl,_,by simp [Tg],rfl⟩,AQ,fun b hb=>(hf b hb).1⟩⟩
 done:=by
  intro X hP hw hK hc i pins s σ H E I hf st hg;subst hP hw hK;obtain ⟨f0,f1,f2,f3,f4,f5⟩:=hf it (by simp);have Tg:x.cps.size<=i:=hg;exact wpAny_pyNext_ascii_end (I.ok.hd hc) st (by simp [Tg]) fun h' eb=>⟨rfl,I.turned (t':=s.toks) (fun b o hb e=>eb b o hb e) f0 f1 f3 f4 f5⟩
 self:=fun _ _ _ _ _ st h=>wpAny_pyIter_striter_ascii st h
theorem O7 {P:Program} {w:World} {K:YX} {tg:Expr} (it:Addr) (x:Str) (t:Tok):Mh P w K tg (Its x) [it] it (fun i h=>h.IsStrIter it "str_iterator" x t i) where
 mem:=by simp
 obj:=fun i h st b hb=>by
  have e:b=it:=by simpa using hb
  subst e;obtain ⟨o,e,c,d⟩:=st;exact ⟨o,e,fun v z=>by rw [d] at z; cases z⟩
 keep:=fun i h h' st k=>let ⟨o,e,r⟩:=st; ⟨o,k it (by simp) o e,r⟩
 item:=by
  intro X hP hw hK hc i pins s σ H E I hf st hg;subst hP hw hK;obtain ⟨f0,f1,f2,f3,f4,f5⟩:=hf it (by simp);have Tg:i < x.cps.size:=hg;refine wpAny_pyNext_wide_item st (c:=x.cps[i]) (by simp [Tg]) fun h' AQ sb=>?_
  have I1:An X pins σ H { s with heap:=h',toks:=s.toks + 1 }:=I.turned (fun b o hb e=>(sb.2 b hb).trans e) f0 f1 f3 f4 f5;obtain ⟨o,e,c,d⟩:=id AQ;exact ⟨_,rfl,IU (s:={ s with heap:=h',toks:=s.toks + 1 }) e c d (by decide) ⟨.str ⟨#[x.cps[i]]⟩,H,I1,⟨_,rfl⟩,⟨rfl,_,by simp [Tg],rfl⟩,AQ,fun b hb=>(hf b hb).1⟩⟩
 done:=by
  intro X hP hw hK hc i pins s σ H E I hf st hg;subst hP hw hK;obtain ⟨f0,f1,f2,f3,f4,f5⟩:=hf it (by simp);have Tg:x.cps.size<=i:=hg;exact wpAny_pyNext_wide_end (I.ok.hd hc) st (by simp [Tg]) fun h' eb=>⟨rfl,I.turned (t':=s.toks) (fun b o hb e=>eb b o hb e) f0 f1 f3 f4 f5⟩
 self:=fun _ _ _ _ _ st h=>wpAny_pyIter_striter_wide st h
def iStr (tl:TE):TI:=fun σ H R=>tl σ H fun x H1=>∃ z,x=.str z/\R (Its z) H1
theorem UG {X:Cx} {tg l:Expr} {tl:TE} (hl:PE X l tl):PI X tg l (iStr tl):=by
 intro pins s σ H R I h;refine B6 (hl (pins:=pins) s σ H _ I h) fun v s1 ⟨x,H1,I1,r1,q1⟩=>?_
 obtain ⟨z,rfl,q⟩:=q1;obtain ⟨t,rfl⟩:=r1;have fin:∀ b ∈ [s1.heap.objs.size],Ek X pins H1 b:=fun b hb=>by
  have e:b=s1.heap.objs.size:=by simpa using hb
  subst e;exact I1.fpOk (Zb _) (I1.hok.fresh (Zb _))
 cases ha:z.cps.all (· < 128)
 ·exact wpAny_pyIter_wide ha ⟨s1.heap.objs.size,[s1.heap.objs.size],_,_,H1,rfl,I1.kept (t':=s1.toks) fun b o e=>YW _ e,O7 _ z t,⟨_,Zf _ rfl,rfl,rfl⟩,fin,q⟩
 ·exact wpAny_pyIter_ascii ha ⟨s1.heap.objs.size,[s1.heap.objs.size],_,_,H1,rfl,I1.kept (t':=s1.toks) fun b o e=>YW _ e,O8 _ z t,⟨_,Zf _ rfl,rfl,rfl⟩,fin,q⟩
theorem EO {X:Cx} (hc:X.calm=true):Bi X (.builtin "all") (fun xs H Q=>∃ (p:Addr) (bs:List Bool),xs=[.ref p]/\A9 X.K H p (bs.map V.bl)/\Q (.bl (bs.all id)) H):=by
 intro pins s σ H xs us Q I r h;obtain ⟨p,bs,rfl,hq,q⟩:=h;obtain ⟨u,rfl,ru⟩:=Cf r;cases ru
 obtain ⟨Ap,rv,pl,hz⟩:=I.list hq;have hlen:Ap.length=bs.length:=by rw [<-rv.length,YV]
 refine call_all_walk (wpAny_pyIter_list pl.isList ?_);have hne:p ≠ s.heap.objs.size:=by
  obtain ⟨o,n,e,_⟩:=pl;exact Zh (Zc e)
 exists s.heap.objs.size,_,_,_,_,_,fun i=>bs.getD i true,rfl,Walks.list (A:=X.A.in1) (I.ok.hd hc) s.heap.objs.size p hne Ap.toArray,⟨⟨_,Zf _ rfl,rfl,rfl⟩,?_⟩,?_
 ·exact pl.isList.at fun o e=>YW _ e
 ·intro i v s1 Q1 E1 hv hQ;have hv':Ap[i]? = some v:=by simpa using hv
  have hb:∃ b,bs[i]? = some b:=by
   cases e:bs[i]? with
   | some b=>exact ⟨b,rfl⟩
   | none=>
    have:=List.getElem?_eq_none_iff.mp e;have:=(YZ.mp hv').1;lia
  obtain ⟨b,hb⟩:=hb;obtain ⟨u,hu,ru⟩:=rv.get (i:=i) (x:=V.bl b) (by rw [Ze,hb]; rfl);rw [hv'] at hu;cases hu
  cases ru
  have e:bs.getD i true=b:=by rw [Zw,hb]; rfl
  have hQ':Q1 (bs.getD i true) s1:=hQ;rw [e] at hQ';exact wpAny_truthy_bool hQ'
 ·intro h' tk hk;have e:(aD Ap.toArray.size).all (fun i=>bs.getD i true)=bs.all id:=by
   rw [Zt,hlen];apply ag.mpr;simp only [aw,bq,id];constructor
   ·intro h b hb;obtain ⟨i,hi,e⟩:=Zm hb;have:=h i hi;rw [Zw,YU hi] at this;simpa [e] using this
   ·intro h i hi;rw [Zw,YU hi];exact h _ (ZQ hi)
  rw [e];refine ⟨.bl _,H,?_,rfl,q⟩;have I1:An X pins σ H { s with heap:=s.heap.push { cls:=.type "list_iterator",data:=.fields #[.ref p,.int 0 0] } }:=I.kept (t':=s.toks) fun b o e=>YW _ e
  have F:=I.fpOk (Zb _) (I.hok.fresh (Zb _));obtain ⟨f0,f1,f2,f3,f4,f5⟩:=F;exact I1.turned (it:=s.heap.objs.size) (fun b o hb e=>hk b o (by simpa using hb) e) f0 f1 f3 f4 f5
theorem Hv {X:Cx}:Bi X (.builtin "isinstance") (fun xs H Q=>∃ x c t b,xs=[x,.ty c]/\ER X.K H x t/\bF X.K t (.type c)=some b/\Q (.bl b) H):=by
 intro pins s σ H xs us Q I r h;obtain ⟨x,c,t,b,rfl,ty,e,q⟩:=h;obtain ⟨u,v,rfl,rx,rc⟩:=Nj r;cases rc
 exact Py I rx ty e fun tk=>⟨.bl b,H,I.tok tk,rfl,q⟩
theorem JT {X:Cx}:Et X (compareOp .LtE) (fun x y H Q=>∃ i j,x=.str i/\y=.str j/\Q (.bl (!(decide (j.cps.toList < i.cps.toList)))) H):=by
 intro pins s σ H x y v u Q I rx ry h;obtain ⟨i,j,rfl,rfl,q⟩:=h;obtain ⟨t,rfl⟩:=rx;obtain ⟨t',rfl⟩:=ry;exact PySem.P.le_str ⟨.bl _,H,I,rfl,q⟩
def tSlS (te:TE) (tl th:TO):TE:=fun σ H Q=>te σ H fun x H1=>tl σ H1 fun l H2=>th σ H2 fun u H3=>∃ z,x=.str z/\z.length<=sizeLine/\Q (.str (Txt.slice z l u)) H3
theorem Gd {X:Cx} {e:Expr} {te:TE} {lo hi:Option Expr} {tl th:TO} {pos p2:Pos} (he:PE X e te) (hl:PO X lo tl) (hu:PO X hi th):PE X (.Subscript e (.Slice lo hi none p2) pos) (tSlS te tl th):=by
 intro pins s σ H Q I h;refine Subscript_ (B6 (he (pins:=pins) s σ H _ I h) fun v s1 ⟨x,H1,I1,r1,q1⟩=>?_);refine wpAny_Slice (B6 (hl (pins:=pins) s1 σ H1 _ I1 q1) fun vl s2 ⟨l,H2,I2,pl,q2⟩=>B6 (hu (pins:=pins) s2 σ H2 _ I2 q2) fun vu s3 ⟨u,H3,I3,pu,q3⟩=>?_);rw [evalPart_none];refine wpAny_pure ?_;obtain ⟨z,rfl,hz,q⟩:=q3;obtain ⟨t,rfl⟩:=r1;show wpAny (model X.prog X.w) X.A (subscriptTail e (.Slice lo hi none p2) (.str z t) (.ref s3.heap.objs.size)) (EP X pins σ Q) X.xe { s3 with heap:=s3.heap.push { cls:=.type "slice",data:=.fields #[vl,vu,.none] } }
 have kk:KeptH (fun h=>∀ b o,s3.heap.get? b=some o->h.get? b=some o):=fun h ob hh b o e=>YW _ (hh b o e)
 have fin:ItemOn (model X.prog X.w) X.A X.xe (.str z t) (.ref s3.heap.objs.size) (EP X pins σ Q) { s3 with heap:=s3.heap.push { cls:=.type "slice",data:=.fields #[vl,vu,.none] } }:=by
  cases pl with
  | none=>
   cases pu with
   | none=>exact SBH.sliceItem_nn kk (fun _ _ e=>e) (fun h' t' k kp=>⟨.str _,H3,I3.kept kp,⟨_,rfl⟩,q⟩) hz
   | int j uj=>exact SBH.sliceItem_ns kk (fun _ _ e=>e) (fun h' t' k kp=>⟨.str _,H3,I3.kept kp,⟨_,rfl⟩,q⟩) hz
  | int i ui=>
   cases pu with
   | none=>exact SBH.sliceItem_sn kk (fun _ _ e=>e) (fun h' t' k kp=>⟨.str _,H3,I3.kept kp,⟨_,rfl⟩,q⟩) hz
   | int j uj=>exact SBH.sliceItem_ss kk (fun _ _ e=>e) (fun h' t' k kp=>⟨.str _,H3,I3.kept kp,⟨_,rfl⟩,q⟩) hz
 obtain ⟨T,id,hT,ht,hg⟩:=fin;exact tail_any (ops:=[.ref s3.heap.objs.size,.str z t]) ht hT hg (by with_unfolding_all rfl)
theorem Dd {α:Type}:∀ {l:List (Str × α)} {x:Str} {k:α},l.lookup x=some k->(x,k) ∈ l
 | [],_,_,h=>by cases h
 | (n,v) :: r,x,k,h=>by
  rw [bB] at h;by_cases e:x=n
  ·subst e;simp at h;subst h;exact Zq
  ·have:(x == n)=false:=beq_eq_false_iff_ne.mpr e;rw [this] at h;exact Zv _ (Dd h)
theorem BN.plain {X:Cx} {scope:Scope} (hfree:∀ x ∈ scope.names,x.2 ≠ .free) (hcell:∀ y ∈ scope.names,y.2 ≠ .cell) (hkind:scope.kind=.function)
  (hnames:∀ y ∈ scope.names,y.2=.local->scope.names.lookup y.1=some .local):BN X scope []:=by
 refine ⟨closureFor_none hfree,hcell,hkind,hnames,fun x c h=>(by cases h),fun x h=>?_⟩;have key:∀ k,(relabel scope X.env).names.lookup x=some k->∃ y ∈ scope.names,y.2=k:=by
  intro k e;have m:=Dd e;obtain ⟨⟨n,k'⟩,hm,e'⟩:=Zd.mp m;have hf:=hfree _ hm;have:(k' == NameKind.free)=false:=by
   cases k' <;> first | rfl | exact absurd rfl hf
  dsimp only at e';rw [this] at e';simp at e';exact ⟨_,hm,e'.2⟩
 rcases h with h | h
 ·obtain ⟨y,hy,e⟩:=key _ h;exact absurd e (hcell y hy)
 ·obtain ⟨y,hy,e⟩:=key _ h;exact absurd e (hfree y hy)
def GC (c:Nat):Bool:=decide (97<=c) && decide (c<=122)
theorem lt1 (a b:Nat):decide (([a]:List Nat) < [b])=decide (a < b):=by
 apply decide_eq_decide.mpr;rw [List.cons_lt_cons_iff];constructor
 ·rintro (h | ⟨_,h⟩)
  ·exact h
  ·exact absurd h (by simp)
 ·exact fun h=>.inl h
theorem leA (c:Nat):(!(decide ((⟨#[c]⟩:Str).cps.toList < (Str.ofString "a").cps.toList)))=decide (97<=c):=by
 show (!(decide (([c]:List Nat) < [97])))=_
 rw [lt1,<-decide_not];exact decide_eq_decide.mpr (by lia)
theorem leZ (c:Nat):(!(decide ((Str.ofString "z").cps.toList < (⟨#[c]⟩:Str).cps.toList)))=decide (c<=122):=by
 show (!(decide (([122]:List Nat) < [c])))=_
 rw [lt1,<-decide_not];exact decide_eq_decide.mpr (by lia)
def B8 (t:Str):Bool:=decide (1<=t.length) && decide (t.length<=6) && t.cps.toList.all GC
def RU (K:YX) (H:Hp) (x:V):Prop:=∃ ty,ER K H x ty/\bF K ty (.type "str")=some false
def Q6 (K:YX):Sp:=fun vs H Q _=>∃ x,vs=[x]/\((∃ t,x=.str t/\t.length<=1000/\∀ H',Au H H'->Q (.bl (B8 t)) H')\/(RU K H x/\Q (.bl false) H))
theorem Ad {H:Hp} {p:Addr} {o:HO} (h:H p=none):Au H (upd H p o):=fun b u e=>by
 rw [Af (Ai e h)];exact e
theorem Jt {α β:Type} (f:α->β) (l:List α) (i:Nat) (c:α) (h:l[i]? = some c):(l.take (i + 1)).map f=(l.take i).map f ++ [f c]:=by
 rw [List.take_succ,h,Zi];rfl
mutual
inductive GW (H:Hp):V->PyData->Prop
 | non:GW H .non .none
 | bl (b:Bool):GW H (.bl b) (.bool b)
 | int (i:Int):GW H (.int i) (.int i)
 | str (x:Str):GW H (.str x) (.str x)
 | tup {a:Addr} {vs:List V} {ds:List PyData}:H a=some (.tup vs)->Bt H vs ds->GW H (.ref a) (.tuple ds)
 | lst {a:Addr} {vs:List V} {ds:List PyData}:H a=some (.lst vs)->Bt H vs ds->GW H (.ref a) (.list ds)
inductive Bt (H:Hp):List V->List PyData->Prop
 | nil:Bt H [] []
 | cons {v:V} {vs:List V} {d:PyData} {ds:List PyData}:GW H v d->Bt H vs ds->Bt H (v :: vs) (d :: ds)
end
mutual
theorem GW.mono {H H':Hp} (s:∀ a o,H a=some o->(∃ vs,o=.tup vs\/o=.lst vs)->H' a=some o):∀ {v:V} {d:PyData},GW H v d->GW H' v d
 | _,_,.non=>.non
 | _,_,.bl b=>.bl b
 | _,_,.int i=>.int i
 | _,_,.str x=>.str x
 | _,_,.tup e r=>.tup (s _ _ e ⟨_,.inl rfl⟩) (Bt.mono s r)
 | _,_,.lst e r=>.lst (s _ _ e ⟨_,.inr rfl⟩) (Bt.mono s r)
theorem Bt.mono {H H':Hp} (s:∀ a o,H a=some o->(∃ vs,o=.tup vs\/o=.lst vs)->H' a=some o):∀ {vs:List V} {ds:List PyData},Bt H vs ds->Bt H' vs ds
 | _,_,.nil=>.nil
 | _,_,.cons x r=>.cons (GW.mono s x) (Bt.mono s r)
end
theorem GW.same {H H':Hp} {v:V} {d:PyData} (h:GW H v d) (s:Au H H'):GW H' v d:=h.mono fun a o e _=>s a o e
mutual
theorem GW.reads {X:Cx} {pins:List (Addr × Obj)} {σ:St} {H:Hp} {s:Shared} (I:An X pins σ H s):∀ {v:V} {d:PyData} {u:Value},GW H v d->A3 v u->∃ as,Reads s.heap u d as
 | _,_,_,.non,r=>by cases r; exact ⟨_,.none⟩
 | _,_,_,.bl b,r=>by cases r; exact ⟨_,.bool b⟩
 | _,_,_,.int i,r=>by obtain ⟨t,rfl⟩:=r; exact ⟨_,.int i t⟩
 | _,_,_,.str x,r=>by obtain ⟨t,rfl⟩:=r; exact ⟨_,.str x t⟩
 | _,_,_,.tup (a:=a) e m,r=>by
  cases r
  obtain ⟨_,Ap,rv,⟨o,ho,hc,n,hd⟩,_⟩:=(show A6 X.prog X.w H s.heap a (.tup _) from I.hok a _ e)
  obtain ⟨as,q⟩:=Bt.reads I m rv;exact ⟨_,.tuple ho hc hd (by simpa using q)⟩
 | _,_,_,.lst (a:=a) e m,r=>by
  cases r
  obtain ⟨_,Ap,n,rv,ho⟩:=(show A6 X.prog X.w H s.heap a (.lst _) from I.hok a _ e)
  obtain ⟨as,q⟩:=Bt.reads I m rv;exact ⟨_,.list ho rfl rfl (by simpa using q)⟩
theorem Bt.reads {X:Cx} {pins:List (Addr × Obj)} {σ:St} {H:Hp} {s:Shared} (I:An X pins σ H s):∀ {vs:List V} {ds:List PyData} {us:List Value},Bt H vs ds->A5 vs us->∃ as,ReadsAll s.heap us ds as
 | _,_,_,.nil,r=>by cases r; exact ⟨_,.nil⟩
 | _,_,_,.cons x m,r=>by
  cases r with
  | cons r1 r2=>
   obtain ⟨as,q1⟩:=GW.reads I x r1;obtain ⟨bs,q2⟩:=Bt.reads I m r2;exact ⟨_,.cons q1 q2⟩
end
theorem Pk {X:Cx} (hu:X.A.units + 64 < cLine):Et X (compareOp .Eq) (fun x y H Q=>∃ d e,GW H x d/\GW H y e/\d.canLay0=true/\e.canLay0=true/\d.depth<=60/\Q (.bl (PyData.eqv d e)) H):=by
 intro pins s σ H x y v u Q I rx ry h;obtain ⟨d,e,h1,h2,c1,c2,hd,q⟩:=h;obtain ⟨as,r1⟩:=h1.reads I rx;obtain ⟨bs,r2⟩:=h2.reads I ry;exact SeqAt.compareEq_reads r1 r2 c1 c2 (by have:=cF d.depth e.depth; lia) ⟨.bl _,H,I,rfl,q⟩
theorem LO (z:Str) (xs:List Str):inV (.str z) (xs.map V.str)=decide (z ∈ xs):=by
 unfold inV;induction xs with
 | nil=>simp
 | cons x xs ih=>
  rw [Zr,aZ,ih];have e:Tq (.str x) (.str z)=decide (z=x):=by
   show (x == z)=_
   by_cases h:z=x
   ·subst h; simp
   ·have h':¬ x=z:=fun q=>h q.symm
    rw [decide_eq_false h];exact beq_eq_false_iff_ne.mpr h'
  rw [e];by_cases h:z=x
  ·simp [h]
  ·by_cases h2:z ∈ xs <;> simp [h,h2]
theorem Kg (xs:List Str):(xs.map V.str).all EG=true:=by
 rw [bY];exact aw.mpr fun _ _=>rfl
def Ba (p:Addr) (H H':Hp):Prop:=∀ b o,b ≠ p->H b=some o->H' b=some o
theorem Ba.refl (p:Addr) (H:Hp):Ba p H H:=fun _ _ _ e=>e
theorem Ba.trans {p:Addr} {H H1 H2:Hp} (a:Ba p H H1) (b:Ba p H1 H2):Ba p H H2:=fun c o n e=>b c o n (a c o n e)
theorem Ba.of_same {p:Addr} {H H':Hp} (s:Au H H'):Ba p H H':=fun b o _ e=>s b o e
theorem Ba.upd {p:Addr} {H:Hp} {o:HO}:Ba p H (L2.upd H p o):=fun b u n e=>by rw [Af n]; exact e
def MY (K:YX) (H:Hp) (a:Addr) (xs:List V):Prop:=(∃ ob,H a=some (.frz ob (.lst xs)))\/∃ o Ap n,List.lookup a K=some o/\o.cls=Value.type "list"/\o.dict=none/\o.data=Data.seq Ap n/\Ap.size<=sizeLine/\A5 xs Ap.toList
theorem MY.sq {K:YX} {H:Hp} {a:Addr} {xs:List V} (h:MY K H a xs):A9 K H a xs:=by
 rcases h with ⟨ob,h⟩ | h
 ·exact .inl (.inr ⟨ob,h⟩)
 ·exact .inr h
theorem MY.same {K:YX} {H H':Hp} {a:Addr} {xs:List V} (h:MY K H a xs) (s:Au H H'):MY K H' a xs:=by
 rcases h with ⟨ob,h⟩ | h
 ·exact .inl ⟨ob,s _ _ h⟩
 ·exact .inr h
theorem RP {α:Type} {l:List α} {i:Int} {c:α} (h:HV l i=some c):c ∈ l:=by
 obtain ⟨j,_,h2,_⟩:=HU h;exact YY h2
abbrev Gm:Str:="abcdefghijklmnopqrstuvwxyz"
theorem Hr:∀ c ∈ Gm.cps.toList,GC c=true:=by decide +kernel
def T8 (z:Str):Prop:=∀ c ∈ z.cps.toList,GC c=true
theorem Ro {z:Str} (h1:1<=z.length) (h2:z.length<=6) (h:T8 z):B8 z=true:=by
 unfold B8;rw [decide_eq_true h1,decide_eq_true h2,aw.mpr h];rfl
theorem Rr {z:Str} (h:B8 z=true):1<=z.length/\z.length<=6/\T8 z:=by
 unfold B8 at h;rw [ZI,ZI,decide_eq_true_eq,decide_eq_true_eq,aw] at h;exact ⟨h.1.1,h.1.2,h.2⟩
theorem Co {α:Type} [BEq α] [LawfulBEq α]:∀ {l xs:List α},l.Nodup->(∀ x ∈ l,x ∈ xs)->l.length<=xs.length
 | [],_,_,_=>Z7 _
 | a :: l,xs,hn,hs=>by
  have ha:=hs a Zq;have Ww:=Z3.mp hn;have:=Co (l:=l) (xs:=xs.erase a) Ww.2 fun x hx=>(dc (show x ≠ a from fun e=>Ww.1 (by rw [<-e]; exact hx))).mpr (hs x (Zv _ hx))
  rw [List.length_erase_of_mem ha] at this;have:0 < xs.length:=List.length_pos_of_mem ha;rw [Z4];lia
theorem CW (H:Hp):∀ xs:List Str,Bt H (xs.map V.str) (xs.map .str)
 | []=>.nil
 | x :: xs=>.cons (.str x) (CW H xs)
theorem ED:∀ {xs:List Str},(∀ x ∈ xs,B8 x=true)->PyData.canLayAll0 (xs.map .str)=true
 | [],_=>rfl
 | x :: xs,h=>by
  show (PyData.strOk x && PyData.canLayAll0 (xs.map .str))=true
  rw [ED fun y hy=>h y (Zv _ hy),cL];obtain ⟨_,_,lo⟩:=Rr (h x Zq);unfold PyData.strOk;rw [Array.all_eq_true_iff_forall_mem];intro c hc;have:=lo c (by simpa using hc);unfold GC at this;rw [ZI,decide_eq_true_eq,decide_eq_true_eq] at this;rw [decide_eq_true_eq];lia
theorem FC:∀ xs:List Str,PyData.depthAll (xs.map .str)=0
 | []=>rfl
 | x :: xs=>by
  show max 0 (PyData.depthAll (xs.map .str))=0
  rw [FC xs];rfl
def MF:Stmt->List Stmt
 | .If _ b _ _=>b
 | _=>[]
theorem BN.caught {X:Cx} {scope:Scope} {cl:List (Str × Addr)} (clos:closureFor scope X.env=pure cl) (hcell:∀ y ∈ scope.names,y.2 ≠ .cell) (hkind:scope.kind=.function)
  (hnames:∀ y ∈ scope.names,y.2=.local->scope.names.lookup y.1=some .local) (hcl:∀ y ∈ cl,X.env.cells.lookup y.1=some y.2)
  (hfr:∀ y ∈ scope.names,y.2=.free->∃ c,cl.lookup y.1=some c):BN X scope cl:=by
 refine ⟨clos,hcell,hkind,hnames,fun x c h=>hcl _ (Dd h),fun x h=>?_⟩;have key:∀ k,(relabel scope X.env).names.lookup x=some k->k=.cell\/k=.free->∃ c,cl.lookup x=some c:=by
  intro k e hk;have m:=Dd e;obtain ⟨⟨n,k'⟩,hm,e'⟩:=Zd.mp m;dsimp only at e';by_cases hf:k'=.free
  ·subst hf;have en:n=x:=by
    by_cases hc:(NameKind.free == NameKind.free && X.env.scope.kind == .function && X.env.kindOf n == some .cell)=true
    ·rw [if_pos hc] at e';injection e'
    ·rw [if_neg hc] at e';injection e'
   subst en;exact hfr _ hm rfl
  ·have:(k' == NameKind.free)=false:=by
    cases k' <;> first | rfl | exact absurd rfl hf
   rw [this] at e';simp at e';rcases hk with hk | hk
   ·exact absurd (e'.2.trans hk) (hcell _ hm)
   ·exact absurd (e'.2.trans hk) hf
 rcases h with h | h
 ·exact key _ h (.inl rfl)
 ·exact key _ h (.inr rfl)
theorem Cp.of {X:Cx} {cl:List (Str × Addr)} {scope:Scope} {N:List Str} {σ:St} (js:List (Option Nat)) (hl:js.length=N.length)
  (h:∀ (i j:Nat) (x:Str),N[i]? = some x->js[i]? = some (some j)->X.N[j]? = some x/\(X.env.kindOf x=some .cell\/X.env.kindOf x=some .free)/\((relabel scope X.env).names.lookup x=some .cell\/(relabel scope X.env).names.lookup x=some .free)) :
  Cp X cl scope N σ (js.map fun j=>j.bind fun j=>(σ[j]?).join):=by
 refine ⟨by rw [YV,hl],fun i x v h1 h2=>?_⟩;rw [Ze] at h2;cases e:js[i]? with
 | none=>rw [e] at h2; cases h2
 | some o=>
  rw [e] at h2;cases o with
  | none=>cases h2
  | some j=>
   obtain ⟨a,b,c⟩:=h i j x h1 e;refine ⟨⟨j,a,?_⟩,b,c⟩;have h3:(σ[j]?).join=some v:=Zo.inj h2;cases e2:σ[j]? with
   | none=>rw [e2] at h3; cases h3
   | some o=>
    rw [e2] at h3;have:o=some v:=h3;rw [this]
abbrev A8:=Str × Str × Int
def O1 (u:A8):PyData:=.tuple [.str u.1,.str u.2.1,.int u.2.2]
def DP (u v:A8):Prop:=(u.1=v.1/\u.2.1=v.2.1)\/(u.1=v.2.1/\u.2.1=v.1)
structure HP (xs:List Str) (k:Nat) (ws:List A8):Prop where
 of:∀ u ∈ ws,∃ i j:Nat,i < j/\j < k/\xs[i]? = some u.1/\xs[j]? = some u.2.1/\1<=u.2.2
 sep:ws.Pairwise fun u v=>¬ DP u v
 to:∀ j,0 < j->j < k->∃ u ∈ ws,∃ i:Nat,i < j/\xs[i]? = some u.1/\xs[j]? = some u.2.1
 len:2 * ws.length<=k * (k - 1)
structure Vs (xs:List Str) (ws:List A8):Prop where
 of:∀ u ∈ ws,u.1 ∈ xs/\u.2.1 ∈ xs/\u.1 ≠ u.2.1/\1<=u.2.2
 sep:ws.Pairwise fun u v=>¬ DP u v
 to:∀ j,0 < j->j < xs.length->∃ u ∈ ws,∃ i:Nat,i < j/\xs[i]? = some u.1/\xs[j]? = some u.2.1
 len:2 * ws.length<=xs.length * (xs.length - 1) + 10
theorem F6 {xs:List Str} (h:xs.Nodup) {i j:Nat} {x:Str} (a:xs[i]? = some x) (b:xs[j]? = some x):i=j:=I0 h a b
theorem HP.nil (xs:List Str):HP xs 1 []:=⟨(fun _ h=>nomatch h),List.Pairwise.nil,(fun j h1 h2=>by lia),(by decide)⟩
theorem HP.more {xs:List Str} {k:Nat} {ws us:List A8} (hn:xs.Nodup) (h:HP xs k ws) (hk:k < xs.length) (js:List Nat) (hj:js.Nodup) (Bv:∀ j ∈ js,j < k) (h0:js ≠ [])
  (hl:us.length=js.length) (hu:∀ (q:Nat) (u:A8) (j:Nat),us[q]? = some u->js[q]? = some j->xs[j]? = some u.1/\xs[k]? = some u.2.1/\1<=u.2.2):HP xs (k + 1) (ws ++ us):=by
 have at_:∀ u ∈ us,∃ (q j:Nat),us[q]? = some u/\js[q]? = some j/\j < k/\xs[j]? = some u.1/\xs[k]? = some u.2.1/\1<=u.2.2:=by
  intro u hm;obtain ⟨q,hq,e⟩:=Zm hm;have e1:us[q]? = some u:=by rw [YU hq,e]
  have e2:js[q]? = some js[q]:=YU (by lia);obtain ⟨a,b,c⟩:=hu q u _ e1 e2;exact ⟨q,_,e1,e2,Bv _ (ZQ _),a,b,c⟩
 exists ?_,?_,?_
 ·intro u hm;rcases Zp.mp hm with hm | hm
  ·obtain ⟨i,j,a,b,c⟩:=h.of u hm;exact ⟨i,j,a,by lia,c⟩
  ·obtain ⟨q,j,_,_,a,b,c,d⟩:=at_ u hm;exact ⟨j,k,a,by lia,b,c,d⟩
 ·rw [de];exists h.sep,?_
  ·rw [ZU];intro q r hq hr hqr al;have a1:=hu q us[q] js[q] (YU hq) (YU (by lia));have a2:=hu r us[r] js[r] (YU hr) (YU (by lia));have l1:=Bv js[q] (ZQ _);have l2:=Bv js[r] (ZQ _);rcases al with ⟨e1,_⟩ | ⟨e1,_⟩
   ·have a3:=a1.1;rw [e1] at a3;have ej:=F6 hn a3 a2.1;exact absurd ((cj hj).mp ej) (by lia)
   ·have a3:=a1.1;rw [e1] at a3;have ej:=F6 hn a3 a2.2.1;lia
  ·intro u Xh v hv al;obtain ⟨i,j,hij,hjk,e1,e2,_⟩:=h.of u Xh;obtain ⟨q,m,_,_,hm,e3,e4,_⟩:=at_ v hv;rcases al with ⟨_,z⟩ | ⟨z,_⟩
   ·rw [z] at e2;have:=F6 hn e2 e4;lia
   ·rw [z] at e1;have:=F6 hn e1 e4;lia
 ·intro j h1 h2;by_cases e:j=k
  ·subst e;cases us with
   | nil=>
    cases js with
    | nil=>exact absurd rfl h0
    | cons _ _=>cases hl
   | cons u us=>
    obtain ⟨q,m,_,_,hm,e3,e4,_⟩:=at_ u Zq;exact ⟨u,Zj _ Zq,m,hm,e3,e4⟩
  ·obtain ⟨u,hm,i,a,b⟩:=h.to j h1 (by lia);exact ⟨u,ZN _ hm,i,a,b⟩
 ·have:=h.len;have hjl:js.length<=k:=by
   have:=Co (l:=js) (xs:=aD k) hj fun j hm=>bq.mpr (Bv j hm)
   rwa [aP] at this
  rw [Za,hl];show 2 * (ws.length + js.length)<=(k + 1) * (k + 1 - 1)
  rw [bW];have e:(k + 1) * k=k * (k - 1) + 2 * k:=by
   cases k with
   | zero=>rfl
   | succ k=>
    rw [bW];simp only [Nat.succ_mul,Nat.mul_succ,eL,Nat.mul_add];lia
  lia
theorem HP.ways {xs:List Str} {ws:List A8} (hn:xs.Nodup) (h:HP xs xs.length ws):Vs xs ws:=by
 refine ⟨fun u hm=>?_,h.sep,h.to,by have:=h.len; lia⟩;obtain ⟨i,j,a,b,c,d,e⟩:=h.of u hm;refine ⟨YY c,YY d,fun z=>?_,e⟩;rw [z] at c;have:=F6 hn c d;lia
def F1 (xs:List Str) (ws:List A8):Prop:=(∀ u ∈ ws,u.1 ∈ xs/\u.2.1 ∈ xs/\u.1 ≠ u.2.1/\1<=u.2.2)/\(ws.Pairwise fun u v=>¬ DP u v) /\
 ∀ j,0 < j->j < xs.length->∃ u ∈ ws,∃ i:Nat,i < j/\xs[i]? = some u.1/\xs[j]? = some u.2.1
theorem Vs.c {xs:List Str} {ws:List A8} (h:Vs xs ws):F1 xs ws:=⟨h.of,h.sep,h.to⟩
theorem F1.snoc {xs:List Str} {ws:List A8} {x y:Str} {n:Int} (h:F1 xs ws) (hx:x ∈ xs) (hy:y ∈ xs) (ne:x ≠ y) (hn:1<=n) (no:∀ u ∈ ws,¬ ((x=u.1\/x=u.2.1)/\(y=u.1\/y=u.2.1))):F1 xs (ws ++ [(x,y,n)]):=by
 refine ⟨fun u hu=>?_,?_,fun j h1 h2=>?_⟩
 ·rcases Zp.mp hu with hu | hu
  ·exact h.1 u hu
  ·rw [Zl.mp hu]; exact ⟨hx,hy,ne,hn⟩
 ·rw [de];refine ⟨h.2.1,aM _ _,fun u hu v hv al=>?_⟩;rw [Zl.mp hv] at al;refine no u hu ?_;rcases al with ⟨e1,e2⟩ | ⟨e1,e2⟩
  ·exact ⟨.inl e1.symm,.inr e2.symm⟩
  ·exact ⟨.inr e2.symm,.inl e1.symm⟩
 ·obtain ⟨u,hu,r⟩:=h.2.2 j h1 h2;exact ⟨u,ZN _ hu,r⟩
theorem Jc {H:Hp}:∀ {vs:List V} {ds:List PyData},Bt H vs ds->vs.length=ds.length
 | _,_,.nil=>rfl
 | _,_,.cons _ r=>by rw [Z4,Z4,Jc r]
theorem Jb {H:Hp}:∀ {vs:List V} {ws:List A8} {i:Nat} {x:V},Bt H vs (ws.map O1)->vs[i]? = some x->∃ u t,ws[i]? = some u/\x=.ref t/\H t=some (.tup [.str u.1,.str u.2.1,.int u.2.2])
 | _,[],i,x,.nil,e=>by cases e
 | _,u :: ws,0,x,.cons (v:=v) h _,e=>by
  have e':v=x:=by simpa using e
  subst e';cases h with
  | tup ha hd=>
   exists u,_,rfl,rfl;cases hd with
   | cons h1 r1=>
    cases r1 with
    | cons h2 r2=>
     cases r2 with
     | cons h3 r3=>
      cases r3
      cases h1
      cases h2
      cases h3
      exact ha
 | _,u :: ws,i + 1,x,.cons _ r,e=>by
  obtain ⟨u',t,a,b⟩:=Jb (i:=i) (x:=x) r (by simpa using e);exact ⟨u',t,by simpa using a,b⟩
theorem Kj {H:Hp}:∀ {vs:List V} {ds:List PyData} {v:V} {d:PyData},Bt H vs ds->GW H v d->Bt H (vs ++ [v]) (ds ++ [d])
 | _,_,_,_,.nil,h=>.cons h .nil
 | _,_,_,_,.cons a r,h=>.cons a (Kj r h)
theorem Jd {H:Hp}:∀ {vs us:List V} {ds es:List PyData},Bt H vs ds->Bt H us es->Bt H (vs ++ us) (ds ++ es)
 | _,_,_,_,.nil,h=>h
 | _,_,_,_,.cons a r,h=>.cons a (Jd r h)
theorem AB (K:YX) {X:Cx} (h:X.K=K):VE X (rIxL K):=by subst h; exact Oe
theorem Bc (K:YX) {X:Cx} (h:X.K=K):VE X (rIxT K):=by subst h; exact Rx
theorem UO (K:YX) {X:Cx} (h:X.K=K):Et X (compareOp .In) (rIn K false):=by subst h; exact Pj
theorem BD (K:YX) {X:Cx} (h:X.K=K) {es:List Expr} {k:Nat} {t:Us} {n:Nat} {pos:Pos} (hc:X.calm=true) (ht:PGs X es t)
  (hn:(assignEach es X.env).length=n:=by rfl) (hst:(assignEach es X.env).findIdx? (·.1)=none:=by rfl):PG X (.Tuple es k pos) (gTup K n t):=by subst h; exact UI hc ht hn hst
end L2
namespace L2
open PySem PySem.W PyProof.Rows
section
variable {n:Nat} (hn:0 < n)
include hn
end
end L2
set_option maxHeartbeats 4000000
namespace L2
open PySem PySem.Spec PyProof.Rows PySem.W
theorem A6.there {P:Program} {w:World} {H:Hp} {h:Heap} {a:Addr} {o:HO} (x:A6 P w H h a o):∃ ob,h.get? a=some ob:=by
 cases o with
 | lst xs=>obtain ⟨_,_,_,_,e⟩:=x; exact ⟨_,e⟩
 | tup xs=>obtain ⟨_,_,_,⟨ob,e,_⟩,_⟩:=x; exact ⟨ob,e⟩
 | dK kvs=>obtain ⟨_,_,_,_,o,_,_,e,_⟩:=x; exact ⟨o,e⟩
 | dT kvs=>obtain ⟨_,_,_,_,o,_,_,e,_⟩:=x; exact ⟨o,e⟩
 | set S n=>obtain ⟨o,_,_,_,e,_⟩:=x; exact ⟨o,e⟩
 | ins C dx fs=>obtain ⟨_,_,_,e,_⟩:=x; exact ⟨_,e⟩
 | own y=>exact x
 | xd fs=>obtain ⟨_,⟨_,_,_,e,_⟩,_⟩:=x; exact ⟨_,e⟩
 | rng lo hi=>obtain ⟨_,_,_,e⟩:=x; exact ⟨_,e⟩
 | frz ob u=>obtain ⟨e,_⟩:=x; exact ⟨_,e⟩
 | tbl ps=>exact ⟨_,(show h.get? a=some _ from x)⟩
 | met f y=>exact ⟨_,(show h.get? a=some _ from x)⟩
 | ext φ=>obtain ⟨_,⟨_,e⟩,_⟩:=x; exact ⟨_,e⟩
theorem An.laidF {X:Cx} {pins:List (Addr × Obj)} {σ:St} {H:Hp} {s:Shared} {h2:Heap} {D:Addr} {o:HO} {m:Str->Option Value} (I:An X pins σ H s)
  (hl:s.heap.Ns X.env.locals m/\∀ (i:Nat) (x:Str) (v:V),X.N[i]? = some x->σ[i]? = some (some v)->Vis X.env.scope x->∃ u,A3 v u/\Look X.env s.heap m x u) (hn:h2.Ns X.env.locals m)
  (kp:∀ b ob,b ≠ X.env.locals->s.heap.get? b=some ob->h2.get? b=some ob) (hD:s.heap.get? D=none) (hDL:D ≠ X.env.locals) (new:A6 X.prog X.w (upd H D o) h2 D o):An X pins σ (upd H D o) { s with heap:=h2 }:=by
 have fD:H D=none:=by
  cases z:H D with
  | none=>rfl
  | some u=>
   obtain ⟨ob,e⟩:=A6.there (I.hok D u z);rw [hD] at e;cases e
 have neL:∀ b ob,X.s₀.heap.get? b=some ob->b ≠ X.env.locals:=fun b ob e=>Zh (Zk (Zc e) I.ok.above)
 have neD:∀ b ob,s.heap.get? b=some ob->b ≠ D:=fun b ob e z=>by rw [z,hD] at e; cases e
 have cellK:∀ x c,X.env.cells.lookup x=some c->∀ v,s.heap.IsCell c v->h2.IsCell c v:=fun x c e v ⟨ob,ho,hd⟩=>⟨ob,kp c ob (I.cne x c e) ho,hd⟩
 refine ⟨I.ok,I.os,I.bare,⟨?_,?_,?_,?_,?_,?_,?_⟩,⟨m,hn,?_⟩,?_,?_,?_,?_,?_,I.len⟩
 ·exact fun b ob e n hb hx=>kp b ob (neL b ob e) (I.base.keep b ob e n hb hx)
 ·intro b ob e n hb hx;obtain ⟨sl,q⟩:=I.base.slot b ob e n hb hx;exact ⟨sl,kp b _ (neL b ob e) q⟩
 ·intro b ob e n hx;obtain ⟨Xd,q⟩:=I.base.there b ob e hx;rw [Af (neD b Xd q)];exact I.base.free b ob e n hx
 ·intro b ob e hx;obtain ⟨Xd,q⟩:=I.base.there b ob e hx;exact ⟨Xd,kp b Xd (neL b ob e) q⟩
 ·intro b xs e;have q:=I.base.tups b xs e;rw [Af (Ai q fD)];exact q
 ·intro b ob u e;have q:=I.base.frzs b ob u e;rw [Af (Ai q fD)];exact q
 ·intro b ps e;obtain ⟨more,q⟩:=I.base.tbls b ps e;exact ⟨more,by rw [Af (Ai q fD)]; exact q⟩
 ·intro i x v e1 e2 e3;obtain ⟨u,r,l⟩:=hl.2 i x v e1 e2 e3;exists u,r;rcases l with l | ⟨k,c,e,z⟩
  ·exact .inl l
  ·exact .inr ⟨k,c,e,cellK x c e _ z⟩
 ·intro x c e;obtain ⟨v,z⟩:=I.cell x c e;exact ⟨v,cellK x c e v z⟩
 ·rw [Af (Ne.symm hDL)];exact I.free
 ·intro x c e;obtain ⟨v,ob,ho,_⟩:=I.cell x c e;rw [Af (neD c ob ho)];exact I.freeC x c e
 ·intro p hp;obtain ⟨e,n,ne,nf,d⟩:=I.pin p hp;exact ⟨kp _ _ ne e,by rw [Af (neD _ _ e)]; exact n,ne,nf,d⟩
 ·intro b u e;by_cases hb:b=D
  ·subst hb;rw [Ab] at e;cases e
   exact new
  ·rw [Af hb] at e;refine (I.hok b u e).stay (fun c v hc q=>kp c v ?_ q) (fun c q=>by rw [Af (Ai q fD)]; exact q) fun c xs q=>by rw [Af (Ai q fD)]; exact q
   rintro rfl;rcases hc with rfl | hc
   ·rw [I.free] at e; cases e
   ·rw [I.free] at hc; cases hc
end L2
namespace L2
open PySem PySem.Spec PyProof.Rows
section
variable {prog:Program} {w:World} {A:Around} {E:Value->Shared->Prop} {s:Shared}
end
def BK (a b:Str):Str:=if b.cps.toList < a.cps.toList then b else a
def BL (a b:Str):Str:=if a.cps.toList < b.cps.toList then b else a
theorem S1 {ss:List Str}:∀ {us:List Value},A5 (ss.map V.str) us->StrsAre us ss:=by
 induction ss with
 | nil=>intro us r; cases r; exact .nil
 | cons x ss ih=>
  intro us r;cases r with
  | cons r1 r2=>
   obtain ⟨t,rfl⟩:=r1;exact .cons x t (ih r2)
theorem KN:∀ {us:List Value} {ss:List Str},StrsAre us ss->A5 (ss.map V.str) us
 | _,_,.nil=>.nil
 | _,_,.cons x t r=>.cons ⟨t,rfl⟩ (KN r)
theorem Cd {X:Cx}:Bi X (.builtin "sorted") (fun xs H Q=>∃ (a:Addr) (ss:List Str),xs=[.ref a]/\A9 X.K H a (ss.map V.str)/\ss.length < 64 /\
  ∀ (l:Addr) (Dg:List Str),H l=none->Dg.Perm ss->sortedS Dg=true->Q (.ref l) (upd H l (.lst (Dg.map V.str)))):=by
 intro pins s σ H xs us Q I r h;obtain ⟨a,ss,rfl,ha,Mm,q⟩:=h;obtain ⟨u,rfl,ru⟩:=Cf r;cases ru
 obtain ⟨Ap,rv,pl,hz⟩:=I.list ha;have hl:Ap.length=ss.length:=by rw [<-rv.length,YV]
 refine sorted_strs pl.isList (S1 rv) (by lia) fun out Dg h1 h2 h3=>?_
 obtain ⟨e,he⟩:=sortedAll_at s.heap Ap out;refine ⟨.ref (s.heap.objs.size + 1),_,I.laid (o:=.lst (Dg.map V.str)) (t':=s.toks) (fun b o z=>sortedAll_old z) (ZC _) ⟨?_,out.toList,e,KN h1,by simpa using he⟩,rfl,q _ Dg (I.hok.fresh (ZC _)) h2 h3⟩;rw [YV,h2.length_eq];have:100 < sizeLine:=by decide
 lia
section
variable {prog:Program} {w:World} {A:Around} {E:Value->Shared->Prop} {s:Shared}
end
def EA (u:A8):A8:=(BK u.1 u.2.1,BL u.1 u.2.1,u.2.2)
theorem Gb {X:Cx} {ix:Nat} {x:Str} {px spos:Pos} {tg iter elt:Expr} {ifs:List Expr} {scope:Scope} {cl:List (Str × Addr)} {N:List Str} {pos:Pos} {wi:TI} {g:TG} {tt:TT} {te:TE} {σ0:St->St} (hN:X.N.Nodup) (hix:X.N[ix]? = some x) (hlx:Vv X.env.scope x) (hc:X.calm=true) (co:BN X scope cl)
  (hσ:∀ σ,σ.length=X.N.length->Cp X cl scope N σ (σ0 σ)) (hi:PI X tg iter wi)
  (hb:∀ s2 H C fp,PG (Am X scope cl N s2 H C fp) tg g/\Uu (Am X scope cl N s2 H C fp) ifs tt/\PE (Am X scope cl N s2 H C fp) elt te)
  (hsw:swapsWith (.ListComp elt [⟨tg,iter,ifs,0⟩] scope pos) (some (.Name x px)) spos.line X.env=pure true:=by rfl)
  (hs:∀ x,foldedSetIterable iter X.env x=pure x:=by intro _; rfl) (hf:X.fn x=true\/X.env.scope.names.lookup x=some .local:=by first | exact .inl rfl | exact .inr rfl | assumption) :
  PS X (.Assign [.Name x px] (.ListComp elt [⟨tg,iter,ifs,0⟩] scope pos) spos) (Qy (Nn wi g tt te σ0) (Ke ix)):=by
 intro pins s σ H DD I h;rw [exec_Assign_Name_used _ _ _ _ hsw];refine wpAny_bind (wpAny_standAt (wpAny_bind ?_));show wpAny _ X.A (do let _ <- comprehension (.ListComp elt [⟨tg,iter,ifs,0⟩] scope pos) scope X.env _ (newList []) false (eval iter X.env) (some (assign (.Name x px) X.env))) _ _ s
 refine wpAny_bind (wpAny_mono (wpAny_comprehension_free (use:=some (assign (.Name x px) X.env)) (Q:=fun _ s'=>SP X pins DD .next s') rfl hs co.clos co.kind co.names
  (wpAny_mono (hi (pins:=pins) s σ H _ I h) (fun xv s1 h1=>wpAny_mono h1 (fun itv s2 h2=>?_) fun _ _ e=>e) fun _ _ e=>e)) (fun _ s' hq=>wpAny_pure (wpAny_pure hq)) fun _ _ e=>e)
 obtain ⟨it,fp,tn,J,H2,rfl,I2,T,Fj,f2,hW⟩:=h2;refine wpAny_newObj_type (wpAny_newFunctionEnv co.cell (by intro y hy; cases hy) (fun h₁ B5 Bl=>?_) co.kind);dsimp only at B5 Bl ⊢;generalize IS:s2.heap.push { cls:=.type "list",dict:=none,data:=.seq ([]:List Value).toArray } = HH at B5 Bl ⊢;have By:HH.objs.size=s2.heap.objs.size + 1:=by rw [<-IS,ZH]
 have old:∀ b o,s2.heap.get? b=some o->h₁.get? b=some o:=fun b o e=>
  Bl.extBut b o (Zh (by rw [By]; exact Z0 (Zc e))) (YW _ (IS ▸ YW _ e))
 have newD:∃ n,h₁.get? s2.heap.objs.size=some { cls:=.type "list",data:=.seq ([]:List Value).toArray n }:=
  ⟨_,Bl.extBut _ _ (Zh (by rw [By]; exact Z6 _)) (YW _ (IS ▸ Zf _ rfl))⟩
 obtain ⟨W,⟨m0,w0⟩,turn⟩:=hW s2.heap.objs.size I2.fresh;have hfo:∀ b ∈ fp,∃ o,s2.heap.get? b=some o:=fun b hb=>let ⟨o,e,_⟩:=T.obj _ _ Fj b hb; ⟨o,e⟩
 have I3:An (Am X scope cl N s2 H2 HH.objs.size fp) [] (σ0 σ) (upd H2 s2.heap.objs.size (.lst [])) { s2 with heap:=h₁,toks:=s2.toks + ([]:List (Str × Value)).length }:=
  Je I2 f2 hfo co (hσ σ I.len) old (Zb _) (by rw [By]; exact ZC _) (ZO (by rw [By]; exact Z6 _)) (.inr newD) B5
 have fC:s2.heap.objs.size<=HH.objs.size:=by rw [By]; exact ZC _
 obtain ⟨hg,ht,he⟩:=hb s2 H2 HH.objs.size fp;have loop:∀ BZ:Shared,BZ = { s2 with heap:=h₁,toks:=s2.toks + ([]:List (Str × Value)).length } ->
   codeAny (model X.prog X.w) X.A (.compLoop (.ListComp elt [⟨tg,iter,ifs,0⟩] scope pos) 0 (.ref it) (.ref s2.heap.objs.size) (compEnvC scope cl HH.objs.size X.env))
    (compPost (model X.prog X.w) X.A X.xe (some (assign (.Name x px) X.env)) (fun _ s'=>SP X pins DD .next s') (.ref s2.heap.objs.size) HH.objs.size) BZ:=by
  rintro BZ rfl;have stat:∀ {H':Hp} ,(∀ b ∈ fp,H' b=none)->∀ b ∈ fp,Ek (Am X scope cl N s2 H2 HH.objs.size fp) [] H' b:=fun hn b hb=>by
   refine ⟨hn b hb,?_,?_,.inl hb,?_,fun p hp=>by cases hp⟩
   ·obtain ⟨o,e⟩:=hfo b hb;exact Zh (show b < HH.objs.size by rw [By]; exact Z0 (Zc e))
   ·intro hz;obtain ⟨_,q1,q2,_⟩:=f2 b hb;rcases Zg.mp (I2.stkSub b hz) with e | e
    ·exact q1 e
    ·exact q2 e
   ·exact fun x c e=>(f2 b hb).2.2.2.2.1 x c (co.sub x c e)
  refine BW (fun n s'=>∃ i As H',An (Am X scope cl N s2 H2 HH.objs.size fp) [] As H' s'/\tn i s'.heap/\(∀ b ∈ fp,H' b=none)/\W i n As H') ?_ m0
   ⟨0,σ0 σ,_,I3,T.keep _ _ _ Fj fun b hb o e=>old b o e,fun b hb=>?_,w0⟩
  ·rintro n s4 ⟨i,FK,H4,I4,Lp,LQ,w4⟩;rcases turn i n FK H4 w4 with ⟨stop,qn⟩ | ⟨go,step⟩
   ·refine wpAny_mono (T.done (Am X scope cl N s2 H2 HH.objs.size fp) rfl rfl rfl hc i [] s4 FK H4 (fun _ _=>False) I4 (stat LQ) Lp stop) (fun r s5 ⟨hr,I5⟩=>?_) fun _ _ z=>z.elim
    subst hr;obtain ⟨m5,R3,_⟩:=id I5.loc;have I6:An X pins σ H4 s5:=EL (h':=s5.heap) I2 f2 fC I5 (Heap.SameBut.refl _ _);have cC:∀ y c,X.env.cells.lookup y=some c->c ≠ HH.objs.size:=fun y c e=>by
     obtain ⟨v,q⟩:=I2.cell y c e;exact Zh (Zk q.lt fC)
    have lC:X.env.locals ≠ HH.objs.size:=Zh (Zk I2.lt fC);show wpAny _ X.A (assign (.Name x px) X.env (.ref s2.heap.objs.size)) _ X.xe s5
    refine wpAny_assign_Name (EX I6 hN hix hlx (v:=.ref s2.heap.objs.size) rfl (fun s7 I7 ⟨a,sb,ha⟩=>?_) hf);have aC:a ≠ HH.objs.size:=by
     rcases ha with rfl | ha
     ·exact lC
     ·exact cC _ _ ha
    refine ⟨m5,R3.sameBut sb (Ne.symm aC),fun h' Kc=>⟨_,H4,?_,qn⟩⟩;exact I7.turned (t':=s7.toks) (it:=HH.objs.size) (fun b o hb e=>(Kc.2 b hb).trans e) I5.free (Ne.symm lC) (.inr (Z2 I2.sz fC)) cC fun p hp z=>by
     have e:=(I2.pin p hp).1;exact absurd (Zk (Zc e) fC) (by rw [z]; exact ZK _)
   ·refine wpAny_mono (T.item (Am X scope cl N s2 H2 HH.objs.size fp) rfl rfl rfl hc i [] s4 FK H4 (fun _ _=>False) I4 (stat LQ) Lp go) (fun r s5 ⟨u,hr,h5⟩=>?_) fun _ _ z=>z.elim
    subst hr;refine wpAny_mono h5 (fun _ s6 ⟨x,H6,I6,r6,y6,HZ,RF⟩=>?_) fun _ _ z=>z.elim
    have RX:=I6.pinned (stat RF) (T.obj _ _ HZ);refine wpAny_mono (hg s6 FK H6 x u _ RX r6 (step x H6 y6)) (fun _ s7 ⟨El,H7,I7,q7⟩=>?_) fun _ _ z=>z.elim
    refine wpAny_mono (ht s7 El H7 _ I7 q7) (fun ok s8 ⟨H8,I8,q8⟩=>?_) fun _ _ z=>z.elim
    have again:∀ {s9:Shared} {FJ:St} {H9:Hp} ,An (Am X scope cl N s2 H2 HH.objs.size fp) ([] ++ Dx fp s6.heap) FJ H9 s9->(∃ m',m' < n/\W (i + 1) m' FJ H9)->∃ m,m < n/\∃ i As H',An (Am X scope cl N s2 H2 HH.objs.size fp) [] As H' s9/\tn i s9.heap/\(∀ b ∈ fp,H' b=none)/\W i m As H':=fun {s9 FJ H9} I9 n9=>by
     obtain ⟨m',hm,w9⟩:=n9;refine ⟨m',hm,i + 1,FJ,H9,I9.unpinned,T.keep _ _ _ HZ fun b hb o e=>(I9.pin (b,o) (Zj _ (Zj _ (AX hb e)))).1,fun b hb=>?_,w9⟩;obtain ⟨o,e,d⟩:=T.obj _ _ HZ b hb;exact (I9.pin (b,o) (Zj _ (Zj _ (AX hb e)))).2.1
    cases ok with
    | false=>
     rw [if_neg Zn] at q8 ⊢;exact again I8 q8
    | true=>
     rw [if_pos rfl] at q8 ⊢;refine wpAny_mono (he s8 El H8 _ I8 q8) (fun y s9 ⟨v,H9,I9,r9,acc,hacc,hsz,q9⟩=>?_) fun _ _ z=>z.elim
     refine wpAny_mono (Cc (X:=Am X scope cl N s2 H2 HH.objs.size fp) s9 El H9 (.ref s2.heap.objs.size) [v] (.ref s2.heap.objs.size) [y] (fun _ Nf=>∃ m',m' < n/\W (i + 1) m' El Nf) I9 rfl (.cons r9 .nil) ⟨_,acc,v,rfl,rfl,hacc,hsz,q9⟩) (fun _ V3 ⟨_,Nf,RY,_,QU⟩=>?_) fun _ _ z=>z.elim
     exact again RY QU
  ·have z:=(f2 b hb).1;obtain ⟨o,e⟩:=hfo b hb;rw [Af (Zh (Zc e))];exact z
 exact codeAny_compStart_list (loop _ rfl) (T.self _ 0 _ _ _ (T.keep _ _ _ Fj fun b hb o e=>old b o e) (loop _ rfl))
theorem Paired.at {α β:Type} {F:α->β->Prop}:∀ {LK:List α} {LJ:List β},Paired F LK LJ->∀ {i:Nat} {a:α},LK[i]? = some a->∃ b,LJ[i]? = some b/\F a b
 | _,_,.nil,i,a,h=>by simp at h
 | _,_,.cons r t,0,a,h=>by
  simp only [ZS,Zo.injEq] at h;subst h;exact ⟨_,rfl,r⟩
 | _,_,.cons r t,i + 1,a,h=>by
  simp only [ax] at h;obtain ⟨b,h1,h2⟩:=Paired.at t h;exact ⟨b,by simpa using h1,h2⟩
theorem OR {P:Program} {w:World} {k:A4} {u:Value} (h:(A2 P w).is k u=true):A3 (kV k) u:=by
 rcases Bm (show IJ k u=true from h) with ⟨i,t,rfl,rfl⟩ | ⟨x,t,rfl,rfl⟩
 ·exact ⟨t,rfl⟩
 ·exact ⟨t,rfl⟩
def Uw (a:Addr) (kvs:List (A4 × V)) (o:Obj):It:=
 ⟨fun i H=>H a=some (.frz o (.dK kvs))/\i < kvs.length,fun i H x H'=>H'=H/\∃ k v,kvs[i]? = some (k,v)/\x=kV k,fun i H=>H a=some (.frz o (.dK kvs))/\kvs.length<=i⟩
theorem MN {X:Cx} {pins:List (Addr × Obj)} {σ:St} {H:Hp} {s:Shared} {a:Addr} {o:Obj} {kvs:List (A4 × V)} {es:Array DictEntry} {ep:Nat} (I:An X pins σ H s) (e:H a=some (.frz o (.dK kvs))) (he:o.data=.dict es ep) :
  (a == sysModules)=false/\∃ vs,KV kvs vs/\s.heap.DictAt (A2 X.prog X.w) a vs ep:=by
 obtain ⟨ho,z,hd,vs,rel,o',Tn,Tr,h1,h2,h3,h4⟩:=(show A6 X.prog X.w H s.heap a (.frz o (.dK kvs)) from I.hok a _ e)
 rw [ho] at h1;cases h1
 rw [he] at h3;injection h3 with h5 h6;subst h5 h6;exact ⟨hd,vs,rel,o,es,ho,h2,he,h4⟩
theorem O9 {P:Program} {w:World} {K:YX} {tg:Expr} (a it:Addr) {kvs:List (A4 × V)} {o:Obj} {es:Array DictEntry} {ep:Nat} (he:o.data=.dict es ep) :
  Mh P w K tg (Uw a kvs o) [it] it (fun i h=>h.IsKeyIter it a i kvs.length ep) where
 mem:=by simp
 obj:=fun i h st b hb=>by
  have e:b=it:=by simpa using hb
  subst e;obtain ⟨o,e,c,d⟩:=st;exact ⟨o,e,fun v z=>by rw [d] at z; cases z⟩
 keep:=fun i h h' st k=>st.at fun o e=>k it (by simp) o e
 item:=by
  intro X hP hw hK hc i pins s σ H E I hf st hg;subst hP hw hK;obtain ⟨hq,Bv⟩:=hg;obtain ⟨hd,vs,rel,da⟩:=MN I hq he;have hx:kvs[i]? = some kvs[i]:=by simp [Bv]
  obtain ⟨⟨k,v⟩,hv,e1,e2⟩:=Paired.at rel hx;have hl:kvs.length=vs.length:=rel.length;obtain ⟨f0,f1,f2,f3,f4,f5⟩:=hf it (by simp);rw [hl] at st;refine wpAny_pyNext_dict_item st da hv fun key h' hkey AQ sb=>?_
  have I1:An X pins σ H { s with heap:=h' }:=I.turned (t':=s.toks) (fun b o hb e=>(sb.2 b hb).trans e) f0 f1 f3 f4 f5;rw [<-hl] at AQ;obtain ⟨o',e,c,d⟩:=id AQ;refine ⟨key,rfl,IU (s:={ s with heap:=h' }) e c d (by decide) ⟨kV k,H,I1,OR hkey,⟨rfl,k,kvs[i].2,?_,rfl⟩,AQ,fun b hb=>(hf b hb).1⟩⟩;have Vn:kvs[i].1=k:=e1;rw [hx,<-Vn]
 done:=by
  intro X hP hw hK hc i pins s σ H E I hf st hg;subst hP hw hK;obtain ⟨hq,hle⟩:=hg;obtain ⟨hd,vs,rel,da⟩:=MN I hq he;have hl:kvs.length=vs.length:=rel.length;obtain ⟨f0,f1,f2,f3,f4,f5⟩:=hf it (by simp);rw [hl] at st;exact wpAny_pyNext_dict_end (I.ok.hd hc) st da (by simp; lia) fun h' eb=>⟨rfl,I.turned (t':=s.toks) (fun b o hb e=>eb b o hb e) f0 f1 f3 f4 f5⟩
 self:=fun _ _ _ _ _ st h=>wpAny_pyIter_keyiter st h
def Ej (H:Hp) (a:Addr) (kvs:List (A4 × V)) (o:Obj) (H':Hp):Prop:=(H a=some (.dK kvs)/\H'=upd H a (.frz o (.dK kvs)))\/(H a=some (.frz o (.dK kvs))/\H'=H)
theorem Ej.at {H H':Hp} {a:Addr} {kvs:List (A4 × V)} {o:Obj} (f:Ej H a kvs o H'):H' a=some (.frz o (.dK kvs)):=by
 rcases f with ⟨_,rfl⟩ | ⟨e,rfl⟩
 ·exact Ab
 ·exact e
theorem Ej.ne {H H':Hp} {a b:Addr} {kvs:List (A4 × V)} {o:Obj} (f:Ej H a kvs o H') (h:b ≠ a):H' b=H b:=by
 rcases f with ⟨_,rfl⟩ | ⟨e,rfl⟩
 ·exact Af h
 ·rfl
theorem An.freeze {X:Cx} {pins:List (Addr × Obj)} {σ:St} {H:Hp} {s:Shared} {a:Addr} {kvs:List (A4 × V)} (I:An X pins σ H s) (e:Rd H a (.dK kvs)) :
  ∃ o es ep H',o.data=.dict es ep/\Ej H a kvs o H'/\An X pins σ H' s:=by
 rcases e with e | ⟨o,e⟩
 ·obtain ⟨z,hd,vs,rel,o,es,ep,h1,h2,h3,h4⟩:=(show A6 X.prog X.w H s.heap a (.dK kvs) from I.hok a _ e)
  exists o,es,ep,upd H a (.frz o (.dK kvs)),h3,.inl ⟨e,rfl⟩;exact I.write (x:=a) (e:=a) (h':=s.heap) (t':=s.toks) (by rw [e]; exact True.intro) (.inl rfl) (fun b u _ q=>q) ⟨o,h1⟩ ⟨h1,z,hd,vs,rel,o,es,ep,h1,h2,h3,h4⟩
 ·obtain ⟨ho,z,hd,vs,rel,o',es,ep,h1,h2,h3,h4⟩:=(show A6 X.prog X.w H s.heap a (.frz o (.dK kvs)) from I.hok a _ e)
  rw [ho] at h1;cases h1
  exact ⟨o,es,ep,H,h3,.inr ⟨e,rfl⟩,I⟩
def iDict (tl:TE):TI:=fun σ H R=>tl σ H fun x H1=>∃ a kvs,x=.ref a/\Rd H1 a (.dK kvs)/\∀ o H2,Ej H1 a kvs o H2->R (Uw a kvs o) H2
theorem NJ {X:Cx} {tg l:Expr} {tl:TE} (hl:PE X l tl):PI X tg l (iDict tl):=by
 intro pins s σ H R I h;refine B6 (hl (pins:=pins) s σ H _ I h) fun v s1 ⟨x,H1,I1,r1,q1⟩=>?_
 obtain ⟨a,kvs,e,hr,q⟩:=q1;subst e;cases r1
 obtain ⟨o,es,ep,H2,he,fz,I2⟩:=I1.freeze hr;obtain ⟨hd,vs,rel,da⟩:=MN I2 fz.at he;refine wpAny_pyIter_dict hd da ?_;refine ⟨s1.heap.objs.size,[s1.heap.objs.size],_,_,H2,rfl,I2.kept (t':=s1.toks) fun b o e=>YW _ e,O9 a _ he,⟨_,Zf _ rfl,rfl,?_⟩,fun b hb=>?_,q o H2 fz⟩
 ·rw [rel.length]; rfl
 ·have e:b=s1.heap.objs.size:=by simpa using hb
  subst e;exact I2.fpOk (Zb _) (I2.hok.fresh (Zb _))
theorem RG {a:Addr} {kvs:List (A4 × V)} {o:Obj} {g:TG} {tb:TS} {D:EW} {σ:St} {H:Hp} (Pv:Nat->St->Hp->Prop) (h0:Pv 0 σ H) (hl:∀ i σ H,i<=kvs.length->Pv i σ H->H a=some (.frz o (.dK kvs)))
  (hs:∀ i k v σ H,kvs[i]? = some (k,v)->Pv i σ H->g (kV k) σ H fun Ay H2=>tb { D with nx:=Pv (i + 1),ct:=Pv (i + 1),bk:=D.nx } Ay H2) (hd:∀ σ H,Pv kvs.length σ H->D.nx σ H) :
  ∃ W:Nat->Nat->St->Hp->Prop,(∃ m,W 0 m σ H)/\∀ i m σ H,W i m σ H ->
   ((Uw a kvs o).stop i H/\D.nx σ H)\/((Uw a kvs o).go i H/\∃ N:St->Hp->Prop,(∀ As H',N As H'->∃ m',m' < m/\W (i + 1) m' As H')/\∀ x H',(Uw a kvs o).yld i H x H'->g x σ H' fun Ay H2=>tb { D with nx:=N,ct:=N,bk:=D.nx } Ay H2):=by
 exists fun i m σ H=>m=kvs.length - i/\i<=kvs.length/\Pv i σ H,⟨kvs.length,by simp,Z7 _,h0⟩
 rintro i m σ H ⟨rfl,hi,p⟩;have q:=hl i σ H hi p;by_cases Bv:i < kvs.length
 ·refine .inr ⟨⟨q,Bv⟩,Pv (i + 1),fun As H' p'=>⟨kvs.length - (i + 1),by lia,rfl,Bv,p'⟩,fun x H' y=>?_⟩;obtain ⟨e,k,v,e1,e2⟩:=y;subst e e2;exact hs i k v σ _ e1 p
 ·have e:i=kvs.length:=by lia
  subst e;exact .inl ⟨⟨q,Zb _⟩,hd σ H p⟩
section
variable {prog:Program} {w:World} {A:Around} {E:Value->Shared->Prop} {s:Shared}
end
theorem Cj (a:List Nat):¬ a < a:=bM a
section
variable {X:Cx} {pins:List (Addr × Obj)} {σ As:St} {H H':Hp} {s2 s':Shared} {scope:Scope} {cl:List (Str × Addr)} {N:List Str} {fp:List Addr} {C D:Addr} {h₁ h':Heap} {t':Nat}
theorem EJ {ob:HO} (I:An X pins σ H s2) (hf:∀ b ∈ fp,Ek X pins H b) (hfo:∀ b ∈ fp,∃ o,s2.heap.get? b=some o) (co:BN X scope cl) (hσ:Cp X cl scope N σ As)
  (k:∀ b o,s2.heap.get? b=some o->h₁.get? b=some o) (hD:s2.heap.objs.size<=D) (hC:s2.heap.objs.size<=C) (hDC:C ≠ D)
  (newO:A6 X.prog X.w (upd H D ob) h₁ D ob) {m:Str->Option Value} (hn:h₁.Ns C m) :
  An (Am X scope cl N s2 H C fp) [] As (upd H D ob) { s2 with heap:=h₁,toks:=t' }:=by
 have fD:H D=none:=I.hok.fresh hD;have fC:H C=none:=I.hok.fresh hC;have lts:∀ b ∈ fp,b < s2.heap.objs.size:=fun b hb=>let ⟨_,e⟩:=hfo b hb; Zc e
 have cells_lt:∀ x c,cl.lookup x=some c->c < s2.heap.objs.size:=fun x c e=>by
  obtain ⟨v,q⟩:=I.cell x c (co.sub x c e);exact q.lt
 have ok:Cx.Ok (Am X scope cl N s2 H C fp):=by
  refine ⟨I.ok.mod,?_,I.ok.glob,I.ok.blt,hC,?_,?_,?_,I.ok.hd,I.ok.frames,.inl rfl,?_,I.bs,Z2 I.ok.bsz I.sz,?_,?_,I.stack,I.stkFree⟩
  ·exact co.kind
  ·exact fun x y c e1 e2=>I.ok.inj x y c (co.sub x c e1) (co.sub y c e2)
  ·exact fun x h=>co.has x h
  ·exact fun x c h _=>by cases h
  ·intro b hb;refine ⟨fun e=>?_,fun x c e=>(hf b hb).2.2.2.2.1 x c (co.sub x c e)⟩;have z:=lts b hb;exact absurd (Zk z hC) (by rw [show b=C from e]; exact ZK _)
  ·intro b o e hb;have Fz:b ∈ fp:=hb;rcases (hf b Fz).2.2.2.1 with z | z
   ·exact I.ok.noex b o e z
   ·exact absurd (Zk (Zc e) (Z2 I.ok.bsz z)) (ZK _)
  ·intro b hb hz;have Fz:b ∈ fp:=hb;obtain ⟨_,f1,f2,_⟩:=hf b Fz;rcases Zg.mp (I.stkSub b hz) with e | e
   ·exact f1 e
   ·exact f2 e
 refine ⟨ok,rfl,I.bare,Un.laid k hD fD,?_,?_,?_,?_,?_,I.hok.laid k hD newO,hσ.1⟩
 ·refine ⟨m,hn,fun i x v e1 e2 _=>?_⟩;obtain ⟨⟨j,j1,j2⟩,kk,kr⟩:=hσ.2 i x v e1 e2;obtain ⟨mo,_,hl⟩:=I.loc;obtain ⟨u,r,l⟩:=hl j x v j1 j2 (by
   rcases kk with z | z
   ·exact .inr (.inl z)
   ·exact .inr (.inr z))
  refine ⟨u,r,.inr ⟨kr,?_⟩⟩;obtain ⟨c,hc⟩:=co.has x kr;rcases l with ⟨z,_⟩ | ⟨_,c',Ht,hcell⟩
  ·rcases kk with q | q
   ·rw [z] at q; cases q
   ·rw [z] at q; cases q
  ·have e3:=co.sub x c hc;rw [Ht] at e3;have e4:c'=c:=Zo.inj e3;subst e4;obtain ⟨o,ho,hd⟩:=hcell;exact ⟨c',hc,o,k _ o ho,hd⟩
 ·intro x c e;obtain ⟨v,o,ho,hd⟩:=I.cell x c (co.sub x c e);exact ⟨v,o,k _ o ho,hd⟩
 ·show upd H D ob C=none
  rw [Af hDC];exact fC
 ·intro x c e;rw [Af (Zh (Zk (cells_lt x c e) hD))];exact I.freeC x c (co.sub x c e)
 ·intro p hp;cases hp
end
section
variable {prog:Program} {w:World} {A:Around} {R:Result->Shared->Prop} {s:Shared}
theorem BM {kx vx target iter:Expr} {ifs:List Expr} {scope:Scope} {pos:Pos} {it:Value} {D:Addr} {env:Env} (I:Nat->Shared->Prop)
  (turn:∀ n s,I n s->wpAny (model prog w) A (pyNext it) (fun r AJ=>match r with
   | none=>R (.ok .next) AJ
   | some v=>wpAny (model prog w) A (letOwnedTupleGo target it v) (fun _ Ll=>wpAny (model prog w) A (assign target env v) (fun _ Er=>
     wpAny (model prog w) A (forIn ifs true fun c r=>if r=true then do let ok <- isTrue c env (eval c env); pure (ForInStep.yield ok) else pure (ForInStep.yield r)) (fun ok BZ=>
      if ok=true then wpAny (model prog w) A (eval kx env) (fun kv Q0=>wpAny (model prog w) A (eval vx env) (fun vv Qz=>
       wpAny (model prog w) A (dictSet D kv vv) (fun _ VO=>∃ m,m < n/\I m VO) (notedBy (model prog w) A env fun e s'=>R (.error e) s') Qz) (notedBy (model prog w) A env fun e s'=>R (.error e) s') Q0) (notedBy (model prog w) A env fun e s'=>R (.error e) s') BZ
      else ∃ m,m < n/\I m BZ) (notedBy (model prog w) A env fun e s'=>R (.error e) s') Er) (notedBy (model prog w) A env fun e s'=>R (.error e) s') Ll) (notedBy (model prog w) A env fun e s'=>R (.error e) s') AJ) (notedBy (model prog w) A env fun e s'=>R (.error e) s') s)
  (n:Nat) (h:I n s) :
  codeAny (model prog w) A (.compLoop (.DictComp kx vx [⟨target,iter,ifs,0⟩] scope pos) 0 it (.ref D) env) R s:=by
 refine codeAny_loop rfl I (fun n s hI=>?_) n h;show wpAny _ A ((compTurn (.DictComp kx vx [⟨target,iter,ifs,0⟩] scope pos) 0 it (.ref D) env).onRaise (fun x=>do noteFrame x env; theTreesLotGoes x)) _ _ s
 refine wpAny_noted ?_;rw [compTurn_dict];refine wpAny_bind (wpAny_standAt (wpAny_bind (wpAny_mono (turn n s hI) (fun r AJ h₁=>?_) fun _ _ h'=>h')));cases r with
 | none=>exact wpAny_pure h₁
 | some v=>
  refine wpAny_bind (wpAny_mono h₁ (fun _ Ll R0=>?_) fun _ _ h'=>h');refine wpAny_bind (wpAny_mono R0 (fun _ Er MH=>wpAny_bind (wpAny_mono MH (fun ok BZ MG=>?_) fun _ _ h'=>h')) fun _ _ h'=>h');cases ok with
  | false=>exact wpAny_pure ⟨rfl,MG⟩
  | true=>
   exact wpAny_bind (wpAny_bind (wpAny_mono MG (fun kv Q0 Vf=>wpAny_bind (wpAny_holding (wpAny_mono Vf (fun vv Qz Ve=>wpAny_bind (wpAny_standAt (wpAny_holding (wpAny_mono Ve (fun _ VO Yi=>wpAny_pure ⟨rfl,Yi⟩) fun _ _ h'=>h')))) fun _ _ h'=>h'))) fun _ _ h'=>h'))
end
theorem Kk {X:Cx} {pins:List (Addr × Obj)} {σ:St} {H:Hp} {s:Shared} {a:Addr} {k:A4} {v:V} {u r:Value} {kvs:List (A4 × V)} {A:Around} {E:Value->Shared->Prop} {Q:Unit->Shared->Prop} (I:An X pins σ H s) (e:H a=some (.dK kvs)) (l:kvs.length < sizeLine) (ry:A3 (kV k) u) (rv:A3 v r)
  (h:∀ s',An X pins σ (upd H a (.dK (Bp kvs k v))) s'->Q () s'):wpAny (model X.prog X.w) A (dictSet a u r) Q E s:=by
 obtain ⟨z,hd,vs,rel,dd⟩:=RL I.hok e;have hz:vs.length<=sizeLine:=by rw [<-rel.length]; exact z
 have hl:(Bp kvs k v).length<=sizeLine:=by have:=Cv kvs k v; lia
 refine wpAny_dictSet_pairs (hsz:=hz) (Hs ry) dd fun h' J2 hs=>h _ ?_
 have he:∃ q,h'.get? a=some q:=let ⟨q,_,_,hq,_⟩:=J2; ⟨q,hq⟩;exact Gp I (by rw [e]; exact True.intro) hs he (KU hl hd (rel.put k rv) J2)
def Qx (wi:TI) (g:TG) (tt:TT) (tk tv:TE) (σ0:St->St):TE:=fun σ H Q=>wi σ H fun J H1=>∀ D,H1 D=none->∃ W:Nat->Nat->St->Hp->Prop,(∃ m,W 0 m (σ0 σ) (upd H1 D (.dK []))) /\
 ∀ i m As H',W i m As H'->(J.stop i H'/\Q (.ref D) H')\/(J.go i H'/\∀ x H2,J.yld i H' x H2->g x As H2 fun Ay H3=>tt Ay H3 fun b H4=>
  if b=true then tk Ay H4 (fun y H5=>tv Ay H5 fun v H6=>∃ kvs k,y=kV k/\H6 D=some (.dK kvs)/\kvs.length < sizeLine/\∃ m',m' < m/\W (i + 1) m' Ay (upd H6 D (.dK (Bp kvs k v)))) else ∃ m',m' < m/\W (i + 1) m' Ay H4)
theorem Ir {X:Cx} {tg iter kx vx:Expr} {ifs:List Expr} {scope:Scope} {cl:List (Str × Addr)} {N:List Str} {pos:Pos} {wi:TI} {g:TG} {tt:TT} {tk tv:TE} {σ0:St->St} (hc:X.calm=true) (co:BN X scope cl)
  (hσ:∀ σ,σ.length=X.N.length->Cp X cl scope N σ (σ0 σ)) (hi:PI X tg iter wi)
  (hb:∀ s2 H C fp,PG (Am X scope cl N s2 H C fp) tg g/\Uu (Am X scope cl N s2 H C fp) ifs tt/\PE (Am X scope cl N s2 H C fp) kx tk/\PE (Am X scope cl N s2 H C fp) vx tv)
  (hs:∀ x,foldedSetIterable iter X.env x=pure x:=by intro _; rfl):PE X (.DictComp kx vx [⟨tg,iter,ifs,0⟩] scope pos) (Qx wi g tt tk tv σ0):=by
 intro pins s σ H Q I h;rw [arm_eval_DictComp];refine wpAny_comprehension_free (use:=none) rfl hs co.clos co.kind co.names (wpAny_mono (hi (pins:=pins) s σ H _ I h) (fun xv s1 h1=>wpAny_mono h1 (fun itv s2 h2=>?_) fun _ _ e=>e) fun _ _ e=>e);obtain ⟨it,fp,tn,J,H2,rfl,I2,T,Fj,f2,hW⟩:=h2;refine wpAny_newObj_type (wpAny_newFunctionEnv co.cell (by intro y hy; cases hy) (fun h₁ B5 Bl=>?_) co.kind);dsimp only at B5 Bl ⊢;generalize IS:s2.heap.push { cls:=.type "dict",dict:=none,data:=.dict #[] } = HH at B5 Bl ⊢;have By:HH.objs.size=s2.heap.objs.size + 1:=by rw [<-IS,ZH]
 have old:∀ b o,s2.heap.get? b=some o->h₁.get? b=some o:=fun b o e=>
  Bl.extBut b o (Zh (by rw [By]; exact Z0 (Zc e))) (YW _ (IS ▸ YW _ e))
 have newD:A6 X.prog X.w (upd H2 s2.heap.objs.size (.dK [])) h₁ s2.heap.objs.size (.dK []):=
  let ⟨z,hd,vs,rel,o,es,ep,ho,r⟩:=Ja (P:=X.prog) (w:=X.w) (H:=upd H2 s2.heap.objs.size (.dK [])) s2.heap I2.big
  ⟨z,hd,vs,rel,o,es,ep,Bl.extBut _ _ (Zh (by rw [By]; exact Z6 _)) (YW _ (IS ▸ ho)),r⟩
 obtain ⟨W,⟨m0,w0⟩,turn⟩:=hW s2.heap.objs.size I2.fresh;have hfo:∀ b ∈ fp,∃ o,s2.heap.get? b=some o:=fun b hb=>let ⟨o,e,_⟩:=T.obj _ _ Fj b hb; ⟨o,e⟩
 have I3:An (Am X scope cl N s2 H2 HH.objs.size fp) [] (σ0 σ) (upd H2 s2.heap.objs.size (.dK [])) { s2 with heap:=h₁,toks:=s2.toks + ([]:List (Str × Value)).length }:=
  EJ I2 f2 hfo co (hσ σ I.len) old (Zb _) (by rw [By]; exact ZC _) (ZO (by rw [By]; exact Z6 _)) newD B5
 have fC:s2.heap.objs.size<=HH.objs.size:=by rw [By]; exact ZC _
 obtain ⟨hg,ht,hk,hv⟩:=hb s2 H2 HH.objs.size fp;have loop:∀ BZ:Shared,BZ = { s2 with heap:=h₁,toks:=s2.toks + ([]:List (Str × Value)).length } ->
   codeAny (model X.prog X.w) X.A (.compLoop (.DictComp kx vx [⟨tg,iter,ifs,0⟩] scope pos) 0 (.ref it) (.ref s2.heap.objs.size) (compEnvC scope cl HH.objs.size X.env))
    (compPost (model X.prog X.w) X.A X.xe none (EP X pins σ Q) (.ref s2.heap.objs.size) HH.objs.size) BZ:=by
  rintro BZ rfl;have stat:∀ {H':Hp} ,(∀ b ∈ fp,H' b=none)->∀ b ∈ fp,Ek (Am X scope cl N s2 H2 HH.objs.size fp) [] H' b:=fun hn b hb=>by
   refine ⟨hn b hb,?_,?_,.inl hb,?_,fun p hp=>by cases hp⟩
   ·obtain ⟨o,e⟩:=hfo b hb;exact Zh (show b < HH.objs.size by rw [By]; exact Z0 (Zc e))
   ·intro hz;obtain ⟨_,q1,q2,_⟩:=f2 b hb;rcases Zg.mp (I2.stkSub b hz) with e | e
    ·exact q1 e
    ·exact q2 e
   ·exact fun x c e=>(f2 b hb).2.2.2.2.1 x c (co.sub x c e)
  refine BM (fun n s'=>∃ i As H',An (Am X scope cl N s2 H2 HH.objs.size fp) [] As H' s'/\tn i s'.heap/\(∀ b ∈ fp,H' b=none)/\W i n As H') ?_ m0
   ⟨0,σ0 σ,_,I3,T.keep _ _ _ Fj fun b hb o e=>old b o e,fun b hb=>?_,w0⟩
  ·rintro n s4 ⟨i,FK,H4,I4,Lp,LQ,w4⟩;rcases turn i n FK H4 w4 with ⟨stop,qn⟩ | ⟨go,step⟩
   ·refine wpAny_mono (T.done (Am X scope cl N s2 H2 HH.objs.size fp) rfl rfl rfl hc i [] s4 FK H4 (fun _ _=>False) I4 (stat LQ) Lp stop) (fun r s5 ⟨hr,I5⟩=>?_) fun _ _ z=>z.elim
    subst hr;obtain ⟨m5,R3,_⟩:=id I5.loc;exact ⟨m5,R3,fun h' Kc=>⟨.ref _,H4,EL I2 f2 fC I5 Kc,rfl,qn⟩⟩
   ·refine wpAny_mono (T.item (Am X scope cl N s2 H2 HH.objs.size fp) rfl rfl rfl hc i [] s4 FK H4 (fun _ _=>False) I4 (stat LQ) Lp go) (fun r s5 ⟨u,hr,h5⟩=>?_) fun _ _ z=>z.elim
    subst hr;refine wpAny_mono h5 (fun _ s6 ⟨x,H6,I6,r6,y6,HZ,RF⟩=>?_) fun _ _ z=>z.elim
    have RX:=I6.pinned (stat RF) (T.obj _ _ HZ);refine wpAny_mono (hg s6 FK H6 x u _ RX r6 (step x H6 y6)) (fun _ s7 ⟨El,H7,I7,q7⟩=>?_) fun _ _ z=>z.elim
    refine wpAny_mono (ht s7 El H7 _ I7 q7) (fun ok s8 ⟨H8,I8,q8⟩=>?_) fun _ _ z=>z.elim
    have again:∀ {s9:Shared} {FJ:St} {H9:Hp} ,An (Am X scope cl N s2 H2 HH.objs.size fp) ([] ++ Dx fp s6.heap) FJ H9 s9->(∃ m',m' < n/\W (i + 1) m' FJ H9)->∃ m,m < n/\∃ i As H',An (Am X scope cl N s2 H2 HH.objs.size fp) [] As H' s9/\tn i s9.heap/\(∀ b ∈ fp,H' b=none)/\W i m As H':=fun {s9 FJ H9} I9 n9=>by
     obtain ⟨m',hm,w9⟩:=n9;refine ⟨m',hm,i + 1,FJ,H9,I9.unpinned,T.keep _ _ _ HZ fun b hb o e=>(I9.pin (b,o) (Zj _ (Zj _ (AX hb e)))).1,fun b hb=>?_,w9⟩;obtain ⟨o,e,d⟩:=T.obj _ _ HZ b hb;exact (I9.pin (b,o) (Zj _ (Zj _ (AX hb e)))).2.1
    cases ok with
    | false=>
     rw [if_neg Zn] at q8 ⊢;exact again I8 q8
    | true=>
     rw [if_pos rfl] at q8 ⊢;refine wpAny_mono (hk s8 El H8 _ I8 q8) (fun yk s9 ⟨k,H9,I9,r9,q9⟩=>?_) fun _ _ z=>z.elim
     refine wpAny_mono (hv s9 El H9 _ I9 q9) (fun yv V3 ⟨v,Nf,RY,VX,kvs,key,ek,hacc,hsz,QU⟩=>?_) fun _ _ z=>z.elim
     subst ek;exact Kk (X:=Am X scope cl N s2 H2 HH.objs.size fp) RY hacc hsz r9 VX fun QN WO=>again WO QU
  ·have z:=(f2 b hb).1;obtain ⟨o,e⟩:=hfo b hb;rw [Af (Zh (Zc e))];exact z
 exact codeAny_compStart_dict (loop _ rfl) (T.self _ 0 _ _ _ (T.keep _ _ _ Fj fun b hb o e=>old b o e) (loop _ rfl))
theorem QV {X:Cx} {ix:Nat} {x:Str} {px spos:Pos} {tg iter kx vx:Expr} {ifs:List Expr} {scope:Scope} {cl:List (Str × Addr)} {N:List Str} {pos:Pos} {wi:TI} {g:TG} {tt:TT} {tk tv:TE} {σ0:St->St} (hN:X.N.Nodup) (hix:X.N[ix]? = some x) (hlx:Vv X.env.scope x) (hc:X.calm=true) (co:BN X scope cl)
  (hσ:∀ σ,σ.length=X.N.length->Cp X cl scope N σ (σ0 σ)) (hi:PI X tg iter wi)
  (hb:∀ s2 H C fp,PG (Am X scope cl N s2 H C fp) tg g/\Uu (Am X scope cl N s2 H C fp) ifs tt/\PE (Am X scope cl N s2 H C fp) kx tk/\PE (Am X scope cl N s2 H C fp) vx tv)
  (hsw:swapsWith (.DictComp kx vx [⟨tg,iter,ifs,0⟩] scope pos) (some (.Name x px)) spos.line X.env=pure true:=by rfl)
  (hs:∀ x,foldedSetIterable iter X.env x=pure x:=by intro _; rfl) (hf:X.fn x=true\/X.env.scope.names.lookup x=some .local:=by first | exact .inl rfl | exact .inr rfl | assumption) :
  PS X (.Assign [.Name x px] (.DictComp kx vx [⟨tg,iter,ifs,0⟩] scope pos) spos) (Qy (Qx wi g tt tk tv σ0) (Ke ix)):=by
 intro pins s σ H DD I h;rw [exec_Assign_Name_used _ _ _ _ hsw];refine wpAny_bind (wpAny_standAt (wpAny_bind ?_));show wpAny _ X.A (do let _ <- comprehension (.DictComp kx vx [⟨tg,iter,ifs,0⟩] scope pos) scope X.env _ newDict false (eval iter X.env) (some (assign (.Name x px) X.env))) _ _ s
 refine wpAny_bind (wpAny_mono (wpAny_comprehension_free (use:=some (assign (.Name x px) X.env)) (Q:=fun _ s'=>SP X pins DD .next s') rfl hs co.clos co.kind co.names
  (wpAny_mono (hi (pins:=pins) s σ H _ I h) (fun xv s1 h1=>wpAny_mono h1 (fun itv s2 h2=>?_) fun _ _ e=>e) fun _ _ e=>e)) (fun _ s' hq=>wpAny_pure (wpAny_pure hq)) fun _ _ e=>e)
 obtain ⟨it,fp,tn,J,H2,rfl,I2,T,Fj,f2,hW⟩:=h2;refine wpAny_newObj_type (wpAny_newFunctionEnv co.cell (by intro y hy; cases hy) (fun h₁ B5 Bl=>?_) co.kind);dsimp only at B5 Bl ⊢;generalize IS:s2.heap.push { cls:=.type "dict",dict:=none,data:=.dict #[] } = HH at B5 Bl ⊢;have By:HH.objs.size=s2.heap.objs.size + 1:=by rw [<-IS,ZH]
 have old:∀ b o,s2.heap.get? b=some o->h₁.get? b=some o:=fun b o e=>
  Bl.extBut b o (Zh (by rw [By]; exact Z0 (Zc e))) (YW _ (IS ▸ YW _ e))
 have newD:A6 X.prog X.w (upd H2 s2.heap.objs.size (.dK [])) h₁ s2.heap.objs.size (.dK []):=
  let ⟨z,hd,vs,rel,o,es,ep,ho,r⟩:=Ja (P:=X.prog) (w:=X.w) (H:=upd H2 s2.heap.objs.size (.dK [])) s2.heap I2.big
  ⟨z,hd,vs,rel,o,es,ep,Bl.extBut _ _ (Zh (by rw [By]; exact Z6 _)) (YW _ (IS ▸ ho)),r⟩
 obtain ⟨W,⟨m0,w0⟩,turn⟩:=hW s2.heap.objs.size I2.fresh;have hfo:∀ b ∈ fp,∃ o,s2.heap.get? b=some o:=fun b hb=>let ⟨o,e,_⟩:=T.obj _ _ Fj b hb; ⟨o,e⟩
 have I3:An (Am X scope cl N s2 H2 HH.objs.size fp) [] (σ0 σ) (upd H2 s2.heap.objs.size (.dK [])) { s2 with heap:=h₁,toks:=s2.toks + ([]:List (Str × Value)).length }:=
  EJ I2 f2 hfo co (hσ σ I.len) old (Zb _) (by rw [By]; exact ZC _) (ZO (by rw [By]; exact Z6 _)) newD B5
 have fC:s2.heap.objs.size<=HH.objs.size:=by rw [By]; exact ZC _
 obtain ⟨hg,ht,hk,hv⟩:=hb s2 H2 HH.objs.size fp;have loop:∀ BZ:Shared,BZ = { s2 with heap:=h₁,toks:=s2.toks + ([]:List (Str × Value)).length } ->
   codeAny (model X.prog X.w) X.A (.compLoop (.DictComp kx vx [⟨tg,iter,ifs,0⟩] scope pos) 0 (.ref it) (.ref s2.heap.objs.size) (compEnvC scope cl HH.objs.size X.env))
    (compPost (model X.prog X.w) X.A X.xe (some (assign (.Name x px) X.env)) (fun _ s'=>SP X pins DD .next s') (.ref s2.heap.objs.size) HH.objs.size) BZ:=by
  rintro BZ rfl;have stat:∀ {H':Hp} ,(∀ b ∈ fp,H' b=none)->∀ b ∈ fp,Ek (Am X scope cl N s2 H2 HH.objs.size fp) [] H' b:=fun hn b hb=>by
   refine ⟨hn b hb,?_,?_,.inl hb,?_,fun p hp=>by cases hp⟩
   ·obtain ⟨o,e⟩:=hfo b hb;exact Zh (show b < HH.objs.size by rw [By]; exact Z0 (Zc e))
   ·intro hz;obtain ⟨_,q1,q2,_⟩:=f2 b hb;rcases Zg.mp (I2.stkSub b hz) with e | e
    ·exact q1 e
    ·exact q2 e
   ·exact fun x c e=>(f2 b hb).2.2.2.2.1 x c (co.sub x c e)
  refine BM (fun n s'=>∃ i As H',An (Am X scope cl N s2 H2 HH.objs.size fp) [] As H' s'/\tn i s'.heap/\(∀ b ∈ fp,H' b=none)/\W i n As H') ?_ m0
   ⟨0,σ0 σ,_,I3,T.keep _ _ _ Fj fun b hb o e=>old b o e,fun b hb=>?_,w0⟩
  ·rintro n s4 ⟨i,FK,H4,I4,Lp,LQ,w4⟩;rcases turn i n FK H4 w4 with ⟨stop,qn⟩ | ⟨go,step⟩
   ·refine wpAny_mono (T.done (Am X scope cl N s2 H2 HH.objs.size fp) rfl rfl rfl hc i [] s4 FK H4 (fun _ _=>False) I4 (stat LQ) Lp stop) (fun r s5 ⟨hr,I5⟩=>?_) fun _ _ z=>z.elim
    subst hr;obtain ⟨m5,R3,_⟩:=id I5.loc;have I6:An X pins σ H4 s5:=EL (h':=s5.heap) I2 f2 fC I5 (Heap.SameBut.refl _ _);have cC:∀ y c,X.env.cells.lookup y=some c->c ≠ HH.objs.size:=fun y c e=>by
     obtain ⟨v,q⟩:=I2.cell y c e;exact Zh (Zk q.lt fC)
    have lC:X.env.locals ≠ HH.objs.size:=Zh (Zk I2.lt fC);show wpAny _ X.A (assign (.Name x px) X.env (.ref s2.heap.objs.size)) _ X.xe s5
    refine wpAny_assign_Name (EX I6 hN hix hlx (v:=.ref s2.heap.objs.size) rfl (fun s7 I7 ⟨a,sb,ha⟩=>?_) hf);have aC:a ≠ HH.objs.size:=by
     rcases ha with rfl | ha
     ·exact lC
     ·exact cC _ _ ha
    refine ⟨m5,R3.sameBut sb (Ne.symm aC),fun h' Kc=>⟨_,H4,?_,qn⟩⟩;exact I7.turned (t':=s7.toks) (it:=HH.objs.size) (fun b o hb e=>(Kc.2 b hb).trans e) I5.free (Ne.symm lC) (.inr (Z2 I2.sz fC)) cC fun p hp z=>by
     have e:=(I2.pin p hp).1;exact absurd (Zk (Zc e) fC) (by rw [z]; exact ZK _)
   ·refine wpAny_mono (T.item (Am X scope cl N s2 H2 HH.objs.size fp) rfl rfl rfl hc i [] s4 FK H4 (fun _ _=>False) I4 (stat LQ) Lp go) (fun r s5 ⟨u,hr,h5⟩=>?_) fun _ _ z=>z.elim
    subst hr;refine wpAny_mono h5 (fun _ s6 ⟨x,H6,I6,r6,y6,HZ,RF⟩=>?_) fun _ _ z=>z.elim
    have RX:=I6.pinned (stat RF) (T.obj _ _ HZ);refine wpAny_mono (hg s6 FK H6 x u _ RX r6 (step x H6 y6)) (fun _ s7 ⟨El,H7,I7,q7⟩=>?_) fun _ _ z=>z.elim
    refine wpAny_mono (ht s7 El H7 _ I7 q7) (fun ok s8 ⟨H8,I8,q8⟩=>?_) fun _ _ z=>z.elim
    have again:∀ {s9:Shared} {FJ:St} {H9:Hp} ,An (Am X scope cl N s2 H2 HH.objs.size fp) ([] ++ Dx fp s6.heap) FJ H9 s9->(∃ m',m' < n/\W (i + 1) m' FJ H9)->∃ m,m < n/\∃ i As H',An (Am X scope cl N s2 H2 HH.objs.size fp) [] As H' s9/\tn i s9.heap/\(∀ b ∈ fp,H' b=none)/\W i m As H':=fun {s9 FJ H9} I9 n9=>by
     obtain ⟨m',hm,w9⟩:=n9;refine ⟨m',hm,i + 1,FJ,H9,I9.unpinned,T.keep _ _ _ HZ fun b hb o e=>(I9.pin (b,o) (Zj _ (Zj _ (AX hb e)))).1,fun b hb=>?_,w9⟩;obtain ⟨o,e,d⟩:=T.obj _ _ HZ b hb;exact (I9.pin (b,o) (Zj _ (Zj _ (AX hb e)))).2.1
    cases ok with
    | false=>
     rw [if_neg Zn] at q8 ⊢;exact again I8 q8
    | true=>
     rw [if_pos rfl] at q8 ⊢;refine wpAny_mono (hk s8 El H8 _ I8 q8) (fun yk s9 ⟨k,H9,I9,r9,q9⟩=>?_) fun _ _ z=>z.elim
     refine wpAny_mono (hv s9 El H9 _ I9 q9) (fun yv V3 ⟨v,Nf,RY,VX,kvs,key,ek,hacc,hsz,QU⟩=>?_) fun _ _ z=>z.elim
     subst ek;exact Kk (X:=Am X scope cl N s2 H2 HH.objs.size fp) RY hacc hsz r9 VX fun QN WO=>again WO QU
  ·have z:=(f2 b hb).1;obtain ⟨o,e⟩:=hfo b hb;rw [Af (Zh (Zc e))];exact z
 exact codeAny_compStart_dict (loop _ rfl) (T.self _ 0 _ _ _ (T.keep _ _ _ Fj fun b hb o e=>old b o e) (loop _ rfl))
theorem Ga (p x:Str) (r:List Str):risingS p (x :: r)=(!ltCps x.cps.toList p.cps.toList && risingS x r):=rfl
theorem JP:∀ (p:Str) (l:List Str),risingS p l=true->(p :: l).Pairwise fun a b=>¬ b.cps.toList < a.cps.toList
 | p,[],_=>aM _ _
 | p,x :: r,h=>by
  rw [Ga,ZI,ltCps_eq] at h;have h1:¬ x.cps.toList < p.cps.toList:=by simpa using h.1
  have h2:=JP x r h.2;refine ZZ.mpr ⟨fun y hy=>?_,h2⟩;rcases Zg.mp hy with rfl | hy
  ·exact h1
  ·have h3:=(ZZ.mp h2).1 y hy;have a:p.cps.toList<=x.cps.toList:=aN.mp h1;have b:x.cps.toList<=y.cps.toList:=aN.mp h3;exact aN.mpr (eC a b)
theorem C5 {l:List Str} (h:sortedS l=true):l.Pairwise fun a b=>¬ b.cps.toList < a.cps.toList:=by
 cases l with
 | nil=>exact .nil
 | cons p l=>exact JP p l h
theorem Cy {a b:Str} (h1:¬ b.cps.toList < a.cps.toList) (h2:¬ a.cps.toList < b.cps.toList):a=b:=by
 have e:a.cps.toList=b.cps.toList:=List.le_antisymm (aN.mp h1) (aN.mp h2);cases a; cases b
 simp only [Str.mk.injEq];exact cg.mp e
theorem G4 {l m:List Str} (hl:l.Pairwise fun a b=>¬ b.cps.toList < a.cps.toList) (hm:m.Pairwise fun a b=>¬ b.cps.toList < a.cps.toList) (p:l.Perm m):l=m:=
 List.Perm.eq_of_pairwise (fun a b _ _ h1 h2=>Cy h1 h2) hl hm p
theorem E7 {l m:List Str} (hl:l.Nodup) (hm:m.Nodup) (h:∀ x,x ∈ l ↔ x ∈ m):l.Perm m:=(List.perm_ext_iff_of_nodup hl hm).mpr h
def Ld (ws:List A8) (x y:Str):Prop:=∃ u ∈ ws,(u.1=x/\u.2.1=y)\/(u.1=y/\u.2.1=x)
theorem Ld.symm {ws:List A8} {x y:Str} (h:Ld ws x y):Ld ws y x:=let ⟨u,hu,h⟩:=h; ⟨u,hu,h.symm⟩
theorem DG (u:A8):(EA u).1=u.1/\(EA u).2.1=u.2.1\/(EA u).1=u.2.1/\(EA u).2.1=u.1:=by
 unfold EA BK BL;by_cases h:u.2.1.cps.toList < u.1.cps.toList
 ·have h':¬ u.1.cps.toList < u.2.1.cps.toList:=b7 h;rw [if_pos h,if_neg h'];exact .inr ⟨rfl,rfl⟩
 ·rw [if_neg h];by_cases h':u.1.cps.toList < u.2.1.cps.toList
  ·rw [if_pos h']; exact .inl ⟨rfl,rfl⟩
  ·rw [if_neg h'];have e:u.1=u.2.1:=Cy h h';exact .inl ⟨rfl,e⟩
theorem RS {ws Qn:List A8} (p:Qn.Perm (ws.map EA)) (x y:Str):Ld Qn x y ↔ Ld ws x y:=by
 constructor
 ·rintro ⟨u,hu,h⟩;obtain ⟨v,hv,rfl⟩:=Zd.mp (p.mem_iff.mp hu);exists v,hv;rcases DG v with ⟨e1,e2⟩ | ⟨e1,e2⟩
  ·rw [e1,e2] at h; exact h
  ·rw [e1,e2] at h;rcases h with ⟨a,b⟩ | ⟨a,b⟩
   ·exact .inr ⟨b,a⟩
   ·exact .inl ⟨b,a⟩
 ·rintro ⟨v,hv,h⟩;exists EA v,p.mem_iff.mpr (Zd.mpr ⟨v,hv,rfl⟩);rcases DG v with ⟨e1,e2⟩ | ⟨e1,e2⟩
  ·rw [e1,e2]; exact h
  ·rw [e1,e2];rcases h with ⟨a,b⟩ | ⟨a,b⟩
   ·exact .inr ⟨b,a⟩
   ·exact .inl ⟨b,a⟩
theorem Kh {xs:List Str} {ws Qn:List A8} (p:Qn.Perm (ws.map EA)) (h:∀ u ∈ ws,u.1 ∈ xs/\u.2.1 ∈ xs):∀ u ∈ Qn,u.1 ∈ xs/\u.2.1 ∈ xs:=fun u hu=>by
 obtain ⟨v,hv,rfl⟩:=Zd.mp (p.mem_iff.mp hu);obtain ⟨a,b⟩:=h v hv;rcases DG v with ⟨e1,e2⟩ | ⟨e1,e2⟩ <;> rw [e1,e2]
 ·exact ⟨a,b⟩
 ·exact ⟨b,a⟩
def KZ (xs:List Str) (ws:List A8):Prop:=∀ j,0 < j->j < xs.length->∃ u ∈ ws,∃ i:Nat,i < j/\xs[i]? = some u.1/\xs[j]? = some u.2.1
theorem KZ.all {xs:List Str} {ws:List A8} (h:KZ xs ws) (S:Str->Prop) (cl:∀ x y,Ld ws x y->S x->S y) {r:Str} (hr:r ∈ xs) (sr:S r):∀ x ∈ xs,S x:=by
 have down:∀ n (i:Nat),i<=n->∀ x,xs[i]? = some x->S x->∀ x0,xs[0]? = some x0->S x0:=by
  intro n;induction n with
  | zero=>
   intro i hi x e s x0 e0;have:i=0:=by lia
   subst this;rw [e] at e0; cases e0; exact s
  | succ n ih=>
   intro i hi x e s x0 e0;by_cases hz:i=0
   ·subst hz;rw [e] at e0; cases e0; exact s
   ·obtain ⟨u,hu,k,hk,e1,e2⟩:=h i (by lia) (YZ.mp e).1;rw [e] at e2; cases e2;exact ih k (by lia) u.1 e1 (cl _ _ ⟨u,hu,.inr ⟨rfl,rfl⟩⟩ s) x0 e0
 have up:∀ x0,xs[0]? = some x0->S x0->∀ n (i:Nat),i<=n->∀ x,xs[i]? = some x->S x:=by
  intro x0 e0 s0 n;induction n with
  | zero=>
   intro i hi x e;have:i=0:=by lia
   subst this;rw [e0] at e; cases e; exact s0
  | succ n ih=>
   intro i hi x e;by_cases hz:i=0
   ·subst hz;rw [e0] at e; cases e; exact s0
   ·obtain ⟨u,hu,k,hk,e1,e2⟩:=h i (by lia) (YZ.mp e).1;rw [e] at e2; cases e2;exact cl _ _ ⟨u,hu,.inl ⟨rfl,rfl⟩⟩ (ih k (by lia) u.1 e1)
 intro x hx;obtain ⟨i,hi,e⟩:=Zm hr;obtain ⟨j,hj,e'⟩:=Zm hx;have h0:xs[0]? = some xs[0]:=YU (by lia);have s0:S xs[0]:=down i i (Zb _) r (by rw [YU hi,e]) sr _ h0;exact up _ h0 s0 j j (Zb _) x (by rw [YU hj,e'])
section
variable {ws:List A8} {r:Str} {bs cs:List (Str × Option Str)}
theorem Qp {α β:Type} {l:List (α × β)} (h:(l.map (·.1)).Nodup) {x:α} {a b:β} (ha:(x,a) ∈ l) (hb:(x,b) ∈ l):a=b:=by
 induction l with
 | nil=>cases ha
 | cons p l ih=>
  rw [Zr] at h;obtain ⟨h1,h2⟩:=Z3.mp h;have key:∀ c,(x,c) ∈ l->p.1 ≠ x:=fun c hc z=>h1 (by rw [z]; exact Zd.mpr ⟨(x,c),hc,rfl⟩)
  rcases Zg.mp ha with e | ha1
  ·rcases Zg.mp hb with e' | W2
   ·rw [<-e] at e'; cases e'; rfl
   ·exact absurd (by rw [<-e]) (key b W2)
  ·rcases Zg.mp hb with e' | W2
   ·exact absurd (by rw [<-e']) (key a ha1)
   ·exact ih h2 ha1 W2
end
section
variable {ws:List A8} {r:Str} {wk:List (Str × List Str)}
end
theorem FN {H2 H3:Hp} {vs:List V} {ws:List A8} (h:Bt H2 vs (ws.map O1)) (ht:∀ b xs,H2 b=some (.tup xs)->H3 b=some (.tup xs)):Bt H3 vs (ws.map O1):=by
 induction ws generalizing vs with
 | nil=>cases h; exact .nil
 | cons u ws ih=>
  cases h with
  | cons h1 r=>
   refine .cons ?_ (ih r);cases h1 with
   | tup ha hd=>
    refine .tup (ht _ _ ha) ?_;cases hd with
    | cons h1 r1=>
     cases r1 with
     | cons h2 r2=>
      cases r2 with
      | cons h3 r3=>
       cases r3
       cases h1
       cases h2
       cases h3
       exact .cons (.str _) (.cons (.str _) (.cons (.int _) .nil))
theorem Hn {α:Type} {l:List α} (h:l.Nodup) {i j:Nat} {x:α} (a:l[i]? = some x) (b:l[j]? = some x):i=j:=
 (dI (YZ.mp a).1 h).mp (a.trans b.symm)
def sK (nv:List (Str × V)):List (A4 × V):=nv.map fun q=>(Sum.inr q.1,q.2)
theorem CL (nv:List (Str × V)):(sK nv).length=nv.length:=YV ..
theorem K5 (nv:List (Str × V)):(sK nv).map (·.1)=(nv.map (·.1)).map Sum.inr:=by unfold sK; rw [ZA,ZA]; rfl
theorem UC (a b:List (Str × V)):sK (a ++ b)=sK a ++ sK b:=Zi ..
theorem K4:∀ {nv:List (Str × V)} {y:Str},y ∉ nv.map (·.1)->Bd (sK nv) (Sum.inr y:A4)=none
 | [],y,_=>rfl
 | q :: nv,y,h=>by
  rw [Zr,Zg,not_or] at h;show Bd ((Sum.inr q.1,q.2) :: sK nv) (Sum.inr y:A4)=none
  rw [Bo (fun z=>h.1 (Sum.inr.inj z).symm)];exact K4 h.2
theorem Dr:∀ {nv:List (Str × V)} {y:Str} {v:V},(nv.map (·.1)).Nodup->(y,v) ∈ nv->Bd (sK nv) (Sum.inr y:A4)=some v
 | [],y,v,_,h=>nomatch h
 | q :: nv,y,v,hn,h=>by
  rw [Zr] at hn;obtain ⟨h1,h2⟩:=Z3.mp hn;show Bd ((Sum.inr q.1,q.2) :: sK nv) (Sum.inr y:A4)=some v
  rcases Zg.mp h with e | h'
  ·subst e;exact Bw rfl
  ·rw [Bo (fun z=>h1 (by rw [Sum.inr.inj z]; exact Zd.mpr ⟨(y,v),h',rfl⟩))];exact Dr h2 h'
theorem Hi {nv:List (Str × V)} {y:Str}:(Bd (sK nv) (Sum.inr y:A4)).isSome=decide (y ∈ nv.map (·.1)):=by
 by_cases h:y ∈ nv.map (·.1)
 ·rw [decide_eq_true h];cases e:Bd (sK nv) (Sum.inr y:A4) with
  | some v=>rfl
  | none=>
   have:=Qr e;rw [K5] at this;exact absurd (Zd.mpr ⟨y,h,rfl⟩) this
 ·rw [decide_eq_false h,K4 h]; rfl
theorem Dw {nv:List (Str × V)} {y:Str} {v:V} (h:y ∉ nv.map (·.1)):Bp (sK nv) (Sum.inr y:A4) v=sK (nv ++ [(y,v)]):=by
 rw [Im v (K4 h),UC]; rfl
theorem My (nv:List (Str × V)) (y:Str) (v:V):∃ DF,Bp (sK nv) (Sum.inr y:A4) v=sK DF/\DF.length<=nv.length + 1/\∀ z,z ∈ DF.map (·.1) ↔ z ∈ nv.map (·.1)\/z=y:=by
 by_cases h:y ∈ nv.map (·.1)
 ·refine ⟨nv.map fun q=>if q.1=y then (q.1,v) else q,?_,by rw [YV]; lia,fun z=>?_⟩
  ·unfold Bp;have:((sK nv).any fun kv=>decide (kv.1=(Sum.inr y:A4)))=true:=by
    rw [Cn,Hi,decide_eq_true h]
   rw [if_pos this];unfold sK;rw [ZA,ZA];refine aJ fun q _=>?_
   by_cases e:q.1=y
   ·simp [e]
   ·have e':¬ (Sum.inr q.1:A4)=Sum.inr y:=fun z=>e (Sum.inr.inj z)
    simp [e,e']
  ·have e:(nv.map fun q=>if q.1=y then (q.1,v) else q).map (·.1)=nv.map (·.1):=by
    rw [ZA];refine aJ fun q _=>?_
    by_cases e:q.1=y <;> simp [e]
   rw [e];constructor
   ·exact .inl
   ·rintro (q | rfl)
    ·exact q
    ·exact h
 ·refine ⟨nv ++ [(y,v)],Dw h,by simp,fun z=>by simp⟩
theorem TQ {nv:List (Str × V)} {i:Nat} {k:A4} {v:V} (h:(sK nv)[i]? = some (k,v)):∃ y,nv[i]? = some (y,v)/\k=.inr y:=by
 unfold sK at h;rw [Ze] at h;cases e:nv[i]? with
 | none=>rw [e] at h; cases h
 | some q=>
  rw [e] at h;simp only [aK,Zo.injEq,Prod.mk.injEq] at h;exact ⟨q.1,by rw [<-h.2],h.1.symm⟩
structure Web (H:Hp) (q:Addr) (ps:List Str) (ws:List A8):Prop where
 ex:∃ tp tw us,H q=some (.tup [.ref tp,.ref tw])/\H tp=some (.tup (ps.map V.str))/\H tw=some (.tup us)/\Bt H us (ws.map O1)
theorem Web.same {H H':Hp} {q:Addr} {ps:List Str} {ws:List A8} (h:Web H q ps ws) (s:∀ b xs,H b=some (.tup xs)->H' b=some (.tup xs)):Web H' q ps ws:=by
 obtain ⟨tp,tw,us,h1,h2,h3,h4⟩:=h.ex;exact ⟨tp,tw,us,s _ _ h1,s _ _ h2,s _ _ h3,FN h4 s⟩
def NW (ps:List Str) (ds:List Addr):List (Str × V):=(ps.zip ds).map fun q=>(q.1,V.ref q.2)
theorem IA {ps:List Str} {ds:List Addr} (h:ps.length<=ds.length):(NW ps ds).map (·.1)=ps:=by
 unfold NW;rw [ZA];have:((fun (x:Str × V)=>x.1) ∘ fun (q:Str × Addr)=>(q.1,V.ref q.2))=Prod.fst:=rfl;rw [this,List.map_fst_zip h]
theorem NV {ps:List Str} {ds:List Addr} {i:Nat} {p:Str} {d:Addr} (h1:ps[i]? = some p) (h2:ds[i]? = some d):(p,V.ref d) ∈ NW ps ds:=by
 unfold NW;refine Zd.mpr ⟨(p,d),YY (i:=i) ?_,rfl⟩;rw [List.getElem?_zip_eq_some];exact ⟨h1,h2⟩
structure NB (H:Hp) (B:Addr) (ps:List Str) (ds:List Addr) (P:Str->Str->Prop) (n:Nat):Prop where
 top:H B=some (.dK (sK (NW ps ds)))
 len:ds.length=ps.length
 nd:ds.Nodup
 nB:B ∉ ds
 inner:∀ (i:Nat) (p:Str) (d:Addr),ps[i]? = some p->ds[i]? = some d->∃ nv:List (Str × V),H d=some (.dK (sK nv))/\nv.length<=n/\∀ y,y ∈ nv.map (·.1) ↔ P p y
theorem NB.get {H:Hp} {B:Addr} {ps:List Str} {ds:List Addr} {P:Str->Str->Prop} {n:Nat} (h:NB H B ps ds P n) (hn:ps.Nodup) {p:Str} (hp:p ∈ ps) :
  ∃ (i:Nat) (d:Addr) (nv:List (Str × V)),ps[i]? = some p/\ds[i]? = some d/\Bd (sK (NW ps ds)) (Sum.inr p:A4)=some (.ref d)/\H d=some (.dK (sK nv))/\nv.length<=n/\∀ y,y ∈ nv.map (·.1) ↔ P p y:=by
 obtain ⟨i,hi,e⟩:=Zm hp;have e1:ps[i]? = some p:=by rw [YU hi,e]
 have Tf:i < ds.length:=by rw [h.len]; exact hi
 have e2:ds[i]? = some ds[i]:=YU Tf;obtain ⟨nv,a1,a2,a3⟩:=h.inner i p _ e1 e2;refine ⟨i,_,nv,e1,e2,Dr ?_ (NV e1 e2),a1,a2,a3⟩;rw [IA (by rw [h.len]; exact Zb _)];exact hn
theorem NB.put {H:Hp} {B:Addr} {ps:List Str} {ds:List Addr} {P:Str->Str->Prop} {n:Nat} (h:NB H B ps ds P n) {i:Nat} {p y:Str} {d:Addr} (hn:ps.Nodup) (e1:ps[i]? = some p) (e2:ds[i]? = some d) {nv DF:List (Str × V)} (hd:H d=some (.dK (sK nv)))
  (hl:DF.length<=nv.length + 1) (hk:∀ z,z ∈ DF.map (·.1) ↔ z ∈ nv.map (·.1)\/z=y) (hP:∀ z,z ∈ nv.map (·.1) ↔ P p z) (hln:nv.length<=n):NB (upd H d (.dK (sK DF))) B ps ds (fun a b=>P a b\/(a=p/\b=y)) (n + 1):=by
 have dm:d ∈ ds:=YY e2;refine ⟨by rw [Af (fun z=>h.nB (by rw [z]; exact dm))]; exact h.top,h.len,h.nd,h.nB,fun j q c f1 f2=>?_⟩;by_cases z:c=d
 ·subst z;have ij:i=j:=Hn h.nd e2 f2;subst ij;rw [e1] at f1; cases f1;refine ⟨DF,Ab,by lia,fun z=>?_⟩;rw [hk,hP];simp
 ·obtain ⟨nw,b1,b2,b3⟩:=h.inner j q c f1 f2;refine ⟨nw,by rw [Af z]; exact b1,by lia,fun y'=>?_⟩;rw [b3];have:q ≠ p:=by
   rintro rfl;have ij:=Hn hn e1 f1;subst ij;rw [e2] at f2; cases f2;exact z rfl
  simp [this]
theorem NB.mono {H:Hp} {B:Addr} {ps:List Str} {ds:List Addr} {P P':Str->Str->Prop} {n m:Nat} (h:NB H B ps ds P n) (hP:∀ a b,P a b ↔ P' a b) (hn:n<=m):NB H B ps ds P' m:=
 ⟨h.top,h.len,h.nd,h.nB,fun i p d e1 e2=>let ⟨nv,a1,a2,a3⟩:=h.inner i p d e1 e2; ⟨nv,a1,by lia,fun y=>(a3 y).trans (hP p y)⟩⟩
structure Jl (H:Hp) (q:Addr) (ps:List Str) (ws:List A8) (r:Str):Prop where
 web:Web H q ps ws
 nd:ps.Nodup
 l30:ps.length<=30
 l64:ws.length < 64
 ends:∀ u ∈ ws,u.1 ∈ ps/\u.2.1 ∈ ps
 first:ps[0]? = some r
 con:∀ S:Str->Prop,S r->(∀ x y,Ld ws x y->S x->S y)->∀ x ∈ ps,S x
theorem Jl.same {H H':Hp} {q:Addr} {ps:List Str} {ws:List A8} {r:Str} (h:Jl H q ps ws r) (s:Au H H'):Jl H' q ps ws r:=
 ⟨h.web.same fun b xs z=>s _ _ z,h.nd,h.l30,h.l64,h.ends,h.first,h.con⟩
theorem RR {ws:List A8} {i:Nat} {u:A8} (h:ws[i]? = some u) (a b:Str):Ld (ws.take (i + 1)) a b ↔ (Ld (ws.take i) a b\/(a=u.1/\b=u.2.1))\/(a=u.2.1/\b=u.1):=by
 rw [Zs,h];constructor
 ·rintro ⟨v,hv,e⟩;rcases Zp.mp hv with hv | hv
  ·exact .inl (.inl ⟨v,hv,e⟩)
  ·have:v=u:=by simpa using hv
   subst this;rcases e with ⟨e1,e2⟩ | ⟨e1,e2⟩
   ·exact .inl (.inr ⟨e1.symm,e2.symm⟩)
   ·exact .inr ⟨e2.symm,e1.symm⟩
 ·rintro ((⟨v,hv,e⟩ | ⟨rfl,rfl⟩) | ⟨rfl,rfl⟩)
  ·exact ⟨v,ZN _ hv,e⟩
  ·exact ⟨u,Zj _ (by simp),.inl ⟨rfl,rfl⟩⟩
  ·exact ⟨u,Zj _ (by simp),.inr ⟨rfl,rfl⟩⟩
structure NR (H:Hp) (B:Addr) (ps:List Str) (ds:List Addr) (P:Str->Str->Prop):Prop where
 top:H B=some (.dK (sK (NW ps ds)))
 len:ds.length=ps.length
 nd:ds.Nodup
 nB:B ∉ ds
 inner:∀ (i:Nat) (p:Str) (d:Addr),ps[i]? = some p->ds[i]? = some d->∃ nv:List (Str × V),Rd H d (.dK (sK nv))/\∀ y,y ∈ nv.map (·.1) ↔ P p y
theorem NB.r {H:Hp} {B:Addr} {ps:List Str} {ds:List Addr} {P:Str->Str->Prop} {n:Nat} (h:NB H B ps ds P n):NR H B ps ds P:=
 ⟨h.top,h.len,h.nd,h.nB,fun i p d e1 e2=>let ⟨nv,a1,_,a3⟩:=h.inner i p d e1 e2; ⟨nv,.inl a1,a3⟩⟩
theorem NR.get {H:Hp} {B:Addr} {ps:List Str} {ds:List Addr} {P:Str->Str->Prop} (h:NR H B ps ds P) (hn:ps.Nodup) {p:Str} (hp:p ∈ ps) :
  ∃ (i:Nat) (d:Addr) (nv:List (Str × V)),ps[i]? = some p/\ds[i]? = some d/\Bd (sK (NW ps ds)) (Sum.inr p:A4)=some (.ref d)/\Rd H d (.dK (sK nv))/\∀ y,y ∈ nv.map (·.1) ↔ P p y:=by
 obtain ⟨i,hi,e⟩:=Zm hp;have e1:ps[i]? = some p:=by rw [YU hi,e]
 have Tf:i < ds.length:=by rw [h.len]; exact hi
 have e2:ds[i]? = some ds[i]:=YU Tf;obtain ⟨nv,a1,a3⟩:=h.inner i p _ e1 e2;refine ⟨i,_,nv,e1,e2,Dr ?_ (NV e1 e2),a1,a3⟩;rw [IA (by rw [h.len]; exact Zb _)];exact hn
theorem Rd.ne {H:Hp} {a b:Addr} {u o:HO} (h:Rd H a u) (hb:a ≠ b):Rd (upd H b o) a u:=by
 rcases h with h | ⟨ob,h⟩
 ·exact .inl (by rw [Af hb]; exact h)
 ·exact .inr ⟨ob,by rw [Af hb]; exact h⟩
theorem Rd.fz {H H':Hp} {a b:Addr} {u:HO} {kvs:List (A4 × V)} {o:Obj} (h:Rd H a u) (f:Ej H b kvs o H') (hb:a ≠ b):Rd H' a u:=by
 rcases h with h | ⟨ob,h⟩
 ·exact .inl (by rw [f.ne hb]; exact h)
 ·exact .inr ⟨ob,by rw [f.ne hb]; exact h⟩
theorem NR.other {H:Hp} {B a:Addr} {ps:List Str} {ds:List Addr} {P:Str->Str->Prop} {o:HO} (h:NR H B ps ds P) (ha:a ∉ ds) (hB:a ≠ B):NR (upd H a o) B ps ds P:=
 ⟨by rw [Af (Ne.symm hB)]; exact h.top,h.len,h.nd,h.nB,fun i p d e1 e2=>let ⟨nv,a1,a3⟩:=h.inner i p d e1 e2
  ⟨nv,a1.ne (fun z=>ha (by rw [<-z]; exact YY e2)),a3⟩⟩
theorem NR.freeze {H H':Hp} {B:Addr} {ps:List Str} {ds:List Addr} {P:Str->Str->Prop} (h:NR H B ps ds P) {i:Nat} {p:Str} {d:Addr} (e1:ps[i]? = some p) (e2:ds[i]? = some d) {nv:List (Str × V)} {o:Obj} (f:Ej H d (sK nv) o H') (hP:∀ y,y ∈ nv.map (·.1) ↔ P p y):NR H' B ps ds P:=by
 have dm:d ∈ ds:=YY e2;refine ⟨by rw [f.ne (fun z=>h.nB (by rw [z]; exact dm))]; exact h.top,h.len,h.nd,h.nB,fun j q c f1 f2=>?_⟩;by_cases z:c=d
 ·subst z;have ij:i=j:=Hn h.nd e2 f2;subst ij;rw [e1] at f1; cases f1;exact ⟨nv,.inr ⟨o,f.at⟩,hP⟩
 ·obtain ⟨nw,b1,b3⟩:=h.inner j q c f1 f2;exact ⟨nw,b1.fz f z,b3⟩
theorem S6 {nv DF:List (Str × V)} {y:Str} {v:V} (e:Bp (sK nv) (Sum.inr y:A4) v=sK DF) (hn:(nv.map (·.1)).Nodup):(DF.map (·.1)).Nodup:=by
 have inj:∀ {a b:List (Str × V)},(sK a).map (·.1)=(sK b).map (·.1)->a.map (·.1)=b.map (·.1):=fun {a b} h=>by
  rw [K5,K5] at h;exact dz (fun x y z=>Sum.inr.inj z) |>.mp h
 by_cases h:y ∈ nv.map (·.1)
 ·have e2:(Bp (sK nv) (Sum.inr y:A4) v).map (·.1)=(sK nv).map (·.1):=by
   unfold Bp;have:((sK nv).any fun kv=>decide (kv.1=(Sum.inr y:A4)))=true:=by rw [Cn,Hi,decide_eq_true h]
   rw [if_pos this,ZA];refine aJ fun q _=>?_
   by_cases e:q.1=(Sum.inr y:A4) <;> simp [e]
  rw [e] at e2;rw [inj e2];exact hn
 ·rw [Dw h] at e;have e2:(nv ++ [(y,v)]).map (·.1)=DF.map (·.1):=inj (by rw [e]);rw [<-e2,Zi];refine ZJ.mpr ⟨hn,Z3.mpr ⟨by simp,.nil⟩,fun a ha b hb=>?_⟩;have e3:b=y:=by simpa using hb
  subst e3;rintro rfl;exact h ha
section
variable {ws:List A8} {r:Str} {bs:List (Str × Option Str)} {wk:List (Str × List Str)} {ps:List Str}
end
theorem G9 {α:Type} {l:List (Str × α)} (h:(l.map (·.1)).Nodup) (f:Str × α->Bool):((l.filter f).map (·.1)).Nodup:=by
 have s:List.Sublist ((l.filter f).map (·.1)) (l.map (·.1)):=List.Sublist.map _ ar;exact s.nodup h
theorem An.thaw {X:Cx} {pins:List (Addr × Obj)} {σ:St} {H:Hp} {s:Shared} {a:Addr} {o:Obj} {u:HO} (I:An X pins σ H s) (e:H a=some (.frz o u)) (h0:∀ ob w,X.H₀ a ≠ some (.frz ob w)) (hu:u ≠ .own a/\∀ xs,u ≠ .tup xs):An X pins σ (upd H a u) s:=by
 obtain ⟨ho,hok⟩:=(show A6 X.prog X.w H s.heap a (.frz o u) from I.hok a _ e)
 have nn:∀ b,H b=none->b ≠ a:=fun b hb z=>by rw [z,e] at hb; cases hb
 have own:∀ b y,H b=some (.own y)->b ≠ a:=fun b y hb z=>by rw [z,e] at hb; cases hb
 have tup:∀ b xs,H b=some (.tup xs)->b ≠ a:=fun b xs hb z=>by rw [z,e] at hb; cases hb
 refine ⟨I.ok,I.os,I.bare,⟨I.base.keep,I.base.slot,fun b ob q n hx=>?_,I.base.there,fun b xs q=>?_,fun b ob w q=>?_,fun b ps q=>?_⟩,I.loc,I.cell,?_,fun x c q=>?_,fun p hp=>?_,fun b w q=>?_,I.len⟩
 ·have z:=I.base.free b ob q n hx;rw [Af (nn b z)]; exact z
 ·have z:=I.base.tups b xs q;rw [Af (tup b xs z)]; exact z
 ·have z:=I.base.frzs b ob w q;by_cases hb:b=a
  ·subst hb; exact absurd q (h0 ob w)
  ·rw [Af hb]; exact z
 ·obtain ⟨more,z⟩:=I.base.tbls b ps q;exists more;rw [Af (fun hb=>by rw [hb,e] at z; cases z)]; exact z
 ·rw [Af (nn _ I.free)]; exact I.free
 ·rw [Af (nn _ (I.freeC x c q))]; exact I.freeC x c q
 ·obtain ⟨z1,z2,z3⟩:=I.pin p hp;exact ⟨z1,by rw [Af (nn _ z2)]; exact z2,z3⟩
 ·by_cases hb:b=a
  ·subst hb;rw [Ab] at q;cases q
   exact hok.stay (fun c v _ z=>z) (fun c z=>by rw [Af (own c _ z)]; exact z) fun c xs z=>by rw [Af (tup c xs z)]; exact z
  ·rw [Af hb] at q;exact (I.hok b w q).stay (fun c v _ z=>z) (fun c z=>by rw [Af (own c _ z)]; exact z) fun c xs z=>by rw [Af (tup c xs z)]; exact z
theorem SE {X:Cx} {e:Expr} {t:TE} (h:PE X e t):PE X e (fun σ H Q=>t σ H fun x H1=>∃ a o kvs,H1 a=some (.frz o (.dK kvs))/\(∀ ob w,X.H₀ a ≠ some (.frz ob w))/\Q x (upd H1 a (.dK kvs))):=by
 intro pins s σ H Q I q;refine B6 (h (pins:=pins) s σ H _ I q) fun v s1 ⟨x,H1,I1,r1,a,o,kvs,e1,h0,q1⟩=>?_
 exact ⟨x,_,I1.thaw e1 h0 ⟨(by intro z; cases z),(by intro xs z; cases z)⟩,r1,q1⟩
def C8 (A:Around) (s:Shared) (x y:Value) (b:Bool):Prop:=∀ (prog:Program) (w:World) (E Q:Value->Shared->Prop),Q (.bool b) s->wpAny (model prog w) A (richCompare .Lt x y) Q E s
theorem C8.int (A:Around) (s:Shared) (a:Int) (t:Tok) (c:Int) (u:Tok):C8 A s (.int a t) (.int c u) (decide (a < c)):=fun prog w E Q h=>
 (PyProof.Rows.lt_int h:wpAny (model prog w) A (compareOp .Lt (.int a t) (.int c u)) Q E s)
theorem C8.str (A:Around) (s:Shared) (a:Str) (t:Tok) (c:Str) (u:Tok):C8 A s (.str a t) (.str c u) (decide (a.cps.toList < c.cps.toList)):=fun prog w E Q h=>
 (PySem.P.lt_str h:wpAny (model prog w) A (compareOp .Lt (.str a t) (.str c u)) Q E s)
section
open PySem.SeqAt
open PySem.AutoSeq1 (wpAny_loadPart')
open PySem.MeetsSeq PySem.MeetsSeq2 PySem.MeetsSeq3
theorem OB (l b:Addr) (x1 x2 y1 y2:Value) (n n2:Nat) (dd Ma:Option Addr) (sl Qc:Array (Option Value)) (e1 b1 e2 b2:Bool) :
  Meets (Builtin.«tuple.__lt__» ⟨[.ref l,.ref b],[]⟩)
   (fun A R s=>s.heap.get? l=some { cls:=.type "tuple",dict:=dd,data:=.seq #[x1,x2] n,slots:=sl }/\s.heap.get? b=some { cls:=.type "tuple",dict:=Ma,data:=.seq #[y1,y2] n2,slots:=Qc } /\
    EqAt A.in1 s x1 y1 e1/\(e1=false->C8 A.in1 s x1 y1 b1)/\(e1=true->EqAt A.in1 s x2 y2 e2/\(e2=false->C8 A.in1 s x2 y2 b2)) /\
    R (.ok (.ret (.bool (if e1=true then (if e2=true then false else b2) else b1)))) s):=
 .of_wp fun prog w A R s h=>by
  obtain ⟨hp,g,d,tk,os⟩:=s; obtain ⟨hl,hb,he1,R6,h2,h⟩:=h;have f2:=AutoSeq1.sub_tuple_tuple;wp_walk using wpAny_loadPart' hl,wpAny_loadPart' hb,wpAny_forIn_list _ (fun C4 b s'=>b.1=none/\s'=⟨hp,g,d,tk,os⟩/\(C4=[(x1,y1),(x2,y2)]\/(C4=[(x2,y2)]/\e1=true)\/(C4=[]/\e1=true/\e2=true))) _
  case turn=>
   rintro ⟨y,x⟩ C4 b s' ⟨Fz,rfl,hz | ⟨hz,h1⟩ | ⟨hz,_⟩⟩
   ·cases hz
    refine wpAny_bind (he1 prog w _ _ ?_);cases ee:e1 with
    | true=>
     wp_walk
     exact ⟨rfl,rfl,.inr (.inl ⟨rfl,rfl⟩)⟩
    | false=>
     rw [ee,if_neg Zn] at h;have hri:=R6 ee prog w;wp_walk using hri;exact ⟨_,rfl,by simpa using h⟩
   ·cases hz
    obtain ⟨he2,MK⟩:=h2 h1;rw [if_pos h1] at h;refine wpAny_bind (he2 prog w _ _ ?_);cases ee:e2 with
    | true=>
     wp_walk
     exact ⟨rfl,rfl,.inr (.inr ⟨rfl,h1,rfl⟩)⟩
    | false=>
     rw [ee,if_neg Zn] at h;have hri:=MK ee prog w;wp_walk using hri;exact ⟨_,rfl,by simpa using h⟩
   ·cases hz
  case fin=>
   rintro ⟨b1',b2'⟩ s' ⟨Fz,rfl,hz | ⟨hz,h1⟩ | ⟨hz,h1,WC⟩⟩
   ·cases hz
   ·cases hz
   ·simp only at Fz;subst Fz;rw [if_pos h1,if_pos WC] at h;wp_walk;exact ⟨_,rfl,by simpa [Builtin.Tuple.tupleCompareSizes] using h⟩
  case h=>
   exact ⟨rfl,rfl,.inl rfl⟩
end
theorem C8.tup2 {A:Around} {s:Shared} {l b:Addr} {x1 x2 y1 y2:Value} {e1 b1 e2 b2:Bool} (hl:IsTup s.heap l #[x1,x2]) (hb:IsTup s.heap b #[y1,y2]) (hu:A.units < cLine) (h1:SeqAt.EqAt A.in1 s x1 y1 e1) (l1:e1=false->C8 A.in1 s x1 y1 b1)
  (h2:e1=true->SeqAt.EqAt A.in1 s x2 y2 e2/\(e2=false->C8 A.in1 s x2 y2 b2)):C8 A s (.ref l) (.ref b) (if e1=true then (if e2=true then false else b2) else b1):=fun prog w E Q h=>by
 obtain ⟨⟨cls,dd,data,sl⟩,ho,hc,n,hd⟩:=id hl;obtain ⟨⟨Vp,Ma,data2,Qc⟩,PD,PH,n2,hd2⟩:=id hb;simp only at hc hd PH hd2;subst hc hd PH hd2;exact richCompare_meets_room (op:=.Lt) ⟨_,ho,rfl⟩ ⟨_,PD,rfl⟩ PySem.F.slot_tuple_lt PySem.F.entry_tuple_lt (PySem.F.args_tuple_lt_2 _ _) (OB l b x1 x2 y1 y2 n n2 dd Ma sl Qc e1 b1 e2 b2)
  ⟨ho,PD,h1,l1,h2,show Value.bool _ ≠ Value.notImplemented/\Q (.bool _) s from ⟨(fun x=>nomatch x),h⟩⟩ hu
def Se (p q:Int × Str):Bool:=if (p.1 == q.1)=true then (if (p.2 == q.2)=true then false else decide (p.2.cps.toList < q.2.cps.toList)) else decide (p.1 < q.1)
def D9 (h:Heap) (v:Value) (p:Int × Str):Prop:=∃ a t u,v=.ref a/\IsTup h a #[.int p.1 t,.str p.2 u]
theorem D9.keep {h h':Heap} {v:Value} {p:Int × Str} (x:D9 h v p) (k:∀ b o,h.get? b=some o->h'.get? b=some o):D9 h' v p:=by
 obtain ⟨a,t,u,rfl,o,ho,r⟩:=x;exact ⟨a,t,u,rfl,o,k _ _ ho,r⟩
theorem NX {A:Around} {s:Shared} {v w:Value} {p q:Int × Str} (hv:D9 s.heap v p) (hw:D9 s.heap w q) (hu:A.units < cLine):C8 A s v w (Se p q):=by
 obtain ⟨a,t,u,rfl,hl⟩:=hv;obtain ⟨b,t',u',rfl,hb⟩:=hw;exact C8.tup2 hl hb hu (SeqAt.EqAt.int_int _ _ _ _) (fun _=>C8.int _ _ _ _ _ _) fun _=>⟨SeqAt.EqAt.str_str _ _ _ _,fun _=>C8.str _ _ _ _ _ _⟩
theorem Tp {A:Around} {s:Shared} {v w:Value} {p q:Int × Str} (hv:D9 s.heap v p) (hw:D9 s.heap w q) (hu:A.units < cLine):SeqAt.EqAt A s v w (decide (p=q)):=by
 obtain ⟨a,t,u,rfl,hl⟩:=hv;obtain ⟨b,t',u',rfl,hb⟩:=hw;by_cases hab:a=b
 ·subst hab;have e:p=q:=by
   obtain ⟨o,ho,hc,n,hd⟩:=hl;obtain ⟨o',Jy,Ht,n',Lb⟩:=hb;rw [ho] at Jy;cases Jy
   rw [hd] at Lb;injection Lb with e1 e2;have e3:=congrArg bV e1;simp only [aY.injEq,Value.int.injEq,Value.str.injEq] at e3;exact Prod.ext e3.1.1 e3.2.1.1
  rw [decide_eq_true e];intro prog w E Q h;unfold eqBool;refine wpAny_holding ?_;exact wpAny_ite_split (fun _=>wpAny_bind (wpAny_rule (wpAny_pure h))) (fun hn=>absurd (by simp) hn)
 ·have key:=SeqAt.RcAt.tuples (A:=A) (s:=s) (e:=fun j=>if j=0 then p.1 == q.1 else p.2 == q.2) (show s.heap.IsTuple a #[.int p.1 t,.str p.2 u] from hl) (show s.heap.IsTuple b #[.int q.1 t',.str q.2 u'] from hb) hu (fun j h1 h2=>by
   match j,h1,h2 with
   | 0,_,_=>exact SeqAt.EqAt.int_int _ _ _ _
   | 1,_,_=>exact SeqAt.EqAt.str_str _ _ _ _
   | j + 2,h1,_=>exact absurd (show j + 2 < 2 from h1) (by lia))
  have e:((aD (min (#[Value.int p.1 t,.str p.2 u]:Array Value).size (#[Value.int q.1 t',.str q.2 u']:Array Value).size)).all (fun j=>if j=0 then p.1 == q.1 else p.2 == q.2) && (#[Value.int p.1 t,.str p.2 u]:Array Value).size == (#[Value.int q.1 t',.str q.2 u']:Array Value).size)=decide (p=q):=by
   show ((aD 2).all (fun j=>if j=0 then p.1 == q.1 else p.2 == q.2) && (2 == 2))=decide (p=q)
   have:(aD 2)=[0,1]:=rfl;rw [this];simp only [bR,List.all_nil,cL,beq_self_eq_true];rw [ag];simp [Prod.ext_iff]
  rw [e] at key;exact SeqAt.EqAt.of_refs hab key
def Jm (h:Heap) (v:Value) (k:(Int × Str) × Str):Prop:=∃ a l u,v=.ref a/\IsTup h a #[.ref l,.str k.2 u]/\D9 h (.ref l) k.1
theorem Jm.keep {h h':Heap} {v:Value} {p:(Int × Str) × Str} (x:Jm h v p) (k:∀ b o,h.get? b=some o->h'.get? b=some o):Jm h' v p:=by
 obtain ⟨a,l,u,rfl,⟨o,ho,r⟩,z⟩:=x;exact ⟨a,l,u,rfl,⟨o,k _ _ ho,r⟩,z.keep k⟩
def Uh (p q:(Int × Str) × Str):Bool:=if decide (p.1=q.1)=true then (if (p.2 == q.2)=true then false else decide (p.2.cps.toList < q.2.cps.toList)) else Se p.1 q.1
theorem UU {A:Around} {s:Shared} {v w:Value} {p q:(Int × Str) × Str} (hv:Jm s.heap v p) (hw:Jm s.heap w q) (hu:A.units + 1 < cLine):C8 A s v w (Uh p q):=by
 obtain ⟨a,l,u,rfl,hl,hp⟩:=hv;obtain ⟨b,l',u',rfl,hb,hq⟩:=hw;exact C8.tup2 hl hb (by lia) (Tp hp hq (by rw [PySem.Around.in1_units]; exact hu)) (fun _=>NX hp hq (by rw [PySem.Around.in1_units]; exact hu)) fun _=>⟨SeqAt.EqAt.str_str _ _ _ _,fun _=>C8.str _ _ _ _ _ _⟩
def TH (prog:Program) (w:World) (A:Around) (g0:Heap) (P:Nat->Value->Prop) (bt:Nat->Nat->Bool):Prop:=
 ∀ i j vi vj (s:Shared) (Q:Value->Shared->Prop) (E:Value->Shared->Prop),(∀ b o,g0.get? b=some o->s.heap.get? b=some o)->P i vi->P j vj->Q (.bool (bt i j)) s->wpAny (model prog w) A (richCompare .Lt vi vj) Q E s
section
variable {prog:Program} {w:World} {A:Around} {R:Result->Shared->Prop} {I:Addr} {fp wr:List Addr} {n:Nat} {P:Nat->Value->Prop} {St:Nat->Heap->Prop} {g0:Heap}
theorem Pp (W:Walks prog w A.in1 I fp wr n P St) (bt:Nat->Nat->Bool) (cm:TH prog w A.in1 g0 P bt) (S:Addr) (nS:S ∉ fp) (gw:∀ b o,g0.get? b=some o->b ∉ wr/\b ≠ S) :
  ∀ (m j:Nat) (s:Shared) (bv:Value) (c:Nat),n - (j + 1)=m->j + 1<=n->St (j + 1) s.heap->P (argBest bt j) bv->(∀ b o,g0.get? b=some o->s.heap.get? b=some o) ->
  s.heap.get? S=some { cls:=.type "list",dict:=none,data:=.seq #[bv,bv] c,slots:=#[] } ->
  (∀ v h2 tk,P (argBest bt (n - 1)) v->(∀ b o,b ∉ wr->b ≠ S->s.heap.get? b=some o->h2.get? b=some o)->R (.ok (.ret v)) { s with heap:=h2,toks:=tk }) ->
  codeAny (model prog w) A (.builtin "min.loop" ⟨[.ref I,.none,.ref S],[]⟩) R s:=by
 have Sw:S ∉ wr:=fun z=>nS (W.sub _ z)
 have nm:(toString "min" ++ toString ".loop":String)="min.loop":=by decide
 intro m;induction m with
 | zero=>
  intro j s bv c hm hj st pb g1 aS r;have jn:j + 1=n:=by lia
  refine codeAny_builtin F.entry_min_loop ?_;rw [Around.under_plainId F.plain_min_loop _];refine wpAny_bind (m:=seqItems? (.ref S)) (wpAny_seqItems aS rfl ?_);refine wpAny_bind (wpAny_tryCatch (W.done s _ _ (jn ▸ st) fun h2 tk k2=>?_));have Ur:=k2 S _ Sw aS;refine wpAny_bind (m:=updateSeq S (fun _=>#[])) ?_;refine wpAny_updateSeq Ur rfl (wpAny_bind (wpAny_letGo (wpAny_pure ?_)));exact r bv _ tk (by rw [<-jn]; exact pb) fun b o bw bS e=>(ZL _ _ (Ne.symm bS)).trans (k2 b o bw e)
 | succ m ih=>
  intro j s bv c hm hj st pb g1 aS r;have lt:j + 1 < n:=by lia
  refine codeAny_builtin F.entry_min_loop ?_;rw [Around.under_plainId F.plain_min_loop _];refine wpAny_bind (m:=seqItems? (.ref S)) (wpAny_seqItems aS rfl ?_);refine wpAny_bind (wpAny_tryCatch (W.item (j + 1) s _ _ lt st fun v h2 tk pv Fj k2=>?_));have Ur:=k2 S _ Sw aS;have g2:∀ b o,g0.get? b=some o->h2.get? b=some o:=fun b o e=>k2 b o (gw b o e).1 (g1 b o e)
  show wpAny _ A.in1 (tryCatch (holding [v,v] (richCompare .Lt v bv >>= _)) _ >>= _) _ _ _
  refine wpAny_bind (wpAny_tryCatch (wpAny_holding (wpAny_bind (cm (j + 1) (argBest bt j) v bv _ _ _ g2 pv pb ?_))));refine wpAny_bind (wpAny_holding (wpAny_truthy_bool ?_));refine wpAny_bind (wpAny_letGo (wpAny_pure ?_));cases hb:bt (j + 1) (argBest bt j) with
  | true=>
   simp only [if_true];refine wpAny_bind ?_;refine wpAny_updateSeq Ur rfl (wpAny_bind (wpAny_letGo ?_));rw [nm];refine wpAny_pure ⟨plainId_quiet F.plain_min_loop _,ih (j + 1) _ v _ (by lia) lt (W.frame _ _ _ Fj fun b bf o e=>?_) (by simp only [argBest,hb,if_true]; exact pv) (fun b o e=>?_) (ZM _ Ur rfl) fun v' h3 Su VY k3=>?_⟩
   ·exact (ZL _ _ (fun z:S=b=>nS (by rw [z]; exact bf))).trans e
   ·exact (ZL _ _ (Ne.symm (gw b o e).2)).trans (g2 b o e)
   ·exact r v' h3 Su VY fun b o bw bS e=>k3 b o bw bS ((ZL _ _ (Ne.symm bS)).trans (k2 b o bw e))
  | false=>
   simp only [Z1,if_false];refine wpAny_bind (wpAny_letGo ?_);rw [nm];refine wpAny_pure ⟨plainId_quiet F.plain_min_loop _,ih (j + 1) _ bv c (by lia) lt Fj (by simp only [argBest,hb,Z1,if_false]; exact pb) g2 Ur fun v' h3 Su VY k3=>?_⟩;exact r v' h3 Su VY fun b o bw bS e=>k3 b o bw bS (k2 b o bw e)
theorem IC (W:Walks prog w A.in1 I fp wr n P St) (bt:Nat->Nat->Bool) (cm:TH prog w A.in1 g0 P bt) (S:Addr) (nS:S ∉ fp) (gw:∀ b o,g0.get? b=some o->b ∉ wr/\b ≠ S) (hn:0 < n) {s:Shared} {c:Nat} (st:St 0 s.heap)
  (g1:∀ b o,g0.get? b=some o->s.heap.get? b=some o) (aS:s.heap.get? S=some { cls:=.type "list",dict:=none,data:=.seq #[] c,slots:=#[] })
  (r:∀ v h2 tk,P (argBest bt (n - 1)) v->(∀ b o,b ∉ wr->b ≠ S->s.heap.get? b=some o->h2.get? b=some o)->R (.ok (.ret v)) { s with heap:=h2,toks:=tk }) :
  codeAny (model prog w) A (.builtin "min.loop" ⟨[.ref I,.none,.ref S],[]⟩) R s:=by
 have Sw:S ∉ wr:=fun z=>nS (W.sub _ z)
 have nm:(toString "min" ++ toString ".loop":String)="min.loop":=by decide
 refine codeAny_builtin F.entry_min_loop ?_;rw [Around.under_plainId F.plain_min_loop _];refine wpAny_bind (m:=seqItems? (.ref S)) (wpAny_seqItems aS rfl ?_);refine wpAny_bind (wpAny_tryCatch (W.item 0 s _ _ hn st fun v h2 tk pv Fj k2=>?_));have Ur:=k2 S _ Sw aS;refine wpAny_bind (m:=updateSeq S (fun _=>#[v,v])) ?_;refine wpAny_updateSeq Ur rfl ?_;rw [nm];refine wpAny_pure ⟨plainId_quiet F.plain_min_loop _,Pp W bt cm S nS gw _ 0 _ v _ rfl hn (W.frame _ _ _ Fj fun b bf o e=>?_) pv (fun b o e=>?_) (ZM _ Ur rfl) fun v' h3 Su VY k3=>?_⟩
 ·exact (ZL _ _ (fun z:S=b=>nS (by rw [z]; exact bf))).trans e
 ·exact (ZL _ _ (Ne.symm (gw b o e).2)).trans (k2 b o (gw b o e).1 (g1 b o e))
 ·exact r v' h3 Su VY fun b o bw bS e=>k3 b o bw bS ((ZL _ _ (Ne.symm bS)).trans (k2 b o bw e))
end
section
variable {prog:Program} {w:World} {A:Around} {E:Value->Shared->Prop} {s:Shared}
theorem GB {l:Addr} {vs:List Value} {bt:Nat->Nat->Bool} {Q:Value->Shared->Prop} (hh:A.handled=none) (hl:s.heap.IsList l vs.toArray) (hn:0 < vs.length) (cm:TH prog w A.in1 s.heap (fun i v=>vs[i]? = some v) bt)
  (h:∀ v h2 tk,vs[argBest bt (vs.length - 1)]? = some v->(∀ b o,s.heap.get? b=some o->h2.get? b=some o)->Q v { s with heap:=h2,toks:=tk }):wpAny (model prog w) A (call (.builtin "min") [.ref l]) Q E s:=by
 have nm:(toString "min" ++ toString ".loop":String)="min.loop":=by decide
 have Bv:l < s.heap.objs.size:=by obtain ⟨o,ho,_⟩:=id hl; exact Zc ho
 refine call_function_tree F.kind_min F.plain_min F.entry_min (F.args_min1 _) ?_;refine wpAny_bind (wpAny_of_eq (show Builtin.Builtins.bindParams "min" ["key","default"] 0 ⟨[],[]⟩=pure [none,none] from rfl) ?_);refine wpAny_bind (wpAny_pure ?_);refine wpAny_bind (wpAny_pyIter_list hl ?_);refine wpAny_bind (wpAny_newObj_type ?_);rw [nm];have sz:(s.heap.push { cls:=.type "list_iterator",data:=.fields #[.ref l,.int 0 0] }).objs.size=s.heap.objs.size + 1:=ZH ..;have W:=(Walks.list (prog:=prog) (w:=w) (A:=A.in1) hh s.heap.objs.size l (Zh Bv) vs.toArray).weaken (P':=fun i v=>vs[i]? = some v) (fun i v e=>by simpa using e);refine wpAny_pure ⟨plainId_quiet F.plain_min_loop _,IC (g0:=s.heap) W bt cm (s.heap.push { cls:=.type "list_iterator",data:=.fields #[.ref l,.int 0 0] }).objs.size (fun hm=>?_) (fun b o e=>⟨fun hm=>?_,fun z=>?_⟩) (by simpa using hn) ?_ (fun b o e=>YW _ (YW _ e)) (Zf _ rfl) fun v h2 tk pv k2=>?_⟩
 ·rw [sz] at hm;rcases Zg.mp hm with z | hm
  ·exact absurd z (Nat.succ_ne_self _)
  ·rcases Zg.mp hm with z | hm
   ·exact absurd z (ZO (Z0 Bv))
   ·cases hm
 ·have:=Zc e;rw [Zl.mp hm] at this;exact absurd this (ZK _)
 ·have:=Zc e;rw [z,sz] at this;exact absurd this (bI.mpr (ZC _))
 ·exact ⟨⟨_,YW _ (Zf _ rfl),rfl,rfl⟩,(hl.push _).push _⟩
 ·refine h v h2 tk (by simpa using pv) fun b o e=>k2 b o (fun hm=>?_) (fun z=>?_) (YW _ (YW _ e))
  ·have:=Zc e;rw [Zl.mp hm] at this;exact absurd this (ZK _)
  ·have:=Zc e;rw [z,sz] at this;exact absurd this (bI.mpr (ZC _))
end
section
variable {prog:Program} {w:World} {A:Around} {E:Value->Shared->Prop} {s:Shared}
theorem Rq {a b:Value} {bt:Nat->Nat->Bool} {Q:Value->Shared->Prop} (hh:A.handled=none) (cm:TH prog w A.in1 s.heap (fun i v=>[a,b][i]? = some v) bt)
  (h:∀ v h2 tk,[a,b][argBest bt 1]? = some v->(∀ c o,s.heap.get? c=some o->h2.get? c=some o)->Q v { s with heap:=h2,toks:=tk }):wpAny (model prog w) A (call (.builtin "min") [a,b]) Q E s:=by
 have nm:(toString "min" ++ toString ".loop":String)="min.loop":=by decide
 have hT:(s.heap.push { cls:=.type "tuple",data:=.seq #[a,b] }).IsTuple s.heap.objs.size #[a,b]:=⟨_,Zf _ rfl,rfl,0,rfl⟩
 refine call_function_tree F.kind_min F.plain_min F.entry_min (F.args_min2 _ _) ?_;refine wpAny_bind (wpAny_of_eq (show Builtin.Builtins.bindParams "min" ["key","default"] 0 ⟨[],[]⟩=pure [none,none] from rfl) ?_);show wpAny _ A.in1 (newTuple [a,b] >>= _) _ _ s
 refine wpAny_bind (wpAny_newObj_type ?_);refine wpAny_bind (wpAny_pyIter_tuple hT ?_);refine wpAny_bind (wpAny_newObj_type ?_);rw [nm];have s1:(s.heap.push { cls:=.type "tuple",data:=.seq #[a,b] }).objs.size=s.heap.objs.size + 1:=ZH ..;have s2:((s.heap.push { cls:=.type "tuple",data:=.seq #[a,b] }).push { cls:=.type "tuple_iterator",data:=.fields #[.ref s.heap.objs.size,.int 0 0] }).objs.size=s.heap.objs.size + 2:=by rw [ZH,s1]
 have W:=(Walks.tuple (prog:=prog) (w:=w) (A:=A.in1) hh (s.heap.push { cls:=.type "tuple",data:=.seq #[a,b] }).objs.size s.heap.objs.size (by rw [s1]; exact Zh (Z6 _)) #[a,b]).weaken (P':=fun i v=>[a,b][i]? = some v) (fun i v e=>by simpa using e);refine wpAny_pure ⟨plainId_quiet F.plain_min_loop _,IC (g0:=s.heap) W bt cm ((s.heap.push { cls:=.type "tuple",data:=.seq #[a,b] }).push { cls:=.type "tuple_iterator",data:=.fields #[.ref s.heap.objs.size,.int 0 0] }).objs.size (fun hm=>?_) (fun b o e=>⟨fun hm=>?_,fun z=>?_⟩) (by simp) ?_ (fun b o e=>YW _ (YW _ (YW _ e))) (Zf _ rfl) fun v h2 tk pv k2=>?_⟩
 ·rw [s2] at hm;rcases Zg.mp hm with z | hm
  ·rw [s1] at z; exact absurd z (ZO (Z6 _))
  ·rcases Zg.mp hm with z | hm
   ·exact absurd z (ZO (Z0 (Z6 _)))
   ·cases hm
 ·have:=Zc e;rw [Zl.mp hm,s1] at this;exact absurd this (bI.mpr (ZC _))
 ·have:=Zc e;rw [z,s2] at this;exact absurd this (bI.mpr (Z2 (ZC _) (ZC _)))
 ·exact ⟨⟨_,YW _ (Zf _ rfl),rfl,rfl⟩,(hT.push _).push _⟩
 ·refine h v h2 tk (by simpa using pv) fun b o e=>k2 b o (fun hm=>?_) (fun z=>?_) (YW _ (YW _ (YW _ e)))
  ·have:=Zc e;rw [Zl.mp hm,s1] at this;exact absurd this (bI.mpr (ZC _))
  ·have:=Zc e;rw [z,s2] at this;exact absurd this (bI.mpr (Z2 (ZC _) (ZC _)))
end
theorem Jj (bt:Nat->Nat->Bool) (num:Nat->Int) (h1:∀ i j,bt i j=true->num i<=num j) (h2:∀ i j,bt i j=false->num j<=num i):∀ k,argBest bt k<=k/\∀ j,j<=k->num (argBest bt k)<=num j
 | 0=>⟨Zb _,fun j hj=>by
  have:j=0:=by lia
  subst this; exact ZD _⟩
 | k + 1=>by
  obtain ⟨a1,a2⟩:=Jj bt num h1 h2 k;simp only [argBest];cases hc:bt (k + 1) (argBest bt k) with
  | true=>
   simp only [if_true];refine ⟨Zb _,fun j hj=>?_⟩;have:=h1 _ _ hc;by_cases HI:j<=k
   ·have:=a2 j HI; lia
   ·have:j=k + 1:=by lia
    subst this; exact ZD _
  | false=>
   simp only [Z1,if_false];refine ⟨aV a1,fun j hj=>?_⟩;by_cases HI:j<=k
   ·exact a2 j HI
   ·have:j=k + 1:=by lia
    subst this; exact h2 _ _ hc
def Ks (H:Hp) (v:V) (p:Int × Str):Prop:=∃ t,v=.ref t/\H t=some (.tup [.int p.1,.str p.2])
def Uv (H:Hp) (v:V) (k:(Int × Str) × Str):Prop:=∃ t t2,v=.ref t/\H t=some (.tup [.ref t2,.str k.2])/\Ks H (.ref t2) k.1
theorem Ks.same {H H':Hp} {v:V} {p:Int × Str} (h:Ks H v p) (s:∀ b xs,H b=some (.tup xs)->H' b=some (.tup xs)):Ks H' v p:=let ⟨t,e,z⟩:=h; ⟨t,e,s _ _ z⟩
theorem Uv.same {H H':Hp} {v:V} {p:(Int × Str) × Str} (h:Uv H v p) (s:∀ b xs,H b=some (.tup xs)->H' b=some (.tup xs)):Uv H' v p:=let ⟨t,t2,e,z,q⟩:=h; ⟨t,t2,e,s _ _ z,q.same s⟩
theorem Ks.at {X:Cx} {pins:List (Addr × Obj)} {σ:St} {H:Hp} {s:Shared} {v:V} {u:Value} {p:Int × Str} (I:An X pins σ H s) (r:A3 v u) (h:Ks H v p):D9 s.heap u p:=by
 obtain ⟨t,rfl,ht⟩:=h;cases r
 obtain ⟨Ap,rv,pl,hz⟩:=I.tuple (AF.of ht);cases rv with
 | cons a1 b1=>
  cases b1 with
  | cons a2 b2=>
   cases b2
   obtain ⟨t1,rfl⟩:=a1;obtain ⟨t2,rfl⟩:=a2;exact ⟨t,t1,t2,rfl,pl⟩
theorem Uv.at {X:Cx} {pins:List (Addr × Obj)} {σ:St} {H:Hp} {s:Shared} {v:V} {u:Value} {k:(Int × Str) × Str} (I:An X pins σ H s) (r:A3 v u) (h:Uv H v k):Jm s.heap u k:=by
 obtain ⟨t,l,rfl,ht,hp⟩:=h;cases r
 obtain ⟨Ap,rv,pl,hz⟩:=I.tuple (AF.of ht);cases rv with
 | cons a1 b1=>
  cases b1 with
  | cons a2 b2=>
   cases b2
   cases a1
   obtain ⟨t2,rfl⟩:=a2;exact ⟨t,l,t2,rfl,pl,hp.at I (show A3 (V.ref l) (Value.ref l) from rfl)⟩
def Du (p q:Int × Str):Prop:=p.1 < q.1\/(p.1=q.1/\¬ q.2.cps.toList < p.2.cps.toList)
theorem Du.refl (p:Int × Str):Du p p:=.inr ⟨rfl,bM _⟩
theorem Du.trans {p q r:Int × Str} (h1:Du p q) (h2:Du q r):Du p r:=by
 rcases h1 with a | ⟨a,b⟩ <;> rcases h2 with c | ⟨c,d⟩
 ·exact .inl (by lia)
 ·exact .inl (by lia)
 ·exact .inl (by lia)
 ·exact .inr ⟨by lia,aN.mpr (eC (aN.mp b) (aN.mp d))⟩
theorem Du.add {d d' l:Int} {s s':Str} (h:Du (d,s) (d',s')):Du (d + l,s) (d' + l,s'):=by
 rcases h with a | ⟨a,b⟩
 ·have a':d < d':=a;exact .inl (show d + l < d' + l by lia)
 ·have a':d=d':=a;exact .inr ⟨show d + l=d' + l by lia,b⟩
theorem Du.up {d d':Int} {s:Str} (h:d<=d'):Du (d,s) (d',s):=by
 by_cases e:d=d'
 ·exact .inr ⟨e,bM _⟩
 ·exact .inl (show d < d' by lia)
theorem Du.fst {p q:Int × Str} (h:Du p q):p.1<=q.1:=by
 rcases h with a | ⟨a,_⟩ <;> lia
theorem NY {p q:Int × Str} (h:Se p q=true):Du p q:=by
 unfold Se at h;by_cases e:(p.1 == q.1)=true
 ·have e':p.1=q.1:=by simpa using e
  rw [if_pos e] at h;by_cases e2:(p.2 == q.2)=true
  ·rw [if_pos e2] at h; cases h
  ·rw [if_neg e2] at h;exact .inr ⟨e',b7 (by simpa using h)⟩
 ·rw [if_neg e] at h;exact .inl (by simpa using h)
theorem NZ {p q:Int × Str} (h:Se p q=false):Du q p:=by
 unfold Se at h;by_cases e:(p.1 == q.1)=true
 ·have e':p.1=q.1:=by simpa using e
  rw [if_pos e] at h;by_cases e2:(p.2 == q.2)=true
  ·have Xw:p.2=q.2:=by simpa using e2
   exact .inr ⟨e'.symm,by rw [Xw]; exact bM _⟩
  ·rw [if_neg e2] at h;exact .inr ⟨e'.symm,by simpa using h⟩
 ·rw [if_neg e] at h;have e':¬ p.1=q.1:=by simpa using e
  have:¬ p.1 < q.1:=by simpa using h
  exact .inl (by lia)
theorem SU {p q:(Int × Str) × Str} (h:Uh p q=true):Du p.1 q.1:=by
 unfold Uh at h;by_cases e:decide (p.1=q.1)=true
 ·have:p.1=q.1:=by simpa using e
  rw [this]; exact Du.refl _
 ·rw [if_neg e] at h;exact NY h
theorem SV {p q:(Int × Str) × Str} (h:Uh p q=false):Du q.1 p.1:=by
 unfold Uh at h;by_cases e:decide (p.1=q.1)=true
 ·have:p.1=q.1:=by simpa using e
  rw [this]; exact Du.refl _
 ·rw [if_neg e] at h;exact NZ h
theorem Hy (bt:Nat->Nat->Bool) (num:Nat->Int × Str) (h1:∀ i j,bt i j=true->Du (num i) (num j)) (h2:∀ i j,bt i j=false->Du (num j) (num i)):∀ k,argBest bt k<=k/\∀ j,j<=k->Du (num (argBest bt k)) (num j)
 | 0=>⟨Zb _,fun j hj=>by
  have:j=0:=by lia
  subst this; exact Du.refl _⟩
 | k + 1=>by
  obtain ⟨a1,a2⟩:=Hy bt num h1 h2 k;simp only [argBest];cases hc:bt (k + 1) (argBest bt k) with
  | true=>
   simp only [if_true];refine ⟨Zb _,fun j hj=>?_⟩;by_cases HI:j<=k
   ·exact (h1 _ _ hc).trans (a2 j HI)
   ·have:j=k + 1:=by lia
    subst this; exact Du.refl _
  | false=>
   simp only [Z1,if_false];refine ⟨aV a1,fun j hj=>?_⟩;by_cases HI:j<=k
   ·exact a2 j HI
   ·have:j=k + 1:=by lia
    subst this; exact h2 _ _ hc
theorem Jg {X:Cx} (hc:X.calm=true) (hu:X.A.units + 64 < cLine):Bi X (.builtin "min") (fun xs H Q=>∃ (a:Addr) (vs:List V) (ks:List ((Int × Str) × Str)),xs=[.ref a]/\H a=some (.lst vs)/\vs.length=ks.length/\ks ≠ []/\(∀ (i:Nat) v k,vs[i]? = some v->ks[i]? = some k->Uv H v k) /\
  ∀ v k,k ∈ ks->Uv H v k->(∀ k' ∈ ks,Du k.1 k'.1)->Q v H):=by
 intro pins s σ H xs us Q I r h;obtain ⟨a,vs,ks,rfl,ha,hl,hne,hk,q⟩:=h;obtain ⟨u,rfl,ru⟩:=Cf r;cases ru
 obtain ⟨Ap,rv,pl,hz⟩:=I.list (A9.of ha);have il:Ap.length=ks.length:=by rw [<-rv.length,hl]
 have pos:0 < ks.length:=ZV.mpr hne;have kat:∀ (i:Nat) (v:Value),Ap[i]? = some v->∃ k,ks[i]? = some k/\Jm s.heap v k/\∃ x,vs[i]? = some x/\A3 x v:=fun i v e=>by
  have hi:i < Ap.length:=(YZ.mp e).1;have e1:vs[i]? = some vs[i]:=YU (by lia);have e2:ks[i]? = some ks[i]:=YU (by lia);obtain ⟨v',e3,r3⟩:=rv.get e1;rw [e] at e3;cases e3
  exact ⟨_,e2,(hk i _ _ e1 e2).at I r3,_,e1,r3⟩
 refine GB (bt:=fun i j=>Uh (ks.getD i default) (ks.getD j default)) (I.ok.hd hc) pl.isList (by lia) (fun i j vi vj s' Q' E' g hi hj hQ=>?_) fun v h2 tk hv k2=>?_
 ·obtain ⟨ki,e1,a1,_⟩:=kat i vi hi;obtain ⟨kj,e2,a2,_⟩:=kat j vj hj;have d1:ks.getD i default=ki:=by rw [Zw,e1]; rfl
  have d2:ks.getD j default=kj:=by rw [Zw,e2]; rfl
  dsimp only at hQ;rw [d1,d2] at hQ;exact UU (a1.keep g) (a2.keep g) (by rw [PySem.Around.in1_units]; lia) _ _ _ _ hQ
 ·obtain ⟨k,e1,a1,x,e3,r3⟩:=kat _ v hv;obtain ⟨b1,b2⟩:=Hy (fun i j=>Uh (ks.getD i default) (ks.getD j default)) (fun i=>(ks.getD i default).1) (fun _ _=>SU) (fun _ _=>SV) (Ap.length - 1);refine ⟨x,H,I.kept k2,r3,q x k (YY e1) (hk _ x k e3 e1) fun k' ML=>?_⟩;obtain ⟨j,hj,ej⟩:=Zm ML;have:=b2 j (by lia);have d1:ks.getD (argBest (fun i j=>Uh (ks.getD i default) (ks.getD j default)) (Ap.length - 1)) default=k:=by rw [Zw,e1]; rfl
  have d2:ks.getD j default=k':=by rw [Zw,YU hj,ej]; rfl
  rw [d1,d2] at this;exact this
theorem J5 {X:Cx} (hc:X.calm=true) (hu:X.A.units + 64 < cLine):Bi X (.builtin "min") (fun xs H Q=>∃ (x y:V) (p q:Int × Str),xs=[x,y]/\Ks H x p/\Ks H y q/\((Du q p->Q y H)/\(Du p q->Q x H))):=by
 intro pins s σ H xs us Q I r h;obtain ⟨x,y,p,q,rfl,hx,hy,q1,q2⟩:=h;obtain ⟨u,v,rfl,ru,rv⟩:=Nj r;have pu:=hx.at I ru;have pv:=hy.at I rv;refine Rq (bt:=fun i j=>Se ([p,q].getD i default) ([p,q].getD j default)) (I.ok.hd hc) (fun i j vi vj s' Q' E' g hi hj hQ=>?_) fun z h2 tk hz k2=>?_
 ·have at':∀ (i:Nat) (vi:Value),[u,v][i]? = some vi->D9 s.heap vi ([p,q].getD i default):=fun i vi e=>by
   match i,e with
   | 0,e=>cases e; exact pu
   | 1,e=>cases e; exact pv
   | i + 2,e=>cases e
  exact NX ((at' i vi hi).keep g) ((at' j vj hj).keep g) (by rw [PySem.Around.in1_units]; lia) _ _ _ _ hQ
 ·have e:argBest (fun i j=>Se ([p,q].getD i default) ([p,q].getD j default)) 1=if Se q p=true then 1 else 0:=rfl
  rw [e] at hz;cases hl:Se q p with
  | true=>
   rw [hl,if_pos rfl] at hz;cases hz
   exact ⟨y,H,I.kept k2,rv,q1 (NY hl)⟩
  | false=>
   rw [hl,if_neg Zn] at hz;cases hz
   exact ⟨x,H,I.kept k2,ru,q2 (NZ hl)⟩
def BY (ws:List A8) (x y:Str) (l:Int):Prop:=∃ u ∈ ws,((u.1=x/\u.2.1=y)\/(u.1=y/\u.2.1=x))/\u.2.2=l
theorem BY.adj {ws:List A8} {x y:Str} {l:Int} (h:BY ws x y l):Ld ws x y:=let ⟨u,hu,e,_⟩:=h; ⟨u,hu,e⟩
theorem BY.symm {ws:List A8} {x y:Str} {l:Int} (h:BY ws x y l):BY ws y x l:=let ⟨u,hu,e,z⟩:=h; ⟨u,hu,e.symm,z⟩
inductive Bh (ws:List A8):Str->Str->Int->Prop
 | nil (x:Str):Bh ws x x 0
 | cons {x y z:Str} {l m:Int}:BY ws x y l->Bh ws y z m->Bh ws x z (l + m)
theorem Bh.app {ws:List A8} {x y z:Str} {m n:Int} (h:Bh ws x y m) (g:Bh ws y z n):Bh ws x z (m + n):=by
 induction h with
 | nil x=>rw [aa]; exact g
 | cons e _ ih=>rw [bA]; exact .cons e (ih g)
theorem Bh.snoc {ws:List A8} {x y z:Str} {m l:Int} (h:Bh ws x y m) (e:BY ws y z l):Bh ws x z (m + l):=by
 have:=h.app (.cons e (.nil z));rwa [ak] at this
theorem Bh.symm {ws:List A8} {x y:Str} {m:Int} (h:Bh ws x y m):Bh ws y x m:=by
 induction h with
 | nil x=>exact .nil x
 | @cons x y z l m e _ ih=>rw [Int.add_comm]; exact ih.snoc e.symm
theorem Bh.pos {ws:List A8} (hp:∀ u ∈ ws,1<=u.2.2) {x y:Str} {m:Int} (h:Bh ws x y m):0<=m:=by
 induction h with
 | nil x=>exact ZD _
 | cons e _ ih=>
  obtain ⟨u,hu,_,rfl⟩:=e;have:=hp u hu;lia
def Nc (ws:List A8) (ss:List Str) (y:Str) (p:Int × Str):Prop:=(p.2 ∈ ss/\Bh ws p.2 y p.1)/\∀ s ∈ ss,∀ m,Bh ws s y m->Du p (m,s)
structure TF (ws:List A8) (ss:List Str) (S R:Str->Int × Str->Prop):Prop where
 near:∀ y p,S y p->Nc ws ss y p
 reach:∀ y p,R y p->p.2 ∈ ss/\Bh ws p.2 y p.1
 relax:∀ x p y l,S x p->BY ws x y l->(∃ q,S y q)\/∃ q,R y q/\Du q (p.1 + l,p.2)
 start:∀ s ∈ ss,(∃ q,S s q)\/∃ q,R s q/\Du q (0,s)
theorem TF.out {ws:List A8} {ss:List Str} {S R:Str->Int × Str->Prop} (h:TF ws ss S R) (hp:∀ u ∈ ws,1<=u.2.2) {x z:Str} {m:Int} (g:Bh ws x z m) (hz:∀ q,¬ S z q):∀ p,S x p->∃ y q,R y q/\Du q (p.1 + m,p.2):=by
 induction g with
 | nil x=>intro p hp'; exact absurd hp' (hz p)
 | @cons x y z l m e g ih=>
  intro p hx;rcases h.relax x p y l hx e with ⟨q,hq⟩ | ⟨q,hq,le⟩
  ·obtain ⟨y',q',h1,h2⟩:=ih hz q hq;refine ⟨y',q',h1,h2.trans ?_⟩;have n1:=(h.near y q hq).2 p.2 (h.near x p hx).1.1 (p.1 + l) ((h.near x p hx).1.2.snoc e);have:=n1.add (l:=m);rw [bA] at this;exact this
  ·exact ⟨y,q,hq,le.trans (Du.up (by have:=g.pos hp; lia))⟩
theorem TF.pick {ws:List A8} {ss:List Str} {S R:Str->Int × Str->Prop} (h:TF ws ss S R) (hp:∀ u ∈ ws,1<=u.2.2) {y:Str} {p:Int × Str} (hy:R y p) (ny:∀ q,¬ S y q) (least:∀ z q,R z q->Du p q):Nc ws ss y p:=by
 refine ⟨h.reach y p hy,fun s hs m g=>?_⟩;rcases h.start s hs with ⟨q,hq⟩ | ⟨q,hq,le⟩
 ·obtain ⟨z,q',h1,h2⟩:=h.out hp g ny q hq;refine (least z q' h1).trans (h2.trans ?_);have n1:=(h.near s q hq).2 s hs 0 (.nil s);have:=(show Du (q.1,q.2) (0,s) from n1).add (l:=m);rw [aa] at this;exact this
 ·exact (least s q hq).trans (le.trans (Du.up (g.pos hp)))
theorem TF.done {ws:List A8} {ss:List Str} {S R:Str->Int × Str->Prop} (h:TF ws ss S R) (hR:∀ y p,¬ R y p) {r:Str} (hss:ss ≠ []) {ps:List Str} (con:∀ T:Str->Prop,T r->(∀ x y,Ld ws x y->T x->T y)->∀ x ∈ ps,T x)
  (YO:∀ T:Str->Prop,∀ x ∈ ps,T x->(∀ x y,Ld ws x y->T x->T y)->T r) (sub:∀ s ∈ ss,s ∈ ps):∀ x ∈ ps,∃ q,S x q:=by
 have cl:∀ x y,Ld ws x y->(∃ q,S x q)->∃ q,S y q:=fun x y ⟨u,hu,e⟩ ⟨q,hq⟩=>by
  rcases h.relax x q y u.2.2 hq ⟨u,hu,e,rfl⟩ with z | ⟨q',hq',_⟩
  ·exact z
  ·exact absurd hq' (hR _ _)
 obtain ⟨s,hs⟩:=cI ss hss;have s0:∃ q,S s q:=by
  rcases h.start s hs with z | ⟨q,hq,_⟩
  ·exact z
  ·exact absurd hq (hR _ _)
 exact con (fun x=>∃ q,S x q) (YO (fun x=>∃ q,S x q) s (sub s hs) s0 cl) cl
theorem K6 {a b:List (Str × V)} (h:sK a=sK b):a=b:=by
 unfold sK at h;exact dz (fun x y z=>by
  simp only [Prod.mk.injEq,Sum.inr.injEq] at z;exact Prod.ext z.1 z.2) |>.mp h
theorem HQ {nv DF:List (Str × V)} {y:Str} {v:V} (e:Bp (sK nv) (Sum.inr y:A4) v=sK DF):∀ z x,(z,x) ∈ DF ↔ (z=y/\x=v)\/(z ≠ y/\(z,x) ∈ nv):=by
 intro z x;by_cases h:y ∈ nv.map (·.1)
 ·have e2:Bp (sK nv) (Sum.inr y:A4) v=sK (nv.map fun q=>if q.1=y then (q.1,v) else q):=by
   unfold Bp;have:((sK nv).any fun kv=>decide (kv.1=(Sum.inr y:A4)))=true:=by rw [Cn,Hi,decide_eq_true h]
   rw [if_pos this];unfold sK;rw [ZA,ZA];refine aJ fun q _=>?_
   by_cases e:q.1=y
   ·simp [e]
   ·have e':¬ (Sum.inr q.1:A4)=Sum.inr y:=fun z=>e (Sum.inr.inj z)
    simp [e,e']
  rw [e2] at e;rw [<-K6 e,Zd];constructor
  ·rintro ⟨q,hq,e⟩;by_cases eq:q.1=y
   ·rw [if_pos eq] at e;have e1:q.1=z:=congrArg Prod.fst e;have e3:v=x:=congrArg Prod.snd e;exact .inl ⟨by rw [<-e1,eq],e3.symm⟩
   ·rw [if_neg eq] at e;refine .inr ⟨?_,by rw [<-e]; exact hq⟩;rw [show z=q.1 from (congrArg Prod.fst e).symm]; exact eq
  ·rintro (⟨rfl,rfl⟩ | ⟨h1,h2⟩)
   ·obtain ⟨q,hq,e1⟩:=Zd.mp h;have Vn:q.1=z:=e1;exact ⟨q,hq,by rw [if_pos Vn,Vn]⟩
   ·exact ⟨(z,x),h2,by rw [if_neg h1]⟩
 ·rw [Dw h] at e;rw [<-K6 e,Zp];constructor
  ·rintro (h1 | h1)
   ·refine .inr ⟨?_,h1⟩;rintro rfl;exact h (Zd.mpr ⟨_,h1,rfl⟩)
   ·simp only [Zl,Prod.mk.injEq] at h1;exact .inl h1
  ·rintro (⟨rfl,rfl⟩ | ⟨_,h2⟩)
   ·exact .inr (by simp)
   ·exact .inl h2
theorem S7 (nv:List (Str × V)) (y:Str):IY (sK nv) (Sum.inr y:A4)=sK (nv.filter fun q=>decide (q.1 ≠ y)):=by
 unfold IY sK;rw [List.filter_map];congr 1;refine List.filter_congr fun q _=>?_
 by_cases e:q.1=y
 ·simp [e]
 ·have e':¬ (Sum.inr q.1:A4)=Sum.inr y:=fun z=>e (Sum.inr.inj z)
  simp [e,e']
def Si (H:Hp) (ps:List Str) (ds:List Addr) (Ed:Str->Str->Int->Prop):Prop:=∀ (i:Nat) (p:Str) (d:Addr) (nv:List (Str × V)),ps[i]? = some p->ds[i]? = some d->Rd H d (.dK (sK nv))->∀ y v,(y,v) ∈ nv->∃ l,v=.int l/\Ed p y l
theorem Rd.inj {H:Hp} {d:Addr} {a b:List (Str × V)} (h:Rd H d (.dK (sK a))) (g:Rd H d (.dK (sK b))):a=b:=by
 rcases h with h | ⟨o,h⟩ <;> rcases g with g | ⟨o',g⟩ <;> have e:=Zo.inj (h.symm.trans g)
 ·injection e with e; exact K6 e
 ·exact nomatch e
 ·exact nomatch e
 ·injection e with _ e;injection e with e; exact K6 e
theorem Si.put {H:Hp} {ps:List Str} {ds:List Addr} {Ed Ed':Str->Str->Int->Prop} (h:Si H ps ds Ed) (hn:ps.Nodup) (dn:ds.Nodup) {i:Nat} {p y:Str} {d:Addr} {l:Int} (e1:ps[i]? = some p) (e2:ds[i]? = some d) {nv DF:List (Str × V)} (hd:H d=some (.dK (sK nv)))
  (ep:Bp (sK nv) (Sum.inr y:A4) (.int l)=sK DF) (mono:∀ a b m,Ed a b m->Ed' a b m) (new:Ed' p y l):Si (upd H d (.dK (sK DF))) ps ds Ed':=by
 intro j q c nw f1 f2 hr z v hz;by_cases hc:c=d
 ·subst hc;have ij:i=j:=Hn dn e2 f2;subst ij;rw [e1] at f1; cases f1;have:nw=DF:=Rd.inj hr (.inl Ab);subst this;rcases (HQ ep z v).mp hz with ⟨rfl,rfl⟩ | ⟨_,Qd⟩
  ·exact ⟨l,rfl,new⟩
  ·obtain ⟨l',e,ed⟩:=h i _ c nv e1 e2 (.inl hd) z v Qd;exact ⟨l',e,mono _ _ _ ed⟩
 ·have Sf:Rd H c (.dK (sK nw)):=by
   rcases hr with g | ⟨o,g⟩
   ·exact .inl (by rw [Af hc] at g; exact g)
   ·exact .inr ⟨o,by rw [Af hc] at g; exact g⟩
  obtain ⟨l',e,ed⟩:=h j q c nw f1 f2 Sf z v hz;exact ⟨l',e,mono _ _ _ ed⟩
def Q5 (K:YX):Sp:=fun vs H Q _=>∃ (q:Addr) (ps:List Str) (ws:List A8) (r:Str),vs=[.ref q]/\Jl H q ps ws r /\
 ∀ (H':Hp) (B:Addr) (ds:List Addr),Au H H'->NB H' B ps ds (Ld ws) 128->Si H' ps ds (BY ws)->H B=none->(∀ d ∈ ds,H d=none)->Q (.ref B) H'
theorem PI.or {X:Cx} {tg l:Expr} {w1 w2:TI} (h1:PI X tg l w1) (h2:PI X tg l w2):PI X tg l (fun σ H R=>w1 σ H R\/w2 σ H R):=by
 intro pins s σ H R I h;rcases h with h | h
 ·exact h1 (pins:=pins) s σ H R I h
 ·exact h2 (pins:=pins) s σ H R I h
def MZ (H:Hp) (nv:List (Str × V)) (S:Str->Int × Str->Prop):Prop:=(nv.map (·.1)).Nodup/\(∀ y v,(y,v) ∈ nv->∃ p,Ks H v p/\S y p)/\∀ y p,S y p->∃ v,(y,v) ∈ nv/\Ks H v p
def Q4 (K:YX):Sp:=fun vs H Q _=>∃ (q st:Addr) (ps ss:List Str) (ws:List A8) (r:Str),vs=[.ref q,.ref st]/\Jl H q ps ws r/\(∀ u ∈ ws,1<=u.2.2)/\(∀ x y l l',BY ws x y l->BY ws x y l'->l=l')/\(H st=some (.lst (ss.map V.str))\/H st=some (.tup (ss.map V.str)))/\ss ≠ []/\ss.Nodup/\(∀ s ∈ ss,s ∈ ps) /\
 ∀ (H':Hp) (B:Addr) (nv:List (Str × V)),Au H H'->H B=none->H' B=some (.dK (sK nv))->(nv.map (·.1)).Nodup->(∀ x,x ∈ nv.map (·.1) ↔ x ∈ ps)->(∀ y v,(y,v) ∈ nv->∃ p,Ks H' v p/\Nc ws ss y p)->Q (.ref B) H'
theorem JO {nv:List (Str × V)} {y:Str} {v:V} (h:Bd (sK nv) (Sum.inr y:A4)=some v):(y,v) ∈ nv:=by
 unfold Bd at h;cases e:(sK nv).find? (fun kv=>decide (kv.1=(Sum.inr y:A4))) with
 | none=>rw [e] at h; cases h
 | some kv=>
  rw [e] at h;have h1:=List.find?_some e;have h2:=cJ e;obtain ⟨q,hq,rfl⟩:=Zd.mp h2;have e1:q.1=y:=by
   have:(Sum.inr q.1:A4)=Sum.inr y:=by simpa using h1
   exact Sum.inr.inj this
  have e2:q.2=v:=Zo.inj h;rw [<-e1,<-e2];exact hq
theorem PN {ws:List A8} {i:Nat} {a b:Str} {m:Int} (h:BY (ws.take i) a b m):BY (ws.take (i + 1)) a b m:=by
 obtain ⟨u,hu,e⟩:=h;rw [Zs];exact ⟨u,ZN _ hu,e⟩
theorem LX {ws:List A8} {i:Nat} {u:A8} (h:ws[i]? = some u):BY (ws.take (i + 1)) u.1 u.2.1 u.2.2:=by
 rw [Zs,h];exact ⟨u,Zj _ (by simp),.inl ⟨rfl,rfl⟩,rfl⟩
theorem Ks.fn {H:Hp} {v:V} {p q:Int × Str} (h:Ks H v p) (g:Ks H v q):p=q:=by
 obtain ⟨t,rfl,e⟩:=h;obtain ⟨t',e',g⟩:=g;have:t=t':=by injection e'
 subst this;have z:=Zo.inj (e.symm.trans g);injection z with z;simp only [aY.injEq,V.int.injEq,V.str.injEq] at z;exact Prod.ext z.1 z.2.1
theorem NR.same {H H':Hp} {B:Addr} {ps:List Str} {ds:List Addr} {P:Str->Str->Prop} (h:NR H B ps ds P) (s:Au H H'):NR H' B ps ds P:=
 ⟨s _ _ h.top,h.len,h.nd,h.nB,fun i p d e1 e2=>let ⟨nv,a1,a3⟩:=h.inner i p d e1 e2
  ⟨nv,(by rcases a1 with a | ⟨o,a⟩; exact .inl (s _ _ a); exact .inr ⟨o,s _ _ a⟩),a3⟩⟩
theorem Si.of {H H':Hp} {B:Addr} {ps:List Str} {ds:List Addr} {P:Str->Str->Prop} {Ed:Str->Str->Int->Prop} (h:Si H ps ds Ed) (nr:NR H B ps ds P) (k:∀ d ∈ ds,∀ nv:List (Str × V),Rd H d (.dK (sK nv))->Rd H' d (.dK (sK nv))):Si H' ps ds Ed:=by
 intro i p d nv e1 e2 hr y v hy;obtain ⟨nw,a1,_⟩:=nr.inner i p d e1 e2;have:=Rd.inj hr (k d (YY e2) nw a1);subst this;exact h i p d nv e1 e2 a1 y v hy
theorem MZ.same {H H':Hp} {nv:List (Str × V)} {S:Str->Int × Str->Prop} (h:MZ H nv S) (s:∀ b xs,H b=some (.tup xs)->H' b=some (.tup xs)):MZ H' nv S:=
 ⟨h.1,fun y v hv=>let ⟨p,a,b⟩:=h.2.1 y v hv; ⟨p,a.same s,b⟩,fun y p hp=>let ⟨v,a,b⟩:=h.2.2 y p hp; ⟨v,a,b.same s⟩⟩
theorem MZ.fn {H:Hp} {nv:List (Str × V)} {S:Str->Int × Str->Prop} (h:MZ H nv S) {y:Str} {p q:Int × Str} (hp:S y p) (hq:S y q):p=q:=by
 obtain ⟨v,a,b⟩:=h.2.2 y p hp;obtain ⟨w,c,d⟩:=h.2.2 y q hq;have:=Qp h.1 a c;subst this;exact b.fn d
theorem MZ.put {H:Hp} {nv DF:List (Str × V)} {S:Str->Int × Str->Prop} {y:Str} {v:V} {p:Int × Str} (h:MZ H nv S) (e:Bp (sK nv) (Sum.inr y:A4) v=sK DF) (hv:Ks H v p):MZ H DF (fun z q=>(z=y/\q=p)\/(z ≠ y/\S z q)):=by
 refine ⟨S6 e h.1,fun z x hz=>?_,fun z q hq=>?_⟩
 ·rcases (HQ e z x).mp hz with ⟨rfl,rfl⟩ | ⟨n,Qd⟩
  ·exact ⟨p,hv,.inl ⟨rfl,rfl⟩⟩
  ·obtain ⟨q,a,b⟩:=h.2.1 z x Qd;exact ⟨q,a,.inr ⟨n,b⟩⟩
 ·rcases hq with ⟨rfl,rfl⟩ | ⟨n,hq⟩
  ·exact ⟨v,(HQ e _ _).mpr (.inl ⟨rfl,rfl⟩),hv⟩
  ·obtain ⟨x,a,b⟩:=h.2.2 z q hq;exact ⟨x,(HQ e _ _).mpr (.inr ⟨n,a⟩),b⟩
theorem MZ.drop {H:Hp} {nv:List (Str × V)} {S:Str->Int × Str->Prop} (h:MZ H nv S) (y:Str):MZ H (nv.filter fun q=>decide (q.1 ≠ y)) (fun z q=>z ≠ y/\S z q):=by
 refine ⟨G9 h.1 _,fun z x hz=>?_,fun z q hq=>?_⟩
 ·obtain ⟨a,b⟩:=Zy.mp hz;obtain ⟨q,c,d⟩:=h.2.1 z x a;exact ⟨q,c,by simpa using b,d⟩
 ·obtain ⟨n,hq⟩:=hq;obtain ⟨x,a,b⟩:=h.2.2 z q hq;exact ⟨x,Zy.mpr ⟨a,by simpa using n⟩,b⟩
structure NI (H H2:Hp) (ps:List Str) (ws:List A8) (B RA SA:Addr) (ds:List Addr) (nvR nvS:List (Str × V)) (S R:Str->Int × Str->Prop):Prop where
 same:Au H H2
 nr:NR H2 B ps ds (Ld ws)
 nbv:Si H2 ps ds (BY ws)
 dR:H2 RA=some (.dK (sK nvR))
 dS:H2 SA=some (.dK (sK nvS))
 pR:MZ H2 nvR R
 pS:MZ H2 nvS S
 subR:∀ y ∈ nvR.map (·.1),y ∈ ps
 subS:∀ y ∈ nvS.map (·.1),y ∈ ps
section
variable {H H2 H3:Hp} {ps:List Str} {ws:List A8} {B RA SA:Addr} {ds:List Addr} {nvR nvS:List (Str × V)} {S R:Str->Int × Str->Prop}
theorem NI.grow (h:NI H H2 ps ws B RA SA ds nvR nvS S R) (s:Au H2 H3):NI H H3 ps ws B RA SA ds nvR nvS S R:=
 ⟨h.same.trans s,h.nr.same s,h.nbv.of h.nr fun d _ nv z=>by rcases z with a | ⟨o,a⟩; exact .inl (s _ _ a); exact .inr ⟨o,s _ _ a⟩,s _ _ h.dR,s _ _ h.dS,h.pR.same fun b xs z=>s _ _ z,h.pS.same fun b xs z=>s _ _ z,h.subR,h.subS⟩
theorem NI.lenS (h:NI H H2 ps ws B RA SA ds nvR nvS S R):nvS.length<=ps.length:=by
 have:=Co h.pS.1 h.subS;rwa [YV] at this
theorem NI.lenR (h:NI H H2 ps ws B RA SA ds nvR nvS S R):nvR.length<=ps.length:=by
 have:=Co h.pR.1 h.subR;rwa [YV] at this
theorem NI.inS (h:NI H H2 ps ws B RA SA ds nvR nvS S R) {y:Str}:y ∈ nvS.map (·.1) ↔ ∃ q,S y q:=by
 constructor
 ·intro hy;obtain ⟨⟨z,v⟩,a,b⟩:=Zd.mp hy;have b':z=y:=b;subst b';obtain ⟨p,_,c⟩:=h.pS.2.1 z v a;exact ⟨p,c⟩
 ·rintro ⟨q,hq⟩;obtain ⟨v,a,_⟩:=h.pS.2.2 y q hq;exact Zd.mpr ⟨_,a,rfl⟩
theorem NI.inR (h:NI H H2 ps ws B RA SA ds nvR nvS S R) {y:Str}:y ∈ nvR.map (·.1) ↔ ∃ q,R y q:=by
 constructor
 ·intro hy;obtain ⟨⟨z,v⟩,a,b⟩:=Zd.mp hy;have b':z=y:=b;subst b';obtain ⟨p,_,c⟩:=h.pR.2.1 z v a;exact ⟨p,c⟩
 ·rintro ⟨q,hq⟩;obtain ⟨v,a,_⟩:=h.pR.2.2 y q hq;exact Zd.mpr ⟨_,a,rfl⟩
theorem NI.setR (h:NI H H2 ps ws B RA SA ds nvR nvS S R) (aR:RA ∉ ds/\RA ≠ B/\RA ≠ SA/\H RA=none) {DF:List (Str × V)} {R':Str->Int × Str->Prop} (p':MZ H2 DF R') (sub:∀ y ∈ DF.map (·.1),y ∈ ps):NI H (upd H2 RA (.dK (sK DF))) ps ws B RA SA ds DF nvS S R':=by
 have tu:∀ b xs,H2 b=some (.tup xs)->(upd H2 RA (.dK (sK DF))) b=some (.tup xs):=fun b xs z=>by
  rw [Af (Cg z h.dR (by intro z; cases z))]; exact z
 exact ⟨fun b o z=>by rw [Af (Ai z aR.2.2.2)]; exact h.same _ _ z,h.nr.other aR.1 aR.2.1,h.nbv.of h.nr fun d hd nv z=>z.ne (fun e=>aR.1 (by rw [<-e]; exact hd)),Ab,by rw [Af (Ne.symm aR.2.2.1)]; exact h.dS,p'.same tu,h.pS.same tu,sub,h.subS⟩
theorem NI.setS (h:NI H H2 ps ws B RA SA ds nvR nvS S R) (aS:SA ∉ ds/\SA ≠ B/\SA ≠ RA/\H SA=none) {DF:List (Str × V)} {S':Str->Int × Str->Prop} (p':MZ H2 DF S') (sub:∀ y ∈ DF.map (·.1),y ∈ ps):NI H (upd H2 SA (.dK (sK DF))) ps ws B RA SA ds nvR DF S' R:=by
 have tu:∀ b xs,H2 b=some (.tup xs)->(upd H2 SA (.dK (sK DF))) b=some (.tup xs):=fun b xs z=>by
  rw [Af (Cg z h.dS (by intro z; cases z))]; exact z
 exact ⟨fun b o z=>by rw [Af (Ai z aS.2.2.2)]; exact h.same _ _ z,h.nr.other aS.1 aS.2.1,h.nbv.of h.nr fun d hd nv z=>z.ne (fun e=>aS.1 (by rw [<-e]; exact hd)),by rw [Af (Ne.symm aS.2.2.1)]; exact h.dR,Ab,h.pR.same tu,p'.same tu,h.subR,sub⟩
theorem NI.frz (h:NI H H2 ps ws B RA SA ds nvR nvS S R) (aR:RA ∉ ds) (aS:SA ∉ ds) (fr:∀ d ∈ ds,H d=none) {i:Nat} {p:Str} {d:Addr} (e1:ps[i]? = some p) (e2:ds[i]? = some d) {nv:List (Str × V)} {o:Obj} (f:Ej H2 d (sK nv) o H3) (hP:∀ y,y ∈ nv.map (·.1) ↔ Ld ws p y):NI H H3 ps ws B RA SA ds nvR nvS S R:=by
 have dm:d ∈ ds:=YY e2;have tu:∀ b xs,H2 b=some (.tup xs)->H3 b=some (.tup xs):=fun b xs z=>by
  rw [f.ne (by
   rintro rfl;rcases f with ⟨g,_⟩ | ⟨g,_⟩ <;> (rw [z] at g; cases g))]
  exact z
 refine ⟨fun b u z=>by rw [f.ne (Ai z (fr d dm))]; exact h.same _ _ z,h.nr.freeze e1 e2 f hP,h.nbv.of h.nr fun c hc nw z=>?_,by rw [f.ne (fun z=>aR (by rw [z]; exact dm))]; exact h.dR,by rw [f.ne (fun z=>aS (by rw [z]; exact dm))]; exact h.dS,h.pR.same tu,h.pS.same tu,h.subR,h.subS⟩;by_cases hcd:c=d
 ·subst hcd;rcases f with ⟨g,e⟩ | ⟨g,e⟩
  ·have:=Rd.inj z (.inl g);subst this;exact .inr ⟨o,by rw [e]; exact Ab⟩
  ·rw [e]; exact z
 ·exact z.fz f hcd
end
theorem KP:typeLookup (.type "list") "keys"=pure none:=by rw [typeLookup_type,builtinLookup_eq_fast]; kernel_rfl
theorem MA {prog:Program} {w:World} {A:Around} {E:Value->Shared->Prop} {s:Shared} {a:Addr} {o:Obj} {xs:Array Value} {k:Nat} {Q:Option Value->Shared->Prop}
  (hx:s.heap.get? a=some o) (hc:o.cls=.type "list") (hdat:o.data=.seq xs k) (hd:o.dict=none) (hA:A.handled=none)
  (h:∀ h' tk,(∀ b ob,s.heap.get? b=some ob->h'.get? b=some ob)->Q none { s with heap:=h',toks:=tk }):wpAny (model prog w) A (getAttr? (.ref a) "keys") Q E s:=by
 obtain ⟨c,dct,dat,sl⟩:=o;simp only at hc hdat hd;subst hc hdat hd;obtain ⟨hp,g,d,tk,os⟩:=s;have hT:∀ Qv,(⟨hp,g,d,Qv,os⟩:Shared).TypeIs (.ref a) "list":=fun _=>⟨_,hx,rfl⟩
 have f1:=sub_AttributeError;have f3:=F.slot_list_getattribute.lookup;have f4:=F.slot_list_getattribute.bind (.ref a);have f5:=am_list_getattr_none;unfold getAttr? getAttrBy? getAttrBy;repeat (any_goals (first | assumption | exact hT _ | ((with_reducible show wpAny _ _ (call (Value.builtin "list.__getattribute__") _ _) _ _ _); refine call_meets F.slot_list_getattribute (hT _) am_entry_list_getattribute (F.args_list_getattribute_2 _ _) (meets_getattribute_miss_list a xs k sl "keys" _ KP (by decide +kernel) (by decide +kernel)) ⟨hx,hA,fun h' Qv e La=>?_⟩) | wp_step))
 obtain ⟨t',u',he⟩:=La.there;show wpAny _ _ (getattributeRaised _ _ _ _ _ _ _) _ _ _
 unfold getattributeRaised;have hE:∀ Qv,(⟨h',g,d,Qv,os⟩:Shared).TypeIs (.ref e) "AttributeError":=fun _=>⟨_,he,rfl⟩
 repeat (any_goals (first | assumption | exact hE _ | wp_step))
 exact h _ _ La.keeps
theorem C1:entryFor table "dict.update.loop"=some Builtin.«dict.update.loop»:=entryFor_of_tree (by kernel_rfl)
theorem Be:plainId "dict.update.loop"=true:=by decide +kernel
def Ut (g0:Heap) (v:Value) (p:Str × V):Prop:=∃ a t u,v=.ref a/\IsTup g0 a #[.str p.1 t,u]/\A3 p.2 u
section
variable {prog:Program} {w:World} {A:Around} {R:Result->Shared->Prop} {g0:Heap} {D it l:Addr} {vs:List Value} {ps:List (Str × V)}
end
section
variable {prog:Program} {w:World} {A:Around} {E:Value->Shared->Prop} {s:Shared}
end
theorem LI:∀ (b a:List (Str × V)),((a ++ b).map (·.1)).Nodup->IE (sK a) (sK b)=sK (a ++ b)
 | [],a,_=>by rw [ZY]; rfl
 | q :: b,a,hn=>by
  have nq:q.1 ∉ a.map (·.1):=by
   rw [Zi,Zr] at hn;intro hm;exact (ZJ.mp hn).2.2 q.1 hm q.1 Zq rfl
  show IE (Bp (sK a) (Sum.inr q.1) q.2) (sK b)=_
  rw [Dw nq];have:=LI b (a ++ [(q.1,q.2)]) (by rw [ZR]; exact hn);rw [this,ZR];rfl
theorem QJ:∀ {ws:List A8},(ws.Pairwise fun u v=>¬ DP u v)->∀ {u v:A8},u ∈ ws->v ∈ ws->DP u v->u=v
 | [],_,u,v,hu,_,_=>nomatch hu
 | a :: ws,h,u,v,hu,hv,al=>by
  obtain ⟨h1,h2⟩:=ZZ.mp h;rcases Zg.mp hu with e1 | Xh
  ·rcases Zg.mp hv with e2 | Yk
   ·rw [e1,e2]
   ·exact absurd (by rw [<-e1]; exact al) (h1 v Yk)
  ·rcases Zg.mp hv with e2 | Yk
   ·refine absurd ?_ (h1 u Xh);rw [<-e2];rcases al with ⟨a1,a2⟩ | ⟨a1,a2⟩
    ·exact .inl ⟨a1.symm,a2.symm⟩
    ·exact .inr ⟨a2.symm,a1.symm⟩
   ·exact QJ h2 Xh Yk al
theorem PM {ws:List A8} (h:ws.Pairwise fun u v=>¬ DP u v) {x y:Str} {l l':Int} (e:BY ws x y l) (e':BY ws x y l'):l=l':=by
 obtain ⟨u,hu,a,rfl⟩:=e;obtain ⟨v,hv,b,rfl⟩:=e';have:u=v:=QJ h hu hv (by
  rcases a with ⟨a1,a2⟩ | ⟨a1,a2⟩ <;> rcases b with ⟨b1,b2⟩ | ⟨b1,b2⟩
  ·exact .inl ⟨a1.trans b1.symm,a2.trans b2.symm⟩
  ·exact .inr ⟨a1.trans b2.symm,a2.trans b1.symm⟩
  ·exact .inr ⟨a1.trans b2.symm,a2.trans b1.symm⟩
  ·exact .inl ⟨a1.trans b1.symm,a2.trans b2.symm⟩)
 rw [this]
theorem Ki {ws Qn:List A8} (p:Qn.Perm (ws.map EA)) (x y:Str) (l:Int):BY Qn x y l ↔ BY ws x y l:=by
 constructor
 ·rintro ⟨u,hu,h,e⟩;obtain ⟨v,hv,rfl⟩:=Zd.mp (p.mem_iff.mp hu);refine ⟨v,hv,?_,e⟩;rcases DG v with ⟨e1,e2⟩ | ⟨e1,e2⟩
  ·rw [e1,e2] at h; exact h
  ·rw [e1,e2] at h;rcases h with ⟨a,b⟩ | ⟨a,b⟩
   ·exact .inr ⟨b,a⟩
   ·exact .inl ⟨b,a⟩
 ·rintro ⟨v,hv,h,e⟩;refine ⟨EA v,p.mem_iff.mpr (Zd.mpr ⟨v,hv,rfl⟩),?_,e⟩;rcases DG v with ⟨e1,e2⟩ | ⟨e1,e2⟩
  ·rw [e1,e2]; exact h
  ·rw [e1,e2];rcases h with ⟨a,b⟩ | ⟨a,b⟩
   ·exact .inr ⟨b,a⟩
   ·exact .inl ⟨b,a⟩
theorem Qm {ws Qn:List A8} (h:∀ x y l,BY Qn x y l ↔ BY ws x y l) {x y:Str} {m:Int}:Bh Qn x y m ↔ Bh ws x y m:=by
 constructor
 ·intro g;induction g with
  | nil x=>exact .nil x
  | cons e _ ih=>exact .cons ((h _ _ _).mp e) ih
 ·intro g;induction g with
  | nil x=>exact .nil x
  | cons e _ ih=>exact .cons ((h _ _ _).mpr e) ih
def HW (ws:List A8) (x y:Str) (n:Int):Prop:=Bh ws x y n/\∀ m,Bh ws x y m->n<=m
theorem Nc.dst {ws:List A8} {x y:Str} {p:Int × Str} (h:Nc ws [x] y p):p.2=x/\HW ws x y p.1:=by
 have e:p.2=x:=by simpa using h.1.1
 refine ⟨e,by rw [<-e]; exact h.1.2,fun m g=>(h.2 x (by simp) m g).fst⟩
theorem HW.uniq {ws:List A8} {x y:Str} {n m:Int} (h:HW ws x y n) (g:HW ws x y m):n=m:=e6 (h.2 m g.1) (g.2 n h.1)
theorem HW.symm {ws:List A8} {x y:Str} {n:Int} (h:HW ws x y n):HW ws y x n:=⟨h.1.symm,fun m g=>h.2 m g.symm⟩
inductive WI (ws:List A8) (I:Str->Prop):Str->Str->Int->Prop
 | edge {x y:Str} {l:Int}:BY ws x y l->WI ws I x y l
 | cons {x y z:Str} {l m:Int}:BY ws x y l->I y->WI ws I y z m->WI ws I x z (l + m)
theorem WI.pos {ws:List A8} (hp:∀ u ∈ ws,1<=u.2.2) {I:Str->Prop} {x y:Str} {m:Int} (h:WI ws I x y m):0<=m:=by
 induction h with
 | edge e=>obtain ⟨u,hu,_,rfl⟩:=e; have:=hp u hu; lia
 | cons e _ _ ih=>obtain ⟨u,hu,_,rfl⟩:=e; have:=hp u hu; lia
theorem WI.ends {ws:List A8} {xs:List Str} (he:∀ u ∈ ws,u.1 ∈ xs/\u.2.1 ∈ xs) {x y:Str} {l:Int} (e:BY ws x y l):x ∈ xs/\y ∈ xs:=by
 obtain ⟨u,hu,h,_⟩:=e;obtain ⟨a,b⟩:=he u hu;rcases h with ⟨rfl,rfl⟩ | ⟨rfl,rfl⟩
 ·exact ⟨a,b⟩
 ·exact ⟨b,a⟩
theorem WI.split {ws:List A8} (hp:∀ u ∈ ws,1<=u.2.2) {I J:Str->Prop} {k:Str} (hJ:∀ z,J z->I z\/z=k) {x y:Str} {m:Int} (h:WI ws J x y m):WI ws I x y m\/∃ m1 m2,WI ws I x k m1/\WI ws I k y m2/\m1 + m2<=m:=by
 induction h with
 | edge e=>exact .inl (.edge e)
 | @cons x a y l m e ha g ih=>
  by_cases hk:a=k
  ·subst hk;rcases ih with h | ⟨m1,m2,h1,h2,h3⟩
   ·exact .inr ⟨l,m,.edge e,h,ZD _⟩
   ·have:=h1.pos hp;exact .inr ⟨l,m2,.edge e,h2,by lia⟩
  ·have hI:I a:=(hJ a ha).resolve_right hk;rcases ih with h | ⟨m1,m2,h1,h2,h3⟩
   ·exact .inl (.cons e hI h)
   ·exact .inr ⟨l + m1,m2,.cons e hI h1,h2,by lia⟩
theorem Bh.wi {ws:List A8} {xs:List Str} (he:∀ u ∈ ws,u.1 ∈ xs/\u.2.1 ∈ xs) {x y:Str} {m:Int} (h:Bh ws x y m):(x=y/\m=0)\/WI ws (· ∈ xs) x y m:=by
 induction h with
 | nil x=>exact .inl ⟨rfl,rfl⟩
 | @cons x a y l m e g ih=>
  rcases ih with ⟨rfl,rfl⟩ | h
  ·exact .inr (by rw [ak]; exact .edge e)
  ·exact .inr (.cons e (WI.ends he e).2 h)
structure FW (ws:List A8) (xs:List Str) (t:Nat) (M:Str->Str->Option Int):Prop where
 sound:∀ x y n,M x y=some n->Bh ws x y n
 comp:∀ x y m,WI ws (· ∈ xs.take t) x y m->∃ n,M x y=some n/\n<=m
 diag:∀ x ∈ xs,∃ n,M x x=some n/\n<=0
def Gw (M0 M:Str->Str->Option Int):Prop:=∀ x y n,M0 x y=some n->∃ n',M x y=some n'/\n'<=n
theorem Gw.refl (M:Str->Str->Option Int):Gw M M:=fun _ _ n h=>⟨n,h,ZD _⟩
theorem Gw.trans {M0 M1 M2:Str->Str->Option Int} (h:Gw M0 M1) (g:Gw M1 M2):Gw M0 M2:=fun x y n e=>by
 obtain ⟨n1,e1,l1⟩:=h x y n e;obtain ⟨n2,e2,l2⟩:=g x y n1 e1;exact ⟨n2,e2,by lia⟩
theorem FW.next {ws:List A8} (hp:∀ u ∈ ws,1<=u.2.2) {xs:List Str} (he:∀ u ∈ ws,u.1 ∈ xs/\u.2.1 ∈ xs) {t:Nat} {k:Str} (hk:xs[t]? = some k) {M0 M:Str->Str->Option Int} (h:FW ws xs t M0) (mo:Gw M0 M) (so:∀ x y n,M x y=some n->Bh ws x y n)
  (via:∀ x ∈ xs,∀ y ∈ xs,∀ n1 n2,M0 x k=some n1->M0 k y=some n2->∃ n,M x y=some n/\n<=n1 + n2):FW ws xs (t + 1) M:=by
 refine ⟨so,fun x y m g=>?_,fun x hx=>?_⟩
 ·have ex:x ∈ xs/\y ∈ xs:=by
   clear mo so via h;induction g with
   | edge e=>exact WI.ends he e
   | cons e _ _ ih=>exact ⟨(WI.ends he e).1,ih.2⟩
  rcases g.split hp (I:=(· ∈ xs.take t)) (k:=k) (fun z hz=>by
   rw [Zs,hk] at hz;rcases Zp.mp hz with hz | hz
   ·exact .inl hz
   ·exact .inr (by simpa using hz)) with g | ⟨m1,m2,g1,g2,le⟩
  ·obtain ⟨n,e,l⟩:=h.comp x y m g;obtain ⟨n',e',l'⟩:=mo x y n e;exact ⟨n',e',by lia⟩
  ·obtain ⟨n1,e1,l1⟩:=h.comp x k m1 g1;obtain ⟨n2,e2,l2⟩:=h.comp k y m2 g2;obtain ⟨n,e,l⟩:=via x ex.1 y ex.2 n1 n2 e1 e2;exact ⟨n,e,by lia⟩
 ·obtain ⟨n,e,l⟩:=h.diag x hx;obtain ⟨n',e',l'⟩:=mo x x n e;exact ⟨n',e',by lia⟩
def MD (H:Hp) (A:Addr) (M:Str->Str->Option Int) (c:Nat):Prop:=∃ kvs:List (List A4 × V),H A=some (.dT kvs)/\kvs.length<=c/\∀ x y,Bd kvs [Sum.inr x,Sum.inr y]=(M x y).map V.int
theorem MD.same {H H':Hp} {A:Addr} {M:Str->Str->Option Int} {c:Nat} (h:MD H A M c) (s:Au H H'):MD H' A M c:=let ⟨kvs,a,b,d⟩:=h; ⟨kvs,s _ _ a,b,d⟩
theorem MD.get {H:Hp} {A t:Addr} {M:Str->Str->Option Int} {c:Nat} (h:MD H A M c) {x y:Str} (ht:H t=some (.tup [.str x,.str y])):BF H A (.ref t) ((M x y).map V.int):=by
 obtain ⟨kvs,a,_,d⟩:=h;rw [<-d x y];exact BF.t (k:=[Sum.inr x,Sum.inr y]) a ht
def K2 (M:Str->Str->Option Int) (x y:Str) (n:Int):Str->Str->Option Int:=fun a b=>if a=x/\b=y then some n else M a b
def QA (K:YX):Sp:=fun vs H Q _=>∃ (q:Addr) (ps:List Str) (ws:List A8) (r x:Str),vs=[.ref q,.str x]/\Jl H q ps ws r/\(∀ u ∈ ws,1<=u.2.2)/\(∀ x y l l',BY ws x y l->BY ws x y l'->l=l')/\x ∈ ps /\
 ∀ (H':Hp) (B:Addr) (nv:List (Str × V)),Au H H'->H B=none->H' B=some (.dK (sK nv))->nv.map (·.1)=ps->(∀ y v,(y,v) ∈ nv->∃ n,v=.int n/\HW ws x y n)->Q (.ref B) H'
theorem Jr {M:Model} {A:Around} {E:Value->Shared->Prop} {s:Shared} {scope:Scope} {globals:Addr} {closure:List (Str × Addr)} {qual:Str} {func:Option Addr} {code:Value} {outer:Env} {builtins:Addr} {Q:Env->Shared->Prop}
  (hQ:Q (newEnv scope s.heap.objs.size globals (cellsFrom (s.heap.objs.size + 1) scope.names closure) qual func code (some outer) builtins) { s with heap:=pushCells (s.heap.push { cls:=.type "dict",data:=.dict #[] }) scope.names }) :
  wpAny M A (newFunctionEnv scope globals closure [] qual func code (some outer) builtins) Q E s:=by
 simp only [newFunctionEnv,cZ,if_true];refine wpAny_bind (wpAny_alloc ?_);refine wpAny_bind (wpAny_layCells _ (fun name kind cells=>by cases hkc:kind == NameKind.cell <;> simp [hkc]) _ _ _ _ ?_);rw [show ({ s with heap:=s.heap.push { cls:=.type "dict",data:=.dict #[] } }:Shared).heap.objs.size=s.heap.objs.size + 1 from ZH ..];refine wpAny_bind ?_;rw [List.forIn_nil];exact wpAny_pure (wpAny_pure hQ)
theorem GK:∀ (names:List (Str × NameKind)) (h:Heap) (acc:List (Str × Addr)) (lo:Nat),lo<=h.objs.size->(∀ x c,(x,c) ∈ acc->c < lo\/(lo<=c/\c < h.objs.size/\h.IsCell c none)) ->
  ∀ x c,(x,c) ∈ cellsFrom h.objs.size names acc->(x,c) ∈ acc\/(lo<=c/\(pushCells h names).IsCell c none)
 | [],h,acc,lo,_,_,x,c,hm=>.inl hm
 | (name,kind) :: r,h,acc,lo,hlo,ha,x,c,hm=>by
  unfold cellsFrom at hm;unfold pushCells;split at hm
  ·rename_i hk
   rw [if_pos hk];rw [show h.objs.size + 1=(h.push { cls:=.type "cell",data:=.cell none }).objs.size from (ZH ..).symm] at hm;rcases GK r (h.push { cls:=.type "cell",data:=.cell none }) ((name,h.objs.size) :: acc) lo (by rw [ZH]; lia) (fun y d hy=>by
    rcases Zg.mp hy with e | hy
    ·cases e
     exact .inr ⟨hlo,by rw [ZH]; exact Z6 _,_,Zf _ rfl,rfl⟩
    ·rcases ha y d hy with z | ⟨z1,z2,z3⟩
     ·exact .inl z
     ·exact .inr ⟨z1,by rw [ZH]; exact Z0 z2,z3.keeps fun b o e=>YW _ e⟩) x c hm with q | q
   ·rcases Zg.mp q with e | q
    ·cases e
     exact .inr ⟨hlo,_,pushCells_keeps _ _ _ _ (Zf _ rfl),rfl⟩
    ·exact .inl q
   ·exact .inr q
  ·rename_i hk
   rw [if_neg hk];exact GK r h acc lo hlo ha x c hm
theorem EM:∀ (names:List (Str × NameKind)) (n:Nat) (acc:List (Str × Addr)),(acc.Pairwise fun x y=>x.2 ≠ y.2)->(∀ x c,(x,c) ∈ acc->c < n)->(cellsFrom n names acc).Pairwise fun x y=>x.2 ≠ y.2
 | [],n,acc,h,_=>h
 | (name,kind) :: r,n,acc,h,ha=>by
  unfold cellsFrom;split
  ·refine EM r (n + 1) ((name,n) :: acc) (ZZ.mpr ⟨fun y hy e=>?_,h⟩) fun x c hm=>?_
   ·have:=ha y.1 y.2 hy;have e':n=y.2:=e;exact absurd this (by rw [<-e']; exact ZK _)
   ·rcases Zg.mp hm with e | hm
    ·cases e; exact Z6 _
    ·exact Z0 (ha x c hm)
  ·exact EM r n acc h ha
theorem Dc {α:Type}:∀ {l:List (Str × α)} {x:Str} {c:α},(x,c) ∈ l->∃ d,l.lookup x=some d
 | (k,v) :: r,x,c,h=>by
  rw [bB];cases hb:x == k with
  | true=>exact ⟨v,rfl⟩
  | false=>
   rcases Zg.mp h with e | h
   ·cases e; simp at hb
   ·exact Dc h
theorem GO:∀ (names:List (Str × NameKind)) (n:Nat) (acc:List (Str × Addr)) (x:Str),((x,NameKind.cell) ∈ names\/∃ c,(x,c) ∈ acc)->∃ c,(x,c) ∈ cellsFrom n names acc
 | [],n,acc,x,h=>by
  rcases h with h | h
  ·cases h
  ·exact h
 | (name,kind) :: r,n,acc,x,h=>by
  unfold cellsFrom;split
  ·rename_i hk
   refine GO r (n + 1) ((name,n) :: acc) x ?_;rcases h with h | ⟨c,h⟩
   ·rcases Zg.mp h with e | h
    ·cases e; exact .inr ⟨n,Zq⟩
    ·exact .inl h
   ·exact .inr ⟨c,Zv _ h⟩
  ·rename_i hk
   refine GO r n acc x ?_;rcases h with h | h
   ·rcases Zg.mp h with e | h
    ·cases e; exact absurd rfl hk
    ·exact .inl h
   ·exact .inr h
abbrev BQ (X:Cx) (scope:Scope) (cl:List (Str × Addr)) (N:List Str) (s2:Shared) (H:Hp) (C:Addr) (fp:List Addr) (fn:Str->Bool):Cx:={ Am X scope cl N s2 H C fp with fn:=fn }
theorem GJ (n0:Nat):∀ (names:List (Str × NameKind)) (n:Nat) (acc:List (Str × Addr)) (x:Str) (c:Addr),n0<=n->((x,NameKind.cell) ∈ names\/∃ d,acc.lookup x=some d/\n0<=d)->(cellsFrom n names acc).lookup x=some c->n0<=c
 | [],n,acc,x,c,_,h,e=>by
  rcases h with h | ⟨d,h1,h2⟩
  ·cases h
  ·have e':acc.lookup x=some c:=e;rw [h1] at e';cases e'
   exact h2
 | (name,kind) :: r,n,acc,x,c,hn,h,e=>by
  unfold cellsFrom at e;split at e
  ·rename_i hk
   refine GJ n0 r (n + 1) ((name,n) :: acc) x c (aV hn) ?_ e;by_cases ex:x=name
   ·refine .inr ⟨n,?_,hn⟩;rw [ex,bB,beq_self_eq_true]
   ·have hb:(x == name)=false:=beq_eq_false_iff_ne.mpr ex;rcases h with h | ⟨d,h1,h2⟩
    ·rcases Zg.mp h with z | z
     ·injection z with z1 z2;exact absurd z1 ex
     ·exact .inl z
    ·exact .inr ⟨d,by rw [bB,hb]; exact h1,h2⟩
  ·rename_i hk
   refine GJ n0 r n acc x c hn ?_ e;rcases h with h | h
   ·rcases Zg.mp h with z | z
    ·cases z; exact absurd rfl hk
    ·exact .inl z
   ·exact .inr h
structure Gx (X:Cx) (scope:Scope) (cl:List (Str × Addr)):Prop where
 clos:closureFor scope X.env=pure cl
 kind:scope.kind=.function
 names:∀ y ∈ scope.names,y.2=.local->scope.names.lookup y.1=some .local
 sub:∀ x c,(x,c) ∈ cl->X.env.cells.lookup x=some c
 apart:(cl.Pairwise fun x y=>x.2 ≠ y.2)
 has:∀ x,((relabel scope X.env).names.lookup x=some .cell\/(relabel scope X.env).names.lookup x=some .free)->(x,NameKind.cell) ∈ scope.names\/∃ c,(x,c) ∈ cl
theorem F5:∀ (names:List (Str × NameKind)) (n:Nat) (acc:List (Str × Addr)) (x:Str) (c:Addr),(x,c) ∈ cellsFrom n names acc->(x,NameKind.cell) ∉ names->(x,c) ∈ acc
 | [],n,acc,x,c,h,_=>h
 | (name,kind) :: r,n,acc,x,c,h,hn=>by
  unfold cellsFrom at h;split at h
  ·rename_i hk
   have ML:kind=.cell:=by cases kind <;> first | rfl | cases hk
   rcases Zg.mp (F5 r (n + 1) ((name,n) :: acc) x c h fun z=>hn (Zv _ z)) with e | e
   ·cases e
    exact absurd (by rw [ML]; exact Zq) hn
   ·exact e
  ·exact F5 r n acc x c h fun z=>hn (Zv _ z)
section
variable {X:Cx} {pins:List (Addr × Obj)} {σ As:St} {H H':Hp} {s2 s':Shared} {scope:Scope} {cl:List (Str × Addr)} {N:List Str} {fp:List Addr} {C D:Addr} {h₁ h':Heap} {t':Nat}
theorem Mb {fn:Str->Bool} {cl0:List (Str × Addr)} (I:An X pins σ H s2) (hf:∀ b ∈ fp,Ek X pins H b) (hfo:∀ b ∈ fp,∃ o,s2.heap.get? b=some o) (co:Gx X scope cl0) (sub:∀ x c,cl.lookup x=some c->X.env.cells.lookup x=some c\/(s2.heap.objs.size<=c/\c ≠ D/\c ≠ C/\h₁.IsCell c none)) (inj:∀ x y c,cl.lookup x=some c->cl.lookup y=some c->x=y) (own:∀ x c,fn x=true->cl.lookup x=some c->s2.heap.objs.size<=c)
  (has:∀ x,((relabel scope X.env).names.lookup x=some .cell\/(relabel scope X.env).names.lookup x=some .free)->∃ c,cl.lookup x=some c) (keepS:∀ (i:Nat) (x:Str) (v:V),N[i]? = some x->As[i]? = some (some v)->∀ c,cl.lookup x=some c->X.env.cells.lookup x=some c) (hσ:Cp X cl scope N σ As)
  (k:∀ b o,s2.heap.get? b=some o->h₁.get? b=some o) (hD:s2.heap.objs.size<=D) (hC:s2.heap.objs.size<=C) (hDC:C ≠ D)
  (new:h₁.get? D=some { cls:=.type "list",data:=.seq ([]:List Value).toArray 0 }\/∃ n,h₁.get? D=some { cls:=.type "list",data:=.seq ([]:List Value).toArray n }) {m:Str->Option Value} (hn:h₁.Ns C m) :
  An (BQ X scope cl N s2 H C fp fn) [] As (upd H D (.lst [])) { s2 with heap:=h₁,toks:=t' }:=by
 have fD:H D=none:=I.hok.fresh hD;have fC:H C=none:=I.hok.fresh hC;have newO:A6 X.prog X.w (upd H D (.lst [])) h₁ D (.lst []):=by
  exists Z7 _,[]
  rcases new with e | ⟨n,e⟩
  ·exact ⟨0,.nil,e⟩
  ·exact ⟨n,.nil,e⟩
 have lts:∀ b ∈ fp,b < s2.heap.objs.size:=fun b hb=>let ⟨_,e⟩:=hfo b hb; Zc e
 have ok:Cx.Ok (BQ X scope cl N s2 H C fp fn):=by
  refine ⟨I.ok.mod,?_,I.ok.glob,I.ok.blt,hC,?_,?_,?_,I.ok.hd,I.ok.frames,.inl rfl,?_,I.bs,Z2 I.ok.bsz I.sz,?_,?_,I.stack,I.stkFree⟩
  ·exact co.kind
  ·exact inj
  ·exact has
  ·exact own
  ·intro b hb;refine ⟨fun e=>?_,fun x c e=>by
    rcases sub x c e with z | ⟨z,_⟩
    ·exact (hf b hb).2.2.2.2.1 x c z
    ·exact ZO (Zk (lts b hb) z)⟩
   have z:=lts b hb;exact absurd (Zk z hC) (by rw [show b=C from e]; exact ZK _)
  ·intro b o e hb;have Fz:b ∈ fp:=hb;rcases (hf b Fz).2.2.2.1 with z | z
   ·exact I.ok.noex b o e z
   ·exact absurd (Zk (Zc e) (Z2 I.ok.bsz z)) (ZK _)
  ·intro b hb hz;have Fz:b ∈ fp:=hb;obtain ⟨_,f1,f2,_⟩:=hf b Fz;rcases Zg.mp (I.stkSub b hz) with e | e
   ·exact f1 e
   ·exact f2 e
 refine ⟨ok,rfl,I.bare,Un.laid k hD fD,?_,?_,?_,?_,?_,I.hok.laid k hD newO,hσ.1⟩
 ·refine ⟨m,hn,fun i x v e1 e2 _=>?_⟩;obtain ⟨⟨j,j1,j2⟩,kk,kr⟩:=hσ.2 i x v e1 e2;obtain ⟨mo,_,hl⟩:=I.loc;obtain ⟨u,r,l⟩:=hl j x v j1 j2 (by
   rcases kk with z | z
   ·exact .inr (.inl z)
   ·exact .inr (.inr z))
  refine ⟨u,r,.inr ⟨kr,?_⟩⟩;obtain ⟨c,hc⟩:=has x kr;rcases l with ⟨z,_⟩ | ⟨_,c',Ht,hcell⟩
  ·rcases kk with q | q
   ·rw [z] at q; cases q
   ·rw [z] at q; cases q
  ·have e3:=keepS i x v e1 e2 c hc;rw [Ht] at e3;have e4:c'=c:=Zo.inj e3;subst e4;obtain ⟨o,ho,hd⟩:=hcell;exact ⟨c',hc,o,k _ o ho,hd⟩
 ·intro x c e;rcases sub x c e with z | ⟨_,_,_,z⟩
  ·obtain ⟨v,o,ho,hd⟩:=I.cell x c z;exact ⟨v,o,k _ o ho,hd⟩
  ·exact ⟨aX,z⟩
 ·show upd H D (.lst []) C=none
  rw [Af hDC];exact fC
 ·intro x c e;rcases sub x c e with z | ⟨z1,z2,_,_⟩
  ·obtain ⟨v,q⟩:=I.cell x c z;rw [Af (Zh (Zk q.lt hD))];exact I.freeC x c z
  ·rw [Af z2];exact I.hok.fresh z1
 ·intro p hp;cases hp
theorem PX {fn:Str->Bool} {pl:List (Addr × Obj)} (I:An X pins σ H s2) (hf:∀ b ∈ fp,Ek X pins H b) (hC:s2.heap.objs.size<=C) (I2:An (BQ X scope cl N s2 H C fp fn) pl As H' s')
  (hs:Heap.SameBut C s'.heap h'):An X pins σ H' { s' with heap:=h' }:=by
 have nC:∀ b o,s2.heap.get? b=some o->b ≠ C:=fun b o e=>Zh (Zk (Zc e) hC)
 have u:=I2.base;refine I.call' (s':={ s' with heap:=h' }) (ch:=fp) I2.os ⟨?_,?_,u.free,?_,u.tups,u.frzs,u.tbls⟩ ?_ I2.bare fun b hb=>?_
 ·exact fun b o e n h1 h2=>(hs.2 b (nC b o e)).trans (u.keep b o e n h1 h2)
 ·intro b o e n h1 h2;obtain ⟨sl,q⟩:=u.slot b o e n h1 h2;exact ⟨sl,(hs.2 b (nC b o e)).trans q⟩
 ·intro b o e h2;obtain ⟨o',q⟩:=u.there b o e h2;exact ⟨o',(hs.2 b (nC b o e)).trans q⟩
 ·intro b ob e;have hfree:H' C=none:=I2.free;refine (I2.hok b ob e).stay (fun c w' hc q=>(hs.2 c ?_).trans q) (fun _ q=>q) fun _ _ q=>q
  rintro rfl;rcases hc with rfl | hc
  ·rw [hfree] at e; cases e
  ·rw [hfree] at hc; cases hc
 ·obtain ⟨_,f1,_,f3,f4,f5⟩:=hf b hb;exact ⟨f3,f1,f4,f5⟩
end
theorem CM {X:Cx} {scope:Scope} {cl:List (Str × Addr)} (clos:closureFor scope X.env=pure cl:=by rfl) (hcell:∀ y ∈ scope.names,y.2 ≠ .cell:=by decide +kernel) (hkind:scope.kind=.function:=by rfl)
  (hnames:∀ y ∈ scope.names,y.2=.local->scope.names.lookup y.1=some .local:=by decide +kernel) (hcl:∀ y ∈ cl,X.env.cells.lookup y.1=some y.2:=by intro y hy; simp only [Zg,ZE,or_false] at hy; (repeat' (first | subst hy | (rcases hy with hy | hy))) <;> rfl)
  (hfr:∀ y ∈ scope.names,y.2=.free->∃ c,cl.lookup y.1=some c:=by intro y hy e; simp only [Zg,ZE,or_false] at hy; (repeat' (first | subst hy | (rcases hy with hy | hy))) <;> first | exact ⟨_,rfl⟩ | cases e):BN X scope cl:=BN.caught clos hcell hkind hnames hcl hfr
theorem CI {X:Cx} {cl:List (Str × Addr)} {scope:Scope} {N:List Str} (js:List (Option Nat)) (hl:js.length=N.length:=by rfl)
  (h:∀ (i j:Nat) (x:Str),N[i]? = some x->js[i]? = some (some j)->X.N[j]? = some x/\(X.env.kindOf x=some .cell\/X.env.kindOf x=some .free)/\((relabel scope X.env).names.lookup x=some .cell\/(relabel scope X.env).names.lookup x=some .free):=by intro i j x h1 h2; rcases i with _ | _ | _ | _ | _ | _ | _ | i <;> cases h1 <;> cases h2 <;> exact ⟨rfl,.inl rfl,.inl rfl⟩) (σ:St) (_:σ.length=X.N.length) :
  Cp X cl scope N σ (js.map fun j=>j.bind fun j=>(σ[j]?).join):=Cp.of js hl h
end L2
namespace L2
open PySem PySem.W PyProof.Rows
structure PZ (lt:Keyed->Keyed->Bool):Prop where
 irr:∀ a,lt a a=false
 tra:∀ a b c,lt a b=true->lt b c=true->lt a c=true
 neg:∀ a b c,lt a c=true->lt a b=true\/lt b c=true
def Nl (lt:Keyed->Keyed->Bool) (a b:Keyed):Prop:=lt b a=false
section
variable {lt:Keyed->Keyed->Bool}
theorem PZ.rfl' (h:PZ lt) (a:Keyed):Nl lt a a:=h.irr a
theorem PZ.of_lt (h:PZ lt) {a b:Keyed} (e:lt a b=true):Nl lt a b:=by
 unfold Nl;cases z:lt b a
 ·rfl
 ·have:=h.tra _ _ _ e z;rw [h.irr] at this;cases this
theorem PZ.trans (h:PZ lt) {a b c:Keyed} (x:Nl lt a b) (y:Nl lt b c):Nl lt a c:=by
 unfold Nl at *;cases z:lt c a
 ·rfl
 ·rcases h.neg _ b _ z with q | q
  ·rw [y] at q; cases q
  ·rw [x] at q; cases q
end
def Cm (xs:Array Keyed) (i:Nat):Keyed:=xs.getD i (Value.none,Value.none)
theorem Og {xs:Array Keyed} {i:Nat} (h:i < xs.size):xs[i]? = some (Cm xs i):=by
 unfold Cm;simp [eG,h]
theorem IM {xs ys:Array Keyed} {i j:Nat} (h:xs[i]? = ys[j]?):Cm xs i=Cm ys j:=by
 unfold Cm;rw [cA,cA,h]
theorem Of {xs:Array Keyed} {i:Nat} (h:i < xs.size):Cm xs i ∈ xs:=cP (Og h)
def Vy (prog:Program) (w:World) (A:Around) (s:Shared) (κ:SortKind) (lt:Keyed->Keyed->Bool) (a0:Array Keyed):Prop:=
 ∀ x y,x ∈ a0->y ∈ a0->∀ (Q:Bool->Shared->Prop) (E:Value->Shared->Prop),Q (lt x y) s->wpAny (model prog w) A (keyLt' κ x.1 y.1) Q E s
section
variable {prog:Program} {w:World} {A:Around} {E:Value->Shared->Prop} {s:Shared} {κ:SortKind} {lt:Keyed->Keyed->Bool} {a0:Array Keyed}
theorem J9 {xs:Array Keyed} {i:Nat} {Q:Keyed->SortSt->Prop} {st:SortSt} (hi:i < xs.size) (h:Q (Cm xs i) st):wpS (model prog w) A E s (elem' xs i) Q st:=by
 rw [elem'_eq,Og hi];exact wpS_pure h
theorem Sl {x y:Keyed} {Q:Option Bool->SortSt->Prop} {st:SortSt} (an:Vy prog w A s κ lt a0) (hk:kindOf st=κ) (hx:x ∈ a0) (hy:y ∈ a0) (h:Q (some (lt x y)) st) :
  wpS (model prog w) A E s (lt' x y) Q st:=by
 rw [lt'_eq];refine wpS_bind (wpS_get ?_);rw [hk];refine wpS_bind (wpS_lift (wpAny_attempt (an x y hx hy _ _ ⟨rfl,?_⟩)));exact wpS_pure h
theorem CU {i j:Nat} {Q:Option Bool->SortSt->Prop} {st:SortSt} (an:Vy prog w A s κ lt a0) (hk:kindOf st=κ) (hp:(arrOf st).Perm a0) (hi:i < a0.size) (hj:j < a0.size)
  (h:Q (some (lt (Cm (arrOf st) i) (Cm (arrOf st) j))) st):wpS (model prog w) A E s (ltAt' i j) Q st:=by
 rw [ltAt'_eq];refine wpS_bind (wpS_get ?_);have e:=hp.size_eq;refine wpS_bind (J9 (by lia) (wpS_bind (J9 (by lia) ?_)));exact Sl an hk ((Array.Perm.mem_iff hp).mp (Of (by lia))) ((Array.Perm.mem_iff hp).mp (Of (by lia))) h
theorem Lf {ρ:Type} {body:Nat->Option ρ × Nat × Nat->StateT SortSt Sem (ForInStep (Option ρ × Nat × Nat))} {f:Nat->Bool} {n lo hi:Nat} {st:SortSt}
  (hs:∀ x l (R:ForInStep (Option ρ × Nat × Nat)->SortSt->Prop),R (.done (none,l,l)) st->wpS (model prog w) A E s (body x (none,l,l)) R st)
  (hg:∀ x l r (R:ForInStep (Option ρ × Nat × Nat)->SortSt->Prop),l < r->r<=n ->
   (f (l + (r - l) / 2)=true->R (.yield (none,l + (r - l) / 2 + 1,r)) st)->(f (l + (r - l) / 2)=false->R (.yield (none,l,l + (r - l) / 2)) st)->wpS (model prog w) A E s (body x (none,l,r)) R st)
  (hl:lo<=hi) (hn:hi<=n) (mono:∀ i j,i<=j->j < n->f j=true->f i=true)
  (h1:∀ i,i < lo->f i=true) (h2:∀ i,hi<=i->i < n->f i=false) :
  wpS (model prog w) A E s (forIn [0:n] (none,lo,hi) body) (fun c AQ=>AQ=st/\∃ r,c=(none,r,r)/\r<=n/\(∀ i,i < r->f i=true)/\(∀ i,r<=i->i < n->f i=false)) st:=by
 refine wpS_forRange (I:=fun x c AQ=>AQ=st/\∃ l r,c=(none,l,r)/\l<=r/\r<=n/\r - l<=n - x/\(∀ i,i < l->f i=true)/\(∀ i,r<=i->i < n->f i=false)) ?_ ?_ ⟨rfl,lo,hi,rfl,hl,hn,by lia,h1,h2⟩
 ·rintro x c AQ _ hx ⟨rfl,l,r,rfl,q1,q2,q3,q4,q5⟩;by_cases hlr:l < r
  ·have hm:l + (r - l) / 2 < r:=by lia
   refine hg _ _ _ _ hlr q2 (fun e=>?_) (fun e=>?_)
   ·exact ⟨rfl,_,r,rfl,by lia,by lia,by lia,fun i i1=>mono _ _ (by lia) (by lia) e,q5⟩
   ·refine ⟨rfl,l,_,rfl,by lia,by lia,by lia,q4,fun i i1 i2=>?_⟩;cases z:f i
    ·rfl
    ·rw [mono _ _ i1 i2 z] at e; cases e
  ·have:l=r:=by lia
   subst this;exact hs _ _ _ ⟨rfl,l,rfl,q2,q4,q5⟩
 ·rintro c AQ ⟨rfl,l,r,rfl,q1,q2,q3,q4,q5⟩;have:l=r:=by lia
  subst this;exact ⟨rfl,l,rfl,q2,q4,q5⟩
end
section lists
variable {lt:Keyed->Keyed->Bool}
theorem IL {xs:Array Keyed} {i:Nat} (h:i < xs.toList.length):xs.toList[i]=Cm xs i:=by
 have h':i < xs.size:=by simpa using h
 unfold Cm;simp [eG,h']
theorem Uq {xs:Array Keyed} (h:∀ i j,i < j->j < xs.size->Nl lt (Cm xs i) (Cm xs j)):xs.toList.Pairwise (Nl lt):=by
 rw [ZU];intro i j hi hj hij;rw [IL,IL];exact h i j hij (by simpa using hj)
end lists
section
variable {prog:Program} {w:World} {A:Around} {E:Value->Shared->Prop} {s:Shared} {κ:SortKind} {lt:Keyed->Keyed->Bool} {a0:Array Keyed}
end
section
variable {prog:Program} {w:World} {A:Around} {E:Value->Shared->Prop} {s:Shared} {κ:SortKind} {lt:Keyed->Keyed->Bool} {a0:Array Keyed}
end
section segs
variable {lt:Keyed->Keyed->Bool}
def SS (lt:Keyed->Keyed->Bool) (xs:Array Keyed) (lo hi:Nat):Prop:=∀ i j,lo<=i->i<=j->j < hi->Nl lt (Cm xs i) (Cm xs j)
def NS (lt:Keyed->Keyed->Bool) (xs:Array Keyed) (lo hi:Nat):Prop:=∀ i j,lo<=i->i<=j->j < hi->Nl lt (Cm xs j) (Cm xs i)
theorem Df {xs:Array Keyed} {i j:Nat} (hj:j<=xs.size) (k:Nat):Cm (mirror xs i j ((j - i) / 2)) k=if i<=k/\k < j then Cm xs (i + j - 1 - k) else Cm xs k:=by
 have e:=getElem?_mirror_all (i:=i) hj k;split at e
 ·rw [if_pos ‹_›]; exact IM e
 ·rw [if_neg ‹_›]; exact IM e
theorem F9 {xs:Array Keyed} {src d:Nat} (hs:src < xs.size) (hd:d<=src) (k:Nat) :
  Cm (bubble xs src d) k=if k=src - d then Cm xs src else if src - d < k/\k<=src then Cm xs (k - 1) else Cm xs k:=by
 have e:=getElem?_bubble hs d hd k;by_cases h1:k=src - d
 ·rw [if_pos h1] at e ⊢; exact IM e
 ·by_cases h2:src - d < k/\k<=src
  ·rw [if_neg h1,if_pos h2] at e ⊢; exact IM e
  ·rw [if_neg h1,if_neg h2] at e ⊢; exact IM e
theorem NS.mirror {xs:Array Keyed} {lo hi:Nat} (h:NS lt xs lo hi) (hs:hi<=xs.size):SS lt (mirror xs lo hi ((hi - lo) / 2)) lo hi:=by
 intro i j h1 h2 h3;rw [Df hs,Df hs,if_pos ⟨h1,by lia⟩,if_pos ⟨by lia,h3⟩];exact h _ _ (by lia) (by lia) (by lia)
theorem NS.even {xs:Array Keyed} {lo p hi:Nat} (h:NS lt xs lo hi) (hs:hi<=xs.size) (hp:lo<=p) (e:∀ i j,p<=i->i < hi->p<=j->j < hi->Nl lt (Cm xs i) (Cm xs j)) {top:Nat} (ht:hi<=top) (h':NS lt xs lo top) :
  NS lt (PyProof.Rows.mirror xs p hi ((hi - p) / 2)) lo top:=by
 intro i j h1 h2 h3;rw [Df hs,Df hs];by_cases c1:p<=j/\j < hi
 ·rw [if_pos c1];by_cases c2:p<=i/\i < hi
  ·rw [if_pos c2];exact e _ _ (by lia) (by lia) (by lia) (by lia)
  ·rw [if_neg c2];exact h' _ _ h1 (by lia) (by lia)
 ·rw [if_neg c1];by_cases c2:p<=i/\i < hi
  ·rw [if_pos c2];exact h' _ _ (by lia) (by lia) h3
  ·rw [if_neg c2];exact h' _ _ h1 h2 h3
def Kp (xs ys:Array Keyed) (lo:Nat):Prop:=ys.Perm xs/\∀ k,k < lo->Cm ys k=Cm xs k
theorem Kp.refl (xs:Array Keyed) (lo:Nat):Kp xs xs lo:=⟨Array.Perm.refl _,fun _ _=>rfl⟩
theorem Kp.size {xs ys:Array Keyed} {lo:Nat} (h:Kp xs ys lo):ys.size=xs.size:=h.1.size_eq
theorem Kp.mirror {xs ys:Array Keyed} {lo i j:Nat} (h:Kp xs ys lo) (hj:j<=xs.size) (hi:lo<=i):Kp xs (PyProof.Rows.mirror ys i j ((j - i) / 2)) lo:=by
 refine ⟨(mirror_perm _ _ _ _).trans h.1,fun k hk=>?_⟩;rw [Df (by rw [h.size]; exact hj),if_neg (by lia)];exact h.2 k hk
theorem Kp.bubble {xs ys:Array Keyed} {lo src d:Nat} (h:Kp xs ys lo) (hs:src < xs.size) (hd:lo + d<=src):Kp xs (PyProof.Rows.bubble ys src d) lo:=by
 refine ⟨(bubble_perm _ _ _).trans h.1,fun k hk=>?_⟩;rw [F9 (by rw [h.size]; exact hs) (by lia),if_neg (by lia),if_neg (by lia)];exact h.2 k hk
end segs
section
variable {prog:Program} {w:World} {A:Around} {E:Value->Shared->Prop} {s:Shared} {κ:SortKind} {lt:Keyed->Keyed->Bool} {a0:Array Keyed}
theorem FL {i j:Nat} {Q:Unit->SortSt->Prop} {st:SortSt} (h:Q () (setArr st (mirror (arrOf st) i j ((j - i) / 2)))):wpS (model prog w) A E s (reverseSlice' i j) Q st:=by
 rw [reverseSlice'_eq];exact wpS_modify h
theorem Ni {body:Nat->Option (Option Nat) × Nat->StateT SortSt Sem (ForInStep (Option (Option Nat) × Nat))} {f:Nat->Bool} {a nrem:Nat} {st:SortSt} (ha:a<=nrem)
  (hb:∀ x n (R:ForInStep (Option (Option Nat) × Nat)->SortSt->Prop),a<=n->n < nrem->(f n=true->R (.done (none,n)) st)->(f n=false->R (.yield (none,n + 1)) st)->wpS (model prog w) A E s (body x (none,n)) R st) :
  wpS (model prog w) A E s (forIn [a:nrem] (none,a) body) (fun c AQ=>AQ=st/\∃ n,c=(none,n)/\a<=n/\n<=nrem/\(∀ i,a<=i->i < n->f i=false)/\(n=nrem\/f n=true)) st:=by
 refine wpS_forRange (I:=fun x c AQ=>AQ=st/\c=(none,x)/\(∀ i,a<=i->i < x->f i=false)) ?_ ?_ ⟨rfl,rfl,fun i h1 h2=>by lia⟩
 ·rintro x c AQ h1 h2 ⟨rfl,rfl,q⟩;refine hb _ _ _ h1 h2 (fun e=>⟨rfl,x,rfl,h1,by lia,q,.inr e⟩) (fun e=>⟨rfl,rfl,fun i i1 i2=>?_⟩);by_cases z:i=x
  ·rw [z]; exact e
  ·exact q i i1 (by lia)
 ·rintro c AQ ⟨rfl,rfl,q⟩;rw [Nat.max_eq_right ha] at q ⊢;exact ⟨rfl,nrem,rfl,ha,Zb _,q,.inl rfl⟩
theorem TM {xs:Array Keyed} (sw:PZ lt) {lo a n:Nat} (h:SS lt xs lo (lo + a)) (ha:1<=a) (q:∀ i,a<=i->i < n->lt (Cm xs (lo + i)) (Cm xs (lo + i - 1))=false):SS lt xs lo (lo + n):=by
 have step:∀ d,a + d<=n->SS lt xs lo (lo + (a + d)):=by
  intro d;induction d with
  | zero=>intro _; exact h
  | succ d ih=>
   intro hd i j h1 h2 h3;by_cases hj:j < lo + (a + d)
   ·exact ih (by lia) i j h1 h2 hj
   ·have ej:j=lo + (a + d):=by lia
    by_cases hi:i=j
    ·rw [hi]; exact sw.rfl' _
    ·have q1:=q (a + d) (by lia) (by lia);rw [<-ej] at q1;exact sw.trans (ih (by lia) i (j - 1) h1 (by lia) (by lia)) q1
 rcases bJ n a with Bv | hge
 ·exact fun i j h1 h2 h3=>h i j h1 h2 (by lia)
 ·have:=step (n - a) (by lia);rw [show a + (n - a)=n by lia] at this;exact this
theorem Jq {lo nrem:Nat} {Q:Option Nat->SortSt->Prop} {st:SortSt} (sw:PZ lt) (an:Vy prog w A s κ lt a0) (hk:kindOf st=κ) (hp:(arrOf st).Perm a0) (hn:lo + nrem<=a0.size) (h1:1<=nrem)
  (h:∀ m ys,Kp (arrOf st) ys lo->1<=m->m<=nrem->SS lt ys lo (lo + m)->Q (some m) (setArr st ys)):wpS (model prog w) A E s (countRun' lo nrem) Q st:=by
 have hz:=hp.size_eq;refine wpS_bind (wpS_mono (Ni (f:=fun n=>lt (Cm (arrOf st) (lo + n)) (Cm (arrOf st) (lo + n - 1))) h1 ?_) ?_)
 ·intro x n R n1 n2 y1 y2;dsimp only;refine wpS_bind (CU an hk hp (by lia) (by lia) ?_);dsimp only;cases e:lt (Cm (arrOf st) (lo + n)) (Cm (arrOf st) (lo + n - 1))
  ·exact wpS_pure (y2 e)
  ·exact wpS_pure (y1 e)
 rintro c AQ ⟨rfl,n,rfl,n1,n2,q,hor⟩;dsimp only;have s0:SS lt (arrOf AQ) lo (lo + 1):=fun i j a1 a2 a3=>by
  have:i=j:=by lia
  rw [this];exact sw.rfl' _
 have sn:SS lt (arrOf AQ) lo (lo + n):=TM sw s0 (Zb _) q;by_cases hnn:n=nrem
 ·rw [if_pos (by simpa using hnn)];exact wpS_pure (h n _ (Kp.refl _ _) n1 n2 sn)
 rw [if_neg (by simpa using hnn)];have Bv:lt (Cm (arrOf AQ) (lo + n)) (Cm (arrOf AQ) (lo + n - 1))=true:=hor.resolve_left hnn;by_cases hgt:n > 1
 case' pos=>
  rw [if_pos hgt];refine wpS_bind (CU an hk hp (by lia) (by lia) ?_);dsimp only;cases hrose:lt (Cm (arrOf AQ) lo) (Cm (arrOf AQ) (lo + n - 1))
  case' true=>
   simp only [if_true];exact wpS_pure (h n _ (Kp.refl _ _) n1 n2 sn)
  case' false=>
   simp only [Z1,if_false];refine wpS_bind (FL ?_);have even:∀ i j,lo<=i->i < lo + n->lo<=j->j < lo + n->Nl lt (Cm (arrOf AQ) i) (Cm (arrOf AQ) j):=by
    intro i j a1 a2 a3 a4;have b1:=sn lo j (Zb _) a3 a4;have b2:=sn i (lo + n - 1) a1 (by lia) (by lia);exact sw.trans (sw.trans b2 hrose) b1
   have ns0:NS lt (arrOf AQ) lo (lo + n):=fun i j a1 a2 a3=>even j i (by lia) a3 a1 (by lia)
   have ns1:NS lt (arrOf AQ) lo (lo + (n + 1)):=by
    intro i j a1 a2 a3;by_cases hj:j < lo + n
    ·exact ns0 i j a1 a2 hj
    ·have ej:j=lo + n:=by lia
     by_cases hi:i=j
     ·rw [hi]; exact sw.rfl' _
     ·rw [ej];exact sw.trans (sw.of_lt Bv) (even _ _ (by lia) (by lia) a1 (by lia))
   have kp:Kp (arrOf AQ) (mirror (arrOf AQ) lo (lo + n) ((lo + n - lo) / 2)) lo:=(Kp.refl _ _).mirror (by lia) (Zb _);have ns:NS lt (mirror (arrOf AQ) lo (lo + n) ((lo + n - lo) / 2)) lo (lo + (n + 1)):=ns0.even (by lia) (Zb _) even (by lia) ns1;obtain ⟨ys,ey⟩:∃ ys,ys=mirror (arrOf AQ) lo (lo + n) ((lo + n - lo) / 2):=⟨_,rfl⟩
   rw [<-ey] at kp ns;show wpS (model prog w) A E s _ Q (setArr AQ (mirror (arrOf AQ) lo (lo + n) ((lo + n - lo) / 2)))
   rw [<-ey]
 case' neg=>
  rw [if_neg hgt];have en:n=1:=by lia
  have kp:Kp (arrOf AQ) (arrOf AQ) lo:=Kp.refl _ _;have ns:NS lt (arrOf AQ) lo (lo + (n + 1)):=by
   intro i j a1 a2 a3;by_cases hi:i=j
   ·rw [hi]; exact sw.rfl' _
   ·have e1:j=lo + n:=by lia
    have e2:i=lo + n - 1:=by lia
    rw [e1,e2];exact sw.of_lt Bv
  obtain ⟨ys,ey⟩:∃ ys,ys=arrOf AQ:=⟨_,rfl⟩
  rw [<-ey] at ns;have kp:Kp (arrOf AQ) ys lo:=by rw [ey]; exact Kp.refl _ _
  show wpS (model prog w) A E s _ Q (setArr AQ (arrOf AQ))
  rw [<-ey]
 all_goals
  refine wpS_bind (wpS_lift (wpAny_rule ⟨rfl,?_⟩));refine wpS_bind (wpS_mono (wpS_forRange (I:=fun x c HD=>∃ neq ys,c=(none,x,neq)/\HD=setArr AQ ys/\Kp (arrOf AQ) ys lo/\NS lt ys lo (lo + x)/\neq + 1<=x /\
    (∀ i j,lo + x - (neq + 1)<=i->i < lo + x->lo + x - (neq + 1)<=j->j < lo + x->Nl lt (Cm ys i) (Cm ys j)))
   (Q:=fun c HD=>∃ m neq ys,c=(none,m,neq)/\HD=setArr AQ ys/\Kp (arrOf AQ) ys lo/\n + 1<=m/\m<=nrem/\NS lt ys lo (lo + m)/\neq + 1<=m /\
    (∀ i j,lo + m - (neq + 1)<=i->i < lo + m->lo + m - (neq + 1)<=j->j < lo + m->Nl lt (Cm ys i) (Cm ys j))) ?dstep ?dfin ?dinit) ?dpost)
  case dinit=>
   refine ⟨0,ys,rfl,rfl,kp,ns,by lia,fun i j a1 a2 a3 a4=>?_⟩;have:i=j:=by lia
   rw [this];exact sw.rfl' _
  case dfin=>
   rintro c HD ⟨neq,ys,rfl,rfl,kp,ns,a1,a2⟩;have e:max (n + 1) nrem=nrem:=by lia
   rw [e] at ns a1 a2 ⊢;exact ⟨nrem,neq,ys,rfl,rfl,kp,by lia,Zb _,ns,a1,a2⟩
  case dstep=>
   rintro x c HD x1 x2 ⟨neq,ys,rfl,rfl,kp,ns,a1,a2⟩;dsimp only;have hzy:=kp.size;have hpy:(arrOf (setArr AQ ys)).Perm a0:=kp.1.trans hp;refine wpS_bind (CU (st:=setArr AQ ys) an hk hpy (by lia) (by lia) ?_);dsimp only;cases hless:lt (Cm ys (lo + x)) (Cm ys (lo + x - 1))
   ·simp only [Z1,if_false];refine wpS_bind (CU (st:=setArr AQ ys) an hk hpy (by lia) (by lia) ?_);dsimp only;cases hlarger:lt (Cm ys (lo + x - 1)) (Cm ys (lo + x))
    ·simp only [Z1,if_false];refine wpS_pure ⟨neq + 1,ys,rfl,rfl,kp,?_,by lia,?_⟩
     ·intro i j b1 b2 b3;by_cases hj:j < lo + x
      ·exact ns i j b1 b2 hj
      ·have ej:j=lo + x:=by lia
       by_cases hi:i=j
       ·rw [hi]; exact sw.rfl' _
       ·rw [ej];exact sw.trans hlarger (ns _ _ b1 (by lia) (by lia))
     ·have pin:∀ i,lo + (x + 1) - (neq + 1 + 1)<=i->i < lo + (x + 1)->Nl lt (Cm ys i) (Cm ys (lo + x - 1))/\Nl lt (Cm ys (lo + x - 1)) (Cm ys i):=by
       intro i b1 b2;by_cases hi:i=lo + x
       ·rw [hi];exact ⟨hlarger,hless⟩
       ·exact ⟨a2 _ _ (by lia) (by lia) (by lia) (by lia),a2 _ _ (by lia) (by lia) (by lia) (by lia)⟩
      intro i j b1 b2 b3 b4;exact sw.trans (pin i b1 b2).1 (pin j b3 b4).2
    ·simp only [if_true];exact wpS_pure ⟨x,neq,ys,rfl,rfl,kp,x1,by lia,ns,a1,a2⟩
   ·simp only [if_true];have ns':NS lt ys lo (lo + (x + 1)):=by
     intro i j b1 b2 b3;by_cases hj:j < lo + x
     ·exact ns i j b1 b2 hj
     ·have ej:j=lo + x:=by lia
      by_cases hi:i=j
      ·rw [hi]; exact sw.rfl' _
      ·rw [ej];exact sw.trans (sw.of_lt hless) (ns _ _ b1 (by lia) (by lia))
    have one:∀ (zs:Array Keyed) i j,lo + (x + 1) - (0 + 1)<=i->i < lo + (x + 1)->lo + (x + 1) - (0 + 1)<=j->j < lo + (x + 1)->Nl lt (Cm zs i) (Cm zs j):=by
     intro zs i j b1 b2 b3 b4;have:i=j:=by lia
     rw [this];exact sw.rfl' _
    by_cases hq:neq > 0
    ·rw [if_pos hq];refine wpS_bind (FL (wpS_pure ⟨0,_,rfl,rfl,kp.mirror (by lia) (by lia),?_,by lia,one _⟩));exact ns.even (by show _<=ys.size; lia) (by lia) a2 (by lia) ns'
    ·rw [if_neg hq];exact wpS_pure ⟨0,ys,rfl,rfl,kp,ns',by lia,one _⟩
  case dpost=>
   rintro c HD ⟨m,neq,zs,rfl,rfl,kz,m1,m2,nz,a1,a2⟩;dsimp only;have hzz:=kz.size;by_cases hq:neq > 0
   case' pos=>
    rw [if_pos hq];refine wpS_bind (FL ?_);have Xg:Kp (arrOf AQ) (mirror zs (lo + m - (neq + 1)) (lo + m) ((lo + m - (lo + m - (neq + 1))) / 2)) lo:=kz.mirror (by lia) (by lia);have XU:NS lt (mirror zs (lo + m - (neq + 1)) (lo + m) ((lo + m - (lo + m - (neq + 1))) / 2)) lo (lo + m):=nz.even (by lia) (by lia) a2 (Zb _) nz;obtain ⟨us,eu⟩:∃ us,us=mirror zs (lo + m - (neq + 1)) (lo + m) ((lo + m - (lo + m - (neq + 1))) / 2):=⟨_,rfl⟩
    rw [<-eu] at Xg XU;show wpS (model prog w) A E s _ Q (setArr AQ (mirror zs (lo + m - (neq + 1)) (lo + m) ((lo + m - (lo + m - (neq + 1))) / 2)))
    rw [<-eu]
   case' neg=>
    rw [if_neg hq];obtain ⟨us,eu⟩:∃ us,us=zs:=⟨_,rfl⟩
    have Xg:Kp (arrOf AQ) us lo:=by rw [eu]; exact kz
    have XU:NS lt us lo (lo + m):=by rw [eu]; exact nz
    rw [<-eu]
   all_goals
    have hzu:=Xg.size;refine wpS_bind (FL ?_);show wpS (model prog w) A E s _ Q (setArr AQ (mirror us lo (lo + m) ((lo + m - lo) / 2)))
    have kv:Kp (arrOf AQ) (mirror us lo (lo + m) ((lo + m - lo) / 2)) lo:=Xg.mirror (by lia) (Zb _);have sv:SS lt (mirror us lo (lo + m) ((lo + m - lo) / 2)) lo (lo + m):=XU.mirror (by lia);obtain ⟨vs,ev⟩:∃ vs,vs=mirror us lo (lo + m) ((lo + m - lo) / 2):=⟨_,rfl⟩
    rw [<-ev] at kv sv;rw [<-ev];have hzv:=kv.size;refine wpS_bind (wpS_mono (Ni (f:=fun n=>lt (Cm vs (lo + n)) (Cm vs (lo + n - 1))) m2 ?_) ?_)
    ·intro x n R n1 n2 y1 y2;dsimp only;refine wpS_bind (CU (st:=setArr AQ vs) an hk (kv.1.trans hp) (by lia) (by lia) ?_);dsimp only;cases e:lt (Cm vs (lo + n)) (Cm vs (lo + n - 1))
     ·exact wpS_pure (y2 e)
     ·exact wpS_pure (y1 e)
    rintro c X9 ⟨rfl,n',rfl,b1,b2,b3,_⟩;exact wpS_pure (h n' vs kv (by lia) b2 (TM sw sv (by lia) b3))
theorem HC {lo n ok:Nat} {Q:Bool->SortSt->Prop} {st:SortSt} (sw:PZ lt) (an:Vy prog w A s κ lt a0) (hk:kindOf st=κ) (hp:(arrOf st).Perm a0) (hn:lo + n<=a0.size) (h1:1<=ok) (hok:ok<=n)
  (hs:SS lt (arrOf st) lo (lo + ok)) (h:∀ ys,Kp (arrOf st) ys lo->SS lt ys lo (lo + n)->Q true (setArr st ys)):wpS (model prog w) A E s (binarySort' lo n ok) Q st:=by
 have hz:=hp.size_eq;refine wpS_bind (wpS_mono (wpS_forRange (I:=fun k c AQ=>c=(none,())/\∃ ys,AQ=setArr st ys/\Kp (arrOf st) ys lo/\SS lt ys lo (lo + k))
  (Q:=fun c AQ=>c=(none,())/\∃ ys,AQ=setArr st ys/\Kp (arrOf st) ys lo/\SS lt ys lo (lo + n)) ?step ?fin ?init) ?post)
 case init=>
  rw [Nat.max_eq_left h1];exact ⟨rfl,arrOf st,rfl,Kp.refl _ _,hs⟩
 case fin=>
  rintro c AQ ⟨rfl,ys,rfl,kp,ss⟩;rw [show max (max ok 1) n=n by lia] at ss;exact ⟨rfl,ys,rfl,kp,ss⟩
 case post=>
  rintro c AQ ⟨rfl,ys,rfl,kp,ss⟩;exact wpS_pure (h ys kp ss)
 case step=>
  rintro k c AQ k1 k2 ⟨rfl,ys,rfl,kp,ss⟩;dsimp only;have hzy:=kp.size;have hpy:(arrOf (setArr st ys)).Perm a0:=kp.1.trans hp;refine wpS_bind (wpS_mono (Lf (f:=fun m=>!(lt (Cm ys (lo + k)) (Cm ys (lo + m)))) (n:=k) ?_ ?_ (Z7 _) (Zb _) ?_ ?_ ?_) ?_)
  ·intro x l R hR;dsimp only;rw [if_pos (Zb _)];exact wpS_pure hR
  ·intro x l r R hlr hrk y1 y2;dsimp only;rw [if_neg (by lia),show (l + r) / 2=l + (r - l) / 2 by lia];refine wpS_bind (CU (st:=setArr st ys) an hk hpy (by lia) (by lia) ?_);dsimp only;cases e:lt (Cm ys (lo + k)) (Cm ys (lo + (l + (r - l) / 2)))
   ·exact wpS_pure (y1 (by rw [e]; rfl))
   ·exact wpS_pure (y2 (by rw [e]; rfl))
  ·intro i j hij hj e;simp only [aQ] at e ⊢;exact sw.trans (ss _ _ (by lia) (by lia) (by lia)) e
  ·intro i hi;lia
  ·intro i hi1 Vg;lia
  ·rintro c Fj ⟨rfl,r,rfl,r1,r2,r3⟩;refine wpS_bind ?_;rw [show (sortPriv% PySem.Builtin.moveDown)=moveDown' from rfl,moveDown'_eq];refine wpS_modify (wpS_pure ⟨rfl,bubble ys (lo + k) (lo + k - (lo + r)),rfl,kp.bubble (by lia) (by lia),?_⟩);intro i j a1 a2 a3;rw [F9 (by lia) (by lia),F9 (by lia) (by lia)];have g1:∀ m,lo<=m->m < lo + r->Nl lt (Cm ys m) (Cm ys (lo + k)):=fun m b1 b2=>by
    have q:=r2 (m - lo) (by lia);simp only [aQ] at q;rw [show lo + (m - lo)=m by lia] at q;exact q
   have g2:∀ m,lo + r<=m->m < lo + k->Nl lt (Cm ys (lo + k)) (Cm ys m):=fun m b1 b2=>by
    have q:=r3 (m - lo) (by lia) (by lia);simp only [Bool.not_eq_false'] at q;rw [show lo + (m - lo)=m by lia] at q;exact sw.of_lt q
   repeat' split
   all_goals first
    | exact sw.rfl' _
    | exact g1 _ (by lia) (by lia)
    | exact g2 _ (by lia) (by lia)
    | exact ss _ _ (by lia) (by lia) (by lia)
    | (exfalso; lia)
end
section
variable {lt:Keyed->Keyed->Bool}
end
section
variable {prog:Program} {w:World} {A:Around} {E:Value->Shared->Prop} {s:Shared} {κ:SortKind} {lt:Keyed->Keyed->Bool} {a0:Array Keyed}
end
section
variable {prog:Program} {w:World} {A:Around} {E:Value->Shared->Prop} {s:Shared} {κ:SortKind} {lt:Keyed->Keyed->Bool} {a0:Array Keyed}
end
end L2
namespace L2
open PySem PySem.Spec PySem.W PyProof.Rows
theorem Fe {vs:List Value} {p:Keyed} (h:p ∈ (pairsOf vs).toList):p=(p.2,p.2)/\p.2 ∈ vs:=by
 rw [pairsOf_toList] at h;obtain ⟨e,m⟩:=mem_zip_self h;refine ⟨?_,e ▸ m⟩;obtain ⟨x,y⟩:=p;exact Prod.ext e rfl
theorem Pd (vs:List Value):(pairsOf vs).toList.map (·.2)=vs:=by
 rw [pairsOf_toList];induction vs with
 | nil=>rfl
 | cons v vs ih=>rw [List.zip_cons_cons,Zr,ih]
theorem Rh {vs:List Value} {xs:Array Keyed} (h:xs.Perm (pairsOf vs)):(xs.toList.map (·.2)).Perm vs:=by
 have q:=(bo.mp h).map (·.2);rw [Pd] at q;exact q
theorem Rg {lt:Keyed->Keyed->Bool} {vs:List Value} {xs:Array Keyed} (h:xs.Perm (pairsOf vs)) (hs:xs.toList.Pairwise (Nl lt)):(xs.toList.map (·.2)).Pairwise (fun u v=>lt (v,v) (u,u)=false):=by
 rw [aT];refine hs.imp_of_mem fun {p q} hp hq n=>?_
 have e1:=(Fe ((bo.mp h).mem_iff.mp hp)).1;have e2:=(Fe ((bo.mp h).mem_iff.mp hq)).1;rw [<-e1,<-e2];exact n
section
variable {prog:Program} {w:World} {A:Around} {E:Value->Shared->Prop} {s:Shared} {lt:Keyed->Keyed->Bool}
def Cmpd (prog:Program) (w:World) (s:Shared) (lt:Keyed->Keyed->Bool) (vs:List Value):Prop:=
 2<=vs.length->∀ (A:Around) (h':Heap),(∀ b o,s.heap.get? b=some o->h'.get? b=some o) ->
  ∃ κ,(∀ (Q:SortKind->Shared->Prop) (E:Value->Shared->Prop),Q κ { s with heap:=h' }->wpAny (model prog w) A (keyKind' vs.toArray) Q E { s with heap:=h' })/\Vy prog w A { s with heap:=h' } κ lt (pairsOf vs)
end
inductive Gy where
 | i (n:Int)
 | s (x:Str)
 deriving DecidableEq
def DN:Gy->Gy->Bool
 | .i a,.i b=>decide (a < b)
 | .s a,.s b=>decide (a.cps.toList < b.cps.toList)
 | .i _,.s _=>true
 | .s _,.i _=>false
def AN:List Gy->List Gy->Bool
 | [],[]=>false
 | [],_ :: _=>true
 | _ :: _,[]=>false
 | x :: xs,y :: ys=>if x=y then AN xs ys else DN x y
theorem Tw (a:Gy):DN a a=false:=by
 cases a with
 | i n=>simp [DN]
 | s x=>exact strKind.irrefl x.cps.toList
theorem Tu:∀ {a b c:Gy},DN a b=true->DN b c=true->DN a c=true
 | .i a,.i b,.i c,h1,h2=>by
  simp only [DN,decide_eq_true_eq] at h1 h2 ⊢;lia
 | .i _,.i _,.s _,_,_=>rfl
 | .i _,.s _,.s _,_,_=>rfl
 | .i _,.s _,.i _,_,h=>by cases h
 | .s _,.i _,_,h,_=>by cases h
 | .s _,.s _,.i _,_,h=>by cases h
 | .s x,.s y,.s z,h1,h2=>strKind.trans x.cps.toList y.cps.toList z.cps.toList h1 h2
theorem Tv {a b:Gy} (h:a ≠ b):DN a b=true\/DN b a=true:=by
 cases a <;> cases b <;> simp [DN]
 ·have:∀ x y:Int,Gy.i x ≠ Gy.i y->x < y\/y < x:=fun x y h=>by
   have:x ≠ y:=fun e=>h (by rw [e])
   lia
  exact this _ _ h
 ·rename_i x y
  by_cases h1:x.cps.toList < y.cps.toList
  ·exact .inl h1
  ·by_cases h2:y.cps.toList < x.cps.toList
   ·exact .inr h2
   ·exfalso
    apply h;have e:=strKind.total x.cps.toList y.cps.toList (decide_eq_false h1) (decide_eq_false h2);cases x
    cases y
    rw [cg] at e;subst e;rfl
theorem Ff:∀ a,AN a a=false
 | []=>rfl
 | x :: xs=>by unfold AN; rw [if_pos rfl]; exact Ff xs
theorem Vr {a b:Gy} (h:DN a b=true):a ≠ b:=fun e=>by
 rw [e,Tw] at h;cases h
theorem Gk:∀ a b c,AN a b=true->AN b c=true->AN a c=true
 | [],[],_,h,_=>by cases h
 | [],_ :: _,[],_,h=>by cases h
 | [],_ :: _,_ :: _,_,_=>rfl
 | _ :: _,[],_,h,_=>by cases h
 | _ :: _,_ :: _,[],_,h=>by cases h
 | x :: xs,y :: ys,z :: zs,h1,h2=>by
  unfold AN at h1 h2 ⊢;by_cases e1:x=y
  ·rw [if_pos e1] at h1;by_cases e2:y=z
   ·rw [if_pos e2] at h2;rw [if_pos (e1.trans e2)];exact Gk xs ys zs h1 h2
   ·rw [if_neg e2] at h2;rw [if_neg (by rw [e1]; exact e2),e1];exact h2
  ·rw [if_neg e1] at h1;by_cases e2:y=z
   ·rw [if_neg (by rw [<-e2]; exact e1),<-e2];exact h1
   ·rw [if_neg e2] at h2;have h3:=Tu h1 h2;rw [if_neg (Vr h3)];exact h3
theorem Ob:∀ a b,AN a b=false->AN b a=false->a=b
 | [],[],_,_=>rfl
 | [],_ :: _,h,_=>by cases h
 | _ :: _,[],_,h=>by cases h
 | x :: xs,y :: ys,h1,h2=>by
  unfold AN at h1 h2;by_cases e:x=y
  ·rw [if_pos e] at h1;rw [if_pos e.symm] at h2;rw [e,Ob xs ys h1 h2]
  ·rw [if_neg e] at h1;rw [if_neg (fun z=>e z.symm)] at h2;rcases Tv e with q | q
   ·rw [h1] at q; cases q
   ·rw [h2] at q; cases q
theorem SX (a b c:List Gy) (h:AN a c=true):AN a b=true\/AN b c=true:=by
 cases e1:AN a b
 ·right;cases e2:AN b a
  ·rw [<-Ob a b e1 e2]; exact h
  ·exact Gk _ _ _ e2 h
 ·exact .inl rfl
theorem Oc (f:Value->List Gy):PZ (fun x y=>AN (f x.1) (f y.1)):=
 ⟨fun a=>Ff _,fun a b c=>Gk _ _ _,fun a b c=>SX _ _ _⟩
def Ci:Value->Gy
 | .int n _=>.i n
 | .str x _=>.s x
 | _=>.i 0
def O4:V->Gy
 | .int n=>.i n
 | .str x=>.s x
 | _=>.i 0
def CN (h:Heap):Value->List Gy
 | .ref a=>match h.get? a with
  | some o=>(match o.data with
   | .seq xs _=>xs.toList.map Ci
   | _=>[])
  | none=>[]
 | v=>[Ci v]
def Rv (H:Hp):V->List Gy
 | .ref a=>match H a with
  | some (.tup ys)=>ys.map O4
  | _=>[]
 | v=>[O4 v]
def Mk (k:Bool) (v:V):Prop:=if k=true then ∃ x,v=.str x else ∃ n,v=.int n
def CJ (k:Bool) (v:Value):Prop:=if k=true then ∃ x t,v=.str x t else ∃ n t,v=.int n t
theorem Td {k:Bool} {v:V} {u:Value} (r:A3 v u) (h:Mk k v):CJ k u/\Ci u=O4 v:=by
 unfold Mk at h;unfold CJ;cases k with
 | true=>
  simp only [if_true] at h ⊢;obtain ⟨x,rfl⟩:=h;obtain ⟨t,rfl⟩:=r;exact ⟨⟨x,t,rfl⟩,rfl⟩
 | false=>
  simp only [Z1,if_false] at h ⊢;obtain ⟨x,rfl⟩:=h;obtain ⟨t,rfl⟩:=r;exact ⟨⟨x,t,rfl⟩,rfl⟩
def MT (H:Hp) (kd:Nat->Bool) (v:V):Prop:=∃ t ys,v=.ref t/\H t=some (.tup ys)/\ys ≠ []/\∀ i y,ys[i]? = some y->Mk (kd i) y
def Mi (h:Heap) (kd:Nat->Bool) (v:Value):Prop:=∃ t o xs n,v=.ref t/\h.get? t=some o/\o.cls=.type "tuple"/\o.data=.seq xs n/\0 < xs.size/\∀ (i:Nat) x,xs.toList[i]? = some x->CJ (kd i) x
theorem Qt {X:Cx} {pins:List (Addr × Obj)} {σ:St} {H:Hp} {s:Shared} (I:An X pins σ H s) {kd:Nat->Bool} {v:V} {u:Value} (r:A3 v u) (h:MT H kd v):Mi s.heap kd u/\CN s.heap u=Rv H v:=by
 obtain ⟨t,ys,rfl,ht,ne,hy⟩:=h;cases r
 obtain ⟨_,Ap,rv,⟨o,ho,hc,n,hd⟩,_⟩:=(show A6 X.prog X.w H s.heap t (.tup _) from I.hok t _ ht)
 have e:Rv H (.ref t)=ys.map O4:=by
  show (match H t with | some (.tup ys)=>ys.map O4 | _=>[])=_
  rw [ht]
 have e2:CN s.heap (.ref t)=Ap.map Ci:=by
  show (match s.heap.get? t with | some o=>(match o.data with | .seq xs _=>xs.toList.map Ci | _=>[]) | none=>[])=_
  rw [ho];dsimp only;rw [hd]
 have all:∀ {ys:List V} {Ap:List Value} (k:Nat),A5 ys Ap->(∀ i y,ys[i]? = some y->Mk (kd (k + i)) y)->(∀ (i:Nat) x,Ap[i]? = some x->CJ (kd (k + i)) x)/\Ap.map Ci=ys.map O4:=by
  intro ys;induction ys with
  | nil=>intro Ap k rv _; cases rv; exact ⟨fun i x e=>by simp at e,rfl⟩
  | cons y ys ih=>
   intro Ap k rv hy;cases rv with
   | cons r1 r2=>
    obtain ⟨a1,a2⟩:=Td r1 (hy 0 y rfl);obtain ⟨b1,b2⟩:=ih (k + 1) r2 fun i z e=>by
     have:=hy (i + 1) z (by simpa using e);rw [show k + 1 + i=k + (i + 1) by lia];exact this
    refine ⟨fun i x e=>?_,by rw [Zr,Zr,a2,b2]⟩;cases i with
    | zero=>
     rw [ZS] at e;cases e
     exact a1
    | succ i=>
     have:=b1 i x (by simpa using e);rw [show k + 1 + i=k + (i + 1) by lia] at this;exact this
 obtain ⟨a1,a2⟩:=all 0 rv fun i y e=>by rw [aI]; exact hy i y e
 refine ⟨⟨t,o,Ap.toArray,n,rfl,ho,hc,hd,?_,fun i x e=>?_⟩,by rw [e,e2,a2]⟩
 ·have:=rv.length;have:0 < ys.length:=ZV.mpr ne;simp;lia
 ·have:=a1 i x (by simpa using e);rw [aI] at this;exact this
section
variable {prog:Program} {w:World} {A:Around} {E:Value->Shared->Prop} {s:Shared} {Q:Bool->Shared->Prop}
theorem SK {k b:Bool} {u v:Value} (hu:CJ k u) (hv:CJ k v) (h:Q (DN (Ci u) (Ci v)) s):wpAny (model prog w) A (oneLt' b u v) Q E s:=by
 unfold CJ at hu hv;cases k with
 | true=>
  simp only [if_true] at hu hv;obtain ⟨x,t,rfl⟩:=hu;obtain ⟨y,t',rfl⟩:=hv;cases b with
  | true=>exact oneLt_str h
  | false=>exact kat_one _ _ (PySem.P.lt_str h)
 | false=>
  simp only [Z1,if_false] at hu hv;obtain ⟨x,t,rfl⟩:=hu;obtain ⟨y,t',rfl⟩:=hv;cases b with
  | true=>exact oneLt_int h
  | false=>exact kat_one _ _ (lt_int h)
theorem Vl {k:Bool} {u v:Value} (hu:CJ k u) (hv:CJ k v):SeqAt.EqAt A s u v (decide (Ci u=Ci v)):=by
 unfold CJ at hu hv;cases k with
 | true=>
  simp only [if_true] at hu hv;obtain ⟨x,t,rfl⟩:=hu;obtain ⟨y,t',rfl⟩:=hv;have e:decide (Ci (.str x t)=Ci (.str y t'))=(x == y):=by
   show decide (Gy.s x=Gy.s y)=_
   rw [ag];simp
  rw [e];exact SeqAt.EqAt.str_str x t y t'
 | false=>
  simp only [Z1,if_false] at hu hv;obtain ⟨x,t,rfl⟩:=hu;obtain ⟨y,t',rfl⟩:=hv;have e:decide (Ci (.int x t)=Ci (.int y t'))=(x == y):=by
   show decide (Gy.i x=Gy.i y)=_
   rw [ag];simp
  rw [e];exact SeqAt.EqAt.int_int x t y t'
theorem Ka {b:Bool} {kd:Nat->Bool}:∀ (xs ys:List Value) (i:Nat),(∀ (j:Nat) x,xs[j]? = some x->CJ (kd (i + j)) x)->(∀ (j:Nat) x,ys[j]? = some x->CJ (kd (i + j)) x) ->
  Q (AN (xs.map Ci) (ys.map Ci)) s->KatLex prog w A b (decide (xs.length < ys.length)) Q (xs.zip ys) i s
 | [],[],i,_,_,h=>h
 | [],y :: ys,i,_,_,h=>h
 | x :: xs,[],i,_,_,h=>h
 | x :: xs,y :: ys,i,hx,hy,h=>by
  have kx:CJ (kd i) x:=hx 0 x rfl;have ky:CJ (kd i) y:=hy 0 y rfl;rw [Zr,Zr] at h;unfold AN at h;refine kat_cons (Vl kx ky _ _ _ _ ?_);refine kat_go (fun e=>kat_yes ?_) (fun e=>kat_no (SK kx ky ?_))
  ·have e':=of_decide_eq_true e;rw [if_pos e'] at h;have r:=Ka (b:=b) (kd:=kd) xs ys (i + 1) (fun j z e=>by rw [show i + 1 + j=i + (j + 1) by lia]; exact hx (j + 1) z (by simpa using e)) (fun j z e=>by rw [show i + 1 + j=i + (j + 1) by lia]; exact hy (j + 1) z (by simpa using e)) h;have e2:decide ((x :: xs).length < (y :: ys).length)=decide (xs.length < ys.length):=by simp
   rw [e2];exact r
  ·have e':=of_decide_eq_false e;rw [if_neg e'] at h;exact h
theorem U1 {kd:Nat->Bool} {u v:Value} (hu:Mi s.heap kd u) (hv:Mi s.heap kd v) (h:Q (AN (CN s.heap u) (CN s.heap v)) s):wpAny (model prog w) A (keyLt' (tuples' true) u v) Q E s:=by
 obtain ⟨t,o,xs,n,rfl,ho,hc,hd,p,hx⟩:=hu;obtain ⟨t',o',Ql,n',rfl,Jy,Ht,Lb,p',La⟩:=hv;have e1:CN s.heap (.ref t)=xs.toList.map Ci:=by
  show (match s.heap.get? t with | some o=>(match o.data with | .seq xs _=>xs.toList.map Ci | _=>[]) | none=>[])=_
  rw [ho];dsimp only;rw [hd]
 have e2:CN s.heap (.ref t')=Ql.toList.map Ci:=by
  show (match s.heap.get? t' with | some o=>(match o.data with | .seq xs _=>xs.toList.map Ci | _=>[]) | none=>[])=_
  rw [Jy];dsimp only;rw [Lb]
 rw [e1,e2] at h;refine kat_lt ho hd Jy Lb ?_;have e3:decide (xs.size < Ql.size)=decide (xs.toList.length < Ql.toList.length):=by simp
 rw [e3];exact Ka (kd:=kd) _ _ 0 (fun j x e=>by rw [aI]; exact hx j x e) (fun j x e=>by rw [aI]; exact La j x e) h
theorem JF {kd:Nat->Bool} {vs:List Value} (h:∀ v ∈ vs,Mi s.heap kd v):Cmpd prog w s (fun x y=>AN (CN s.heap x.1) (CN s.heap y.1)) vs:=by
 intro h2 A h' kp;have h1:∀ v ∈ vs,Mi h' kd v/\CN h' v=CN s.heap v:=fun v hv=>by
  obtain ⟨t,o,xs,n,rfl,ho,hc,hd,p,hx⟩:=h v hv;exists ⟨t,o,xs,n,rfl,kp t o ho,hc,hd,p,hx⟩;show (match h'.get? t with | some o=>(match o.data with | .seq xs _=>xs.toList.map Ci | _=>[]) | none=>[])=(match s.heap.get? t with | some o=>(match o.data with | .seq xs _=>xs.toList.map Ci | _=>[]) | none=>[])
  rw [ho,kp t o ho]
 exists tuples' true,?_
 ·intro Q E hq;have tups:∀ l:List Value,(∀ v ∈ l,Mi h' kd v)->∃ fs:List Value,KatTups h' l fs/\fs.length=l.length/\∀ f ∈ fs,CJ (kd 0) f:=by
   intro l;induction l with
   | nil=>intro _; exact ⟨[],KatTups.nil,rfl,fun f hf=>nomatch hf⟩
   | cons v l ih=>
    intro hl;obtain ⟨fs,k1,k2,k3⟩:=ih fun v hv=>hl v (Zv _ hv)
    obtain ⟨t,o,xs,n,rfl,ho,hc,hd,p,hx⟩:=hl v Zq;have g:xs[0]? = some xs[0]:=ZT p;refine ⟨xs[0] :: fs,KatTups.cons ho hc hd g k1,by rw [Z4,Z4,k2],fun f hf=>?_⟩;rcases Zg.mp hf with rfl | hf
    ·exact hx 0 _ (by rw [ZW]; exact g)
    ·exact k3 f hf
  obtain ⟨fs,k1,k2,k3⟩:=tups vs fun v hv=>(h1 v hv).1
  cases ek:kd 0 with
  | true=>
   refine kat_kind (T:=.type "str") k1 (by lia) (fun v hv=>?_) rfl hq;have q:=k3 v hv;unfold CJ at q;rw [ek] at q;simp only [if_true] at q;obtain ⟨x,t,rfl⟩:=q;exact Looks.now
  | false=>
   refine kat_kind (T:=.type "int") k1 (by lia) (fun v hv=>?_) rfl hq;have q:=k3 v hv;unfold CJ at q;rw [ek] at q;simp only [Z1,if_false] at q;obtain ⟨x,t,rfl⟩:=q;exact Looks.now
 ·intro x y hx hy Q E hq;obtain ⟨ex,mx⟩:=Fe (vs:=vs) (p:=x) (by simpa using hx);obtain ⟨ey,my⟩:=Fe (vs:=vs) (p:=y) (by simpa using hy);rw [ex,ey] at hq ⊢;dsimp only at hq ⊢;refine U1 (h1 _ mx).1 (h1 _ my).1 ?_;show Q (AN (CN h' x.2) (CN h' y.2)) _
  rw [(h1 _ mx).2,(h1 _ my).2];exact hq
end
theorem O3 {us Lj:List Value} (p:Lj.Perm us):∀ {vs:List V},A5 vs us->∃ Kv,A5 Kv Lj/\Kv.Perm vs:=by
 induction p with
 | nil=>intro vs h; exact ⟨vs,h,.refl _⟩
 | cons x p ih=>
  intro vs h;cases h with
  | cons h1 h2=>
   obtain ⟨Kv,a,b⟩:=ih h2;exact ⟨_ :: Kv,.cons h1 a,b.cons _⟩
 | swap x y l=>
  intro vs h;cases h with
  | cons h1 h2=>
   cases h2 with
   | cons h3 h4=>exact ⟨_ :: _ :: _,.cons h3 (.cons h1 h4),.swap _ _ _⟩
 | trans p1 p2 Vc Vb=>
  intro vs h;obtain ⟨X2,a1,b1⟩:=Vb h;obtain ⟨WS,a2,b2⟩:=Vc a1;exact ⟨WS,a2,b2.trans b1⟩
end L2
namespace L2
open PySem PySem.W PyProof.Rows
section
variable {prog:Program} {w:World} {A:Around} {E:Value->Shared->Prop} {s:Shared} {κ:SortKind} {lt:Keyed->Keyed->Bool} {a0:Array Keyed}
end
end L2
namespace L2
open PySem PySem.Spec PySem.W PyProof.Rows
theorem Hz (f:Nat->Int):∀ k,argBest (fun i j=>decide (f i > f j)) k<=k/\∀ j,j<=k->f j<=f (argBest (fun i j=>decide (f i > f j)) k)
 | 0=>⟨Zb _,fun j hj=>by
  have:j=0:=by lia
  subst this;exact ZD _⟩
 | k + 1=>by
  obtain ⟨h1,h2⟩:=Hz f k;simp only [argBest];by_cases hc:f (k + 1) > f (argBest (fun i j=>decide (f i > f j)) k)
  ·rw [if_pos (by simpa using hc)];refine ⟨Zb _,fun j hj=>?_⟩;by_cases HI:j<=k
   ·have:=h2 j HI;lia
   ·have:j=k + 1:=by lia
    subst this;exact ZD _
  ·rw [if_neg (by simpa using hc)];refine ⟨aV h1,fun j hj=>?_⟩;by_cases HI:j<=k
   ·exact h2 j HI
   ·have:j=k + 1:=by lia
    subst this;lia
theorem Ec:∀ {ns:List Int} {us:List Value},A5 (ns.map V.int) us->∀ (i:Nat) (v:Value),us[i]? = some v->∃ n t,ns[i]? = some n/\v=Value.int n t
 | [],_,.nil,i,v,e=>by simp at e
 | n :: ns,_,.cons r1 r2,0,v,e=>by
  obtain ⟨t,rfl⟩:=r1;simp only [ZS,Zo.injEq] at e;exact ⟨n,t,rfl,e.symm⟩
 | n :: ns,_,.cons r1 r2,i + 1,v,e=>by simpa using Ec r2 i v (by simpa using e)
theorem RN {prog:Program} {w:World} {A:Around} {us:List Value} {ns:List Int} (rv:A5 (ns.map V.int) us):CmpOf prog w A .Gt (fun i v=>us.toArray[i]? = some v) (fun i j=>decide (ns.getD i 0 > ns.getD j 0)):=by
 intro i j vi vj s Q E hi hj hQ;obtain ⟨x,t,e1,rfl⟩:=Ec rv i vi (by simpa using hi);obtain ⟨y,u,e2,rfl⟩:=Ec rv j vj (by simpa using hj);dsimp only at hQ;rw [Zw,Zw,e1,e2] at hQ;exact PyProof.Rows.gt_int hQ
theorem J6 {X:Cx} (hc:X.calm=true):Bi X (.builtin "max") (fun xs H Q=>∃ (a:Addr) (ns:List Int),xs=[.ref a]/\A9 X.K H a (ns.map V.int)/\ns ≠ [] /\
  ∀ m,m ∈ ns->(∀ x ∈ ns,x<=m)->Q (.int m) H):=by
 intro pins s σ H xs us Q I r h;obtain ⟨a,ns,rfl,ha,hne,q⟩:=h;obtain ⟨u,rfl,ru⟩:=Cf r;cases ru
 obtain ⟨Ap,rv,pl,hz⟩:=I.list ha;have hl:Ap.length=ns.length:=by rw [<-rv.length,YV]
 have hpos:0 < ns.length:=ZV.mpr hne;refine call_max_walk (wpAny_pyIter_list pl.isList ?_);have hai:a < s.heap.objs.size:=by obtain ⟨o,ho,_⟩:=pl.isList; exact Zc ho
 refine ⟨_,[s.heap.objs.size,a],[s.heap.objs.size],_,_,_,_,rfl,Walks.list (A:=X.A.in1) (I.ok.hd hc) _ a (Zh hai) Ap.toArray,⟨⟨_,Zf _ rfl,rfl,rfl⟩,pl.isList.push _⟩,fun c hc=>?_,by simpa [hl] using hpos,RN rv,fun v h' tk hP hk=>?_⟩
 ·show c < (s.heap.push _).objs.size
  rw [ZH];rcases Zg.mp hc with rfl | hc
  ·exact Z6 _
  ·rcases Zg.mp hc with rfl | hc
   ·exact Z0 hai
   ·cases hc
 ·have hold:∀ c o,s.heap.get? c=some o->h'.get? c=some o:=fun c o e=>by
   refine hk c o (fun hm=>?_) (YW _ e);rcases Zg.mp hm with e1 | hm
   ·have:=Zc e; rw [e1] at this; exact ZK _ this
   ·cases hm
  have hP':Ap[argBest (fun i j=>decide (ns.getD i 0 > ns.getD j 0)) (Ap.toArray.size - 1)]? = some v:=by rw [<-List.getElem?_toArray]; exact hP
  obtain ⟨x,t,e1,rfl⟩:=Ec rv _ v hP';obtain ⟨b1,b2⟩:=Hz (fun i=>ns.getD i 0) (Ap.toArray.size - 1);refine ⟨.int x,H,I.kept hold,⟨t,rfl⟩,q x (YY e1) fun y hy=>?_⟩;obtain ⟨j,hj,rfl⟩:=Zm hy;have:=b2 j (by simp only [Zt]; lia);have e2:ns.getD j 0=ns[j]:=by simp [hj]
  have e3:ns.getD (argBest (fun i j=>decide (ns.getD i 0 > ns.getD j 0)) (Ap.toArray.size - 1)) 0=x:=by
   rw [Zw,e1]; rfl
  rw [e2,e3] at this;exact this
end L2
namespace L2
open PySem PySem.Spec PyProof.Rows
theorem Ep {α:Type}:∀ {ys:List α} {k:Nat} {y:α},ys[k]? = some y->(y :: ys.eraseIdx k).Perm ys
 | [],k,y,e=>by simp at e
 | x :: ys,0,y,e=>by
  simp at e;subst e;exact List.Perm.refl _
 | x :: ys,k + 1,y,e=>by
  simp at e;exact (List.Perm.swap x y _).trans ((Ep e).cons x)
theorem JY {α β:Type} (f:α->β):∀ (ys:List α) (k:Nat),(ys.map f).eraseIdx k=(ys.eraseIdx k).map f
 | [],k=>by simp
 | x :: ys,0=>rfl
 | x :: ys,k + 1=>by
  show f x :: (ys.map f).eraseIdx k=f x :: (ys.eraseIdx k).map f
  rw [JY f ys k]
theorem Lm:∀ {ss:List Str} {us:List Value},A5 (ss.map V.str) us->StrsAre us ss
 | [],_,.nil=>.nil
 | _ :: _,_,.cons r q=>by
  obtain ⟨t,rfl⟩:=r;exact .cons _ t (Lm q)
theorem SQ {X:Cx}:MtM X "str.join" (fun x vs H Q=>∃ (z:Str) (a:Addr) (ss:List Str),x=.str z/\vs=[.ref a]/\H a=some (.lst (ss.map V.str))/\z.length<=16/\(ss.map (·.length)).sum + ss.length<=1048576/\Q (.str (Txt.join z ss)) H):=by
 intro pins s σ H x vs v us Q I rx rv h;obtain ⟨z,a,ss,rfl,rfl,hH,hz,hw,q⟩:=h;obtain ⟨t,rfl⟩:=rx;obtain ⟨u,rfl,ru⟩:=rv.one;cases ru
 obtain ⟨_,Ap,n,r,_,e⟩:=I.lstM hH;refine join_listW (ys:=ss) ⟨_,e,rfl,n,rfl⟩ (by rw [List.toList_toArray]; exact Lm r) hz hw fun t' k=>?_
 exact ⟨.str (Txt.join z ss),H,I.tok k,⟨t',rfl⟩,q⟩
theorem LN (ss:List Str):(Txt.join (Str.ofString "") ss).cps.toList=(ss.map fun s=>s.cps.toList).flatten:=by
 unfold Txt.join;rw [PySem.StrLaws.glued_eq_join];induction ss with
 | nil=>rfl
 | cons x r ih=>
  cases r with
  | nil=>
   show x.cps.toList=_
   simp
  | cons y r=>
   have e:Str.join (Str.ofString "") (x :: y :: r)=x ++ Str.ofString "" ++ Str.join (Str.ofString "") (y :: r):=rfl;rw [e,Zr,dJ,<-ih];show ((x.cps ++ #[]) ++ (Str.join (Str.ofString "") (y :: r)).cps).toList=_
   simp
theorem Rw {ss:List Str} (h:∀ s ∈ ss,s.length=1/\T8 s):T8 (Txt.join (Str.ofString "") ss)/\(Txt.join (Str.ofString "") ss).length=ss.length/\(ss.map (·.length)).sum=ss.length:=by
 have e:∀ l:List Str,(∀ s ∈ l,s.length=1/\T8 s)->((l.map fun s=>s.cps.toList).flatten).length=l.length/\(l.map (·.length)).sum=l.length:=by
  intro l;induction l with
  | nil=>intro _; exact ⟨rfl,rfl⟩
  | cons x r ih=>
   intro h;obtain ⟨i1,i2⟩:=ih fun s hs=>h s (Zv _ hs)
   have hx:x.cps.size=1:=(h x (Zq ..)).1;constructor
   ·rw [Zr,dJ,Za,i1,Z5,hx,Z4];lia
   ·rw [Zr,b8,i2,Z4];show x.cps.size + r.length=r.length + 1
    lia
 refine ⟨fun c hc=>?_,?_,(e ss h).2⟩
 ·rw [LN] at hc;obtain ⟨l,hl,hcl⟩:=List.mem_flatten.mp hc;obtain ⟨s,hs,rfl⟩:=Zd.mp hl;exact (h s hs).2 c hcl
 ·show (Txt.join (Str.ofString "") ss).cps.size=_
  rw [<-Z5,LN];exact (e ss h).1
theorem LD {xs:List Str} {hd:List Nat} {f:Nat->List Nat} (h:∀ i x,xs[i]? = some x->∃ tl,x.cps.toList=hd ++ (f i ++ tl)) (hf:∀ i j,i < j->j < xs.length->∀ tl U4,f i ++ tl ≠ f j ++ U4):xs.Nodup:=by
 refine ZU.mpr fun i j hi hj hij e=>?_
 obtain ⟨tl,h1⟩:=h i _ (YU hi);obtain ⟨U4,h2⟩:=h j _ (YU hj);rw [e,h2] at h1;exact hf i j hij hj tl U4 (List.append_cancel_left h1).symm
def Pf (n:Nat) (st sp:Int) (k:Nat):List Nat:=if 26 < n then [97 + ((st + sp * k) % 26).toNat,97 + k / 26] else [97 + ((st + sp * k) % 26).toNat]
theorem UM {n:Nat} {st sp:Int} (hn:n<=52) (hs:sp ∈ ([1,3,5,7,9,11,15,17]:List Int)) {i j:Nat} (hij:i < j) (hj:j < n) (tl U4:List Nat):Pf n st sp i ++ tl ≠ Pf n st sp j ++ U4:=by
 have key:((st + sp * i) % 26).toNat=((st + sp * j) % 26).toNat->(j - i) % 26=0:=by
  intro e;have e2:(st + sp * i) % 26=(st + sp * j) % 26:=by
   have a1:=ai (st + sp * i) (show (26:Int) ≠ 0 by decide);have a2:=ai (st + sp * j) (show (26:Int) ≠ 0 by decide);lia
  have g:Int.gcd 26 sp=1:=by
   simp only [Zg,ZE,or_false] at hs;rcases hs with rfl | rfl | rfl | rfl | rfl | rfl | rfl | rfl <;> rfl
  have d:(26:Int) ∣ sp * ((j:Int) - i):=by
   refine Int.dvd_of_emod_eq_zero ?_;have e3:sp * ((j:Int) - i)=(st + sp * j) - (st + sp * i):=by rw [Int.mul_sub]; lia
   rw [e3,Int.sub_emod,e2,Int.sub_self];rfl
  have d2:(26:Int) ∣ (j:Int) - i:=by
   rw [bK] at d;have e4:Nat.gcd 26 sp.natAbs=1:=g;have e5:(26:Nat) ∣ ((j:Int) - i).natAbs * sp.natAbs:=by rw [<-Int.natAbs_mul]; exact df.mpr d
   exact df.mp (Nat.Coprime.dvd_of_dvd_mul_right e4 e5)
  lia
 intro e;unfold Pf at e;by_cases h:26 < n
 ·rw [if_pos h,if_pos h] at e;simp only [ah,cB,aY.injEq] at e;have:=key (by lia);lia
 ·rw [if_neg h,if_neg h] at e;simp only [ah,cB,aY.injEq] at e;have:=key (by lia);lia
theorem Eb {i:Int} (h0:0<=i) (h1:i < 26):HV Gm.cps.toList i=some (97 + i.toNat):=by
 obtain ⟨n,rfl⟩:∃ n:Nat,i=(n:Int):=⟨i.toNat,by lia⟩
 have:∀ m:Fin 26,HV Gm.cps.toList (m.val:Int)=some (97 + ((m.val:Int)).toNat):=by decide +kernel
 exact this ⟨n,by lia⟩
theorem len1 {α:Type} {l:List α} (h:l.length=1):∃ a,l=[a]:=List.length_eq_one_iff.mp h
theorem lenS {α:Type} {n:Nat} {l:List α} (h:l.length=n + 1):∃ a r,l=a :: r/\r.length=n:=by
 cases l with
 | nil=>cases h
 | cons a r=>exact ⟨a,r,rfl,Nat.succ.inj h⟩
theorem Ta {α:Type} {l:List α} (h:l.length=2):∃ a b,l=[a,b]:=by
 obtain ⟨a,r,rfl,hr⟩:=lenS h;obtain ⟨b,rfl⟩:=len1 hr;exact ⟨a,b,rfl⟩
theorem len3 {α:Type} {l:List α} (h:l.length=3):∃ a b c,l=[a,b,c]:=by
 obtain ⟨a,r,rfl,hr⟩:=lenS h;obtain ⟨b,c,rfl⟩:=Ta hr;exact ⟨a,b,c,rfl⟩
section
variable {K:Type} [DecidableEq K] [BEq K] [LawfulBEq K]
def met (val:Nat->K) (i:Nat):List K:=((aD i).map val).foldl step_dedup []
theorem ID (val:Nat->K) (i:Nat):met val (i + 1)=step_dedup (met val i) (val i):=by
 unfold met; rw [List.range_succ,Zi,List.foldl_append]; rfl
theorem OH (σ:List K) (v k:K):(step_dedup σ v).any (· == k)=(σ.any (· == k) || decide (k=v)):=by
 unfold step_dedup;by_cases h:σ.any (· == v)=true
 ·rw [if_pos h];by_cases e:k=v
  ·subst e; rw [h]; simp
  ·simp [e]
 ·rw [if_neg h,List.any_append];by_cases e:k=v
  ·subst e; simp
  ·have hb:(v == k)=false:=by simpa [beq_iff_eq] using (fun h':v=k=>e h'.symm)
   simp [hb,e]
theorem FQ (σ:List K) (v:K):(step_dedup σ v).length=if σ.any (· == v) then σ.length else σ.length + 1:=by
 unfold step_dedup; split <;> simp
theorem D4 (val:Nat->K):∀ i,(met val i).length<=i
 | 0=>Zb _
 | i + 1=>by
  rw [ID,FQ];have ih:=D4 val i;split <;> lia
end
section
variable {prog:Program} {w:World} {A:Around} {R:Result->Shared->Prop} {I:Addr} {fp wr:List Addr} {G:Array GenState->Array GenState->Prop} {n:Nat} {P:Nat->Value->Prop} {St:Nat->Shared->Prop}
variable {K:Type} [DecidableEq K] [BEq K] [LawfulBEq K] {knd:KeyKind prog w K}
end
section
variable {prog:Program} {w:World} {A:Around} {E:Value->Shared->Prop} {s:Shared}
variable {K:Type} [DecidableEq K] [BEq K] [LawfulBEq K] {knd:KeyKind prog w K}
end
theorem LH (ss:List Str):met (fun i=>ss.getD i (Str.ofString "")) ss.length=ss.foldl step_dedup []:=by
 unfold met;congr 1;refine aH (by simp) fun i h1 h2=>?_
 simp [Zw,YU h2]
def D8 (h:Heap) (d:Addr) (es:Array DictEntry) (ep:Nat):Prop:=∃ o,h.get? d=some o/\o.ExactDict/\o.data=.dict es ep
theorem D8.typeIs {s:Shared} {d:Addr} {es:Array DictEntry} {ep:Nat} (x:D8 s.heap d es ep):s.TypeIs (.ref d) "dict":=let ⟨o,h1,h2,_⟩:=x; ⟨o,h1,h2.1⟩
theorem D8.at' {h h':Heap} {d:Addr} {es:Array DictEntry} {ep:Nat} (x:D8 h d es ep) (e:∀ o,h.get? d=some o->h'.get? d=some o):D8 h' d es ep:=let ⟨o,h1,r⟩:=x; ⟨o,e _ h1,r⟩
theorem D8.lt {h:Heap} {d:Addr} {es:Array DictEntry} {ep:Nat} (x:D8 h d es ep):d < h.objs.size:=let ⟨_,h1,_⟩:=x; Zc h1
section
variable {prog:Program} {w:World} {A:Around} {E:Value->Shared->Prop} {s:Shared}
theorem Ly {d:Addr} {es:Array DictEntry} {ep:Nat} {Q:Value->Shared->Prop} (hd:(d == sysModules)=false) (hm:D8 s.heap d es ep)
  (hQ:Q (.ref s.heap.objs.size) { s with heap:=s.heap.push { cls:=.type "dict_keyiterator",data:=.fields #[.ref d,.int 0 0,.int es.size 0,.int ep 0] } }) :
  wpAny (model prog w) A (pyIter (.ref d)) Q E s:=by
 obtain ⟨o,ho,hc,hdat⟩:=id hm;have hT:s.TypeIs (.ref d) "dict":=hm.typeIs;refine wpAny_pyIter_slot hT F.slot_dict_iter (wpAny_call_entry F.slot_dict_iter hT F.entry_dict_iter ?_ (F.args_dict_iter_1 _));unfold Builtin.«dict.__iter__»;refine wpAny_bind ?_;unfold Builtin.Dict.dictSlotNone;refine wpAny_bind (wpAny_notOrdered_dict hT ?_);show wpAny _ _ (pure (Value.ref d)) _ _ s
 refine wpAny_pure ?_;show wpAny _ _ (Builtin.Dict.showsAll d >>= _) _ _ s
 unfold Builtin.Dict.showsAll;rw [if_neg (by rw [hd]; exact Zn)];refine wpAny_bind (wpAny_pure ?_);refine wpAny_bind (wpAny_dictEntries ho hdat ?_);refine wpAny_bind (wpAny_dictEpoch ho hdat ?_);have hsz:es.size=es.size:=rfl;refine wpAny_bind (wpAny_newObj_type (wpAny_pure ⟨_,rfl,"dict_keyiterator",_,⟨_,Zf _ rfl,rfl⟩,F.slot_dict_keyiterator_next.lookup,?_⟩));simpa [rawInt] using hQ
theorem Lz {it d:Addr} {i ep:Nat} {es:Array DictEntry} {key:Value} {Q:Option Value->Shared->Prop} (hit:s.heap.IsKeyIter it d i es.size ep)
  (hm:D8 s.heap d es ep) (hx:es[i]?.map (·.key)=some key)
  (hQ:∀ h',h'.IsKeyIter it d (i + 1) es.size ep->Heap.SameBut it s.heap h'->Q (some key) { s with heap:=h' }) :
  wpAny (model prog w) A (pyNext (.ref it)) Q E s:=by
 obtain ⟨o,ho,hc,hd⟩:=id hit;obtain ⟨od,hod,hcd,hdd⟩:=id hm;unfold pyNext;refine wpAny_bind (wpAny_attempt (wpAny_callSpecial?_slot (name:=Str.ofString "__next__") hit.typeIs F.slot_dict_keyiterator_next
  (wpAny_call_entry F.slot_dict_keyiterator_next hit.typeIs F.entry_dict_keyiterator_next ?_ (F.args_dict_keyiterator_next_1 _))))
 refine wpAny_bind (wpAny_pure ?_);refine wpAny_bind ?_;refine wpAny_bind ?_;first | refine wpAny_bind (wpAny_typeNameOfWhole_keyiter hit.typeIs (wpAny_pure ?_)) | refine wpAny_bind (wpAny_typeNameOf_keyiter hit.typeIs (wpAny_pure ?_))
 refine wpAny_bind (wpAny_fieldsOf ho hd ?_);have hown:Builtin.Dict_items.ownsTuple "dict_keyiterator"=false:=by decide
 simp only [hown,Z1,if_false];show wpAny _ _ (if (Value.ref d == Value.none)=true then _ else _) _ _ s
 rw [if_neg (show ¬ ((Value.ref d == Value.none)=true) from Zn)];refine wpAny_bind (wpAny_pure ?_);refine wpAny_bind (wpAny_dictEntries hod hdd ?_);have hsz:es.size=es.size:=rfl;rw [if_neg (by rw [hsz]; simp)];refine wpAny_bind (wpAny_pure ?_);refine wpAny_bind (wpAny_dictEpoch hod hdd ?_);rw [if_neg (by simp)];refine wpAny_pure ?_;have R4:i < es.size:=by
  rcases bJ i es.size with h | h
  ·exact h
  ·rw [aO h] at hx; cases hx
 have hkey:es[i].key=key:=by rw [ZT R4] at hx; exact Zo.inj hx
 simp only [show ¬ ((i:Int) < 0) from by lia,if_false,b9,ZT R4];refine wpAny_bind ?_;first | refine wpAny_bind (wpAny_typeNameOfWhole_keyiter hit.typeIs (wpAny_pure ?_)) | refine wpAny_bind (wpAny_typeNameOf_keyiter hit.typeIs (wpAny_pure ?_))
 refine wpAny_bind (wpAny_isOneOf_keyiter hit.typeIs ?_);show wpAny _ _ (setField (.ref it) 1 (rawInt ((i:Int) + 1)) >>= _) _ _ s
 refine wpAny_bind (wpAny_setField ho hd (by simp) ?_);have Jz:(s.heap.update it (Obj.mapFields (·.setIfInBounds 1 (rawInt ((i:Int) + 1))))).IsKeyIter it d (i + 1) es.size ep:=
  ⟨_,ZM _ ho (Obj.isFreed_of_fields (Obj.data_mapFields hd _)),(Obj.cls_mapFields ..).trans hc,by rw [Obj.data_mapFields hd]; simp [rawInt]⟩
 refine wpAny_bind (wpAny_holding ?_);refine wpAny_bind (wpAny_isOneOf_keyiter (s:={ s with heap:=s.heap.update it (Obj.mapFields (·.setIfInBounds 1 (rawInt ((i:Int) + 1)))) }) Jz.typeIs ?_);show wpAny _ _ (pure es[i].key) _ _ _
 exact wpAny_pure (wpAny_pure ⟨_,rfl,wpAny_pure (hkey ▸ hQ _ Jz (Heap.SameBut.update ..))⟩)
theorem N3 {it d:Addr} {i ep:Nat} {es:Array DictEntry} {Q:Option Value->Shared->Prop} (hh:A.handled=none) (hit:s.heap.IsKeyIter it d i es.size ep)
  (hm:D8 s.heap d es ep) (hx:es.size<=i)
  (hQ:∀ h',Heap.ExtBut it s.heap h'->Q none { s with heap:=h' }):wpAny (model prog w) A (pyNext (.ref it)) Q E s:=by
 obtain ⟨o,ho,hc,hd⟩:=id hit;obtain ⟨od,hod,hcd,hdd⟩:=id hm;unfold pyNext;refine wpAny_bind (wpAny_attempt (wpAny_callSpecial?_slot (name:=Str.ofString "__next__") hit.typeIs F.slot_dict_keyiterator_next
  (wpAny_call_entry F.slot_dict_keyiterator_next hit.typeIs F.entry_dict_keyiterator_next ?_ (F.args_dict_keyiterator_next_1 _))))
 refine wpAny_bind (wpAny_pure ?_);refine wpAny_bind ?_;refine wpAny_bind ?_;first | refine wpAny_bind (wpAny_typeNameOfWhole_keyiter hit.typeIs (wpAny_pure ?_)) | refine wpAny_bind (wpAny_typeNameOf_keyiter hit.typeIs (wpAny_pure ?_))
 refine wpAny_bind (wpAny_fieldsOf ho hd ?_);have hown:Builtin.Dict_items.ownsTuple "dict_keyiterator"=false:=by decide
 simp only [hown,Z1,if_false];show wpAny _ _ (if (Value.ref d == Value.none)=true then _ else _) _ _ s
 rw [if_neg (show ¬ ((Value.ref d == Value.none)=true) from Zn)];refine wpAny_bind (wpAny_pure ?_);refine wpAny_bind (wpAny_dictEntries hod hdd ?_);have hsz:es.size=es.size:=rfl;rw [if_neg (by rw [hsz]; simp)];refine wpAny_bind (wpAny_pure ?_);refine wpAny_bind (wpAny_dictEpoch hod hdd ?_);rw [if_neg (by simp)];refine wpAny_pure ?_;have hge:es.size<=i:=hx;simp only [show ¬ ((i:Int) < 0) from by lia,if_false,b9,aO hge];refine wpAny_bind ?_;first | refine wpAny_bind (wpAny_typeNameOfWhole_keyiter hit.typeIs (wpAny_pure ?_)) | refine wpAny_bind (wpAny_typeNameOf_keyiter hit.typeIs (wpAny_pure ?_))
 show wpAny _ _ (setField (.ref it) 0 .none >>= _) _ _ s
 refine wpAny_bind (wpAny_setField ho hd (by simp) ?_);show wpAny _ _ (newExc (.type "StopIteration") [] >>= _) _ _ _
 refine wpAny_bind ?_;simp only [newExc,newTuple];refine wpAny_bind (wpAny_newObj_type ?_ (by size_fits));refine wpAny_bind (m:=firstArgMember _ _) (wpAny_of_eq (a:=Value.none) (by first | rfl | (simp only [firstArgMember]; rfl)) ?_);refine wpAny_newObj_type ?_ (by size_fits);simp only [raiseNew];refine wpAny_bind (wpAny_handled ?_);rw [show A.in1.handled=none from hh];refine wpAny_bind (wpAny_pure (wpAny_throw ?_));refine wpAny_bind (wpAny_isInstance (T:="StopIteration") (b:=true) ⟨_,Zf _ rfl,rfl⟩ isSubtype_stop ?_);exact wpAny_pure (hQ _ (((Heap.SameBut.update ..).extBut.push _).push _))
theorem OU (hh:A.handled=none) (I d:Addr) (hne:d ≠ I) (es:Array DictEntry) (ep:Nat) :
  Walks prog w A I [I,d] [I] es.size (fun i v=>es[i]?.map (·.key)=some v) (fun i h=>h.IsKeyIter I d i es.size ep/\D8 h d es ep) where
 sub:=fun b hb=>by simp at hb; simp [hb]
 frame:=fun _ _ _ st hk=>⟨st.1.at fun o e=>hk I (by simp) o e,st.2.at' fun o e=>hk d (by simp) o e⟩
 item:=fun i s Q E hi st hQ=>by
  have hx:es[i]?.map (·.key)=some es[i].key:=by rw [ZT hi]; rfl
  refine Lz st.1 st.2 hx fun h' Jz Kc=>?_
  exact hQ _ h' s.toks hx ⟨Jz,st.2.at' fun o e=>Kc.extBut d o hne e⟩ fun b o hb e=>Kc.extBut b o (fun h=>hb (by simp [h])) e
 done:=fun s Q E st hQ=>N3 hh st.1 st.2 (Zb _) fun h' Gn=>hQ h' s.toks fun b o hb e=>Gn b o (fun h=>hb (by simp [h])) e
 self:=fun _ _ _ _ st hQ=>wpAny_pyIter_keyiter st.1 hQ
theorem S8 {d:Addr} {es:Array DictEntry} {ep:Nat} (lo:(d == sysModules)=false):dM prog w "dict" d d es.size (fun i v=>es[i]?.map (·.key)=some v) (fun h=>D8 h d es ep) where
 type:=fun _ hm=>hm.typeIs
 there:=fun _ hm=>⟨hm.lt,hm.lt⟩
 keep:=fun _ _ hm hk=>hm.at' fun o e=>hk d (.inl rfl) o e
 notList:=by decide
 notTuple:=by decide
 hint:=fun _ _ _ _ hm hq=>PySem.W.kdl_hint_dict hm.typeIs hq
 iter:=fun _ _ hh hm=>⟨_,_,(fun _ _ hq=>Ly lo hm hq),OU hh _ d (Zh hm.lt) es ep,⟨⟨_,Zf _ rfl,rfl,rfl⟩,hm.at' fun o e=>YW _ e⟩⟩
end
structure Fn (K:YX) (mg:Str->Option Value) (nm:Str) (st:Stmt) (ps:List Str) (f:Addr) (fd:FuncData):Prop where
 F:EU K nm nm st f fd
 mg:mg nm=some (.ref f)
 b:HB K fd ps []
theorem Lh {κ:Type} [DecidableEq κ] {kvs:List (κ × V)} {k:κ} {v:V} (h:(k,v) ∈ kvs):∃ v',Bd kvs k=some v'/\(k,v') ∈ kvs:=by
 induction kvs with
 | nil=>exact nomatch h
 | cons p r ih=>
  by_cases e:p.1=k
  ·exact ⟨p.2,Bw e,by rw [<-e]; exact Zq⟩
  ·rcases Zg.mp h with z | z
   ·exact absurd (by rw [<-z]) e
   ·obtain ⟨v',a,b⟩:=ih z;exact ⟨v',by rw [Bo e]; exact a,Zv _ b⟩
structure Ox (H:Hp) (m:Addr) (n:Nat) (xs:List Str) (ws:List A8):Prop where
 ex:∃ t1 t2:Addr,∃ vs:List V,H m=some (.tup [.ref t1,.ref t2])/\H t1=some (.tup (xs.map V.str))/\H t2=some (.tup vs)/\Bt H vs (ws.map O1)
 len:xs.length=n
 nd:xs.Nodup
 nm:∀ x ∈ xs,B8 x=true
 wl:ws.length<=100
 wn:∀ u ∈ ws,B8 u.1=true/\B8 u.2.1=true/\1<=u.2.2/\u.2.2 < 10 ^ 30
def iSeq (K:YX) (tl:TE):TI:=fun σ H R=>tl σ H fun x H1=>∃ a,x=.ref a/\(((∃ xs,A9 K H1 a xs)/\R (Qb K a) H1)\/((∃ xs,AF K H1 a xs)/\R (Qa K a) H1))
theorem UH {X:Cx} {tg l:Expr} {tl:TE} (hl:PE X l tl):PI X tg l (iSeq X.K tl):=by
 intro pins s σ H R I h;refine B6 (hl (pins:=pins) s σ H _ I h) fun v s1 ⟨x,H1,I1,r1,q1⟩=>?_
 obtain ⟨a,e,q1⟩:=q1;subst e;cases r1
 have fp:∀ b ∈ [s1.heap.objs.size],Ek X pins H1 b:=fun b hb=>by
  have e:b=s1.heap.objs.size:=by simpa using hb
  subst e;exact I1.fpOk (Zb _) (I1.hok.fresh (Zb _))
 rcases q1 with ⟨⟨xs,hq⟩,q⟩ | ⟨⟨xs,hq⟩,q⟩
 ·obtain ⟨Ap,rv,p,hz⟩:=I1.list hq;refine wpAny_pyIter_list p.isList ?_;exact ⟨s1.heap.objs.size,[s1.heap.objs.size],_,_,H1,rfl,I1.kept (t':=s1.toks) fun b o e=>YW _ e,JE a _,⟨_,Zf _ rfl,rfl,rfl⟩,fp,q⟩
 ·obtain ⟨Ap,rv,p,hz⟩:=I1.tuple hq;refine wpAny_pyIter_tuple (show s1.heap.IsTuple a Ap.toArray from p) ?_;exact ⟨s1.heap.objs.size,[s1.heap.objs.size],_,_,H1,rfl,I1.kept (t':=s1.toks) fun b o e=>YW _ e,HY a _,⟨_,Zf _ rfl,rfl,rfl⟩,fp,q⟩
structure Nb (J:It) (xs:List V) (S:Hp->Prop):Prop where
 go:∀ i H,S H->i < xs.length->J.go i H
 yld:∀ i H x H',S H->J.yld i H x H'->H'=H/\xs[i]? = some x
 stop:∀ H,S H->J.stop xs.length H
theorem Cb {K:YX} {a:Addr} {xs:List V}:Nb (Qb K a) xs (fun H=>A9 K H a xs):=
 ⟨fun i H q Bv=>⟨xs,xs[i],q,by simp [Bv]⟩,fun i H x H' q y=>⟨y.1,y.2 xs q⟩,fun H q=>⟨xs,q,Zb _⟩⟩
theorem BU {K:YX} {a:Addr} {xs:List V}:Nb (Qa K a) xs (fun H=>AF K H a xs):=
 ⟨fun i H q Bv=>⟨xs,xs[i],q,by simp [Bv]⟩,fun i H x H' q y=>⟨y.1,y.2 xs q⟩,fun H q=>⟨xs,q,Zb _⟩⟩
theorem BI {J:It} {xs:List V} {S:Hp->Prop} {g:TG} {te:TE} {H:Hp} {σ0:St} {R:Addr->Hp->Prop} (ov:Nb J xs S) (I:Addr->Nat->St->Hp->List V->Prop) (big:xs.length < sizeLine)
  (h0:∀ D,H D=none->I D 0 σ0 (upd H D (.lst [])) [])
  (hs:∀ D i σ H' acc,H D=none->I D i σ H' acc->S H'/\H' D=some (.lst acc)/\acc.length=i)
  (turn:∀ D i σ H' acc x (B:St->V->Hp->Prop),H D=none->xs[i]? = some x->I D i σ H' acc->(∀ Ay v H5,H5 D=some (.lst acc)->I D (i + 1) Ay (upd H5 D (.lst (acc ++ [v]))) (acc ++ [v])->B Ay v H5)->g x σ H' fun Ay H3=>te Ay H3 (B Ay))
  (fin:∀ D σ H' acc,H D=none->I D xs.length σ H' acc->R D H') :
  ∀ D,H D=none->∃ W:Nat->Nat->St->Hp->Prop,(∃ m,W 0 m σ0 (upd H D (.lst []))) /\
   ∀ i m As H',W i m As H'->(J.stop i H'/\R D H')\/(J.go i H'/\∀ x H2,J.yld i H' x H2->g x As H2 fun Ay H3=>Kx Ay H3 fun b H4=>
    if b=true then te Ay H4 (fun v H5=>∃ acc,H5 D=some (.lst acc)/\acc.length < sizeLine/\∃ m',m' < m/\W (i + 1) m' Ay (upd H5 D (.lst (acc ++ [v])))) else ∃ m',m' < m/\W (i + 1) m' Ay H4):=by
 intro D hD;exists fun i m σ H'=>m=xs.length - i/\i<=xs.length/\∃ acc,I D i σ H' acc,⟨xs.length,rfl,Z7 _,[],h0 D hD⟩
 rintro i m σ H' ⟨rfl,hi,acc,p⟩;obtain ⟨s1,s2,s3⟩:=hs D i σ H' acc hD p;by_cases Bv:i < xs.length
 ·refine .inr ⟨ov.go i H' s1 Bv,fun x H2 y=>?_⟩;obtain ⟨rfl,ex⟩:=ov.yld i H' x H2 s1 y;have e:∀ (F:St->V->Hp->Prop) (G:St->Hp->Prop),(fun (Ay:St) (H3:Hp)=>Kx Ay H3 fun b H4=>if b=true then te Ay H4 (F Ay) else G Ay H4)=fun Ay H3=>te Ay H3 (F Ay):=by
   intro F G;funext Ay H3;show (if true=true then te Ay H3 (F Ay) else G Ay H3)=_
   rw [if_pos rfl]
  rw [e (fun Ay v H5=>∃ acc,H5 D=some (.lst acc)/\acc.length < sizeLine/\∃ m',m' < xs.length - i/\(m'=xs.length - (i + 1)/\i + 1<=xs.length/\∃ Jk,I D (i + 1) Ay (upd H5 D (.lst (acc ++ [v]))) Jk)) (fun Ay H4=>∃ m',m' < xs.length - i/\(m'=xs.length - (i + 1)/\i + 1<=xs.length/\∃ Jk,I D (i + 1) Ay H4 Jk))];refine turn D i σ H2 acc x _ hD ex p fun Ay v H5 d5 p5=>?_
  exact ⟨acc,d5,by lia,xs.length - (i + 1),by lia,rfl,Bv,_,p5⟩
 ·have e:i=xs.length:=by lia
  subst e;exact .inl ⟨ov.stop H' s1,fin D σ H' acc hD p⟩
abbrev BJ:=Str × Int
def G5 (u:BJ):PyData:=.tuple [.str u.1,.int u.2]
structure ES (xs:List Str) (lo:Int) (rs:List BJ):Prop where
 sub:∀ r ∈ rs,r.1 ∈ xs
 nd:(rs.map (·.1)).Nodup
 lo:∀ r ∈ rs,lo<=r.2/\r.2 < 10 ^ 30
 one:1<=rs.length
theorem QP {H:Hp} {v:V} {u:BJ} (h:GW H v (G5 u)):∃ t,v=.ref t/\H t=some (.tup [.str u.1,.int u.2]):=by
 unfold G5 at h;cases h with
 | tup ha hd=>
  cases hd with
  | cons h1 r1=>
   cases r1 with
   | cons h2 r2=>
    cases r2
    cases h1
    cases h2
    exact ⟨_,rfl,ha⟩
theorem N1 {H:Hp} {t:Addr} {u:BJ} (h:H t=some (.tup [.str u.1,.int u.2])):GW H (.ref t) (G5 u):=.tup h (.cons (.str _) (.cons (.int _) .nil))
theorem BH {H2 H3:Hp} {vs:List V} {rs:List BJ} (h:Bt H2 vs (rs.map G5)) (ht:∀ b xs,H2 b=some (.tup xs)->H3 b=some (.tup xs)):Bt H3 vs (rs.map G5):=by
 induction rs generalizing vs with
 | nil=>cases h; exact .nil
 | cons u rs ih=>
  cases h with
  | cons h1 r=>
   obtain ⟨t,rfl,e⟩:=QP h1;exact .cons (N1 (ht _ _ e)) (ih r)
theorem C2 {H:Hp}:∀ {vs:List V} {rs:List BJ} {i:Nat} {x:V},Bt H vs (rs.map G5)->vs[i]? = some x->∃ u t,rs[i]? = some u/\x=.ref t/\H t=some (.tup [.str u.1,.int u.2])
 | _,[],i,x,.nil,e=>by simp at e
 | _,u :: rs,0,x,.cons h r,e=>by
  simp only [ZS,Zo.injEq] at e;subst e;obtain ⟨t,rfl,q⟩:=QP h;exact ⟨u,t,rfl,rfl,q⟩
 | _,u :: rs,i + 1,x,.cons h r,e=>by
  obtain ⟨u',t,a,b,c⟩:=C2 r (by simpa using e);exact ⟨u',t,by simpa using a,b,c⟩
theorem BR {H:Hp}:∀ {vs:List V} {rs:List BJ},Bt H vs (rs.map G5)->vs.length=rs.length
 | _,[],.nil=>rfl
 | _,u :: rs,.cons h r=>by rw [Z4,Z4,BR r]
def Lim (x:V) (d:PyData):Prop:=(x=.non/\d=.none)\/∃ i:Int,x=.int i/\d=.int i/\1<=i/\i < 10 ^ 30
end L2
namespace L2
open PySem PySem.Spec PySem.W PyProof.Rows
theorem Nk {X:Cx} {pins:List (Addr × Obj)} {σ:St} {H:Hp} {s:Shared} (I:An X pins σ H s) {kd:Nat->Bool}:∀ {vs:List V} {Ap:List Value},A5 vs Ap->(∀ v ∈ vs,MT H kd v)->∀ u ∈ Ap,Mi s.heap kd u
 | _,_,.nil,_,_,hu=>nomatch hu
 | _,_,.cons r1 r2,hk,u,hu=>by
  rcases Zg.mp hu with rfl | hu
  ·exact (Qt I r1 (hk _ Zq)).1
  ·exact Nk I r2 (fun v hv=>hk v (Zv _ hv)) u hu
end L2
namespace L2
open PySem PySem.Spec PyProof.Rows
theorem Ox.keepT {H H':Hp} {m:Addr} {n:Nat} {xs:List Str} {ws:List A8} (h:Ox H m n xs ws) (t:∀ b ys,H b=some (.tup ys)->H' b=some (.tup ys)):Ox H' m n xs ws:=by
 obtain ⟨ta,tb,vs,a,b,c,e⟩:=h.ex;exact ⟨⟨ta,tb,vs,t _ _ a,t _ _ b,t _ _ c,FN e t⟩,h.len,h.nd,h.nm,h.wl,h.wn⟩
theorem Mp {x y x' y':Str} (p:[x',y'].Perm [x,y]) (h:sortedS [x',y']=true):x'=BK x y/\y'=BL x y:=by
 have h1:=C5 h;have h2:[BK x y,BL x y].Pairwise fun a b=>¬ b.cps.toList < a.cps.toList:=by
  refine List.pairwise_pair.mpr ?_;unfold BK BL;by_cases a:y.cps.toList < x.cps.toList
  ·rw [if_pos a,if_neg (fun z=>Cj _ (aq a z))];exact fun z=>Cj _ (aq a z)
  ·rw [if_neg a];by_cases b:x.cps.toList < y.cps.toList
   ·rw [if_pos b];exact a
   ·rw [if_neg b];exact Cj _
 have p2:[BK x y,BL x y].Perm [x,y]:=by
  unfold BK BL;by_cases a:y.cps.toList < x.cps.toList
  ·rw [if_pos a,if_neg (fun z=>Cj _ (aq a z))];exact .swap _ _ _
  ·rw [if_neg a];by_cases b:x.cps.toList < y.cps.toList
   ·rw [if_pos b]
   ·rw [if_neg b];have e:x=y:=Cy a b;rw [e]
 have e:=G4 h1 h2 (p.trans p2.symm);simp only [aY.injEq,and_true] at e;exact e
structure FG (H:Hp) (m:Addr) (n:Nat) (ps:List Str) (ws:List A8):Prop where
 at':Ox H m n ps ws
 dr:∃ (xs:List Str) (Ux:List A8),ps.Perm xs/\ws.Perm (Ux.map EA)/\F1 xs Ux
 so:sortedS ps=true
 l64:ws.length < 64
theorem FG.web {H:Hp} {m:Addr} {n:Nat} {ps:List Str} {ws:List A8} (h:FG H m n ps ws) (n1:1<=n) (n30:n<=30) :
  ∃ r,Jl H m ps ws r/\(∀ u ∈ ws,1<=u.2.2)/\(∀ x y l l',BY ws x y l->BY ws x y l'->l=l'):=by
 obtain ⟨xs,Ux,pp,wp,wof,sep,jn⟩:=h.dr;have pl:0 < ps.length:=by rw [h.at'.len]; lia
 have hr0:ps[0] ∈ xs:=pp.mem_iff.mp (ZQ pl);have en:=fun x y l=>Ki wp x y l
 refine ⟨ps[0],⟨⟨h.at'.ex⟩,h.at'.nd,by rw [h.at'.len]; lia,h.l64,fun u hu=>?_,YU pl,fun Sp hs hcl z hz=>?_⟩,fun u hu=>(h.at'.wn u hu).2.2.1,fun x y l l' e1 e2=>PM sep ((en x y l).mp e1) ((en x y l').mp e2)⟩
 ·obtain ⟨q1,q2⟩:=Kh wp (fun u hu=>⟨(wof u hu).1,(wof u hu).2.1⟩) u hu;exact ⟨pp.mem_iff.mpr q1,pp.mem_iff.mpr q2⟩
 ·exact KZ.all jn Sp (fun b c hbc=>hcl b c ((RS wp b c).mpr hbc)) hr0 hs z (pp.mem_iff.mp hz)
theorem IQ:∀ {ns:List Int} {us:List Value},A5 (ns.map V.int) us->∃ ts:List (Int × Tok),us=ts.map (fun p=>Value.int p.1 p.2)/\ts.map (·.1)=ns
 | [],_,.nil=>⟨[],rfl,rfl⟩
 | n :: ns,_,.cons r q=>by
  obtain ⟨t,rfl⟩:=r;obtain ⟨ts,rfl,e⟩:=IQ q;exact ⟨(n,t) :: ts,rfl,by rw [Zr,e]⟩
theorem D6 {X:Cx} (hc:X.calm=true):Bi X (.builtin "sum") (fun xs H Q=>∃ (a:Addr) (ns:List Int),xs=[.ref a]/\A9 X.K H a (ns.map V.int)/\Q (.int ns.sum) H):=by
 intro pins s σ H xs us Q I r h;obtain ⟨a,ns,rfl,ha,q⟩:=h;obtain ⟨u,rfl,ru⟩:=Cf r;cases ru
 obtain ⟨Ap,rv,pl,hz⟩:=I.list ha;obtain ⟨ts,rfl,e⟩:=IQ rv;have hl:s.heap.IsList a (intItems ts.toArray):=by
  have:=pl.isList;unfold intItems;simpa using this
 refine sum_intListG (I.ok.hd hc) hl fun h' tk t' kk=>?_
 refine ⟨.int ns.sum,H,I.kept (t':=tk) kk,⟨t',?_⟩,q⟩;have:preSum (numAt ts.toArray) ts.toArray.size=ns.sum:=by
  rw [preSum_eq,bE (by simp),<-e]
 rw [this]
theorem Jx:typeLookup (.type "tuple") "keys"=pure none:=by rw [typeLookup_type,builtinLookup_eq_fast]; kernel_rfl
theorem OC {prog:Program} {w:World} {A:Around} {E:Value->Shared->Prop} {s:Shared} {a:Addr} {o:Obj} {xs:Array Value} {k:Nat} {Q:Option Value->Shared->Prop}
  (hx:s.heap.get? a=some o) (hc:o.cls=.type "tuple") (hdat:o.data=.seq xs k) (hd:o.dict=none) (hA:A.handled=none)
  (h:∀ h' tk,(∀ b ob,s.heap.get? b=some ob->h'.get? b=some ob)->Q none { s with heap:=h',toks:=tk }):wpAny (model prog w) A (getAttr? (.ref a) "keys") Q E s:=by
 obtain ⟨c,dct,dat,sl⟩:=o;simp only at hc hdat hd;subst hc hdat hd;obtain ⟨hp,g,d,tk,os⟩:=s;have hT:∀ Qv,(⟨hp,g,d,Qv,os⟩:Shared).TypeIs (.ref a) "tuple":=fun _=>⟨_,hx,rfl⟩
 have f1:=sub_AttributeError;have f3:=F.slot_tuple_getattribute.lookup;have f4:=F.slot_tuple_getattribute.bind (.ref a);have f5:=am_tuple_getattr_none;unfold getAttr? getAttrBy? getAttrBy;repeat (any_goals (first | assumption | exact hT _ | ((with_reducible show wpAny _ _ (call (Value.builtin "tuple.__getattribute__") _ _) _ _ _); refine call_meets F.slot_tuple_getattribute (hT _) am_entry_tuple_getattribute (F.args_tuple_getattribute_2 _ _) (meets_getattribute_miss_tuple a xs k sl "keys" _ Jx (by decide +kernel) (by decide +kernel)) ⟨hx,hA,fun h' Qv e La=>?_⟩) | wp_step))
 obtain ⟨t',u',he⟩:=La.there;show wpAny _ _ (getattributeRaised _ _ _ _ _ _ _) _ _ _
 unfold getattributeRaised;have hE:∀ Qv,(⟨h',g,d,Qv,os⟩:Shared).TypeIs (.ref e) "AttributeError":=fun _=>⟨_,he,rfl⟩
 repeat (any_goals (first | assumption | exact hE _ | wp_step))
 exact h _ _ La.keeps
section
variable {prog:Program} {w:World} {A:Around} {R:Result->Shared->Prop} {g0:Heap} {D it l:Addr} {vs:List Value} {ps:List (Str × V)}
theorem O6 (hh:A.handled=none) (nI:it ≠ D) (nl:l ≠ it/\l ≠ D) (g1:∀ b o,g0.get? b=some o->b ≠ it/\b ≠ D) (hl:vs.length=ps.length) (rows:∀ (i:Nat) v p,vs[i]? = some v->ps[i]? = some p->Ut g0 v p) (hsz:ps.length < sizeLine) :
  ∀ (m i:Nat) (s:Shared) (kvs:List (A4 × V)) (us:List (A4 × Value)),ps.length - i=m->i<=ps.length->s.heap.IsTupleIter it l i->s.heap.IsTuple l vs.toArray->KV kvs us->kvs.length<=i->s.heap.DictOf (A2 prog w) D us->(∀ b o,g0.get? b=some o->s.heap.get? b=some o) ->
   (∀ h' tk Lj,KV (IE kvs (sK (ps.drop i))) Lj->h'.DictOf (A2 prog w) D Lj->(∀ b o,b ≠ it->b ≠ D->s.heap.get? b=some o->h'.get? b=some o)->R (.ok (.ret .none)) { s with heap:=h',toks:=tk }) ->
   codeAny (model prog w) A (.builtin "dict.update.loop" ⟨[.ref D,.ref it,.int (i:Int) 0,.none],[]⟩) R s:=by
 intro m;induction m with
 | zero=>
  intro i s kvs us hm hi st hL kv kl dd gk r;have e:i=ps.length:=by lia
  refine codeAny_builtin C1 ?_;rw [Around.under_plainId Be _];unfold Builtin.«dict.update.loop»;refine wpAny_bind (wpAny_pyNext_tuple_end hh st hL (by simp; lia) fun h' eb=>?_);refine wpAny_bind (wpAny_pure (wpAny_pure ?_));have J2:h'.DictOf (A2 prog w) D us:=dd.at fun o q=>eb D o (Ne.symm nI) q
  refine r h' s.toks us ?_ J2 fun b o b1 b2 q=>eb b o b1 q
  rw [e,List.drop_length];exact kv
 | succ m ih=>
  intro i s kvs us hm hi st hL kv kl dd gk r;have Bv:i < ps.length:=by lia
  have ev:vs[i]? = some (vs[i]'(by lia)):=YU (by lia);have ep:ps[i]? = some ps[i]:=YU Bv;obtain ⟨a,t,u,e1,ht,ru⟩:=rows i _ _ ev ep;rw [e1] at ev;refine codeAny_builtin C1 ?_;rw [Around.under_plainId Be _];unfold Builtin.«dict.update.loop»;refine wpAny_bind (wpAny_pyNext_tuple_item st hL (x:=.ref a) (by simpa using ev) fun h' AQ sb=>?_);obtain ⟨o,ho,hc,n,hd⟩:=id ht;have ha:=(sb.2 a (g1 a o ho).1).trans (gk a o ho);have J2:h'.DictOf (A2 prog w) D us:=dd.at fun o q=>(sb.2 D (Ne.symm nI)).trans q
  have L':h'.IsTuple l vs.toArray:=by
   obtain ⟨ol,hol,rl⟩:=hL;exact ⟨ol,(sb.2 l nl.1).trans hol,rl⟩
  refine wpAny_bind (wpAny_holding ?_);refine wpAny_bind (wpAny_tryCatch ?_);unfold Builtin.Dict.pairItems;refine wpAny_bind (wpAny_typeOf (T:="tuple") ⟨o,ha,hc⟩ ?_);rw [if_pos (by decide)];refine wpAny_bind (wpAny_seqItems ha hd (wpAny_pure ?_));show wpAny _ A.in1 (holding [Value.str ps[i].1 t,u] (dictSet D (Value.str ps[i].1 t) u)) _ _ _
  have Uy:us.length<=sizeLine:=by rw [<-kv.length]; lia
  refine wpAny_holding (wpAny_dictSet_pairs (k:=Sum.inr ps[i].1) (hsz:=Uy) (Hq prog w _ t) J2 fun h2 Ma S5=>?_);have ki:((i:Int) + 1)=((i + 1:Nat):Int):=by lia
  refine wpAny_pure ⟨plainId_quiet Be _,?_⟩;show codeAny (model prog w) A (.builtin "dict.update.loop" ⟨[.ref D,.ref it,.int ((i:Int) + 1) 0,.none],[]⟩) R _
  rw [ki];have kl2:=Cv kvs (Sum.inr ps[i].1:A4) ps[i].2;have Yg:h2.IsTupleIter it l (i + 1):=by
   obtain ⟨oi,hoi,ri⟩:=AQ;exact ⟨oi,(S5.2 it nI).trans hoi,ri⟩
  refine ih (i + 1) _ (Bp kvs (Sum.inr ps[i].1) ps[i].2) _ (by lia) Bv Yg ?_ (kv.put (Sum.inr ps[i].1) ru) (by lia) Ma (fun b ob q=>(S5.2 b (g1 b ob q).2).trans ((sb.2 b (g1 b ob q).1).trans (gk b ob q))) fun h3 Su us3 kv3 YL k3=>?_
  ·obtain ⟨ol,hol,rl⟩:=L';exact ⟨ol,(S5.2 l nl.2).trans hol,rl⟩
  ·refine r h3 Su us3 ?_ YL fun b ob b1 b2 q=>k3 b ob b1 b2 ((S5.2 b b2).trans ((sb.2 b b1).trans q))
   have ed:ps.drop i=ps[i] :: ps.drop (i + 1):=(List.drop_eq_getElem_cons Bv)
   rw [ed];exact kv3
end
section
variable {prog:Program} {w:World} {A:Around} {E:Value->Shared->Prop} {s:Shared}
theorem HM {l:Addr} {vs:List Value} {ps:List (Str × V)} {Q:Value->Shared->Prop} (hh:A.handled=none) {ol:Obj} {nl:Nat} (hl:s.heap.get? l=some ol) (hc:ol.cls=.type "tuple") (hd:ol.data=.seq vs.toArray nl) (hdc:ol.dict=none)
  (hlen:vs.length=ps.length) (rows:∀ (i:Nat) v p,vs[i]? = some v->ps[i]? = some p->Ut s.heap v p) (hsz:ps.length < sizeLine)
  (h:∀ h' tk us,KV (IE [] (sK ps)) us->h'.DictOf (A2 prog w) s.heap.objs.size us->(∀ b o,s.heap.get? b=some o->h'.get? b=some o)->Q (.ref s.heap.objs.size) { s with heap:=h',toks:=tk }):wpAny (model prog w) A (call (.type "dict") [.ref l]) Q E s:=by
 refine callType_codes (Q₁:=fun obj AJ=>obj=.ref s.heap.objs.size/\AJ = { s with heap:=s.heap.push { cls:=.type "dict",data:=.dict #[] } }) F.kt_called_dict (F.kt_typeCall_dict_1 _) F.entry_dict_init (kt_code_dict_new _ ⟨rfl,rfl⟩) ?_;rintro obj AJ ⟨rfl,rfl⟩;have hnew:(s.heap.push { cls:=.type "dict",data:=.dict #[] }).DictOf (A2 prog w) s.heap.objs.size []:=Heap.DictOf.new s.heap;have R6:(s.heap.push { cls:=.type "dict",data:=.dict #[] }).get? l=some ol:=YW _ hl;exists hnew.typeIs,F.args_dict_init_2 _ _;unfold Builtin.«dict.__init__»;refine wpAny_bind ?_;unfold Builtin.Dict.selfAndRest;refine wpAny_bind (wpAny_notOrdered_dict hnew.typeIs ?_);show wpAny _ _ (pure (s.heap.objs.size,[Value.ref l])) _ _ _
 refine wpAny_pure ?_;show wpAny _ _ (Builtin.Dict.updateFrom "dict.__init__" s.heap.objs.size (.ref l) [] .none) _ _ _
 unfold Builtin.Dict.updateFrom;refine wpAny_bind (wpAny_typeOf (T:="tuple") ⟨ol,R6,hc⟩ ?_);rw [if_pos (by decide)];refine wpAny_bind (OC R6 hc hd hdc hh fun h1 tk1 k1=>?_);simp only [dh,if_true];refine wpAny_bind (wpAny_rule ?_);have MK:h1.IsTuple l vs.toArray:=⟨ol,k1 _ _ R6,hc,nl,hd⟩
 refine wpAny_bind (wpAny_pyIter_tuple MK ?_);have old:∀ b o,s.heap.get? b=some o->h1.get? b=some o:=fun b o q=>k1 b o (YW _ q)
 obtain ⟨od,esd,epd,hod,rd⟩:=id hnew;have RD:=k1 _ _ hod;have ltD:=Zc RD;have ltl:=Zc (k1 _ _ R6);refine wpAny_pure ⟨plainId_quiet Be _,?_⟩;refine O6 (A:=A.in1) (g0:=s.heap) (D:=s.heap.objs.size) (it:=h1.objs.size) (l:=l) (vs:=vs) (ps:=ps) hh (ZO ltD) ⟨Zh ltl,Zh (Zc hl)⟩ (fun b o q=>⟨Zh (Zc (old b o q)),Zh (Zc q)⟩) hlen rows hsz _ 0 { s with heap:=h1.push { cls:=.type "tuple_iterator",data:=.fields #[.ref l,.int 0 0] },toks:=tk1 } [] [] rfl (Z7 _)
  ⟨_,Zf _ rfl,rfl,rfl⟩ (MK.push _) .nil (Zb _) ⟨od,esd,epd,YW _ RD,rd⟩ (fun b o q=>YW _ (old b o q)) fun h' tk us kv dd kk=>?_
 rw [List.drop_zero] at kv;exact ⟨rfl,h h' tk us kv dd fun b o q=>kk b o (Zh (Zc (old b o q))) (Zh (Zc q)) (YW _ (old b o q))⟩
end
theorem DK {X:Cx} (hc:X.calm=true):Bi X (.type "dict") (fun xs H Q=>∃ (a:Addr) (vs:List V) (ps:List (Str × V)),xs=[.ref a]/\H a=some (.tup vs)/\vs.length=ps.length/\(∀ (i:Nat) v p,vs[i]? = some v->ps[i]? = some p->∃ t,v=.ref t/\H t=some (.tup [.str p.1,p.2]))/\(ps.map (·.1)).Nodup/\ps.length < 1000 /\
  ∀ D,H D=none->Q (.ref D) (upd H D (.dK (sK ps)))):=by
 intro pins s σ H xs us Q I r h;obtain ⟨a,vs,ps,rfl,ha,hl,hk,hn,h1000,q⟩:=h;obtain ⟨u,rfl,ru⟩:=Cf r;cases ru
 obtain ⟨hz,Ap,rv,⟨o,ho,Ht,n,hdat⟩,dn⟩:=(show A6 X.prog X.w H s.heap a (.tup vs) from I.hok a _ ha)
 have Lb:=dn o ho;have il:Ap.length=ps.length:=by rw [<-rv.length,hl]
 have big:1000 < sizeLine:=by decide
 refine HM (I.ok.hd hc) (ps:=ps) ho Ht hdat Lb il (fun i v p e1 e2=>?_) (by lia) fun h' tk us kv dd kk=>?_
 ·have hi:i < Ap.length:=(YZ.mp e1).1;have e3:vs[i]? = some vs[i]:=YU (by lia);obtain ⟨v',e4,r4⟩:=rv.get e3;rw [e1] at e4;cases e4
  obtain ⟨t,e5,ht⟩:=hk i _ p e3 e2;rw [e5] at r4;cases r4
  obtain ⟨MC,XE,XG,_⟩:=I.tuple (AF.of ht);cases XE with
  | cons x1 y1=>
   cases y1 with
   | cons x2 y2=>
    cases y2
    obtain ⟨t1,rfl⟩:=x1;exact ⟨t,t1,_,rfl,XG,x2⟩
 ·have em:IE [] (sK ps)=sK ps:=LI ps [] (by simpa using hn);rw [em] at kv;refine ⟨.ref s.heap.objs.size,_,I.laid (a:=s.heap.objs.size) (o:=.dK (sK ps)) (t':=tk) kk (Zb _) (KU (by rw [CL]; lia) (beq_eq_false_iff_ne.mpr (Ne.symm (Zh I.big))) kv dd),rfl,q _ (I.hok.fresh (Zb _))⟩
theorem Ov {k:Int} (h1:-(2 ^ 300) < k) (h2:k < 2 ^ 300):Builtin.Int.intBits k<=2 ^ 20:=by
 unfold Builtin.Int.intBits;split
 ·exact Z7 _
 ·have hn:k.natAbs < 2 ^ 300:=by lia
  have:k.natAbs.log2 < 300:=by
   rcases bX k.natAbs with h0 | hp
   ·rw [h0]; decide
   ·exact (Nat.log2_lt (by lia)).mpr hn
  lia
def CMulB (i j:Int):Prop:=(-(2 ^ 300) < i/\i < 2 ^ 300)/\(-(2 ^ 300) < j/\j < 2 ^ 300)
theorem NO {X:Cx}:Et X (binaryOp .Mult) (rI CMulB fun i j=>.int (i * j)):=opI fun _ _ _ _ _ _ _ hc q=>mul_int q (IntMulOk.of_bits (Ov hc.1.1 hc.1.2) (Ov hc.2.1 hc.2.2))
structure Dv (H:Hp) (c m:Addr) (n:Nat) (xs:List Str) (ws:List A8) (rs1 Av:List BJ) (x:V) (d:PyData):Prop where
 ex:∃ (t1 t2:Addr) (Fm Js:List V),H c=some (.tup [.ref m,.ref t1,.ref t2,x])/\H t1=some (.tup Fm)/\Bt H Fm (rs1.map G5)/\H t2=some (.tup Js)/\Bt H Js (Av.map G5)
 map:FG H m n xs ws
 n1:1<=n
 n30:n<=30
 ok1:ES xs 0 rs1
 ok2:ES xs 1 Av
 l1:rs1.length<=10
 l2:Av.length<=30
 lim:Lim x d
theorem FG.keepT {H H':Hp} {m:Addr} {n:Nat} {xs:List Str} {ws:List A8} (h:FG H m n xs ws) (t:∀ b ys,H b=some (.tup ys)->H' b=some (.tup ys)):FG H' m n xs ws:=⟨h.at'.keepT t,h.dr,h.so,h.l64⟩
theorem Dv.keepT {H H':Hp} {c m:Addr} {n:Nat} {xs:List Str} {ws:List A8} {rs1 Av:List BJ} {x:V} {d:PyData} (h:Dv H c m n xs ws rs1 Av x d) (t:∀ b ys,H b=some (.tup ys)->H' b=some (.tup ys)):Dv H' c m n xs ws rs1 Av x d:=by
 obtain ⟨t1,t2,Fm,Js,a,b,e,f,g⟩:=h.ex;exact ⟨⟨t1,t2,Fm,Js,t _ _ a,t _ _ b,BH e t,t _ _ f,BH g t⟩,h.map.keepT t,h.n1,h.n30,h.ok1,h.ok2,h.l1,h.l2,h.lim⟩
theorem Dv.same {H H':Hp} {c m:Addr} {n:Nat} {xs:List Str} {ws:List A8} {rs1 Av:List BJ} {x:V} {d:PyData} (h:Dv H c m n xs ws rs1 Av x d) (s:Au H H'):Dv H' c m n xs ws rs1 Av x d:=h.keepT fun b ys z=>s _ _ z
def VD (xs ss:List Str):Prop:=ss ≠ []/\ss.Nodup/\∀ s ∈ ss,s ∈ xs
def AO (rs:List BJ) (h:Str):Int:=((rs.find? fun r=>decide (r.1=h)).map (·.2)).getD 0
theorem Eg {rs:List BJ} (h:(rs.map (·.1)).Nodup) {r:BJ} (hr:r ∈ rs):AO rs r.1=r.2:=by
 induction rs with
 | nil=>exact nomatch hr
 | cons q rs ih=>
  rw [Zr,Z3] at h;unfold AO;rw [aA];by_cases e:q.1=r.1
  ·rw [decide_eq_true e];rcases Zg.mp hr with z | z
   ·rw [z]; rfl
   ·exact absurd (Zd.mpr ⟨_,z,e.symm⟩) h.1
  ·rw [decide_eq_false e];rcases Zg.mp hr with z | z
   ·rw [z] at e; exact absurd rfl e
   ·exact ih h.2 z
def DE (rs:List BJ):List (Str × V):=rs.map fun r=>(r.1,.int r.2)
theorem Fc (rs:List BJ):(DE rs).map (·.1)=rs.map (·.1):=by unfold DE; rw [ZA]; rfl
theorem Nz {H:Hp} {us:List V} {rs:List BJ} (h:Bt H us (rs.map G5)):∀ (i:Nat) v p,us[i]? = some v->(DE rs)[i]? = some p->∃ t,v=.ref t/\H t=some (.tup [.str p.1,p.2]):=fun i v p e1 e2=>by
 obtain ⟨u,t,eu,rfl,ht⟩:=C2 h e1;unfold DE at e2;rw [Ze,eu] at e2;cases e2
 exact ⟨t,rfl,ht⟩
section
variable {prog:Program} {w:World} {A:Around} {E:Value->Shared->Prop} {s:Shared}
end
section
variable {prog:Program} {w:World} {A:Around} {E:Value->Shared->Prop} {s:Shared}
end
def ET (H:Hp) (A:Addr) (xs:List Str) (ws:List A8):Prop:=∃ (M:Str->Str->Option Int) (c:Nat),MD H A M c/\∀ x ∈ xs,∀ y ∈ xs,∃ n,M x y=some n/\HW ws x y n/\0<=n/\n < 2 ^ 300
theorem ET.same {H H':Hp} {A:Addr} {xs:List Str} {ws:List A8} (h:ET H A xs ws) (s:Au H H'):ET H' A xs ws:=let ⟨M,c,a,b⟩:=h; ⟨M,c,a.same s,b⟩
theorem BS {J:It} {xs:List V} {S:Hp->Prop} {g:TG} {tt:TT} {te:TE} {H:Hp} {σ0:St} {R:Addr->Hp->Prop} (ov:Nb J xs S) (I:Addr->Nat->St->Hp->List V->Prop) (big:xs.length < sizeLine)
  (h0:∀ D,H D=none->I D 0 σ0 (upd H D (.lst [])) [])
  (hs:∀ D i σ H' acc,H D=none->I D i σ H' acc->S H'/\H' D=some (.lst acc)/\acc.length<=i)
  (turn:∀ D i σ H' acc x (B:St->V->Hp->Prop) (N:St->Hp->Prop),H D=none->xs[i]? = some x->I D i σ H' acc->(∀ Ay v H5,H5 D=some (.lst acc)->I D (i + 1) Ay (upd H5 D (.lst (acc ++ [v]))) (acc ++ [v])->B Ay v H5) ->
   (∀ Ay H4,I D (i + 1) Ay H4 acc->N Ay H4)->g x σ H' fun Ay H3=>tt Ay H3 fun b H4=>if b=true then te Ay H4 (B Ay) else N Ay H4)
  (fin:∀ D σ H' acc,H D=none->I D xs.length σ H' acc->R D H') :
  ∀ D,H D=none->∃ W:Nat->Nat->St->Hp->Prop,(∃ m,W 0 m σ0 (upd H D (.lst []))) /\
   ∀ i m As H',W i m As H'->(J.stop i H'/\R D H')\/(J.go i H'/\∀ x H2,J.yld i H' x H2->g x As H2 fun Ay H3=>tt Ay H3 fun b H4=>
    if b=true then te Ay H4 (fun v H5=>∃ acc,H5 D=some (.lst acc)/\acc.length < sizeLine/\∃ m',m' < m/\W (i + 1) m' Ay (upd H5 D (.lst (acc ++ [v])))) else ∃ m',m' < m/\W (i + 1) m' Ay H4):=by
 intro D hD;exists fun i m σ H'=>m=xs.length - i/\i<=xs.length/\∃ acc,I D i σ H' acc,⟨xs.length,rfl,Z7 _,[],h0 D hD⟩
 rintro i m σ H' ⟨rfl,hi,acc,p⟩;obtain ⟨s1,s2,s3⟩:=hs D i σ H' acc hD p;by_cases Bv:i < xs.length
 ·refine .inr ⟨ov.go i H' s1 Bv,fun x H2 y=>?_⟩;obtain ⟨rfl,ex⟩:=ov.yld i H' x H2 s1 y;refine turn D i σ H2 acc x (fun Ay v H5=>∃ acc,H5 D=some (.lst acc)/\acc.length < sizeLine/\∃ m',m' < xs.length - i/\(m'=xs.length - (i + 1)/\i + 1<=xs.length/\∃ Jk,I D (i + 1) Ay (upd H5 D (.lst (acc ++ [v]))) Jk)) (fun Ay H4=>∃ m',m' < xs.length - i/\(m'=xs.length - (i + 1)/\i + 1<=xs.length/\∃ Jk,I D (i + 1) Ay H4 Jk)) hD ex p (fun Ay v H5 d5 p5=>?_) fun Ay H4 p4=>?_
  ·exact ⟨acc,d5,by lia,xs.length - (i + 1),by lia,rfl,Bv,_,p5⟩
  ·exact ⟨xs.length - (i + 1),by lia,rfl,Bv,_,p4⟩
 ·have e:i=xs.length:=by lia
  subst e;exact .inl ⟨ov.stop H' s1,fin D σ H' acc hD p⟩
theorem Q2 {l m:List Int} (p:l.Perm m):l.sum=m.sum:=by
 induction p with
 | nil=>rfl
 | cons x _ ih=>rw [b8,b8,ih]
 | swap x y l=>simp only [b8]; lia
 | trans _ _ Vc Vb=>exact Vc.trans Vb
theorem OG {rs:List BJ} {ss:List Str} (nd:(rs.map (·.1)).Nodup) (snd:ss.Nodup) (sub:∀ s ∈ ss,s ∈ rs.map (·.1)):((rs.filter fun r=>decide (r.1 ∈ ss)).map (·.2)).sum=(ss.map (AO rs)).sum:=by
 have p:((rs.filter fun r=>decide (r.1 ∈ ss)).map (·.1)).Perm ss:=by
  refine E7 ?_ snd fun x=>⟨fun h=>?_,fun h=>?_⟩
  ·exact (List.Sublist.map _ ar).nodup nd
  ·obtain ⟨r,hr,rfl⟩:=Zd.mp h;exact of_decide_eq_true (Zy.mp hr).2
  ·obtain ⟨r,hr,e⟩:=Zd.mp (sub x h);exact Zd.mpr ⟨r,Zy.mpr ⟨hr,by rw [decide_eq_true_eq,e]; exact h⟩,e⟩
 have e:(rs.filter fun r=>decide (r.1 ∈ ss)).map (·.2)=((rs.filter fun r=>decide (r.1 ∈ ss)).map (·.1)).map (AO rs):=by
  rw [ZA];refine aJ fun r hr=>?_
  exact (Eg nd (Zy.mp hr).1).symm
 rw [e];exact Q2 (p.map _)
theorem Bh.app' {ws:List A8} {x y z:Str} {m n:Int} (h:Bh ws x y m) (g:Bh ws y z n):Bh ws x z (m + n):=by
 induction h with
 | nil x=>rw [aa]; exact g
 | cons e _ ih=>rw [bA]; exact .cons e (ih g)
theorem MB {xs:List Str} {ws:List A8} (jn:KZ xs ws) {L:Int} (L0:0<=L) (hL:∀ u ∈ ws,u.2.2<=L) (hp:∀ u ∈ ws,1<=u.2.2) {r:Str} (hr:xs[0]? = some r):∀ (j:Nat) x,xs[j]? = some x->∃ m,Bh ws x r m/\0<=m/\m<=j * L:=by
 intro j;induction j using Nat.strongRecOn with
 | ind j ih=>
  intro x hx;by_cases z:j=0
  ·subst z;rw [hr] at hx;cases hx
   exact ⟨0,.nil _,ZD _,by simp⟩
  ·obtain ⟨u,hu,i,hij,e1,e2⟩:=jn j (by lia) (YZ.mp hx).1;rw [hx] at e2;cases e2
   obtain ⟨m,w,m0,ml⟩:=ih i hij _ e1;have hl:=hL u hu;have hq:=hp u hu;exists u.2.2 + m,.cons ⟨u,hu,.inr ⟨rfl,rfl⟩,rfl⟩ w,by lia
   have:((i:Int) + 1) * L<=j * L:=ae (by lia) L0;rw [eM,Int.one_mul] at this;lia
theorem FG.sums {H:Hp} {m:Addr} {n:Nat} {ps:List Str} {ws:List A8} (h:FG H m n ps ws) (n1:1<=n) (n30:n<=30):∀ x ∈ ps,∀ y ∈ ps,∃ k,Bh ws x y k/\0<=k/\k < 2 ^ 300:=by
 obtain ⟨xs,Ux,pp,wp,wof,sep,jn⟩:=h.dr;have en:=fun x y l=>Ki wp x y l
 have xl:xs.length=n:=by rw [<-pp.length_eq]; exact h.at'.len
 have hr:xs[0]? = some (xs[0]'(by lia)):=YU _;have hL:∀ u ∈ Ux,u.2.2<=10 ^ 30:=fun u hu=>by
  have:=(h.at'.wn (EA u) (wp.mem_iff.mpr (Zd.mpr ⟨u,hu,rfl⟩))).2.2.2;have e:(EA u).2.2=u.2.2:=rfl;lia
 have one:∀ x ∈ ps,∃ k,Bh Ux x (xs[0]'(by lia)) k/\0<=k/\k<=30 * 10 ^ 30:=fun x hx=>by
  obtain ⟨j,hj,ej⟩:=Zm (pp.mem_iff.mp hx);obtain ⟨k,a,b,c⟩:=MB jn (by decide) hL (fun u hu=>(wof u hu).2.2.2) hr j x (by rw [YU hj,ej]);refine ⟨k,a,b,bp c (ae (by lia) (by decide))⟩
 intro x hx y hy;obtain ⟨k1,a1,b1,c1⟩:=one x hx;obtain ⟨k2,a2,b2,c2⟩:=one y hy;have a3:=(Qm en).mpr (Bh.app' a1 a2.symm);exact ⟨k1 + k2,a3,by lia,by lia⟩
theorem Bh.pos' {ws:List A8} (hp:∀ u ∈ ws,1<=u.2.2) {x y:Str} {m:Int} (h:Bh ws x y m):0<=m:=by
 induction h with
 | nil=>exact ZD _
 | cons e _ ih=>obtain ⟨u,hu,_,rfl⟩:=e; have:=hp u hu; lia
theorem FG.bound {H:Hp} {m:Addr} {n:Nat} {ps:List Str} {ws:List A8} (h:FG H m n ps ws) (n1:1<=n) (n30:n<=30) {x y:Str} (hx:x ∈ ps) (hy:y ∈ ps) {k:Int} (d:HW ws x y k):0<=k/\k < 2 ^ 300:=by
 obtain ⟨k',a,_,c⟩:=h.sums n1 n30 x hx y hy;exact ⟨d.1.pos' fun u hu=>(h.at'.wn u hu).2.2.1,dN (d.2 k' a) c⟩
theorem FW.doneW {ws:List A8} {xs:List Str} (he:∀ u ∈ ws,u.1 ∈ xs/\u.2.1 ∈ xs) (ex:∀ x ∈ xs,∀ y ∈ xs,∃ m,Bh ws x y m) {M:Str->Str->Option Int} (h:FW ws xs xs.length M):∀ x ∈ xs,∀ y ∈ xs,∃ n,M x y=some n/\HW ws x y n:=by
 intro x hx y hy;obtain ⟨m,hm⟩:=ex x hx y hy;have low:∀ m,Bh ws x y m->∃ n,M x y=some n/\n<=m:=fun m g=>by
  rcases g.wi he with ⟨rfl,rfl⟩ | g
  ·exact h.diag x hx
  ·refine h.comp x y m ?_;rw [Zu];exact g
 obtain ⟨n,e,_⟩:=low m hm;refine ⟨n,e,h.sound x y n e,fun m' g=>?_⟩;obtain ⟨n',e',l⟩:=low m' g;rw [e] at e';cases e'
 exact l
theorem FG.apart {H:Hp} {m:Addr} {n:Nat} {ps:List Str} {ws:List A8} (h:FG H m n ps ws) {u:A8} (hu:u ∈ ws):u.1 ≠ u.2.1:=by
 obtain ⟨xs,Ux,pp,wp,wof,_⟩:=h.dr;obtain ⟨v,hv,rfl⟩:=Zd.mp (wp.mem_iff.mp hu);have ne:=(wof v hv).2.2.1;show BK v.1 v.2.1 ≠ BL v.1 v.2.1
 unfold BK BL;by_cases a:v.2.1.cps.toList < v.1.cps.toList
 ·rw [if_pos a,if_neg (fun z=>Cj _ (aq a z))];exact fun z=>ne z.symm
 ·rw [if_neg a];by_cases b:v.1.cps.toList < v.2.1.cps.toList
  ·rw [if_pos b]; exact ne
  ·exact absurd (Cy a b) ne
theorem Ky {B:Int} (hB:0<=B):∀ {l:List Int},(∀ t ∈ l,0<=t/\t<=B)->0<=l.sum/\l.sum<=l.length * B
 | [],_=>⟨ZD _,by simp⟩
 | t :: l,h=>by
  obtain ⟨a,b⟩:=Ky hB (l:=l) fun t' ht=>h t' (Zv _ ht)
  obtain ⟨c,d⟩:=h t Zq;rw [b8,Z4];have e:((l.length + 1:Nat):Int) * B=l.length * B + B:=by rw [Int.natCast_add,eM]; simp
  constructor <;> lia
theorem PV {rs:List BJ} {ss xs:List Str} {lo:Int} (ok:ES xs lo rs) (h0:0<=lo) (sub:∀ s ∈ ss,s ∈ rs.map (·.1)) (sl:ss.length<=30):0<=(ss.map (AO rs)).sum/\(ss.map (AO rs)).sum < 2 ^ 500:=by
 have q:=Ky (B:=10 ^ 30) (by decide) (l:=ss.map (AO rs)) fun t ht=>by
  obtain ⟨s,hs,rfl⟩:=Zd.mp ht;obtain ⟨r,hr,rfl⟩:=Zd.mp (sub s hs);rw [Eg ok.nd hr];have:=ok.lo r hr;lia
 rw [YV] at q;have:(ss.length:Int) * 10 ^ 30<=30 * 10 ^ 30:=ae (by lia) (by decide);lia
end L2
namespace L2
open PySem
theorem LR {K:YX} {a:Addr} {xs:List V} {g:TG} {tb:TS} {D:EW} {σ:St} {H:Hp} (Pv:Nat->St->Hp->Prop) (h0:Pv 0 σ H) (hl:∀ i σ H,i<=xs.length->Pv i σ H->AF K H a xs)
  (hs:∀ i x σ H,xs[i]? = some x->Pv i σ H->∀ (rt:VK) (bk:St->Hp->Prop),g x σ H fun Ay H2=>tb ⟨Pv (i + 1),rt,bk,Pv (i + 1)⟩ Ay H2) (hd:∀ σ H,Pv xs.length σ H->D.nx σ H) :
  ∃ W:Nat->Nat->St->Hp->Prop,(∃ m,W 0 m σ H)/\∀ i m σ H,W i m σ H ->
   ((Qa K a).stop i H/\D.nx σ H)\/((Qa K a).go i H/\∃ N:St->Hp->Prop,(∀ As H',N As H'->∃ m',m' < m/\W (i + 1) m' As H')/\∀ x H',(Qa K a).yld i H x H'->g x σ H' fun Ay H2=>tb { D with nx:=N,ct:=N,bk:=D.nx } Ay H2):=
 Oo Pv h0 hl (fun i x σ H hx hp=>hs i x σ H hx hp D.rt D.nx) hd
theorem PJ {a:Addr} {kvs:List (A4 × V)} {o:Obj} {g:TG} {tb:TS} {D:EW} {σ:St} {H:Hp} (Pv:Nat->St->Hp->Prop) (h0:Pv 0 σ H) (hl:∀ i σ H,i<=kvs.length->Pv i σ H->H a=some (.frz o (.dK kvs)))
  (hs:∀ i k v σ H,kvs[i]? = some (k,v)->Pv i σ H->∀ (rt:VK) (bk:St->Hp->Prop),g (kV k) σ H fun Ay H2=>tb ⟨Pv (i + 1),rt,bk,Pv (i + 1)⟩ Ay H2) (hd:∀ σ H,Pv kvs.length σ H->D.nx σ H) :
  ∃ W:Nat->Nat->St->Hp->Prop,(∃ m,W 0 m σ H)/\∀ i m σ H,W i m σ H ->
   ((Uw a kvs o).stop i H/\D.nx σ H)\/((Uw a kvs o).go i H/\∃ N:St->Hp->Prop,(∀ As H',N As H'->∃ m',m' < m/\W (i + 1) m' As H')/\∀ x H',(Uw a kvs o).yld i H x H'->g x σ H' fun Ay H2=>tb { D with nx:=N,ct:=N,bk:=D.nx } Ay H2):=
 RG Pv h0 hl (fun i k v σ H hx hp=>hs i k v σ H hx hp D.rt D.nx) hd
theorem CG {K:YX} {a:Addr} {xs:List V} {g:TG} {tb:TS} {D:EW} {σ:St} {H:Hp} (Pv:Nat->St->Hp->Prop) (h0:Pv 0 σ H) (hl:∀ i σ H,i<=xs.length->Pv i σ H->AF K H a xs)
  (hs:∀ i x σ H,xs[i]? = some x->Pv i σ H->∀ (rt:VK) (bk N:St->Hp->Prop),(∀ σ H,Pv (i + 1) σ H->N σ H)->g x σ H fun Ay H2=>tb ⟨N,rt,bk,N⟩ Ay H2) (hd:∀ σ H,Pv xs.length σ H->D.nx σ H) :
  ∃ W:Nat->Nat->St->Hp->Prop,(∃ m,W 0 m σ H)/\∀ i m σ H,W i m σ H ->
   ((Qa K a).stop i H/\D.nx σ H)\/((Qa K a).go i H/\∃ N:St->Hp->Prop,(∀ As H',N As H'->∃ m',m' < m/\W (i + 1) m' As H')/\∀ x H',(Qa K a).yld i H x H'->g x σ H' fun Ay H2=>tb { D with nx:=N,ct:=N,bk:=D.nx } Ay H2):=
 Oo Pv h0 hl (fun i x σ H hx hp=>hs i x σ H hx hp D.rt D.nx _ fun _ _ z=>z) hd
theorem Kf {K:YX} {a:Addr} {xs:List V} {g:TG} {tb:TS} {D:EW} {σ:St} {H:Hp} (Pv:Nat->St->Hp->Prop) (h0:Pv 0 σ H) (hl:∀ i σ H,i<=xs.length->Pv i σ H->A9 K H a xs)
  (hs:∀ i x σ H,xs[i]? = some x->Pv i σ H->∀ (rt:VK) (bk N:St->Hp->Prop),(∀ σ H,Pv (i + 1) σ H->N σ H)->g x σ H fun Ay H2=>tb ⟨N,rt,bk,N⟩ Ay H2) (hd:∀ σ H,Pv xs.length σ H->D.nx σ H) :
  ∃ W:Nat->Nat->St->Hp->Prop,(∃ m,W 0 m σ H)/\∀ i m σ H,W i m σ H ->
   ((Qb K a).stop i H/\D.nx σ H)\/((Qb K a).go i H/\∃ N:St->Hp->Prop,(∀ As H',N As H'->∃ m',m' < m/\W (i + 1) m' As H')/\∀ x H',(Qb K a).yld i H x H'->g x σ H' fun Ay H2=>tb { D with nx:=N,ct:=N,bk:=D.nx } Ay H2):=
 EF Pv h0 hl (fun i x σ H hx hp=>hs i x σ H hx hp D.rt D.nx _ fun _ _ z=>z) hd
end L2
namespace L2
open PySem PySem.Spec PySem.W PyProof.Rows
end L2
namespace L2
open PySem PySem.Spec PyProof.Rows
theorem Gx.caught {X:Cx} {scope:Scope} {cl:List (Str × Addr)} (clos:closureFor scope X.env=pure cl) (hkind:scope.kind=.function)
  (hnames:∀ y ∈ scope.names,y.2=.local->scope.names.lookup y.1=some .local) (hcl:∀ y ∈ cl,X.env.cells.lookup y.1=some y.2) (hap:cl.Pairwise fun x y=>x.2 ≠ y.2)
  (hfr:∀ y ∈ scope.names,y.2=.free->∃ c,(y.1,c) ∈ cl):Gx X scope cl:=by
 refine ⟨clos,hkind,hnames,fun x c h=>hcl _ h,hap,fun x h=>?_⟩;have key:∀ k,(relabel scope X.env).names.lookup x=some k->k=.cell\/k=.free->(x,NameKind.cell) ∈ scope.names\/∃ c,(x,c) ∈ cl:=by
  intro k e hk;have m:=Dd e;obtain ⟨⟨n,k'⟩,hm,e'⟩:=Zd.mp m;dsimp only at e';by_cases hf:k'=.free
  ·subst hf;have en:n=x:=by
    by_cases hc:(NameKind.free == NameKind.free && X.env.scope.kind == .function && X.env.kindOf n == some .cell)=true
    ·rw [if_pos hc] at e';injection e'
    ·rw [if_neg hc] at e';injection e'
   subst en;exact .inr (hfr _ hm rfl)
  ·have:(k' == NameKind.free)=false:=by
    cases k' <;> first | rfl | exact absurd rfl hf
   rw [this] at e';simp at e';obtain ⟨rfl,rfl⟩:=e';rcases hk with rfl | rfl
   ·exact .inl hm
   ·exact absurd rfl hf
 rcases h with h | h
 ·exact key _ h (.inl rfl)
 ·exact key _ h (.inr rfl)
theorem Az (K:YX) {X:Cx} (h:X.K=K):Bi X (.builtin "len") (fun xs H Q=>∃ p vs,xs=[V.ref p]/\(A9 K H p vs\/AF K H p vs)/\Q (.int vs.length) H):=by subst h; exact Eh
theorem Bq (K:YX) {X:Cx} {tg l:Expr} {tl:TE} (h:X.K=K) (hl:PE X l tl):PI X tg l (Uj K tl):=by subst h; exact K9 hl
theorem AZ (K:YX) {X:Cx} {tg l:Expr} {tl:TE} (h:X.K=K) (hl:PE X l tl):PI X tg l (iTup K tl):=by subst h; exact QY hl
def GtAt (A:Around) (s:Shared) (x y:Value) (b:Bool):Prop:=∀ (prog:Program) (w:World) (E Q:Value->Shared->Prop),Q (.bool b) s->wpAny (model prog w) A (richCompare .Gt x y) Q E s
def KW (h:Heap) (v:Value) (ss:List Str):Prop:=∃ a us,v=.ref a/\IsTup h a us.toArray/\A5 (ss.map V.str) us
def Nd (h:Heap) (v:Value) (k:Int × List Str):Prop:=∃ a l t,v=.ref a/\IsTup h a #[.int k.1 t,.ref l]/\KW h (.ref l) k.2
def CT (k:Int × List Str):List Gy:=.i k.1 :: k.2.map Gy.s
theorem KW.keep {h h':Heap} {v:Value} {p:List Str} (x:KW h v p) (k:∀ b o,h.get? b=some o->h'.get? b=some o):KW h' v p:=by
 obtain ⟨a,us,rfl,⟨o,ho,r⟩,z⟩:=x;exact ⟨a,us,rfl,⟨o,k _ _ ho,r⟩,z⟩
theorem Nd.keep {h h':Heap} {v:Value} {p:Int × List Str} (x:Nd h v p) (k:∀ b o,h.get? b=some o->h'.get? b=some o):Nd h' v p:=by
 obtain ⟨a,l,t,rfl,⟨o,ho,r⟩,z⟩:=x;exact ⟨a,l,t,rfl,⟨o,k _ _ ho,r⟩,z.keep k⟩
theorem JB {us vs:List Value} {xs:List Str} (r1:A5 (xs.map V.str) us) (j:Nat) (hj:j < us.length):∃ t x,xs[j]? = some x/\us[j]=.str x t:=by
 have l1:=r1.length;rw [YV] at l1;have e:(xs.map V.str)[j]? = some (V.str (xs[j]'(by lia))):=by rw [Ze,YU (by lia)]; rfl
 obtain ⟨u,e1,r⟩:=r1.get e;obtain ⟨t,rfl⟩:=r;rw [YU hj] at e1;exact ⟨t,_,YU (by lia),Zo.inj e1⟩
theorem O2 {us:List Value}:∀ {xs ys:List Str},A5 (xs.map V.str) us->A5 (ys.map V.str) us->xs=ys:=by
 induction us with
 | nil=>
  intro xs ys r1 r2;cases xs with
  | nil=>cases ys with | nil=>rfl | cons _ _=>cases r2
  | cons _ _=>cases r1
 | cons u us ih=>
  intro xs ys r1 r2;cases xs with
  | nil=>cases r1
  | cons x xs=>
   cases ys with
   | nil=>cases r2
   | cons y ys=>
    cases r1 with
    | cons a1 b1=>
     cases r2 with
     | cons a2 b2=>
      obtain ⟨t,e⟩:=a1;obtain ⟨t',e'⟩:=a2;rw [e] at e';cases e'
      rw [ih b1 b2]
theorem To {A:Around} {s:Shared} {v w:Value} {xs ys:List Str} (hv:KW s.heap v xs) (hw:KW s.heap w ys) (hu:A.units < cLine):SeqAt.EqAt A s v w (decide (xs=ys)):=by
 obtain ⟨a,us,rfl,ha,r1⟩:=hv;obtain ⟨b,vs,rfl,hb,r2⟩:=hw;by_cases hab:a=b
 ·subst hab;have e:xs=ys:=by
   obtain ⟨o,ho,hc,n,hd⟩:=ha;obtain ⟨o',Jy,Ht,n',Lb⟩:=hb;rw [ho] at Jy;cases Jy
   rw [hd] at Lb;injection Lb with e1 e2;have e3:=congrArg bV e1;simp only at e3;subst e3;exact O2 r1 r2
  rw [decide_eq_true e];intro prog w E Q h;unfold eqBool;refine wpAny_holding ?_;exact wpAny_ite_split (fun _=>wpAny_bind (wpAny_rule (wpAny_pure h))) (fun hn=>absurd (by simp) hn)
 ·have l1:=r1.length;have l2:=r2.length;rw [YV] at l1 l2;have key:=SeqAt.RcAt.tuples (A:=A) (s:=s) (e:=fun j=>xs[j]? == ys[j]?) (show s.heap.IsTuple a us.toArray from ha) (show s.heap.IsTuple b vs.toArray from hb) hu (fun j h1 h2=>by
   obtain ⟨t,x,e1,e2⟩:=JB (vs:=us) r1 j (by simpa using h1);obtain ⟨t',y,e3,e4⟩:=JB (vs:=vs) r2 j (by simpa using h2);rw [di,di,e2,e4,e1,e3];have:=SeqAt.EqAt.str_str x t y t' (A:=A.in1) (s:=s);exact this)
  have e:((aD (min us.toArray.size vs.toArray.size)).all (fun j=>xs[j]? == ys[j]?) && us.toArray.size == vs.toArray.size)=decide (xs=ys):=by
   rw [ag,ZI,aw,decide_eq_true_iff];simp only [bq,Zt,beq_iff_eq];constructor
   ·rintro ⟨h1,h2⟩;refine List.ext_getElem? fun j=>?_
    by_cases hj:j < us.length
    ·exact h1 j (by lia)
    ·rw [cS (by lia),cS (by lia)]
   ·rintro rfl;exact ⟨fun j _=>rfl,by lia⟩
  rw [e] at key;exact SeqAt.EqAt.of_refs hab key
def CmpsG (A:Around) (s:Shared) (z:Bool):List (Value × Value)->Bool->Prop
 | [],r=>r=z
 | p :: C4,r=>∃ e,SeqAt.EqAt A s p.1 p.2 e/\(e=false->GtAt A s p.1 p.2 r)/\(e=true->CmpsG A s z C4 r)
section
open PySem.SeqAt
open PySem.AutoSeq1 (wpAny_loadPart')
open PySem.MeetsSeq PySem.MeetsSeq2 PySem.MeetsSeq3
end
def Kt (A:Around) (s:Shared) (z:Bool):List (Value × Value)->Bool->Prop
 | [],r=>r=z
 | p :: C4,r=>∃ e,SeqAt.EqAt A s p.1 p.2 e/\(e=false->C8 A s p.1 p.2 r)/\(e=true->Kt A s z C4 r)
section
open PySem.SeqAt
open PySem.AutoSeq1 (wpAny_loadPart')
open PySem.MeetsSeq PySem.MeetsSeq2 PySem.MeetsSeq3
theorem OA (l b:Addr) (xs ys:Array Value) (n n2:Nat) (dd Ma:Option Addr) (sl Qc:Array (Option Value)) (r:Bool) :
  Meets (Builtin.«tuple.__lt__» ⟨[.ref l,.ref b],[]⟩)
   (fun A R s=>s.heap.get? l=some { cls:=.type "tuple",dict:=dd,data:=.seq xs n,slots:=sl }/\s.heap.get? b=some { cls:=.type "tuple",dict:=Ma,data:=.seq ys n2,slots:=Qc } /\
    Kt A.in1 s (decide (xs.size < ys.size)) (xs.toList.zip ys.toList) r/\R (.ok (.ret (.bool r))) s):=
 .of_wp fun prog w A R s h=>by
  obtain ⟨hp,g,d,tk,os⟩:=s; obtain ⟨hl,hb,hc,h⟩:=h;have f2:=AutoSeq1.sub_tuple_tuple;wp_walk using wpAny_loadPart' hl,wpAny_loadPart' hb,wpAny_forIn_list _ (fun C4 b s'=>b.1=none/\s'=⟨hp,g,d,tk,os⟩/\Kt A.in1 ⟨hp,g,d,tk,os⟩ (decide (xs.size < ys.size)) C4 r) _
  case turn=>
   rintro ⟨y,x⟩ C4 b s' ⟨Fz,rfl,e,he,h1,h2⟩;refine wpAny_bind (he prog w _ _ ?_);cases ee:e with
   | true=>
    wp_walk
    exact ⟨rfl,rfl,h2 ee⟩
   | false=>
    have hri:=h1 ee prog w;wp_walk using hri;exact ⟨_,rfl,by simpa using h⟩
  case fin=>
   rintro ⟨b1',b2'⟩ s' ⟨Fz,rfl,hz⟩;have Qd:r=decide (xs.size < ys.size):=hz;simp only at Fz;subst Fz Qd;wp_walk;exact ⟨_,rfl,by simpa [Builtin.Tuple.tupleCompareSizes] using h⟩
  case h=>
   exact ⟨rfl,rfl,hc⟩
end
theorem C8.tupN {A:Around} {s:Shared} {l b:Addr} {xs ys:Array Value} {r:Bool} (hl:IsTup s.heap l xs) (hb:IsTup s.heap b ys) (hu:A.units < cLine) (hc:Kt A.in1 s (decide (xs.size < ys.size)) (xs.toList.zip ys.toList) r):C8 A s (.ref l) (.ref b) r:=fun prog w E Q h=>by
 obtain ⟨⟨cls,dd,data,sl⟩,ho,Ht,n,hd⟩:=id hl;obtain ⟨⟨Vp,Ma,data2,Qc⟩,PD,PH,n2,hd2⟩:=id hb;simp only at Ht hd PH hd2;subst Ht hd PH hd2;exact richCompare_meets_room (op:=.Lt) ⟨_,ho,rfl⟩ ⟨_,PD,rfl⟩ PySem.F.slot_tuple_lt PySem.F.entry_tuple_lt (PySem.F.args_tuple_lt_2 _ _) (OA l b xs ys n n2 dd Ma sl Qc r)
  ⟨ho,PD,hc,show Value.bool _ ≠ Value.notImplemented/\Q (.bool _) s from ⟨(fun x=>nomatch x),h⟩⟩ hu
theorem Jf {A:Around} {s:Shared}:∀ (xs ys:List Str) {us vs:List Value},A5 (xs.map V.str) us->A5 (ys.map V.str) vs->Kt A s (decide (xs.length < ys.length)) (us.zip vs) (AN (xs.map Gy.s) (ys.map Gy.s))
 | [],[],_,_,r1,r2=>by cases r1; cases r2; rfl
 | [],y :: ys,_,_,r1,r2=>by cases r1; cases r2; rfl
 | x :: xs,[],_,_,r1,r2=>by cases r1; cases r2; rfl
 | x :: xs,y :: ys,_,_,r1,r2=>by
  cases r1 with
  | cons a1 b1=>
   cases r2 with
   | cons a2 b2=>
    obtain ⟨t,rfl⟩:=a1;obtain ⟨t',rfl⟩:=a2;refine ⟨x == y,SeqAt.EqAt.str_str _ _ _ _,fun e=>?_,fun e=>?_⟩
    ·have e:¬ x=y:=by simpa using e
     have:=C8.str A s x t y t';rw [Zr,Zr];unfold AN;rw [if_neg (by intro z; injection z with z; exact e z)];exact this
    ·have e:x=y:=by simpa using e
     rw [Zr,Zr];unfold AN;rw [if_pos (by rw [e])];have:=Jf xs ys b1 b2 (A:=A) (s:=s);rw [Z4,Z4];simp only [Nat.add_lt_add_iff_right];exact this
theorem SR {A:Around} {s:Shared} {v w:Value} {xs ys:List Str} (hv:KW s.heap v xs) (hw:KW s.heap w ys) (hu:A.units < cLine):C8 A s v w (AN (xs.map Gy.s) (ys.map Gy.s)):=by
 obtain ⟨a,us,rfl,ha,r1⟩:=hv;obtain ⟨b,vs,rfl,hb,r2⟩:=hw;refine C8.tupN ha hb hu ?_;have l1:=r1.length;have l2:=r2.length;rw [YV] at l1 l2;have:=Jf (A:=A.in1) (s:=s) xs ys r1 r2;rw [l1,l2] at this;simpa using this
theorem lt_kn {A:Around} {s:Shared} {v w:Value} {p q:Int × List Str} (hv:Nd s.heap v p) (hw:Nd s.heap w q) (hu:A.units + 1 < cLine):C8 A s v w (AN (CT p) (CT q)):=by
 obtain ⟨a,l,t,rfl,ha,h1⟩:=hv;obtain ⟨b,l',t',rfl,hb,h2⟩:=hw;refine C8.tupN ha hb (by lia) ?_;show Kt A.in1 s _ [(.int p.1 t,.int q.1 t'),(.ref l,.ref l')] _
 refine ⟨p.1 == q.1,SeqAt.EqAt.int_int _ _ _ _,fun e=>?_,fun e=>⟨decide (p.2=q.2),To h1 h2 (by rw [PySem.Around.in1_units]; exact hu),fun e2=>?_,fun e2=>?_⟩⟩
 ·have e:¬ p.1=q.1:=by simpa using e
  have:=C8.int A.in1 s p.1 t q.1 t';unfold CT;unfold AN;rw [if_neg (by intro z; injection z with z; exact e (by first | exact z | exact z.symm))];exact this
 ·have e:p.1=q.1:=by simpa using e
  have:=SR (A:=A.in1) (s:=s) h1 h2 (by rw [PySem.Around.in1_units]; exact hu);unfold CT;unfold AN;rw [if_pos (by rw [e])];exact this
 ·have e:p.1=q.1:=by simpa using e
  have e2:p.2=q.2:=of_decide_eq_true e2;show AN (CT p) (CT q)=_
  unfold CT;rw [e,e2,Ff];rfl
section
variable {prog:Program} {w:World} {A:Around} {R:Result->Shared->Prop} {I:Addr} {fp wr:List Addr} {n:Nat} {P:Nat->Value->Prop} {St:Nat->Heap->Prop} {g0:Heap}
end
section
variable {prog:Program} {w:World} {A:Around} {E:Value->Shared->Prop} {s:Shared}
end
def T9 (H:Hp) (v:V) (k:Int × List Str):Prop:=∃ t l,v=.ref t/\H t=some (.tup [.int k.1,.ref l])/\H l=some (.tup (k.2.map V.str))
theorem T9.same {H H':Hp} {v:V} {p:Int × List Str} (h:T9 H v p) (s:∀ b xs,H b=some (.tup xs)->H' b=some (.tup xs)):T9 H' v p:=let ⟨t,l,e,z,q⟩:=h; ⟨t,l,e,s _ _ z,s _ _ q⟩
theorem tx_at {X:Cx} {pins:List (Addr × Obj)} {σ:St} {H:Hp} {s:Shared} {l:Addr} {ss:List Str} (I:An X pins σ H s) (h:H l=some (.tup (ss.map V.str))):KW s.heap (.ref l) ss:=by
 obtain ⟨Ap,rv,pl,hz⟩:=I.tuple (AF.of h);exact ⟨l,Ap,rfl,pl,rv⟩
theorem T9.at {X:Cx} {pins:List (Addr × Obj)} {σ:St} {H:Hp} {s:Shared} {v:V} {u:Value} {k:Int × List Str} (I:An X pins σ H s) (r:A3 v u) (h:T9 H v k):Nd s.heap u k:=by
 obtain ⟨t,l,rfl,ht,hp⟩:=h;cases r
 obtain ⟨Ap,rv,pl,hz⟩:=I.tuple (AF.of ht);cases rv with
 | cons a1 b1=>
  cases b1 with
  | cons a2 b2=>
   cases b2
   cases a2
   obtain ⟨t2,rfl⟩:=a1;exact ⟨t,l,t2,rfl,pl,tx_at I hp⟩
theorem Hw (bt:Nat->Nat->Bool) (f:Nat->List Gy) (h1:∀ i j,bt i j=AN (f i) (f j)):∀ k,argBest bt k<=k/\∀ j,j<=k->AN (f j) (f (argBest bt k))=false
 | 0=>⟨Zb _,fun j hj=>by
  have:j=0:=by lia
  subst this; exact Ff _⟩
 | k + 1=>by
  obtain ⟨a1,a2⟩:=Hw bt f h1 k;simp only [argBest];cases hc:bt (k + 1) (argBest bt k) with
  | true=>
   simp only [if_true];refine ⟨Zb _,fun j hj=>?_⟩;by_cases HI:j<=k
   ·have a3:=a2 j HI;rw [h1] at hc;cases e:AN (f j) (f (k + 1)) with
    | false=>rfl
    | true=>rw [Gk _ _ _ e hc] at a3; cases a3
   ·have:j=k + 1:=by lia
    subst this; exact Ff _
  | false=>
   simp only [Z1,if_false];refine ⟨aV a1,fun j hj=>?_⟩;by_cases HI:j<=k
   ·exact a2 j HI
   ·have:j=k + 1:=by lia
    subst this; rw [<-h1]; exact hc
section
variable {X:Cx} {pins:List (Addr × Obj)} {σ:St} {H:Hp} {s:Shared}
theorem Tc (I:An X pins σ H s) {vs:List V} {Ap:List Value} {ks:List (Int × List Str)} (rv:A5 vs Ap) (hl:vs.length=ks.length) (hk:∀ (i:Nat) v k,vs[i]? = some v->ks[i]? = some k->T9 H v k) :
  ∀ (i:Nat) (v:Value),Ap[i]? = some v->∃ k,ks[i]? = some k/\Nd s.heap v k/\∃ x,vs[i]? = some x/\A3 x v:=fun i v e=>by
 have il:Ap.length=ks.length:=by rw [<-rv.length,hl]
 have hi:i < Ap.length:=(YZ.mp e).1;have e1:vs[i]? = some vs[i]:=YU (by lia);have e2:ks[i]? = some ks[i]:=YU (by lia);obtain ⟨v',e3,r3⟩:=rv.get e1;rw [e] at e3;cases e3
 exact ⟨_,e2,(hk i _ _ e1 e2).at I r3,_,e1,r3⟩
end
theorem Mf {X:Cx} (hc:X.calm=true) (hu:X.A.units + 64 < cLine):Bi X (.builtin "min") (fun xs H Q=>∃ (a:Addr) (vs:List V) (ks:List (Int × List Str)),xs=[.ref a]/\H a=some (.lst vs)/\vs.length=ks.length/\ks ≠ []/\(∀ (i:Nat) v k,vs[i]? = some v->ks[i]? = some k->T9 H v k) /\
  ∀ v k,k ∈ ks->T9 H v k->(∀ k' ∈ ks,AN (CT k') (CT k)=false)->Q v H):=by
 intro pins s σ H xs us Q I r h;obtain ⟨a,vs,ks,rfl,ha,hl,hne,hk,q⟩:=h;obtain ⟨u,rfl,ru⟩:=Cf r;cases ru
 obtain ⟨Ap,rv,pl,hz⟩:=I.list (A9.of ha);have il:Ap.length=ks.length:=by rw [<-rv.length,hl]
 have pos:0 < ks.length:=ZV.mpr hne;have kat:=Tc I rv hl hk;refine GB (bt:=fun i j=>AN (CT (ks.getD i (0,[]))) (CT (ks.getD j (0,[])))) (I.ok.hd hc) pl.isList (by lia) (fun i j vi vj s' Q' E' g hi hj hQ=>?_) fun v h2 tk hv k2=>?_
 ·obtain ⟨ki,e1,a1,_⟩:=kat i vi hi;obtain ⟨kj,e2,a2,_⟩:=kat j vj hj;have d1:ks.getD i (0,[])=ki:=by rw [Zw,e1]; rfl
  have d2:ks.getD j (0,[])=kj:=by rw [Zw,e2]; rfl
  dsimp only at hQ;rw [d1,d2] at hQ;exact lt_kn (a1.keep g) (a2.keep g) (by rw [PySem.Around.in1_units]; lia) _ _ _ _ hQ
 ·obtain ⟨k,e1,a1,x,e3,r3⟩:=kat _ v hv;obtain ⟨b1,b2⟩:=Hw (fun i j=>AN (CT (ks.getD i (0,[]))) (CT (ks.getD j (0,[])))) (fun i=>CT (ks.getD i (0,[]))) (fun _ _=>rfl) (Ap.length - 1);refine ⟨x,H,I.kept k2,r3,q x k (YY e1) (hk _ x k e3 e1) fun k' ML=>?_⟩;obtain ⟨j,hj,ej⟩:=Zm ML;have:=b2 j (by lia);have d1:ks.getD (argBest (fun i j=>AN (CT (ks.getD i (0,[]))) (CT (ks.getD j (0,[])))) (Ap.length - 1)) (0,[])=k:=by rw [Zw,e1]; rfl
  have d2:ks.getD j (0,[])=k':=by rw [Zw,YU hj,ej]; rfl
  rw [d1,d2] at this;exact this
theorem Rk (K:YX) {X:Cx} (h:X.K=K):Et X (binaryOp .Add) (TY K):=by subst h; exact SI
inductive B9 (H:Hp):List V->List (List Str)->Prop
 | nil:B9 H [] []
 | cons {t:Addr} {us:List V} {f:List Str} {fs:List (List Str)}:H t=some (.tup (f.map V.str))->B9 H us fs->B9 H (.ref t :: us) (f :: fs)
theorem B9.len {H:Hp} {us:List V} {fs:List (List Str)} (h:B9 H us fs):us.length=fs.length:=by
 induction h with
 | nil=>rfl
 | cons _ _ ih=>rw [Z4,Z4,ih]
theorem B9.keep {H H':Hp} {us:List V} {fs:List (List Str)} (h:B9 H us fs) (s:∀ b xs,H b=some (.tup xs)->H' b=some (.tup xs)):B9 H' us fs:=by
 induction h with
 | nil=>exact .nil
 | cons a _ ih=>exact .cons (s _ _ a) ih
theorem B9.app {H:Hp} {us vs:List V} {fs gs:List (List Str)} (h:B9 H us fs) (h':B9 H vs gs):B9 H (us ++ vs) (fs ++ gs):=by
 induction h with
 | nil=>exact h'
 | cons a _ ih=>exact .cons a ih
theorem B9.get {H:Hp} {us:List V} {fs:List (List Str)} (h:B9 H us fs):∀ {i:Nat} {u:V},us[i]? = some u->∃ t f,u=.ref t/\fs[i]? = some f/\H t=some (.tup (f.map V.str)):=by
 induction h with
 | nil=>intro i u e; simp at e
 | cons a _ ih=>
  intro i u e;cases i with
  | zero=>simp at e; subst e; exact ⟨_,_,rfl,rfl,a⟩
  | succ i=>exact ih (by simpa using e)
theorem B9.mem {H:Hp} {us:List V} {fs:List (List Str)} (h:B9 H us fs) {u:V} (hu:u ∈ us):∃ t f,u=.ref t/\f ∈ fs/\H t=some (.tup (f.map V.str)):=by
 obtain ⟨i,hi⟩:=aj hu;obtain ⟨t,f,e,ef,ht⟩:=h.get hi;exact ⟨t,f,e,YY ef,ht⟩
theorem B9.perm {H:Hp} {us Lj:List V} (p:Lj.Perm us):∀ {fs:List (List Str)},B9 H us fs->∃ VB,VB.Perm fs/\B9 H Lj VB:=by
 induction p with
 | nil=>intro fs h; cases h; exact ⟨[],.refl _,.nil⟩
 | cons x p ih=>
  intro fs h;cases h with
  | cons a b=>
   obtain ⟨VB,p',t'⟩:=ih b;exact ⟨_ :: VB,p'.cons _,.cons a t'⟩
 | swap x y l=>
  intro fs h;cases h with
  | cons a b=>
   cases b with
   | cons c d=>exact ⟨_ :: _ :: _,.swap _ _ _,.cons c (.cons a d)⟩
 | trans p1 p2 Vc Vb=>
  intro fs h;obtain ⟨f1,q1,t1⟩:=Vb h;obtain ⟨f2,q2,t2⟩:=Vc t1;exact ⟨f2,q2.trans q1,t2⟩
theorem B9.kinds {H:Hp} {us:List V} {fs:List (List Str)} (h:B9 H us fs) (ne:∀ f ∈ fs,f ≠ []):∀ v ∈ us,MT H (fun _=>true) v:=by
 intro v hv;obtain ⟨t,f,rfl,hf,ht⟩:=h.mem hv;refine ⟨t,_,rfl,ht,by simpa using ne f hf,fun i y e=>?_⟩;rw [Ze] at e;cases z:f[i]? with
 | none=>rw [z] at e; cases e
 | some x=>rw [z] at e; exact ⟨x,(Zo.inj e).symm⟩
def Ea:V->Nat->Bool
 | .int i,k=>decide ((k:Int)<=i)
 | _,_=>true
def RT (sites:List Str) (x:V) (os:List (List Str)):Prop:=
 os.Nodup/\True/\∀ ss,ss ∈ os ↔ ss ≠ []/\ss.Sublist sites/\Ea x ss.length=true
theorem RT.ne {sites:List Str} {x:V} {d:PyData} {os:List (List Str)} (h:RT sites x os) (hs:sites ≠ []) (l:Lim x d):os ≠ []:=by
 cases sites with
 | nil=>exact absurd rfl hs
 | cons s sites=>
  have:[s] ∈ os:=(h.2.2 [s]).mpr ⟨by simp,(bC _).cons₂ s,by
   rcases l with ⟨rfl,_⟩ | ⟨i,rfl,_,h1,_⟩
   ·rfl
   ·exact decide_eq_true (by simpa using h1)⟩
  intro z;rw [z] at this;cases this
def MX (sites:List Str) (fs:List (List Str)):Prop:=fs.Nodup/\∀ ss,ss ∈ fs ↔ ss.Sublist sites
theorem MX.nil:MX [] [[]]:=⟨by simp,fun ss=>by simp⟩
theorem MX.step {a:Str} {sites:List Str} {fs:List (List Str)} (ha:a ∉ sites) (h:MX sites fs):MX (a :: sites) (fs ++ fs.map (a :: ·)):=by
 refine ⟨ZJ.mpr ⟨h.1,?_,?_⟩,fun ss=>?_⟩
 ·refine aT.mpr (h.1.imp fun {x y} ne e=>?_);injection e with _ e;exact ne e
 ·rintro x hx y hy rfl;obtain ⟨g,hg,rfl⟩:=Zd.mp hy;exact ha (((h.2 _).mp hx).subset Zq)
 ·rw [Zp,Zd,List.sublist_cons_iff];constructor
  ·rintro (h1 | ⟨g,hg,rfl⟩)
   ·exact .inl ((h.2 _).mp h1)
   ·exact .inr ⟨g,rfl,(h.2 _).mp hg⟩
  ·rintro (h1 | ⟨g,rfl,hg⟩)
   ·exact .inl ((h.2 _).mpr h1)
   ·exact .inr ⟨g,(h.2 _).mpr hg,rfl⟩
def Oz (H:Hp) (c:Addr) (sites:List Str) (x:V) (d:PyData):Prop:=
 ∃ (m t2:V) (t1:Addr) (Fm:List V) (rs1:List BJ),H c=some (.tup [m,.ref t1,t2,x])/\H t1=some (.tup Fm)/\Bt H Fm (rs1.map G5)/\rs1.map (·.1)=sites/\sites.Nodup/\sites.length<=10/\Lim x d
theorem Dv.sites {H:Hp} {c m:Addr} {n:Nat} {xs:List Str} {ws:List A8} {rs1 Av:List BJ} {x:V} {d:PyData} (h:Dv H c m n xs ws rs1 Av x d):Oz H c (rs1.map (·.1)) x d:=by
 obtain ⟨t1,t2,Fm,Js,a,b,e,f,g⟩:=h.ex;exact ⟨_,_,t1,Fm,rs1,a,b,e,rfl,h.ok1.nd,by rw [YV]; exact h.l1,h.lim⟩
theorem QW {X:Cx} (fn:Str->Bool) {ix:Nat} {x:Str} {px spos:Pos} {tg iter elt:Expr} {ifs:List Expr} {scope:Scope} {cl:List (Str × Addr)} {N:List Str} {pos:Pos} {wi:TI} {g:TG} {tt:TT} {te:TE} {σ0:St->St} (hN:X.N.Nodup) (hix:X.N[ix]? = some x) (hlx:Vv X.env.scope x) (hc:X.calm=true) (co:Gx X scope cl) (hfn:∀ x,fn x=true->(x,NameKind.cell) ∈ scope.names)
  (hσ:∀ σ,σ.length=X.N.length->Cp X cl scope N σ (σ0 σ)) (hK:∀ (σ:St) (i:Nat) (x:Str) (v:V),N[i]? = some x->(σ0 σ)[i]? = some (some v)->(x,NameKind.cell) ∉ scope.names) (hi:PI X tg iter wi)
  (hb:∀ s2 H C fp,PG (BQ X scope (cellsFrom (C + 1) scope.names cl) N s2 H C fp fn) tg g/\Uu (BQ X scope (cellsFrom (C + 1) scope.names cl) N s2 H C fp fn) ifs tt/\PE (BQ X scope (cellsFrom (C + 1) scope.names cl) N s2 H C fp fn) elt te)
  (hsw:swapsWith (.ListComp elt [⟨tg,iter,ifs,0⟩] scope pos) (some (.Name x px)) spos.line X.env=pure true:=by rfl)
  (hs:∀ x,foldedSetIterable iter X.env x=pure x:=by intro _; rfl) (hf:X.fn x=true\/X.env.scope.names.lookup x=some .local:=by first | exact .inl rfl | exact .inr rfl | assumption) :
  PS X (.Assign [.Name x px] (.ListComp elt [⟨tg,iter,ifs,0⟩] scope pos) spos) (Qy (Nn wi g tt te σ0) (Ke ix)):=by
 intro pins s σ H DD I h;rw [exec_Assign_Name_used _ _ _ _ hsw];refine wpAny_bind (wpAny_standAt (wpAny_bind ?_));show wpAny _ X.A (do let _ <- comprehension (.ListComp elt [⟨tg,iter,ifs,0⟩] scope pos) scope X.env _ (newList []) false (eval iter X.env) (some (assign (.Name x px) X.env))) _ _ s
 refine wpAny_bind (wpAny_mono (wpAny_comprehension_free (use:=some (assign (.Name x px) X.env)) (Q:=fun _ s'=>SP X pins DD .next s') rfl hs co.clos co.kind co.names
  (wpAny_mono (hi (pins:=pins) s σ H _ I h) (fun xv s1 h1=>wpAny_mono h1 (fun itv s2 h2=>?_) fun _ _ e=>e) fun _ _ e=>e)) (fun _ s' hq=>wpAny_pure (wpAny_pure hq)) fun _ _ e=>e)
 obtain ⟨it,fp,tn,J,H2,rfl,I2,T,Fj,f2,hW⟩:=h2;refine wpAny_newObj_type (Jr ?_);dsimp only;generalize IS:s2.heap.push { cls:=.type "list",dict:=none,data:=.seq ([]:List Value).toArray } = HH;have By:HH.objs.size=s2.heap.objs.size + 1:=by rw [<-IS,ZH]
 obtain ⟨h₁,LW⟩:∃ h₁,h₁=pushCells (HH.push { cls:=.type "dict",data:=.dict #[] }) scope.names:=⟨_,rfl⟩
 rw [<-LW];have B5:h₁.Ns HH.objs.size (fun _=>aX):=by
  rw [LW];exact (Heap.Ns.new HH (.type "dict")).keeps (pushCells_keeps _ _)
 have old:∀ b o,s2.heap.get? b=some o->h₁.get? b=some o:=fun b o e=>by
  rw [LW];exact pushCells_keeps _ _ _ _ (YW _ (IS ▸ YW _ e))
 have newD:∃ n,h₁.get? s2.heap.objs.size=some { cls:=.type "list",data:=.seq ([]:List Value).toArray n }:=by
  exists 0;rw [LW];exact pushCells_keeps _ _ _ _ (YW _ (IS ▸ Zf _ rfl))
 obtain ⟨Kl,ecl⟩:∃ Kl,Kl=cellsFrom (HH.objs.size + 1) scope.names cl:=⟨_,rfl⟩
 have clt:∀ x c,(x,c) ∈ cl->c < s2.heap.objs.size:=fun x c e=>by
  obtain ⟨v,q⟩:=I2.cell x c (co.sub x c e);exact q.lt
 have KO:∀ x c,(x,c) ∈ Kl->(x,c) ∈ cl\/(HH.objs.size + 1<=c/\h₁.IsCell c aX):=fun x c hm=>by
  have hsz:(HH.push { cls:=.type "dict",data:=.dict #[] }).objs.size=HH.objs.size + 1:=ZH ..;rw [ecl,<-hsz] at hm;have q:=GK scope.names (HH.push { cls:=.type "dict",data:=.dict #[] }) cl (HH.objs.size + 1) (by rw [hsz]; exact Zb _) (fun y d hy=>.inl (Zk (clt y d hy) (by rw [By]; lia))) x c hm;rw [LW];exact q
 have ap':Kl.Pairwise fun x y=>x.2 ≠ y.2:=by
  rw [ecl];exact EM _ _ _ co.apart fun x c hm=>Zk (clt x c hm) (by rw [By]; lia)
 have VP:∀ x c,Kl.lookup x=some c->X.env.cells.lookup x=some c\/(s2.heap.objs.size<=c/\c ≠ s2.heap.objs.size/\c ≠ HH.objs.size/\h₁.IsCell c aX):=fun x c e=>by
  rcases KO x c (PySem.mem_of_lookup e) with q | ⟨q1,q2⟩
  ·exact .inl (co.sub x c q)
  ·exact .inr ⟨by rw [By] at q1; exact bj (Zk (Z0 (Z6 _)) q1),ZO (by rw [By] at q1; exact Zk (Z0 (Z6 _)) q1),ZO (Zk (Z6 _) q1),q2⟩
 have Yh:∀ x y c,Kl.lookup x=some c->Kl.lookup y=some c->x=y:=fun x y c e1 e2=>name_of_addr ap' (PySem.mem_of_lookup e1) (PySem.mem_of_lookup e2)
 have XH:∀ x c,fn x=true->Kl.lookup x=some c->s2.heap.objs.size<=c:=fun x c h e=>by
  rw [ecl] at e;exact GJ s2.heap.objs.size scope.names (HH.objs.size + 1) cl x c (by rw [By]; lia) (.inl (hfn x h)) e
 have Yr:∀ x,((relabel scope X.env).names.lookup x=some .cell\/(relabel scope X.env).names.lookup x=some .free)->∃ c,Kl.lookup x=some c:=fun x h=>by
  obtain ⟨c,hc⟩:=GO scope.names (HH.objs.size + 1) cl x (co.has x h);rw [ecl];exact Dc hc
 have keepS:∀ (i:Nat) (x:Str) (v:V),N[i]? = some x->(σ0 σ)[i]? = some (some v)->∀ c,Kl.lookup x=some c->X.env.cells.lookup x=some c:=fun i x v e1 e2 c e=>by
  rw [ecl] at e;have m2:=F5 scope.names (HH.objs.size + 1) cl x c (PySem.mem_of_lookup e) (hK σ i x v e1 e2);exact co.sub x c m2
 obtain ⟨W,⟨m0,w0⟩,turn⟩:=hW s2.heap.objs.size I2.fresh;have hfo:∀ b ∈ fp,∃ o,s2.heap.get? b=some o:=fun b hb=>let ⟨o,e,_⟩:=T.obj _ _ Fj b hb; ⟨o,e⟩
 have Yj:∀ σ,σ.length=X.N.length->Cp X Kl scope N σ (σ0 σ):=fun σ h=>hσ σ h
 have I3:An (BQ X scope Kl N s2 H2 HH.objs.size fp fn) [] (σ0 σ) (upd H2 s2.heap.objs.size (.lst [])) { s2 with heap:=h₁,toks:=s2.toks }:=
  Mb I2 f2 hfo co VP Yh XH Yr keepS (Yj σ I.len) old (Zb _) (by rw [By]; exact ZC _) (ZO (by rw [By]; exact Z6 _)) (.inr newD) B5
 have fC:s2.heap.objs.size<=HH.objs.size:=by rw [By]; exact ZC _
 obtain ⟨hg,ht,he⟩:=hb s2 H2 HH.objs.size fp;rw [<-ecl] at hg ht he;have loop:∀ BZ:Shared,BZ = { s2 with heap:=h₁,toks:=s2.toks } ->
   codeAny (model X.prog X.w) X.A (.compLoop (.ListComp elt [⟨tg,iter,ifs,0⟩] scope pos) 0 (.ref it) (.ref s2.heap.objs.size) (compEnvC scope Kl HH.objs.size X.env))
    (compPost (model X.prog X.w) X.A X.xe (some (assign (.Name x px) X.env)) (fun _ s'=>SP X pins DD .next s') (.ref s2.heap.objs.size) HH.objs.size) BZ:=by
  rintro BZ rfl;have stat:∀ {H':Hp} ,(∀ b ∈ fp,H' b=none)->∀ b ∈ fp,Ek (BQ X scope Kl N s2 H2 HH.objs.size fp fn) [] H' b:=fun hn b hb=>by
   refine ⟨hn b hb,?_,?_,.inl hb,?_,fun p hp=>by cases hp⟩
   ·obtain ⟨o,e⟩:=hfo b hb;exact Zh (show b < HH.objs.size by rw [By]; exact Z0 (Zc e))
   ·intro hz;obtain ⟨_,q1,q2,_⟩:=f2 b hb;rcases Zg.mp (I2.stkSub b hz) with e | e
    ·exact q1 e
    ·exact q2 e
   ·intro x c e;rcases VP x c e with z | ⟨z,_⟩
    ·exact (f2 b hb).2.2.2.2.1 x c z
    ·obtain ⟨o,eo⟩:=hfo b hb;exact ZO (Zk (Zc eo) z)
  refine BW (fun n s'=>∃ i As H',An (BQ X scope Kl N s2 H2 HH.objs.size fp fn) [] As H' s'/\tn i s'.heap/\(∀ b ∈ fp,H' b=none)/\W i n As H') ?_ m0
   ⟨0,σ0 σ,_,I3,T.keep _ _ _ Fj fun b hb o e=>old b o e,fun b hb=>?_,w0⟩
  ·rintro n s4 ⟨i,FK,H4,I4,Lp,LQ,w4⟩;rcases turn i n FK H4 w4 with ⟨stop,qn⟩ | ⟨go,step⟩
   ·refine wpAny_mono (T.done (BQ X scope Kl N s2 H2 HH.objs.size fp fn) rfl rfl rfl hc i [] s4 FK H4 (fun _ _=>False) I4 (stat LQ) Lp stop) (fun r s5 ⟨hr,I5⟩=>?_) fun _ _ z=>z.elim
    subst hr;obtain ⟨m5,R3,_⟩:=id I5.loc;have I6:An X pins σ H4 s5:=PX (h':=s5.heap) I2 f2 fC I5 (Heap.SameBut.refl _ _);have cC:∀ y c,X.env.cells.lookup y=some c->c ≠ HH.objs.size:=fun y c e=>by
     obtain ⟨v,q⟩:=I2.cell y c e;exact Zh (Zk q.lt fC)
    have lC:X.env.locals ≠ HH.objs.size:=Zh (Zk I2.lt fC);show wpAny _ X.A (assign (.Name x px) X.env (.ref s2.heap.objs.size)) _ X.xe s5
    refine wpAny_assign_Name (EX I6 hN hix hlx (v:=.ref s2.heap.objs.size) rfl (fun s7 I7 ⟨a,sb,ha⟩=>?_) hf);have aC:a ≠ HH.objs.size:=by
     rcases ha with rfl | ha
     ·exact lC
     ·exact cC _ _ ha
    refine ⟨m5,R3.sameBut sb (Ne.symm aC),fun h' Kc=>⟨_,H4,?_,qn⟩⟩;exact I7.turned (t':=s7.toks) (it:=HH.objs.size) (fun b o hb e=>(Kc.2 b hb).trans e) I5.free (Ne.symm lC) (.inr (Z2 I2.sz fC)) cC fun p hp z=>by
     have e:=(I2.pin p hp).1;exact absurd (Zk (Zc e) fC) (by rw [z]; exact ZK _)
   ·refine wpAny_mono (T.item (BQ X scope Kl N s2 H2 HH.objs.size fp fn) rfl rfl rfl hc i [] s4 FK H4 (fun _ _=>False) I4 (stat LQ) Lp go) (fun r s5 ⟨u,hr,h5⟩=>?_) fun _ _ z=>z.elim
    subst hr;refine wpAny_mono h5 (fun _ s6 ⟨x,H6,I6,r6,y6,HZ,RF⟩=>?_) fun _ _ z=>z.elim
    have RX:=I6.pinned (stat RF) (T.obj _ _ HZ);refine wpAny_mono (hg s6 FK H6 x u _ RX r6 (step x H6 y6)) (fun _ s7 ⟨El,H7,I7,q7⟩=>?_) fun _ _ z=>z.elim
    refine wpAny_mono (ht s7 El H7 _ I7 q7) (fun ok s8 ⟨H8,I8,q8⟩=>?_) fun _ _ z=>z.elim
    have again:∀ {s9:Shared} {FJ:St} {H9:Hp} ,An (BQ X scope Kl N s2 H2 HH.objs.size fp fn) ([] ++ Dx fp s6.heap) FJ H9 s9->(∃ m',m' < n/\W (i + 1) m' FJ H9)->∃ m,m < n/\∃ i As H',An (BQ X scope Kl N s2 H2 HH.objs.size fp fn) [] As H' s9/\tn i s9.heap/\(∀ b ∈ fp,H' b=none)/\W i m As H':=fun {s9 FJ H9} I9 n9=>by
     obtain ⟨m',hm,w9⟩:=n9;refine ⟨m',hm,i + 1,FJ,H9,I9.unpinned,T.keep _ _ _ HZ fun b hb o e=>(I9.pin (b,o) (Zj _ (Zj _ (AX hb e)))).1,fun b hb=>?_,w9⟩;obtain ⟨o,e,d⟩:=T.obj _ _ HZ b hb;exact (I9.pin (b,o) (Zj _ (Zj _ (AX hb e)))).2.1
    cases ok with
    | false=>
     rw [if_neg Zn] at q8 ⊢;exact again I8 q8
    | true=>
     rw [if_pos rfl] at q8 ⊢;refine wpAny_mono (he s8 El H8 _ I8 q8) (fun y s9 ⟨v,H9,I9,r9,acc,hacc,hsz,q9⟩=>?_) fun _ _ z=>z.elim
     refine wpAny_mono (Cc (X:=BQ X scope Kl N s2 H2 HH.objs.size fp fn) s9 El H9 (.ref s2.heap.objs.size) [v] (.ref s2.heap.objs.size) [y] (fun _ Nf=>∃ m',m' < n/\W (i + 1) m' El Nf) I9 rfl (.cons r9 .nil) ⟨_,acc,v,rfl,rfl,hacc,hsz,q9⟩) (fun _ V3 ⟨_,Nf,RY,_,QU⟩=>?_) fun _ _ z=>z.elim
     exact again RY QU
  ·have z:=(f2 b hb).1;obtain ⟨o,e⟩:=hfo b hb;rw [Af (Zh (Zc e))];exact z
 subst ecl;exact codeAny_compStart_list (loop _ rfl) (T.self _ 0 _ _ _ (T.keep _ _ _ Fj fun b hb o e=>old b o e) (loop _ rfl))
theorem Iu {α β:Type} {F G:α->β->Prop}:∀ {LK:List α} {LJ:List β},Paired F LK LJ->(∀ a b,F a b->G a b)->Paired G LK LJ
 | _,_,.nil,_=>.nil
 | _,_,.cons r t,h=>.cons (h _ _ r) (Iu t h)
def TB (H:Hp) (a:Addr) (kvs:List (List A4 × V)) (o:Obj) (H':Hp):Prop:=H a=some (.dT kvs)/\H'=upd H a (.frz o (.dT kvs))
def Vw (a:Addr) (kvs:List (List A4 × V)) (o:Obj) (ts:List Addr):It:=
 ⟨fun i H=>H a=some (.frz o (.dT kvs))/\i < ts.length,fun i H x H'=>H'=H/\∃ t,ts[i]? = some t/\x=.ref t,fun i H=>H a=some (.frz o (.dT kvs))/\ts.length<=i⟩
theorem QS {X:Cx} {pins:List (Addr × Obj)} {σ:St} {H:Hp} {s:Shared} {a:Addr} {o:Obj} {kvs:List (List A4 × V)} {es:Array DictEntry} {ep:Nat} (I:An X pins σ H s) (e:H a=some (.frz o (.dT kvs))) (he:o.data=.dict es ep):D8 s.heap a es ep:=by
 obtain ⟨ho,_,_,xs,rel,o',Tn,Tr,h1,h2,h3,h4⟩:=(show A6 X.prog X.w H s.heap a (.frz o (.dT kvs)) from I.hok a _ e)
 rw [ho] at h1;cases h1
 exact ⟨o,ho,h2,he⟩
theorem Sq {P:Program} {w:World} {K:YX} {tg:Expr} (a it:Addr) {kvs:List (List A4 × V)} {o:Obj} {es:Array DictEntry} {ep:Nat} {ts:List Addr} (he:o.data=.dict es ep) (hk:es.toList.map (·.key)=ts.map Value.ref) :
  Mh P w K tg (Vw a kvs o ts) [it] it (fun i h=>h.IsKeyIter it a i es.size ep) where
 mem:=by simp
 obj:=fun i h st b hb=>by
  have e:b=it:=by simpa using hb
  subst e;obtain ⟨o,e,c,d⟩:=st;exact ⟨o,e,fun v z=>by rw [d] at z; cases z⟩
 keep:=fun i h h' st k=>st.at fun o e=>k it (by simp) o e
 item:=by
  intro X hP hw hK hc i pins s σ H E I hf st hg;subst hP hw hK;obtain ⟨hq,Bv⟩:=hg;have rd:=QS I hq he;have ex:es[i]?.map (·.key)=some (.ref ts[i]):=by
   have e:=congrArg (fun l:List Value=>l[i]?) hk;rw [Ze,Ze,YU Bv,ZW] at e;exact e
  obtain ⟨f0,f1,f2,f3,f4,f5⟩:=hf it (by simp);refine Lz st rd ex fun h' AQ sb=>?_
  have I1:An X pins σ H { s with heap:=h' }:=I.turned (t':=s.toks) (fun b o hb e=>(sb.2 b hb).trans e) f0 f1 f3 f4 f5;obtain ⟨o',e,c,d⟩:=id AQ;exact ⟨_,rfl,IU (s:={ s with heap:=h' }) e c d (by decide) ⟨.ref ts[i],H,I1,rfl,⟨rfl,ts[i],YU Bv,rfl⟩,AQ,fun b hb=>(hf b hb).1⟩⟩
 done:=by
  intro X hP hw hK hc i pins s σ H E I hf st hg;subst hP hw hK;obtain ⟨hq,hle⟩:=hg;have rd:=QS I hq he;obtain ⟨f0,f1,f2,f3,f4,f5⟩:=hf it (by simp);have hl:es.size=ts.length:=by
   have e:=congrArg aE hk;rw [YV,YV,Z5] at e;exact e
  exact N3 (I.ok.hd hc) st rd (by lia) fun h' eb=>⟨rfl,I.turned (t':=s.toks) (fun b o hb e=>eb b o hb e) f0 f1 f3 f4 f5⟩
 self:=fun _ _ _ _ _ st h=>wpAny_pyIter_keyiter st h
def Vd (tl:TE):TI:=fun σ H R=>tl σ H fun x H1=>∃ a kvs,x=.ref a/\H1 a=some (.dT kvs)/\∀ o ts H2,TB H1 a kvs o H2->ts.length=kvs.length->(∀ (i:Nat) t p,ts[i]? = some t->kvs[i]? = some p->H2 t=some (.tup (p.1.map kV)))->R (Vw a kvs o ts) H2
theorem Ub {X:Cx} {tg l:Expr} {tl:TE} (hl:PE X l tl):PI X tg l (Vd tl):=by
 intro pins s σ H R I h;refine B6 (hl (pins:=pins) s σ H _ I h) fun v s1 ⟨x,H1,I1,r1,q1⟩=>?_
 obtain ⟨a,kvs,e,hr,q⟩:=q1;subst e;cases r1
 obtain ⟨z,y,xs,rel,o,es,ep,h1,h2,h3,h4,h5⟩:=(show A6 X.prog X.w H1 s1.heap a (.dT kvs) from I1.hok a _ hr)
 have I2:An X pins σ (upd H1 a (.frz o (.dT kvs))) s1:=by
  have tup:∀ b ys,H1 b=some (.tup ys)->b ≠ a:=fun b ys hb z=>by rw [z,hr] at hb; cases hb
  refine I1.write (x:=a) (e:=a) (h':=s1.heap) (t':=s1.toks) (by rw [hr]; exact True.intro) (.inl rfl) (fun b u _ q=>q) ⟨o,h1⟩ ⟨h1,z,y,xs,?_,o,es,ep,h1,h2,h3,h4,h5⟩;exact Iu rel fun p q ⟨e1,e2,e3⟩=>⟨e1,by rw [Af (tup _ _ e2)]; exact e2,e3⟩
 have hk:es.toList.map (·.key)=(xs.map (·.2.1)).map Value.ref:=by rw [h4,ZA,ZA]; rfl
 have rd:D8 s1.heap a es ep:=⟨o,h1,h2,h3⟩
 refine Ly y rd ?_;refine ⟨s1.heap.objs.size,[s1.heap.objs.size],_,_,_,rfl,I2.kept (t':=s1.toks) fun b o e=>YW _ e,Sq a _ h3 hk,⟨_,Zf _ rfl,rfl,rfl⟩,fun b hb=>?_,q o (xs.map (·.2.1)) _ ⟨hr,rfl⟩ (by rw [YV]; exact (Paired.length rel).symm) fun i t p e1 e2=>?_⟩
 ·have e:b=s1.heap.objs.size:=by simpa using hb
  subst e;exact I2.fpOk (Zb _) (I2.hok.fresh (Zb _))
 ·obtain ⟨qq,e3,_,e4,_⟩:=Paired.at rel e2;rw [Ze,e3] at e1;cases e1
  show upd H1 a _ qq.2.1=_
  rw [Af (fun z=>by rw [z,hr] at e4; cases e4)];exact e4
theorem NM {a:Addr} {kvs:List (List A4 × V)} {o:Obj} {ts:List Addr}:Nb (Vw a kvs o ts) (ts.map V.ref) (fun H=>H a=some (.frz o (.dT kvs))):=
 ⟨fun i H q Bv=>⟨q,by rwa [YV] at Bv⟩,fun i H x H' q ⟨e,t,et,ex⟩=>⟨e,by rw [Ze,et,ex]; rfl⟩,fun H q=>⟨q,by rw [YV]; exact Zb _⟩⟩
def QT (K:YX):R2:=fun x y H Q=>∃ a b xs ys,x=.ref a/\y=.ref b/\AF K H a xs/\AF K H b ys/\xs.length + ys.length<=sizeLine /\
 (xs=[]->Q (.ref b) H)/\(xs ≠ []->ys=[]->Q (.ref a) H)/\(xs ≠ []->ys ≠ []->∀ p,H p=none->Q (.ref p) (upd H p (.tup (xs ++ ys))))
theorem Rl (K:YX) {X:Cx} (hK:X.K=K):Et X (binaryOp .Add) (QT K):=by
 subst hK;intro pins s σ H x y v u Q I rx ry h;obtain ⟨a,b,xs,ys,rfl,rfl,ha,hb,hz,q0,q1,q2⟩:=h;cases rx
 cases ry
 obtain ⟨Ap,r1,p1,_⟩:=I.tuple ha;obtain ⟨MC,r2,p2,_⟩:=I.tuple hb;by_cases hx:xs=[]
 ·obtain ⟨⟨cls,dd,data,sl⟩,ho,hc,n,hd⟩:=id p1;obtain ⟨⟨Vp,Ma,data2,Qc⟩,PD,PH,n2,hd2⟩:=id p2;simp only at hc hd PH hd2;subst hc hd PH hd2;exact concat_meets ⟨_,ho,rfl⟩ ⟨_,PD,rfl⟩ noFill_tuple_add seq_tuple_add PySem.F.slot_tuple_add PySem.F.entry_tuple_add (PySem.F.args_tuple_add_2 _ _)
   (tuple_addW0 a b Ap.toArray MC.toArray n n2 dd Ma sl Qc (by simp [r1.nil_iff.mpr hx])) ⟨ho,PD,⟨.ref b,H,I,rfl,q0 hx⟩⟩
 ·refine HT.cat_tup p1 p2 (fun z=>hx (r1.nil_iff.mp z)) (fun z=>⟨.ref a,H,I,rfl,q1 hx (r2.nil_iff.mp z)⟩) (fun z=>?_) (by rw [<-r1.length,<-r2.length]; exact hz);refine ⟨.ref s.heap.objs.size,_,I.laid (t':=s.toks) (o:=.tup (xs ++ ys)) (fun b ob q=>YW _ q) (Zb _) ?_,rfl,q2 hx (fun w=>z (r2.nil_iff.mpr w)) _ (I.hok.fresh (Zb _))⟩;exact ⟨by rw [Za]; exact hz,_,r1.append r2,IsTup.new _ _,MU.new rfl rfl⟩
theorem D7 {X:Cx} (hc:X.calm=true):Bi X (.builtin "min") (fun xs H Q=>∃ (a:Addr) (ns:List Int),xs=[.ref a]/\H a=some (.lst (ns.map V.int))/\ns ≠ [] /\
  ∀ m,m ∈ ns->(∀ x ∈ ns,m<=x)->Q (.int m) H):=by
 intro pins s σ H xs us Q I r h;obtain ⟨a,ns,rfl,ha,hne,q⟩:=h;obtain ⟨u,rfl,ru⟩:=Cf r;cases ru
 obtain ⟨Ap,rv,pl,hz⟩:=I.list (A9.of ha);have il:Ap.length=ns.length:=by rw [<-rv.length,YV]
 have pos:0 < ns.length:=ZV.mpr hne;refine GB (bt:=fun i j=>decide (ns.getD i 0 < ns.getD j 0)) (I.ok.hd hc) pl.isList (by lia) (fun i j vi vj s' Q' E' g hi hj hQ=>?_) fun v h2 tk hv k2=>?_
 ·obtain ⟨x,t,e1,rfl⟩:=Ec rv i vi hi;obtain ⟨y,u,e2,rfl⟩:=Ec rv j vj hj;dsimp only at hQ;rw [Zw,Zw,e1,e2] at hQ;exact C8.int _ _ _ _ _ _ _ _ _ _ hQ
 ·obtain ⟨x,t,e1,rfl⟩:=Ec rv _ v hv;obtain ⟨b1,b2⟩:=Jj (fun i j=>decide (ns.getD i 0 < ns.getD j 0)) (fun i=>ns.getD i 0) (fun i j h=>by have:=of_decide_eq_true h; lia) (fun i j h=>by have:=of_decide_eq_false h; lia) (Ap.length - 1);refine ⟨.int x,H,I.kept k2,⟨t,rfl⟩,q x (YY e1) fun y hy=>?_⟩;obtain ⟨j,hj,rfl⟩:=Zm hy;have:=b2 j (by lia);have e2:ns.getD j 0=ns[j]:=by simp [hj]
  have e3:ns.getD (argBest (fun i j=>decide (ns.getD i 0 < ns.getD j 0)) (Ap.length - 1)) 0=x:=by
   rw [Zw,e1]; rfl
  rw [e2,e3] at this;exact this
def Md (ws:List A8) (ss:List Str) (y:Str) (d:Int):Prop:=(∃ s ∈ ss,Bh ws s y d)/\∀ s ∈ ss,∀ m,Bh ws s y m->d<=m
theorem Md.uniq {ws:List A8} {ss:List Str} {y:Str} {d e:Int} (h:Md ws ss y d) (g:Md ws ss y e):d=e:=by
 obtain ⟨⟨s,hs,h1⟩,h2⟩:=h;obtain ⟨⟨t,ht,g1⟩,g2⟩:=g;have a:=h2 t ht _ g1;have b:=g2 s hs _ h1;lia
def Mg (ws:List A8) (ss:List Str) (rs:List BJ) (ds:List Int):Prop:=ds.length=rs.length/\∀ (i:Nat) r d,rs[i]? = some r->ds[i]? = some d->Md ws ss r.1 d
theorem Mg.uniq {ws:List A8} {ss:List Str} {rs:List BJ} {ds es:List Int} (h:Mg ws ss rs ds) (g:Mg ws ss rs es):ds=es:=by
 refine aH (by rw [h.1,g.1]) fun i i1 i2=>?_
 have hr:rs[i]? = some (rs[i]'(by rw [<-h.1]; exact i1)):=YU _;exact (h.2 i _ _ hr (YU i1)).uniq (g.2 i _ _ hr (YU i2))
def DZ (rs:List BJ) (ds:List Int):Int:=((rs.zip ds).map fun p=>p.1.2 * p.2).sum
def Bn (ws:List A8) (rs1 Av:List BJ) (ss:List Str) (t:Int):Prop:=∃ ds,Mg ws ss Av ds/\t=(ss.map (AO rs1)).sum + DZ Av ds
theorem Bn.uniq {ws:List A8} {rs1 Av:List BJ} {ss:List Str} {t u:Int} (h:Bn ws rs1 Av ss t) (g:Bn ws rs1 Av ss u):t=u:=by
 obtain ⟨ds,a,rfl⟩:=h;obtain ⟨es,b,rfl⟩:=g;rw [a.uniq b]
def FF (sites:List Str) (x:V) (ss:List Str):Prop:=ss ≠ []/\ss.Sublist sites/\Ea x ss.length=true
def RZ (H:Hp) (v:V) (xs:List Str) (ws:List A8) (s:Str):Prop:=∃ (B:Addr) (nb:List (Str × V)),v=.ref B/\H B=some (.dK (sK nb))/\nb.map (·.1)=xs/\∀ y u,(y,u) ∈ nb->∃ n,u=.int n/\HW ws s y n
def Ib:Sp:=fun vs H Q _=>∃ (c m:Addr) (n:Nat) (xs:List Str) (ws:List A8) (rs1 Av:List BJ) (x:V) (d:PyData),vs=[.ref c]/\Dv H c m n xs ws rs1 Av x d /\
 ∀ (H':Hp) (D:Addr) (nv:List (Str × V)),Au H H'->H D=none->H' D=some (.dK (sK nv))->nv.map (·.1)=rs1.map (·.1)->(∀ s v,(s,v) ∈ nv->RZ H' v xs ws s)->Q (.ref D) H'
def Q7:Sp:=fun vs H Q _=>∃ (c:Addr) (sites:List Str) (x:V) (d:PyData),vs=[.ref c]/\Oz H c sites x d /\
 ∀ mo:Int,0<=mo->(∀ k:Nat,k<=sites.length->((k:Int)<=mo ↔ Ea x k=true))->Q (.int mo) H
def JI:Sp:=fun vs H Q _=>∃ (c e m:Addr) (n:Nat) (xs:List Str) (ws:List A8) (rs1 Av:List BJ) (x:V) (d:PyData) (us:List V) (os:List (List Str)),vs=[.ref c,.ref e]/\Dv H c m n xs ws rs1 Av x d /\
 H e=some (.lst us)/\B9 H us os/\os.Nodup/\(∀ ss ∈ os,VD (rs1.map (·.1)) ss)/\os.length<=1024 /\
 ∀ (H':Hp) (D:Addr) (kvs:List (List A4 × V)),Au H H'->H D=none->H' D=some (.dT kvs)->kvs.map (·.1)=os.map (fun ss=>ss.map Sum.inr)->(∀ ss v,(ss.map Sum.inr,v) ∈ kvs->∃ t,v=.int t/\Bn ws rs1 Av ss t)->Q (.ref D) H'
def HA (l:List Str) (mo:Int) (fs:List (List Str)):Prop:=fs.Nodup/\∀ ss,ss ∈ fs ↔ ss.Sublist l/\(ss.length:Int)<=mo
theorem HA.nil {mo:Int} (h:0<=mo):HA [] mo [[]]:=⟨by simp,fun ss=>by
 constructor
 ·intro z;rw [Zl] at z;subst z;exact ⟨List.Sublist.refl _,by simpa using h⟩
 ·rintro ⟨z,_⟩;rw [cq.mp z];simp⟩
theorem HA.step {a:Str} {l:List Str} {mo:Int} {fs:List (List Str)} (ha:a ∉ l) (h:HA l mo fs):HA (l ++ [a]) mo (fs ++ (fs.filter fun f=>decide ((f.length:Int) < mo)).map (· ++ [a])):=by
 refine ⟨ZJ.mpr ⟨h.1,?_,?_⟩,fun ss=>?_⟩
 ·exact aT.mpr ((h.1.sublist ar).imp fun {x y} ne e=>ne (List.append_cancel_right e))
 ·rintro x hx y hy rfl;obtain ⟨g,hg,rfl⟩:=Zd.mp hy;exact ha (((h.2 _).mp hx).1.subset (by simp))
 ·rw [Zp,Zd,List.sublist_append_iff];constructor
  ·rintro (h1 | ⟨g,hg,rfl⟩)
   ·exact ⟨⟨ss,[],by simp,((h.2 _).mp h1).1,bC _⟩,((h.2 _).mp h1).2⟩
   ·obtain ⟨g1,g2⟩:=Zy.mp hg;exact ⟨⟨g,[a],rfl,((h.2 _).mp g1).1,List.Sublist.refl _⟩,by have:=of_decide_eq_true g2; rw [Za,Z9]; lia⟩
  ·rintro ⟨⟨l1,l2,rfl,s1,s2⟩,le⟩;have:l2=[]\/l2=[a]:=by
    cases s2 with
    | cons _ s=>exact .inl (cq.mp s)
    | cons_cons _ s=>rw [cq.mp s]; exact .inr rfl
   rcases this with rfl | rfl
   ·rw [ZY] at le ⊢;exact .inl ((h.2 _).mpr ⟨s1,le⟩)
   ·rw [Za,Z9] at le;exact .inr ⟨l1,Zy.mpr ⟨(h.2 _).mpr ⟨s1,by lia⟩,decide_eq_true (by lia)⟩,rfl⟩
theorem OS {J:It} {xs:List V} {S:Hp->Prop} {g:TG} {tk tv:TE} {H:Hp} {σ0:St} {R:Addr->Hp->Prop} (ov:Nb J xs S) (ks:List Str) (hk:ks.length=xs.length) (nd:ks.Nodup) (I:Addr->Nat->St->Hp->List (Str × V)->Prop) (big:xs.length < sizeLine)
  (h0:∀ D,H D=none->I D 0 σ0 (upd H D (.dK (sK []))) [])
  (hs:∀ D i σ H' nv,H D=none->I D i σ H' nv->S H'/\H' D=some (.dK (sK nv))/\nv.map (·.1)=ks.take i)
  (turn:∀ D i σ H' nv x k (B:St->V->V->Hp->Prop),H D=none->xs[i]? = some x->ks[i]? = some k->I D i σ H' nv->(∀ Ay v H6,H6 D=some (.dK (sK nv))->I D (i + 1) Ay (upd H6 D (.dK (sK (nv ++ [(k,v)])))) (nv ++ [(k,v)])->B Ay (.str k) v H6) ->
   g x σ H' fun Ay H3=>tk Ay H3 fun y H5=>tv Ay H5 fun v H6=>B Ay y v H6)
  (fin:∀ D σ H' nv,H D=none->I D xs.length σ H' nv->R D H') :
  ∀ D,H D=none->∃ W:Nat->Nat->St->Hp->Prop,(∃ m,W 0 m σ0 (upd H D (.dK []))) /\
   ∀ i m As H',W i m As H'->(J.stop i H'/\R D H')\/(J.go i H'/\∀ x H2,J.yld i H' x H2->g x As H2 fun Ay H3=>Kx Ay H3 fun b H4=>
    if b=true then tk Ay H4 (fun y H5=>tv Ay H5 fun v H6=>∃ kvs k,y=kV k/\H6 D=some (.dK kvs)/\kvs.length < sizeLine/\∃ m',m' < m/\W (i + 1) m' Ay (upd H6 D (.dK (Bp kvs k v)))) else ∃ m',m' < m/\W (i + 1) m' Ay H4):=by
 intro D hD;exists fun i m σ H'=>m=xs.length - i/\i<=xs.length/\∃ nv,I D i σ H' nv,⟨xs.length,rfl,Z7 _,[],h0 D hD⟩
 rintro i m σ H' ⟨rfl,hi,nv,p⟩;obtain ⟨s1,s2,s3⟩:=hs D i σ H' nv hD p;by_cases Bv:i < xs.length
 ·refine .inr ⟨ov.go i H' s1 Bv,fun x H2 y=>?_⟩;obtain ⟨rfl,ex⟩:=ov.yld i H' x H2 s1 y;have hki:i < ks.length:=by lia
  have ek:ks[i]? = some ks[i]:=YU hki;have nin:ks[i] ∉ nv.map (·.1):=by
   rw [s3];intro Qe;obtain ⟨j,hj,e⟩:=Zm Qe;rw [Z8] at hj;rw [aU] at e;have:=Hn nd (YU (show j < ks.length by lia)) (by rw [ek,e]);lia
  have nl:nv.length=i:=by
   have:=congrArg aE s3;rw [YV,Z8] at this;lia
  have e:∀ (F:St->V->V->Hp->Prop) (G:St->Hp->Prop),(fun (Ay:St) (H3:Hp)=>Kx Ay H3 fun b H4=>if b=true then tk Ay H4 (fun y H5=>tv Ay H5 fun v H6=>F Ay y v H6) else G Ay H4)=fun Ay H3=>tk Ay H3 (fun y H5=>tv Ay H5 fun v H6=>F Ay y v H6):=by
   intro F G;funext Ay H3;show (if true=true then tk Ay H3 (fun y H5=>tv Ay H5 fun v H6=>F Ay y v H6) else G Ay H3)=_
   rw [if_pos rfl]
  rw [e (fun Ay y v H6=>∃ kvs k,y=kV k/\H6 D=some (.dK kvs)/\kvs.length < sizeLine/\∃ m',m' < xs.length - i/\(m'=xs.length - (i + 1)/\i + 1<=xs.length/\∃ DF,I D (i + 1) Ay (upd H6 D (.dK (Bp kvs k v))) DF)) (fun Ay H4=>∃ m',m' < xs.length - i/\(m'=xs.length - (i + 1)/\i + 1<=xs.length/\∃ DF,I D (i + 1) Ay H4 DF))];refine turn D i σ H2 nv x ks[i] _ hD ex ek p fun Ay v H6 d6 p6=>?_
  exact ⟨_,Sum.inr ks[i],rfl,d6,by rw [CL]; lia,xs.length - (i + 1),by lia,rfl,Bv,nv ++ [(ks[i],v)],by rw [Dw nin]; exact p6⟩
 ·have e:i=xs.length:=by lia
  subst e;exact .inl ⟨ov.stop H' s1,fin D σ H' nv hD p⟩
theorem Le {α β:Type} {b:β}:∀ {as:List α} {bs:List β} {a:α},as[bs.length]? = some a->as.zip (bs ++ [b])=as.zip bs ++ [(a,b)]
 | [],bs,a,h=>by simp at h
 | x :: as,[],a,h=>by simp at h; subst h; simp
 | x :: as,y :: bs,a,h=>by
  have:=Le (as:=as) (bs:=bs) (b:=b) (a:=a) (by simpa using h);simp [this]
theorem Oj {a b:List Str} (h:a.map (Sum.inr:Str->A4)=b.map Sum.inr):a=b:=by
 induction a generalizing b with
 | nil=>cases b with | nil=>rfl | cons _ _=>cases h
 | cons x a ih=>
  cases b with
  | nil=>cases h
  | cons y b=>
   rw [Zr,Zr] at h;injection h with h1 h2;injection h1 with h1;rw [h1,ih h2]
theorem S2 (ss:List Str):(ss.map (Sum.inr:Str->A4)).map kV=ss.map V.str:=by rw [ZA]; rfl
theorem Lg {κ:Type} [DecidableEq κ] {kvs:List (κ × V)} {k:κ} (h:k ∉ kvs.map (·.1)):Bd kvs k=none:=by
 cases e:Bd kvs k with
 | none=>rfl
 | some v=>exact absurd (So e) h
theorem FO {κ:Type} [DecidableEq κ] {k:κ} {v:V}:∀ {kvs:List (κ × V)} {q:Nat},(kvs.map (·.1)).Nodup->kvs[q]? = some (k,v)->Bd kvs k=some v
 | [],q,_,e=>by simp at e
 | p :: kvs,0,_,e=>by
  simp at e;subst e;exact Bw rfl
 | p :: kvs,q + 1,nd,e=>by
  rw [Zr] at nd;obtain ⟨n1,n2⟩:=Z3.mp nd;have e':kvs[q]? = some (k,v):=by simpa using e
  rw [Bo (fun z=>n1 (by rw [z]; exact Zd.mpr ⟨_,YY e',rfl⟩))];exact FO n2 e'
theorem Il {n:Nat} {g:TG} {te:TE} {H:Hp} {σ0:St} {R:Addr->Hp->Prop} (I:Addr->Nat->St->Hp->List V->Prop) (big:n < sizeLine)
  (h0:∀ D,H D=none->I D 0 σ0 (upd H D (.lst [])) [])
  (hs:∀ D i σ H' acc,H D=none->I D i σ H' acc->H' D=some (.lst acc)/\acc.length=i)
  (turn:∀ D i σ H' acc (B:St->V->Hp->Prop),H D=none->i < n->I D i σ H' acc->(∀ Ay v H5,H5 D=some (.lst acc)->I D (i + 1) Ay (upd H5 D (.lst (acc ++ [v]))) (acc ++ [v])->B Ay v H5)->g (.int (0 + (i:Int))) σ H' fun Ay H3=>te Ay H3 (B Ay))
  (fin:∀ D σ H' acc,H D=none->I D n σ H' acc->R D H') :
  ∀ D,H D=none->∃ W:Nat->Nat->St->Hp->Prop,(∃ m,W 0 m σ0 (upd H D (.lst []))) /\
   ∀ i m As H',W i m As H'->((Sk 0 n).stop i H'/\R D H')\/((Sk 0 n).go i H'/\∀ x H2,(Sk 0 n).yld i H' x H2->g x As H2 fun Ay H3=>Kx Ay H3 fun b H4=>
    if b=true then te Ay H4 (fun v H5=>∃ acc,H5 D=some (.lst acc)/\acc.length < sizeLine/\∃ m',m' < m/\W (i + 1) m' Ay (upd H5 D (.lst (acc ++ [v])))) else ∃ m',m' < m/\W (i + 1) m' Ay H4):=by
 intro D hD;exists fun i m σ H'=>m=n - i/\i<=n/\∃ acc,I D i σ H' acc,⟨n,rfl,Z7 _,[],h0 D hD⟩
 rintro i m σ H' ⟨rfl,hi,acc,p⟩;obtain ⟨s2,s3⟩:=hs D i σ H' acc hD p;by_cases Bv:i < n
 ·refine .inr ⟨Bv,fun x H2 ⟨e1,e2⟩=>?_⟩;subst e1 e2;have e:∀ (F:St->V->Hp->Prop) (G:St->Hp->Prop),(fun (Ay:St) (H3:Hp)=>Kx Ay H3 fun b H4=>if b=true then te Ay H4 (F Ay) else G Ay H4)=fun Ay H3=>te Ay H3 (F Ay):=by
   intro F G;funext Ay H3;show (if true=true then te Ay H3 (F Ay) else G Ay H3)=_
   rw [if_pos rfl]
  rw [e (fun Ay v H5=>∃ acc,H5 D=some (.lst acc)/\acc.length < sizeLine/\∃ m',m' < n - i/\(m'=n - (i + 1)/\i + 1<=n/\∃ Jk,I D (i + 1) Ay (upd H5 D (.lst (acc ++ [v]))) Jk)) (fun Ay H4=>∃ m',m' < n - i/\(m'=n - (i + 1)/\i + 1<=n/\∃ Jk,I D (i + 1) Ay H4 Jk))];refine turn D i σ H2 acc _ hD Bv p fun Ay v H5 d5 p5=>?_
  exact ⟨acc,d5,by lia,n - (i + 1),by lia,rfl,Bv,_,p5⟩
 ·have e:i=n:=by lia
  subst e;exact .inl ⟨Zb _,fin D σ H' acc hD p⟩
theorem JK {z:Str} (l u:Option Int) (h:T8 z):T8 (Txt.slice z l u):=by
 unfold Txt.slice;split
 ·exact h
 ·intro c hc;have Ht:c ∈ (Builtin.Str.strSliceIndices l u 1 z.length).filterMap (z.cps[·]?):=by simpa using hc
  obtain ⟨i,_,e⟩:=bT.mp Ht;exact h c (by rw [cR]; exact cP e)
theorem QD {z:Str} {a:Int} (h0:0<=a) (h1:a<=z.length):(Txt.slice z none (some a)).length<=a.toNat:=by
 have e:(Builtin.Str.strSliceIndices none (some a) 1 z.length).length=a.toNat:=by
  unfold Builtin.Str.strSliceIndices sliceRange;simp only [show (1:Int) > 0 by decide,if_true,YV,aP];(split <;> (try split) <;> (try split) <;> (try simp only [eI]) <;> lia)
 unfold Txt.slice;split
 ·rename_i q
  rw [e] at q;have:a.toNat=z.length:=by simpa using q
  lia
 ·show (e7 _ (Builtin.Str.strSliceIndices none (some a) 1 z.length)).toArray.size<=_
  rw [Zt,<-e];exact cM _ _
theorem Mu {z:Str} {a:Int} (h0:0<=a) (h1:a<=z.length):(Txt.slice z (some a) none).length<=z.length - a.toNat:=by
 have e:(Builtin.Str.strSliceIndices (some a) none 1 z.length).length=z.length - a.toNat:=by
  unfold Builtin.Str.strSliceIndices sliceRange;simp only [show (1:Int) > 0 by decide,if_true,YV,aP];(split <;> (try split) <;> (try split) <;> (try simp only [eI]) <;> lia)
 unfold Txt.slice;split
 ·rename_i q
  rw [e] at q;have:z.length - a.toNat=z.length:=by simpa using q
  lia
 ·show (e7 _ (Builtin.Str.strSliceIndices (some a) none 1 z.length)).toArray.size<=_
  rw [Zt,<-e];exact cM _ _
theorem Ri {X:Cx}:Et X (binaryOp .Mult) (fun x y H Q=>∃ z n,x=.str z/\y=.int n/\(n=0\/n=1)/\Q (.str (if n=1 then z else Str.empty)) H):=by
 intro pins s σ H x y v u Q I rx ry h;obtain ⟨z,n,rfl,rfl,hn,q⟩:=h;obtain ⟨t,rfl⟩:=rx;obtain ⟨t',rfl⟩:=ry;rcases hn with rfl | rfl
 ·exact PySem.P.mul_str_none (by decide) (by decide) ⟨.str Str.empty,H,I.tok _,⟨_,rfl⟩,q⟩
 ·refine PySem.P.mul_str (by decide) (fun _ z=>by simp at z) (fun _ z=>by simp at z) ?_;rw [if_neg (by decide),if_pos (by simp)];exact ⟨.str z,H,I,⟨_,rfl⟩,q⟩
section
variable {prog:Program} {w:World} {A:Around} {E:Value->Shared->Prop} {s:Shared}
end
theorem JW (a b:Str):BK a b=BK b a:=by
 unfold BK;split
 ·rename_i h
  rw [if_neg (fun z=>b7 h z)]
 ·rename_i h
  split
  ·rfl
  ·rename_i h'
   exact Cy h h'
theorem JX (a b:Str):BL a b=BL b a:=by
 unfold BL;split
 ·rename_i h
  rw [if_neg (fun z=>b7 h z)]
 ·rename_i h
  split
  ·rfl
  ·rename_i h'
   exact (Cy h h').symm
theorem Bg (K:YX) {X:Cx} (h:X.K=K):Bi X (.type "tuple") (fun xs H Q=>∃ p ys,xs=[.ref p]/\((A9 K H p ys/\∀ l,H l=none->Q (.ref l) (upd H l (.tup ys)))\/(AF K H p ys/\Q (.ref p) H))):=by subst h; exact J4
end L2
namespace L2
open PySem PySem.Spec PySem.W PyProof.Rows
theorem Gq (K:YX) {X:Cx} (h:X.K=K):Bi X (.builtin "sorted") (fun xs H Q=>∃ (a:Addr) (ss:List Str),xs=[.ref a]/\A9 K H a (ss.map V.str)/\ss.length < 64 /\
  ∀ (l:Addr) (Dg:List Str),H l=none->Dg.Perm ss->sortedS Dg=true->Q (.ref l) (upd H l (.lst (Dg.map V.str)))):=by subst h; exact Cd
section
variable {prog:Program} {w:World} {A:Around} {E:Value->Shared->Prop} {s:Shared} {κ:SortKind} {lt:Keyed->Keyed->Bool} {a0:Array Keyed}
theorem Gj {n:Nat} (h1:1<=n) (Mm:n < 64):(sortPriv% PySem.Builtin.minRun) n n 0=n:=by
 obtain ⟨f,hf⟩:∃ f,n=f + 1:=⟨n - 1,by lia⟩
 have:minRun' (f + 1) n 0=n:=by rw [minRun'_succ,if_pos Mm]; rfl
 rw [<-hf] at this;exact this
theorem HX {st:SortSt} {Q:Unit->SortSt->Prop} (sw:PZ lt) (an:Vy prog w A s κ lt a0) (hk:kindOf st=κ) (ha:arrOf st=a0) (hf:failedOf st=none) (hpe:pendingOf st=#[]) (h2:1<=a0.size) (Mm:a0.size < 64)
  (h:∀ AQ,(arrOf AQ).Perm a0->failedOf AQ=none->(arrOf AQ).toList.Pairwise (Nl lt)->Q () AQ):wpS (model prog w) A E s sortRuns' Q st:=by
 have hp:(arrOf st).Perm a0:=by rw [ha]
 refine wpS_bind (wpS_get ?_);dsimp only;have ez:((sortPriv% PySem.Builtin.SortState.a) st).size=a0.size:=by rw [show (sortPriv% PySem.Builtin.SortState.a) st=a0 from ha]
 rw [ez];refine wpS_bind (wpS_mono (wpS_forRange (I:=fun x c AQ=>(x=0/\c=(none,0)/\AQ=st)\/(1<=x/\c=(none,a0.size)/\(arrOf AQ).Perm a0/\failedOf AQ=none/\(pendingOf AQ).size<=1/\SS lt (arrOf AQ) 0 a0.size))
  (Q:=fun c AQ=>c=(none,a0.size)/\(arrOf AQ).Perm a0/\failedOf AQ=none/\(pendingOf AQ).size<=1/\SS lt (arrOf AQ) 0 a0.size) ?step ?fin (.inl ⟨rfl,rfl,rfl⟩)) ?post)
 case fin=>
  rintro c AQ (⟨hx,_,_⟩ | ⟨_,r⟩)
  ·lia
  ·exact r
 case step=>
  rintro x c AQ _ hx (⟨rfl,rfl,rfl⟩ | ⟨_,rfl,r⟩)
  ·dsimp only;rw [if_neg (by lia)];refine wpS_bind (Jq sw an hk hp (by lia) (by lia) fun m ys k1 m1 m2 s1=>?_);dsimp only;have hpd:∀ zs,(pendingOf (setArr AQ zs)).back? = none:=fun zs=>by
    show (pendingOf AQ).back? = none
    rw [hpe];rfl
   by_cases hm:m < (sortPriv% PySem.Builtin.minRun) a0.size a0.size 0
   ·rw [if_pos hm];refine wpS_bind (wpS_lift (wpAny_rule ⟨rfl,?_⟩));refine wpS_bind (HC (st:=setArr AQ ys) sw an hk (k1.1.trans hp) (by lia) m1 (by lia) s1 fun zs k2 s2=>?_);simp only [eD,Z1,if_false];refine wpS_bind (wpS_get ?_);rw [hpd];dsimp only;have emin:min (a0.size - 0) ((sortPriv% PySem.Builtin.minRun) a0.size a0.size 0)=a0.size:=by rw [Gj h2 Mm]; lia
    rw [emin];exact wpS_bind (wpS_modify (wpS_pure (.inr ⟨by lia,by rw [aI],k2.1.trans (k1.1.trans hp),hf,by show ((pendingOf AQ).push _).size<=1; rw [hpe]; exact Zb 1 ,by rw [emin,aI] at s2; exact s2⟩)))
   ·rw [if_neg hm];rw [Gj h2 Mm] at hm;have em:m=a0.size:=by lia
    refine wpS_bind (wpS_get ?_);rw [hpd];dsimp only;rw [em];exact wpS_bind (wpS_modify (wpS_pure (.inr ⟨by lia,by rw [aI],k1.1.trans hp,hf,by show ((pendingOf AQ).push _).size<=1; rw [hpe]; exact Zb 1 ,by rw [em,aI] at s1; exact s1⟩)))
  ·dsimp only;rw [if_pos (Zb _)];exact wpS_pure ⟨rfl,r⟩
 case post=>
  rintro c AQ ⟨rfl,r1,r2,r3 ,r4⟩;dsimp only;refine wpS_bind (wpS_mono (wpS_forRange (I:=fun _ c HD=>HD=AQ/\c=(none,())) (Q:=fun c HD=>HD=AQ/\c=(none,())) ?_ (fun _ _ hh=>hh) ⟨rfl,rfl⟩) ?_)
  ·rintro x c HD _ _ ⟨rfl,rfl⟩;refine wpS_bind (wpS_get ?_);rw [if_pos r3];exact wpS_pure ⟨rfl,rfl⟩
  ·rintro c HD ⟨rfl,rfl⟩;exact wpS_pure (h _ r1 r2 (Uq fun i j hij hj=>r4 i j (Z7 _) (bj hij) (by have:=r1.size_eq; lia)))
theorem IG {a:Addr} {vs:List Value} {n:Nat} {P:Fin->Shared->Prop} (sw:PZ lt) (lies:s.heap.get? a=some (seqObj "list" vs.toArray n)) (few:vs.length<=sizeLine) (Mm:vs.length < 64)
  (cm:2<=vs.length->∀ h',(∀ b o,b ≠ a->s.heap.get? b=some o->h'.get? b=some o) ->
   ∃ κ,(∀ (Q:SortKind->Shared->Prop) (E:Value->Shared->Prop),Q κ { s with heap:=h' }->wpAny (model prog w) A (keyKind' vs.toArray) Q E { s with heap:=h' })/\Vy prog w A { s with heap:=h' } κ lt (pairsOf vs))
  (k:∀ out:List Value,out.Perm vs->out.Pairwise (fun u v=>lt (v,v) (u,u)=false)->P (.done (.ret .none)) { s with heap:=sortedHeap s.heap a vs out.toArray }) :
  wpAny (model prog w) A (Builtin.«list.sort» ⟨[.ref a],[]⟩) P E s:=by
 have alt:=Zc lies;rw [list_sort_plain];refine wpAny_bind (listItems_at lies rfl (wpAny_bind (listUpdate_at lies rfl ?_ (by simpa using few) (Z7 _))));obtain ⟨c,Ui⟩:∃ c,(s.heap.update a (Obj.mapSeq fun _=>#[])).get? a=some (seqObj "list" #[] c):=⟨_,get?_update_seq lies (fun _=>#[])⟩
 refine wpAny_bind (seqEpoch_at Ui rfl (wpAny_bind (wpAny_newTuple (wpAny_bind (wpAny_newList (wpAny_holding ?_) (Z7 _))) (by simpa using few))));obtain ⟨h3,Xt⟩:∃ h3,h3=((s.heap.update a (Obj.mapSeq fun _=>(#[]:Array Value))).push (seqObj "tuple" vs.toArray 0)).push (seqObj "list" #[] 0):=⟨_,rfl⟩
 have Oa:h3.get? a=some (seqObj "list" #[] c):=by
  rw [Xt];exact YW _ (YW _ Ui)
 have Wk:∀ b o,b ≠ a->s.heap.get? b=some o->h3.get? b=some o:=fun b o hb e=>by
  rw [Xt];exact YW _ (YW _ ((dt _ _ _ _ hb).trans e))
 show wpAny (model prog w) A _ P E { s with heap:=((s.heap.update a (Obj.mapSeq fun _=>(#[]:Array Value))).push (seqObj "tuple" vs.toArray 0)).push (seqObj "list" #[] 0) }
 rw [<-Xt];have last:∀ AQ:SortSt,(arrOf AQ).Perm (pairsOf vs)->(arrOf AQ).toList.Pairwise (Nl lt)->P (.done (.ret .none)) { s with heap:=h3.update a (Obj.mapSeq fun _=>(arrOf AQ).map (·.2)) }:=fun AQ hp hs=>by
  have e:(arrOf AQ).map (·.2)=((arrOf AQ).toList.map (·.2)).toArray:=by apply cg.mp; simp
  have q:=k _ (Rh hp) (Rg hp hs);rw [<-e] at q;rw [Xt];exact q
 have zl:∀ AQ:SortSt,(arrOf AQ).Perm (pairsOf vs)->((arrOf AQ).map (·.2)).size<=sizeLine + 1:=fun AQ hp=>by
  rw [Array.size_map,hp.size_eq,pairsOf_size];lia
 have zv:vs.toArray.size=vs.length:=rfl;dsimp only;rcases bJ vs.toArray.size 2 with lo | hi
 ·rw [if_pos lo,if_pos lo];refine wpAny_bind (wpAny_pure ?_);rw [StateT.run_pure];refine wpAny_bind (wpAny_pure (wpAny_bind (seqEpoch_at Oa rfl ?_)));have p0:(arrOf (SortSt.mk' general' (vs.toArray.zip vs.toArray) #[] 7 none)).Perm (pairsOf vs):=Array.Perm.refl _;refine wpAny_bind (listUpdate_at Oa rfl ?_ (Z7 _) (zl _ p0));rw [bne_self_eq_false];refine wpAny_pure (last _ p0 (Uq fun i j hij hj=>?_));have:=p0.size_eq;rw [pairsOf_size] at this;have HI:j < (arrOf (SortSt.mk' general' (vs.toArray.zip vs.toArray) #[] 7 none)).size:=hj;lia
 ·rw [if_neg (by lia),if_neg (by lia)];obtain ⟨κ,k1,k2⟩:=cm (by lia) h3 Wk;refine wpAny_bind (k1 _ _ ?_);refine wpAny_bind (wpAny_mono (HX (a0:=pairsOf vs) (st:=SortSt.mk' κ (vs.toArray.zip vs.toArray) #[] 7 none)
   (Q:=fun _ AQ=>(arrOf AQ).Perm (pairsOf vs)/\failedOf AQ=none/\(arrOf AQ).toList.Pairwise (Nl lt)) sw k2 rfl rfl rfl rfl (by rw [pairsOf_size]; lia) (by rw [pairsOf_size]; lia) fun AQ a1 a2 a3=>⟨a1,a2,a3⟩) ?_ fun _ _ e=>e)
  rintro ⟨u,AQ⟩ s' ⟨rfl,hp,hf,hs⟩;refine wpAny_bind (seqEpoch_at Oa rfl (wpAny_bind (listUpdate_at Oa rfl ?_ (Z7 _) (zl _ hp))));dsimp only;rw [hf,bne_self_eq_false];exact wpAny_pure (last AQ hp hs)
theorem QC {l:Addr} {vs:List Value} {Q:Value->Shared->Prop} (sw:PZ lt) (hl:s.heap.IsList l vs.toArray) (few:vs.length<=sizeLine) (Mm:vs.length < 64) (cm:Cmpd prog w s lt vs)
  (k:∀ out:List Value,out.Perm vs->out.Pairwise (fun u v=>lt (v,v) (u,u)=false)->Q (.ref (s.heap.objs.size + 1)) { s with heap:=sortedAll s.heap vs out.toArray }) :
  wpAny (model prog w) A (call (.builtin "sorted") [.ref l]) Q E s:=by
 refine Calls.call_function_entry kind_sorted plain_sorted entry_sorted (args_sorted1 _) ?_;unfold Builtin.«sorted»;refine wpAny_bind (m:=checkCount "sorted" 1 1 _) (wpAny_pure (wpAny_bind (collect_list hl ?_ few)));refine wpAny_bind (wpAny_newList ?_ (by simpa using few));obtain ⟨h1,Xu⟩:∃ h1,h1=(s.heap.push (seqObj "list" #[] 0)).update s.heap.objs.size (Obj.mapSeq (· ++ vs.toArray)):=⟨_,rfl⟩
 have z1:h1.objs.size=s.heap.objs.size + 1:=by rw [Xu,Heap.size_update,size_push']
 have lies:(h1.push (seqObj "list" vs.toArray 0)).get? (s.heap.objs.size + 1)=some (seqObj "list" vs.toArray 0):=by
  rw [<-z1];exact Zf _ rfl
 have keep:∀ b o,s.heap.get? b=some o->(h1.push (seqObj "list" vs.toArray 0)).get? b=some o:=fun b o q=>by
  have hb:=Zc q;refine YW _ ?_;rw [Xu,dt _ _ _ _ (Zh hb)];exact YW _ q
 show wpAny _ _ _ _ _ { s with heap:=((s.heap.push (seqObj "list" #[] 0)).update s.heap.objs.size (Obj.mapSeq (· ++ vs.toArray))).push (seqObj "list" vs.toArray 0) }
 rw [<-Xu,z1];refine wpAny_bind (wpAny_holding (wpAny_call_entry slot_list_sort ⟨_,lies,rfl⟩ entry_list_sort (IG (s:={ s with heap:=h1.push (seqObj "list" vs.toArray 0) }) sw lies few Mm ?_ fun out o1 o2=>⟨_,rfl,wpAny_pure ⟨_,rfl,?_⟩⟩) (args_list_sort _)))
 ·intro h2 h' kp;exact cm h2 _ h' fun b o e=>kp b o (Zh (Z0 (Zc e))) (keep b o e)
 ·have q:=k out o1 o2;unfold sortedAll at q;rw [<-Xu] at q;exact q
end
theorem FE {X:Cx}:Bi X (.builtin "sorted") (fun xs H Q=>∃ (a:Addr) (vs:List V) (kd:Nat->Bool),xs=[.ref a]/\A9 X.K H a vs/\(∀ v ∈ vs,MT H kd v)/\vs.length < 64 /\
  ∀ (l:Addr) (Kv:List V),H l=none->Kv.Perm vs->Kv.Pairwise (fun u v=>AN (Rv H v) (Rv H u)=false)->Q (.ref l) (upd H l (.lst Kv))):=by
 intro pins s σ H xs us Q I r h;obtain ⟨a,vs,kd,rfl,ha,hk,Mm,q⟩:=h;obtain ⟨u,rfl,ru⟩:=Cf r;cases ru
 obtain ⟨Ap,rv,pl,hz⟩:=I.list ha;have all:∀ {vs:List V} {Ap:List Value},A5 vs Ap->(∀ v ∈ vs,MT H kd v)->(∀ u ∈ Ap,Mi s.heap kd u)/\Ap.map (CN s.heap)=vs.map (Rv H):=by
  intro vs;induction vs with
  | nil=>intro Ap rv _; cases rv; exact ⟨(fun u hu=>nomatch hu),rfl⟩
  | cons v vs ih=>
   intro Ap rv hk;cases rv with
   | cons r1 r2=>
    obtain ⟨a1,a2⟩:=Qt I r1 (hk v Zq);obtain ⟨b1,b2⟩:=ih r2 fun v hv=>hk v (Zv _ hv)
    refine ⟨fun u hu=>?_,by rw [Zr,Zr,a2,b2]⟩;rcases Zg.mp hu with rfl | hu
    ·exact a1
    ·exact b1 u hu
 refine QC (Oc (CN s.heap)) pl.isList (by rw [<-rv.length]; exact hz) (by rw [<-rv.length]; exact Mm) (JF (all rv hk).1) fun out o1 o2=>?_
 obtain ⟨Kv,rv',pv⟩:=O3 o1 rv;have keys:=(all rv' fun v hv=>hk v (pv.mem_iff.mp hv)).2;obtain ⟨e,he⟩:=sortedAll_at s.heap Ap out.toArray;refine ⟨.ref (s.heap.objs.size + 1),_,I.laid (o:=.lst Kv) (t':=s.toks) (fun b o z=>sortedAll_old z) (ZC _) ⟨by rw [pv.length_eq]; exact hz,out,e,rv',he⟩,rfl,q _ Kv (I.hok.fresh (ZC _)) pv ?_⟩;have p1:(out.map (CN s.heap)).Pairwise (fun a b=>AN b a=false):=aT.mpr o2;rw [keys] at p1;exact aT.mp p1
theorem Fl (K:YX) {X:Cx} (h:X.K=K):Bi X (.builtin "sorted") (fun xs H Q=>∃ (a:Addr) (vs:List V) (kd:Nat->Bool),xs=[.ref a]/\A9 K H a vs/\(∀ v ∈ vs,MT H kd v)/\vs.length < 64 /\
  ∀ (l:Addr) (Kv:List V),H l=none->Kv.Perm vs->Q (.ref l) (upd H l (.lst Kv))):=by
 subst h;intro pins s σ H xs us Q I r h;obtain ⟨a,vs,kd,rfl,ha,hk,Mm,q⟩:=h;exact FE (pins:=pins) s σ H _ us Q I r ⟨a,vs,kd,rfl,ha,hk,Mm,fun l Kv hl pv _=>q l Kv hl pv⟩
end L2
namespace L2
open PySem PySem.Spec PyProof.Rows
open PySem.W
section
variable {prog:Program} {w:World} {A:Around} {E:Value->Shared->Prop} {s:Shared} {κ:SortKind} {lt:Keyed->Keyed->Bool} {a0:Array Keyed}
end
section
variable {prog:Program} {w:World} {A:Around} {s:Shared}
end
end L2
namespace L2
open PySem PySem.Spec PyProof.Rows
theorem Ru {mask finger moves:Nat} {led plain:Bool} {hs:Array Int} {t:SetTable} {o:Array Nat} (h:SetTable.laid mask finger moves led plain hs=some (t,o)):t.led=led/\t.plain=plain:=by
 unfold SetTable.laid at h;cases e:SetTable.layClean mask hs with
 | none=>rw [e] at h; cases h
 | some ow=>
  rw [e] at h;injection h with h;injection h with h1 h2;subst h1;exact ⟨rfl,rfl⟩
theorem OQ (t:SetTable) (es:Array (Int × Value)) (wanted:Nat):(relayAll t es wanted).2.1.led=t.led/\(t.plain=false->(relayAll t es wanted).2.1.plain=false):=by
 unfold relayAll;split
 ·rename_i t' order e
  have:=Ru e;dsimp only;split
  ·exact ⟨this.1,fun z=>this.2.trans z⟩
  ·exact ⟨rfl,fun _=>rfl⟩
 ·exact ⟨rfl,fun _=>rfl⟩
theorem Tb (t:SetTable) (es:Array (Int × Value)) (h:Int) (x:Value):(layNew t es h x).2.1.led=t.led:=by
 unfold layNew;split
 ·dsimp only;unfold SetTable.orStandIn;split <;> rfl
 ·rfl
section
variable {prog:Program} {w:World} {A:Around} {E:Value->Shared->Prop} {s:Shared}
def Tab (w:World) (es:Array (Int × Value)) (t:SetTable):Prop:=t.led=(!w.params.followText "set-order")/\(0 < es.size->t.plain=false)
def Dh (prog:Program) (w:World) (h:Heap) (a:Addr) (S:Str->Bool) (n:Nat):Prop:=
 ∃ o es ep t,h.get? a=some o/\o.ExactSet/\o.data=.set es ep t/\ElemsOf (PySem.strKind prog w) es.toList/\(∀ k,S k=true ↔ ∃ e ∈ es.toList,(PySem.strKind prog w).is k e.2=true) /\
  es.size < scanBound/\t.fits es.size=true/\es.size=n/\Tab w es t
theorem QI {a:Addr} {S:Str->Bool} {n:Nat} {k:Str} {tk:Tok} {Q:Bool->Shared->Prop} (hS:Dh prog w s.heap a S n) (room:n + 1 < scanBound)
  (h:∀ h',Heap.SameBut a s.heap h'->Dh prog w h' a (fun k'=>S k' || decide (k'=k)) (if S k then n else n + 1)->Q (!S k) { s with heap:=h' }) :
  wpAny (model prog w) A (setAddHashed a (.str k tk) ((PySem.strKind prog w).hash k)) Q E s:=by
 obtain ⟨o,es,ep,t,ho,ex,hd,el,mem,few,fit,hn,tab⟩:=hS;have is:(PySem.strKind prog w).is k (.str k tk)=true:=by simp [PySem.strKind,Value.isStrOf]
 have sc:(Value.str k tk).scannable=true:=rfl;have Vk:es.size + 1 < scanBound:=by lia
 unfold setAddHashed setAddHashedIn;refine wpAny_holding (wpAny_bind (wpAny_setState_of ho hd fit ?_));dsimp only;rw [if_pos (byScan_of sc few el)];unfold setAddByScan;refine wpAny_bind (wpAny_bind (wpAny_rule (wpAny_bind (wpAny_setScan_of is ho hd fit el ?_))));cases hr:List.findIdx? (fun e=>(PySem.strKind prog w).is k e.2) es.toList with
 | some j=>
  obtain ⟨hj,pj,_⟩:=List.findIdx?_eq_some_iff_getElem.mp hr;have there:S k=true:=(mem k).mpr ⟨es.toList[j],ZQ hj,pj⟩;refine wpAny_pure (wpAny_pure ?_);have q:=h s.heap (Heap.SameBut.refl a s.heap) ⟨o,es,ep,t,ho,ex,hd,el,fun k'=>?_,few,fit,by rw [there]; exact hn,tab⟩
  ·rw [there] at q; exact q
  ·rw [Bool.or_eq_true,decide_eq_true_eq,<-mem k'];exact ⟨fun z=>z.elim id fun e=>e ▸ there,.inl⟩
 | none=>
  have gone:S k=false:=by
   cases z:S k with
   | false=>rfl
   | true=>
    obtain ⟨e,he,hp⟩:=(mem k).mp z;have:=List.findIdx?_eq_none_iff.mp hr e he;rw [hp] at this;cases this
  dsimp only;have pm:=layNew_perm t es ((PySem.strKind prog w).hash k) (.str k tk);have ft:=layNew_fits t es ((PySem.strKind prog w).hash k) (.str k tk);have ld:=Tb t es ((PySem.strKind prog w).hash k) (.str k tk);generalize layNew t es ((PySem.strKind prog w).hash k) (.str k tk)=L at pm ft ld ⊢;obtain ⟨Jp,t1,dum,gv⟩:=L;dsimp only at pm ft ld ⊢;rw [dA] at pm;have el1:=(el.push is sc).perm pm;have Wi:=mem_push_iff is mem pm;have z1:Jp.size=n + 1:=by rw [<-Z5,pm.length_eq,Za,Z5,hn]; rfl
  have Vj:Jp.size < scanBound:=by lia
  have fin:∀ (Lc:Array (Int × Value)) (t2:SetTable) (h':Heap) (o':Obj) (Tr:Nat),Heap.SameBut a s.heap h'->h'.get? a=some o'->o'.ExactSet->o'.data=.set Lc Tr t2->Lc.toList.Perm Jp.toList->t2.fits Lc.size=true->t2.led=t.led->t2.plain=false->Q true { s with heap:=h' }:=by
   intro Lc t2 h' o' Tr sb g x d p f l pl;have z2:Lc.size=n + 1:=by rw [<-z1,<-Z5,p.length_eq,Z5]
   have q:=h h' sb ⟨o',Lc,Tr,t2,g,x,d,el1.perm p,fun k'=>(Wi k').trans ⟨fun ⟨e,he,r⟩=>⟨e,p.mem_iff.mpr he,r⟩,fun ⟨e,he,r⟩=>⟨e,p.mem_iff.mp he,r⟩⟩,by lia,f,by rw [gone]; exact z2,l.trans tab.1,fun _=>pl⟩;rw [gone] at q;exact q
  have gw:∀ (b:Bool) {AJ:Shared} {R:Unit->Shared->Prop},R () AJ->wpAny (model prog w) A (match b with | true=>rule "set.scan.the-table-gave-way" | false=>pure ()) R E AJ:=fun b AJ R q=>by cases b <;> first | exact wpAny_pure q | exact wpAny_rule q
  refine wpAny_bind (gw gv ?_);have main:∀ t2:SetTable,t2.fits Jp.size=true->t2.led=t.led->t2.plain=false->wpAny (model prog w) A (do
    storeSet a Jp t2
    if (!dum && t2.tooFull)=true then do
      (match (relayAll t2 Jp (SetTable.grown Jp.size)).2.2 with | true=>rule "set.scan.the-table-gave-way" | false=>pure ())
      storeSet a (relayAll t2 Jp (SetTable.grown Jp.size)).1 (relayAll t2 Jp (SetTable.grown Jp.size)).2.1
      pure (some true)
     else pure (some true)) (fun r s'=>r=some true/\Q true s') E s:=by
   intro t2 f2 l2 p2;refine wpAny_bind (wpAny_storeSet_of ho hd ?_ (fits_of_scanBound Vj));obtain ⟨g1,_⟩:=SetOf_store (knd:=PySem.strKind prog w) ho ex hd el1 Wi Vj f2;have sb1:=Heap.SameBut.update s.heap a (Obj.putSet Jp t2);split
   ·have pr:=relayAll_perm t2 Jp (SetTable.grown Jp.size);have fr:=relayAll_fits t2 Jp (SetTable.grown Jp.size);have lr:=OQ t2 Jp (SetTable.grown Jp.size);generalize relayAll t2 Jp (SetTable.grown Jp.size)=R at pr fr lr ⊢;obtain ⟨Lc,t3,gv2⟩:=R;dsimp only at pr fr lr ⊢;have z2:Lc.size=Jp.size:=by rw [<-Z5,pr.length_eq,Z5]
    refine wpAny_bind (gw gv2 ?_);refine wpAny_bind (wpAny_storeSet_of g1 rfl ?_ (fits_of_scanBound (by rw [z2]; exact Vj)));have g2:=ZM (Obj.putSet Lc t3) g1 (by rw [putSet_of Lc t3 rfl]; rfl);rw [putSet_of Lc t3 rfl] at g2;exact wpAny_pure ⟨rfl,fin Lc t3 _ _ _ (sb1.trans (Heap.SameBut.update _ a _)) g2 ex rfl pr fr (lr.1.trans l2) (lr.2 p2)⟩
   ·exact wpAny_pure ⟨rfl,fin Jp t2 _ _ _ sb1 g1 ex rfl (.refl _) f2 l2 p2⟩
  by_cases pl:t1.plain=true
  ·rw [if_pos pl];refine wpAny_bind ?_;rw [hashByValue_scannable 8 sc];refine wpAny_pure ?_;refine wpAny_mono (main { t1 with plain:=false } (SetTable.fits_plain_off ft) ld rfl) (fun r s' z=>?_) fun _ _ z=>z
   obtain ⟨rfl,z⟩:=z;exact wpAny_pure z
  ·rw [if_neg pl];refine wpAny_bind (wpAny_pure ?_);refine wpAny_mono (main t1 ft ld (by simpa using pl)) (fun r s' z=>?_) fun _ _ z=>z
   obtain ⟨rfl,z⟩:=z;exact wpAny_pure z
end
section
variable {prog:Program} {w:World} {A:Around} {R:Result->Shared->Prop} {I:Addr} {fp wr:List Addr} {G:Array GenState->Array GenState->Prop} {n:Nat} {P:Nat->Value->Prop} {St:Nat->Shared->Prop}
theorem Dh.kept {h h':Heap} {a:Addr} {S:Str->Bool} {n:Nat} (hS:Dh prog w h a S n) (k:∀ o,h.get? a=some o->h'.get? a=some o):Dh prog w h' a S n:=by
 obtain ⟨o,es,ep,t,ho,r⟩:=hS;exact ⟨o,es,ep,t,k _ ho,r⟩
theorem Dh.as {h:Heap} {a:Addr} {S S':Str->Bool} {n n':Nat} (hS:Dh prog w h a S n) (e:∀ k,S' k=S k) (en:n'=n):Dh prog w h a S' n':=by
 subst en;have:S'=S:=funext e;rw [this];exact hS
theorem OM (W:WalksS prog w A.in1 I fp wr G n P St) (D:Addr) (hD:D ∉ fp) (val:Nat->Str) (hv:∀ i v,P i v->∃ tk,v=.str (val i) tk) (few:n + 1 < scanBound) :
  ∀ (k i:Nat) (s:Shared),n - i=k->i<=n->St i s->Dh prog w s.heap D (fun k'=>(met val i).any (· == k')) (met val i).length ->
   (∀ s',Moved (D :: wr) G s s'->Dh prog w s'.heap D (fun k'=>(met val n).any (· == k')) (met val n).length->R (.ok (.ret .none)) s') ->
   codeAny (model prog w) A (.builtin "set.update.loop" ⟨[.ref D,.ref I],[]⟩) R s:=by
 have hw:D ∉ wr:=fun z=>hD (W.sub _ z)
 have up:∀ b ∈ wr,b ∈ D :: wr:=fun b z=>Zv _ z
 intro k;induction k with
 | zero=>
  intro i s hk hi st hS q;have e:i=n:=by lia
  subst e;refine codeAny_builtin F.entry_set_update_loop ?_;rw [Around.under_plainId F.plain_set_update_loop _];refine wpAny_bind (W.done s _ _ st fun s' m=>?_);exact wpAny_pure (q s' (m.mono up) (hS.kept fun o e=>m.heap D _ hw e))
 | succ k ih=>
  intro i s hk hi st hS q;have lt:i < n:=by lia
  refine codeAny_builtin F.entry_set_update_loop ?_;rw [Around.under_plainId F.plain_set_update_loop _];refine wpAny_bind (W.item i s _ _ lt st fun v s' pv AQ m=>?_);obtain ⟨tk,rfl⟩:=hv i v pv;have Ol:=hS.kept (h':=s'.heap) fun o e=>m.heap D _ hw e
  refine wpAny_bind (wpAny_holding ?_);unfold setAdd;refine wpAny_holding ?_;refine wpAny_bind ((PySem.strKind prog w).pyHash (k:=val i) (by simp [PySem.strKind,Value.isStrOf]) ?_);refine QI (s:={ s' with toks:=s'.toks + 1 }) Ol (by have:=D4 val i; lia) fun h' sb hS2=>?_
  have nx:Dh prog w h' D (fun k'=>(met val (i + 1)).any (· == k')) (met val (i + 1)).length:=
   hS2.as (fun k'=>by rw [ID,OH]) (by rw [ID,FQ])
  refine wpAny_pure ⟨plainId_quiet F.plain_set_update_loop _,ih (i + 1) _ (by lia) lt (W.frame _ s' _ _ AQ (ZC _) fun b z o e=>?_) nx fun VV m2 V9=>?_⟩
  ·rw [sb.2 b fun y:b=D=>hD (y ▸ z)];exact e
  ·refine q VV (Moved.trans W.gtrans ((m.mono up).then_heap (ZC _) fun b o z e=>?_) m2) V9;rw [sb.2 b fun y:b=D=>z (y ▸ Zq)];exact e
end
section
variable {prog:Program} {w:World} {A:Around} {E:Value->Shared->Prop} {s:Shared}
theorem QH (a:Value) {Q₁:Value->Shared->Prop}
  (h:Q₁ (.ref s.heap.objs.size) { s with heap:=s.heap.push { cls:=.type "set",dict:=none,data:=.set #[] 0 (.fresh 0 0 (!w.params.followText "set-order")) } }) :
  codeAny (model prog w) A (.call (.builtin "set.__new__") ⟨[.type "set",a],[]⟩) (wants Q₁ E) s:=by
 refine codeAny_of_tree ?_;show wpAny _ A.in1 (checkBuiltinCall "set.__new__" ⟨[.type "set",a],[]⟩ >>= fun _=>again (.builtin "set.__new__" ⟨[.type "set",a],[]⟩)) _ _ s
 refine wpAny_bind (wpAny_of_eq (F.newCall_set_1 a) (wpAny_pure ⟨plainId_quiet F.plain_set_new _,codeAny_builtin F.entry_set_new ?_⟩));rw [Around.under_plainId F.plain_set_new _];unfold Builtin.«set.__new__» Builtin.Frozenset.newClass;have hsub:=sub_set_self;obtain ⟨hp,g,d,tk,os⟩:=s;dsimp only;wp_walk;refine wpAny_askSetting (wpAny_pure ?_);dsimp only;simp only [newObj];refine wpAny_bind (wpAny_alloc (wpAny_pure ?_));exact wpAny_pure h
theorem Nx {a:Addr} {T:String} {o:Obj} {oI:Obj} {items:Array Value} {val:Nat->Str} {St:Addr->Nat->Heap->Prop} {Q:Value->Shared->Prop} (hh:A.handled=none)
  (ho:s.heap.get? a=some o) (hc:o.cls=.type T) (hnd:(Value.type T == Value.type "dict")=false) (hs1:isSubtype (.type T) (.type "set")=pure false) (Ws:isSubtype (.type T) (.type "frozenset")=pure false)
  (hit:∀ (B:Around) (E':Value->Shared->Prop) (s1:Shared) (Q':Value->Shared->Prop),(∀ b o,s.heap.get? b=some o->s1.heap.get? b=some o)->Q' (.ref s1.heap.objs.size) { s1 with heap:=s1.heap.push oI }->wpAny (model prog w) B (pyIter (.ref a)) Q' E' s1)
  (hW:∀ (B:Around) (I:Addr),B.handled=none->a ≠ I->Walks prog w B I [I,a] [I] items.size (fun i v=>items[i]? = some v) (St I))
  (hst:∀ h:Heap,(∀ b o,s.heap.get? b=some o->h.get? b=some o)->St h.objs.size 0 (h.push oI))
  (hi:∀ (i:Nat) v,items[i]? = some v->∃ tk,v=.str (val i) tk) (few:items.size + 1 < scanBound)
  (h:∀ (h':Heap) (tk:Nat),Dh prog w h' s.heap.objs.size (fun k'=>(met val items.size).any (· == k')) (met val items.size).length ->
   (∀ b o,s.heap.get? b=some o->h'.get? b=some o)->Q (.ref s.heap.objs.size) { s with heap:=h',toks:=tk }) :
  wpAny (model prog w) A (call (.type "set") [.ref a]) Q E s:=by
 obtain ⟨c,tl,hmro⟩:=F.called_set.mro;have hmade:=F.called_set.made;have hsub:=F.called_set.sub;refine wpAny_call (codeAny_of_tree ?_);show wpAny _ _ (callAny (.type "set") _) _ _ _
 refine wpAny_pure ⟨Code.quiet_builtin _ (by decide +kernel),codeAny_builtin F.entry_type_call ?_⟩;rw [Around.under_plain (weight_type_call_type "set" [.ref a] []) rfl];have h1:=F.called_set.notType;have h2:=F.called_set.canCreate;have hct:=F.typeCall_set_1 (.ref a);repeat (any_goals (first | assumption | wp_step))
 obtain ⟨fr,efr⟩:∃ fr:Obj,fr = { cls:=.type "set",dict:=none,data:=.set #[] 0 (.fresh 0 0 (!w.params.followText "set-order")) }:=⟨_,rfl⟩
 refine codeAny_mono (QH (.ref a) (E:=E) (Q₁:=fun obj AJ=>obj=.ref s.heap.objs.size/\AJ = { s with heap:=s.heap.push fr }) ⟨rfl,by rw [efr]⟩) fun r AJ hr=>?_
 have gS:(s.heap.push fr).get? s.heap.objs.size=some fr:=Zf _ (by rw [efr]; rfl);have cf:fr.cls=.type "set":=by rw [efr]
 have new:∀ h5:Heap,h5.get? s.heap.objs.size=some fr->Dh prog w h5 s.heap.objs.size (fun k'=>(met val 0).any (· == k')) (met val 0).length:=fun h5 g=>
  ⟨fr,#[],0,.fresh 0 0 (!w.params.followText "set-order"),g,by rw [efr]; exact ⟨rfl,rfl,rfl⟩,by rw [efr],fun e he=>by simp at he,fun k=>by simp [met],by decide,rfl,rfl,rfl,fun z=>by simp at z⟩
 cases r with
 | error e=>exact hr
 | ok fl=>
  cases fl with
  | ret obj=>
   obtain ⟨rfl,rfl⟩:=hr;have hT:Shared.TypeIs { s with heap:=s.heap.push fr } (.ref s.heap.objs.size) "set":=⟨_,gS,cf⟩
   have hli:=F.called_set.init.lookup;have hbi:=F.called_set.init.bind (.ref s.heap.objs.size);repeat (any_goals (first | assumption | wp_step))
   refine codeAny_mono (codeAny_call_builtin (R:=wants (fun r Er=>r=.none/\∃ h' tk,Er = { s with heap:=h',toks:=tk } /\
     Dh prog w h' s.heap.objs.size (fun k'=>(met val items.size).any (· == k')) (met val items.size).length /\
     (∀ b o,s.heap.get? b=some o->h'.get? b=some o)) E) F.called_set.init.plain F.entry_set_init (check_set_init_1 hT ?_)) fun XD Er R1=>?_
   ·obtain ⟨ocls,odict,odata,oslots⟩:=o;simp only at hc;subst hc;have lt:a < s.heap.objs.size:=Zc ho;have Jy:(s.heap.push fr).get? a=some { cls:=.type T,dict:=odict,data:=odata,slots:=oslots }:=YW _ ho;subst efr;unfold Builtin.«set.__init__» noKeywords Builtin.Frozenset.updateFrom;generalize hPI:pyIter=PI;wp_walk;subst hPI;refine hit _ _ _ _ (fun b o e=>YW _ e) ?_;refine wpAny_bind (wpAny_runValue ?_);have ne:a ≠ (s.heap.push { cls:=.type "set",dict:=none,data:=.set #[] 0 (.fresh 0 0 (!w.params.followText "set-order")) }).objs.size:=by
     rw [ZH]; exact Zh (Z0 lt)
    have nS:s.heap.objs.size ∉ [(s.heap.push { cls:=.type "set",dict:=none,data:=.set #[] 0 (.fresh 0 0 (!w.params.followText "set-order")) }).objs.size,a]:=by
     rw [ZH]; simp only [Zg,ZE,or_false,not_or];exact ⟨Zh (Z6 _),ZO lt⟩
    refine OM ((hW _ _ (by simp [hh]) ne).toS) s.heap.objs.size nS val hi few (items.size - 0) 0 _ (by lia) (Z7 _) (hst _ fun b o e=>YW _ e) (new _ (YW _ gS)) ?_;intro s' hm Ol;obtain ⟨h',g',d',Qv,XI⟩:=s';have eg:g'=s.gens:=hm.gens;have ed:d'=s.drawn:=hm.drawn;have eo:XI=s.os:=hm.os;subst eg ed eo;refine wpAny_pure ?_;refine wpAny_pure ⟨rfl,h',Qv,rfl,Ol,fun b o e=>?_⟩;have hb:=Zc e;have W2:b ≠ s.heap.objs.size:=Zh hb;have hb2:b ≠ (s.heap.push { cls:=.type "set",dict:=none,data:=.set #[] 0 (.fresh 0 0 (!w.params.followText "set-order")) }).objs.size:=by
     rw [ZH]; exact Zh (Z0 hb)
    exact hm.heap b o (by simp only [Zg,ZE,or_false,not_or]; exact ⟨W2,hb2⟩) (YW _ (YW _ e))
   ·cases XD with
    | error e=>exact R1
    | ok WE=>
     cases WE with
     | ret r=>
      obtain ⟨rfl,h',tk,rfl,Ol,ML⟩:=R1;repeat (any_goals (first | assumption | wp_step))
      exact h _ _ Ol ML
     | _=>exact R1.elim
  | _=>exact hr.elim
end
theorem IW:entryFor table "set.__iter__"=some Builtin.«frozenset.__iter__»:=
 entryFor_alias (id':="frozenset.__iter__") (by kernel_rfl) rfl (by decide +kernel) (by kernel_rfl)
theorem Cq:entryFor table "set_iterator.__next__"=some Builtin.«set_iterator.__next__»:=entryFor_of_tree (by kernel_rfl)
theorem AE:Slot "set_iterator" "__next__" "set_iterator.__next__":=
 .of (owner:="set_iterator") (n:="__next__") (by rw [typeLookup_type,builtinLookup_eq_fast]; kernel_rfl) (by decide +kernel) (by decide +kernel) (by decide +kernel)
  (by first | exact .inl (by decide +kernel) | exact .inr (by decide +kernel)) (by rw [isSubtype_type]; kernel_rfl)
theorem Ew:Slot "set_iterator" "__iter__" "set_iterator.__iter__":=
 .of (owner:="set_iterator") (n:="__iter__") (by rw [typeLookup_type,builtinLookup_eq_fast]; kernel_rfl) (by decide +kernel) (by decide +kernel) (by decide +kernel)
  (by first | exact .inl (by decide +kernel) | exact .inr (by decide +kernel)) (by rw [isSubtype_type]; kernel_rfl)
theorem C3 (a:Value):argsOk "set_iterator.__next__" ⟨[a],[]⟩:=by unfold argsOk; kernel_rfl
theorem Ji (a:Value):argsOk "set_iterator.__iter__" ⟨[a],[]⟩:=by unfold argsOk; kernel_rfl
theorem HJ:entryFor table "set_iterator.__iter__"=some Builtin.«dict_keyiterator.__iter__»:=
 entryFor_alias (id':="dict_keyiterator.__iter__") (by kernel_rfl) (by first | rfl | decide +kernel | (unfold String.splitOn; simp +decide [String.splitOnAux])) (by decide +kernel) (by kernel_rfl)
section
variable {prog:Program} {w:World} {A:Around} {E:Value->Shared->Prop} {s:Shared}
def Dl (x:Value) (i:Int) (a:Addr) (n ep:Nat):Obj:={ cls:=.type "set_iterator",data:=.fields #[x,.int i 0,.ref a,.int n 0,.int ep 0] }
theorem JL {r a:Addr} {x:Value} {i:Int} {n ep:Nat} {Q:Value->Shared->Prop} (hr:s.heap.get? r=some (Dl x i a n ep)) (h:Q (.ref r) s):wpAny (model prog w) A (pyIter (.ref r)) Q E s:=by
 have hT:s.TypeIs (.ref r) "set_iterator":=⟨_,hr,rfl⟩
 refine wpAny_pyIter_slot hT Ew (wpAny_call_entry Ew hT HJ ?_ (Ji _));show wpAny _ _ (ret (.ref r)) _ _ s
 exact wpAny_pure ⟨_,rfl,"set_iterator",_,hT,AE.lookup,h⟩
def CK (w:World) (a:Addr) (es:Array (Int × Value)) (ep:Nat) (t:SetTable) (slot given:Nat):Option (Value × Nat):=
 if w.params.followText "set-order"=true then ((pickOrder (w.params.setOrder a ep) es)[given]?).map fun e=>(e.2,slot) else
 match es[SetTable.below t.place slot]?,t.place[SetTable.below t.place slot]? with
  | some (_,x),some j=>some (x,j + 1)
  | _,_=>none
theorem Lw {a:Addr} {o:Obj} {es:Array (Int × Value)} {ep:Nat} {t:SetTable} {slot given:Nat} {Q:Option (Value × Nat)->Shared->Prop} (ho:s.heap.get? a=some o) (hd:o.data=.set es ep t) (fit:t.fits es.size=true) (tab:Tab w es t)
  (few:w.params.followText "set-order"=false->es.size<=1) (h:Q (CK w a es ep t slot given) s):wpAny (model prog w) A (setNext a slot given ep) Q E s:=by
 unfold setNext;refine wpAny_bind (wpAny_setState_of ho hd fit ?_);dsimp only;unfold setsByText;refine wpAny_bind (wpAny_bind (wpAny_askSetting (wpAny_pure ?_)));unfold CK at h;show wpAny _ _ (if w.params.followText "set-order"=true then _ else _) _ _ _
 by_cases z:w.params.followText "set-order"=true
 ·rw [if_pos z] at h;rw [if_pos z,if_neg (by simp)];unfold setWalk;refine wpAny_bind (wpAny_bind (wpAny_setState_of ho hd fit ?_));dsimp only;unfold setsByText;refine wpAny_bind (wpAny_bind (wpAny_askSetting (wpAny_pure ?_)));show wpAny _ _ (if w.params.followText "set-order"=true then _ else _) _ _ _
  rw [if_pos z];refine wpAny_bind (wpAny_askSetting (wpAny_pure ?_));exact wpAny_pure h
 ·rw [if_neg z] at h;rw [if_neg z];have z':w.params.followText "set-order"=false:=by simpa using z
  have sm:=few z';show wpAny _ _ (if (!t.plain && decide (es.size > 1))=true then _ else _) _ _ _
  rw [if_neg (by simp; lia)];refine wpAny_bind ?_;show wpAny _ _ (if (!t.led && !es.isEmpty)=true then _ else _) _ _ _
  rw [if_neg (by rw [tab.1,z']; simp)];exact wpAny_pure (wpAny_pure h)
theorem OI {r a:Addr} {slot i:Nat} {o:Obj} {es:Array (Int × Value)} {ep:Nat} {t:SetTable} {x:Value} {nx:Nat} {Q:Option Value->Shared->Prop}
  (hr:s.heap.get? r=some (Dl (.int slot 0) i a es.size ep)) (ho:s.heap.get? a=some o) (hd:o.data=.set es ep t) (fit:t.fits es.size=true) (tab:Tab w es t) (few:w.params.followText "set-order"=false->es.size<=1)
  (hx:CK w a es ep t slot i=some (x,nx))
  (hQ:∀ h',h'.get? r=some (Dl (.int nx 0) (i + 1) a es.size ep)->Heap.SameBut r s.heap h'->Q (some x) { s with heap:=h' }) :
  wpAny (model prog w) A (pyNext (.ref r)) Q E s:=by
 have hT:s.TypeIs (.ref r) "set_iterator":=⟨_,hr,rfl⟩
 obtain ⟨hp,g,d,tk,os⟩:=s;unfold pyNext;refine wpAny_bind (wpAny_attempt (wpAny_callSpecial?_slot (name:=Str.ofString "__next__") hT AE
  (wpAny_call_entry AE hT Cq ?_ (C3 _))))
 unfold Builtin.«set_iterator.__next__»;unfold Dl at hr;repeat (any_goals (first | assumption | (refine wpAny_setEntries_of ho hd fit ?_) | (refine Lw (given:=i) (slot:=slot) ho hd fit tab few ?_) | wp_step))
 rw [show ((ep:Nat):Int).toNat=ep by simp,hx];repeat (any_goals (first | assumption | wp_step))
 refine ⟨_,rfl,wpAny_pure (hQ _ ?_ ((Heap.SameBut.update ..).trans (Heap.SameBut.update ..)))⟩;have e1:=ZM (Obj.mapFields fun fs=>fs.setIfInBounds 0 (rawInt nx)) hr rfl;have e2:=ZM (Obj.mapFields fun fs=>fs.setIfInBounds 1 (rawInt (i + 1))) e1 rfl;exact e2
theorem QE {r a:Addr} {slot i:Nat} {o:Obj} {es:Array (Int × Value)} {ep:Nat} {t:SetTable} {Q:Option Value->Shared->Prop} (hh:A.handled=none)
  (hr:s.heap.get? r=some (Dl (.int slot 0) i a es.size ep)) (ho:s.heap.get? a=some o) (hd:o.data=.set es ep t) (fit:t.fits es.size=true) (tab:Tab w es t) (few:w.params.followText "set-order"=false->es.size<=1)
  (hx:CK w a es ep t slot i=none)
  (hQ:∀ h',Heap.ExtBut r s.heap h'->Q none { s with heap:=h' }) :
  wpAny (model prog w) A (pyNext (.ref r)) Q E s:=by
 have hT:s.TypeIs (.ref r) "set_iterator":=⟨_,hr,rfl⟩
 obtain ⟨hp,g,d,tk,os⟩:=s;unfold pyNext;refine wpAny_bind (wpAny_attempt (wpAny_callSpecial?_slot (name:=Str.ofString "__next__") hT AE
  (wpAny_call_entry AE hT Cq ?_ (C3 _))))
 unfold Builtin.«set_iterator.__next__»;unfold Dl at hr;repeat (any_goals (first | assumption | (refine wpAny_setEntries_of ho hd fit ?_) | (refine Lw (given:=i) (slot:=slot) ho hd fit tab few ?_) | wp_step))
 rw [show ((ep:Nat):Int).toNat=ep by simp,hx];repeat (any_goals (first | assumption | wp_step))
 simp only [raiseNew];refine wpAny_bind (wpAny_handled ?_);rw [show A.in1.handled=none from hh];refine wpAny_bind (wpAny_pure (wpAny_throw ?_));refine wpAny_bind (wpAny_isInstance (T:="StopIteration") (b:=true) ⟨_,Zf _ rfl,rfl⟩ isSubtype_stop ?_);exact wpAny_pure (hQ _ fun b o hb e=>YW _ (YW _ ((Heap.SameBut.update ..).extBut b o hb e)))
end
section
variable {prog:Program} {w:World} {A:Around} {E:Value->Shared->Prop} {s:Shared}
def Pg (is:List Nat) (c:Nat):Obj:={ cls:=.type "tuple",data:=.seq (is.map fun (i:Nat)=>rawInt i).toArray c }
theorem OJ {a:Addr} {o:Obj} {es:Array (Int × Value)} {ep:Nat} {t:SetTable} {j:Nat} {h:Int} {x:Value} {Q:Value->Shared->Prop} (ho:s.heap.get? a=some o) (hd:o.data=.set es ep t) (fit:t.fits es.size=true)
  (hx:es[j]? = some (h,x)) (q:Q x s):wpAny (model prog w) A (setNextDrawn a j ep) Q E s:=by
 unfold setNextDrawn;refine wpAny_bind (wpAny_setState_of ho hd fit ?_);dsimp only;rw [if_neg (by simp),hx];exact wpAny_pure q
theorem OK {r a p:Addr} {i c:Nat} {o:Obj} {es:Array (Int × Value)} {ep:Nat} {t:SetTable} {is:List Nat} {j:Nat} {h:Int} {x:Value} {Q:Option Value->Shared->Prop}
  (hr:s.heap.get? r=some (Dl (.ref p) i a es.size ep)) (hp:s.heap.get? p=some (Pg is c)) (ho:s.heap.get? a=some o) (hd:o.data=.set es ep t) (fit:t.fits es.size=true)
  (hj:is[i]? = some j) (hx:es[j]? = some (h,x))
  (hQ:∀ h',h'.get? r=some (Dl (.ref p) (i + 1) a es.size ep)->Heap.SameBut r s.heap h'->Q (some x) { s with heap:=h' }) :
  wpAny (model prog w) A (pyNext (.ref r)) Q E s:=by
 have hT:s.TypeIs (.ref r) "set_iterator":=⟨_,hr,rfl⟩
 have HI:((is.map fun (i:Nat)=>rawInt i).toArray)[i]? = some (.int j 0):=by simp [hj,rawInt]
 obtain ⟨hp,g,d,tk,os⟩:=s;unfold pyNext;refine wpAny_bind (wpAny_attempt (wpAny_callSpecial?_slot (name:=Str.ofString "__next__") hT AE
  (wpAny_call_entry AE hT Cq ?_ (C3 _))))
 unfold Builtin.«set_iterator.__next__»;unfold Dl at hr;unfold Pg at hp;repeat (any_goals (first | assumption | (refine wpAny_setEntries_of ho hd fit ?_) | wp_step))
 rw [show ((i:Nat):Int).toNat=i by simp,HI];dsimp only;refine wpAny_bind (OJ (h:=h) (x:=x) ho hd fit (by simpa using hx) ?_);repeat (any_goals (first | assumption | wp_step))
 refine ⟨_,rfl,wpAny_pure (hQ _ ?_ (Heap.SameBut.update ..))⟩;exact ZM (Obj.mapFields fun fs=>fs.setIfInBounds 1 (rawInt (i + 1))) hr rfl
theorem QF {r a p:Addr} {i c:Nat} {o:Obj} {es:Array (Int × Value)} {ep:Nat} {t:SetTable} {is:List Nat} {Q:Option Value->Shared->Prop} (hh:A.handled=none)
  (hr:s.heap.get? r=some (Dl (.ref p) i a es.size ep)) (hp:s.heap.get? p=some (Pg is c)) (ho:s.heap.get? a=some o) (hd:o.data=.set es ep t) (fit:t.fits es.size=true)
  (hj:is[i]? = none) (hQ:∀ h',Heap.ExtBut r s.heap h'->Q none { s with heap:=h' }) :
  wpAny (model prog w) A (pyNext (.ref r)) Q E s:=by
 have hT:s.TypeIs (.ref r) "set_iterator":=⟨_,hr,rfl⟩
 have HI:((is.map fun (i:Nat)=>rawInt i).toArray)[i]? = none:=by simpa using hj
 obtain ⟨hp,g,d,tk,os⟩:=s;unfold pyNext;refine wpAny_bind (wpAny_attempt (wpAny_callSpecial?_slot (name:=Str.ofString "__next__") hT AE
  (wpAny_call_entry AE hT Cq ?_ (C3 _))))
 unfold Builtin.«set_iterator.__next__»;unfold Dl at hr;unfold Pg at hp;repeat (any_goals (first | assumption | (refine wpAny_setEntries_of ho hd fit ?_) | wp_step))
 rw [show ((i:Nat):Int).toNat=i by simp,HI];repeat (any_goals (first | assumption | wp_step))
 simp only [raiseNew];refine wpAny_bind (wpAny_handled ?_);rw [show A.in1.handled=none from hh];refine wpAny_bind (wpAny_pure (wpAny_throw ?_));refine wpAny_bind (wpAny_isInstance (T:="StopIteration") (b:=true) ⟨_,Zf _ rfl,rfl⟩ isSubtype_stop ?_);exact wpAny_pure (hQ _ fun b o hb e=>YW _ (YW _ ((Heap.SameBut.update ..).extBut b o hb ((Heap.SameBut.update ..).extBut b o hb e))))
theorem Mn (hh:A.handled=none) (I a:Addr) (ne:a ≠ I) {o:Obj} {es:Array (Int × Value)} {ep:Nat} {t:SetTable} (hd:o.data=.set es ep t) (fit:t.fits es.size=true) (tab:Tab w es t) (few:w.params.followText "set-order"=false->es.size<=1)
  (vs:List Value) (sl:Nat->Nat) (hs:∀ (i:Nat) (v:Value),vs[i]? = some v->CK w a es ep t (sl i) i=some (v,sl (i + 1))) (he:CK w a es ep t (sl vs.length) vs.length=none) :
  Walks prog w A I [I,a] [I] vs.length (fun i v=>vs[i]? = some v) (fun i h=>h.get? I=some (Dl (.int (sl i:Nat) 0) i a es.size ep)/\h.get? a=some o) where
 sub:=fun b hb=>by simp at hb; simp [hb]
 frame:=fun i h h' st k=>⟨k I (by simp) _ st.1,k a (by simp) _ st.2⟩
 item:=fun i s Q E hi st q=>by
  have e:vs[i]? = some vs[i]:=by simp [hi]
  refine OI st.1 st.2 hd fit tab few (hs i _ e) fun h' hr sb=>q _ h' s.toks e ⟨hr,?_⟩ fun b o hb z=>?_
  ·rw [sb.2 a ne]; exact st.2
  ·rw [sb.2 b (by simpa using hb)]; exact z
 done:=fun s Q E st q=>QE hh st.1 st.2 hd fit tab few he fun h' eb=>q h' s.toks fun b o hb z=>eb b o (by simpa using hb) z
 self:=fun i s Q E st q=>JL st.1 q
theorem Mo (hh:A.handled=none) (I a p:Addr) (ne:a ≠ I) (np:p ≠ I) {o:Obj} {es:Array (Int × Value)} {ep c:Nat} {t:SetTable} (hd:o.data=.set es ep t) (fit:t.fits es.size=true)
  (is:List Nat) (vs:List Value) (hl:is.length=vs.length) (hs:∀ (i:Nat) (v:Value),vs[i]? = some v->∃ j h,is[i]? = some j/\es[j]? = some (h,v)) :
  Walks prog w A I [I,a,p] [I] vs.length (fun i v=>vs[i]? = some v) (fun i h=>h.get? I=some (Dl (.ref p) i a es.size ep)/\h.get? a=some o/\h.get? p=some (Pg is c)) where
 sub:=fun b hb=>by simp at hb; simp [hb]
 frame:=fun i h h' st k=>⟨k I (by simp) _ st.1,k a (by simp) _ st.2.1,k p (by simp) _ st.2.2⟩
 item:=fun i s Q E hi st q=>by
  have e:vs[i]? = some vs[i]:=by simp [hi]
  obtain ⟨j,h,e1,e2⟩:=hs i _ e;refine OK st.1 st.2.2 st.2.1 hd fit e1 e2 fun h' hr sb=>q _ h' s.toks e ⟨hr,?_,?_⟩ fun b o hb z=>?_
  ·rw [sb.2 a ne]; exact st.2.1
  ·rw [sb.2 p np]; exact st.2.2
  ·rw [sb.2 b (by simpa using hb)]; exact z
 done:=fun s Q E st q=>QF hh st.1 st.2.2 st.2.1 hd fit (by simp [hl]) fun h' eb=>q h' s.toks fun b o hb z=>eb b o (by simpa using hb) z
 self:=fun i s Q E st q=>JL st.1 q
theorem IV {α:Type} {xs:List α} {i:Nat} {x:α} (h:xs[i]? = some x):(x :: xs.eraseIdx i).Perm xs:=by
 induction xs generalizing i with
 | nil=>simp at h
 | cons y ys ih=>
  cases i with
  | zero=>simp at h; subst h; exact .refl _
  | succ i=>
   simp only [ax] at h;exact (List.Perm.swap _ _ _).trans ((ih h).cons _)
theorem MR {α:Type} (n:Nat):∀ (xs:List α) (s:Shared) (Q:List α->Shared->Prop),n=xs.length->(∀ ys dr,ys.Perm xs->Q ys { s with drawn:=dr })->wpAny (model prog w) A (drawOrder n xs) Q E s:=by
 induction n with
 | zero=>
  intro xs s Q hn h;cases xs with
  | nil=>exact wpAny_pure (h [] s.drawn (.refl _))
  | cons x xs=>simp at hn
 | succ n ih=>
  intro xs s Q hn h;cases xs with
  | nil=>simp at hn
  | cons x xs=>
   unfold drawOrder;refine wpAny_bind ?_;intro Γ p hΓ;exists by simp
   have lt:w.draws .order (s.drawn.get .order) % (x :: xs).length < (x :: xs).length:=eN _ (by simp);show wpAny (model prog w) A (match (x :: xs)[w.draws .order (s.drawn.get .order) % (x :: xs).length]? with
    | some y=>drawOrder n ((x :: xs).eraseIdx (w.draws .order (s.drawn.get .order) % (x :: xs).length)) >>= fun r=>pure (y :: r)
    | none=>unsupported "internal:drawOrder") Q E { s with drawn:=s.drawn.bump .order }
   generalize w.draws .order (s.drawn.get .order) % (x :: xs).length=i at lt;have e:(x :: xs)[i]? = some (x :: xs)[i]:=by simp
   rw [e];refine wpAny_bind (ih _ _ _ (by rw [dj]; simp only [lt,if_true]; lia) fun ys dr pm=>?_);exact wpAny_pure (h _ dr ((pm.cons _).trans (IV e)))
theorem NH {α:Type} (next:Nat->Nat):∀ (fuel k:Nat) (left:List α) (out:Array α),fuel=left.length->(pickOrder.go next fuel k left out).toList.Perm (out.toList ++ left)
 | 0,k,[],out,_=>by unfold pickOrder.go; simp
 | fuel + 1,k,x :: xs,out,h=>by
  unfold pickOrder.go;have lt:next k % (x :: xs).length < (x :: xs).length:=eN _ (by simp);generalize next k % (x :: xs).length=i at lt;have e:(x :: xs)[i]? = some (x :: xs)[i]:=by simp
  rw [e];refine (NH next fuel (k + 1) _ _ (by rw [dj]; simp only [lt,if_true]; simp at h ⊢; lia)).trans ?_;rw [dA,ZR];exact (IV e).append_left _
theorem OY {α:Type} (next:Nat->Nat) (xs:Array α):(pickOrder next xs).toList.Perm xs.toList:=by
 unfold pickOrder;simpa using NH next xs.size 0 xs.toList #[] (by simp)
end
theorem Ln:∀ {vs:List Value},(∀ v ∈ vs,∃ x t,v=Value.str x t)->∃ ks,StrsAre vs ks
 | [],_=>⟨[],.nil⟩
 | v :: vs,h=>by
  obtain ⟨x,t,rfl⟩:=h v (by simp);obtain ⟨ks,r⟩:=Ln fun u hu=>h u (Zv _ hu)
  exact ⟨x :: ks,.cons x t r⟩
theorem Q3 {P:Program} {w:World} {vs:List Value} {ks:List Str} (h:StrsAre vs ks) (k:Str):k ∈ ks ↔ ∃ v ∈ vs,(PySem.strKind P w).is k v=true:=by
 induction h with
 | nil=>simp
 | cons x t r ih=>
  rw [Zg,ih];constructor
  ·rintro (rfl | ⟨v,hv,e⟩)
   ·exact ⟨_,Zq,by simp [PySem.strKind,Value.isStrOf]⟩
   ·exact ⟨v,Zv _ hv,e⟩
  ·rintro ⟨v,hv,e⟩;rcases Zg.mp hv with rfl | hv
   ·refine .inl ?_;have e':Value.isStrOf k (.str x t)=true:=e;first | exact (eq_of_beq e').symm | exact eq_of_beq e' | exact of_decide_eq_true e' | exact (of_decide_eq_true e').symm
   ·exact .inr ⟨v,hv,e⟩
section
variable {prog:Program} {w:World} {A:Around} {E:Value->Shared->Prop} {s:Shared}
theorem OL {a:Addr} {o:Obj} {es:Array (Int × Value)} {ep:Nat} {t:SetTable} {Q:Bool->Shared->Prop} (ho:s.heap.get? a=some o) (hd:o.data=.set es ep t) (fit:t.fits es.size=true)
  (h:Q (!w.params.followText "set-order" && (!t.plain && decide (es.size > 1))) s):wpAny (model prog w) A (setDrawn a) Q E s:=by
 unfold setDrawn;refine wpAny_bind (wpAny_setState_of ho hd fit ?_);dsimp only;unfold setsByText;exact wpAny_bind (wpAny_bind (wpAny_askSetting (wpAny_pure (wpAny_pure h))))
theorem ON {a:Addr} {S:Str->Bool} {n:Nat} {Q:Value->Shared->Prop} (hS:Dh prog w s.heap a S n)
  (h:∀ (h':Heap) (dr:Drawn) (I:Addr) (fp:List Addr) (vs:List Value) (ks:List Str) (St:Nat->Heap->Prop),(∀ b o,s.heap.get? b=some o->h'.get? b=some o)->s.heap.objs.size<=I->(∀ b ∈ fp,b=a\/s.heap.objs.size<=b) ->
   StrsAre vs ks->(∀ k,S k=true ↔ k ∈ ks)->ks.length=n->(∀ B:Around,B.handled=none->Walks prog w B I fp [I] vs.length (fun i v=>vs[i]? = some v) St)->St 0 h'->Q (.ref I) { s with heap:=h',drawn:=dr }) :
  wpAny (model prog w) A (pyIter (.ref a)) Q E s:=by
 obtain ⟨o,es,ep,t,ho,ex,hd,el,mem,few,fit,hn,tab⟩:=hS;have lt:a < s.heap.objs.size:=Zc ho;have strE:∀ e ∈ es.toList,∃ x tk,e.2=Value.str x tk:=fun e he=>by
  obtain ⟨⟨k,hk,_⟩,_⟩:=el e he;have ML:Value.isStrOf k e.2=true:=hk;cases z:e.2 <;> rw [z] at ML <;> first | exact ⟨_,_,rfl⟩ | (simp [Value.isStrOf] at ML)
 have tx:∀ vs:List Value,vs.Perm (es.toList.map (·.2))->∃ ks,StrsAre vs ks/\(∀ k,S k=true ↔ k ∈ ks)/\ks.length=n:=fun vs pm=>by
  obtain ⟨ks,r⟩:=Ln (vs:=vs) fun v hv=>by
   obtain ⟨e,he,rfl⟩:=Zd.mp (pm.mem_iff.mp hv);exact strE e he
  refine ⟨ks,r,fun k=>?_,by rw [<-r.length,pm.length_eq,YV,Z5]; exact hn⟩;rw [mem,Q3 (P:=prog) (w:=w) r];constructor
  ·rintro ⟨e,he,z⟩;exact ⟨e.2,pm.mem_iff.mpr (Zd.mpr ⟨e,he,rfl⟩),z⟩
  ·rintro ⟨v,hv,z⟩;obtain ⟨e,he,rfl⟩:=Zd.mp (pm.mem_iff.mp hv);exact ⟨e,he,z⟩
 have hT:s.TypeIs (.ref a) "set":=⟨o,ho,ex.1⟩
 refine wpAny_pyIter_slot hT F.slot_set_iter (wpAny_call_entry F.slot_set_iter hT IW ?_ (F.args_set_iter_1 _));unfold Builtin.«frozenset.__iter__» Builtin.Frozenset.slot0 slotArgs;simp only [List.isEmpty_nil,eD,Z1,↓reduceIte,bind_assoc,dQ,bne_self_eq_false];unfold Builtin.Frozenset.addrOf Builtin.Frozenset.sizeOf;refine wpAny_bind (wpAny_pure ?_);try dsimp only
 refine wpAny_bind (wpAny_pure ?_);refine wpAny_bind (wpAny_bind (wpAny_setEntries_of ho hd fit (wpAny_pure ?_)));refine wpAny_bind (OL ho hd fit ?_);by_cases z:(!w.params.followText "set-order" && (!t.plain && decide (es.size > 1)))=true
 ·rw [if_pos z];refine wpAny_bind (MR es.size (aD es.size) _ _ (by rw [aP]) fun is dr pm=>?_);refine wpAny_bind (wpAny_newTuple ?_ (by rw [YV,pm.length_eq,aP]; exact fits_of_scanBound few));refine wpAny_bind (wpAny_setEpoch_of (YW _ ho) hd fit ?_);refine wpAny_bind (wpAny_newObj_type (wpAny_pure ⟨_,rfl,"set_iterator",_,⟨_,Zf _ rfl,rfl⟩,AE.lookup,?_⟩));have rng:∀ j ∈ is,j < es.size:=fun j hj=>bq.mp (pm.mem_iff.mp hj)
  have pv:(is.map fun j=>((es[j]?).map (·.2)).getD Value.none).Perm (es.toList.map (·.2)):=by
   refine (pm.map _).trans ?_;refine List.Perm.of_eq (aH (by simp) fun i h1 h2=>?_);have:i < es.size:=by simpa using h2
   simp [this]
  obtain ⟨ks,r1,r2,r3⟩:=tx _ pv;refine h _ dr _ [(s.heap.push (Pg is 0)).objs.size,a,s.heap.objs.size] _ ks _ (fun b o e=>YW _ (YW _ e)) (by rw [size_push']; exact ZC _) (fun b hb=>?_) r1 r2 r3
   (fun B hB=>Mo hB _ a s.heap.objs.size (by rw [size_push']; exact Zh (Z0 lt)) (by rw [size_push']; exact Zh (Z6 _)) hd fit is _ (by simp) fun i v e=>?_)
   ⟨Zf _ rfl,YW _ (YW _ ho),YW _ (Zf _ rfl)⟩
  ·simp only [Zg,ZE,or_false] at hb;rcases hb with rfl | rfl | rfl
   ·exact .inr (by rw [size_push']; exact ZC _)
   ·exact .inl rfl
   ·exact .inr (Zb _)
  ·rw [Ze] at e;cases ej:is[i]? with
   | none=>rw [ej] at e; cases e
   | some j=>
    rw [ej] at e;have hj:=rng j (YY ej);have e5:es[j]? = some es[j]:=by simp [hj]
    simp only [aK,e5,Option.getD_some,Zo.injEq] at e;exact ⟨j,es[j].1,rfl,by rw [e5,<-e]⟩
 ·rw [if_neg z];refine wpAny_bind (wpAny_pure ?_);refine wpAny_bind (wpAny_setEpoch_of ho hd fit ?_);refine wpAny_bind (wpAny_newObj_type (wpAny_pure ⟨_,rfl,"set_iterator",_,⟨_,Zf _ rfl,rfl⟩,AE.lookup,?_⟩));have Vk:w.params.followText "set-order"=false->es.size<=1:=fun q=>by
   rcases bJ 1 es.size with y | y
   ·rw [q,tab.2 (by lia)] at z;simp [y] at z
   ·exact y
  have go:∀ (vs:List Value) (sl:Nat->Nat),sl 0=0->vs.Perm (es.toList.map (·.2))->(∀ (i:Nat) (v:Value),vs[i]? = some v->CK w a es ep t (sl i) i=some (v,sl (i + 1)))->CK w a es ep t (sl vs.length) vs.length=none ->
    Q (.ref s.heap.objs.size) { s with heap:=s.heap.push (Dl (rawInt 0) 0 a es.size ep) }:=fun vs sl s0 pm h1 h2=>by
   obtain ⟨ks,r1,r2,r3⟩:=tx _ pm;refine h _ s.drawn _ [s.heap.objs.size,a] vs ks _ (fun b o e=>YW _ e) (Zb _) (fun b hb=>?_) r1 r2 r3 (fun B hB=>Mn hB _ a (Zh lt) hd fit tab Vk vs sl h1 h2) ⟨?_,YW _ ho⟩
   ·simp only [Zg,ZE,or_false] at hb;rcases hb with rfl | rfl
    ·exact .inr (Zb _)
    ·exact .inl rfl
   ·rw [s0]; exact Zf _ rfl
  by_cases ft:w.params.followText "set-order"=true
  ·refine go ((pickOrder (w.params.setOrder a ep) es).toList.map (·.2)) (fun _=>0) rfl ((OY _ es).map _) (fun i v e=>?_) ?_
   ·unfold CK;rw [if_pos ft];rw [Ze,ZW] at e;cases y:(pickOrder (w.params.setOrder a ep) es)[i]? with
    | none=>rw [y] at e; cases e
    | some x=>rw [y] at e; cases e; rfl
   ·unfold CK;rw [if_pos ft];simp
  ·have sm:=Vk (by simpa using ft);refine go (es.toList.map (·.2)) (fun i=>if i=0 then 0 else t.place.getD 0 0 + 1) rfl (.refl _) (fun i v e=>?_) ?_
   ·unfold CK;rw [if_neg ft];have i0:i < es.size:=by
     have:=(YZ.mp e).1;simpa using this
    have z1:es.size=1:=by lia
    have i1:i=0:=by lia
    subst i1;obtain ⟨x,rfl⟩:∃ x,es=#[x]:=⟨es[0],cN (by simpa using z1) fun j a1 a2=>by
     have:j=0:=by lia
     subst this; rfl⟩
    have pz:t.place.size=1:=by
     simp only [SetTable.fits,ZI,beq_iff_eq] at fit;exact fit.1
    obtain ⟨y,ey⟩:∃ y,t.place=#[y]:=⟨t.place[0],cN (by simpa using pz) fun j a1 a2=>by
     have:j=0:=by lia
     subst this; rfl⟩
    rw [ey];simp at e;subst e;rfl
   ·unfold CK;rw [if_neg ft];rcases bX es.size with z0 | z0
    ·have:es=#[]:=Array.eq_empty_of_size_eq_zero z0;subst this;rfl
    ·have z1:es.size=1:=by lia
     obtain ⟨x,rfl⟩:∃ x,es=#[x]:=⟨es[0],cN (by simpa using z1) fun j a1 a2=>by
      have:j=0:=by lia
      subst this; rfl⟩
     have pz:t.place.size=1:=by
      simp only [SetTable.fits,ZI,beq_iff_eq] at fit;exact fit.1
     obtain ⟨y,ey⟩:∃ y,t.place=#[y]:=⟨t.place[0],cN (by simpa using pz) fun j a1 a2=>by
      have:j=0:=by lia
      subst this; rfl⟩
     rw [ey];simp [SetTable.below,SetTable.below.go]
end
section
variable {prog:Program} {w:World} {A:Around} {E:Value->Shared->Prop} {s:Shared}
theorem QG {r:Addr} {Q:Bool->Shared->Prop} (hT:s.TypeIs (.ref r) "set") (h:∀ b,Q b s):wpAny (model prog w) A (Builtin.List.listLengthHint (.ref r)) Q E s:=by
 unfold Builtin.List.listLengthHint;refine wpAny_bind (wpAny_specialOf hT PySem.F.slot_set_len.lookup ?_);generalize hid:("set.__len__":String)=id0;wp_delta;rw [show splitId id0=some ("set","__len__") from by subst hid; decide +kernel];subst hid;refine wpAny_bind (wpAny_isInstance (T:="set") (b:=true) hT (by rw [isSubtype_type]; kernel_rfl) ?_);refine wpAny_ite_split (fun z=>absurd z (by decide)) (fun _=>?_);refine wpAny_ite_split (fun _=>?_) (fun z=>absurd (by decide +kernel) z);refine wpAny_bind (wpAny_typeOf hT ?_);exact wpAny_pure (h _)
theorem K1 {a:Addr} {S:Str->Bool} {n:Nat} {R:List Value->Shared->Prop} (hh:A.handled=none) (hS:Dh prog w s.heap a S n)
  (h:∀ (h':Heap) (tk:Nat) (dr:Drawn) (vs:List Value) (ks:List Str),(∀ b o,s.heap.get? b=some o->h'.get? b=some o)->StrsAre vs ks->(∀ k,S k=true ↔ k ∈ ks)->ks.length=n->R vs { s with heap:=h',toks:=tk,drawn:=dr }) :
  wpAny (model prog w) A (collect (.ref a)) R E s:=by
 have hn:n < scanBound:=by obtain ⟨o,es,ep,t,ho,ex,hd,el,mem,few,fit,hn,tab⟩:=hS; lia
 have Yq:n<=sizeLine:=fits_of_scanBound hn;have lt:a < s.heap.objs.size:=by obtain ⟨o,es,ep,t,ho,r⟩:=hS; exact Zc ho
 unfold collect;refine wpAny_bind (wpAny_runValue (codeAny_builtin entry_proto_collect' ?_));rw [Around.under_plainId PySem.F.plain_proto_collect _];show wpAny _ A.in1 (newList [] >>= fun l=>again (.builtin "list.__iadd__" ⟨[l,.ref a],[]⟩)) _ _ s
 refine wpAny_bind (wpAny_newObj_type ?_);refine wpAny_pure ⟨plainId_quiet PySem.F.plain_list_iadd _,codeAny_builtin entry_list_iadd' ?_⟩;rw [Around.under_plainId PySem.F.plain_list_iadd _];have e1:(s.heap.push { cls:=.type "list",data:=.seq ([]:List Value).toArray }).get? s.heap.objs.size=some { cls:=.type "list",data:=.seq #[] }:=Zf _ rfl;show wpAny _ A.in1 (Builtin.List.listExtendWith (.ref s.heap.objs.size) (.ref a) (.ref s.heap.objs.size)) _ _ _
 have hS1:Dh prog w (s.heap.push { cls:=.type "list",data:=.seq ([]:List Value).toArray }) a S n:=hS.kept fun o e=>YW _ e
 unfold Builtin.List.listExtendWith;have hT:Shared.TypeIs { s with heap:=s.heap.push { cls:=.type "list",data:=.seq ([]:List Value).toArray } } (.ref a) "set":=by
  obtain ⟨o,es,ep,t,ho,ex,r⟩:=hS1;exact ⟨o,ho,ex.1⟩
 refine wpAny_bind (wpAny_typeOf hT ?_);have e2:Builtin.List.listSameRef (.ref s.heap.objs.size) (.ref a)=false:=by simp [Builtin.List.listSameRef,ZO lt]
 have e3:(Value.type "set" == Value.type "list")=false:=by decide
 have e4:(Value.type "set" == Value.type "tuple")=false:=by decide
 simp only [e2,e3,e4,e9,Z1,if_false];refine wpAny_bind (ON hS1 fun h1 dr I fp vs ks St kk hI hfp sv mem len hW st=>?_);have k1:∀ b o,s.heap.get? b=some o->h1.get? b=some o:=fun b o e=>kk b o (YW _ e)
 have eS:=kk _ _ e1;have W5:Shared.TypeIs { s with heap:=h1,drawn:=dr } (.ref a) "set":=by
  obtain ⟨o,es,ep,t,ho,ex,r⟩:=hS;exact ⟨o,k1 _ _ ho,ex.1⟩
 have szI:(s.heap.push { cls:=.type "list",data:=.seq ([]:List Value).toArray }).objs.size=s.heap.objs.size + 1:=size_push' ..;have nf:s.heap.objs.size ∉ fp:=fun z=>by
  rcases hfp _ z with e | e
  ·exact absurd e (ZO lt)
  ·rw [szI] at e; exact absurd e (Nat.not_le_of_lt (Z6 _))
 have vl:vs.length=n:=by rw [sv.length]; exact len
 have key:∀ (h2:Heap) (c tk:Nat),St 0 h2->(∀ b o,b ≠ s.heap.objs.size->h1.get? b=some o->h2.get? b=some o)->h2.get? s.heap.objs.size=some { cls:=.type "list",data:=.seq #[] c } ->
   codeAny (model prog w) A (.builtin "list.extend.loop" ⟨[.ref s.heap.objs.size,.ref I,.ref s.heap.objs.size],[]⟩) (fun (q:Result) (s':Shared)=>∃ (h':Heap) (tk:Nat) (acc:Array Value) (c':Nat),q=.ok (.ret (.ref s.heap.objs.size))/\s' = { s with heap:=h',toks:=tk,drawn:=dr } /\
    (∀ b o,s.heap.get? b=some o->h'.get? b=some o)/\h'.get? s.heap.objs.size=some { cls:=.type "list",dict:=none,data:=.seq acc c',slots:=#[] }/\ItemsOf (fun i v=>vs[i]? = some v) acc vs.length) { s with heap:=h2,toks:=tk,drawn:=dr }:=by
  intro h2 c tk Fj k2 g2;refine codeAny_extend_loopS (hW _ (by simp [hh])).toS (by rw [vl]; exact Yq) s.heap.objs.size nf (.ref s.heap.objs.size) vs.length 0 _ #[] c rfl (Z7 _) Fj g2 (ItemsOf.nil _) fun s' acc c' m g' ia=>?_
  refine ⟨s'.heap,s'.toks,acc,c',rfl,?_,fun b o e=>?_,g',ia⟩
  ·rw [Moved.eq_with m]
  ·have lb:=Zc e;refine m.heap b o (fun z=>?_) (k2 b o (Zh lb) (k1 b o e));rcases Zg.mp z with y | y
   ·exact Zh lb y
   ·rw [Zl.mp y] at lb;rw [szI] at hI;exact absurd lb (Nat.not_lt_of_le (Nat.le_of_succ_le hI))
 refine wpAny_mono (Q:=fun fin s'=>match fin with | .done f=>False | .again c'=>c'.quiet=true/\codeAny (model prog w) A c' (fun (q:Result) (s':Shared)=>∃ (h':Heap) (tk:Nat) (acc:Array Value) (c':Nat),q=.ok (.ret (.ref s.heap.objs.size))/\s' = { s with heap:=h',toks:=tk,drawn:=dr } /\
    (∀ b o,s.heap.get? b=some o->h'.get? b=some o)/\h'.get? s.heap.objs.size=some { cls:=.type "list",dict:=none,data:=.seq acc c',slots:=#[] }/\ItemsOf (fun i v=>vs[i]? = some v) acc vs.length) s') (E:=fun _ _=>False) ?_ (fun fin s' x=>?_) fun e s' x=>x.elim
 ·refine wpAny_bind (wpAny_holding (QG W5 fun b=>?_));refine wpAny_ite_split (fun _=>?_) (fun _=>wpAny_pure ⟨plainId_quiet PySem.F.plain_extend_loop _,key _ _ _ st (fun b o _ e=>e) eS⟩);refine wpAny_bind (wpAny_rule ?_);refine wpAny_bind ?_;show wpAny _ _ (updateSeq s.heap.objs.size (·.push .none) >>= fun _=>updateSeq s.heap.objs.size (·.pop)) _ _ _
  refine wpAny_bind (wpAny_updateSeq eS rfl ?_);have eS2:=ZM (Obj.mapSeq (·.push Value.none)) eS rfl;refine wpAny_updateSeq (hz:=by seq_fits) eS2 rfl ?_;have eS3:=ZM (Obj.mapSeq (·.pop)) eS2 rfl;have oth:∀ b o,b ≠ s.heap.objs.size->h1.get? b=some o->((h1.update s.heap.objs.size (Obj.mapSeq (·.push Value.none))).update s.heap.objs.size (Obj.mapSeq (·.pop))).get? b=some o:=fun b o hb e=>
   (ZL _ _ (Ne.symm hb)).trans ((ZL _ _ (Ne.symm hb)).trans e)
  refine wpAny_pure ⟨plainId_quiet PySem.F.plain_extend_loop _,key _ _ _ ?_ oth eS3⟩;exact (hW A (by simp [hh])).frame 0 _ _ st fun b hb o e=>oth b o (fun z=>nf (z ▸ hb)) e
 ·cases fin with
  | done f=>exact x.elim
  | again c₁=>
   refine ⟨x.1,codeAny_mono x.2 fun q Er y=>?_⟩;obtain ⟨h',tk,acc,c',rfl,rfl,hk,Ol,ia⟩:=y;show wpAny _ A (load s.heap.objs.size >>= _) _ _ _
   refine wpAny_bind (wpAny_load Ol ?_);have:acc.toList=vs:=aH (by rw [Z5]; exact ia.1) fun i h1 h2=>by
    have h3:i < acc.size:=by simpa using h1
    have this:vs[i]? = some acc[i]:=ia.2 i acc[i] (by simp [h3]);rw [YU h2] at this;simpa using (Zo.inj this).symm
   refine wpAny_pure ?_;have q:=h h' tk dr vs ks hk sv mem len;rw [<-this] at q;exact q
theorem Lu {a:Addr} {S:Str->Bool} {n:Nat} {Q:Value->Shared->Prop} (hh:A.handled=none) (hS:Dh prog w s.heap a S n) (Mm:n < 64)
  (h:∀ (h':Heap) (tk:Nat) (dr:Drawn) (l:Addr) (us:List Value) (e:Nat) (ss ks:List Str),(∀ b o,s.heap.get? b=some o->h'.get? b=some o)->s.heap.get? l=none->h'.get? l=some (seqObj "list" us.toArray e)->StrsAre us ss->ss.Perm ks->sortedS ss=true ->
   (∀ k,S k=true ↔ k ∈ ks)->ks.length=n->Q (.ref l) { s with heap:=h',toks:=tk,drawn:=dr }) :
  wpAny (model prog w) A (call (.builtin "sorted") [.ref a]) Q E s:=by
 refine Calls.call_function_entry kind_sorted plain_sorted entry_sorted (args_sorted1 _) ?_;unfold Builtin.«sorted»;refine wpAny_bind (m:=checkCount "sorted" 1 1 _) (wpAny_pure ?_);refine wpAny_bind (K1 (A:=A.in1) hh hS fun h' tk dr vs ks hk sv mem len=>?_);have hl:vs.length=n:=by rw [sv.length]; exact len
 refine wpAny_bind (wpAny_newList ?_ (Z2 (show vs.length<=64 by lia) (by decide)));have g:(h'.push (seqObj "list" vs.toArray 0)).get? h'.objs.size=some (seqObj "list" vs.toArray 0):=Zf _ rfl;show wpAny _ _ _ _ _ { s with heap:=h'.push (seqObj "list" vs.toArray 0),toks:=tk,drawn:=dr }
 refine wpAny_bind (wpAny_holding (wpAny_call_entry slot_list_sort ⟨_,g,rfl⟩ entry_list_sort (list_sort_treeK strKind_oneLt (s:={ s with heap:=h'.push (seqObj "list" vs.toArray 0),toks:=tk,drawn:=dr }) g sv.keysOf (fun v₁ v₂ C4 e=>keyKind_strs (by rw [<-e]; exact sv)) (by rw [hl]; exact Mm) fun AQ a1 a2=>⟨_,rfl,?_⟩) (args_list_sort _)));refine wpAny_pure ⟨_,rfl,?_⟩;obtain ⟨ss,b1,b2,b3⟩:=sorted_out_str sv a1 a2;obtain ⟨e,he⟩:=sortedHeap_at (out:=(arrOf AQ).map (·.2)) g;refine h _ tk dr h'.objs.size ((arrOf AQ).map (·.2)).toList e ss ks (fun b o q=>?_) ?_ (by rw [cT]; exact he) b1 b2 b3 mem len
 ·have q':=hk b o q;have lt:=Zc q';rw [sortedHeap_old (Zh lt) (by rw [size_push']; exact Z0 lt)];exact YW _ q'
 ·cases z:s.heap.get? h'.objs.size with
  | none=>rfl
  | some o=>exact absurd (Zc (hk _ _ z)) (ZK _)
end
def SetW (P:Program) (w:World) (a:Addr) (S:Str->Bool) (n:Nat):HO:=.ext fun h=>Dh P w h a S n
theorem Ju:isSubtype (.type "tuple") (.type "set")=pure false:=by rw [isSubtype_type]; kernel_rfl
theorem Fi:isSubtype (.type "tuple") (.type "frozenset")=pure false:=by rw [isSubtype_type]; kernel_rfl
def setS (P:Program) (w:World) (a:Addr) (ss:List Str):HO:=SetW P w a (fun k=>(ss.foldl step_dedup []).any (· == k)) (ss.foldl step_dedup []).length
theorem S4 {X:Cx} {pins:List (Addr × Obj)} {σ:St} {H:Hp} {s:Shared} (I:An X pins σ H s) {h':Heap} {tk:Nat} {ss:List Str} (hS:Dh X.prog X.w h' s.heap.objs.size (fun k=>(ss.foldl step_dedup []).any (· == k)) (ss.foldl step_dedup []).length)
  (kk:∀ b o,s.heap.get? b=some o->h'.get? b=some o):An X pins σ (upd H s.heap.objs.size (setS X.prog X.w s.heap.objs.size ss)) { s with heap:=h',toks:=tk }:=by
 obtain ⟨oS,e1,e2,e3,hoS,C4⟩:=id hS;refine I.laid (a:=s.heap.objs.size) (o:=setS X.prog X.w s.heap.objs.size ss) (t':=tk) kk (Zb _) ⟨hS,⟨_,hoS⟩,fun h1 h2 z st=>?_⟩;exact z.kept fun o e=>st _ e
theorem Me (K:YX) {X:Cx} (hK:X.K=K) (hc:X.calm=true):Bi X (.type "set") (fun xs H Q=>∃ (a:Addr) (ss:List Str),xs=[.ref a]/\(A9 K H a (ss.map V.str)\/AF K H a (ss.map V.str))/\ss.length<=1000 /\
  ∀ D,H D=none->Q (.ref D) (upd H D (setS X.prog X.w D ss))):=by
 subst hK;intro pins s σ H xs us Q I r h;obtain ⟨a,ss,rfl,ha,hl,q⟩:=h;obtain ⟨u,rfl,ru⟩:=Cf r;cases ru
 have txt:∀ Ap:List Value,A5 (ss.map V.str) Ap->∀ (i:Nat) v,Ap.toArray[i]? = some v->∃ tk,v=.str (ss.getD i (Str.ofString "")) tk:=fun Ap rv i v e=>by
  have il:Ap.length=ss.length:=by rw [<-rv.length,YV]
  have e':Ap[i]? = some v:=by simpa using e
  have hi:i < Ap.length:=(YZ.mp e').1;have e3:(ss.map V.str)[i]? = some (.str ss[i]):=by rw [Ze,YU (by lia)]; rfl
  obtain ⟨v',e4,r4⟩:=rv.get e3;rw [e'] at e4;cases e4
  obtain ⟨t,rfl⟩:=r4;exact ⟨t,by simp [Zw,YU (show i < ss.length by lia)]⟩
 have fin:∀ Ap:List Value,A5 (ss.map V.str) Ap->∀ (h':Heap) (tk:Nat),Dh X.prog X.w h' s.heap.objs.size (fun k'=>(met (fun i=>ss.getD i (Str.ofString "")) Ap.toArray.size).any (· == k')) (met (fun i=>ss.getD i (Str.ofString "")) Ap.toArray.size).length ->
   (∀ b o,s.heap.get? b=some o->h'.get? b=some o)->∃ v H',An X pins σ H' { s with heap:=h',toks:=tk }/\A3 v (.ref s.heap.objs.size)/\Q v H':=fun Ap rv h' tk hS kk=>by
  have es:Ap.toArray.size=ss.length:=by rw [Zt,<-rv.length,YV]
  rw [es,LH] at hS;exact ⟨.ref s.heap.objs.size,_,S4 I hS kk,rfl,q _ (I.hok.fresh (Zb _))⟩
 have bnd:∀ Ap:List Value,A5 (ss.map V.str) Ap->Ap.toArray.size + 1 < scanBound:=fun Ap rv=>by
  rw [Zt,<-rv.length,YV];unfold scanBound;lia
 rcases ha with ha | ha
 ·obtain ⟨Ap,rv,pl,hz⟩:=I.list ha;have il:=pl.isList;obtain ⟨o,ho,hcl,n,hdat⟩:=id il;refine Nx (items:=Ap.toArray) (val:=fun i=>ss.getD i (Str.ofString "")) (St:=fun I' i h=>h.IsListIter I' a i/\h.IsList a Ap.toArray) (I.ok.hd hc) ho hcl (by decide) F.sub_list_set F.sub_list_frozenset
   (fun B E' s1 Q' k q'=>wpAny_pyIter_list ⟨o,k _ _ ho,hcl,n,hdat⟩ q') (fun B I' hB ne=>Walks.list hB I' a ne Ap.toArray) (fun h k=>⟨⟨_,Zf _ rfl,rfl,rfl⟩,⟨o,YW _ (k _ _ ho),hcl,n,hdat⟩⟩) (txt Ap rv) (bnd Ap rv) fun h' tk hS kk=>?_
  exact fin Ap rv h' tk hS kk
 ·obtain ⟨Ap,rv,pl,hz⟩:=I.tuple ha;obtain ⟨o,ho,hcl,n,hdat⟩:=id pl;refine Nx (items:=Ap.toArray) (val:=fun i=>ss.getD i (Str.ofString "")) (St:=fun I' i h=>h.IsTupleIter I' a i/\h.IsTuple a Ap.toArray) (I.ok.hd hc) ho hcl (by decide) Ju Fi
   (fun B E' s1 Q' k q'=>wpAny_pyIter_tuple ⟨o,k _ _ ho,hcl,n,hdat⟩ q') (fun B I' hB ne=>Walks.tuple hB I' a ne Ap.toArray) (fun h k=>⟨⟨_,Zf _ rfl,rfl,rfl⟩,⟨o,YW _ (k _ _ ho),hcl,n,hdat⟩⟩) (txt Ap rv) (bnd Ap rv) fun h' tk hS kk=>?_
  exact fin Ap rv h' tk hS kk
theorem FD (k:Str):∀ (ss σ:List Str),k ∈ ss.foldl step_dedup σ ↔ k ∈ σ\/k ∈ ss
 | [],σ=>by simp
 | x :: xs,σ=>by
  rw [dU,FD k xs];have:k ∈ step_dedup σ x ↔ k ∈ σ\/k=x:=by
   unfold step_dedup;split
   ·rename_i h
    rw [aG] at h;obtain ⟨y,hy,e⟩:=h;have e:=eq_of_beq e;subst e;exact ⟨.inl,fun z=>z.elim id fun e=>e ▸ hy⟩
   ·simp
  rw [this,Zg];exact or_assoc
theorem Ef:∀ (ss σ:List Str),σ.Nodup->(ss.foldl step_dedup σ).Nodup
 | [],σ,h=>h
 | x :: xs,σ,h=>by
  rw [dU];refine Ef xs _ ?_;unfold step_dedup;split
  ·exact h
  ·rename_i hn
   refine ZJ.mpr ⟨h,by simp,fun a ha b hb e=>hn ?_⟩;rw [Zl] at hb;subst hb e;exact aG.mpr ⟨_,ha,by simp⟩
theorem L6:∀ {l m:List Str},l.Nodup->(∀ x ∈ l,x ∈ m)->∃ r,m.Perm (l ++ r)
 | [],m,_,_=>⟨m,.refl _⟩
 | x :: l,m,nd,h=>by
  rw [Z3] at nd;have p:=List.perm_cons_erase (h x (by simp));obtain ⟨r,pr⟩:=L6 (m:=m.erase x) nd.2 fun y hy=>(dc (fun e:y=x=>nd.1 (e ▸ hy))).mpr (h y (Zv _ hy))
  exact ⟨r,p.trans (pr.cons _)⟩
theorem QZ {l m:List Str} (nd:l.Nodup) (h:∀ x ∈ l,x ∈ m) (e:m.length=l.length):m.Perm l:=by
 obtain ⟨r,p⟩:=L6 nd h;have:=p.length_eq;rw [Za] at this;have:r=[]:=ZF.mp (by lia);subst this;simpa using p
theorem An.drew {X:Cx} {pins:List (Addr × Obj)} {σ:St} {H:Hp} {s:Shared} (I:An X pins σ H s) (dr:Drawn):An X pins σ H { s with drawn:=dr }:=
 ⟨I.ok,I.os,I.bare,I.base,I.loc,I.cell,I.free,I.freeC,I.pin,I.hok,I.len⟩
theorem HK {X:Cx} (hc:X.calm=true):Bi X (.builtin "sorted") (fun xs H Q=>∃ (a:Addr) (ss:List Str),xs=[.ref a]/\H a=some (setS X.prog X.w a ss)/\ss.length < 64 /\
  ∀ (l:Addr) (Dg:List Str),H l=none->Dg.Nodup->(∀ k,k ∈ Dg ↔ k ∈ ss)->sortedS Dg=true->Q (.ref l) (upd H l (.lst (Dg.map V.str)))):=by
 intro pins s σ H xs us Q I r h;obtain ⟨a,ss,rfl,ha,Mm,q⟩:=h;obtain ⟨u,rfl,ru⟩:=Cf r;cases ru
 have hS:Dh X.prog X.w s.heap a (fun k=>(ss.foldl step_dedup []).any (· == k)) (ss.foldl step_dedup []).length:=(I.hok a _ ha).1;have few:(ss.foldl step_dedup []).length<=ss.length:=by rw [<-LH]; exact D4 _ _
 refine Lu (I.ok.hd hc) hS (by lia) fun h' tk dr l us e Dg ks k1 k2 k3 k4 k5 k6 k7 k8=>?_
 obtain ⟨m,hlm⟩:=id I.loc;obtain ⟨oL,esL,epL,hoL,rL⟩:=id hlm.1;have fl:H l=none:=by
  cases z:H l with
  | none=>rfl
  | some u=>
   obtain ⟨ob,e⟩:=A6.there (I.hok l u z);rw [k2] at e;cases e
 have mk:∀ k,k ∈ ks ↔ k ∈ ss:=fun k=>by
  rw [<-k7,aG];have:=FD k ss [];constructor
  ·rintro ⟨x,hx,e⟩;have e:=eq_of_beq e;subst e;exact (this.mp hx).resolve_left (by simp)
  ·intro z;exact ⟨k,this.mpr (.inr z),by simp⟩
 have pm:ks.Perm (ss.foldl step_dedup []):=QZ (Ef ss [] au) (fun x hx=>(mk x).mpr (((FD x ss []).mp hx).resolve_left (by simp))) k8;have I2:=I.laidF (h2:=h') (D:=l) (o:=.lst (Dg.map V.str)) hlm ⟨oL,esL,epL,k1 _ _ hoL,rL⟩ (fun b ob _ q=>k1 b ob q) k2 (fun z=>by rw [z,hoL] at k2; cases k2)
  ⟨by rw [YV,k5.length_eq,k8,sizeLine_eq]; lia,us,e,KN k4,k3⟩
 exact ⟨.ref l,_,(I2.kept (t':=tk) fun b u q=>q).drew dr,rfl,q l Dg fl (k5.nodup_iff.mpr (pm.nodup_iff.mpr (Ef ss [] au))) (fun k=>k5.mem_iff.trans (mk k)) k6⟩
end L2
namespace L2
open PySem PySem.Spec PySem.W PyProof.Rows
end L2
namespace L2
open PySem PySem.Spec PyProof.Rows
def Bs (l:List Str):Prop:=l.Pairwise fun a b=>a.cps.toList < b.cps.toList
theorem Bs.nodup {l:List Str} (h:Bs l):l.Nodup:=List.Pairwise.imp (fun {a b} z e=>by subst e; exact Cj _ z) h
theorem Bs.pw {l:List Str} (h:Bs l):l.Pairwise fun a b=>¬ b.cps.toList < a.cps.toList:=List.Pairwise.imp (fun {a b} z=>b7 z) h
theorem G6 {l:List Str} (h:l.Pairwise fun a b=>¬ b.cps.toList < a.cps.toList) (nd:l.Nodup):Bs l:=by
 induction l with
 | nil=>exact .nil
 | cons x l ih=>
  rw [ZZ] at h;rw [Z3] at nd;refine ZZ.mpr ⟨fun y hy=>?_,ih h.2 nd.2⟩;by_cases z:x.cps.toList < y.cps.toList
  ·exact z
  ·exact absurd (Cy (h.1 y hy) z) (fun e=>nd.1 (e ▸ hy))
theorem DV:∀ {ss l:List Str},Bs ss->Bs l->(∀ s ∈ ss,s ∈ l)->ss.Sublist l
 | [],l,_,_,_=>bC _
 | x :: ss,[],_,_,h=>absurd (h x (by simp)) (by simp)
 | x :: ss,y :: l,h1,h2,h=>by
  have Y9:=ZZ.mp h1;have WC:=ZZ.mp h2;by_cases e:x=y
  ·subst e;refine (DV Y9.2 WC.2 fun s hs=>?_).cons₂ _;rcases Zg.mp (h s (Zv _ hs)) with rfl | z
   ·exact absurd (Y9.1 _ hs) (Cj _)
   ·exact z
  ·refine (DV h1 WC.2 fun s hs=>?_).cons _;rcases Zg.mp (h s hs) with rfl | z
   ·have hx:=(Zg.mp (h x (by simp))).resolve_left e;rcases Zg.mp hs with rfl | hs
    ·exact absurd rfl e
    ·exact absurd (aq (Y9.1 _ hs) (WC.1 _ hx)) (Cj _)
   ·exact z
theorem Bs.sub {ss l:List Str} (h:Bs l) (s:ss.Sublist l):Bs ss:=List.Pairwise.sublist s h
theorem DW {ss Dg:List Str} (nd:Dg.Nodup) (mem:∀ k,k ∈ Dg ↔ k ∈ ss) (srt:sortedS Dg=true):Dg=ss ↔ Bs ss:=
 ⟨fun e=>e ▸ G6 (C5 srt) nd,fun h=>G4 (C5 srt) h.pw (E7 nd h.nodup mem)⟩
def tyD:PyData->String
 | .none=>"NoneType"
 | .bool _=>"bool"
 | .int _=>"int"
 | .str _=>"str"
 | .list _=>"list"
 | .tuple _=>"tuple"
 | .dict _=>"dict"
theorem GW.ty {K:YX} {H:Hp} {v:V} {d:PyData} (h:GW H v d):ER K H v (.type (tyD d)):=by
 cases h with
 | non=>exact .non
 | bl b=>exact .bl b
 | int i=>exact .int i
 | str x=>exact .str x
 | tup e _=>exact .tup e
 | lst e _=>exact .lst e
theorem GW.notStr {K:YX} {H:Hp} {v:V} {d:PyData} (h:GW H v d) (n:∀ s,d ≠ .str s):RU K H v:=by
 exists _,h.ty;cases d with
 | str s=>exact absurd rfl (n s)
 | _=>rfl
def NoTup (K:YX) (H:Hp) (v:V):Prop:=∃ ty,ER K H v ty/\bF K ty (.type "tuple")=some false
theorem LU:∀ (ss:List Str) (ds:List PyData),PyData.eqvAll (ss.map PyData.str) ds=true ↔ ds=ss.map PyData.str
 | [],[]=>by simp [PyData.eqvAll]
 | [],d :: ds=>by simp [PyData.eqvAll]
 | x :: ss,[]=>by simp [PyData.eqvAll]
 | x :: ss,d :: ds=>by
  rw [Zr,PyData.eqvAll,ZI,LU ss ds];constructor
  ·rintro ⟨h,rfl⟩;cases d with
   | str y=>
    rw [PyData.eqv] at h;rw [eq_of_beq h]
   | _=>rw [PyData.eqv] at h; cases h
  ·intro e;injection e with e1 e2;subst e1;refine ⟨?_,e2⟩;rw [PyData.eqv];simp
theorem LV (ss:List Str) (ds:List PyData):PyData.eqv (.list (ss.map PyData.str)) (.list ds)=true ↔ ds=ss.map PyData.str:=by
 rw [PyData.eqv]; exact LU ss ds
theorem Bt.len {H:Hp}:∀ {xs:List V} {ds:List PyData},Bt H xs ds->xs.length=ds.length
 | _,_,.nil=>rfl
 | _,_,.cons _ r=>congrArg (· + 1) r.len
theorem Bt.at {H:Hp}:∀ {xs:List V} {ds:List PyData},Bt H xs ds->∀ {i:Nat} {v:V},xs[i]? = some v->∃ d,ds[i]? = some d/\GW H v d
 | _,_,.nil,i,v,e=>by simp at e
 | _,_,.cons h r,0,v,e=>by
  simp only [ZS,Zo.injEq] at e;subst e;exact ⟨_,rfl,h⟩
 | _,_,.cons h r,i + 1,v,e=>by
  simp only [ax] at e;obtain ⟨d,e1,e2⟩:=r.at e;exact ⟨d,by simpa using e1,e2⟩
theorem Bt.txt {H:Hp}:∀ {xs:List V} {ss:List Str},Bt H xs (ss.map PyData.str)->xs=ss.map V.str
 | xs,[],h=>by cases h; rfl
 | xs,x :: ss,h=>by
  cases h with
  | cons h1 h2=>
   cases h1
   rw [h2.txt];rfl
def Ho:PyData->Bool
 | .str s=>B8 s
 | _=>false
theorem GA:∀ {ds:List PyData},(ds.map Ho).all id=true->∃ ss:List Str,ds=ss.map PyData.str/\∀ s ∈ ss,B8 s=true
 | [],_=>⟨[],rfl,fun s hs=>nomatch hs⟩
 | d :: ds,h=>by
  rw [Zr,bR,ZI] at h;obtain ⟨ss,rfl,hn⟩:=GA h.2;cases d with
  | str x=>exact ⟨x :: ss,rfl,fun s hs=>(Zg.mp hs).elim (fun e=>e ▸ h.1) (hn s)⟩
  | _=>exact absurd (show false=true from h.1) (by decide)
theorem Kr {ss:List Str} (h:∀ s ∈ ss,B8 s=true):((ss.map PyData.str).map Ho).all id=true:=by
 rw [ZA,bY,aw];exact fun s hs=>h s hs
theorem DQ {ss Dg:List Str} (h:ss.map PyData.str=Dg.map PyData.str):ss=Dg:=by
 induction ss generalizing Dg with
 | nil=>cases Dg with
  | nil=>rfl
  | cons _ _=>cases h
 | cons x ss ih=>cases Dg with
  | nil=>cases h
  | cons y Dg=>
   injection h with h1 h2;injection h1 with h1;rw [h1,ih h2]
def Lq (K:YX):Sp:=fun vs H Q _=>∃ (t:Addr) (xs:List V) (ds:List PyData),vs=[.ref t]/\(H t=some (.lst xs)\/H t=some (.tup xs))/\Bt H xs ds/\(∀ s,PyData.str s ∈ ds->s.length<=1000)/\xs.length<=60 /\
 ∀ (b:Bool) (H':Hp),Au H H'->(b=true ↔ ∃ ss:List Str,ds=ss.map PyData.str/\(∀ s ∈ ss,B8 s=true)/\Bs ss)->Q (.bl b) H'
def RW (sites:List Str) (x:V) (ds:List PyData):Prop:=∃ ss:List Str,ds=ss.map PyData.str/\ss ≠ []/\ss.Sublist sites/\Ea x ss.length=true
def Ow (H:Hp) (v:V) (ds:List PyData):Prop:=∃ (t:Addr) (xs:List V),v=.ref t/\H t=some (.tup xs)/\Bt H xs ds/\(∀ s,PyData.str s ∈ ds->s.length<=1000)/\xs.length<=60
def Q9 (K:YX):Sp:=fun vs H Q _=>∃ (c:Addr) (sites:List Str) (x:V) (d:PyData) (v:V),vs=[.ref c,v]/\Oz H c sites x d/\Bs sites/\(∀ s ∈ sites,B8 s=true) /\
 ((∃ ds,Ow H v ds/\∀ (b:Bool) (H':Hp),Au H H'->(b=true ↔ RW sites x ds)->Q (.bl b) H')\/(NoTup K H v/\∀ H',Au H H'->Q (.bl false) H'))
end L2
namespace HT
open PySem PySem.Spec PyProof.Rows
section
variable {prog:Program} {w:World} {A:Around} {E:Value->Shared->Prop} {s:Shared}
end
end HT
namespace L2
open PySem PySem.Spec PyProof.Rows
section
variable {X:Cx} {Φ:St->Hp->Prop} {a b:Expr} {pos:Pos} {n m:Nat}
end
section
variable {Φ:St->Hp->Prop} {n:Nat}
end
def oI:Option Int->V
 | none=>.non
 | some n=>.int n
def MV (H:Hp) (A:Addr) (G:Str->Str->Option V) (c:Nat):Prop:=∃ kvs:List (List A4 × V),H A=some (.dT kvs)/\kvs.length<=c/\∀ x y,Bd kvs [Sum.inr x,Sum.inr y]=G x y
theorem MV.same {H H':Hp} {A:Addr} {G:Str->Str->Option V} {c:Nat} (h:MV H A G c) (s:Au H H'):MV H' A G c:=let ⟨kvs,a,b,d⟩:=h; ⟨kvs,s _ _ a,b,d⟩
theorem MV.up {H:Hp} {A:Addr} {G:Str->Str->Option V} {c c':Nat} (h:MV H A G c) (l:c<=c'):MV H A G c':=let ⟨kvs,a,b,d⟩:=h; ⟨kvs,a,Z2 b l,d⟩
def Mv (G:Str->Str->Option V) (x y:Str) (v:V):Str->Str->Option V:=fun a b=>if a=x/\b=y then some v else G a b
theorem MV.get {H:Hp} {A t:Addr} {G:Str->Str->Option V} {c:Nat} (h:MV H A G c) {x y:Str} (ht:H t=some (.tup [.str x,.str y])):BF H A (.ref t) (G x y):=by
 obtain ⟨kvs,a,_,d⟩:=h;rw [<-d x y];exact BF.t (k:=[Sum.inr x,Sum.inr y]) a ht
theorem MV.put {H:Hp} {A t:Addr} {G:Str->Str->Option V} {c:Nat} (h:MV H A G c) (hc:c < sizeLine) {x y:Str} {v:V} (ht:H t=some (.tup [.str x,.str y])):∃ H',DO H A (.ref t) v H'/\MV H' A (Mv G x y v) (c + 1)/\∃ kvs,H'=upd H A (.dT kvs):=by
 obtain ⟨kvs,a,b,d⟩:=h;refine ⟨_,DO.t (k:=[Sum.inr x,Sum.inr y]) a ht (by lia),⟨_,Ab,?_,fun p q=>?_⟩,_,rfl⟩
 ·have:=Cv kvs [Sum.inr x,Sum.inr y] v;lia
 ·rw [Qq];unfold Mv;by_cases e:p=x/\q=y
  ·obtain ⟨rfl,rfl⟩:=e;simp
  ·have e':¬ ([Sum.inr p,Sum.inr q]:List A4)=[Sum.inr x,Sum.inr y]:=fun z=>by
    simp only [aY.injEq,Sum.inr.injEq,and_true] at z;exact e z
   rw [if_neg e',if_neg e,d]
def MO (H:Hp) (A:Addr) (xs:List Str) (M:Str->Str->Option Int) (c:Nat):Prop:=∃ G,MV H A G c/\(∀ x ∈ xs,∀ y ∈ xs,G x y=some (oI (M x y)))/\∀ x y,¬ (x ∈ xs/\y ∈ xs)->G x y=none
theorem MO.same {H H':Hp} {A:Addr} {xs:List Str} {M:Str->Str->Option Int} {c:Nat} (h:MO H A xs M c) (s:Au H H'):MO H' A xs M c:=let ⟨G,a,b⟩:=h; ⟨G,a.same s,b⟩
theorem MO.up {H:Hp} {A:Addr} {xs:List Str} {M:Str->Str->Option Int} {c c':Nat} (h:MO H A xs M c) (l:c<=c'):MO H A xs M c':=let ⟨G,a,b⟩:=h; ⟨G,a.up l,b⟩
theorem MO.get {H:Hp} {A t:Addr} {xs:List Str} {M:Str->Str->Option Int} {c:Nat} (h:MO H A xs M c) {x y:Str} (hx:x ∈ xs) (hy:y ∈ xs) (ht:H t=some (.tup [.str x,.str y])):BF H A (.ref t) (some (oI (M x y))):=by
 obtain ⟨G,a,b,_⟩:=h;rw [<-b x hx y hy];exact a.get ht
theorem MO.put {H:Hp} {A t:Addr} {xs:List Str} {M:Str->Str->Option Int} {c:Nat} (h:MO H A xs M c) (hc:c < sizeLine) {x y:Str} (hx:x ∈ xs) (hy:y ∈ xs) {n:Int} (ht:H t=some (.tup [.str x,.str y])):∃ H',DO H A (.ref t) (.int n) H'/\MO H' A xs (K2 M x y n) (c + 1)/\∃ kvs,H'=upd H A (.dT kvs):=by
 obtain ⟨G,a,b,d⟩:=h;obtain ⟨H',dp,mv,e⟩:=a.put hc (v:=.int n) ht;refine ⟨H',dp,⟨_,mv,fun p hp q hq=>?_,fun p q hn=>?_⟩,e⟩
 ·unfold Mv K2;split
  ·rfl
  ·exact b p hp q hq
 ·unfold Mv;rw [if_neg (fun z=>hn ⟨by rw [z.1]; exact hx,by rw [z.2]; exact hy⟩)];exact d p q hn
theorem MO.md {H:Hp} {A:Addr} {xs:List Str} {M:Str->Str->Option Int} {c:Nat} (h:MO H A xs M c) (full:∀ x ∈ xs,∀ y ∈ xs,∃ n,M x y=some n):MD H A (fun x y=>if x ∈ xs/\y ∈ xs then M x y else none) c:=by
 obtain ⟨G,⟨kvs,a,b,d⟩,e,f⟩:=h;refine ⟨kvs,a,b,fun x y=>?_⟩;rw [d x y];dsimp only;by_cases hxy:x ∈ xs/\y ∈ xs
 ·obtain ⟨n,hn⟩:=full x hxy.1 y hxy.2;rw [e x hxy.1 y hxy.2,if_pos hxy,hn];rfl
 ·rw [f x y hxy,if_neg hxy];rfl
open Classical in
noncomputable def dst (ws:List A8) (x y:Str):Int:=if h:∃ n,HW ws x y n then h.choose else 0
theorem HW.dst {ws:List A8} {x y:Str} {n:Int} (h:HW ws x y n):dst ws x y=n:=by
 unfold L2.dst;rw [dif_pos ⟨n,h⟩];exact HW.uniq (Exists.choose_spec (⟨n,h⟩:∃ n,HW ws x y n)) h
theorem catA {K:YX} {H:Hp} {a b:Addr} {xs ys:List V} {Q:VK} (ha:H a=some (.tup xs)) (hb:H b=some (.tup ys)) (l:xs.length + ys.length<=sizeLine) (q:∀ T H',Au H H'->H' T=some (.tup (xs ++ ys))->Q (.ref T) H'):QT K (.ref a) (.ref b) H Q:=by
 refine ⟨a,b,xs,ys,rfl,rfl,AF.of ha,AF.of hb,l,fun e=>?_,fun _ e=>?_,fun _ _ T hT=>?_⟩
 ·refine q b H (Au.refl _) ?_;rw [hb,e];rfl
 ·refine q a H (Au.refl _) ?_;rw [ha,e,ZY]
 ·exact q T _ (Ad hT) Ab
theorem ET.get {H:Hp} {A t:Addr} {xs:List Str} {ws:List A8} {y z:Str} (h:ET H A xs ws) (hy:y ∈ xs) (hz:z ∈ xs) (ht:H t=some (.tup [.str y,.str z])):BF H A (.ref t) (some (.int (dst ws z y)))/\0<=dst ws z y/\dst ws z y < 2 ^ 300:=by
 obtain ⟨M,c,md,hm⟩:=h;obtain ⟨n,e,d,n0,n1⟩:=hm y hy z hz;have:=md.get ht;rw [e] at this;rw [d.symm.dst];exact ⟨this,n0,n1⟩
theorem ET.dst {H:Hp} {A:Addr} {xs:List Str} {ws:List A8} {x y:Str} (h:ET H A xs ws) (hx:x ∈ xs) (hy:y ∈ xs):HW ws x y (L2.dst ws x y):=by
 obtain ⟨M,c,md,hm⟩:=h;obtain ⟨n,_,d,_⟩:=hm x hx y hy;rw [d.dst];exact d
theorem LF {rs:List BJ} {ds:List Int} {i:Nat} {r:BJ} {d:Int} (hr:rs[i]? = some r) (hl:ds.length=i):DZ (rs.take (i + 1)) (ds ++ [d])=DZ (rs.take i) ds + r.2 * d:=by
 have hi:=(YZ.mp hr).1;unfold DZ;rw [Zs,hr];have e:(rs.take i).length=ds.length:=by rw [Z8,hl]; lia
 show (List.map _ ((rs.take i ++ [r]).zip (ds ++ [d]))).sum=_
 rw [dW e,Zi,List.sum_append];simp
theorem ET.lo {H:Hp} {A:Addr} {xs:List Str} {ws:List A8} {y z:Str} (h:ET H A xs ws) (hy:y ∈ xs) (hz:z ∈ xs):0<=L2.dst ws z y:=by
 obtain ⟨M,c,md,hm⟩:=h;obtain ⟨n,e,d,n0,n1⟩:=hm y hy z hz;rw [d.symm.dst];exact n0
end L2
namespace L2
open PySem PySem.Builtin.Str PySem.StrLaws
end L2
namespace L2
open PySem PySem.Spec PyProof.Rows PySem.NumText
theorem J7 {X:Cx}:Bi X (.type "int") (fun xs H Q=>∃ (x:Str) (n:Int),xs=[.str x]/\PySem.intText? x=some n/\x.length<=640/\Q (.int n) H):=by
 intro pins s σ H xs us Q I r h;obtain ⟨x,n,rfl,e,l,q⟩:=h;obtain ⟨u,rfl,t,rfl⟩:=Cf r;exact PySem.W.KIN.call_text e l ⟨.int n,H,I.tok _,⟨_,rfl⟩,q⟩
end L2
namespace L2
open PySem PySem.Spec PyProof.Rows
theorem Rn {s:Str} (h:B8 s=true):s.length<=10:=by
 obtain ⟨_,l,_⟩:=Rr h;lia
section
variable {prog:Program} {w:World} {A:Around} {E:Value->Shared->Prop} {s:Shared}
end
section
variable {prog:Program} {w:World} {A:Around} {E:Value->Shared->Prop} {s:Shared}
end
end L2
namespace HT
open PySem PySem.Spec PyProof.Rows
section
variable {prog:Program} {w:World} {A:Around} {E:Value->Shared->Prop} {s:Shared}
end
end HT
namespace L2
open PySem PySem.Spec PyProof.Rows
theorem Ow.strs {H:Hp} {o:Addr} {ss:List Str} (ho:H o=some (.tup (ss.map V.str))) (l:ss.length<=60) (sh:∀ s ∈ ss,s.length<=1000):Ow H (.ref o) (ss.map PyData.str):=by
 refine ⟨o,_,rfl,ho,CW H ss,fun s hs=>?_,by rw [YV]; exact l⟩;obtain ⟨y,hy,e⟩:=Zd.mp hs;cases e
 exact sh _ hy
theorem Ph (K:YX) {X:Cx} (h:X.K=K):Et X (compareOp .NotIn) (fun x y H Q=>∃ p xs,y=.ref p/\(A9 K H p xs\/AF K H p xs)/\EG x=true/\xs.all EG=true/\Q (.bl (!inV x xs)) H):=by subst h; exact KG
def QB:Sp:=fun vs H Q _=>∃ (c:Addr) (sites:List Str) (x:V) (d:PyData),vs=[.ref c]/\Oz H c sites x d/\sites.length<=6 /\
 ∀ (H':Hp) (D:Addr) (us:List V) (os:List (List Str)),Au H H'->H D=none->H' D=some (.lst us)->B9 H' us os->RT sites x os->os.length<=1024->Q (.ref D) H'
section
variable {H:Hp} {c m o t T:Addr} {n:Nat} {xs:List Str} {ws:List A8} {rs1 Av:List BJ} {x:V} {d:PyData} {ss:List Str} {zs:List (Str × Str)} {qs:List BJ} {lv:Int}
end
def K8 (a:Addr) (i l:Int):List V:=[.ref a,.int i,.int l]
theorem NG (a:Addr) (i l:Int):HV (K8 a i l) 0=some (.ref a):=rfl
theorem pn5_1 (a:Addr) (i l:Int):HV (K8 a i l) 1=some (.int i):=rfl
theorem QX (a:Addr) (i l:Int):HV (K8 a i l) 2=some (.int l):=rfl
def Di (K:YX) (H:Hp) (p:Addr):Prop:=∃ (a:Addr) (ns:List Int) (i l:Int),H p=some (.lst (K8 a i l))/\MY K H a (ns.map V.int)/\ns.length<=63/\0<=i/\0<=l
theorem Di.ne {K:YX} {H:Hp} {p q:Addr} (h:Di K H p) (e:H q=none):q ≠ p:=by
 obtain ⟨a,ns,i,l,h,_⟩:=h;intro z; subst z; rw [h] at e; cases e
theorem MY.keep {K:YX} {H H':Hp} {a p:Addr} {xs:List V} {ys:List V} (h:MY K H a xs) (hp:H p=some (.lst ys)) (k:Ba p H H'):MY K H' a xs:=by
 rcases h with ⟨ob,h⟩ | h
 ·refine .inl ⟨ob,k _ _ (fun z=>?_) h⟩;subst z;rw [hp] at h;cases h
 ·exact .inr h
theorem Di.same {K:YX} {H H':Hp} {p:Addr} (h:Di K H p) (s:Au H H'):Di K H' p:=by
 obtain ⟨a,ns,i,l,h,sc,r⟩:=h;exact ⟨a,ns,i,l,s _ _ h,sc.keep h (Ba.of_same s),r⟩
theorem Di.other {K:YX} {H:Hp} {p D:Addr} {ys zs:List V} (h:Di K H p) (hD:H D=some (.lst ys)) (ne:D ≠ p):Di K (upd H D (.lst zs)) p:=by
 obtain ⟨a,ns,i,l,h,sc,r⟩:=h;refine ⟨a,ns,i,l,by rw [Af ne.symm]; exact h,?_,r⟩;rcases sc with ⟨ob,h'⟩ | h'
 ·refine .inl ⟨ob,?_⟩;rw [Af (by intro z; subst z; rw [hD] at h'; cases h')];exact h'
 ·exact .inr h'
theorem Di.put {K:YX} {H:Hp} {p a:Addr} {ns:List Int} {i l i' l':Int} (hp:H p=some (.lst (K8 a i l))) (sc:MY K H a (ns.map V.int)) (ln:ns.length<=63) (i0:0<=i') (l0:0<=l'):Di K (upd H p (.lst (K8 a i' l'))) p:=
 ⟨a,ns,i',l',Ab,sc.keep hp Ba.upd,ln,i0,l0⟩
theorem DA {K:YX} {H H':Hp} {p:Addr} (hP:Di K H p) (k:Ba p H H'):∀ b ys,H b=some (.tup ys)->H' b=some (.tup ys):=fun b ys z=>k b _ (by
 obtain ⟨_,_,_,_,q,_⟩:=hP;exact Cg z q (fun y=>by cases y)) z
def Dk (K:YX):Sp:=fun vs H Q _=>∃ (p:Addr) (m:Int),vs=[.ref p,.int m]/\Di K H p/\0 < m/\m < 1073741824/\∀ (d:Int) (H':Hp),Di K H' p->Ba p H H'->0<=d->d < m->Q (.int d) H'
def Ms (K:YX):Sp:=fun vs H Q _=>∃ p:Addr,vs=[.ref p]/\Di K H p/\∀ (d:Int) (H':Hp),Di K H' p->Ba p H H'->1<=d->d < 10 ^ 30->Q (.int d) H'
def Lr (K:YX):Sp:=fun vs H Q _=>∃ (p:Addr) (n:Nat),vs=[.ref p,.int n]/\Di K H p/\n<=26 /\
 ∀ (H':Hp) (D:Addr) (xs:List Str),Di K H' p->Ba p H H'->H D=none->H' D=some (.lst (xs.map V.str))->xs.length=n->xs.Nodup->(∀ x ∈ xs,B8 x=true)->Q (.ref D) H'
def Nq (K:YX):Sp:=fun vs H Q _=>∃ (p e:Addr) (xs:List Str) (m:Nat),vs=[.ref p,.ref e,.int m]/\Di K H p/\H e=some (.lst (xs.map V.str))/\e ≠ p/\xs.length<=30/\m<=xs.length /\
 ∀ (H':Hp) (D:Addr) (ys zs:List Str),Di K H' p->Ba p H H'->H D=none->H' D=some (.lst (ys.map V.str))->(ys ++ zs).Perm xs->ys.length=m->sortedS ys=true->Q (.ref D) H'
def J8:Nat->Str
 | 0=>Str.empty
 | n + 1=>⟨(Array.replicate (n + 1) 48)⟩
theorem Oi:∀ k:Fin 30,PySem.intText? (Str.ofString "1" ++ J8 k.1)=some (10 ^ k.1)/\(J8 k.1).length=k.1:=by decide +kernel
theorem Qw:∀ k:Fin 30,1<=(10:Int) ^ k.1/\(10:Int) ^ k.1 + 10<=10 ^ 30:=by decide +kernel
theorem Qk:∀ k:Fin 30,(⟨(dZ k.1 (Str.ofString "0").cps).foldl (· ++ ·) #[]⟩:Str)=J8 k.1:=by decide +kernel
theorem SG {X:Cx}:Et X (binaryOp .Mult) (fun x y H Q=>∃ n:Nat,x=.str (Str.ofString "0")/\y=.int n/\n < 30/\Q (.str (J8 n)) H):=by
 intro pins s σ H x y v u Q I rx ry h;obtain ⟨n,rfl,rfl,hn,q⟩:=h;obtain ⟨t,rfl⟩:=rx;obtain ⟨t',rfl⟩:=ry;have big:1000<=sizeLine:=by decide
 match n,hn,q with
 | 0,_,q=>exact PySem.P.mul_str_none (by decide) (by decide) ⟨.str Str.empty,H,I.tok _,⟨_,rfl⟩,q⟩
 | 1,_,q=>
  refine PySem.P.mul_str (by decide) (fun _ z=>by simp at z) (fun _ z=>by simp at z) ?_;rw [if_neg (by decide),if_pos (by simp)];exact ⟨.str _,H,I,⟨_,rfl⟩,by rw [show Str.ofString "0"=J8 1 by decide +kernel]; exact q⟩
 | n + 2,hn,q=>
  have l1:(Str.ofString "0").length=1:=by decide +kernel
  have e:((n + 2:Nat):Int).toNat=n + 2:=rfl;refine PySem.P.mul_str (by rw [decide_eq_false (by lia),decide_eq_false (by lia)]; rfl) (fun _ _=>?_) (fun _ _=>?_) ?_
  ·rw [l1];have:(1:Int)<=(2 ^ 63 - 1) / ((n + 2:Nat):Int):=by
    rw [Int.le_ediv_iff_mul_le (by lia)];lia
   lia
  ·rw [l1,e];exact decide_eq_false (by show ¬ _; lia)
  ·rw [if_neg (by lia),if_neg (by rw [l1]; simp; lia),e,Qk ⟨n + 2,hn⟩];refine ⟨?_,⟨.str _,H,I.tok _,⟨_,rfl⟩,q⟩⟩;have:=(Oi ⟨n + 2,hn⟩).2;lia
theorem Hk {α β:Type} (f:α->β) {m out:List β} (p:m.Perm out):∀ xs:List α,m=xs.map f->∃ ys:List α,ys.Perm xs/\out=ys.map f:=by
 induction p with
 | nil=>
  intro xs e;cases xs with
  | nil=>exact ⟨[],.nil,rfl⟩
  | cons a xs=>cases e
 | cons a p ih=>
  intro xs e;cases xs with
  | nil=>cases e
  | cons b xs=>
   simp only [Zr,aY.injEq] at e;obtain ⟨ys,h1,rfl⟩:=ih xs e.2;exact ⟨b :: ys,h1.cons b,by rw [e.1]; rfl⟩
 | swap a b l=>
  intro xs e;match xs,e with
  | [],e=>cases e
  | [_],e=>cases e
  | x :: y :: xs,e=>
   simp only [Zr,aY.injEq] at e;exact ⟨y :: x :: xs,.swap _ _ _,by rw [e.1,e.2.1,e.2.2]; rfl⟩
 | trans p q Vc Vb=>
  intro xs e;obtain ⟨ys,h1,e1⟩:=Vc xs e;obtain ⟨zs,h2,e2⟩:=Vb ys e1;exact ⟨zs,h2.trans h1,e2⟩
theorem DJ {X:Cx}:Bi X (.builtin "sorted") (fun xs H Q=>∃ (t:Addr) (x y:Str),xs=[.ref t]/\H t=some (.lst [.str x,.str y])/\∀ l,H l=none->Q (.ref l) (upd H l (.lst [.str (BK x y),.str (BL x y)]))):=by
 intro pins s σ H xs us Q I r h;obtain ⟨t,x,y,rfl,ht,q⟩:=h;refine Cd (pins:=pins) s σ H _ us Q I r ⟨t,[x,y],rfl,A9.of ht,by show 2 < 64; decide,fun l Dg hl pm so=>?_⟩;have len:=pm.length_eq;match Dg,len with
 | [a,b],_=>
  obtain ⟨rfl,rfl⟩:=Mp pm so;exact q l hl
def DH (u:A8):List A4:=[.inr (BK u.1 u.2.1),.inr (BL u.1 u.2.1)]
def Pr (u:A8):List A4 × V:=(DH u,.int u.2.2)
theorem II {u v:A8} (e:DH u=DH v):DP u v:=by
 unfold DH at e;simp only [aY.injEq,Sum.inr.injEq,and_true] at e;obtain ⟨e1,e2⟩:=e;unfold BK at e1;unfold BL at e2;by_cases a:u.2.1.cps.toList < u.1.cps.toList <;> by_cases b:v.2.1.cps.toList < v.1.cps.toList
 ·rw [if_pos a,if_pos b] at e1;rw [if_neg (fun z=>Cj _ (aq a z)),if_neg (fun z=>Cj _ (aq b z))] at e2;exact .inl ⟨e2,e1⟩
 ·rw [if_pos a,if_neg b] at e1;rw [if_neg (fun z=>Cj _ (aq a z))] at e2;by_cases c:v.1.cps.toList < v.2.1.cps.toList
  ·rw [if_pos c] at e2;exact .inr ⟨e2,e1⟩
  ·rw [if_neg c] at e2;rw [e1,e2] at a;exact absurd a (Cj _)
 ·rw [if_neg a,if_pos b] at e1;rw [if_neg (fun z=>Cj _ (aq b z))] at e2;by_cases c:u.1.cps.toList < u.2.1.cps.toList
  ·rw [if_pos c] at e2;exact .inr ⟨e1,e2⟩
  ·rw [if_neg c] at e2;rw [<-e1,<-e2] at b;exact absurd b (Cj _)
 ·rw [if_neg a,if_neg b] at e1;by_cases c:u.1.cps.toList < u.2.1.cps.toList <;> by_cases d:v.1.cps.toList < v.2.1.cps.toList
  ·rw [if_pos c,if_pos d] at e2;exact .inl ⟨e1,e2⟩
  ·rw [if_pos c,if_neg d] at e2;rw [e1,e2] at c;exact absurd c (Cj _)
  ·rw [if_neg c,if_pos d] at e2;rw [<-e1,<-e2] at d;exact absurd d (Cj _)
  ·exact .inl ⟨e1,by rw [<-Cy a c,e1]; exact Cy b d⟩
theorem NC {us:List A8} {x:A8} (no:∀ u ∈ us,¬ DP u x):Bp (us.map Pr) (DH x) (.int x.2.2)=(us ++ [x]).map Pr:=by
 unfold Bp;rw [if_neg,Zi]
 ·rfl
 ·intro z;obtain ⟨q,hq,e⟩:=aG.mp z;obtain ⟨u,hu,rfl⟩:=Zd.mp hq;exact no u hu (II (of_decide_eq_true e))
theorem valW {us:List A8} (sep:us.Pairwise fun u v=>¬ DP u v) {u:A8} (hu:u ∈ us):Bd (us.map Pr) (DH u)=some (.int u.2.2):=by
 obtain ⟨v',h1,h2⟩:=Lh (bh (f:=Pr) hu);rw [show Bd (us.map Pr) (DH u)=Bd (us.map Pr) (Pr u).1 from rfl];have e1:(Pr u).1=DH u:=rfl;obtain ⟨w,hw,e⟩:=Zd.mp h2;have ek:DH w=DH u:=congrArg Prod.fst e;have ev:V.int w.2.2=v':=congrArg Prod.snd e;have al:=II ek;have same:w=u:=by
  by_cases z:w=u
  ·exact z
  ·obtain ⟨i,hi⟩:=aj hw;obtain ⟨j,hj⟩:=aj hu;obtain ⟨Tf,ei⟩:=YZ.mp hi;obtain ⟨HI,ej⟩:=YZ.mp hj;rcases Nat.lt_trichotomy i j with l | l | l
   ·exact absurd (by rw [ei,ej]; exact al) (ZU.mp sep i j Tf HI l)
   ·subst l;rw [ei] at ej;exact absurd ej z
   ·refine absurd ?_ (ZU.mp sep j i HI Tf l);rw [ei,ej];rcases al with ⟨a,b⟩ | ⟨a,b⟩
    ·exact .inl ⟨a.symm,b.symm⟩
    ·exact .inr ⟨b.symm,a.symm⟩
 subst same;rw [<-ev] at h1;exact h1
theorem Sn {us:List A8} {x:A8} (h:(Bd (us.map Pr) (DH x)).isSome=false):∀ u ∈ us,¬ DP u x:=by
 intro u hu al;have ek:DH u=DH x:=by
  unfold DH;rcases al with ⟨a,b⟩ | ⟨a,b⟩
  ·rw [a,b]
  ·rw [a,b,JW,JX]
 obtain ⟨v',h1,_⟩:=Lh (bh (f:=Pr) hu);have h2:Bd (us.map Pr) (DH u)=some v':=h1;rw [ek] at h2;rw [h2] at h;cases h
theorem Di.dict {K:YX} {H:Hp} {p D:Addr} {ys zs:List (List A4 × V)} (h:Di K H p) (hD:H D=some (.dT ys)):Di K (upd H D (.dT zs)) p:=by
 obtain ⟨a,ns,i,l,h,sc,r⟩:=h;refine ⟨a,ns,i,l,by rw [Af (Cg h hD (fun z=>by cases z))]; exact h,?_,r⟩;rcases sc with ⟨ob,h'⟩ | h'
 ·refine .inl ⟨ob,?_⟩;rw [Af (Cg h' hD (fun z=>by cases z))];exact h'
 ·exact .inr h'
structure M5 (K:YX) (H H':Hp) (p e W:Addr) (xs:List Str) (us:List A8):Prop where
 pn:Di K H' p
 he:H' e=some (.lst (xs.map V.str))
 hw:H' W=some (.dT (us.map Pr))
 kp:Ba p H H'
 ne:e ≠ p
 nw:W ≠ p
 fw:H W=none
theorem M5.step {K:YX} {H H' Ng:Hp} {p e W:Addr} {xs:List Str} {us:List A8} (h:M5 K H H' p e W xs us) (P:Di K Ng p) (k:Ba p H' Ng):M5 K H Ng p e W xs us:=
 ⟨P,k _ _ h.ne h.he,k _ _ h.nw h.hw,h.kp.trans k,h.ne,h.nw,h.fw⟩
theorem M5.add {K:YX} {H H':Hp} {p e W q:Addr} {xs:List Str} {us:List A8} (h:M5 K H H' p e W xs us) (hq:H' q=none) (o:HO):M5 K H (upd H' q o) p e W xs us:=
 h.step (h.pn.same (Ad hq)) (Ba.of_same (Ad hq))
theorem M5.put {K:YX} {H H':Hp} {p e W:Addr} {xs:List Str} {us:List A8} (h:M5 K H H' p e W xs us) (Lj:List A8):M5 K H (upd H' W (.dT (Lj.map Pr))) p e W xs Lj:=
 ⟨h.pn.dict h.hw,by rw [Af (Cg h.he h.hw (fun z=>by cases z))]; exact h.he,Ab,fun b o hb z=>by rw [Af (Ai z h.fw)]; exact h.kp b o hb z,h.ne,h.nw,h.fw⟩
theorem US {xs:List Str} {k:Nat} {ws:List A8} (h:HP xs k ws) (hn:xs.Nodup) {x y:Str} {n:Int} (hy:xs[k]? = some y):∀ u ∈ ws,¬ DP u (x,y,n):=by
 intro u hu al;obtain ⟨i,j,a,b,c,d,_⟩:=h.of u hu;rcases al with ⟨_,e⟩ | ⟨e,_⟩
 ·have e':u.2.1=y:=e;rw [e'] at d;have:=F6 hn d hy;lia
 ·have e':u.1=y:=e;rw [e'] at c;have:=F6 hn c hy;lia
theorem Qu {xs:List Str} {k:Nat} {ws:List A8} (h:HP xs k ws) (hn:xs.Nodup) {x y:Str} {n:Int} {i:Nat} (hi:i < k) (hx:xs[i]? = some x) (hy:xs[k]? = some y) (n1:1<=n):HP xs (k + 1) (ws ++ [(x,y,n)]):=
 h.more hn (YZ.mp hy).1 [i] (by simp) (by intro z hz; rw [Zl.mp hz]; exact hi) (by simp) rfl (fun q u j e1 e2=>by
  cases q with
  | zero=>
   simp at e1 e2;subst e1 e2;exact ⟨hx,hy,n1⟩
  | succ q=>simp at e2)
theorem O0 {xs:List Str} {us:List A8} {x y:Str} {n:Int} (h:F1 xs us) (hx:x ∈ xs) (hy:y ∈ xs) (ne:x ≠ y) (hn:1<=n) (no:∀ u ∈ us,¬ DP u (x,y,n)):F1 xs (us ++ [(x,y,n)]):=by
 refine h.snoc hx hy ne hn fun u hu ⟨a,b⟩=>no u hu ?_
 have uu:=(h.1 u hu).2.2.1;rcases a with a | a <;> rcases b with b | b
 ·exact absurd (a.trans b.symm) ne
 ·exact .inl ⟨a.symm,b.symm⟩
 ·exact .inr ⟨b.symm,a.symm⟩
 ·exact absurd (a.trans b.symm) ne
def Q8 (K:YX):Sp:=fun vs H Q _=>∃ (p e:Addr) (xs:List Str) (sh:Int),vs=[.ref p,.ref e,.int sh]/\Di K H p/\H e=some (.lst (xs.map V.str))/\e ≠ p/\xs.Nodup/\(∀ x ∈ xs,B8 x=true)/\1<=xs.length/\xs.length<=26/\0<=sh/\sh < 4 /\
 ∀ (H':Hp) (m:Addr) (ps:List Str) (ws:List A8),Di K H' p->Ba p H H'->ps.Perm xs->FG H' m xs.length ps ws->Q (.ref m) H'
structure R5 (K:YX) (H0 H':Hp) (p R:Addr) (rs:List BJ) (vs:List V):Prop where
 pn:Di K H' p
 kp:∀ b o,b ≠ p->b ≠ R->H0 b=some o->H' b=some o
 hR:H' R=some (.lst vs)
 dd:Bt H' vs (rs.map G5)
 nR:R ≠ p
theorem R5.step {K:YX} {H0 H' Ng:Hp} {p R:Addr} {rs:List BJ} {vs:List V} (h:R5 K H0 H' p R rs vs) (P:Di K Ng p) (k:Ba p H' Ng):R5 K H0 Ng p R rs vs:=
 ⟨P,fun b o hb Fz z=>k b o hb (h.kp b o hb Fz z),k _ _ h.nR h.hR,BH h.dd (DA h.pn k),h.nR⟩
theorem R5.add {K:YX} {H0 H':Hp} {p R q:Addr} {rs:List BJ} {vs:List V} (h:R5 K H0 H' p R rs vs) (hq:H' q=none) (o:HO):R5 K H0 (upd H' q o) p R rs vs:=
 h.step (h.pn.same (Ad hq)) (Ba.of_same (Ad hq))
theorem R5.app {K:YX} {H0 H':Hp} {p R T:Addr} {rs:List BJ} {vs:List V} {y:Str} {l:Int} (h:R5 K H0 H' p R rs vs) (hT:H' T=some (.tup [.str y,.int l])):R5 K H0 (upd H' R (.lst (vs ++ [.ref T]))) p R (rs ++ [(y,l)]) (vs ++ [.ref T]):=by
 refine ⟨h.pn.other h.hR h.nR,fun b o hb Fz z=>by rw [Af Fz]; exact h.kp b o hb Fz z,Ab,?_,h.nR⟩;rw [Zi];refine Jd (BH h.dd fun b ys e=>?_) (.cons (N1 (u:=(y,l)) (by rw [Af (Cg hT h.hR (fun z=>by cases z))]; exact hT)) .nil);rw [Af (Cg e h.hR (fun z=>by cases z))];exact e
theorem FZ {xs ys zs:List Str} {rs:List BJ} {lo:Int} (pm:(ys ++ zs).Perm xs) (nd:xs.Nodup) (rt:rs.map (·.1)=ys) (rl:∀ r ∈ rs,lo<=r.2/\r.2 < 10 ^ 30) (one:1<=rs.length) {ps:List Str} (pp:ps.Perm xs):ES ps lo rs:=
 ⟨fun r hr=>pp.mem_iff.mpr (pm.mem_iff.mp (ZN _ (by rw [<-rt]; exact bh hr))),by rw [rt]; exact (ZJ.mp (pm.nodup_iff.mpr nd)).1,rl,one⟩
structure Ml (H:Hp) (c m:Addr) (n:Nat) (xs:List Str) (ws:List A8) (rs1 Av:List BJ) (x:V) (d:PyData):Prop where
 cw:Dv H c m n xs ws rs1 Av x d
 n9:n<=9
 l6:rs1.length<=6
 l8:Av.length<=8
 so1:sortedS (rs1.map (·.1))=true
 so2:sortedS (Av.map (·.1))=true
def Nw (K:YX):Sp:=fun vs H Q _=>∃ (p:Addr) (sh:Int),vs=[.ref p,.int sh]/\Di K H p/\0<=sh/\sh < 4 /\
 ∀ (H':Hp) (c m:Addr) (n:Nat) (xs:List Str) (ws:List A8) (rs1 Av:List BJ) (x:V) (d:PyData),Di K H' p->Ba p H H'->Ml H' c m n xs ws rs1 Av x d->Q (.ref c) H'
def Nt:Sp:=fun vs H Q _=>∃ (m:Addr) (n:Nat) (xs:List Str) (ws:List A8),vs=[.ref m]/\FG H m n xs ws/\1<=n/\n<=30/\∀ (H':Hp) (A:Addr),Au H H'->H A=none->ET H' A xs ws->Q (.ref A) H'
section
open PySem.SeqAt
open PySem.AutoSeq1 (wpAny_loadPart')
open PySem.MeetsSeq PySem.MeetsSeq2 PySem.MeetsSeq3
end
section
variable {X:Cx} {pins:List (Addr × Obj)} {σ:St} {H:Hp} {s:Shared}
end
section
variable {prog:Program} {w:World} {A:Around} {R:Result->Shared->Prop} {I:Addr} {fp wr:List Addr} {n:Nat} {P:Nat->Value->Prop} {St:Nat->Heap->Prop} {g0:Heap} {kw:List (Str × Value)}
end
section
variable {prog:Program} {w:World} {A:Around} {E:Value->Shared->Prop} {s:Shared}
end
theorem MS {X:Cx} {pins:List (Addr × Obj)} {σ:St} {H:Hp} {s:Shared} {a b:Addr} {k:List A4} {v:V} {u r:Value} {kvs:List (List A4 × V)} {A:Around} {E:Value->Shared->Prop} {Q:Unit->Shared->Prop} (hu:A.units + 1 < cLine) (I:An X pins σ H s) (e:H a=some (.dT kvs)) (eb:H b=some (.tup (k.map kV))) (l:kvs.length < sizeLine) (ry:A3 (.ref b) u) (rv:A3 v r)
  (h:∀ s',An X pins σ (upd H a (.dT (Bp kvs k v))) s'->Q () s'):wpAny (model X.prog X.w) A (dictSet a u r) Q E s:=by
 cases (show u=Value.ref b from ry)
 obtain ⟨z,hd,xs,rel,dd⟩:=Up I.hok e;have hz:xs.length<=sizeLine:=by rw [<-Paired.length rel]; exact z
 have hl:(Bp kvs k v).length<=sizeLine:=by have:=Cv kvs k v; lia
 refine wpAny_dictSet_heap (hsz:=hz) (show _ from (show A.units < cLine by lia)) (EE I.hok eb) dd fun h' J2 hs=>h _ ?_
 obtain ⟨q,es,ep,hq,h2,h3,h4,_,h5⟩:=J2;refine Gp I (by rw [e]; exact True.intro) hs ⟨q,hq⟩ ⟨hl,hd,_,(rel.put k eb rv).keeps fun c ys ec=>?_,q,es,ep,hq,h2,h3,h4,h5⟩;rw [Af (Cg ec e (fun z=>nomatch z))];exact ec
def Sz (wi:TI) (g:TG) (tt:TT) (tk tv:TE) (σ0:St->St):TE:=fun σ H Q=>wi σ H fun J H1=>∀ D,H1 D=none->∃ W:Nat->Nat->St->Hp->Prop,(∃ m,W 0 m (σ0 σ) (upd H1 D (.dT []))) /\
 ∀ i m As H',W i m As H'->(J.stop i H'/\Q (.ref D) H')\/(J.go i H'/\∀ x H2,J.yld i H' x H2->g x As H2 fun Ay H3=>tt Ay H3 fun b H4=>
  if b=true then tk Ay H4 (fun y H5=>tv Ay H5 fun v H6=>∃ kvs k b,y=.ref b/\H6 b=some (.tup (k.map kV))/\H6 D=some (.dT kvs)/\kvs.length < sizeLine/\∃ m',m' < m/\W (i + 1) m' Ay (upd H6 D (.dT (Bp kvs k v)))) else ∃ m',m' < m/\W (i + 1) m' Ay H4)
theorem JQ {X:Cx} {tg iter kx vx:Expr} {ifs:List Expr} {scope:Scope} {cl:List (Str × Addr)} {N:List Str} {pos:Pos} {wi:TI} {g:TG} {tt:TT} {tk tv:TE} {σ0:St->St} (hc:X.calm=true) (hu:X.A.units + 1 < cLine) (co:BN X scope cl)
  (hσ:∀ σ,σ.length=X.N.length->Cp X cl scope N σ (σ0 σ)) (hi:PI X tg iter wi)
  (hb:∀ s2 H C fp,PG (Am X scope cl N s2 H C fp) tg g/\Uu (Am X scope cl N s2 H C fp) ifs tt/\PE (Am X scope cl N s2 H C fp) kx tk/\PE (Am X scope cl N s2 H C fp) vx tv)
  (hs:∀ x,foldedSetIterable iter X.env x=pure x:=by intro _; rfl):PE X (.DictComp kx vx [⟨tg,iter,ifs,0⟩] scope pos) (Sz wi g tt tk tv σ0):=by
 intro pins s σ H Q I h;rw [arm_eval_DictComp];refine wpAny_comprehension_free (use:=none) rfl hs co.clos co.kind co.names (wpAny_mono (hi (pins:=pins) s σ H _ I h) (fun xv s1 h1=>wpAny_mono h1 (fun itv s2 h2=>?_) fun _ _ e=>e) fun _ _ e=>e);obtain ⟨it,fp,tn,J,H2,rfl,I2,T,Fj,f2,hW⟩:=h2;refine wpAny_newObj_type (wpAny_newFunctionEnv co.cell (by intro y hy; cases hy) (fun h₁ B5 Bl=>?_) co.kind);dsimp only at B5 Bl ⊢;generalize IS:s2.heap.push { cls:=.type "dict",dict:=none,data:=.dict #[] } = HH at B5 Bl ⊢;have By:HH.objs.size=s2.heap.objs.size + 1:=by rw [<-IS,ZH]
 have old:∀ b o,s2.heap.get? b=some o->h₁.get? b=some o:=fun b o e=>
  Bl.extBut b o (Zh (by rw [By]; exact Z0 (Zc e))) (YW _ (IS ▸ YW _ e))
 have newD:A6 X.prog X.w (upd H2 s2.heap.objs.size (.dT [])) h₁ s2.heap.objs.size (.dT []):=
  let ⟨z,hd,vs,rel,o,es,ep,ho,r⟩:=LY (P:=X.prog) (w:=X.w) (H:=upd H2 s2.heap.objs.size (.dT [])) s2.heap I2.big
  ⟨z,hd,vs,rel,o,es,ep,Bl.extBut _ _ (Zh (by rw [By]; exact Z6 _)) (YW _ (IS ▸ ho)),r⟩
 obtain ⟨W,⟨m0,w0⟩,turn⟩:=hW s2.heap.objs.size I2.fresh;have hfo:∀ b ∈ fp,∃ o,s2.heap.get? b=some o:=fun b hb=>let ⟨o,e,_⟩:=T.obj _ _ Fj b hb; ⟨o,e⟩
 have I3:An (Am X scope cl N s2 H2 HH.objs.size fp) [] (σ0 σ) (upd H2 s2.heap.objs.size (.dT [])) { s2 with heap:=h₁,toks:=s2.toks + ([]:List (Str × Value)).length }:=
  EJ I2 f2 hfo co (hσ σ I.len) old (Zb _) (by rw [By]; exact ZC _) (ZO (by rw [By]; exact Z6 _)) newD B5
 have fC:s2.heap.objs.size<=HH.objs.size:=by rw [By]; exact ZC _
 obtain ⟨hg,ht,hk,hv⟩:=hb s2 H2 HH.objs.size fp;have loop:∀ BZ:Shared,BZ = { s2 with heap:=h₁,toks:=s2.toks + ([]:List (Str × Value)).length } ->
   codeAny (model X.prog X.w) X.A (.compLoop (.DictComp kx vx [⟨tg,iter,ifs,0⟩] scope pos) 0 (.ref it) (.ref s2.heap.objs.size) (compEnvC scope cl HH.objs.size X.env))
    (compPost (model X.prog X.w) X.A X.xe none (EP X pins σ Q) (.ref s2.heap.objs.size) HH.objs.size) BZ:=by
  rintro BZ rfl;have stat:∀ {H':Hp} ,(∀ b ∈ fp,H' b=none)->∀ b ∈ fp,Ek (Am X scope cl N s2 H2 HH.objs.size fp) [] H' b:=fun hn b hb=>by
   refine ⟨hn b hb,?_,?_,.inl hb,?_,fun p hp=>by cases hp⟩
   ·obtain ⟨o,e⟩:=hfo b hb;exact Zh (show b < HH.objs.size by rw [By]; exact Z0 (Zc e))
   ·intro hz;obtain ⟨_,q1,q2,_⟩:=f2 b hb;rcases Zg.mp (I2.stkSub b hz) with e | e
    ·exact q1 e
    ·exact q2 e
   ·exact fun x c e=>(f2 b hb).2.2.2.2.1 x c (co.sub x c e)
  refine BM (fun n s'=>∃ i As H',An (Am X scope cl N s2 H2 HH.objs.size fp) [] As H' s'/\tn i s'.heap/\(∀ b ∈ fp,H' b=none)/\W i n As H') ?_ m0
   ⟨0,σ0 σ,_,I3,T.keep _ _ _ Fj fun b hb o e=>old b o e,fun b hb=>?_,w0⟩
  ·rintro n s4 ⟨i,FK,H4,I4,Lp,LQ,w4⟩;rcases turn i n FK H4 w4 with ⟨stop,qn⟩ | ⟨go,step⟩
   ·refine wpAny_mono (T.done (Am X scope cl N s2 H2 HH.objs.size fp) rfl rfl rfl hc i [] s4 FK H4 (fun _ _=>False) I4 (stat LQ) Lp stop) (fun r s5 ⟨hr,I5⟩=>?_) fun _ _ z=>z.elim
    subst hr;obtain ⟨m5,R3,_⟩:=id I5.loc;exact ⟨m5,R3,fun h' Kc=>⟨.ref _,H4,EL I2 f2 fC I5 Kc,rfl,qn⟩⟩
   ·refine wpAny_mono (T.item (Am X scope cl N s2 H2 HH.objs.size fp) rfl rfl rfl hc i [] s4 FK H4 (fun _ _=>False) I4 (stat LQ) Lp go) (fun r s5 ⟨u,hr,h5⟩=>?_) fun _ _ z=>z.elim
    subst hr;refine wpAny_mono h5 (fun _ s6 ⟨x,H6,I6,r6,y6,HZ,RF⟩=>?_) fun _ _ z=>z.elim
    have RX:=I6.pinned (stat RF) (T.obj _ _ HZ);refine wpAny_mono (hg s6 FK H6 x u _ RX r6 (step x H6 y6)) (fun _ s7 ⟨El,H7,I7,q7⟩=>?_) fun _ _ z=>z.elim
    refine wpAny_mono (ht s7 El H7 _ I7 q7) (fun ok s8 ⟨H8,I8,q8⟩=>?_) fun _ _ z=>z.elim
    have again:∀ {s9:Shared} {FJ:St} {H9:Hp} ,An (Am X scope cl N s2 H2 HH.objs.size fp) ([] ++ Dx fp s6.heap) FJ H9 s9->(∃ m',m' < n/\W (i + 1) m' FJ H9)->∃ m,m < n/\∃ i As H',An (Am X scope cl N s2 H2 HH.objs.size fp) [] As H' s9/\tn i s9.heap/\(∀ b ∈ fp,H' b=none)/\W i m As H':=fun {s9 FJ H9} I9 n9=>by
     obtain ⟨m',hm,w9⟩:=n9;refine ⟨m',hm,i + 1,FJ,H9,I9.unpinned,T.keep _ _ _ HZ fun b hb o e=>(I9.pin (b,o) (Zj _ (Zj _ (AX hb e)))).1,fun b hb=>?_,w9⟩;obtain ⟨o,e,d⟩:=T.obj _ _ HZ b hb;exact (I9.pin (b,o) (Zj _ (Zj _ (AX hb e)))).2.1
    cases ok with
    | false=>
     rw [if_neg Zn] at q8 ⊢;exact again I8 q8
    | true=>
     rw [if_pos rfl] at q8 ⊢;refine wpAny_mono (hk s8 El H8 _ I8 q8) (fun yk s9 ⟨k,H9,I9,r9,q9⟩=>?_) fun _ _ z=>z.elim
     refine wpAny_mono (hv s9 El H9 _ I9 q9) (fun yv V3 ⟨v,Nf,RY,VX,kvs,key,b,ek,eb,hacc,hsz,QU⟩=>?_) fun _ _ z=>z.elim
     subst ek;exact MS (X:=Am X scope cl N s2 H2 HH.objs.size fp) hu RY hacc eb hsz r9 VX fun QN WO=>again WO QU
  ·have z:=(f2 b hb).1;obtain ⟨o,e⟩:=hfo b hb;rw [Af (Zh (Zc e))];exact z
 exact codeAny_compStart_dict (loop _ rfl) (T.self _ 0 _ _ _ (T.keep _ _ _ Fj fun b hb o e=>old b o e) (loop _ rfl))
section
variable {prog:Program} {w:World} {A:Around} {E:Value->Shared->Prop} {s:Shared}
theorem OW {it d:Addr} {i ep:Nat} {es:Array DictEntry} {key:Value} {Q:Option Value->Shared->Prop} (hit:s.heap.IsValIter it d i es.size ep)
  (hm:D8 s.heap d es ep) (hx:es[i]?.map (·.val)=some key)
  (hQ:∀ h',h'.IsValIter it d (i + 1) es.size ep->Heap.SameBut it s.heap h'->Q (some key) { s with heap:=h' }) :
  wpAny (model prog w) A (pyNext (.ref it)) Q E s:=by
 obtain ⟨o,ho,hc,hd⟩:=id hit;obtain ⟨od,hod,hcd,hdd⟩:=id hm;unfold pyNext;refine wpAny_bind (wpAny_attempt (wpAny_callSpecial?_slot (name:=Str.ofString "__next__") hit.typeIs F.slot_dict_valueiterator_next
  (wpAny_call_entry F.slot_dict_valueiterator_next hit.typeIs F.entry_dict_valueiterator_next ?_ (F.args_dict_valueiterator_next_1 _))))
 refine wpAny_bind (wpAny_pure ?_);refine wpAny_bind ?_;refine wpAny_bind ?_;first | refine wpAny_bind (wpAny_typeNameOfWhole_valiter hit.typeIs (wpAny_pure ?_)) | refine wpAny_bind (wpAny_typeNameOf_valiter hit.typeIs (wpAny_pure ?_))
 refine wpAny_bind (wpAny_fieldsOf ho hd ?_);have hown:Builtin.Dict_items.ownsTuple "dict_valueiterator"=false:=by decide
 simp only [hown,Z1,if_false];show wpAny _ _ (if (Value.ref d == Value.none)=true then _ else _) _ _ s
 rw [if_neg (show ¬ ((Value.ref d == Value.none)=true) from Zn)];refine wpAny_bind (wpAny_pure ?_);refine wpAny_bind (wpAny_dictEntries hod hdd ?_);have hsz:es.size=es.size:=rfl;rw [if_neg (by rw [hsz]; simp)];refine wpAny_bind (wpAny_pure ?_);refine wpAny_bind (wpAny_dictEpoch hod hdd ?_);rw [if_neg (by simp)];refine wpAny_pure ?_;have R4:i < es.size:=by
  rcases bJ i es.size with h | h
  ·exact h
  ·rw [aO h] at hx; cases hx
 have hkey:es[i].val=key:=by rw [ZT R4] at hx; exact Zo.inj hx
 simp only [show ¬ ((i:Int) < 0) from by lia,if_false,b9,ZT R4];refine wpAny_bind ?_;first | refine wpAny_bind (wpAny_typeNameOfWhole_valiter hit.typeIs (wpAny_pure ?_)) | refine wpAny_bind (wpAny_typeNameOf_valiter hit.typeIs (wpAny_pure ?_))
 refine wpAny_bind (wpAny_isOneOf_valiter hit.typeIs ?_);show wpAny _ _ (setField (.ref it) 1 (rawInt ((i:Int) + 1)) >>= _) _ _ s
 refine wpAny_bind (wpAny_setField ho hd (by simp) ?_);have Jz:(s.heap.update it (Obj.mapFields (·.setIfInBounds 1 (rawInt ((i:Int) + 1))))).IsValIter it d (i + 1) es.size ep:=
  ⟨_,ZM _ ho (Obj.isFreed_of_fields (Obj.data_mapFields hd _)),(Obj.cls_mapFields ..).trans hc,by rw [Obj.data_mapFields hd]; simp [rawInt]⟩
 refine wpAny_bind (wpAny_holding ?_);refine wpAny_bind (wpAny_isOneOf_valiter (s:={ s with heap:=s.heap.update it (Obj.mapFields (·.setIfInBounds 1 (rawInt ((i:Int) + 1)))) }) Jz.typeIs ?_);refine wpAny_bind (wpAny_isOneOf_valiter (s:={ s with heap:=s.heap.update it (Obj.mapFields (·.setIfInBounds 1 (rawInt ((i:Int) + 1)))) }) Jz.typeIs ?_);show wpAny _ _ (pure es[i].val) _ _ _
 exact wpAny_pure (wpAny_pure ⟨_,rfl,wpAny_pure (hkey ▸ hQ _ Jz (Heap.SameBut.update ..))⟩)
theorem QR {it d:Addr} {i ep:Nat} {es:Array DictEntry} {Q:Option Value->Shared->Prop} (hh:A.handled=none) (hit:s.heap.IsValIter it d i es.size ep)
  (hm:D8 s.heap d es ep) (hx:es.size<=i)
  (hQ:∀ h',Heap.ExtBut it s.heap h'->Q none { s with heap:=h' }):wpAny (model prog w) A (pyNext (.ref it)) Q E s:=by
 obtain ⟨o,ho,hc,hd⟩:=id hit;obtain ⟨od,hod,hcd,hdd⟩:=id hm;unfold pyNext;refine wpAny_bind (wpAny_attempt (wpAny_callSpecial?_slot (name:=Str.ofString "__next__") hit.typeIs F.slot_dict_valueiterator_next
  (wpAny_call_entry F.slot_dict_valueiterator_next hit.typeIs F.entry_dict_valueiterator_next ?_ (F.args_dict_valueiterator_next_1 _))))
 refine wpAny_bind (wpAny_pure ?_);refine wpAny_bind ?_;refine wpAny_bind ?_;first | refine wpAny_bind (wpAny_typeNameOfWhole_valiter hit.typeIs (wpAny_pure ?_)) | refine wpAny_bind (wpAny_typeNameOf_valiter hit.typeIs (wpAny_pure ?_))
 refine wpAny_bind (wpAny_fieldsOf ho hd ?_);have hown:Builtin.Dict_items.ownsTuple "dict_valueiterator"=false:=by decide
 simp only [hown,Z1,if_false];show wpAny _ _ (if (Value.ref d == Value.none)=true then _ else _) _ _ s
 rw [if_neg (show ¬ ((Value.ref d == Value.none)=true) from Zn)];refine wpAny_bind (wpAny_pure ?_);refine wpAny_bind (wpAny_dictEntries hod hdd ?_);have hsz:es.size=es.size:=rfl;rw [if_neg (by rw [hsz]; simp)];refine wpAny_bind (wpAny_pure ?_);refine wpAny_bind (wpAny_dictEpoch hod hdd ?_);rw [if_neg (by simp)];refine wpAny_pure ?_;have hge:es.size<=i:=hx;simp only [show ¬ ((i:Int) < 0) from by lia,if_false,b9,aO hge];refine wpAny_bind ?_;first | refine wpAny_bind (wpAny_typeNameOfWhole_valiter hit.typeIs (wpAny_pure ?_)) | refine wpAny_bind (wpAny_typeNameOf_valiter hit.typeIs (wpAny_pure ?_))
 show wpAny _ _ (setField (.ref it) 0 .none >>= _) _ _ s
 refine wpAny_bind (wpAny_setField ho hd (by simp) ?_);show wpAny _ _ (newExc (.type "StopIteration") [] >>= _) _ _ _
 refine wpAny_bind ?_;simp only [newExc,newTuple];refine wpAny_bind (wpAny_newObj_type ?_ (by size_fits));refine wpAny_bind (m:=firstArgMember _ _) (wpAny_of_eq (a:=Value.none) (by first | rfl | (simp only [firstArgMember]; rfl)) ?_);refine wpAny_newObj_type ?_ (by size_fits);simp only [raiseNew];refine wpAny_bind (wpAny_handled ?_);rw [show A.in1.handled=none from hh];refine wpAny_bind (wpAny_pure (wpAny_throw ?_));refine wpAny_bind (wpAny_isInstance (T:="StopIteration") (b:=true) ⟨_,Zf _ rfl,rfl⟩ isSubtype_stop ?_);exact wpAny_pure (hQ _ (((Heap.SameBut.update ..).extBut.push _).push _))
theorem IsValIter.at'' {h h':Heap} {it d:Addr} {i n ep:Nat} (x:h.IsValIter it d i n ep) (e:∀ o,h.get? it=some o->h'.get? it=some o):h'.IsValIter it d i n ep:=let ⟨o,a,b⟩:=x; ⟨o,e _ a,b⟩
theorem OV {v d:Addr} {es:Array DictEntry} {ep:Nat} {Q:Value->Shared->Prop} (hv:s.heap.IsValuesView v d) (hm:D8 s.heap d es ep)
  (hQ:Q (.ref s.heap.objs.size) { s with heap:=s.heap.push { cls:=.type "dict_valueiterator",data:=.fields #[.ref d,.int 0 0,.int es.size 0,.int ep 0] } }) :
  wpAny (model prog w) A (pyIter (.ref v)) Q E s:=by
 obtain ⟨ov,hov,hcv,hdv⟩:=id hv;obtain ⟨o,ho,hc,hdat⟩:=id hm;refine wpAny_pyIter_slot hv.typeIs F.slot_dict_values_iter (wpAny_call_entry F.slot_dict_values_iter hv.typeIs F.entry_dict_values_iter ?_ (F.args_dict_values_iter_1 _));unfold Builtin.«dict_values.__iter__» Builtin.Dict_items.dictOf Builtin.Dict_items.newIterator;refine wpAny_bind (wpAny_pure (wpAny_bind (wpAny_bind (wpAny_field hov hdv (x:=.ref d) rfl (wpAny_pure ?_)))));refine wpAny_bind (wpAny_bind (wpAny_dictEntries ho hdat (wpAny_bind (wpAny_dictEpoch ho hdat ?_))));rw [show Builtin.Dict_items.ownsTuple "dict_valueiterator"=false by decide];simp only [Z1,if_false];refine wpAny_newObj_type (wpAny_pure ⟨_,rfl,"dict_valueiterator",_,⟨_,Zf _ rfl,rfl⟩,F.slot_dict_valueiterator_next.lookup,?_⟩);simpa [rawInt] using hQ
theorem Mz (hh:A.handled=none) (I d:Addr) (hne:d ≠ I) (es:Array DictEntry) (ep:Nat) :
  Walks prog w A I [I,d] [I] es.size (fun i v=>es[i]?.map (·.val)=some v) (fun i h=>h.IsValIter I d i es.size ep/\D8 h d es ep) where
 sub:=fun b hb=>by simp at hb; simp [hb]
 frame:=fun _ _ _ st hk=>⟨IsValIter.at'' st.1 fun o e=>hk I (by simp) o e,st.2.at' fun o e=>hk d (by simp) o e⟩
 item:=fun i s Q E hi st hQ=>by
  have hx:es[i]?.map (·.val)=some es[i].val:=by rw [ZT hi]; rfl
  refine OW st.1 st.2 hx fun h' Jz Kc=>?_
  exact hQ _ h' s.toks hx ⟨Jz,st.2.at' fun o e=>Kc.extBut d o hne e⟩ fun b o hb e=>Kc.extBut b o (fun h=>hb (by simp [h])) e
 done:=fun s Q E st hQ=>QR hh st.1 st.2 (Zb _) fun h' Gn=>hQ h' s.toks fun b o hb e=>Gn b o (fun h=>hb (by simp [h])) e
 self:=fun _ _ _ _ st hQ=>wpAny_pyIter_valiter st.1 hQ
theorem QQ {r d:Addr} {es:Array DictEntry} {ep:Nat}:dM prog w "dict_values" r d es.size (fun i v=>es[i]?.map (·.val)=some v) (fun h=>h.IsValuesView r d/\D8 h d es ep) where
 type:=fun _ hm=>hm.1.typeIs
 there:=fun _ hm=>⟨let ⟨_,ho,_⟩:=hm.1; Zc ho,hm.2.lt⟩
 keep:=fun _ _ hm hk=>⟨let ⟨o,ho,x⟩:=hm.1; ⟨o,hk r (.inl rfl) o ho,x⟩,hm.2.at' fun o e=>hk d (.inr rfl) o e⟩
 notList:=by decide
 notTuple:=by decide
 hint:=fun _ _ _ _ hm hq=>PySem.W.kdl_hint_values hm.1.typeIs hq
 iter:=fun _ _ hh hm=>⟨_,_,(fun _ _ hq=>OV hm.1 hm.2 hq),Mz hh _ d (Zh hm.2.lt) es ep,⟨⟨_,Zf _ rfl,rfl,rfl⟩,hm.2.at' fun o e=>YW _ e⟩⟩
end
def JA (r d:Addr):HO:=.ext fun h=>h.IsValuesView r d
theorem Jw {prog:Program} {w:World} (d:Addr) (hd:(d == sysModules)=false) :
  MeetsIn prog w (Builtin.«dict.values» ⟨[.ref d],[]⟩) (fun _ R s=>(∃ es ep,D8 s.heap d es ep) /\
   R (.ok (.ret (.ref s.heap.objs.size))) { s with heap:=s.heap.push { cls:=.type "dict_values",data:=.fields #[.ref d] } }):=
 .of_wp fun A R s ⟨⟨es,ep,hm⟩,h⟩=>by
  refine wpAny_bind ?_;unfold Builtin.Dict.noArgs;refine wpAny_bind (wpAny_notOrdered_dict hm.typeIs ?_);show wpAny _ _ (pure d) _ _ s
  refine wpAny_pure ?_;show wpAny _ _ (Builtin.Dict.showsAll d >>= _) _ _ s
  unfold Builtin.Dict.showsAll;rw [if_neg (by rw [hd]; exact Zn)];refine wpAny_bind (wpAny_pure (wpAny_bind (wpAny_newObj_type (wpAny_pure ⟨_,rfl,h⟩))))
theorem Po {X:Cx}:MtM X "dict.values" (fun x vs H Q=>∃ (d:Addr) (kvs:List (List A4 × V)),x=.ref d/\vs=[]/\H d=some (.dT kvs)/\∀ r,H r=none->Q (.ref r) (upd H r (JA r d))):=by
 intro pins s σ H x vs v us Q I rx rv h;obtain ⟨d,kvs,rfl,rfl,hd,q⟩:=h;cases rx
 cases rv
 obtain ⟨z,y,xs,rel,o,es,ep,h1,h2,h3,h4,h5⟩:=(show A6 X.prog X.w H s.heap d (.dT kvs) from I.hok d _ hd)
 have rd:D8 s.heap d es ep:=⟨o,h1,h2,h3⟩
 refine call_meetsIn PySem.F.slot_dict_values rd.typeIs PySem.F.entry_dict_values (PySem.F.args_dict_values_1 _) (Jw d y) ⟨⟨es,ep,rd⟩,?_⟩;refine ⟨.ref s.heap.objs.size,_,I.laid (a:=s.heap.objs.size) (o:=JA s.heap.objs.size d) (t':=s.toks) (fun _ _ e=>YW _ e) (Zb _) ?_,rfl,q _ (I.hok.fresh (Zb _))⟩;refine ⟨⟨_,Zf _ rfl,rfl,rfl⟩,⟨_,Zf _ rfl⟩,fun h1 h2 ⟨o,a,b⟩ st=>⟨o,st _ a,b⟩⟩
theorem Jh {X:Cx} (hc:X.calm=true):Bi X (.type "list") (fun xs H Q=>∃ (r d:Addr) (kvs:List (List A4 × V)),xs=[.ref r]/\H r=some (JA r d)/\H d=some (.dT kvs) /\
  ∀ l,H l=none->Q (.ref l) (upd H l (.lst (kvs.map (·.2))))):=by
 intro pins s σ H xs us Q I r h;obtain ⟨rr,d,kvs,rfl,hr,hd,q⟩:=h;obtain ⟨u,rfl,ru⟩:=Cf r;cases ru
 obtain ⟨z,y,xs,rel,o,es,ep,h1,h2,h3,h4,h5⟩:=(show A6 X.prog X.w H s.heap d (.dT kvs) from I.hok d _ hd)
 have vw:s.heap.IsValuesView rr d:=(I.hok rr _ hr).1;have xl:xs.length=kvs.length:=(Paired.length rel).symm;have hlen:es.size=kvs.length:=by
  rw [<-Z5,h4,YV];exact xl
 refine PySem.W.kdl_call (QQ (es:=es) (ep:=ep)) (I.ok.hd hc) ⟨vw,o,h1,h2,h3⟩ (by rw [hlen]; exact z) fun h' tk acc c' kk hl hacc=>?_
 have al:acc.toList.length=xs.length:=by
  rw [Z5,hacc.1,<-Z5,h4,YV]
 have av:acc.toList=xs.map fun q=>q.2.2:=by
  refine aH (by rw [al,YV]) fun i i1 i2=>?_
  have e2:=hacc.2 i acc.toList[i] (by rw [<-ZW]; exact YU i1);dsimp only at e2;rw [<-ZW,h4,Ze,YU (by rw [<-al]; exact i1)] at e2;rw [bD];exact (Zo.inj e2).symm
 have vals:∀ {l:List (List A4 × V)} {m:List (List A4 × Addr × Value)},Paired (fun (p:List A4 × V) (q:List A4 × Addr × Value)=>p.1=q.1/\H q.2.1=some (.tup (p.1.map kV))/\A3 p.2 q.2.2) l m->A5 (l.map (·.2)) (m.map fun q=>q.2.2):=fun {l m} hp=>by
  induction hp with
  | nil=>exact .nil
  | cons a _ ih=>exact .cons a.2.2 ih
 have rv:=vals rel;rw [<-av] at rv;refine ⟨.ref s.heap.objs.size,_,I.laid (o:=.lst (kvs.map (·.2))) (t':=tk) kk (Zb _) ⟨by rw [YV]; exact z,acc.toList,c',rv,by rw [cT]; exact hl⟩,rfl,q _ (I.hok.fresh (Zb _))⟩
def Bx (ss op:List Str):List Str:=ss.filter fun s=>decide (s ∉ op)
abbrev BX:=List Str × Option Str × Option Str
def J1 (s:Str):BX:=(["open",s],none,some s)
def Hu (h:Str):BX:=(["shut",h],some h,none)
def Jo (h s:Str):BX:=(["swap",h,s],some h,some s)
def Es (ss op:List Str) (h:Str):List BX:=Hu h :: (Bx ss op).map (Jo h)
def Cw (ss op:List Str):List BX:=(Bx ss op).map J1 ++ op.flatMap (Es ss op)
def AY (op:List Str) (out:Option Str):List Str:=op.filter fun h=>decide (some h ≠ out)
def BE (op:List Str) (out more:Option Str) (zs:List Str):Prop:=zs.Perm (AY op out ++ more.toList)/\sortedS zs=true
theorem BE.uniq {op:List Str} {out more:Option Str} {zs ys:List Str} (h:BE op out more zs) (g:BE op out more ys):zs=ys:=
 G4 (C5 h.2) (C5 g.2) (h.1.trans g.1.symm)
def Eo (x:V) (op:List Str) (e:BX):Bool:=!(AY op e.2.1 ++ e.2.2.toList).isEmpty && Ea x (AY op e.2.1 ++ e.2.2.toList).length
def HS (ss:List Str) (x:V) (op:List Str):List BX:=(Cw ss op).filter (Eo x op)
theorem C7 {ss op:List Str} {s:Str}:s ∈ Bx ss op ↔ s ∈ ss/\s ∉ op:=by
 unfold Bx;rw [Zy];simp
theorem Fh {ss op:List Str} {e:BX}:e ∈ Cw ss op ↔ (∃ s ∈ Bx ss op,e=J1 s)\/∃ h ∈ op,e=Hu h\/∃ s ∈ Bx ss op,e=Jo h s:=by
 unfold Cw Es;rw [Zp,Zd,cu];constructor
 ·rintro (⟨s,a,b⟩ | ⟨h,a,b⟩)
  ·exact .inl ⟨s,a,b.symm⟩
  ·rcases Zg.mp b with b | b
   ·exact .inr ⟨h,a,.inl b⟩
   ·obtain ⟨s,c,d⟩:=Zd.mp b;exact .inr ⟨h,a,.inr ⟨s,c,d.symm⟩⟩
 ·rintro (⟨s,a,b⟩ | ⟨h,a,b | ⟨s,c,d⟩⟩)
  ·exact .inl ⟨s,a,b.symm⟩
  ·exact .inr ⟨h,a,by rw [b]; exact Zq⟩
  ·exact .inr ⟨h,a,Zv _ (Zd.mpr ⟨s,c,d.symm⟩)⟩
structure GV (ss op:List Str) (e:BX):Prop where
 out:∀ h,e.2.1=some h->h ∈ op
 more:∀ s,e.2.2=some s->s ∈ ss/\s ∉ op
 any:e.2.1 ≠ none\/e.2.2 ≠ none
 key:e=match e.2.1,e.2.2 with
  | none,some s=>J1 s
  | some h,none=>Hu h
  | some h,some s=>Jo h s
  | none,none=>e
theorem DI {ss op:List Str} {e:BX} (h:e ∈ Cw ss op):GV ss op e:=by
 rcases Fh.mp h with ⟨s,a,rfl⟩ | ⟨h,a,rfl | ⟨s,b,rfl⟩⟩
 ·exact ⟨(fun h z=>nomatch z),(fun s' z=>by cases z; exact C7.mp a),.inr (fun z=>nomatch z),rfl⟩
 ·exact ⟨(fun h' z=>by cases z; exact a),(fun s z=>nomatch z),.inl (fun z=>nomatch z),rfl⟩
 ·exact ⟨(fun h' z=>by cases z; exact a),(fun s' z=>by cases z; exact C7.mp b),.inl (fun z=>nomatch z),rfl⟩
theorem B4 {α β:Type} {f:α->β} (inj:∀ a b,f a=f b->a=b):∀ {l:List α},l.Nodup->(l.map f).Nodup
 | [],_=>au
 | a :: l,h=>by
  rw [Z3] at h;rw [Zr,Z3];refine ⟨fun hm=>?_,B4 inj h.2⟩;obtain ⟨b,hb,e⟩:=Zd.mp hm;exact h.1 (by rw [<-inj _ _ e]; exact hb)
theorem EH {ss op:List Str} (sn:ss.Nodup) (on:op.Nodup):((Cw ss op).map (·.1)).Nodup:=by
 have hn:(Bx ss op).Nodup:=sn.filter _;unfold Cw;rw [Zi,ZJ];refine ⟨?_,?_,fun a ha b hb=>?_⟩
 ·rw [ZA];exact B4 (fun a b e=>by simpa [J1] using e) hn
 ·have key:∀ l:List Str,l.Nodup->((l.flatMap (Es ss op)).map (·.1)).Nodup:=fun l=>by
   induction l with
   | nil=>intro _; exact au
   | cons h l ih=>
    intro hl;rw [Z3] at hl;rw [b6,Zi,ZJ];refine ⟨?_,ih hl.2,fun a ha b hb=>?_⟩
    ·unfold Es;rw [Zr,Z3];exists fun hm=>?_
     ·obtain ⟨e,he,q⟩:=Zd.mp hm;obtain ⟨s,_,rfl⟩:=Zd.mp he;simp [Hu,Jo] at q
     ·rw [ZA];exact B4 (fun a b e=>by simpa [Jo] using e) hn
    ·rintro rfl;obtain ⟨e,he,q⟩:=Zd.mp ha;obtain ⟨e',Gn,q'⟩:=Zd.mp hb;obtain ⟨h',hh',Gn⟩:=cu.mp Gn;have nhh:h ≠ h':=fun z=>hl.1 (by rw [z]; exact hh')
     rw [<-q'] at q;unfold Es at he Gn;rcases Zg.mp he with rfl | he <;> rcases Zg.mp Gn with rfl | Gn
     ·exact nhh (by simpa [Hu] using q)
     ·obtain ⟨s,_,rfl⟩:=Zd.mp Gn;simp [Hu,Jo] at q
     ·obtain ⟨s,_,rfl⟩:=Zd.mp he;simp [Hu,Jo] at q
     ·obtain ⟨s,_,rfl⟩:=Zd.mp he;obtain ⟨s',_,rfl⟩:=Zd.mp Gn;simp [Jo] at q;exact nhh q.1
  exact key op on
 ·rintro rfl;obtain ⟨e,he,q⟩:=Zd.mp ha;obtain ⟨e',Gn,q'⟩:=Zd.mp hb;obtain ⟨s,_,rfl⟩:=Zd.mp he;obtain ⟨h',hh',Gn⟩:=cu.mp Gn;rw [<-q'] at q;unfold Es at Gn;rcases Zg.mp Gn with rfl | Gn
  ·simp [J1,Hu] at q;exact absurd q.1 (by decide +kernel)
  ·obtain ⟨s',_,rfl⟩:=Zd.mp Gn;simp [J1,Jo] at q
theorem GI {ss op:List Str} {x:V} (sn:ss.Nodup) (on:op.Nodup):((HS ss x op).map (·.1)).Nodup:=List.Nodup.sublist ((ar).map _) (EH sn on)
theorem BE.mem {op:List Str} {out more:Option Str} {zs:List Str} (h:BE op out more zs) {z:Str}:z ∈ zs ↔ (z ∈ op/\some z ≠ out)\/more=some z:=by
 rw [h.1.mem_iff,Zp];unfold AY;rw [Zy];simp only [decide_eq_true_eq,bu]
theorem BE.nodup {ss op:List Str} {e:BX} {zs:List Str} (h:BE op e.2.1 e.2.2 zs) (on:op.Nodup) (i:GV ss op e):zs.Nodup:=by
 rw [h.1.nodup_iff,ZJ];refine ⟨on.filter _,?_,fun a ha b hb=>?_⟩
 ·cases e.2.2 with
  | none=>exact au
  | some s=>exact aM _ _
 ·rintro rfl;have Fz:e.2.2=some a:=bu.mp hb;exact (i.more a Fz).2 (Zy.mp ha).1
theorem BE.sub {ss op:List Str} {e:BX} {zs:List Str} (h:BE op e.2.1 e.2.2 zs) (os:∀ s ∈ op,s ∈ ss) (i:GV ss op e):∀ z ∈ zs,z ∈ ss:=fun z hz=>by
 rcases h.mem.mp hz with ⟨a,_⟩ | a
 ·exact os z a
 ·exact (i.more z a).1
theorem BE.rising {ss op:List Str} {e:BX} {zs:List Str} (h:BE op e.2.1 e.2.2 zs) (on:op.Nodup) (i:GV ss op e):Bs zs:=G6 (C5 h.2) (h.nodup on i)
theorem BE.isOp {ss op:List Str} {e:BX} {zs:List Str} {x:V} (h:BE op e.2.1 e.2.2 zs) (sr:Bs ss) (on:op.Nodup) (os:∀ s ∈ op,s ∈ ss) (i:GV ss op e):RW ss x (zs.map PyData.str) ↔ Eo x op e=true:=by
 have len:=h.1.length_eq;have emp:zs=[] ↔ (AY op e.2.1 ++ e.2.2.toList)=[]:=by rw [<-ZF,len,ZF]
 unfold RW Eo;rw [ZI,<-len];constructor
 ·rintro ⟨ys,e1,e2,_,e4⟩;have:zs=ys:=DQ e1;subst this;refine ⟨?_,e4⟩;rw [aQ,b5];exact fun z=>e2 (emp.mpr z)
 ·rintro ⟨a,b⟩;refine ⟨zs,rfl,fun z=>?_,DV (h.rising on i) sr (h.sub os i),b⟩;rw [emp.mp z] at a;cases a
theorem BE.inj {ss op:List Str} {e e':BX} {zs:List Str} (h:BE op e.2.1 e.2.2 zs) (h':BE op e'.2.1 e'.2.2 zs) (i:GV ss op e) (i':GV ss op e'):e=e':=by
 have o1:e.2.1=e'.2.1:=by
  have half:∀ {e e':BX},BE op e.2.1 e.2.2 zs->BE op e'.2.1 e'.2.2 zs->GV ss op e->GV ss op e'->∀ a,e.2.1=some a->e'.2.1=some a:=fun {e e'} h h' i i' a ea=>by
   have ao:=i.out a ea;have na:a ∉ zs:=fun hz=>by
    rcases h.mem.mp hz with ⟨_,q⟩ | q
    ·exact q ea.symm
    ·exact (i.more a q).2 ao
   by_cases q:e'.2.1=some a
   ·exact q
   ·exact absurd (h'.mem.mpr (.inl ⟨ao,fun z=>q z.symm⟩)) na
  cases q:e.2.1 with
  | some a=>exact (half h h' i i' a q).symm
  | none=>
   cases q':e'.2.1 with
   | none=>rfl
   | some b=>rw [half h' h i' i b q'] at q; cases q
 have o2:e.2.2=e'.2.2:=by
  have half:∀ {e e':BX},BE op e.2.1 e.2.2 zs->BE op e'.2.1 e'.2.2 zs->GV ss op e->GV ss op e'->∀ a,e.2.2=some a->e'.2.2=some a:=fun {e e'} h h' i i' a ea=>by
   rcases h'.mem.mp (h.mem.mpr (.inr ea)) with ⟨q,_⟩ | q
   ·exact absurd q (i.more a ea).2
   ·exact q
  cases q:e.2.2 with
  | some a=>exact (half h h' i i' a q).symm
  | none=>
   cases q':e'.2.2 with
   | none=>rfl
   | some b=>rw [half h' h i' i b q'] at q; cases q
 have k1:=i.key;have k2:=i'.key;obtain ⟨a,b,c⟩:=e;obtain ⟨a',b',c'⟩:=e';have o1':b=b':=o1;have o2':c=c':=o2;subst o1' o2';cases b with
 | none=>
  cases c with
  | none=>exact absurd i.any (by simp)
  | some s=>rw [k1,k2]
 | some h=>
  cases c with
  | none=>rw [k1,k2]
  | some s=>rw [k1,k2]
def Cu (H:Hp) (op:List Str) (kvs:List (List A4 × V)) (L:List BX):Prop:=kvs.map (·.1)=L.map (fun e=>e.1.map Sum.inr) /\
 ∀ (i:Nat) kv e,kvs[i]? = some kv->L[i]? = some e->∃ t zs,kv.2=.ref t/\H t=some (.tup (zs.map V.str))/\BE op e.2.1 e.2.2 zs
theorem Cu.len {H:Hp} {op:List Str} {kvs:List (List A4 × V)} {L:List BX} (h:Cu H op kvs L):kvs.length=L.length:=by
 have:=congrArg aE h.1;rwa [YV,YV] at this
theorem Cu.keep {H H':Hp} {op:List Str} {kvs:List (List A4 × V)} {L:List BX} (h:Cu H op kvs L) (s:∀ b xs,H b=some (.tup xs)->H' b=some (.tup xs)):Cu H' op kvs L:=
 ⟨h.1,fun i kv e e1 e2=>let ⟨t,zs,a,b,c⟩:=h.2 i kv e e1 e2; ⟨t,zs,a,s _ _ b,c⟩⟩
theorem Cu.nil {H:Hp} {op:List Str}:Cu H op [] []:=⟨rfl,fun i kv e e1=>by cases e1⟩
theorem Cu.snoc {H:Hp} {op:List Str} {kvs:List (List A4 × V)} {L:List BX} (h:Cu H op kvs L) {e:BX} {t:Addr} {zs:List Str} (ht:H t=some (.tup (zs.map V.str))) (o:BE op e.2.1 e.2.2 zs):Cu H op (kvs ++ [(e.1.map Sum.inr,.ref t)]) (L ++ [e]):=by
 refine ⟨by rw [Zi,Zi,h.1]; rfl,fun i kv e' e1 e2=>?_⟩;have l:=h.len;by_cases hi:i < kvs.length
 ·rw [Zz hi] at e1;rw [Zz (by lia)] at e2;exact h.2 i kv e' e1 e2
 ·have Vg:i=kvs.length:=by
   have:=(YZ.mp e1).1;rw [Za,Z9] at this;lia
  subst Vg;rw [Zx (Zb _),af] at e1;rw [l,Zx (Zb _),af] at e2;cases e1
  cases e2
  exact ⟨t,zs,rfl,ht,o⟩
theorem De:∀ {a b:List Str},a.map (Sum.inr:Str->A4)=b.map Sum.inr->a=b
 | [],[],_=>rfl
 | [],_ :: _,e=>by cases e
 | _ :: _,[],e=>by cases e
 | x :: a,y :: b,e=>by
  rw [Zr,Zr] at e;injection e with e1 e2;injection e1 with e1;rw [e1,De e2]
theorem Cu.new {H:Hp} {op:List Str} {kvs:List (List A4 × V)} {L:List BX} (h:Cu H op kvs L) {k:List Str} (n:k ∉ L.map (·.1)) (v:V):Bp kvs (k.map Sum.inr) v=kvs ++ [(k.map Sum.inr,v)]:=by
 refine Im v (Lg fun hm=>?_);rw [h.1] at hm;obtain ⟨e,he,q⟩:=Zd.mp hm;exact n (Zd.mpr ⟨e,he,De q⟩)
theorem Cu.val {H:Hp} {op:List Str} {kvs:List (List A4 × V)} {L:List BX} (h:Cu H op kvs L) (nd:(L.map (·.1)).Nodup) {i:Nat} {e:BX} (he:L[i]? = some e):∃ t zs,Bd kvs (e.1.map Sum.inr)=some (.ref t)/\H t=some (.tup (zs.map V.str))/\BE op e.2.1 e.2.2 zs:=by
 have hi:i < kvs.length:=by rw [h.len]; exact (YZ.mp he).1
 obtain ⟨t,zs,a,b,c⟩:=h.2 i _ e (YU hi) he;refine ⟨t,zs,?_,b,c⟩;have kn:(kvs.map (·.1)).Nodup:=by
  rw [h.1,show (fun e:BX=>e.1.map (Sum.inr:Str->A4))=(fun k:List Str=>k.map Sum.inr) ∘ (fun e:BX=>e.1) from rfl,<-ZA];exact B4 (fun a b e=>De e) nd
 refine FO (q:=i) kn ?_;rw [YU hi];have k:=congrArg (fun l:List (List A4)=>l[i]?) h.1;rw [Ze,Ze,YU hi,he] at k;have k':kvs[i].1=e.1.map Sum.inr:=Zo.inj k;rw [<-k',<-a]
def oS:Option Str->V
 | none=>.non
 | some s=>.str s
def JJ:Sp:=fun vs H Q _=>∃ (o:Addr) (op:List Str) (out more:Option Str),vs=[.ref o,oS out,oS more]/\H o=some (.tup (op.map V.str))/\op.length<=30 /\
 ∀ (H':Hp) (t:Addr) (zs:List Str),Au H H'->H t=none->H' t=some (.tup (zs.map V.str))->BE op out more zs->Q (.ref t) H'
structure Jn (H:Hp) (c o m:Addr) (n:Nat) (xs:List Str) (ws:List A8) (rs1 Av:List BJ) (x:V) (d:PyData) (op:List Str):Prop where
 cw:Dv H c m n xs ws rs1 Av x d
 ri:Bs (rs1.map (·.1))
 ho:H o=some (.tup (op.map V.str))
 op:FF (rs1.map (·.1)) x op
theorem Jn.keepT {H H':Hp} {c o m:Addr} {n:Nat} {xs:List Str} {ws:List A8} {rs1 Av:List BJ} {x:V} {d:PyData} {op:List Str} (h:Jn H c o m n xs ws rs1 Av x d op) (t:∀ b ys,H b=some (.tup ys)->H' b=some (.tup ys)):Jn H' c o m n xs ws rs1 Av x d op:=⟨h.cw.keepT t,h.ri,t _ _ h.ho,h.op⟩
def Nr:Sp:=fun vs H Q _=>∃ (c o m:Addr) (n:Nat) (xs:List Str) (ws:List A8) (rs1 Av:List BJ) (x:V) (d:PyData) (op:List Str),vs=[.ref c,.ref o]/\Jn H c o m n xs ws rs1 Av x d op /\
 ∀ (H':Hp) (D:Addr) (kvs:List (List A4 × V)),Au H H'->H D=none->H' D=some (.dT kvs)->Cu H' op kvs (HS (rs1.map (·.1)) x op)->Q (.ref D) H'
theorem Au.free0 {H H':Hp} {a:Addr} (s:Au H H') (h:H' a=none):H a=none:=by
 cases z:H a with
 | none=>rfl
 | some o=>rw [s _ _ z] at h; cases h
section
variable {X:Cx} {pins:List (Addr × Obj)} {σ As:St} {H H':Hp} {s2 s':Shared} {scope:Scope} {cl:List (Str × Addr)} {N:List Str} {fp:List Addr} {C D:Addr} {h₁ h':Heap} {t':Nat}
end
theorem RJ (ws:List A8) (x y:Str):dst ws x y=dst ws y x:=by
 by_cases h:∃ n,HW ws x y n
 ·obtain ⟨n,h⟩:=h;rw [h.dst,h.symm.dst]
 ·unfold dst;rw [dif_neg h,dif_neg (fun ⟨n,z⟩=>h ⟨n,z.symm⟩)]
theorem B7 {A B:Hp} {a:Addr} {o:HO} (s:Au A B) (n:A a=none):Au A (upd B a o):=fun b u e=>by rw [Af (Ai e n)]; exact s _ _ e
theorem N2 {J:It} {xs:List V} {S:Hp->Prop} {g:TG} {tt:TT} {tk tv:TE} {H:Hp} {σ0:St} {R:Addr->Hp->Prop} (ov:Nb J xs S) (I:Addr->Nat->St->Hp->Prop)
  (h0:∀ D,H D=none->I D 0 σ0 (upd H D (.dT [])))
  (hs:∀ D i σ H',H D=none->I D i σ H'->S H')
  (turn:∀ D i σ H' x (B:St->V->V->Hp->Prop) (N:St->Hp->Prop),H D=none->xs[i]? = some x->I D i σ H'->(∀ Ay y v H6,(∃ kvs k b,y=.ref b/\H6 b=some (.tup (k.map kV))/\H6 D=some (.dT kvs)/\kvs.length < sizeLine/\I D (i + 1) Ay (upd H6 D (.dT (Bp kvs k v))))->B Ay y v H6) ->
   (∀ Ay H4,I D (i + 1) Ay H4->N Ay H4)->g x σ H' fun Ay H3=>tt Ay H3 fun b H4=>if b=true then tk Ay H4 (fun y H5=>tv Ay H5 fun v H6=>B Ay y v H6) else N Ay H4)
  (fin:∀ D σ H',H D=none->I D xs.length σ H'->R D H') :
  ∀ D,H D=none->∃ W:Nat->Nat->St->Hp->Prop,(∃ m,W 0 m σ0 (upd H D (.dT []))) /\
   ∀ i m As H',W i m As H'->(J.stop i H'/\R D H')\/(J.go i H'/\∀ x H2,J.yld i H' x H2->g x As H2 fun Ay H3=>tt Ay H3 fun b H4=>
    if b=true then tk Ay H4 (fun y H5=>tv Ay H5 fun v H6=>∃ kvs k b,y=.ref b/\H6 b=some (.tup (k.map kV))/\H6 D=some (.dT kvs)/\kvs.length < sizeLine/\∃ m',m' < m/\W (i + 1) m' Ay (upd H6 D (.dT (Bp kvs k v)))) else ∃ m',m' < m/\W (i + 1) m' Ay H4):=by
 intro D hD;exists fun i m σ H'=>m=xs.length - i/\i<=xs.length/\I D i σ H',⟨xs.length,rfl,Z7 _,h0 D hD⟩
 rintro i m σ H' ⟨rfl,hi,p⟩;have s1:=hs D i σ H' hD p;by_cases Bv:i < xs.length
 ·refine .inr ⟨ov.go i H' s1 Bv,fun x H2 y=>?_⟩;obtain ⟨rfl,ex⟩:=ov.yld i H' x H2 s1 y;refine turn D i σ H2 x (fun Ay y v H6=>∃ kvs k b,y=.ref b/\H6 b=some (.tup (k.map kV))/\H6 D=some (.dT kvs)/\kvs.length < sizeLine/\∃ m',m' < xs.length - i/\(m'=xs.length - (i + 1)/\i + 1<=xs.length/\I D (i + 1) Ay (upd H6 D (.dT (Bp kvs k v))))) (fun Ay H4=>∃ m',m' < xs.length - i/\(m'=xs.length - (i + 1)/\i + 1<=xs.length/\I D (i + 1) Ay H4)) hD ex p (fun Ay y v H6 ⟨kvs,k,b,a1,a2,a3,a4,a5⟩=>?_) fun Ay H4 p4=>?_
  ·exact ⟨kvs,k,b,a1,a2,a3,a4,xs.length - (i + 1),by lia,rfl,Bv,a5⟩
  ·exact ⟨xs.length - (i + 1),by lia,rfl,Bv,p4⟩
 ·have e:i=xs.length:=by lia
  subst e;exact .inl ⟨ov.stop H' s1,fin D σ H' hD p⟩
theorem Gg {ss:List Str} {x:V} {op:List Str} (h:FF ss x op) (nd:ss.Nodup):op.Nodup/\(∀ s ∈ op,s ∈ ss)/\(Bx ss op).length + op.length<=ss.length:=by
 have on:=h.2.1.nodup nd;exists on,fun s hs=>h.2.1.subset hs
 have:(Bx ss op ++ op).Nodup:=ZJ.mpr ⟨nd.filter _,on,fun a ha b hb e=>(C7.mp ha).2 (e ▸ hb)⟩;have:=List.Nodup.length_le_of_subset this (fun s hs=>by
  rcases Zp.mp hs with z | z
  ·exact (C7.mp z).1
  ·exact h.2.1.subset z)
 rwa [Za] at this
theorem PK {ss op:List Str}:(Cw ss op).length=(Bx ss op).length + op.length * ((Bx ss op).length + 1):=by
 unfold Cw;have:∀ l:List Str,(l.flatMap (Es ss op)).length=l.length * ((Bx ss op).length + 1):=fun l=>by
  induction l with
  | nil=>simp
  | cons h l ih=>rw [b6,Za,ih,Z4,eL,Nat.one_mul]; unfold Es; rw [Z4,YV]; lia
 rw [Za,YV,this]
theorem LS {ss op:List Str} {x:V} (h:FF ss x op) (nd:ss.Nodup) (l:ss.length<=10):(Cw ss op).length < 64:=by
 rw [PK];have:=(Gg h nd).2.2;have h1:∀ a b:Nat,a + b<=10->a + b * (a + 1) < 64:=fun a b hab=>by
  have ha:a<=10:=by lia
  have hb:b<=10 - a:=by lia
  have:b * (a + 1)<=(10 - a) * (a + 1):=bc _ hb;have k:a + (10 - a) * (a + 1) < 64:=by
   rcases a with _ | _ | _ | _ | _ | _ | _ | _ | _ | _ | _ | a <;> first | decide | lia
  lia
 exact h1 _ _ (by lia)
theorem FP {ss:List Str} {i:Nat} {x:V} (h:(ss.map V.str)[i]? = some x):∃ y,ss[i]? = some y/\x=.str y:=by
 rw [Ze] at h;cases q:ss[i]? with
 | none=>rw [q] at h; cases h
 | some y=>rw [q] at h; exact ⟨y,rfl,(Zo.inj h).symm⟩
theorem Cu.mem_get {H:Hp} {op:List Str} {kvs:List (List A4 × V)} {L:List BX} (h:Cu H op kvs L) {i:Nat} {p:List A4 × V} (e:kvs[i]? = some p):∃ x,L[i]? = some x/\p.1=x.1.map Sum.inr:=by
 have l:=h.len;have hi:=(YZ.mp e).1;exists L[i]'(by lia),YU _;have k:=congrArg (fun l:List (List A4)=>l[i]?) h.1;rw [Ze,Ze,e,YU (by lia)] at k;exact Zo.inj k
theorem Lk {α β:Type} (f:α->β) {l:List α} {i:Nat} {a:α} (e:l[i]? = some a):(l.take (i + 1)).map f=(l.take i).map f ++ [f a]:=by rw [Zs,e,Zi]; rfl
theorem OF {α β:Type} (f:α->List β) {l:List α} {i:Nat} {a:α} (e:l[i]? = some a):(l.take (i + 1)).flatMap f=(l.take i).flatMap f ++ f a:=by
 rw [Zs,e,du];show _ ++ List.flatMap f [a]=_
 rw [b6,dP,ZY]
theorem MP {α β:Type} (f:α->List β) {l:List α} {i:Nat} {a:α} (e:l[i]? = some a):l.flatMap f=(l.take i).flatMap f ++ (f a ++ (l.drop (i + 1)).flatMap f):=by
 obtain ⟨hi,rfl⟩:=YZ.mp e;rw [<-b6,<-du,cQ,cU]
theorem G3 {α:Type} (f:α->Bool) {l:List α} {i:Nat} {a:α} (e:l[i]? = some a):(l.take (i + 1)).filter f=(l.take i).filter f ++ (if f a then [a] else []):=by
 rw [Zs,e,aL];show _ ++ List.filter f [a]=_
 rw [aF];cases f a <;> rfl
theorem Pn {α:Type} {a b:List α} {x:α} (h:(a ++ x :: b).Nodup):x ∉ a:=fun hx=>(ZJ.mp h).2.2 x hx x Zq rfl
theorem KS {ss op:List Str} {L R:List BX} {e:BX} (sn:ss.Nodup) (on:op.Nodup) (h:Cw ss op=L ++ e :: R):e.1 ∉ L.map (·.1):=by
 have:=EH sn on;rw [h,Zi,Zr] at this;exact Pn this
theorem FA {α:Type} {l:List α} {i:Nat} {a:α} (e:l[i]? = some a):l=l.take i ++ a :: l.drop (i + 1):=by
 obtain ⟨hi,rfl⟩:=YZ.mp e;rw [cQ,cU]
theorem Nm {H:Hp}:∀ (vs:List V) (Pz:Nat->List Str->Prop),(∀ (i:Nat) v,vs[i]? = some v->∃ t zs,v=.ref t/\H t=some (.tup (zs.map V.str))/\Pz i zs)->∃ os,B9 H vs os/\∀ (i:Nat) zs,os[i]? = some zs->Pz i zs
 | [],_,_=>⟨[],.nil,fun i zs e=>by cases e⟩
 | v :: vs,Pz,h=>by
  obtain ⟨t,zs,rfl,ht,p⟩:=h 0 v rfl;obtain ⟨os,a,b⟩:=Nm vs (fun i=>Pz (i + 1)) fun i v e=>h (i + 1) v e
  refine ⟨zs :: os,.cons ht a,fun i ys e=>?_⟩;cases i with
  | zero=>cases e; exact p
  | succ i=>exact b i ys e
theorem Cu.tups {H:Hp} {op:List Str} {kvs:List (List A4 × V)} {L:List BX} (h:Cu H op kvs L):∃ os,B9 H (kvs.map (·.2)) os/\os.length=L.length/\∀ (i:Nat) e zs,L[i]? = some e->os[i]? = some zs->BE op e.2.1 e.2.2 zs:=by
 obtain ⟨os,a,b⟩:=Nm (H:=H) (kvs.map (·.2)) (fun i zs=>∀ e,L[i]? = some e->BE op e.2.1 e.2.2 zs) fun i v e=>by
  rw [Ze] at e;cases q:kvs[i]? with
  | none=>rw [q] at e; cases e
  | some p=>
   rw [q] at e;obtain ⟨x,ex,_⟩:=h.mem_get q;obtain ⟨t,zs,h1,h2,h3⟩:=h.2 i p x q ex;refine ⟨t,zs,(Zo.inj e).symm.trans h1,h2,fun e' Gn=>?_⟩;rw [ex] at Gn;cases Gn
   exact h3
 refine ⟨os,a,?_,fun i e zs e1 e2=>b i zs e2 e e1⟩;rw [<-a.len,YV,h.len]
theorem M6 {ss op:List Str} {x:V} {os:List (List Str)} (sn:ss.Nodup) (on:op.Nodup) (l:os.length=(HS ss x op).length) (h:∀ (i:Nat) e zs,(HS ss x op)[i]? = some e->os[i]? = some zs->BE op e.2.1 e.2.2 zs):os.Nodup:=by
 rw [cG,ZU];intro i j hi hj hij e;have nd:=GI (x:=x) sn on;have i1:(HS ss x op)[i]? = some ((HS ss x op)[i]'(by lia)):=YU _;have j1:(HS ss x op)[j]? = some ((HS ss x op)[j]'(by lia)):=YU _;have a:=h i _ _ i1 (YU hi);have b:=h j _ _ j1 (YU hj);rw [e] at a;have mi:∀ {k:Nat} (hk:k < (HS ss x op).length),GV ss op ((HS ss x op)[k]):=fun hk=>DI (Zy.mp (ZQ hk)).1
 have:=a.inj b (mi _) (mi _);rw [cG,ZU] at nd;refine nd i j (by rw [YV]; lia) (by rw [YV]; lia) hij ?_;rw [bD,bD,this]
theorem BE.opn {ss op:List Str} {x:V} {e:BX} {zs:List Str} (h:BE op e.2.1 e.2.2 zs) (he:e ∈ HS ss x op) (on:op.Nodup) (os:∀ s ∈ op,s ∈ ss):VD ss zs:=by
 obtain ⟨m,ok⟩:=Zy.mp he;have i:=DI m;refine ⟨fun z=>?_,h.nodup on i,h.sub os i⟩;have l:=h.1.length_eq;rw [z] at l;unfold Eo at ok;rw [ZI,aQ,b5] at ok;exact ok.1 (ZF.mp l.symm)
def Nv:Sp:=fun vs H Q _=>∃ (c m A o:Addr) (n:Nat) (xs:List Str) (ws:List A8) (rs1 Av:List BJ) (x:V) (d:PyData) (ss:List Str),vs=[.ref c,.ref A,.ref o]/\Dv H c m n xs ws rs1 Av x d/\ET H A xs ws/\H o=some (.tup (ss.map V.str))/\VD (rs1.map (·.1)) ss/\ss.length<=10 /\
 ∀ (H':Hp) (t:Int),Au H H'->Bn ws rs1 Av ss t->Q (.int t) H'
theorem PS.weak {X:Cx} {st:Stmt} {t t':TS} (h:PS X st t) (w:∀ D σ H,t' D σ H->t D σ H):PS X st t':=fun pins s σ H D I q=>h (pins:=pins) s σ H D I (w D σ H q)
theorem GD {op:List Str}:AY op none=op:=by
 unfold AY;exact dv.mpr fun a _=>by simp
theorem Hj:∀ (p:Str) (l:List Str),(p :: l).Pairwise (fun a b=>¬ b.cps.toList < a.cps.toList)->risingS p l=true
 | _,[],_=>rfl
 | p,x :: l,h=>by
  obtain ⟨h1,h2⟩:=ZZ.mp h;rw [Ga,ZI,ltCps_eq];exact ⟨by simpa using h1 x Zq,Hj x l h2⟩
theorem Lv {l:List Str} (h:l.Pairwise fun a b=>¬ b.cps.toList < a.cps.toList):sortedS l=true:=by
 cases l with
 | nil=>rfl
 | cons p l=>exact Hj p l h
theorem Mt {ss op l:List Str} (h:Bs ss) (o:op.Sublist ss) (s:l.Sublist op):sortedS l=true:=Lv (h.sub (s.trans o)).pw
theorem OE {H:Hp} {c m:Addr} {n:Nat} {xs:List Str} {ws:List A8} {rs1 Av:List BJ} {x:V} {d:PyData} {ss:List Str} {t:Int} (cw:Dv H c m n xs ws rs1 Av x d) (o:VD (rs1.map (·.1)) ss) (l:ss.length<=10) (tt:Bn ws rs1 Av ss t):0<=t/\t < 2 ^ 600:=by
 obtain ⟨ds,wd,rfl⟩:=tt;have a:=PV cw.ok1 (by decide) o.2.2 (by lia);have sx:∀ s ∈ ss,s ∈ xs:=fun s hs=>by
  obtain ⟨r,hr,rfl⟩:=Zd.mp (o.2.2 s hs);exact cw.ok1.sub r hr
 have q:=Ky (B:=10 ^ 30 * 2 ^ 300) (by decide) (l:=(Av.zip ds).map fun p=>p.1.2 * p.2) fun t ht=>by
  obtain ⟨p,hp,rfl⟩:=Zd.mp ht;obtain ⟨i,hi,ei⟩:=Zm hp;rw [List.getElem_zip] at ei;rw [cD] at hi;have er:Av[i]? = some p.1:=by rw [YU (by lia),<-ei]
  have ed:ds[i]? = some p.2:=by rw [YU (by lia),<-ei]
  have rm:=YY er;obtain ⟨⟨s,hs,hd⟩,_⟩:=wd.2 i _ _ er ed;have md:=wd.2 i _ _ er ed;have b:0<=p.2/\p.2 < 2 ^ 300:=by
   obtain ⟨k,w,k0,k1⟩:=cw.map.sums cw.n1 cw.n30 s (sx s hs) p.1.1 (cw.ok2.sub _ rm);exact ⟨hd.pos' fun u hu=>(cw.map.at'.wn u hu).2.2.1,dN (md.2 s hs k w) k1⟩
  have cb:=cw.ok2.lo _ rm;exact ⟨eE (by lia) b.1,Int.mul_le_mul (by lia) (by lia) b.1 (by decide)⟩
 have l2:=cw.l2;have zl:(Av.zip ds).length<=30:=by rw [cD]; lia
 rw [YV] at q;have:((Av.zip ds).length:Int) * (10 ^ 30 * 2 ^ 300)<=30 * (10 ^ 30 * 2 ^ 300):=ae (by lia) (by decide);have c:(30:Int) * (10 ^ 30 * 2 ^ 300) < 2 ^ 500:=by decide
 have e:(2:Int) ^ 500 + 2 ^ 500<=2 ^ 600:=by decide +kernel
 unfold DZ;refine ⟨by lia,bx ?_ e⟩;lia
def Nh (ws:List A8) (rs1 Av:List BJ) (x:V) (op zs:List Str):Prop:=∃ e t t0,e ∈ HS (rs1.map (·.1)) x op/\BE op e.2.1 e.2.2 zs/\Bn ws rs1 Av zs t/\Bn ws rs1 Av op t0/\t < t0 /\
 ∀ e' ∈ HS (rs1.map (·.1)) x op,∀ TJ t',BE op e'.2.1 e'.2.2 TJ->Bn ws rs1 Av TJ t'->AN (CT (t',e'.1)) (CT (t,e.1))=false
def FH (ws:List A8) (rs1 Av:List BJ) (x:V) (op:List Str):Prop:=∀ e ∈ HS (rs1.map (·.1)) x op,∀ zs t t0,BE op e.2.1 e.2.2 zs->Bn ws rs1 Av zs t->Bn ws rs1 Av op t0->t0<=t
def BetV (H:Hp) (ws:List A8) (rs1 Av:List BJ) (x:V) (op:List Str) (v:V):Prop:=(v=.non/\FH ws rs1 Av x op)\/∃ t zs,v=.ref t/\H t=some (.tup (zs.map V.str))/\Nh ws rs1 Av x op zs
theorem Nh.not {ws:List A8} {rs1 Av:List BJ} {x:V} {op zs:List Str} (h:Nh ws rs1 Av x op zs) (g:FH ws rs1 Av x op):False:=by
 obtain ⟨e,t,t0,h1,h2,h3,h4,h5,h6⟩:=h;have:=g e h1 zs t t0 h2 h3 h4;lia
theorem BE.ne_op {ss op:List Str} {e:BX} {zs:List Str} (h:BE op e.2.1 e.2.2 zs) (i:GV ss op e):zs ≠ op:=fun z=>by
 subst z;rcases i.any with a | a
 ·cases q:e.2.1 with
  | none=>exact a q
  | some b=>
   have bm:=i.out b q;rcases h.mem.mp bm with ⟨_,c⟩ | c
   ·exact c q.symm
   ·exact (i.more b c).2 bm
 ·cases q:e.2.2 with
  | none=>exact a q
  | some s=>exact (i.more s q).2 (h.mem.mpr (.inr q))
theorem SY {t t':Int} {k k':List Str} (h:t < t'):AN (CT (t',k')) (CT (t,k))=false:=by
 have:AN (CT (t,k)) (CT (t',k'))=true:=by
  show (if Gy.i t=Gy.i t' then AN _ _ else DN (.i t) (.i t'))=true
  rw [if_neg (fun e=>by injection e with e; lia)];exact decide_eq_true h
 cases q:AN (CT (t',k')) (CT (t,k)) with
 | false=>rfl
 | true=>exact absurd (Gk _ _ _ this q) (by rw [Ff]; simp)
theorem BE.ops {ss op:List Str} {x:V} {e:BX} {zs:List Str} (h:BE op e.2.1 e.2.2 zs) (he:e ∈ HS ss x op) (sr:Bs ss) (on:op.Nodup) (os:∀ s ∈ op,s ∈ ss):FF ss x zs:=by
 obtain ⟨m,ok⟩:=Zy.mp he;have i:=DI m;obtain ⟨ys,e1,e2,e3,e4⟩:=(h.isOp (x:=x) sr on os i).mpr ok;have:zs=ys:=DQ e1;subst this;exact ⟨e2,e3,e4⟩
def Ie:Sp:=fun vs H Q _=>∃ (c o m:Addr) (n:Nat) (xs:List Str) (ws:List A8) (rs1 Av:List BJ) (x:V) (d:PyData) (op:List Str),vs=[.ref c,.ref o]/\Jn H c o m n xs ws rs1 Av x d op /\
 ∀ (H':Hp) (v:V) (t0:Int),Au H H'->Bn ws rs1 Av op t0->BetV H' ws rs1 Av x op v->Q v H'
def JG:Sp:=fun vs H Q _=>∃ (c o m:Addr) (n:Nat) (xs:List Str) (ws:List A8) (rs1 Av:List BJ) (x:V) (d:PyData) (op:List Str),vs=[.ref c,.ref o]/\Jn H c o m n xs ws rs1 Av x d op /\
 ∀ (H':Hp) (b:Bool),Au H H'->(b=true ↔ FH ws rs1 Av x op)->Q (.bl b) H'
inductive GX (ws:List A8) (rs1 Av:List BJ) (x:V):List Str->List (List Str)->Prop
 | end {op:List Str}:FH ws rs1 Av x op->GX ws rs1 Av x op [op]
 | step {op zs:List Str} {r:List (List Str)}:Nh ws rs1 Av x op zs->GX ws rs1 Av x zs r->GX ws rs1 Av x op (op :: r)
def Ic:Sp:=fun vs H Q _=>∃ (c o m:Addr) (n:Nat) (xs:List Str) (ws:List A8) (rs1 Av:List BJ) (x:V) (d:PyData) (op:List Str),vs=[.ref c,.ref o]/\Jn H c o m n xs ws rs1 Av x d op /\
 ∀ (H':Hp) (L:Addr) (us:List V) (r:List (List Str)),Au H H'->H L=none->H' L=some (.lst us)->B9 H' us r->GX ws rs1 Av x op r->r.length<=1024->Q (.ref L) H'
theorem o10x {ss:List Str} {x:V} {ys:List Str} (h:FF ss x ys) (sn:ss.Nodup) (l:ss.length<=10):ys.length<=10:=Z2 h.2.1.length_le l
theorem Np:∀ {l:List Str},l.Nodup->∃ fs,MX l fs/\fs.length=2 ^ l.length
 | [],_=>⟨[[]],MX.nil,rfl⟩
 | a :: l,h=>by
  obtain ⟨fs,s,e⟩:=Np (Z3.mp h).2;exists _,s.step (Z3.mp h).1;rw [Za,YV,e,Z4,eJ];lia
theorem OP {ss:List Str} {x:V} {r:List (List Str)} (sn:ss.Nodup) (l:ss.length<=10) (rn:r.Nodup) (h:∀ y ∈ r,FF ss x y):r.length<=1024:=by
 obtain ⟨fs,s,e⟩:=Np sn;have a:=List.Nodup.length_le_of_subset rn (fun y hy=>(s.2 y).mpr (h y hy).2.1);have b:2 ^ ss.length<=2 ^ 10:=bg (by decide) l;lia
theorem FF.opn {ss:List Str} {x:V} {ys:List Str} (h:FF ss x ys) (sn:ss.Nodup):VD ss ys:=⟨h.1,h.2.1.nodup sn,fun s hs=>h.2.1.subset hs⟩
theorem GX.head {ws:List A8} {rs1 Av:List BJ} {x:V} {op:List Str} {r:List (List Str)} (h:GX ws rs1 Av x op r):∃ l,r=op :: l:=by
 cases h with
 | «end» _=>exact ⟨[],rfl⟩
 | step _ _=>exact ⟨_,rfl⟩
theorem Nh.ops {ws:List A8} {rs1 Av:List BJ} {x:V} {op zs:List Str} (h:Nh ws rs1 Av x op zs) (sr:Bs (rs1.map (·.1))) (o:FF (rs1.map (·.1)) x op):FF (rs1.map (·.1)) x zs:=by
 obtain ⟨e,t,t0,h1,h2,_⟩:=h;obtain ⟨on,os,_⟩:=Gg o sr.nodup;exact h2.ops h1 sr on os
theorem GX.at {ws:List A8} {rs1 Av:List BJ} {x:V} (sr:Bs (rs1.map (·.1))):∀ {op:List Str} {r:List (List Str)},FF (rs1.map (·.1)) x op->GX ws rs1 Av x op r->∀ (k:Nat) y,r[k]? = some y->FF (rs1.map (·.1)) x y/\GX ws rs1 Av x y (r.drop k)/\(FH ws rs1 Av x y ↔ k + 1=r.length)/\∀ z,r[k + 1]? = some z->Nh ws rs1 Av x y z:=by
 intro op r o h;induction h with
 | «end» bn=>
  intro k y e;cases k with
  | zero=>cases e; exact ⟨o,.end bn,⟨fun _=>rfl,fun _=>bn⟩,fun z e=>by cases e⟩
  | succ k=>cases e
 | step bs h ih=>
  intro k y e;cases k with
  | zero=>
   cases e
   obtain ⟨l,rfl⟩:=h.head;exact ⟨o,.step bs h,⟨fun z=>(bs.not z).elim,fun z=>by simp at z⟩,fun z e=>by cases e; exact bs⟩
  | succ k=>
   rw [ax] at e;obtain ⟨a,b,c,d⟩:=ih (bs.ops sr o) k y e;exact ⟨a,b,c.trans (by rw [Z4]; lia),fun z e=>d z e⟩
end L2
namespace L2
open PySem
def sm {α:Type} (l:List α) (g:α->Int):Int:=(l.map g).sum
section
variable {α β:Type} {l:List α} {g h:α->Int}
theorem Kz:sm ([]:List α) g=0:=rfl
theorem AR {a:α}:sm (a :: l) g=g a + sm l g:=by simp [sm]
theorem Fp (e:∀ x ∈ l,g x<=h x):sm l g<=sm l h:=by
 induction l with
 | nil=>exact ZD _
 | cons a l ih=>
  rw [AR,AR];exact Int.add_le_add (e a Zq) (ih fun x hx=>e x (Zv _ hx))
theorem AI (e:∀ x ∈ l,g x=h x):sm l g=sm l h:=e6 (Fp fun x hx=>eK (e x hx)) (Fp fun x hx=>eK (e x hx).symm)
theorem FR:sm l (fun _=>0)=0:=by
 induction l with
 | nil=>rfl
 | cons a l ih=>rw [AR,ih]; rfl
theorem Fo (e:∀ x ∈ l,0<=g x):0<=sm l g:=by
 have:=Fp (g:=fun _=>0) (h:=g) e;rwa [FR] at this
theorem Ct:sm l (fun x=>g x + h x)=sm l g + sm l h:=by
 induction l with
 | nil=>rfl
 | cons a l ih=>rw [AR,AR,AR,ih]; lia
theorem Cs (c:Int):sm l (fun x=>c * g x)=c * sm l g:=by
 induction l with
 | nil=>simp [sm]
 | cons a l ih=>rw [AR,AR,ih,dw]
theorem FT {b:List β} {k:α->β->Int}:sm l (fun x=>sm b (k x))=sm b fun y=>sm l fun x=>k x y:=by
 induction l with
 | nil=>rw [Kz]; exact FR.symm
 | cons a l ih=>
  rw [AR,ih,<-Ct];exact AI fun y _=>(AR (g:=fun x=>k x y)).symm
theorem CZ [DecidableEq α] (nd:l.Nodup) {x:α} (hx:x ∈ l) (v:α->Int):sm l (fun o=>if x=o then v o else 0)=v x:=by
 induction l with
 | nil=>cases hx
 | cons a l ih=>
  rw [Z3] at nd;rw [AR];by_cases e:x=a
  ·subst e;rw [if_pos rfl,AI (h:=fun _=>0) fun o ho=>if_neg fun (z:x=o)=>nd.1 (z ▸ ho),FR,ak]
  ·rw [if_neg e,ih nd.2 ((Zg.mp hx).resolve_left e),aa]
theorem S3 {l':List α} (p:l.Perm l'):sm l g=sm l' g:=by
 induction p with
 | nil=>rfl
 | cons a _ ih=>rw [AR,AR,ih]
 | swap a b l=>rw [AR,AR,AR,AR]; lia
 | trans _ _ h1 h2=>rw [h1,h2]
theorem U9 {l':List α}:sm (l ++ l') g=sm l g + sm l' g:=by
 induction l with
 | nil=>rw [cB,Kz,aa]
 | cons a l ih=>rw [ah,AR,AR,ih,bA]
theorem Eu:sm l (fun _=>1)=(l.length:Int):=by
 induction l with
 | nil=>rfl
 | cons a l ih=>rw [AR,ih,Z4]; lia
theorem DC (p:α->Bool):sm (l.filter p) g=sm l fun x=>if p x=true then g x else 0:=by
 induction l with
 | nil=>rfl
 | cons a l ih=>
  rw [AR,aF];by_cases e:p a=true
  ·rw [if_pos e,if_pos e,AR,ih]
  ·rw [if_neg e,if_neg e,ih,aa]
theorem EC (v:α->Int):∀ (l:List α),l ≠ []->∃ a ∈ l,∀ b ∈ l,v a<=v b
 | [],h=>absurd rfl h
 | [a],_=>⟨a,Zq,fun b hb=>by rw [Zl.mp hb]; exact ZD _⟩
 | a :: b :: l,_=>by
  obtain ⟨c,hc,hm⟩:=EC v (b :: l) (by simp);by_cases e:v a<=v c
  ·exact ⟨a,Zq,fun x hx=>by
    rcases Zg.mp hx with rfl | hx
    ·exact ZD _
    ·exact bp e (hm x hx)⟩
  ·exact ⟨c,Zv _ hc,fun x hx=>by
    rcases Zg.mp hx with rfl | hx
    ·lia
    ·exact hm x hx⟩
end
def sW (rs:List BJ) (g:Str->Int):Int:=sm rs fun r=>r.2 * g r.1
section
variable {rs:List BJ} {g h:Str->Int}
theorem TN (w:∀ r ∈ rs,0<=r.2) (e:∀ r ∈ rs,g r.1<=h r.1):sW rs g<=sW rs h:=Fp fun r hr=>Int.mul_le_mul_of_nonneg_left (e r hr) (w r hr)
theorem Ij:sW rs (fun y=>g y + h y)=sW rs g + sW rs h:=by
 unfold sW;rw [<-Ct];exact AI fun r _=>dw ..
theorem Mx (c:Int):sW rs (fun y=>c * g y)=c * sW rs g:=by
 unfold sW;rw [<-Cs];exact AI fun r _=>by rw [<-ba,bK r.2 c,ba]
theorem JN (w:∀ r ∈ rs,0<=r.2) (e:∀ r ∈ rs,0<=g r.1):0<=sW rs g:=Fo fun r hr=>eE (w r hr) (e r hr)
theorem E4 {l:List Str} (nd:l.Nodup) {k:Str->Str} (hk:∀ y,k y ∈ l):sm l (fun o=>sW rs fun y=>if k y=o then g y else 0)=sW rs g:=by
 unfold sW;rw [FT];refine AI fun r _=>?_
 rw [Cs,CZ nd (hk r.1) fun _=>g r.1]
end
structure Ls (D:Str->Str->Int) (P:Str->Prop) (f:Str->Int) (rs:List BJ) (S O:List Str) (σ ω:Str->Str):Prop where
 sy:∀ x y,D x y=D y x
 nn:∀ x y,P x->P y->0<=D x y
 zz:∀ x,P x->D x x=0
 tri:∀ x y z,P x->P y->P z->D x z<=D x y + D y z
 pr:∀ r ∈ rs,P r.1
 pw:∀ r ∈ rs,0<=r.2
 pS:∀ s ∈ S,P s/\0<=f s
 pO:∀ o ∈ O,P o/\0<=f o
 nS:S.Nodup
 nO:O.Nodup
 hσ:∀ y,σ y ∈ S/\∀ s ∈ S,D (σ y) y<=D s y
 hω:∀ y,ω y ∈ O/\∀ s ∈ O,D (ω y) y<=D s y
 swap:∀ s ∈ S,∀ o ∈ O,o ∉ S->∀ δ:Str->Int,(∀ r ∈ rs,∃ a,((a ∈ S/\a ≠ s)\/a=o)/\D a r.1<=D (σ r.1) r.1 + δ r.1)->0<=f o - f s + sW rs δ
def LsO (D:Str->Str->Int) (f:Str->Int) (rs:List BJ) (S O:List Str) (σ:Str->Str):Prop:=
 ∀ o ∈ O,o ∉ S->∀ δ:Str->Int,(∀ r ∈ rs,∃ a,(a ∈ S\/a=o)/\D a r.1<=D (σ r.1) r.1 + δ r.1)->0<=f o + sW rs δ
def LsS (D:Str->Str->Int) (f:Str->Int) (rs:List BJ) (S:List Str) (σ:Str->Str):Prop:=
 ∀ s ∈ S,(∃ z ∈ S,z ≠ s)->∀ δ:Str->Int,(∀ r ∈ rs,∃ a,(a ∈ S/\a ≠ s)/\D a r.1<=D (σ r.1) r.1 + δ r.1)->0<=sW rs δ - f s
section
variable {D:Str->Str->Int} {P:Str->Prop} {f:Str->Int} {rs:List BJ} {S O:List Str} {σ ω:Str->Str}
theorem Ls.opened (h:Ls D P f rs S O σ ω) (op:LsO D f rs S O σ):sW rs (fun y=>D (σ y) y)<=sm O f + sW rs fun y=>D (ω y) y:=by
 have one:∀ o ∈ O,0<=f o + sW rs fun y=>if ω y=o then D (ω y) y - D (σ y) y else 0:=fun o ho=>by
  by_cases hS:o ∈ S
  ·have:=(h.pO o ho).2;have:=JN (rs:=rs) (g:=fun y=>if ω y=o then D (ω y) y - D (σ y) y else 0) h.pw fun r _=>by
    show 0<=ite _ _ _
    split
    ·next e=>
     have:=(h.hσ r.1).2 o hS;rw [<-e] at this;lia
    ·exact ZD _
   lia
  ·refine op o ho hS _ fun r _=>?_
   by_cases e:ω r.1=o
   ·exact ⟨o,.inr rfl,by rw [if_pos e,e]; lia⟩
   ·exact ⟨σ r.1,.inl (h.hσ r.1).1,by rw [if_neg e]; lia⟩
 have t:=Fo one;rw [Ct,E4 h.nO fun y=>(h.hω y).1] at t;have e:=Ij (rs:=rs) (g:=fun y=>D (ω y) y - D (σ y) y) (h:=fun y=>D (σ y) y);rw [show (fun y=>D (ω y) y - D (σ y) y + D (σ y) y)=fun y=>D (ω y) y from funext fun y=>by lia] at e;lia
open Classical in
theorem Ls.home (h:Ls D P f rs S O σ ω):∃ η:Str->Str,(∀ o,P o->η o ∈ S/\∀ s ∈ S,D (η o) o<=D s o)/\∀ o ∈ S,η o=o:=by
 refine ⟨fun o=>if o ∈ S then o else σ o,fun o ho=>?_,fun o ho=>if_pos ho⟩;by_cases e:o ∈ S
 ·simp only [if_pos e];exact ⟨e,fun s hs=>by rw [h.zz o ho]; exact h.nn s o (h.pS s hs).1 ho⟩
 ·simp only [if_neg e];exact h.hσ o
theorem Ls.way (h:Ls D P f rs S O σ ω) {η:Str->Str} (hη:∀ o,P o->η o ∈ S/\∀ s ∈ S,D (η o) o<=D s o) {r:BJ} (hr:r ∈ rs):D (η (ω r.1)) r.1<=D (σ r.1) r.1 + 2 * D (ω r.1) r.1:=by
 have p:=h.pr r hr;have po:=(h.pO _ (h.hω r.1).1).1;have ps:=(h.pS _ (h.hσ r.1).1).1;have e:=hη _ po;have t1:=h.tri (η (ω r.1)) (ω r.1) r.1 (h.pS _ e.1).1 po p;have t2:=e.2 _ (h.hσ r.1).1;have t3:=h.tri (σ r.1) r.1 (ω r.1) ps p po;rw [h.sy r.1 (ω r.1)] at t3;lia
theorem Ls.lo (h:Ls D P f rs S O σ ω) {r:BJ} (hr:r ∈ rs):0<=D (ω r.1) r.1/\0<=D (σ r.1) r.1:=⟨h.nn _ _ (h.pO _ (h.hω r.1).1).1 (h.pr r hr),h.nn _ _ (h.pS _ (h.hσ r.1).1).1 (h.pr r hr)⟩
theorem Ls.house (h:Ls D P f rs S O σ ω) (op:LsO D f rs S O σ) (sh:LsS D f rs S σ) {η:Str->Str} (hη:∀ o,P o->η o ∈ S/\∀ s ∈ S,D (η o) o<=D s o) (hs:∀ o ∈ S,η o=o) (hO:O ≠ []) {s:Str} (hsS:s ∈ S) :
  f s<=(sm O fun o=>if η o=s then f o else 0) + 2 * sW rs fun y=>if σ y=s then D (ω y) y else 0:=by
 have fn:∀ o ∈ O,0<=(if η o=s then f o else 0):=fun o ho=>by
  split
  ·exact (h.pO o ho).2
  ·exact ZD _
 have wn:0<=sW rs fun y=>if σ y=s then D (ω y) y else 0:=JN h.pw fun r hr=>by
  show 0<=ite _ _ _
  split
  ·exact (h.lo hr).1
  ·exact ZD _
 by_cases hsO:s ∈ O
 ·have e1:=CZ (l:=O) h.nO hsO f;have e2:(sm O fun o=>if s=o then f o else 0)<=sm O fun o=>if η o=s then f o else 0:=Fp fun o ho=>by
   by_cases e:s=o
   ·subst e;rw [if_pos rfl,if_pos (hs _ hsS)];exact ZD _
   ·rw [if_neg e];exact fn o ho
  lia
 have nS:∀ o ∈ O,η o=s->o ∉ S:=fun o ho e z=>hsO (by rw [<-e,hs o z]; exact ho)
 by_cases hex:∃ o ∈ O,η o=s
 ·obtain ⟨o0,Xj,e0⟩:=hex;obtain ⟨p,hp,pm⟩:=EC (fun o=>D o s) (O.filter fun o=>decide (η o=s)) (dB (Zy.mpr ⟨Xj,decide_eq_true e0⟩));obtain ⟨hpO,hpe⟩:=Zy.mp hp;have hpe:=of_decide_eq_true hpe;have sw:=h.swap s hsS p hpO (nS p hpO hpe) (fun y=>if σ y=s then (if η (ω y)=s then (if ω y=p then D (ω y) y - D (σ y) y else D (σ y) y + D (ω y) y) else 2 * D (ω y) y) else 0) fun r hr=>by
   by_cases e1:σ r.1=s
   ·by_cases e2:η (ω r.1)=s
    ·by_cases e3:ω r.1=p
     ·exists p,.inr rfl;rw [if_pos e1,if_pos e2,if_pos e3,e3];lia
     ·exists p,.inr rfl;rw [if_pos e1,if_pos e2,if_neg e3];have pr:=h.pr r hr;have pp:=(h.pO p hpO).1;have po:=(h.pO _ (h.hω r.1).1).1;have ps:=(h.pS s hsS).1;have t1:=h.tri p s r.1 pp ps pr;have t2:=pm _ (Zy.mpr ⟨(h.hω r.1).1,decide_eq_true e2⟩);have t3:=h.tri (ω r.1) r.1 s po pr ps;rw [h.sy r.1 s] at t3;rw [e1];lia
    ·exists η (ω r.1),.inl ⟨(hη _ (h.pO _ (h.hω r.1).1).1).1,e2⟩;rw [if_pos e1,if_neg e2];exact h.way hη hr
   ·exact ⟨σ r.1,.inl ⟨(h.hσ r.1).1,e1⟩,by rw [if_neg e1]; lia⟩
  have one:∀ o ∈ O,0<=(if η o=s/\o ≠ p then f o else 0) + sW rs fun y=>if ω y=o then (if σ y=s/\η (ω y)=s/\ω y ≠ p then D (ω y) y - D (σ y) y else 0) else 0:=fun o ho=>by
   by_cases e:η o=s/\o ≠ p
   ·rw [if_pos e];refine op o ho (nS o ho e.1) _ fun r hr=>?_
    by_cases e1:ω r.1=o
    ·by_cases e2:σ r.1=s/\η (ω r.1)=s/\ω r.1 ≠ p
     ·exact ⟨o,.inr rfl,by rw [if_pos e1,if_pos e2,e1]; lia⟩
     ·exact ⟨σ r.1,.inl (h.hσ r.1).1,by rw [if_pos e1,if_neg e2]; lia⟩
    ·exact ⟨σ r.1,.inl (h.hσ r.1).1,by rw [if_neg e1]; lia⟩
   ·rw [if_neg e];have:(sW rs fun y=>if ω y=o then (if σ y=s/\η (ω y)=s/\ω y ≠ p then D (ω y) y - D (σ y) y else 0) else 0)=sW rs fun _=>0:=AI fun r _=>by
     congr 1;show ite _ _ _=(0:Int)
     by_cases e1:ω r.1=o
     ·rw [if_pos e1,if_neg fun z=>e ⟨e1 ▸ z.2.1,e1 ▸ z.2.2⟩]
     ·rw [if_neg e1]
    rw [this,aa];exact JN h.pw fun _ _=>ZD _
  have t:=Fo one;rw [Ct,E4 h.nO fun y=>(h.hω y).1] at t;have e1:=CZ (l:=O) h.nO hpO f;have e2:(sm O fun o=>if η o=s then f o else 0)=(sm O fun o=>if p=o then f o else 0) + sm O fun o=>if η o=s/\o ≠ p then f o else 0:=by
   rw [<-Ct];refine AI fun o _=>?_
   by_cases z:p=o
   ·subst z;rw [if_pos hpe,if_pos rfl,if_neg fun q=>q.2 rfl,ak]
   ·rw [if_neg z,aa];by_cases y:η o=s
    ·rw [if_pos y,if_pos ⟨y,fun q=>z q.symm⟩]
    ·rw [if_neg y,if_neg fun q=>y q.1]
  have e3:=Mx (rs:=rs) (g:=fun y=>if σ y=s then D (ω y) y else 0) 2;have e4:=Ij (rs:=rs) (g:=fun y=>if σ y=s then (if η (ω y)=s then (if ω y=p then D (ω y) y - D (σ y) y else D (σ y) y + D (ω y) y) else 2 * D (ω y) y) else 0) (h:=fun y=>if σ y=s/\η (ω y)=s/\ω y ≠ p then D (ω y) y - D (σ y) y else 0);have e5:=TN (rs:=rs) (g:=fun y=>(if σ y=s then (if η (ω y)=s then (if ω y=p then D (ω y) y - D (σ y) y else D (σ y) y + D (ω y) y) else 2 * D (ω y) y) else 0) + if σ y=s/\η (ω y)=s/\ω y ≠ p then D (ω y) y - D (σ y) y else 0) (h:=fun y=>2 * if σ y=s then D (ω y) y else 0) h.pw fun r hr=>by
   have lo:=h.lo hr;show ite _ _ _ + ite _ _ _<=2 * ite _ _ _
   by_cases z1:σ r.1=s
   ·rw [if_pos z1,if_pos z1];by_cases z2:η (ω r.1)=s
    ·rw [if_pos z2];by_cases z3:ω r.1=p
     ·rw [if_pos z3,if_neg fun q=>q.2.2 z3]; lia
     ·rw [if_neg z3,if_pos ⟨z1,z2,z3⟩]; lia
    ·rw [if_neg z2,if_neg fun q=>z2 q.2.1]; lia
   ·rw [if_neg z1,if_neg z1,if_neg fun q=>z1 q.1]; lia
  lia
 ·have fr:∀ o ∈ O,η o ≠ s:=fun o ho e=>hex ⟨o,ho,e⟩
  obtain ⟨o0,Xj⟩:=cI O hO;have z:=sh s hsS ⟨η o0,(hη o0 (h.pO o0 Xj).1).1,fr o0 Xj⟩ (fun y=>2 * if σ y=s then D (ω y) y else 0) fun r hr=>by
   by_cases e1:σ r.1=s
   ·exact ⟨η (ω r.1),⟨(hη _ (h.pO _ (h.hω r.1).1).1).1,fr _ (h.hω r.1).1⟩,by rw [if_pos e1]; exact h.way hη hr⟩
   ·exact ⟨σ r.1,⟨(h.hσ r.1).1,e1⟩,by rw [if_neg e1]; lia⟩
  rw [Mx] at z;have:=Fo fn;lia
theorem Ls.three (h:Ls D P f rs S O σ ω) (op:LsO D f rs S O σ) (sh:LsS D f rs S σ) (hO:O ≠ []):sm S f + sW rs (fun y=>D (σ y) y)<=3 * (sm O f + sW rs fun y=>D (ω y) y):=by
 obtain ⟨η,hη,hs⟩:=h.home;have a:=h.opened op;have b:=Fp fun s hsS=>h.house op sh hη hs hO (s:=s) hsS
 rw [Ct,Cs,E4 h.nS fun y=>(h.hσ y).1,FT,AI (l:=O) (h:=f) fun o ho=>CZ h.nS (hη o (h.pO o ho).1).1 fun _=>f o] at b;have:0<=sm O f:=Fo fun o ho=>(h.pO o ho).2
 lia
theorem Ls.turn (h:Ls D P f rs S O σ ω) (f0:∀ x,f x=0) {η:Str->Str} (hη:∀ o,P o->η o ∈ S/\∀ s ∈ S,D (η o) o<=D s o) {s o:Str} (hs:s ∈ S) (ho:o ∈ O) (lone:∀ q ∈ O,η q=s->q=o) :
  0<=(sW rs fun y=>if ω y=o then D (ω y) y - D (σ y) y else 0) + 2 * sW rs fun y=>if σ y=s then D (ω y) y else 0:=by
 rw [<-Mx,<-Ij];by_cases hoS:o ∈ S
 ·refine JN h.pw fun r hr=>?_
  have lo:=h.lo hr;show 0<=ite _ _ _ + 2 * ite _ _ _
  have a1:0<=if ω r.1=o then D (ω r.1) r.1 - D (σ r.1) r.1 else 0:=by
   split
   ·next e=>
    have:=(h.hσ r.1).2 o hoS;rw [<-e] at this;lia
   ·exact ZD _
  have a2:0<=if σ r.1=s then D (ω r.1) r.1 else 0:=by
   split
   ·exact lo.1
   ·exact ZD _
  lia
 ·have:=h.swap s hs o ho hoS (fun y=>(if ω y=o then D (ω y) y - D (σ y) y else 0) + 2 * if σ y=s then D (ω y) y else 0) fun r hr=>by
   have lo:=h.lo hr;by_cases e1:ω r.1=o
   ·exists o,.inr rfl;rw [if_pos e1,e1];rw [e1] at lo;split <;> lia
   ·rw [if_neg e1];by_cases e2:σ r.1=s
    ·rw [if_pos e2];have:=h.way hη hr;exact ⟨η (ω r.1),.inl ⟨(hη _ (h.pO _ (h.hω r.1).1).1).1,fun z=>e1 (lone _ (h.hω r.1).1 z)⟩,by lia⟩
    ·exact ⟨σ r.1,.inl ⟨(h.hσ r.1).1,e2⟩,by rw [if_neg e2]; lia⟩
  rw [f0,f0] at this;lia
theorem Ls.five (h:Ls D P f rs S O σ ω) (f0:∀ x,f x=0) (hl:O.length<=S.length):sW rs (fun y=>D (σ y) y)<=5 * sW rs fun y=>D (ω y) y:=by
 obtain ⟨η,hη,-⟩:=h.home;let A:Str->Int:=fun o=>sW rs fun y=>if ω y=o then D (ω y) y - D (σ y) y else 0
 let B:Str->Int:=fun s=>sW rs fun y=>if σ y=s then D (ω y) y else 0
 let c:Str->Int:=fun s=>sm O fun o=>if η o=s then 1 else 0
 have B0:∀ s,0<=B s:=fun s=>JN h.pw fun r hr=>by
  show 0<=ite _ _ _
  split
  ·exact (h.lo hr).1
  ·exact ZD _
 have mS:∀ o ∈ O,η o ∈ S:=fun o ho=>(hη o (h.pO o ho).1).1
 have c0:∀ s,0<=c s:=fun s=>Fo fun o _=>by split <;> decide
 have one:∀ q ∈ O,∀ s,η q=s->∀ o ∈ O,q ≠ o->η o=s->2<=c s:=fun q hq s e1 o ho ne e2=>by
  have a:=CZ (l:=O) h.nO hq fun _=>1
  have b:=CZ (l:=O) h.nO ho fun _=>1
  have:(sm O fun z=>(if q=z then 1 else 0) + if o=z then 1 else 0)<=c s:=Fp fun z _=>by
   by_cases z1:q=z
   ·subst z1;rw [if_pos rfl,if_neg (fun q=>ne q.symm),if_pos e1]; decide
   ·rw [if_neg z1];by_cases z2:o=z
    ·subst z2;rw [if_pos rfl,if_pos e2]; decide
    ·rw [if_neg z2];split <;> decide
  rw [Ct,a,b] at this;exact this
 have c1:∀ o ∈ O,1<=c (η o):=fun o ho=>by
  have a:=CZ (l:=O) h.nO ho fun _=>1
  have:(sm O fun z=>if o=z then 1 else 0)<=c (η o):=Fp fun z _=>by
   by_cases z2:o=z
   ·subst z2;rw [if_pos rfl,if_pos rfl]; decide
   ·rw [if_neg z2];split <;> decide
  lia
 have single:0<=sm O (fun o=>if c (η o)=1 then A o else 0) + 2 * sm S fun s=>if c s=1 then B s else 0:=by
  have e:(sm S fun s=>if c s=1 then B s else 0)=sm O fun o=>if c (η o)=1 then B (η o) else 0:=by
   have e1:(sm O fun o=>if c (η o)=1 then B (η o) else 0)=sm O fun o=>sm S fun s=>if η o=s then (if c s=1 then B s else 0) else 0:=
    AI fun o ho=>(CZ h.nS (mS o ho) fun s=>if c s=1 then B s else 0).symm
   rw [e1,FT];refine AI fun s _=>?_
   have e2:(sm O fun o=>if η o=s then (if c s=1 then B s else 0) else 0)=sm O fun o=>(if c s=1 then B s else 0) * if η o=s then 1 else 0:=AI fun o _=>by
    by_cases z:η o=s
    ·rw [if_pos z,if_pos z,bN]
    ·rw [if_neg z,if_neg z,Int.mul_zero]
   rw [e2,Cs];show _=_ * c s
   by_cases z:c s=1
   ·rw [z,bN]
   ·rw [if_neg z,Int.zero_mul]
  rw [e,<-Cs,<-Ct];refine Fo fun o ho=>?_
  by_cases z:c (η o)=1
  ·rw [if_pos z,if_pos z];refine h.turn f0 hη (mS o ho) ho fun q hq e=>Classical.byContradiction fun ne=>?_
   have:=one q hq _ e o ho ne rfl;lia
  ·rw [if_neg z,if_neg z]; decide
 let L:=O.filter fun o=>decide (2<=c (η o))
 let Z:=S.filter fun s=>decide (c s=0)
 have pairs:0<=(Z.length:Int) * sm L A + 2 * (L.length * sm Z B):=by
  have e:sm L (fun o=>sm Z fun s=>A o + 2 * B s)=(Z.length:Int) * sm L A + 2 * (L.length * sm Z B):=by
   have e1:∀ o,(sm Z fun s=>A o + 2 * B s)=Z.length * A o + 2 * sm Z B:=fun o=>by
    rw [Ct,Cs];congr 1;have:=Cs (l:=Z) (g:=fun _=>1) (A o);rw [Eu] at this;rw [bK,<-this];exact AI fun _ _=>(bN _).symm
   rw [AI fun o _=>e1 o,Ct,Cs];congr 1;have:=Cs (l:=L) (g:=fun _=>1) (2 * sm Z B);rw [Eu] at this;rw [AI (h:=fun _=>2 * sm Z B * 1) fun _ _=>(bN _).symm,this,ba,bK (sm Z B)]
  rw [<-e];refine Fo fun o ho=>Fo fun s hs=>?_
  obtain ⟨hs,z⟩:=Zy.mp hs;have z:=of_decide_eq_true z;obtain ⟨ho,-⟩:=Zy.mp ho;refine h.turn f0 hη hs ho fun q hq e=>?_
  have:=c1 q hq;rw [e] at this;lia
 have many:(L.length:Int)<=2 * Z.length:=by
  have e1:(L.length:Int)=sm S fun s=>if 2<=c s then c s else 0:=by
   rw [<-Eu,DC];have e2:(sm O fun o=>if decide (2<=c (η o))=true then (1:Int) else 0)=sm O fun o=>sm S fun s=>if η o=s then (if 2<=c s then 1 else 0) else 0:=AI fun o ho=>by
    rw [CZ h.nS (mS o ho) fun s=>if 2<=c s then (1:Int) else 0];simp only [decide_eq_true_eq]
   rw [e2,FT];refine AI fun s _=>?_
   by_cases z:2<=c s
   ·simp only [if_pos z]; rfl
   ·simp only [if_neg z];rw [AI (h:=fun _=>0) fun o _=>by split <;> rfl,FR]
  have e2:(Z.length:Int)=sm S fun s=>if c s=0 then 1 else 0:=by
   rw [<-Eu,DC];exact AI fun s _=>by simp only [decide_eq_true_eq]
  have e3:sm S c=O.length:=by
   rw [<-Eu];show (sm S fun s=>sm O fun o=>if η o=s then 1 else 0)=_
   rw [FT];exact AI fun o ho=>CZ h.nS (mS o ho) fun _=>1
  have e4:(sm S fun s=>if 2<=c s then c s else 0)<=sm S fun s=>2 * (if c s=0 then 1 else 0) + (2 * c s + (-2) * 1):=Fp fun s _=>by
   have:=c0 s;split <;> split <;> lia
  rw [Ct,Cs,Ct,Cs,Cs,Eu,e3] at e4;lia
 have C4:0<=sm L A + 4 * sm Z B:=by
  have bz:0<=sm Z B:=Fo fun s _=>B0 s
  have m2:(L.length:Int) * sm Z B<=2 * Z.length * sm Z B:=ae many bz;rcases bX Z.length with e | e
  ·have el:L.length=0:=by lia
   rw [ZF.mp el];show 0<=0 + 4 * sm Z B
   lia
  ·refine Int.not_lt.mp fun z=>?_
   have q:(Z.length:Int) * (sm L A + 4 * sm Z B) < 0:=Int.mul_neg_of_pos_of_neg (by lia) z;rw [dw] at q;have:(Z.length:Int) * (4 * sm Z B)=2 * (2 * Z.length * sm Z B):=by
    rw [<-ba,<-ba,<-ba,bK (Z.length:Int) 4];rfl
   lia
 have eA:sm O A=sW rs (fun y=>D (ω y) y) - sW rs fun y=>D (σ y) y:=by
  have e:=Ij (rs:=rs) (g:=fun y=>D (ω y) y - D (σ y) y) (h:=fun y=>D (σ y) y);rw [show (fun y=>D (ω y) y - D (σ y) y + D (σ y) y)=fun y=>D (ω y) y from funext fun y=>by lia] at e;rw [show sm O A=_ from E4 h.nO fun y=>(h.hω y).1];lia
 have eB:sm S B=sW rs fun y=>D (ω y) y:=E4 h.nS fun y=>(h.hσ y).1
 have sA:sm O A=sm O (fun o=>if c (η o)=1 then A o else 0) + sm L A:=by
  rw [DC,<-Ct];refine AI fun o ho=>?_
  have:=c1 o ho;by_cases z:c (η o)=1
  ·rw [if_pos z,if_neg (by simp only [decide_eq_true_eq]; lia),ak]
  ·rw [if_neg z,if_pos (by simp only [decide_eq_true_eq]; lia),aa]
 have sB:2 * (sm S fun s=>if c s=1 then B s else 0) + 4 * sm Z B<=4 * sm S B:=by
  rw [DC,<-Cs,<-Cs,<-Cs,<-Ct];refine Fp fun s _=>?_
  have:=B0 s;by_cases z:c s=0
  ·rw [if_neg (by lia),if_pos (decide_eq_true z)]; lia
  ·rw [if_neg (c:=decide (c s=0)=true) (fun q=>z (of_decide_eq_true q))];split <;> lia
 lia
end
theorem Gi (D:Str->Str->Int) {T:List Str} (h:T ≠ []):∃ σ:Str->Str,∀ y,σ y ∈ T/\∀ s ∈ T,D (σ y) y<=D s y:=
 ⟨fun y=>(EC (fun s=>D s y) T h).choose,fun y=>(EC (fun s=>D s y) T h).choose_spec⟩
section
variable {ws:List A8} {rs1 Av:List BJ} {xs op zs:List Str} {x:V}
theorem IB (g:Str->Int):∀ rs:List BJ,DZ rs (rs.map fun r=>g r.1)=sW rs g
 | []=>rfl
 | r :: rs=>by
  unfold sW;rw [AR,<-sW,<-IB g rs];simp [DZ]
theorem G2 {ss:List Str} (hd:∀ x ∈ xs,∀ y ∈ xs,HW ws x y (dst ws x y)) (sub:∀ s ∈ ss,s ∈ xs) (rx:∀ r ∈ Av,r.1 ∈ xs) {σ:Str->Str} (hσ:∀ y,σ y ∈ ss/\∀ s ∈ ss,dst ws (σ y) y<=dst ws s y) :
  Bn ws rs1 Av ss (sm ss (AO rs1) + sW Av fun y=>dst ws (σ y) y):=by
 refine ⟨Av.map fun r=>dst ws (σ r.1) r.1,⟨YV ..,fun i r d e1 e2=>?_⟩,by rw [IB (fun y=>dst ws (σ y) y)]; rfl⟩;rw [Ze,e1] at e2;cases e2
 have hr:=rx r (YY e1);exact ⟨⟨σ r.1,(hσ r.1).1,(hd _ (sub _ (hσ r.1).1) _ hr).1⟩,fun s hs m w=>bp ((hσ r.1).2 s hs) ((hd s (sub s hs) _ hr).2 m w)⟩
structure Sc (xs:List Str) (ws:List A8) (rs1 Av:List BJ):Prop where
 hd:∀ x ∈ xs,∀ y ∈ xs,HW ws x y (dst ws x y)
 lo:∀ x ∈ xs,∀ y ∈ xs,0<=dst ws x y
 ri:Bs (rs1.map (·.1))
 ok1:ES xs 0 rs1
 ok2:ES xs 1 Av
theorem Sc.sub (h:Sc xs ws rs1 Av) {s:Str} (hs:s ∈ rs1.map (·.1)):s ∈ xs/\0<=AO rs1 s:=by
 obtain ⟨r,hr,rfl⟩:=Zd.mp hs;exact ⟨h.ok1.sub r hr,by rw [Eg h.ok1.nd hr]; exact (h.ok1.lo r hr).1⟩
theorem Sc.exch (h:Sc xs ws rs1 Av) (o:FF (rs1.map (·.1)) x op) (bn:FH ws rs1 Av x op) {σ:Str->Str} (hσ:∀ y,σ y ∈ op/\∀ s ∈ op,dst ws (σ y) y<=dst ws s y) {e:BX} (he:e ∈ Cw (rs1.map (·.1)) op) (ok:Eo x op e=true)
  (δ:Str->Int) (hδ:∀ r ∈ Av,∃ a ∈ AY op e.2.1 ++ e.2.2.toList,dst ws a r.1<=dst ws (σ r.1) r.1 + δ r.1):sm op (AO rs1)<=sm (AY op e.2.1) (AO rs1) + sm e.2.2.toList (AO rs1) + sW Av δ:=by
 have sn:=h.ok1.nd;have i:=DI he;have on:=o.2.1.nodup sn;have os:∀ s ∈ op,s ∈ rs1.map (·.1):=fun s hs=>o.2.1.subset hs
 have kn:(AY op e.2.1 ++ e.2.2.toList).Nodup:=by
  refine ZJ.mpr ⟨on.filter _,by cases e.2.2 <;> simp,fun a ha b hb z=>?_⟩;rw [bu] at hb;subst z;exact (i.more a hb).2 (Zy.mp ha).1
 have km:∀ s ∈ AY op e.2.1 ++ e.2.2.toList,s ∈ rs1.map (·.1):=fun s hs=>by
  rcases Zp.mp hs with hs | hs
  ·exact os s (Zy.mp hs).1
  ·rw [bu] at hs;exact (i.more s hs).1
 have oc:BE op e.2.1 e.2.2 ((rs1.map (·.1)).filter fun s=>decide (s ∈ AY op e.2.1 ++ e.2.2.toList)):=by
  refine ⟨E7 (sn.filter _) kn fun s=>?_,Mt h.ri (List.Sublist.refl _) ar⟩;rw [Zy,decide_eq_true_eq];exact ⟨fun z=>z.2,fun z=>⟨km s z,z⟩⟩
 generalize hz:(rs1.map (·.1)).filter (fun s=>decide (s ∈ AY op e.2.1 ++ e.2.2.toList))=zs at oc;have mem:∀ s,s ∈ zs ↔ s ∈ AY op e.2.1 ++ e.2.2.toList:=fun s=>oc.1.mem_iff
 have ne:zs ≠ []:=fun z=>by
  rw [z] at oc;have:=oc.1.nil_eq;rw [Eo,<-this] at ok;cases ok
 obtain ⟨τ,hτ⟩:=Gi (dst ws) ne;have rx:∀ r ∈ Av,r.1 ∈ xs:=h.ok2.sub;have t0:=G2 (rs1:=rs1) h.hd (fun s hs=>(h.sub (os s hs)).1) rx hσ;have t1:=G2 (rs1:=rs1) h.hd (fun s hs=>(h.sub (km s ((mem s).mp hs))).1) rx hτ;have q:=bn e (Zy.mpr ⟨he,ok⟩) _ _ _ oc t1 t0;rw [S3 oc.1,U9] at q;have b:=TN (rs:=Av) (g:=fun y=>dst ws (τ y) y) (h:=fun y=>dst ws (σ y) y + δ y) (fun r hr=>by have:=(h.ok2.lo r hr).1; lia) fun r hr=>by
  obtain ⟨a,ha,hl⟩:=hδ r hr;exact bp ((hτ r.1).2 a ((mem a).mpr ha)) hl
 rw [Ij] at b;lia
theorem K0 {g:Str->Int} {s:Str} (on:op.Nodup) (hs:s ∈ op):sm op g=g s + sm (AY op (some s)) g:=by
 have e:=CZ on hs g;rw [AY,DC,<-e,<-Ct];refine AI fun a _=>?_
 by_cases z:s=a
 ·subst z;rw [if_pos rfl,if_neg (by simp),ak]
 ·rw [if_neg z,if_pos (c:=decide (some a ≠ some s)=true) (decide_eq_true fun q=>z (Zo.inj q).symm),aa]
theorem IF {s a:Str}:a ∈ AY op (some s) ↔ a ∈ op/\a ≠ s:=by
 rw [AY,Zy,decide_eq_true_eq];exact ⟨fun z=>⟨z.1,fun q=>z.2 (congrArg some q)⟩,fun z=>⟨z.1,fun q=>z.2 (Zo.inj q)⟩⟩
theorem LM {s:Str} (on:op.Nodup) (hs:s ∈ op):((AY op (some s)).length:Int) + 1=op.length:=by
 have:=K0 (g:=fun _=>1) on hs;rw [Eu,Eu] at this;lia
theorem Sc.ls (h:Sc xs ws rs1 Av) (o:FF (rs1.map (·.1)) x op) (bn:FH ws rs1 Av x op) (oz:FF (rs1.map (·.1)) x zs) {σ ω:Str->Str} (hσ:∀ y,σ y ∈ op/\∀ s ∈ op,dst ws (σ y) y<=dst ws s y) (hω:∀ y,ω y ∈ zs/\∀ s ∈ zs,dst ws (ω y) y<=dst ws s y) :
  Ls (dst ws) (· ∈ xs) (AO rs1) Av op zs σ ω:=by
 have sn:=h.ok1.nd;have on:=o.2.1.nodup sn;refine ⟨RJ ws,fun x y hx hy=>h.lo x hx y hy,fun x hx=>HW.dst ⟨.nil x,fun m w=>?_⟩,fun x y z hx hy hz=>?_,h.ok2.sub,fun r hr=>by have:=(h.ok2.lo r hr).1; lia,fun s hs=>h.sub (o.2.1.subset hs),fun s hs=>h.sub (oz.2.1.subset hs),on,oz.2.1.nodup sn,hσ,hω,fun s hs q hq nq δ hδ=>?_⟩
 ·have a:=h.hd x hx x hx;exact bp (h.lo x hx x hx) (a.2 m w)
 ·exact (h.hd x hx z hz).2 _ ((h.hd x hx y hy).1.app (h.hd y hy z hz).1)
 ·have:=h.exch o bn hσ (e:=Jo s q) (Fh.mpr (.inr ⟨s,hs,.inr ⟨q,C7.mpr ⟨oz.2.1.subset hq,nq⟩,rfl⟩⟩)) (by
   have l:=LM on hs;have e:(AY op (some s) ++ [q]).length=op.length:=by rw [Za,Z9]; lia
   show (!(AY op (some s) ++ [q]).isEmpty && Ea x (AY op (some s) ++ [q]).length)=true
   rw [e,o.2.2];simp) δ fun r hr=>by
    obtain ⟨a,ha,hl⟩:=hδ r hr;refine ⟨a,?_,hl⟩;rcases ha with ha | rfl
    ·exact ZN _ (IF.mpr ha)
    ·exact Zj _ Zq
  have k:=K0 (g:=AO rs1) on hs;have e:sm (Jo s q).2.2.toList (AO rs1)=AO rs1 q:=by
   show sm [q] _=_
   rw [AR,Kz,ak]
  rw [e] at this;have k2:sm (AY op (Jo s q).2.1) (AO rs1)=sm (AY op (some s)) (AO rs1):=rfl;lia
theorem Sc.lsO (h:Sc xs ws rs1 Av) (o:FF (rs1.map (·.1)) x op) (bn:FH ws rs1 Av x op) (oz:FF (rs1.map (·.1)) x zs) (lim:Ea x (op.length + 1)=true) {σ:Str->Str} (hσ:∀ y,σ y ∈ op/\∀ s ∈ op,dst ws (σ y) y<=dst ws s y) :
  LsO (dst ws) (AO rs1) Av op zs σ:=fun q hq nq δ hδ=>by
 have:=h.exch o bn hσ (e:=J1 q) (Fh.mpr (.inl ⟨q,C7.mpr ⟨oz.2.1.subset hq,nq⟩,rfl⟩)) (by
   show (!(AY op none ++ [q]).isEmpty && Ea x (AY op none ++ [q]).length)=true
   rw [GD,Za,Z9,lim];simp) δ fun r hr=>by
    obtain ⟨a,ha,hl⟩:=hδ r hr;refine ⟨a,?_,hl⟩;rcases ha with ha | rfl
    ·refine ZN _ ?_;show a ∈ AY op none
     rwa [GD]
    ·exact Zj _ Zq
 have e:sm (J1 q).2.2.toList (AO rs1)=AO rs1 q:=by
  show sm [q] _=_
  rw [AR,Kz,ak]
 rw [e,show AY op (J1 q).2.1=op from GD] at this;lia
theorem SW {x:V} {a b:Nat} (h:Ea x b=true) (l:a<=b):Ea x a=true:=by
 cases x <;> first | rfl | (show decide _=true; have:=of_decide_eq_true h; exact decide_eq_true (by lia))
theorem Sc.lsS (h:Sc xs ws rs1 Av) (o:FF (rs1.map (·.1)) x op) (bn:FH ws rs1 Av x op) {σ:Str->Str} (hσ:∀ y,σ y ∈ op/\∀ s ∈ op,dst ws (σ y) y<=dst ws s y) :
  LsS (dst ws) (AO rs1) Av op σ:=fun s hs ⟨z,hz,ne⟩ δ hδ=>by
 have on:=o.2.1.nodup h.ok1.nd;have:=h.exch o bn hσ (e:=Hu s) (Fh.mpr (.inr ⟨s,hs,.inl rfl⟩)) (by
   have l:=LM on hs;show (!(AY op (some s) ++ []).isEmpty && Ea x (AY op (some s) ++ []).length)=true
   rw [ZY,SW (b:=op.length) o.2.2 (by lia),cL,aQ,b5];exact dB (IF.mpr ⟨hz,ne⟩)) δ fun r hr=>by
    obtain ⟨a,ha,hl⟩:=hδ r hr;exact ⟨a,ZN _ (IF.mpr ha),hl⟩
 have k:=K0 (g:=AO rs1) on hs;have e:sm (Hu s).2.2.toList (AO rs1)=0:=rfl;have k2:sm (AY op (Hu s).2.1) (AO rs1)=sm (AY op (some s)) (AO rs1):=rfl;lia
theorem Sc.three (h:Sc xs ws rs1 Av) (o:FF (rs1.map (·.1)) .non op) (bn:FH ws rs1 Av .non op) (oz:FF (rs1.map (·.1)) .non zs) {t t':Int} (tt:Bn ws rs1 Av op t) (tz:Bn ws rs1 Av zs t'):t<=3 * t':=by
 obtain ⟨σ,hσ⟩:=Gi (dst ws) o.1;obtain ⟨ω,hω⟩:=Gi (dst ws) oz.1;rw [tt.uniq (G2 h.hd (fun s hs=>(h.sub (o.2.1.subset hs)).1) h.ok2.sub hσ),tz.uniq (G2 h.hd (fun s hs=>(h.sub (oz.2.1.subset hs)).1) h.ok2.sub hω)];exact (h.ls o bn oz hσ hω).three (h.lsO o bn oz rfl hσ) (h.lsS o bn hσ) oz.1
theorem Sc.five (h:Sc xs ws rs1 Av) {k:Int} (c0:∀ r ∈ rs1,r.2=0) (o:FF (rs1.map (·.1)) (.int k) op) (bn:FH ws rs1 Av (.int k) op) (oz:FF (rs1.map (·.1)) (.int k) zs) {t t':Int} (tt:Bn ws rs1 Av op t) (tz:Bn ws rs1 Av zs t'):t<=5 * t':=by
 obtain ⟨σ,hσ⟩:=Gi (dst ws) o.1;obtain ⟨ω,hω⟩:=Gi (dst ws) oz.1;rw [tt.uniq (G2 h.hd (fun s hs=>(h.sub (o.2.1.subset hs)).1) h.ok2.sub hσ),tz.uniq (G2 h.hd (fun s hs=>(h.sub (oz.2.1.subset hs)).1) h.ok2.sub hω)];have f0:∀ s,AO rs1 s=0:=fun s=>by
  unfold AO;cases q:rs1.find? fun r=>decide (r.1=s) with
  | none=>rfl
  | some r=>exact c0 r (cJ q)
 have z0:∀ l:List Str,sm l (AO rs1)=0:=fun l=>by rw [AI fun s _=>f0 s,FR]
 rw [z0,z0,aa,aa];have ls:=h.ls o bn oz hσ hω;have l1:(op.length:Int)<=k:=of_decide_eq_true o.2.2;have l2:(zs.length:Int)<=k:=of_decide_eq_true oz.2.2;by_cases hl:zs.length<=op.length
 ·exact ls.five f0 hl
 ·have a:=ls.opened (h.lsO o bn oz (show decide _=true from decide_eq_true (by lia)) hσ);rw [z0] at a;have:0<=sW Av fun y=>dst ws (ω y) y:=JN ls.pw fun r hr=>(ls.lo hr).1
  lia
end
end L2
namespace L2
open PySem PySem.Spec PyProof.Rows
def T5 (prog:Program) (w:World) (g0:Heap) (v:Value) (x:List A4 × Addr × Value):Prop:=∃ a,v=.ref a/\IsTup g0 a #[.ref x.2.1,x.2.2]/\(tupleKind (A2 prog w)).is g0 x.1 x.2.1
theorem Oh {prog:Program} {w:World} {g h:Heap} {k:List A4} {a:Addr} (x:(tupleKind (A2 prog w)).is g k a) (e:∀ o,g.get? a=some o->h.get? a=some o):(tupleKind (A2 prog w)).is h k a:=by
 obtain ⟨o,it,n,h1,h2⟩:=x;exact ⟨o,it,n,e o h1,h2⟩
section
variable {prog:Program} {w:World} {A:Around} {R:Result->Shared->Prop} {g0:Heap} {D it l:Addr} {vs:List Value} {ps:List (List A4 × Addr × Value)}
theorem O5 (hh:A.handled=none) (hu:A.units + 2 < cLine) (nI:it ≠ D) (nl:l ≠ it/\l ≠ D) (g1:∀ b o,g0.get? b=some o->b ≠ it/\b ≠ D) (hl:vs.length=ps.length) (rows:∀ (i:Nat) v p,vs[i]? = some v->ps[i]? = some p->T5 prog w g0 v p) (hn:(ps.map (·.1)).Nodup) (hsz:ps.length < sizeLine) :
  ∀ (m i:Nat) (s:Shared),ps.length - i=m->i<=ps.length->s.heap.IsListIter it l i->s.heap.IsList l vs.toArray->s.heap.DictOfH (tupleKind (A2 prog w)) D (ps.take i)->(∀ b o,g0.get? b=some o->s.heap.get? b=some o) ->
   (∀ h' tk,h'.DictOfH (tupleKind (A2 prog w)) D ps->(∀ b o,b ≠ it->b ≠ D->s.heap.get? b=some o->h'.get? b=some o)->R (.ok (.ret .none)) { s with heap:=h',toks:=tk }) ->
   codeAny (model prog w) A (.builtin "dict.update.loop" ⟨[.ref D,.ref it,.int (i:Int) 0,.none],[]⟩) R s:=by
 have dat:∀ {h h':Heap} {n:Nat},h.DictOfH (tupleKind (A2 prog w)) D (ps.take n)->(∀ b o,b ≠ it->h.get? b=some o->h'.get? b=some o)->(∀ b o,g0.get? b=some o->h.get? b=some o)->h'.DictOfH (tupleKind (A2 prog w)) D (ps.take n):=fun {h h' n} ⟨o,es,ep,h1,h2,h3,h4,h5,h6⟩ k gk=>by
  refine ⟨o,es,ep,k _ _ (Ne.symm nI) h1,h2,h3,h4,fun x hx=>?_,h6⟩;obtain ⟨j,hj,e⟩:=Zm (dk hx);have ev:vs[j]? = some (vs[j]'(by lia)):=YU (by lia);have ep:ps[j]? = some x:=by rw [YU hj,e]
  obtain ⟨a,_,_,kk⟩:=rows j _ _ ev ep;exact Oh kk fun o q=>k _ _ (g1 _ o q).1 (gk _ o q)
 intro m;induction m with
 | zero=>
  intro i s hm hi st hL dd gk r;have e:i=ps.length:=by lia
  refine codeAny_builtin C1 ?_;rw [Around.under_plainId Be _];unfold Builtin.«dict.update.loop»;refine wpAny_bind (wpAny_pyNext_list_end hh st hL (by simp; lia) fun h' eb=>?_);refine wpAny_bind (wpAny_pure (wpAny_pure ?_));have J2:=dat dd (fun b o ne q=>eb b o ne q) gk;rw [e,Zu] at J2;exact r h' s.toks J2 fun b o b1 b2 q=>eb b o b1 q
 | succ m ih=>
  intro i s hm hi st hL dd gk r;have Bv:i < ps.length:=by lia
  have ev:vs[i]? = some (vs[i]'(by lia)):=YU (by lia);have ep:ps[i]? = some ps[i]:=YU Bv;obtain ⟨a,e1,ht,kk⟩:=rows i _ _ ev ep;rw [e1] at ev;refine codeAny_builtin C1 ?_;rw [Around.under_plainId Be _];unfold Builtin.«dict.update.loop»;refine wpAny_bind (wpAny_pyNext_list_item st hL (x:=.ref a) (by simpa using ev) fun h' AQ sb=>?_);obtain ⟨o,ho,hc,n,hd⟩:=id ht;have ha:=(sb.2 a (g1 a o ho).1).trans (gk a o ho);have J2:=dat dd (fun b o ne q=>(sb.2 b ne).trans q) gk;have L':h'.IsList l vs.toArray:=by
   obtain ⟨ol,hol,rl⟩:=hL;exact ⟨ol,(sb.2 l nl.1).trans hol,rl⟩
  refine wpAny_bind (wpAny_holding ?_);refine wpAny_bind (wpAny_tryCatch ?_);unfold Builtin.Dict.pairItems;refine wpAny_bind (wpAny_typeOf (T:="tuple") ⟨o,ha,hc⟩ ?_);rw [if_pos (by decide)];refine wpAny_bind (wpAny_seqItems ha hd (wpAny_pure ?_));show wpAny _ A.in1 (holding [Value.ref ps[i].2.1,ps[i].2.2] (dictSet D (Value.ref ps[i].2.1) ps[i].2.2)) _ _ _
  have Uy:(ps.take i).length<=sizeLine:=by rw [Z8]; lia
  refine wpAny_holding (wpAny_dictSet_heap (hsz:=Uy) (show _ from (show A.units + 1 < cLine by lia)) (Oh kk fun o q=>(sb.2 _ (g1 _ o q).1).trans (gk _ o q)) J2 fun h2 Ma S5=>?_);have ki:((i:Int) + 1)=((i + 1:Nat):Int):=by lia
  refine wpAny_pure ⟨plainId_quiet Be _,?_⟩;show codeAny (model prog w) A (.builtin "dict.update.loop" ⟨[.ref D,.ref it,.int ((i:Int) + 1) 0,.none],[]⟩) R _
  rw [ki];have Yg:h2.IsListIter it l (i + 1):=by
   obtain ⟨oi,hoi,ri⟩:=AQ;exact ⟨oi,(S5.2 it nI).trans hoi,ri⟩
  have new:atKey (ps.take i) ps[i].1=none:=atKey_none_of_get fun j p q=>by
   have hj:=(YZ.mp q).1;rw [Z8] at hj;rw [cK (by lia)] at q;have q1:(ps.map (·.1))[j]? = some ps[i].1:=by rw [Ze,q]; rfl
   have q2:(ps.map (·.1))[i]? = some ps[i].1:=by rw [Ze,ep]; rfl
   have:=(dI (YZ.mp q1).1 hn).mp (q1.trans q2.symm);lia
  rw [storedH_new new,show ps.take i ++ [(ps[i].1,ps[i].2.1,ps[i].2.2)]=ps.take (i + 1) from by rw [Zs,ep]; rfl] at Ma;refine ih (i + 1) _ (by lia) Bv Yg ?_ Ma (fun b ob q=>(S5.2 b (g1 b ob q).2).trans ((sb.2 b (g1 b ob q).1).trans (gk b ob q))) fun h3 Su YL k3=>?_
  ·obtain ⟨ol,hol,rl⟩:=L';exact ⟨ol,(S5.2 l nl.2).trans hol,rl⟩
  ·exact r h3 Su YL fun b ob b1 b2 q=>k3 b ob b1 b2 ((S5.2 b b2).trans ((sb.2 b b1).trans q))
end
section
variable {prog:Program} {w:World} {A:Around} {E:Value->Shared->Prop} {s:Shared}
theorem HN {l:Addr} {vs:List Value} {ps:List (List A4 × Addr × Value)} {Q:Value->Shared->Prop} (hh:A.handled=none) (hu:A.units + 64 < cLine) {ol:Obj} {nl:Nat} (hl:s.heap.get? l=some ol) (hc:ol.cls=.type "list") (hd:ol.data=.seq vs.toArray nl) (hdc:ol.dict=none)
  (hlen:vs.length=ps.length) (rows:∀ (i:Nat) v p,vs[i]? = some v->ps[i]? = some p->T5 prog w s.heap v p) (hn:(ps.map (·.1)).Nodup) (hsz:ps.length < sizeLine)
  (h:∀ h' tk,h'.DictOfH (tupleKind (A2 prog w)) s.heap.objs.size ps->(∀ b o,s.heap.get? b=some o->h'.get? b=some o)->Q (.ref s.heap.objs.size) { s with heap:=h',toks:=tk }):wpAny (model prog w) A (call (.type "dict") [.ref l]) Q E s:=by
 refine callType_codes (Q₁:=fun obj AJ=>obj=.ref s.heap.objs.size/\AJ = { s with heap:=s.heap.push { cls:=.type "dict",data:=.dict #[] } }) F.kt_called_dict (F.kt_typeCall_dict_1 _) F.entry_dict_init (kt_code_dict_new _ ⟨rfl,rfl⟩) ?_;rintro obj AJ ⟨rfl,rfl⟩;have hnew:(s.heap.push { cls:=.type "dict",data:=.dict #[] }).DictOf (A2 prog w) s.heap.objs.size []:=Heap.DictOf.new s.heap;have hnewT:(s.heap.push { cls:=.type "dict",data:=.dict #[] }).DictOfH (tupleKind (A2 prog w)) s.heap.objs.size []:=Heap.DictOfH.new s.heap;have R6:(s.heap.push { cls:=.type "dict",data:=.dict #[] }).get? l=some ol:=YW _ hl;exists hnew.typeIs,F.args_dict_init_2 _ _;unfold Builtin.«dict.__init__»;refine wpAny_bind ?_;unfold Builtin.Dict.selfAndRest;refine wpAny_bind (wpAny_notOrdered_dict hnew.typeIs ?_);show wpAny _ _ (pure (s.heap.objs.size,[Value.ref l])) _ _ _
 refine wpAny_pure ?_;show wpAny _ _ (Builtin.Dict.updateFrom "dict.__init__" s.heap.objs.size (.ref l) [] .none) _ _ _
 unfold Builtin.Dict.updateFrom;refine wpAny_bind (wpAny_typeOf (T:="list") ⟨ol,R6,hc⟩ ?_);rw [if_pos (by decide)];refine wpAny_bind (MA R6 hc hd hdc hh fun h1 tk1 k1=>?_);simp only [dh,if_true];refine wpAny_bind (wpAny_rule ?_);have MK:h1.IsList l vs.toArray:=⟨ol,k1 _ _ R6,hc,nl,hd⟩
 refine wpAny_bind (wpAny_pyIter_list MK ?_);have old:∀ b o,s.heap.get? b=some o->h1.get? b=some o:=fun b o q=>k1 b o (YW _ q)
 obtain ⟨od,esd,epd,hod,rd1,rd2,rd3,_,rd5⟩:=id hnewT;have RD:=k1 _ _ hod;have ltD:=Zc RD;have ltl:=Zc (k1 _ _ R6);refine wpAny_pure ⟨plainId_quiet Be _,?_⟩;refine O5 (A:=A.in1) (g0:=s.heap) (D:=s.heap.objs.size) (it:=h1.objs.size) (l:=l) (vs:=vs) (ps:=ps) hh (by show A.units + 1 + 2 < cLine; lia) (ZO ltD) ⟨Zh ltl,Zh (Zc hl)⟩ (fun b o q=>⟨Zh (Zc (old b o q)),Zh (Zc q)⟩) hlen rows hn hsz _ 0 _ rfl (Z7 _)
  ⟨_,Zf _ rfl,rfl,rfl⟩ (MK.push _) (by rw [br]; exact ⟨od,esd,epd,YW _ RD,rd1,rd2,rd3,(fun x hx=>nomatch hx),rd5⟩) (fun b o q=>YW _ (old b o q)) fun h' tk dd kk=>?_
 exact ⟨rfl,h h' tk dd fun b o q=>kk b o (Zh (Zc (old b o q))) (Zh (Zc q)) (YW _ (old b o q))⟩
end
theorem Gu {X:Cx} (hc:X.calm=true) (hu:X.A.units + 64 < cLine):Bi X (.type "dict") (fun xs H Q=>∃ (a:Addr) (vs:List V) (ps:List (List A4 × V)),xs=[.ref a]/\H a=some (.lst vs)/\vs.length=ps.length/\(∀ (i:Nat) v p,vs[i]? = some v->ps[i]? = some p->∃ t b,v=.ref t/\H t=some (.tup [.ref b,p.2])/\H b=some (.tup (p.1.map kV)))/\(ps.map (·.1)).Nodup/\ps.length < sizeLine /\
  ∀ D,H D=none->Q (.ref D) (upd H D (.dT ps))):=by
 intro pins s σ H xs us Q I r h;obtain ⟨a,vs,ps,rfl,ha,hl,hk,hn,hsz,q⟩:=h;obtain ⟨u,rfl,ru⟩:=Cf r;cases ru
 obtain ⟨Ap,rv,⟨o,n,ho,Ht,Lb,hdat⟩,hz⟩:=I.list (A9.of ha);have il:Ap.length=ps.length:=by rw [<-rv.length,hl]
 have row:∀ i:Nat,i < ps.length->∃ x:List A4 × Addr × Value,(∃ p,ps[i]? = some p/\p.1=x.1/\H x.2.1=some (.tup (p.1.map kV))/\A3 p.2 x.2.2)/\∃ v,Ap[i]? = some v/\T5 X.prog X.w s.heap v x:=fun i hi=>by
  have e3:vs[i]? = some (vs[i]'(by lia)):=YU (by lia);have e2:ps[i]? = some ps[i]:=YU hi;obtain ⟨v',e4,r4⟩:=rv.get e3;obtain ⟨t,b,e5,ht,hb⟩:=hk i _ _ e3 e2;rw [e5] at r4;cases r4
  obtain ⟨MC,XE,XG,_⟩:=I.tuple (AF.of ht);cases XE with
  | cons x1 y1=>
   cases y1 with
   | @cons _ ub _ _ x2 y2=>
    cases y2
    cases x1
    exact ⟨(ps[i].1,b,ub),⟨_,e2,rfl,hb,x2⟩,_,e4,t,rfl,XG,EE I.hok hb⟩
 have all:∀ n:Nat,n<=ps.length->∃ qs:List (List A4 × Addr × Value),qs.length=n/\KT H (ps.take n) qs/\∀ (i:Nat) v x,i < n->Ap[i]? = some v->qs[i]? = some x->T5 X.prog X.w s.heap v x:=by
  intro n;induction n with
  | zero=>exact fun _=>⟨[],rfl,.nil,fun i _ _ h=>absurd h (aB _)⟩
  | succ n ih=>
   intro Ww;obtain ⟨qs,ql,kt,Lx⟩:=ih (by lia);obtain ⟨x,⟨p,ep,x1,x2,x3⟩,v,ev,rt⟩:=row n (by lia);refine ⟨qs ++ [x],by rw [Za,ql]; rfl,?_,fun i v' x' hi e1 e2=>?_⟩
   ·rw [Zs,ep];have sn:∀ {l:List (List A4 × V)} {m:List (List A4 × Addr × Value)},KT H l m->KT H (l ++ [p]) (m ++ [x]):=by
     intro l m q;induction q with
     | nil=>exact .cons ⟨x1,x2,x3⟩ .nil
     | cons hq _ ih=>exact .cons hq ih
    exact sn kt
   ·by_cases hin:i < n
    ·rw [Zz (by lia)] at e2;exact Lx i v' x' hin e1 e2
    ·have:i=n:=by lia
     subst this;rw [Zx (by lia),ql,af] at e2;cases e2
     rw [ev] at e1;cases e1
     exact rt
 obtain ⟨qs,ql,kt,Lx⟩:=all ps.length (Zb _);rw [Zu] at kt;have ek:∀ {l:List (List A4 × V)} {m:List (List A4 × Addr × Value)},KT H l m->l.map (·.1)=m.map (·.1):=by
  intro l m q;induction q with
  | nil=>rfl
  | cons hq _ ih=>rw [Zr,Zr,ih,hq.1]
 refine HN (I.ok.hd hc) hu (ps:=qs) ho Ht hdat Lb (by lia) (fun i v p e1 e2=>Lx i v p (by have:=(YZ.mp e2).1; lia) e1 e2) (by rw [<-ek kt]; exact hn) (by lia) fun h' tk dd kk=>?_
 obtain ⟨od,es,ep,h1,h2,h3,h4,_,h5⟩:=dd;refine ⟨.ref s.heap.objs.size,_,I.laid (a:=s.heap.objs.size) (o:=.dT ps) (t':=tk) kk (Zb _) ⟨bj hsz,beq_eq_false_iff_ne.mpr (Ne.symm (Zh I.big)),qs,?_,od,es,ep,h1,h2,h3,h4,h5⟩,rfl,q _ (I.hok.fresh (Zb _))⟩;refine kt.keeps fun c ys ec=>?_
 rw [Af (fun z=>by rw [z,I.hok.fresh (Zb _)] at ec; cases ec)];exact ec
def MW (H:Hp) (D:Addr) (ws:List A8) (rs1 Av:List BJ) (os:List (List Str)):Prop:=∃ ckv:List (List A4 × V),H D=some (.dT ckv)/\ckv.map (·.1)=os.map (fun f=>f.map Sum.inr)/\∀ ys v,(ys.map Sum.inr,v) ∈ ckv->∃ n,v=.int n/\Bn ws rs1 Av ys n
theorem MW.get {H:Hp} {D t:Addr} {ws:List A8} {rs1 Av:List BJ} {os:List (List Str)} {ys:List Str} (h:MW H D ws rs1 Av os) (on:os.Nodup) (hy:ys ∈ os) (ht:H t=some (.tup (ys.map V.str))):∃ n,BF H D (.ref t) (some (.int n))/\Bn ws rs1 Av ys n:=by
 obtain ⟨ckv,hC,ck,cv⟩:=h;obtain ⟨i,hi,e⟩:=Zm hy;have ek:(ckv.map (·.1))[i]? = some (ys.map Sum.inr):=by rw [ck,Ze,YU hi,e]; rfl
 rw [Ze] at ek;cases q:ckv[i]? with
 | none=>rw [q] at ek; cases ek
 | some cp=>
  rw [q] at ek;obtain ⟨cpk,cpv⟩:=cp;have YF:cpk=ys.map Sum.inr:=Zo.inj ek;subst YF;obtain ⟨nn,rfl,tot⟩:=cv ys cpv (YY q);have cnd:(ckv.map (·.1)).Nodup:=by rw [ck]; exact B4 (fun a b e=>De e) on
  exact ⟨nn,.inr ⟨ckv,ys.map Sum.inr,t,.inl hC,rfl,by rw [ht,ZA]; rfl,(FO cnd q).symm⟩,tot⟩
theorem MW.keep {H H':Hp} {D:Addr} {ws:List A8} {rs1 Av:List BJ} {os:List (List Str)} (h:MW H D ws rs1 Av os) (k:∀ u,H D=some u->H' D=some u):MW H' D ws rs1 Av os:=let ⟨ckv,a,b⟩:=h; ⟨ckv,k _ a,b⟩
theorem Ik {K:YX} {g:TG} {te:TE} {H:Hp} {TD LL:Addr} {us:List V} {os gs:List (List Str)} {ws:List A8} {rs1 Av:List BJ} {R:Addr->Hp->Prop}
  (hg:∀ (x:V) (v a:Option V) (H:Hp) (Q:St->Hp->Prop),Q [some x,a] H->g x [v,a] H Q) (ht:∀ (x v:V) (H:Hp) (Q:V->Hp->Prop),BF H TD x (some v)->Q v H->te [some x,some (.ref TD)] H Q)
  (hL:A9 K H LL us) (hLs:∀ H',Au H H'->A9 K H' LL us) (hT:B9 H us gs) (td:MW H TD ws rs1 Av os) (on:os.Nodup) (sub:∀ f ∈ gs,f ∈ os) (len:us.length < sizeLine)
  (fin:∀ D H' (ns:List Int),H D=none->Au H H'->H' D=some (.lst (ns.map V.int))->ns.length=gs.length->(∀ (j:Nat) f nn,gs[j]? = some f->ns[j]? = some nn->Bn ws rs1 Av f nn)->R D H') :
  ∀ D,H D=none->∃ W:Nat->Nat->St->Hp->Prop,(∃ m,W 0 m [none,some (.ref TD)] (upd H D (.lst []))) /\
   ∀ i m As H',W i m As H'->((Qb K LL).stop i H'/\R D H')\/((Qb K LL).go i H'/\∀ x H2,(Qb K LL).yld i H' x H2->g x As H2 fun Ay H3=>Kx Ay H3 fun b H4=>
    if b=true then te Ay H4 (fun v H5=>∃ acc,H5 D=some (.lst acc)/\acc.length < sizeLine/\∃ m',m' < m/\W (i + 1) m' Ay (upd H5 D (.lst (acc ++ [v])))) else ∃ m',m' < m/\W (i + 1) m' Ay H4):=by
 refine BI Cb (xs:=us) (fun D i As H' acc=>∃ (v0:Option V) (ns:List Int),As=[v0,some (.ref TD)]/\Au H H'/\H' D=some (.lst acc)/\acc=ns.map V.int/\ns.length=i/\∀ (j:Nat) f nn,gs[j]? = some f->ns[j]? = some nn->Bn ws rs1 Av f nn)
  len (fun D hD=>⟨_,[],rfl,Ad hD,Ab,rfl,rfl,fun j f nn _ e=>by cases e⟩) (fun D i As H' acc hD ⟨v0,ns,_,sa,AM,ea,nl,_⟩=>⟨hLs _ sa,AM,by rw [ea,YV]; exact nl⟩) ?_ ?_
 ·rintro D i As H' acc x' B hD ex ⟨v0,ns,rfl,sa,AM,rfl,nl,nt⟩ hB;obtain ⟨t,f,rfl,ef,htt⟩:=hT.get ex;obtain ⟨nn,dg,tot⟩:=(td.keep fun u z=>sa _ _ z).get on (sub f (YY ef)) (sa _ _ htt);refine hg _ _ _ _ _ (ht _ _ _ _ dg (hB _ _ _ AM ⟨_,ns ++ [nn],rfl,B7 sa hD,Ab,by rw [Zi]; rfl,by rw [Za,nl]; rfl,fun j f' n' e1 e2=>?_⟩));by_cases hj:j < ns.length
  ·rw [Zz hj] at e2;exact nt j f' n' e1 e2
  ·have Wz:=(YZ.mp e2).1;rw [Za,Z9] at Wz;have:j=i:=by lia
   subst this;rw [Zx (by lia),nl,af] at e2;cases e2
   rw [ef] at e1;cases e1
   exact tot
 ·rintro D As H' acc hD ⟨v0,ns,_,sa,AM,rfl,nl,nt⟩;exact fin D H' ns hD sa AM (by rw [nl,hT.len]) nt
theorem GX.last {ws:List A8} {rs1 Av:List BJ} {x:V} (sr:Bs (rs1.map (·.1))) {op:List Str} {r:List (List Str)} (o:FF (rs1.map (·.1)) x op) (h:GX ws rs1 Av x op r):∃ l y,r=l ++ [y]/\FF (rs1.map (·.1)) x y/\FH ws rs1 Av x y:=by
 have ne:r ≠ []:=by
  obtain ⟨l,rfl⟩:=h.head;simp
 have hl:0 < r.length:=ZV.mpr ne;have e:r[r.length - 1]? = some (r[r.length - 1]'(by lia)):=YU _;obtain ⟨a,_,b,_⟩:=h.at sr o _ _ e;refine ⟨r.dropLast,r[r.length - 1]'(by lia),?_,a,b.mpr (by lia)⟩;rw [<-List.getLast_eq_getElem ne];exact (cE ne).symm
theorem Tx {xs:List V} (h:xs ≠ []):∃ v,HV xs (-1)=some v/\xs[xs.length - 1]? = some v:=by
 obtain ⟨l,v,rfl⟩:∃ l v,xs=l ++ [v]:=⟨xs.dropLast,xs.getLast h,(cE h).symm⟩
 exact ⟨v,RQ _ _,by simp⟩
theorem EN (K:YX) {X:Cx} (h:X.K=K) (hc:X.calm=true):Bi X (.builtin "max") (fun xs H Q=>∃ (a:Addr) (ns:List Int),xs=[.ref a]/\A9 K H a (ns.map V.int)/\ns ≠ []/\∀ m,m ∈ ns->(∀ x ∈ ns,x<=m)->Q (.int m) H):=by subst h; exact J6 hc
theorem Ba.put5 {p D:Addr} {H H':Hp} {o:HO} (k:Ba p H H') (hD:H D=none):Ba p H (L2.upd H' D o):=fun b u n e=>by rw [Af (Ai e hD)]; exact k b u n e
def KY (lim:Bool) (rs1:List BJ) (x:V):Prop:=(lim=false/\x=.non)\/(lim=true/\(∃ k:Int,x=.int k)/\∀ r ∈ rs1,r.2=0)
def GY:Sp:=fun vs H Q _=>∃ (c m:Addr) (n:Nat) (xs:List Str) (ws:List A8) (rs1 Av:List BJ) (x:V) (d:PyData) (lim:Bool),vs=[.ref c,.bl lim]/\Ml H c m n xs ws rs1 Av x d /\
 ∀ (H':Hp) (c':Addr) (QO:List BJ) (x':V) (d':PyData),Au H H'->Ml H' c' m n xs ws QO Av x' d'->KY lim QO x'->Q (.ref c') H'
def JH (K:YX):Sp:=fun vs H Q _=>∃ (p c m:Addr) (n:Nat) (xs:List Str) (ws:List A8) (rs1 Av:List BJ) (x:V) (d:PyData) (lim:Bool),vs=[.ref p,.ref c,.int (if lim=true then 5 else 3)]/\Di K H p/\Ml H c m n xs ws rs1 Av x d/\KY lim rs1 x /\
 ∀ H',Di K H' p->Ba p H H'->Q (.bl true) H'
theorem KY.most {lim:Bool} {xs:List Str} {ws:List A8} {rs1 Av:List BJ} {x:V} {op zs:List Str} {t t':Int} (k:KY lim rs1 x) (h:Sc xs ws rs1 Av) (o:FF (rs1.map (·.1)) x op) (bn:FH ws rs1 Av x op) (oz:FF (rs1.map (·.1)) x zs) (tt:Bn ws rs1 Av op t) (tz:Bn ws rs1 Av zs t'):t<=(if lim=true then 5 else 3) * t':=by
 rcases k with ⟨rfl,rfl⟩ | ⟨rfl,⟨k,rfl⟩,c0⟩
 ·exact h.three o bn oz tt tz
 ·exact h.five c0 o bn oz tt tz
section
variable {bb:Bool} {h h':Heap} {a b i l:Addr} {k:Nat} {items:Array Value}
end
section
variable {prog:Program} {w:World} {A:Around} {E:Value->Shared->Prop} {s:Shared}
end
section
variable {prog:Program} {w:World} {A:Around} {E:Value->Shared->Prop} {s:Shared}
end
end L2
namespace K44
open PySem L2
def top (i:Nat):Stmt:=PySem.Challenge.pw_openhouses_k44_whole_three_times_the_bes.main.body.getD i (.Pass ⟨0,0,0,0⟩)
abbrev EZ:Stmt:=top 2
theorem Mw:AD ["thing"] ["thing"] (Ao EZ):=⟨rfl,rfl,rfl,by decide +kernel,rfl,by decide +kernel,by decide +kernel⟩
abbrev CS:Stmt:=top 3
theorem Fv:AD ["things"] ["things"] (Ao CS):=⟨rfl,rfl,rfl,by decide +kernel,rfl,by decide +kernel,by decide +kernel⟩
abbrev CQ:Stmt:=top 5
theorem Fu:AD ["case","thing","sites"] ["case","thing"] (Ao CQ):=⟨rfl,rfl,rfl,by decide +kernel,rfl,by decide +kernel,by decide +kernel⟩
abbrev CA:Stmt:=top 6
theorem Ey:AD ["case","web","sites","folk","limit"] ["case"] (Ao CA):=⟨rfl,rfl,rfl,by decide +kernel,rfl,by decide +kernel,by decide +kernel⟩
abbrev CO:Stmt:=top 8
theorem Fq:AD ["web","places","ways","beside","one","other","length"] ["web"] (Ao CO):=⟨rfl,rfl,rfl,by decide +kernel,rfl,by decide +kernel,by decide +kernel⟩
abbrev K3:Stmt:=top 10
theorem Ny:AD ["web","place","told"] ["web","place"] (Ao K3):=⟨rfl,rfl,rfl,by decide +kernel,rfl,by decide +kernel,by decide +kernel⟩
abbrev Dm:Stmt:=top 11
theorem FU:AD ["case"] ["case"] (Ao Dm):=⟨rfl,rfl,rfl,by decide +kernel,rfl,by decide +kernel,by decide +kernel⟩
abbrev EY:Stmt:=top 12
theorem Ih:AD ["web","starts","beside","reached","settled","so_far","start","here","name","by_here"] ["web","starts"] (Ao EY):=⟨rfl,rfl,rfl,by decide +kernel,rfl,by decide +kernel,by decide +kernel⟩
abbrev DT:Stmt:=top 14
theorem Hg:AD ["case","chosen","web","sites","folk","limit","charges","aways","costs","houses","ways"] ["case","chosen"] (Ao DT):=⟨rfl,rfl,rfl,by decide +kernel,rfl,by decide +kernel,by decide +kernel⟩
abbrev CP:Stmt:=top 16
theorem Ft:AD ["case","opening"] ["case","opening"] (Ao CP):=⟨rfl,rfl,rfl,by decide +kernel,rfl,by decide +kernel,by decide +kernel⟩
abbrev DU:Stmt:=top 17
theorem Hh:AD ["case","opening","row","following"] ["case","opening"] (Ao DU):=⟨rfl,rfl,rfl,by decide +kernel,rfl,by decide +kernel,by decide +kernel⟩
abbrev E3:Stmt:=top 18
theorem JM:AD ["case","opening","outcomes","costs","cheaper"] ["case","opening"] (Ao E3):=⟨rfl,rfl,rfl,by decide +kernel,rfl,by decide +kernel,by decide +kernel⟩
abbrev C9:Stmt:=top 19
theorem Ex:AD ["case","opening","others","outcomes","house","site"] ["case","opening"] (Ao C9):=⟨rfl,rfl,rfl,by decide +kernel,rfl,by decide +kernel,by decide +kernel⟩
abbrev Fb:Stmt:=top 20
theorem Ii:AD ["opening","out","more","kept"] ["opening","out","more"] (Ao Fb):=⟨rfl,rfl,rfl,by decide +kernel,rfl,by decide +kernel,by decide +kernel⟩
abbrev AK:Stmt:=top 22
theorem CF:AD ["_law_pen","_law_many","_law_place","_law_cell","_law_number","_law_digit"] ["_law_pen","_law_many"] (Ao AK):=⟨rfl,rfl,rfl,by decide +kernel,rfl,by decide +kernel,by decide +kernel⟩
abbrev Dp:Stmt:=top 23
theorem FX:AD ["_law_pen","_law_many","_law_letters","_law_first","_law_base","_law_at","_law_more","_law_found","_law_k","_law_letter"] ["_law_pen","_law_many"] (Ao Dp):=⟨rfl,rfl,rfl,by decide +kernel,rfl,by decide +kernel,by decide +kernel⟩
abbrev C0:Stmt:=top 24
theorem Fs:AD ["_law_pen","_law_way"] ["_law_pen"] (Ao C0):=⟨rfl,rfl,rfl,by decide +kernel,rfl,by decide +kernel,by decide +kernel⟩
abbrev C6:Stmt:=top 25
theorem F2:AD ["_law_pen","_law_names_here","_law_shape","_law_ways","_law_k","_law_other","_law_turn","_law_pair"] ["_law_pen","_law_names_here","_law_shape"] (Ao C6):=⟨rfl,rfl,rfl,by decide +kernel,rfl,by decide +kernel,by decide +kernel⟩
abbrev DR:Stmt:=top 26
theorem GZ:AD ["_law_pen","_law_names_here","_law_many","_law_left","_law_found","_law_k"] ["_law_pen","_law_names_here","_law_many"] (Ao DR):=⟨rfl,rfl,rfl,by decide +kernel,rfl,by decide +kernel,by decide +kernel⟩
abbrev DS:Stmt:=top 27
theorem Hf:AD ["_law_pen","_law_shape","_law_names_here","_law_plan","_law_way","_law_sites","_law_place","_law_folk","_law_limit"] ["_law_pen","_law_shape"] (Ao DS):=⟨rfl,rfl,rfl,by decide +kernel,rfl,by decide +kernel,by decide +kernel⟩
abbrev CB:Stmt:=top 28
theorem Ez:AD ["_law_plan","_law_found","_law_one","_law_other","_law_length_here","_law_amid","_law_here","_law_there","_law_old"] ["_law_plan"] (Ao CB):=⟨rfl,rfl,rfl,by decide +kernel,rfl,by decide +kernel,by decide +kernel⟩
abbrev Dq:Stmt:=top 29
theorem FY:AD ["_law_case_here","_law_lengths_here","_law_opening","_law_total","_law_place","_law_many"] ["_law_case_here","_law_lengths_here","_law_opening"] (Ao Dq):=⟨rfl,rfl,rfl,by decide +kernel,rfl,by decide +kernel,by decide +kernel⟩
abbrev Cz:Stmt:=top 30
theorem Em:AD ["_law_case_here","_law_found","_law_place","_law_amount","_law_most"] ["_law_case_here"] (Ao Cz):=⟨rfl,rfl,rfl,by decide +kernel,rfl,by decide +kernel,by decide +kernel⟩
abbrev CC:Stmt:=top 31
theorem E2:AD ["_law_case_here","_law_limited","_law_plan","_law_sites","_law_folk","_law_limit"] ["_law_case_here","_law_limited"] (Ao CC):=⟨rfl,rfl,rfl,by decide +kernel,rfl,by decide +kernel,by decide +kernel⟩
abbrev Dn:Stmt:=top 32
theorem FV:AD ["_law_pen","_law_case_here","_law_times","_law_lengths_here","_law_every","_law_totals","_law_most","_law_asked","_law_some_here","_law_begun","_law_one","_law_last"] ["_law_pen","_law_case_here","_law_times"] (Ao Dn):=⟨rfl,rfl,rfl,by decide +kernel,rfl,by decide +kernel,by decide +kernel⟩
abbrev QL:Stmt:=top 33
theorem QK:AD ["_law_script","_law_pen","_law_limited","_law_case_here"] ["_law_script"] (Ao QL):=⟨rfl,rfl,rfl,by decide +kernel,rfl,by decide +kernel,by decide +kernel⟩
def Nu (K:YX):Sp:=fun vs H Q _=>∃ (a:Addr) (ns:List Int),vs=[.ref a]/\MY K H a (ns.map V.int)/\ns.length<=63/\∀ H',Q (.bl true) H'
section
variable {P:Program} {w:World} {K:YX} {mg:Str->Option Value} {base:Heap}
theorem UQ (h_int:mg "int"=none) {fT:Addr} {fdT:FuncData} (XT:Fn K mg "_law_take" AK ["_law_pen","_law_many"] fT fdT) (GT:AL P w K mg base Ce 1 fT fdT ["_law_pen","_law_many"] (Dk K)) {fCA:Addr} {fdCA:FuncData} (XCA:Fn K mg "_law_case" DS ["_law_pen","_law_shape"] fCA fdCA) (GCA:AL P w K mg base Ce 4 fCA fdCA ["_law_pen","_law_shape"] (Nw K)) {fCH:Addr} {fdCH:FuncData} (XCH:Fn K mg "_law_changed" CC ["_law_case_here","_law_limited"] fCH fdCH) (GCH:AL P w K mg base Ce 1 fCH fdCH ["_law_case_here","_law_limited"] GY) {fRI:Addr} {fdRI:FuncData} (XRI:Fn K mg "_law_right" Dn ["_law_pen","_law_case_here","_law_times"] fRI fdRI) (GRI:AL P w K mg base Ce 8 fRI fdRI ["_law_pen","_law_case_here","_law_times"] (JH K)) {f:Addr} {fd:FuncData} (F:EU K "law" "law" QL f fd):AL P w K mg base Ce 9 f fd ["_law_script"] (Nu K):=by
 refine F.ok QK (fun vs H Q E h=>?_) (fun cdv A outer s H vs Q E hr h=>?_)
 ·obtain ⟨a,ns,rfl,_⟩:=h;rfl
 ·obtain ⟨a,ns,rfl,hS,hlen,k⟩:=h;have nd:=QK.nd;have big:100000 < sizeLine:=by decide
  refine ⟨_,(Ae (Aq (i:=1) nd rfl (Or.inl rfl) (Bu (Aa (pv 0) (Aa Ag (Aa Ag Ac)))))
  (Ae (Bz PassesOwn.never rfl (Bq K rfl (Bu (Aa Gf (Aa Gf (Aa Gf (Aa Gf Ac)))))) (Ah (i:=2) nd rfl (Or.inl rfl))
  (Ae (Aq (i:=3) nd rfl (Or.inl rfl) (Ak GCH (hr.mono (by decide)) (by rfl) XCH.mg XCH.F.kp XCH.b .nil Ax (Aa (Ak GCA (hr.mono (by decide)) (by rfl) XCA.mg XCA.F.kp XCA.b .nil Ax (Aa (pv 1) (Aa (Ak GT (hr.mono (by decide)) (by rfl) XT.mg XT.F.kp XT.b .nil Ax (Aa (pv 1) (Aa Ag Ac))) Ac))) (Aa (pv 2) Ac))))
  (Aj (Dt (F4 (F3 (Ak GRI (hr.mono (by decide)) (by rfl) XRI.mg XRI.F.kp XRI.b .nil Ax (Aa (pv 1) (Aa (pv 3) (Aa (AA (AB K rfl) (Bu (Aa Ag (Aa Ag Ac))) (A7 CY (by rfl) h_int PyProof.Rows.boot_int (Aa (pv 2) Ac)) (fun _ _=>rfl)) Ac))))))
  (Aj (AG Gf))
  BP))))
  (Aj (AG Gf)))),?_⟩
  refine ⟨_,rfl,(by show 3<=sizeLine; lia),fun p hp=>?_⟩;have P0:Di K (upd H p (.lst [.ref a,.int 0,.int 0])) p:=⟨a,ns,0,0,Ab,hS.same (Ad hp),hlen,by decide,by decide⟩
  generalize upd H p (.lst [.ref a,.int 0,.int 0])=H0 at P0;refine ⟨(by show 4<=sizeLine; lia),fun LB hLB=>?_⟩;have nL:=P0.ne hLB;have P1:=P0.same (Ad (o:=.lst [V.bl false,V.bl true,V.bl false,V.bl true]) hLB);have hL:(upd H0 LB (.lst [V.bl false,V.bl true,V.bl false,V.bl true])) LB=some (.lst [V.bl false,V.bl true,V.bl false,V.bl true]):=Ab;generalize upd H0 LB (.lst [V.bl false,V.bl true,V.bl false,V.bl true])=H1 at P1 hL ⊢;exists LB,rfl,⟨_,A9.of hL⟩
  refine EF (xs:=[V.bl false,V.bl true,V.bl false,V.bl true]) (fun _ σ H'=>∃ v2 v3,σ=[some (.ref a),some (.ref p),v2,v3]/\Di K H' p/\H' LB=some (.lst [V.bl false,V.bl true,V.bl false,V.bl true])) ⟨_,_,rfl,P1,hL⟩ (fun i σ H' _ ⟨_,_,_,_,z⟩=>A9.of z) ?_ (fun σ H' _=>k H');rintro i v σ H2 hv ⟨v2,v3,rfl,P2,RB⟩;obtain ⟨lim,rfl⟩:∃ b:Bool,v=.bl b:=by
   match i,hv with
   | 0,hv=>cases hv; exact ⟨_,rfl⟩
   | 1,hv=>cases hv; exact ⟨_,rfl⟩
   | 2,hv=>cases hv; exact ⟨_,rfl⟩
   | 3,hv=>cases hv; exact ⟨_,rfl⟩
   | n + 4,hv=>cases hv
  refine ⟨_,rfl,_,rfl,p,4,rfl,P2,by decide,by decide,fun sh H3 P3 k3 WX sh1=>?_⟩;refine ⟨p,sh,rfl,P3,WX,sh1,fun H4 c m n xs ws rs1 Av x d P4 k4 cs=>?_⟩;refine ⟨_,rfl,c,m,n,xs,ws,rs1,Av,x,d,lim,rfl,cs,fun H5 c' QO x' d' s5 VC kd=>?_⟩;have P5:=P4.same s5;have hL5:=s5 _ _ (k4 _ _ nL (k3 _ _ nL RB));refine ⟨_,rfl,_,rfl,(by show 2<=sizeLine; lia),fun l hl=>?_⟩;have sl:=Ad (o:=.lst [V.int 3,V.int 5]) hl;have hll:(upd H5 l (.lst [V.int 3,V.int 5])) l=some (.lst [V.int 3,V.int 5]):=Ab;generalize upd H5 l (.lst [V.int 3,V.int 5])=H6 at sl hll ⊢;refine ⟨_,rfl,.inr ⟨_,rfl,l,_,_,.int (if lim=true then 5 else 3),rfl,rfl,A9.of hll,by cases lim <;> rfl,?_⟩⟩;have cs6:Ml H6 c' m n xs ws QO Av x' d':=⟨VC.cw.same sl,VC.n9,VC.l6,VC.l8,VC.so1,VC.so2⟩
  refine ⟨p,c',m,n,xs,ws,QO,Av,x',d',lim,rfl,P5.same sl,cs6,kd,fun H7 P7 k7=>⟨_,rfl,?_⟩⟩;refine F8 ?_;exact ⟨_,_,rfl,P7,k7 _ _ nL (sl _ _ hL5)⟩
end
section
variable {P:Program} {w:World} {K:YX} {mg:Str->Option Value} {base:Heap}
theorem KI (h_dict:mg "dict"=none) (h_len:mg "len"=none) (h_max:mg "max"=none) (h_min:mg "min"=none) (h_range:mg "range"=none) {fT:Addr} {fdT:FuncData} (XT:Fn K mg "_law_take" AK ["_law_pen","_law_many"] fT fdT) (GT:AL P w K mg base Ce 1 fT fdT ["_law_pen","_law_many"] (Dk K)) {fLs:Addr} {fdLs:FuncData} (XLs:Fn K mg "_law_lengths" CB ["_law_plan"] fLs fdLs) (GLs:AL P w K mg base Ce 1 fLs fdLs ["_law_plan"] Nt) {fOP:Addr} {fdOP:FuncData} (XOP:Fn K mg "_law_openings" Cz ["_law_case_here"] fOP fdOP) (GOP:AL P w K mg base Ce 1 fOP fdOP ["_law_case_here"] QB) {fCOs:Addr} {fdCOs:FuncData} (XCOs:Fn K mg "_law_costs" Dq ["_law_case_here","_law_lengths_here","_law_opening"] fCOs fdCOs) (GCOs:AL P w K mg base Ce 1 fCOs fdCOs ["_law_case_here","_law_lengths_here","_law_opening"] Nv) {fSE:Addr} {fdSE:FuncData} (XSE:Fn K mg "is_settled" CP ["case","opening"] fSE fdSE) (GSE:AL P w K mg base Ce 7 fSE fdSE ["case","opening"] JG) {fBR:Addr} {fdBR:FuncData} (XBR:Fn K mg "bettered" DU ["case","opening"] fBR fdBR) (GBR:AL P w K mg base Ce 7 fBR fdBR ["case","opening"] Ic) {f:Addr} {fd:FuncData} (F:EU K "_law_right" "_law_right" Dn f fd):AL P w K mg base Ce 8 f fd ["_law_pen","_law_case_here","_law_times"] (JH K):=by
 refine F.ok FV (fun vs H Q E h=>?_) (fun cdv A outer s H vs Q E hr h=>?_)
 ·obtain ⟨p,c,m,n,xs,ws,rs1,Av,x,d,lim,rfl,_⟩:=h;rfl
 ·obtain ⟨p,c,m,n,xs,ws,rs1,Av,x,d,lim,rfl,P0,cs,kd,k⟩:=h;have nd:=FV.nd;have hu:=En hr;have LP:=hr.units;have big:100000 < sizeLine:=by decide
  refine ⟨_,(Ae (Aq (i:=3) nd rfl (Or.inr rfl) (Ak GLs (hr.mono (by decide)) (by rfl) XLs.mg XLs.F.kp XLs.b .nil Ax (Aa (AA (Bc K rfl) (pv 1) Ag (fun _ _=>rfl)) Ac)))
  (Ae (Aq (i:=4) nd rfl (Or.inr rfl) (Ak GOP (hr.mono (by decide)) (by rfl) XOP.mg XOP.F.kp XOP.b .nil Ax (Aa (pv 1) Ac)))
  (Ae (Aq (i:=5) nd rfl (Or.inr rfl) (A7 (Gu rfl LP) (by rfl) h_dict PyProof.Rows.boot_dict (Aa (Bj (N:=["_law_one","_law_case_here","_law_lengths_here"]) rfl CM (CI [none,some 1,some 3]) (Bq K rfl (pv 4))
   (fun s2 H C fp=>⟨(Ah (i:=0) (show (["_law_one","_law_case_here","_law_lengths_here"]:List Str).Nodup by decide +kernel) rfl (Or.inl rfl)),AV,(Bb (Aa (pv 0) (Aa (Ak GCOs (hr.mono (by decide)) (by rfl) XCOs.mg XCOs.F.kp XCOs.b .nil Ax (Aa (pv 1) (Aa (pv 2) (Aa (pv 0) Ac)))) Ac)))⟩)) Ac)))
  (Ae (Aq (i:=6) nd rfl (Or.inl rfl) (Aw Dz (pv 2) (Al (D7 rfl) (by rfl) h_min PyProof.Rows.boot_min (Aa (Bj (N:=["_law_one","_law_totals"]) rfl CM (CI [none,some 5]) (Bq K rfl (pv 4))
   (fun s2 H C fp=>⟨(Ah (i:=0) (show (["_law_one","_law_totals"]:List Str).Nodup by decide +kernel) rfl (Or.inl rfl)),AV,(AH hu (pv 1) (pv 0) (fun _ _=>rfl))⟩)) Ac))))
  (Ae (Aq (i:=7) nd rfl (Or.inl rfl) (pv 4))
  (Ae (PS.weak (t':=fun D σ H'=>∃ (A EV TD:Addr) (mst:Int) (us:List V) (os:List (List Str)),σ=[some (.ref p),some (.ref c),some (.int (if lim=true then 5 else 3)),some (.ref A),some (.ref EV),some (.ref TD),some (.int mst),some (.ref EV),none,none,none,none]/\Di K H' p/\H' EV=some (.lst us)/\EV ≠ p/\B9 H' us os/\os ≠ []/\os.length<=1024/\∀ (H2:Hp) (AS:Addr) (Js:List V) (gs:List (List Str)),Di K H2 p->Ba p H' H2->H2 AS=some (.lst Js)->B9 H2 Js gs->Js.length<=1024->(∀ g ∈ gs,g ∈ os)->D.nx [some (.ref p),some (.ref c),some (.int (if lim=true then 5 else 3)),some (.ref A),some (.ref EV),some (.ref TD),some (.int mst),some (.ref AS),none,none,none,none] H2) (Dt (BO Rj (Al (Az K rfl) (by rfl) h_len PySem.boot_len (Aa (pv 4) Ac)) Ag (BV _))
  (Aj (Gb (ix:=7) (N:=["_law_k","_law_pen","_law_every"]) nd rfl (Or.inl rfl) rfl CM (CI [none,some 0,some 4]) (CV (by rfl) h_range (Aa Ag Ac))
   (fun s2 H C fp=>⟨(Ah (i:=0) (show (["_law_k","_law_pen","_law_every"]:List Str).Nodup by decide +kernel) rfl (Or.inl rfl)),AV,(AA (AB K rfl) (pv 2) (Ak GT (hr.mono (by decide)) (by rfl) XT.mg XT.F.kp XT.b .nil Ax (Aa (pv 1) (Aa (Al (Az K rfl) (by rfl) h_len PySem.boot_len (Aa (pv 2) Ac)) Ac))) (fun _ _=>rfl))⟩)))
  BP) ?w1)
  (Ae (Gb (ix:=8) (N:=["_law_one","_law_case_here"]) nd rfl (Or.inl rfl) rfl CM (CI [none,some 1]) (Bq K rfl (pv 7))
   (fun s2 H C fp=>⟨(Ah (i:=0) (show (["_law_one","_law_case_here"]:List Str).Nodup by decide +kernel) rfl (Or.inl rfl)),(Ds (F3 (Ak GSE (hr.mono (by decide)) (by rfl) XSE.mg XSE.F.kp XSE.b .nil Ax (Aa (pv 1) (Aa (pv 0) Ac))))),(pv 0)⟩))
  (Ae (Aq (i:=9) nd rfl (Or.inl rfl) (Bu (Aa (AA (AB K rfl) (Bj (N:=["_law_one","_law_every","_law_totals"]) rfl CM (CI [none,some 4,some 5]) (Bq K rfl (pv 4))
   (fun s2 H C fp=>⟨(Ah (i:=0) (show (["_law_one","_law_every","_law_totals"]:List Str).Nodup by decide +kernel) rfl (Or.inl rfl)),(Ds (BO NQ (AH hu (pv 2) (pv 0) (fun _ _=>rfl)) (Al (EN K rfl rfl) (by rfl) h_max PyProof.Rows.boot_max (Aa (Bj (N:=["_law_other","_law_totals"]) rfl CM (CI [none,some 2]) (Bq K rfl (pv 1))
   (fun s2 H C fp=>⟨(Ah (i:=0) (show (["_law_other","_law_totals"]:List Str).Nodup by decide +kernel) rfl (Or.inl rfl)),AV,(AH hu (pv 1) (pv 0) (fun _ _=>rfl))⟩)) Ac)) (BV _))),(pv 0)⟩)) Ag (fun _ _=>rfl)) Ac)))
  (Ae (Bz PassesOwn.never rfl (Bq K rfl (Aw KH (pv 9) (Bj (N:=["_law_k","_law_pen","_law_every"]) rfl CM (CI [none,some 0,some 4]) (CV (by rfl) h_range (Aa Ag Ac))
   (fun s2 H C fp=>⟨(Ah (i:=0) (show (["_law_k","_law_pen","_law_every"]:List Str).Nodup by decide +kernel) rfl (Or.inl rfl)),AV,(AA (AB K rfl) (pv 2) (Ak GT (hr.mono (by decide)) (by rfl) XT.mg XT.F.kp XT.b .nil Ax (Aa (pv 1) (Aa (Al (Az K rfl) (by rfl) h_len PySem.boot_len (Aa (pv 2) Ac)) Ac))) (fun _ _=>rfl))⟩)))) (Ah (i:=10) nd rfl (Or.inl rfl))
  (Ae (Aq (i:=11) nd rfl (Or.inl rfl) (AA (AB K rfl) (Ak GBR (hr.mono (by decide)) (by rfl) XBR.mg XBR.F.kp XBR.b .nil Ax (Aa (pv 1) (Aa (pv 10) Ac))) (pe_un Uz Ag) (fun _ _=>rfl)))
  (Ae (Dt (F4 (F3 (Ak GSE (hr.mono (by decide)) (by rfl) XSE.mg XSE.F.kp XSE.b .nil Ax (Aa (pv 1) (Aa (pv 11) Ac)))))
  (Aj (AG Gf))
  BP)
  (Aj (Fd (Hl PySem.F.plainAttrs_list PySem.F.slot_list_append PySem.F.type_list_append Cc (pv 8) (Aa (pv 11) Ac)))))))
  (Aj (AG (Ge JU (Al (EN K rfl rfl) (by rfl) h_max PyProof.Rows.boot_max (Aa (Bj (N:=["_law_one","_law_totals"]) rfl CM (CI [none,some 5]) (Bq K rfl (pv 8))
   (fun s2 H C fp=>⟨(Ah (i:=0) (show (["_law_one","_law_totals"]:List Str).Nodup by decide +kernel) rfl (Or.inl rfl)),AV,(AH hu (pv 1) (pv 0) (fun _ _=>rfl))⟩)) Ac)) (pv 6) (BV _))))))))))))),?_⟩
  case w1=>
   rintro D σ H' ⟨A0,EV,TD,mst,us,os,rfl,P0,hE,nE,tU,one,ol,kk⟩;have ul:=tU.len;have ulp:0 < us.length:=by rw [ul]; exact ZV.mpr one
   exists _,rfl,EV,_,rfl,.inl (A9.of hE),_,_,rfl,rfl,_,rfl;refine Ck (fun _=>?_) (fun _=>kk H' EV us os P0 (Ba.refl _ _) hE tU (by lia) fun g hg=>hg);exists 24,rfl,by decide,by decide
   refine Il (n:=24) (fun D i As Hx acc=>∃ (v0:Option V) (fs:List (List Str)),As=[v0,some (.ref p),some (.ref EV)]/\Di K Hx p/\Ba p H' Hx/\D ≠ p/\Hx D=some (.lst acc)/\B9 Hx acc fs/\acc.length=i/\∀ g ∈ fs,g ∈ os)
    (by lia) (fun D hD=>⟨_,[],rfl,P0.same (Ad hD),Ba.of_same (Ad hD),P0.ne hD,Ab,.nil,rfl,(fun g hg=>nomatch hg)⟩) (fun D i As Hx acc hD ⟨v0,fs,_,_,_,_,AM,_,al,_⟩=>⟨AM,al⟩) ?_ ?_
   ·rintro D i As Hx acc B hD hi ⟨v0,fs,rfl,Px,kx,nD,AM,tp,al,fo⟩ hB;have hEx:=kx _ _ nE hE;refine ⟨_,rfl,_,rfl,_,rfl,EV,_,rfl,.inl (A9.of hEx),p,_,rfl,Px,by lia,by lia,fun e1 Hb Pb kb YI YH=>?_⟩;obtain ⟨q,rfl⟩:∃ q:Nat,e1=q:=⟨e1.toNat,by lia⟩
    have hq:q < us.length:=by lia
    have uq:us[q]? = some us[q]:=YU hq;obtain ⟨t,f',et,ef,ht⟩:=(tU.keep (DA P0 kx)).get uq;have tpb:=DA Px kb;have hDb:=kb _ _ nD AM;exists EV,_,_,us[q],rfl,rfl,A9.of (kb _ _ nE hEx),CD uq;rw [et];refine hB _ _ _ hDb ⟨_,fs ++ [f'],rfl,Pb.other hDb nD,(kx.trans kb).put5 hD,nD,Ab,?_,by rw [Za,al]; rfl,fun g hg=>?_⟩
    ·refine ((tp.keep tpb).app (.cons (tpb _ _ ht) .nil)).keep fun b ys z=>?_
     rw [Af (fun e=>by rw [e,hDb] at z; cases z)];exact z
    ·rcases Zp.mp hg with hg | hg
     ·exact fo g hg
     ·rw [Zl.mp hg];exact YY ef
   rintro D2 As Hx acc hD ⟨v0,fs,rfl,Px,kx,nD,AM,tp,al,fo⟩;exact kk Hx D2 acc fs Px kx AM tp (by lia) fo
  have cw:=cs.cw;have l6:=cs.l6;have VZ:=cw.ok1.one;have sn:=cw.ok1.nd;have ri:Bs (rs1.map (·.1)):=G6 (C5 cs.so1) sn;have sl:(rs1.map (·.1)).length<=10:=by rw [YV]; exact cw.l1
  obtain ⟨t1,t2,Fm,Js,hc,Gz,HR,GG,hd2⟩:=cw.ex;refine ⟨_,rfl,c,_,_,_,rfl,rfl,AF.of hc,rfl,m,n,xs,ws,rfl,cw.map,cw.n1,cw.n30,fun H1 A1 s1 fA kA=>?_⟩;have sc:Sc xs ws rs1 Av:=⟨fun x hx y hy=>kA.dst hx hy,fun x hx y hy=>kA.lo hy hx,ri,cw.ok1,cw.ok2⟩
  refine ⟨_,rfl,c,rs1.map (·.1),x,d,rfl,(cw.same s1).sites,by rw [YV]; exact l6,fun H2 EV us os s2 fE hE tU op ol=>?_⟩;have ul:=tU.len;have one:os ≠ []:=op.ne (fun z=>by have:=congrArg aE z; rw [YV] at this; simp at this; rw [this] at VZ; simp at VZ) cw.lim;have ulp:0 < us.length:=by rw [ul]; exact ZV.mpr one
  have ops:∀ {f:List Str},f ∈ os->FF (rs1.map (·.1)) x f:=fun {f} h=>(op.2.2 f).mp h
  have s02:=s1.trans s2;have kA2:=kA.same s2;exists _,rfl,EV,rfl,⟨_,A9.of hE⟩
  refine BI Cb (xs:=us) (fun D i As H' acc=>∃ (v0:Option V) (ps:List (List A4 × V)),As=[v0,some (.ref c),some (.ref A1)]/\Au H2 H'/\H' D=some (.lst acc)/\acc.length=i/\ps.length=i/\ps.map (·.1)=(os.take i).map (fun f=>f.map Sum.inr)/\(∀ (j:Nat) v q,acc[j]? = some v->ps[j]? = some q->∃ t b,v=.ref t/\H' t=some (.tup [.ref b,q.2])/\H' b=some (.tup (q.1.map kV)))/\∀ ys v,(ys.map Sum.inr,v) ∈ ps->∃ nn,v=.int nn/\Bn ws rs1 Av ys nn)
   (by lia) (fun D hD=>⟨_,[],rfl,Ad hD,Ab,rfl,rfl,rfl,(fun j v q e=>by cases e),(fun ys v h=>nomatch h)⟩) (fun D i As H' acc hD ⟨v0,ps,_,sa,AM,al,_⟩=>⟨A9.of (sa _ _ hE),AM,al⟩) ?_ ?_
  ·rintro D i As H' acc x' B hD ex ⟨v0,ps,rfl,sa,AM,al,pl,pk,pr,pt⟩ hB;obtain ⟨t,f,rfl,ef,ht⟩:=tU.get ex;have Ud:=ops (YY ef);refine ⟨_,rfl,_,rfl,_,rfl,_,rfl,c,m,A1,t,n,xs,ws,rs1,Av,x,d,f,rfl,cw.same (s02.trans sa),kA2.same sa,sa _ _ ht,Ud.opn sn,o10x Ud sn sl,fun H5 tt s5 tot=>?_⟩;refine ⟨(by show 2<=sizeLine; lia),fun W hW=>?_⟩;have sW:=Ad (o:=.tup [V.ref t,V.int tt]) hW;have J0:=sW _ _ (s5 _ _ AM);have nWD:W ≠ D:=fun e=>by rw [e,s5 _ _ AM] at hW; cases hW
   have tpp:∀ b ys,H' b=some (.tup ys)->(upd (upd H5 W (.tup [V.ref t,V.int tt])) D (.lst (acc ++ [V.ref W]))) b=some (.tup ys):=fun b ys z=>by
    rw [Af (fun e=>by rw [e,AM] at z; cases z)];exact sW _ _ (s5 _ _ z)
   refine hB _ _ _ J0 ⟨_,ps ++ [(f.map Sum.inr,.int tt)],rfl,B7 (sa.trans (s5.trans sW)) hD,Ab,by rw [Za,al]; rfl,by rw [Za,pl]; rfl,by rw [Zi,pk,Zs,ef,Zi]; rfl,fun j v q e1 e2=>?_,fun ys v hm=>?_⟩
   ·by_cases hj:j < i
    ·rw [Zz (by lia)] at e1;rw [Zz (by lia)] at e2;obtain ⟨t',b',a1,a2,a3⟩:=pr j v q e1 e2;exact ⟨t',b',a1,tpp _ _ a2,tpp _ _ a3⟩
    ·have Wz:=(YZ.mp e1).1;rw [Za,Z9] at Wz;have:j=i:=by lia
     subst this;rw [Zx (by lia),al,af] at e1;rw [Zx (by lia),pl,af] at e2;cases e1
     cases e2
     exact ⟨W,t,rfl,by rw [Af nWD]; exact Ab,by rw [tpp _ _ (sa _ _ ht),ZA]; rfl⟩
   ·rcases Zp.mp hm with hm | hm
    ·exact pt ys v hm
    ·have e:=Zl.mp hm;injection e with e1 e2;have e3:=De e1;subst e3;subst e2;exact ⟨tt,rfl,tot⟩
  rintro DL As H3 acc hDL ⟨v0,ps,rfl,s3,AM,al,pl,pk,pr,pt⟩;rw [ul,Zu] at pk;refine ⟨DL,acc,ps,rfl,AM,by lia,pr,by rw [pk]; exact B4 (fun a b e=>De e) op.1,by lia,fun TD hTD=>?_⟩;have s4:=Ad (o:=.dT ps) hTD;have X5:MW (upd H3 TD (.dT ps)) TD ws rs1 Av os:=⟨ps,Ab,pk,pt⟩
  generalize upd H3 TD (.dT ps)=H4 at s4 X5 ⊢;have XA:=s3.trans s4;have Xp:=XA _ _ hE;have tU4:=tU.keep fun b ys z=>XA _ _ z
  exists _,rfl,_,rfl,EV,rfl,⟨_,A9.of Xp⟩
  refine Ik (fun _ _ _ _ _ h=>h) (fun _ _ _ _ h q=>⟨_,rfl,_,rfl,TD,_,rfl,h,q⟩) (A9.of Xp) (fun H' s=>A9.of (s _ _ Xp)) tU4 X5 op.1 (fun f h=>h) (by lia) (fun DM H5 ns hDM s5 hM nl nt=>?_);have nne:ns ≠ []:=fun z=>by rw [z] at nl; exact one (ZF.mp nl.symm)
  have tot:∀ f ∈ os,∃ t ∈ ns,Bn ws rs1 Av f t:=fun f hf=>by
   obtain ⟨j,hj,e⟩:=Zm hf;have ej:ns[j]? = some (ns[j]'(by lia)):=YU (by lia);exact ⟨_,ZQ _,nt j f _ (by rw [YU hj,e]) ej⟩
  have inv:∀ t ∈ ns,∃ f ∈ os,Bn ws rs1 Av f t:=fun t ht=>by
   obtain ⟨j,hj,e⟩:=Zm ht;have ej:os[j]? = some (os[j]'(by lia)):=YU (by lia);exact ⟨_,ZQ _,nt j _ t ej (by rw [YU hj,e])⟩
  refine ⟨DM,ns,rfl,hM,nne,fun mn hmn hmin=>⟨_,_,rfl,rfl,.inl (by cases lim <;> decide),?_⟩⟩;obtain ⟨fz,hfz,tfz⟩:=inv mn hmn;obtain ⟨mx,hmx,hmax⟩:=EC (fun t:Int=>-t) ns nne;obtain ⟨f0,hf0,tf0⟩:=inv mx hmx;have V4:=s02.trans (XA.trans s5);have P5:=P0.same V4;have nE:EV ≠ p:=(P0.same s1).ne fE;have hE5:=s5 _ _ Xp;have tU5:=tU4.keep fun b ys z=>s5 _ _ z
  have td5:=X5.keep fun u z=>s5 _ _ z
  exists _,rfl;refine ⟨A1,EV,TD,_,us,os,rfl,P5,hE5,nE,tU5,one,ol,fun H6 AS Js gs P6 k6 hAS tG gl gsub=>?_⟩;have VI:=DA P5 k6;have cw6:=cw.keepT fun b ys z=>VI _ _ (V4 _ _ z)
  have nT:TD ≠ p:=fun e=>by
   obtain ⟨_,_,_,_,hp,_⟩:=P5;obtain ⟨ckv,q,_⟩:=td5;rw [e,hp] at q;cases q
  have td6:=td5.keep fun u z=>k6 _ _ nT z
  have hE6:=k6 _ _ nE hE5;have tU6:=tU5.keep VI;exists _,rfl,AS,rfl,⟨_,A9.of hAS⟩
  refine BS Cb (xs:=Js) (fun D i As H' acc=>∃ (v0:Option V) (fs:List (List Str)),As=[v0,some (.ref c)]/\Au H6 H'/\H' D=some (.lst acc)/\B9 H' acc fs/\(∀ f ∈ fs,FF (rs1.map (·.1)) x f/\FH ws rs1 Av x f)/\acc.length<=i)
   (by lia) (fun D hD=>⟨_,[],rfl,Ad hD,Ab,.nil,(fun f hf=>nomatch hf),Zb _⟩) (fun D i As H' acc hD ⟨v0,fs,_,sa,AM,_,_,al⟩=>⟨A9.of (sa _ _ hAS),AM,al⟩) ?_ ?_
  ·rintro D i As H' acc x' B N hD ex ⟨v0,fs,rfl,sa,AM,tp,fo,al⟩ hB hN;obtain ⟨t,f',rfl,ef,ht⟩:=tG.get ex;have Ud:=ops (gsub f' (YY ef));refine ⟨_,rfl,_,rfl,c,t,m,n,xs,ws,rs1,Av,x,d,f',rfl,⟨cw6.same sa,ri,sa _ _ ht,Ud⟩,fun H7 b s7 hb=>⟨_,rfl,?_⟩⟩;have Sh:=s7 _ _ AM;refine Ck (fun z=>?_) (fun z=>?_)
   ·refine ⟨_,rfl,hB _ _ _ Sh ⟨_,fs ++ [f'],rfl,B7 (sa.trans s7) hD,Ab,?_,?_,by rw [Za]; simp; lia⟩⟩
    ·refine ((tp.keep fun b ys z=>s7 _ _ z).app (.cons (s7 _ _ (sa _ _ ht)) .nil)).keep fun b ys z=>?_
     rw [Af (fun e=>by rw [e,Sh] at z; cases z)];exact z
    ·intro f hf;rcases Zp.mp hf with hf | hf
     ·exact fo f hf
     ·rw [Zl.mp hf];exact ⟨Ud,hb.mp z⟩
   ·exact hN _ _ ⟨_,fs,rfl,sa.trans s7,Sh,tp.keep fun b ys z=>s7 _ _ z,fo,by lia⟩
  rintro SH As H7 YR W6 ⟨v0,fs7,rfl,s7,hSH,tp7,fo7,al7⟩;have P7:=P6.same s7;have nS:SH ≠ p:=P6.ne W6;have Xo:=s7 _ _ hE6;have td7:=td6.keep fun u z=>s7 _ _ z
  have X6:=tU6.keep fun b ys z=>s7 _ _ z
  exists _,rfl,EV,rfl,⟨_,A9.of Xo⟩
  refine BS Cb (xs:=us) (fun D i As H' acc=>∃ (v0:Option V) (fs:List (List Str)),As=[v0,some (.ref EV),some (.ref TD)]/\Au H7 H'/\H' D=some (.lst acc)/\B9 H' acc fs/\(∀ f ∈ fs,f ∈ os)/\acc.length<=i/\(f0 ∈ os.take i->acc ≠ []))
   (by lia) (fun D hD=>⟨_,[],rfl,Ad hD,Ab,.nil,(fun f hf=>nomatch hf),Zb _,fun z=>by rw [br] at z; cases z⟩) (fun D i As H' acc hD ⟨v0,fs,_,sa,AM,_,_,al,_⟩=>⟨A9.of (sa _ _ Xo),AM,al⟩) ?_ ?_
  ·rintro D i As H' acc x' B N hD ex ⟨v0,fs,rfl,sa,AM,tp,fo,al,am⟩ hB hN;obtain ⟨t,f',rfl,ef,ht⟩:=X6.get ex;have Xl:=YY ef;have tda:=td7.keep fun u z=>sa _ _ z
   have tUa:=X6.keep fun b ys z=>sa _ _ z
   have hEa:=sa _ _ Xo;obtain ⟨nn,dg,tnn⟩:=tda.get op.1 Xl (sa _ _ ht);exists _,rfl,_,rfl,TD,_,rfl,dg,_,rfl,EV,rfl,⟨_,A9.of hEa⟩
   refine Ik (fun _ _ _ _ _ h=>h) (fun _ _ _ _ h q=>⟨_,rfl,_,rfl,TD,_,rfl,h,q⟩) (A9.of hEa) (fun H' s=>A9.of (s _ _ hEa)) tUa tda op.1 (fun f h=>h) (by lia) (fun DM H8 XX hDM s8 Y0 nl8 nt8=>?_);refine ⟨DM,XX,rfl,A9.of Y0,fun z=>by rw [z] at nl8; exact one (ZF.mp nl8.symm),fun mm hmm Wx=>⟨rfl,_,rfl,?_⟩⟩;have Sg:=s8 _ _ AM;have tk:∀ f,f ∈ os.take (i + 1)->f ∈ os.take i\/f=f':=fun f h=>by
    rw [Zs,ef] at h;rcases Zp.mp h with h | h
    ·exact .inl h
    ·exact .inr (Zl.mp h)
   refine Ck (fun z=>?_) (fun z=>?_)
   ·refine ⟨_,rfl,hB _ _ _ Sg ⟨_,fs ++ [f'],rfl,B7 (sa.trans s8) hD,Ab,?_,?_,by rw [Za]; simp; lia,fun _=>by simp⟩⟩
    ·refine ((tp.keep fun b ys z=>s8 _ _ z).app (.cons (s8 _ _ (sa _ _ ht)) .nil)).keep fun b ys z=>?_
     rw [Af (fun e=>by rw [e,Sg] at z; cases z)];exact z
    ·intro f hf;rcases Zp.mp hf with hf | hf
     ·exact fo f hf
     ·rw [Zl.mp hf];exact Xl
   ·refine hN _ _ ⟨_,fs,rfl,sa.trans s8,Sg,tp.keep fun b ys z=>s8 _ _ z,fo,by lia,fun h0=>?_⟩;rcases tk f0 h0 with h0 | rfl
    ·exact am h0
    ·exfalso
     apply z;have e1:nn=mx:=tnn.uniq tf0;obtain ⟨j,hj,ej⟩:=Zm hmm;have eo:os[j]? = some (os[j]'(by lia)):=YU (by lia);have tj:=nt8 j _ mm eo (by rw [YU hj,ej]);obtain ⟨t',Xi,OD⟩:=tot _ (YY eo);have Xf:=hmax t' Xi;rw [<-tj.uniq OD] at Xf;obtain ⟨i0,hi0,ei0⟩:=Zm hf0;have en:XX[i0]? = some (XX[i0]'(by lia)):=YU (by lia);have t0:=nt8 i0 f0 _ (by rw [YU hi0,ei0]) en;have le2:=Wx _ (YY en);rw [t0.uniq tf0] at le2;have:nn=mm:=by lia
     rw [this];exact decide_eq_true rfl
  rintro DB As H8 WL hDB0 ⟨v0,fs8,rfl,s8,hDB,WT,fo8,al8,am8⟩;rw [ul,Zu] at am8;have a8:=am8 hf0;obtain ⟨vb,acc8',rfl⟩:∃ v l,WL=v :: l:=by
   cases WL with
   | nil=>exact absurd rfl a8
   | cons v l=>exact ⟨v,l,rfl⟩
  obtain ⟨tb,fb,rfl,efb,htb⟩:=WT.get (i:=0) (u:=vb) rfl;have hfb:=fo8 fb (YY efb);refine ⟨DB,_,_,_,rfl,rfl,A9.of hDB,CD (j:=0) rfl,(by show 1<=sizeLine; lia),fun BG WB=>?_⟩;have s9:=Ad (o:=.lst [V.ref tb]) WB;have hBG:(upd H8 BG (.lst [V.ref tb])) BG=some (.lst [V.ref tb]):=Ab;generalize upd H8 BG (.lst [V.ref tb])=H9 at s9 hBG ⊢;have TR:=s8.trans s9;have P9:=P7.same TR;have hE9:=TR _ _ Xo;have nB:BG ≠ p:=(P7.same s8).ne WB;exists _,rfl,5,rfl,by decide,by decide
  have tU:=X6.keep fun b ys z=>TR _ _ z
  have tUx:=tU;refine Il (n:=5) (fun D i As Hx acc=>∃ (v0:Option V) (fs:List (List Str)),As=[v0,some (.ref p),some (.ref EV)]/\Di K Hx p/\Ba p H9 Hx/\D ≠ p/\Hx D=some (.lst acc)/\B9 Hx acc fs/\acc.length=i/\∀ g ∈ fs,g ∈ os)
   (by lia) (fun D hD=>⟨_,[],rfl,P9.same (Ad hD),Ba.of_same (Ad hD),P9.ne hD,Ab,.nil,rfl,(fun g hg=>nomatch hg)⟩) (fun D i As Hx acc hD ⟨v0,fs,_,_,_,_,AM,_,al,_⟩=>⟨AM,al⟩) ?_ ?_
  ·rintro D i As Hx acc B hD hi ⟨v0,fs,rfl,Px,kx,nD,AM,tp,al,fo⟩ hB;have hEx:=kx _ _ nE hE9;refine ⟨_,rfl,_,rfl,_,rfl,EV,_,rfl,.inl (A9.of hEx),p,_,rfl,Px,by lia,by lia,fun e1 Hb Pb kb YI YH=>?_⟩;obtain ⟨q,rfl⟩:∃ q:Nat,e1=q:=⟨e1.toNat,by lia⟩
   have hq:q < us.length:=by lia
   have uq:us[q]? = some us[q]:=YU hq;obtain ⟨t,f',et,ef,ht⟩:=(tU.keep (DA P9 kx)).get uq;have tpb:=DA Px kb;have hDb:=kb _ _ nD AM;exists EV,_,_,us[q],rfl,rfl,A9.of (kb _ _ nE hEx),CD uq;rw [et];refine hB _ _ _ hDb ⟨_,fs ++ [f'],rfl,Pb.other hDb nD,(kx.trans kb).put5 hD,nD,Ab,?_,by rw [Za,al]; rfl,fun g hg=>?_⟩
   ·refine ((tp.keep tpb).app (.cons (tpb _ _ ht) .nil)).keep fun b ys z=>?_
    rw [Af (fun e=>by rw [e,hDb] at z; cases z)];exact z
   ·rcases Zp.mp hg with hg | hg
    ·exact fo g hg
    ·rw [Zl.mp hg];exact YY ef
  rintro D5 As Nf F0 hD50 ⟨v0,WD,rfl,WN,k10,nD5,J0,X4,al10,YB⟩;have TK:=DA P9 k10;refine ⟨BG,D5,[V.ref tb],F0,rfl,rfl,k10 _ _ nB hBG,J0,by show 1 + F0.length<=sizeLine; lia,fun RV RB=>?_⟩;have QN:=Ad (o:=.lst ([V.ref tb] ++ F0)) RB;have hLL:(upd Nf RV (.lst ([V.ref tb] ++ F0))) RV=some (.lst ([V.ref tb] ++ F0)):=Ab;have nLS:RV ≠ SH:=fun e=>by
   have:=k10 _ _ nS (TR _ _ hSH);rw [<-e,RB] at this;cases this
  generalize upd Nf RV (.lst ([V.ref tb] ++ F0))=Oy at QN hLL ⊢;have VJ:∀ b ys,H7 b=some (.tup ys)->Oy b=some (.tup ys):=fun b ys z=>QN _ _ (TK _ _ (TR _ _ z))
  have tpA:B9 Oy ([V.ref tb] ++ F0) (fb :: WD):=.cons (QN _ _ (TK _ _ (s9 _ _ htb))) (X4.keep fun b ys z=>QN _ _ z);have foA:∀ f ∈ fb :: WD,f ∈ os:=fun f hf=>by
   rcases Zg.mp hf with rfl | hf
   ·exact hfb
   ·exact YB f hf
  have YN:=(cw6.same s7).keepT VJ;have WM:=WN.same QN;have R8:=QN _ _ (k10 _ _ nS (TR _ _ hSH));have VM:=td7.keep fun u z=>QN _ _ (k10 _ _ nT (TR _ _ z))
  exists RV,rfl,⟨_,A9.of hLL⟩
  refine EF (xs:=[V.ref tb] ++ F0) (fun i σ H'=>∃ (v10 v11:Option V) (acc:List V) (fs:List (List Str)),σ=[some (.ref p),some (.ref c),some (.int (if lim=true then 5 else 3)),some (.ref A1),some (.ref EV),some (.ref TD),some (.int ((if lim=true then 5 else 3) * mn)),some (.ref AS),some (.ref SH),some (.ref BG),v10,v11]/\Di K H' p/\(∀ b u,b ≠ SH->Oy b=some u->H' b=some u)/\H' SH=some (.lst acc)/\B9 H' acc fs/\(∀ f ∈ fs,FF (rs1.map (·.1)) x f/\FH ws rs1 Av x f)/\acc.length<=1024 + i/\(0 < i->acc ≠ []))
   ⟨_,_,YR,fs7,rfl,WM,(fun b u _ z=>z),R8,tp7.keep VJ,fo7,by lia,fun z=>absurd z (by decide)⟩ (fun i σ H' _ ⟨_,_,_,_,_,_,kk,_⟩=>A9.of (kk _ _ nLS hLL)) ?_ ?_
  ·rintro i v σ H' hv ⟨v10,v11,acc,fs,rfl,Pa,ka,hSa,tpa,foa,ala,nea⟩;obtain ⟨t,f',rfl,Xl,ht⟩:=tpA.mem (YY hv);have Ud:=ops (foA f' Xl);have hi6:i < 1 + F0.length:=by
    have:=(YZ.mp hv).1;rw [Za] at this;exact this
   have tpk:∀ b ys,Oy b=some (.tup ys)->H' b=some (.tup ys):=fun b ys z=>ka _ _ (fun e=>by rw [e,R8] at z; cases z) z
   have cwa:=YN.keepT tpk;refine ⟨_,rfl,_,rfl,c,t,m,n,xs,ws,rs1,Av,x,d,f',rfl,⟨cwa,ri,tpk _ _ ht,Ud⟩,fun Xy L12 X3 TZ QM f12 h12 VN YQ rl12=>?_⟩;obtain ⟨l12,y,rfl,oy,by'⟩:=YQ.last ri Ud;have U0:=VN.len;have XZ:X3 ≠ []:=fun z=>by rw [z] at U0; simp at U0
   obtain ⟨vl,ea,eb⟩:=Tx XZ;obtain ⟨ty,y',rfl,ey,hty⟩:=VN.get eb;have:y'=y:=by
    rw [U0,Za,Z9,bW,Zx (Zb _),af] at ey;exact (Zo.inj ey).symm
   subst this;exists _,rfl,L12,_,_,_,rfl,rfl,A9.of h12,ea;refine ⟨_,rfl,_,rfl,c,ty,m,n,xs,ws,rs1,Av,x,d,y',rfl,⟨cwa.same QM,ri,hty,oy⟩,fun H13 b VU hb=>⟨_,rfl,?_⟩⟩;rw [hb.mpr by'];refine F8 ?_;have s3:=QM.trans VU;have V9:=s3 _ _ hSa;exists _,rfl,.inl ⟨rfl,_,A9.of V9⟩,_,rfl,SH,_,_,rfl,rfl,V9,by lia
   refine ⟨_,_,acc ++ [V.ref ty],fs ++ [y'],rfl,(Pa.same s3).other V9 nS,fun b u nb z=>by rw [Af nb]; exact s3 _ _ (ka _ _ nb z),Ab,?_,fun f hf=>?_,by rw [Za,Z9]; lia,fun _=>by simp⟩
   ·refine ((tpa.keep fun b ys z=>s3 _ _ z).app (.cons (VU _ _ hty) .nil)).keep fun b ys z=>?_
    rw [Af (fun e=>by rw [e,V9] at z; cases z)];exact z
   ·rcases Zp.mp hf with hf | hf
    ·exact foa f hf
    ·rw [Zl.mp hf];exact ⟨oy,by'⟩
  rintro σ Xy ⟨v10,v11,acc,fs,rfl,Pa,ka,hSa,tpa,foa,ala,nea⟩;have ne:=nea (by rw [Za]; show 0 < 1 + F0.length; lia);rw [Za,Z9] at ala;have nTS:TD ≠ SH:=fun e=>by
   obtain ⟨ckv,q,_⟩:=VM;rw [e,R8] at q;cases q
  have tda:=VM.keep fun u z=>ka _ _ nTS z
  exists _,rfl,SH,rfl,⟨_,A9.of hSa⟩
  refine Ik (fun _ _ _ _ _ h=>h) (fun _ _ _ _ h q=>⟨_,rfl,_,rfl,TD,_,rfl,h,q⟩) (A9.of hSa) (fun H' s=>A9.of (s _ _ hSa)) tpa tda op.1 (fun f h=>(op.2.2 f).mpr (foa f h).1) (by lia) (fun DM H13 XY hDM VU Y1 Wb XW=>?_);have fl:=tpa.len;refine ⟨DM,XY,rfl,A9.of Y1,fun z=>by rw [z] at Wb; exact ne (ZF.mp (by rw [fl]; exact Wb.symm)),fun mm hmm Wx=>⟨_,rfl,_,_,rfl,rfl,?_⟩⟩;have fin:mm<=(if lim=true then 5 else 3) * mn:=by
   obtain ⟨j,hj,ej⟩:=Zm hmm;have eo:fs[j]? = some (fs[j]'(by lia)):=YU (by lia);have tj:=XW j _ mm eo (by rw [YU hj,ej]);obtain ⟨oo,bb⟩:=foa _ (YY eo);exact kd.most sc oo bb (ops hfz) tj tfz
  have q:=k _ (Pa.same VU) fun b u nb z=>by
   have z6:=k6 _ _ nb (V4 _ _ z);exact VU _ _ (ka _ _ (fun e=>by rw [e,W6] at z6; cases z6) (QN _ _ (k10 _ _ nb (TR _ _ (s7 _ _ z6)))))
  rw [<-(decide_eq_true fin:decide _=true)] at q;exact q
end
section
variable {P:Program} {w:World} {K:YX} {mg:Str->Option Value} {base:Heap}
theorem Iy (h_int:mg "int"=none) (h_tuple:mg "tuple"=none)  {f:Addr} {fd:FuncData} (F:EU K "_law_changed" "_law_changed" CC f fd):AL P w K mg base Ce 1 f fd ["_law_case_here","_law_limited"] GY:=by
 refine F.ok E2 (fun vs H Q E h=>?_) (fun cdv A outer s H vs Q E hr h=>?_)
 ·obtain ⟨c,m,n,xs,ws,rs1,Av,x,d,lim,rfl,_⟩:=h;rfl
 ·obtain ⟨c,m,n,xs,ws,rs1,Av,x,d,lim,rfl,cs,k⟩:=h;have nd:=E2.nd;have big:100000 < sizeLine:=by decide
  refine ⟨_,(Ae (E6 (pv 0) (BD K rfl rfl (Ar (Ah (i:=2) nd rfl (Or.inl rfl)) (Ar (Ah (i:=3) nd rfl (Or.inl rfl)) (Ar (Ah (i:=4) nd rfl (Or.inl rfl)) (Ar (Ah (i:=5) nd rfl (Or.inl rfl)) BC))))))
  (Ae (Dt (F4 (F3 (pv 1)))
  (Aj (AG (Bb (Aa (pv 2) (Aa (pv 3) (Aa (pv 4) (Aa G7 Ac)))))))
  BP)
  (Aj (AG (Bb (Aa (pv 2) (Aa (A7 (Bg K rfl) (by rfl) h_tuple PyProof.Rows.boot_tuple (Aa (Bj (N:=["_law_place","_law_amount"]) (σ0:=fun _=>[none,none]) rfl (BN.plain (by decide +kernel) (by decide +kernel) rfl (by decide +kernel)) (fun σ _=>Cp.none _ _ _ ["_law_place","_law_amount"] σ) (AZ K rfl (pv 3))
   (fun s2 H C fp=>⟨(BD K rfl (n:=2) rfl (Ar (Ah (i:=0) (show (["_law_place","_law_amount"]:List Str).Nodup by decide +kernel) rfl (Or.inl rfl)) (Ar (Ah (i:=1) (show (["_law_place","_law_amount"]:List Str).Nodup by decide +kernel) rfl (Or.inl rfl)) BC))),AV,(Bb (Aa (pv 0) (Aa Ag Ac)))⟩)) Ac)) (Aa (pv 4) (Aa (AA (AB K rfl) (Bu (Aa (pv 5) (Aa Ag Ac))) (A7 CY (by rfl) h_int PyProof.Rows.boot_int (Aa (KA (G8 (pv 5))) Ac)) (fun _ _=>rfl)) Ac))))))))),?_⟩
  obtain ⟨t1,t2,Fm,Js,hc,Gz,HR,GG,hd2⟩:=cs.cw.ex;have ul:=BR HR;have l1:=cs.cw.l1;exists _,rfl,c,_,rfl,AF.of hc,rfl,_,_,rfl,_,_,rfl,_,_,rfl,_,_,rfl,rfl;cases lim with
  | false=>
   exists _,rfl,_,rfl;refine IK ?_;refine ⟨_,rfl,_,rfl,_,rfl,(by show 4<=sizeLine; lia),fun T hT=>?_⟩;have sT:=Ad (o:=.tup [V.ref m,V.ref t1,V.ref t2,V.non]) hT;have cw:=cs.cw.same sT;exact k _ T rs1 .non .none sT ⟨⟨⟨t1,t2,Fm,Js,Ab,sT _ _ Gz,HR.mono fun a o z _=>sT _ _ z,sT _ _ GG,hd2.mono fun a o z _=>sT _ _ z⟩,cw.map,cw.n1,cw.n30,cw.ok1,cw.ok2,cw.l1,cw.l2,.inl ⟨rfl,rfl⟩⟩,cs.n9,cs.l6,cs.l8,cs.so1,cs.so2⟩ (.inl ⟨rfl,rfl⟩)
  | true=>
   exists _,rfl,_,rfl;refine F8 ?_;exists _,rfl,_,rfl,t1,rfl,⟨_,AF.of Gz⟩
   refine BI BU (xs:=Fm) (fun D i σ H' acc=>∃ v0 v1:Option V,σ=[v0,v1]/\Au H H'/\H' D=some (.lst acc)/\acc.length=i/\Bt H' acc (((rs1.take i).map fun r=>(r.1,(0:Int))).map G5))
    (by lia) (fun D hD=>⟨_,_,rfl,Ad hD,Ab,rfl,.nil⟩) (fun D i σ H' acc hD ⟨v0,v1,_,sa,AM,al,_⟩=>⟨AF.of (sa _ _ Gz),AM,al⟩) ?_ ?_
   ·rintro D i σ H' acc x' B hD ex ⟨v0,v1,rfl,sa,AM,al,dts⟩ hB;obtain ⟨u,t,eu,rfl,ht⟩:=C2 HR ex;exists t,_,rfl,AF.of (sa _ _ ht),rfl,_,_,rfl,_,_,rfl,rfl;refine ⟨_,rfl,(by show 2<=sizeLine; lia),fun W hW=>?_⟩;have sW:=Ad (o:=.tup [V.str u.1,V.int 0]) hW;have hDW:=sW _ _ AM;refine hB _ _ _ hDW ⟨_,_,rfl,B7 (sa.trans sW) hD,Ab,by rw [Za,al]; rfl,?_⟩;have nWD:W ≠ D:=fun e=>by rw [e,AM] at hW; cases hW
    rw [Zs,eu,Zi,Zi];refine Kj (BH dts fun b ys z=>?_) (.tup (by rw [Af nWD]; exact Ab) (.cons (.str _) (.cons (.int _) .nil)));rw [Af (fun e=>by rw [e,AM] at z; cases z)];exact sW _ _ z
   rintro D σ H1 acc hD ⟨v0,v1,rfl,s1,AM,al,dts⟩;rw [ul,Zu] at dts;refine ⟨D,_,rfl,.inl ⟨A9.of AM,fun t ht=>?_⟩⟩;have st:=Ad (o:=.tup acc) ht;have htt:(upd H1 t (.tup acc)) t=some (.tup acc):=Ab;generalize upd H1 t (.tup acc)=H2 at st htt ⊢;refine ⟨_,rfl,_,rfl,(by show 2<=sizeLine; lia),fun l hl=>?_⟩;have sl:=Ad (o:=.lst [x,V.int 2]) hl;have hll:(upd H2 l (.lst [x,V.int 2])) l=some (.lst [x,V.int 2]):=Ab;generalize upd H2 l (.lst [x,V.int 2])=H3 at sl hll ⊢;have fin:∀ (x':V) (d':PyData) (T:Addr),Lim x' d'->(∃ kk:Int,x'=.int kk)->H3 T=none->Q (.ref T) (upd H3 T (.tup [V.ref m,V.ref t,V.ref t2,x'])):=fun x' d' T lx xk hT=>by
    have sT:=Ad (o:=.tup [V.ref m,V.ref t,V.ref t2,x']) hT;have s2:=s1.trans (st.trans (sl.trans sT));have cw:=cs.cw.same s2;have mm:(rs1.map fun r=>(r.1,(0:Int))).map (·.1)=rs1.map (·.1):=by rw [ZA]; rfl
    refine k _ T (rs1.map fun r=>(r.1,(0:Int))) x' d' s2 ⟨⟨⟨t,t2,acc,Js,Ab,sT _ _ (sl _ _ htt),BH dts fun b ys z=>sT _ _ (sl _ _ (st _ _ z)),s2 _ _ GG,BH hd2 fun b ys z=>s2 _ _ z⟩,cw.map,cw.n1,cw.n30,⟨fun r hr=>?_,by rw [mm]; exact cw.ok1.nd,fun r hr=>?_,by rw [YV]; exact cw.ok1.one⟩,cw.ok2,by rw [YV]; exact cw.l1,cw.l2,lx⟩,cs.n9,by rw [YV]; exact cs.l6,cs.l8,by rw [mm]; exact cs.so1,cs.so2⟩ (.inr ⟨rfl,xk,fun r hr=>?_⟩)
    ·obtain ⟨q,hq,rfl⟩:=Zd.mp hr;exact cw.ok1.sub q hq
    ·obtain ⟨q,hq,rfl⟩:=Zd.mp hr;exact ⟨ZD _,(by decide:(0:Int) < 10 ^ 30)⟩
    ·obtain ⟨q,hq,rfl⟩:=Zd.mp hr;rfl
   refine ⟨_,rfl,.inr ⟨_,rfl,?_⟩⟩;rcases cs.cw.lim with ⟨rfl,rfl⟩ | ⟨lm,rfl,rfl,lm1,lm2⟩
   ·exact ⟨l,_,_,_,rfl,rfl,A9.of hll,(show HV [V.non,V.int 2] 1=some (V.int 2) from rfl),(by show 4<=sizeLine; lia),fun T hT=>fin _ (.int 2) T (.inr ⟨2,rfl,rfl,by decide,by decide⟩) ⟨2,rfl⟩ hT⟩
   ·exact ⟨l,_,_,_,rfl,rfl,A9.of hll,(show HV [V.int lm,V.int 2] 0=some (V.int lm) from rfl),(by show 4<=sizeLine; lia),fun T hT=>fin _ (.int lm) T (.inr ⟨lm,rfl,rfl,lm1,lm2⟩) ⟨lm,rfl⟩ hT⟩
end
section
variable {P:Program} {w:World} {K:YX} {mg:Str->Option Value} {base:Heap}
theorem Jv  {fBE:Addr} {fdBE:FuncData} (XBE:Fn K mg "better" E3 ["case","opening"] fBE fdBE) (GBE:AL P w K mg base Ce 6 fBE fdBE ["case","opening"] Ie) {f:Addr} {fd:FuncData} (F:EU K "is_settled" "is_settled" CP f fd):AL P w K mg base Ce 7 f fd ["case","opening"] JG:=by
 refine F.ok Ft (fun vs H Q E h=>?_) (fun cdv A outer s H vs Q E hr h=>?_)
 ·obtain ⟨c,o,m,n,xs,ws,rs1,Av,x,d,op,rfl,_⟩:=h;rfl
 ·obtain ⟨c,o,m,n,xs,ws,rs1,Av,x,d,op,rfl,cx,k⟩:=h;have nd:=Ft.nd;have big:100000 < sizeLine:=by decide
  exists _,(Aj (AG (KA (G8 (Ak GBE (hr.mono (by decide)) (by rfl) XBE.mg XBE.F.kp XBE.b .nil Ax (Aa (pv 0) (Aa (pv 1) Ac)))))))
  refine ⟨_,rfl,_,rfl,c,o,m,n,xs,ws,rs1,Av,x,d,op,rfl,cx,fun H1 v t0 s1 tot bv=>?_⟩;refine k _ _ s1 ?_;rw [decide_eq_true_eq];rcases bv with ⟨rfl,bn⟩ | ⟨t,zs,rfl,_,bs⟩
  ·exact ⟨fun _=>bn,fun _=>rfl⟩
  ·exact ⟨(fun z=>by cases z),fun z=>(bs.not z).elim⟩
theorem LA  {fBE:Addr} {fdBE:FuncData} (XBE:Fn K mg "better" E3 ["case","opening"] fBE fdBE) (GBE:AL P w K mg base Ce 6 fBE fdBE ["case","opening"] Ie) {f:Addr} {fd:FuncData} (F:EU K "bettered" "bettered" DU f fd):AL P w K mg base Ce 7 f fd ["case","opening"] Ic:=by
 refine F.ok Hh (fun vs H Q E h=>?_) (fun cdv A outer s H vs Q E hr h=>?_)
 ·obtain ⟨c,o,m,n,xs,ws,rs1,Av,x,d,op,rfl,_⟩:=h;rfl
 ·obtain ⟨c,o,m,n,xs,ws,rs1,Av,x,d,op,rfl,cx,k⟩:=h;have nd:=Hh.nd;have big:100000 < sizeLine:=by decide
  refine ⟨_,(Ae (Aq (i:=2) nd rfl (Or.inl rfl) (Bu (Aa (pv 1) Ac)))
  (Ae (Aq (i:=3) nd rfl (Or.inl rfl) (Ak GBE (hr.mono (by decide)) (by rfl) XBE.mg XBE.F.kp XBE.b .nil Ax (Aa (pv 0) (Aa (pv 1) Ac))))
  (Ae (L5 PassesOwn.never (E5 (KC (pv 3)))
  (Ae (Fd (Hl PySem.F.plainAttrs_list PySem.F.slot_list_append PySem.F.type_list_append Cc (pv 2) (Aa (pv 3) Ac)))
  (Aj (Aq (i:=3) nd rfl (Or.inl rfl) (Ak GBE (hr.mono (by decide)) (by rfl) XBE.mg XBE.F.kp XBE.b .nil Ax (Aa (pv 0) (Aa (pv 3) Ac)))))))
  (Aj (AG (pv 2)))))),?_⟩
  have sn:=cx.cw.ok1.nd;have sl:(rs1.map (·.1)).length<=10:=by rw [YV]; exact cx.cw.l1
  have ho:=cx.ho;refine ⟨_,rfl,(by show 1<=sizeLine; lia),fun L hL=>?_⟩;have sL:=Ad (o:=.lst [V.ref o]) hL;refine ⟨_,rfl,_,rfl,c,o,m,n,xs,ws,rs1,Av,x,d,op,rfl,cx.keepT fun b ys z=>sL _ _ z,fun H1 v1 t1 s1 VL bv1=>?_⟩;have TU:=sL.trans s1;refine ⟨fun mm σ H'=>∃ (pre:List (List Str)) (cur:List Str) (v:V) (t0:Int) (us:List V),mm=t0.toNat/\σ=[some (.ref c),some (.ref o),some (.ref L),some v]/\Au H H'/\H' L=some (.lst us)/\B9 H' us (pre ++ [cur])/\Bn ws rs1 Av cur t0/\BetV H' ws rs1 Av x cur v/\(∀ r,GX ws rs1 Av x cur r->GX ws rs1 Av x op (pre ++ r))/\(pre ++ [cur]).Nodup/\(∀ y ∈ pre ++ [cur],FF (rs1.map (·.1)) x y)/\∀ y ∈ pre ++ [cur],∀ t,Bn ws rs1 Av y t->t0<=t,
   ⟨_,[],op,v1,t1,[V.ref o],rfl,rfl,TU,s1 _ _ Ab,.cons (TU _ _ ho) .nil,VL,bv1,(fun r h=>h),Z3.mpr ⟨(fun h=>nomatch h),au⟩,(fun y hy=>by rw [Zl.mp hy]; exact cx.op),fun y hy t tt=>by rw [Zl.mp hy] at tt; rw [tt.uniq VL]; exact ZD _⟩,?_⟩
  rintro mm σ H' ⟨pre,cur,v,t0,us,rfl,rfl,sa,hLL,tU,tot,bv,gp,rn,ro,rt⟩;exists _,rfl,_,rfl;have rl:=OP sn sl rn ro;rcases bv with ⟨rfl,bn⟩ | ⟨t,zs,rfl,ht,bs⟩
  ·refine Ck (fun z=>by simp at z) (fun _=>?_);exact ⟨_,rfl,k _ L us _ sa hL hLL tU (gp _ (.end bn)) rl⟩
  ·refine Ck (fun _=>?_) (fun z=>by simp at z);exists _,fun _ _ z=>z
   obtain ⟨e,tz,t0',g1,g2,g3,g4,g5,g6⟩:=id bs;have oc:=ro cur (Zj _ Zq);obtain ⟨cn,csub,_⟩:=Gg oc sn;have oz:FF (rs1.map (·.1)) x zs:=g2.ops g1 cx.ri cn csub;have e0:=g4.uniq tot;subst e0;have z10:=o10x oz sn sl;have tz0:=OE cx.cw ⟨oz.1,oz.2.1.nodup sn,fun s hs=>oz.2.1.subset hs⟩ z10 g3;have ul:=tU.len;exists _,rfl,.inl ⟨rfl,_,A9.of hLL⟩,_,rfl,L,us,.ref t,rfl,rfl,hLL,by lia
   have s2:Au H (upd H' L (.lst (us ++ [.ref t]))):=B7 sa hL;have WU:∀ b ys,H' b=some (.tup ys)->(upd H' L (.lst (us ++ [.ref t]))) b=some (.tup ys):=fun b ys q=>by
    rw [Af (fun e=>by rw [e,hLL] at q; cases q)];exact q
   have RB:(upd H' L (.lst (us ++ [.ref t]))) L=some (.lst (us ++ [.ref t])):=Ab;generalize upd H' L (.lst (us ++ [.ref t]))=H2 at s2 WU RB ⊢;refine ⟨_,rfl,_,rfl,c,t,m,n,xs,ws,rs1,Av,x,d,zs,rfl,⟨cx.cw.same s2,cx.ri,WU _ _ ht,oz⟩,fun H3 v3 t3 s3 Sr bv3=>?_⟩;have e3:=Sr.uniq g3;subst e3;have znew:zs ∉ pre ++ [cur]:=fun hm=>by
    have:=rt zs hm t3 Sr;lia
   refine ⟨t3.toNat,by lia,pre ++ [cur],zs,v3,t3,us ++ [.ref t],rfl,rfl,s2.trans s3,s3 _ _ RB,?_,Sr,bv3,fun r hr=>?_,?_,fun y hy=>?_,fun y hy t' tt=>?_⟩
   ·exact (tU.keep fun b ys q=>s3 _ _ (WU _ _ q)).app (.cons (s3 _ _ (WU _ _ ht)) .nil)
   ·rw [ZR];exact gp _ (.step bs hr)
   ·exact ZJ.mpr ⟨rn,Z3.mpr ⟨(fun h=>nomatch h),au⟩,fun a ha b hb e=>znew (by rw [<-Zl.mp hb,<-e]; exact ha)⟩
   ·rcases Zp.mp hy with hy | hy
    ·exact ro y hy
    ·rw [Zl.mp hy];exact oz
   ·rcases Zp.mp hy with hy | hy
    ·have:=rt y hy t' tt;lia
    ·rw [Zl.mp hy] at tt;rw [tt.uniq Sr];exact ZD _
end
section
variable {P:Program} {w:World} {K:YX} {mg:Str->Option Value} {base:Heap}
theorem JV (h_list:mg "list"=none) (h_min:mg "min"=none) {fOC:Addr} {fdOC:FuncData} (XOC:Fn K mg "outcomes_of" C9 ["case","opening"] fOC fdOC) (GOC:AL P w K mg base Ce 4 fOC fdOC ["case","opening"] Nr) {fCO:Addr} {fdCO:FuncData} (XCO:Fn K mg "costs_of" DT ["case","chosen"] fCO fdCO) (GCO:AL P w K mg base Ce 5 fCO fdCO ["case","chosen"] JI) {f:Addr} {fd:FuncData} (F:EU K "better" "better" E3 f fd):AL P w K mg base Ce 6 f fd ["case","opening"] Ie:=by
 refine F.ok JM (fun vs H Q E h=>?_) (fun cdv A outer s H vs Q E hr h=>?_)
 ·obtain ⟨c,o,m,n,xs,ws,rs1,Av,x,d,op,rfl,_⟩:=h;rfl
 ·obtain ⟨c,o,m,n,xs,ws,rs1,Av,x,d,op,rfl,cx,k⟩:=h;have nd:=JM.nd;have hu:=En hr;have LP:=hr.units;have big:100000 < sizeLine:=by decide
  refine ⟨_,(Ae (Aq (i:=2) nd rfl (Or.inr rfl) (Ak GOC (hr.mono (by decide)) (by rfl) XOC.mg XOC.F.kp XOC.b .nil Ax (Aa (pv 0) (Aa (pv 1) Ac))))
  (Ae (Aq (i:=3) nd rfl (Or.inr rfl) (Ak GCO (hr.mono (by decide)) (by rfl) XCO.mg XCO.F.kp XCO.b .nil Ax (Aa (pv 0) (Aa (Aw KH (Bu (Aa (pv 1) Ac)) (A7 (Jh rfl) (by rfl) h_list PyProof.Rows.boot_list (Aa (UK PySem.F.plainAttrs_dict PySem.F.slot_dict_values PySem.F.type_dict_values Po (pv 2)) Ac))) Ac))))
  (Ae (Gb (ix:=4) (N:=["exchange","opening","outcomes","costs"]) nd rfl (Or.inl rfl) rfl CM (CI [none,some 1,some 2,some 3]) (Ub (pv 2))
   (fun s2 H C fp=>⟨(Ah (i:=0) (show (["exchange","opening","outcomes","costs"]:List Str).Nodup by decide +kernel) rfl (Or.inl rfl)),(Ds (BO JS (AH hu (pv 3) (AH hu (pv 2) (pv 0) (fun _ _=>rfl)) (fun _ _=>rfl)) (AH hu (pv 3) (pv 1) (fun _ _=>rfl)) (BV _))),(Bb (Aa (AH hu (pv 3) (AH hu (pv 2) (pv 0) (fun _ _=>rfl)) (fun _ _=>rfl)) (Aa (pv 0) Ac)))⟩))
  (Aj (AG (Ip (L4 (pv 4) (fun _=>rfl)) (AH hu (pv 2) (AA (Bc K rfl) (Al (Mf rfl LP) (by rfl) h_min PyProof.Rows.boot_min (Aa (pv 4) Ac)) Ag (fun _ _=>rfl)) (fun _ _=>rfl)) G7)))))),?_⟩
  have sn:=cx.cw.ok1.nd;obtain ⟨on,os,oe⟩:=Gg cx.op sn;have l1:=cx.cw.l1;have sl:(rs1.map (·.1)).length<=10:=by rw [YV]; exact l1
  have e64:=LS cx.op sn sl;have el:(HS (rs1.map (·.1)) x op).length<=(Cw (rs1.map (·.1)) op).length:=ab _ _;have ho:=cx.ho;refine ⟨_,rfl,_,rfl,c,o,m,n,xs,ws,rs1,Av,x,d,op,rfl,cx,fun H1 D kvs s1 fD hD oc=>?_⟩;have kl:=oc.len;obtain ⟨outs,tu,ol,oo⟩:=oc.tups;refine ⟨_,rfl,_,rfl,(by show 1<=sizeLine; lia),fun L1 Y2=>?_⟩;have sL:=Ad (o:=.lst [V.ref o]) Y2;refine ⟨_,rfl,.inr (.inr (.inl ⟨rfl,.inr ⟨_,sL _ _ hD⟩⟩)),D,kvs,rfl,rfl,sL _ _ hD,fun r Sf=>?_⟩;have sr:=Ad (o:=JA r D) Sf;refine ⟨r,D,kvs,rfl,Ab,sr _ _ (sL _ _ hD),fun l hl=>?_⟩;have sl3:=Ad (o:=.lst (kvs.map (·.2))) hl;refine ⟨L1,l,[V.ref o],kvs.map (·.2),rfl,rfl,sl3 _ _ (sr _ _ Ab),Ab,by rw [YV]; show 1 + kvs.length<=sizeLine; lia,fun RV RB=>?_⟩;have s2:=sL.trans (sr.trans (sl3.trans (Ad (o:=.lst ([V.ref o] ++ kvs.map (·.2))) RB)));have hll:(upd (upd (upd (upd H1 L1 (.lst [V.ref o])) r (JA r D)) l (.lst (kvs.map (·.2)))) RV (.lst ([V.ref o] ++ kvs.map (·.2)))) RV=some (.lst ([V.ref o] ++ kvs.map (·.2))):=Ab;generalize upd (upd (upd (upd H1 L1 (.lst [V.ref o])) r (JA r D)) l (.lst (kvs.map (·.2)))) RV (.lst ([V.ref o] ++ kvs.map (·.2)))=H2 at s2 hll ⊢;have und:=M6 sn on ol oo;have opn:∀ ys ∈ outs,VD (rs1.map (·.1)) ys/\ys ≠ op:=fun ys hy=>by
   obtain ⟨i,hi,e⟩:=Zm hy;have ee:(HS (rs1.map (·.1)) x op)[i]? = some ((HS (rs1.map (·.1)) x op)[i]'(by lia)):=YU _;have oz:=oo i _ ys ee (by rw [YU hi,e]);exact ⟨oz.opn (YY ee) on os,oz.ne_op (DI (Zy.mp (YY ee)).1)⟩
  refine ⟨c,RV,m,n,xs,ws,rs1,Av,x,d,V.ref o :: kvs.map (·.2),op :: outs,rfl,cx.cw.same (s1.trans s2),(show H2 RV=some (.lst (V.ref o :: kvs.map (·.2))) from hll),.cons (s2 _ _ (s1 _ _ ho)) (tu.keep fun b ys z=>s2 _ _ z),Z3.mpr ⟨fun hm=>(opn op hm).2 rfl,und⟩,fun ys hy=>?_,by rw [Z4]; lia,fun H3 C ckv s3 fC hC ck cv=>?_⟩
  ·rcases Zg.mp hy with rfl | hy
   ·exact ⟨cx.op.1,on,os⟩
   ·exact (opn ys hy).1
  have XB:=s2.trans s3;have GH:=XB _ _ hD;have nDC:C ≠ D:=fun e=>by rw [e,s2 _ _ hD] at fC; cases fC
  have cnd:(ckv.map (·.1)).Nodup:=by
   rw [ck];exact B4 (fun a b e=>De e) (Z3.mpr ⟨fun hm=>(opn op hm).2 rfl,und⟩)
  have cget:∀ (i:Nat) ys,(op :: outs)[i]? = some ys->∃ nn,ckv[i]? = some (ys.map Sum.inr,.int nn)/\Bn ws rs1 Av ys nn:=fun i ys e=>by
   have ek:(ckv.map (·.1))[i]? = some (ys.map Sum.inr):=by rw [ck,Ze,e]; rfl
   rw [Ze] at ek;cases q:ckv[i]? with
   | none=>rw [q] at ek; cases ek
   | some cp=>
    rw [q] at ek;obtain ⟨cpk,cpv⟩:=cp;have YF:cpk=ys.map Sum.inr:=Zo.inj ek;subst YF;obtain ⟨nn,rfl,tot⟩:=cv ys cpv (YY q);exact ⟨nn,rfl,tot⟩
  obtain ⟨t0,et0,Ss⟩:=cget 0 op rfl;refine ⟨_,rfl,D,kvs,rfl,GH,fun ob ts H4 fz tl tt=>?_⟩;have Qg:H4 D=some (.frz ob (.dT kvs)):=by rw [fz.2]; exact Ab
  have s4:∀ b u,b ≠ D->H3 b=some u->H4 b=some u:=fun b u e z=>by rw [fz.2,Af e]; exact z
  have V5:Au H H4:=fun b u z=>s4 _ _ (Ai z fD) (XB _ _ (s1 _ _ z))
  have UR:Cu H4 op kvs (HS (rs1.map (·.1)) x op):=oc.keep fun b ys z=>s4 _ _ (fun e=>by rw [e,hD] at z; cases z) (XB _ _ z)
  have hC4:=s4 _ _ nDC hC;have ho4:=V5 _ _ ho;have dgO:∀ {Ng:Hp},Au H4 Ng->BF Ng C (.ref o) (some (.int t0)):=fun {Ng} s=>.inr ⟨ckv,op.map Sum.inr,o,.inl (s _ _ hC4),rfl,by rw [s _ _ ho4,ZA]; rfl,(FO cnd et0).symm⟩
  refine BS NM (xs:=ts.map V.ref) (fun L i σ H' acc=>∃ (v0:Option V) (ks:List (Int × List Str)),σ=[v0,some (.ref o),some (.ref D),some (.ref C)]/\Au H4 H'/\H' L=some (.lst acc)/\acc.length=ks.length/\(∀ (j:Nat) v p,acc[j]? = some v->ks[j]? = some p->T9 H' v p)/\(∀ p ∈ ks,∃ e zs,e ∈ HS (rs1.map (·.1)) x op/\e.1=p.2/\BE op e.2.1 e.2.2 zs/\Bn ws rs1 Av zs p.1/\p.1 < t0)/\(∀ e ∈ (HS (rs1.map (·.1)) x op).take i,∀ zs t,BE op e.2.1 e.2.2 zs->Bn ws rs1 Av zs t->t < t0->(t,e.1) ∈ ks)/\acc.length<=i)
   (by rw [YV]; lia) (fun L hL=>⟨_,[],rfl,Ad hL,Ab,rfl,(fun j v p e=>by cases e),(fun p hp=>nomatch hp),(fun e he=>by rw [br] at he; cases he),Zb _⟩) (fun L i σ H' acc hL ⟨v0,ks,_,sa,hLL,_,_,_,_,al⟩=>⟨sa _ _ Qg,hLL,al⟩) ?_ ?_
  ·rintro L i σ H' acc x' B N hL ex ⟨v0,ks,rfl,sa,hLL,kle,kk,kd,kc,al⟩ hB hN;obtain ⟨T,eT,rfl⟩:∃ T,ts[i]? = some T/\x'=.ref T:=by
    rw [Ze] at ex;cases q:ts[i]? with
    | none=>rw [q] at ex; cases ex
    | some y=>rw [q] at ex; exact ⟨y,rfl,(Zo.inj ex).symm⟩
   have hi:i < kvs.length:=by rw [<-tl]; exact (YZ.mp eT).1
   have ek:kvs[i]? = some kvs[i]:=YU hi;obtain ⟨e,ee,ke⟩:=UR.mem_get ek;have hT:=tt i T _ eT ek;rw [ke] at hT;have hTs:H4 T=some (.tup (e.1.map V.str)):=by rw [hT,ZA]; rfl
   obtain ⟨t,zs,vv,hz,ocz⟩:=UR.val (GI sn on) ee;have dgD:BF H' D (.ref T) (some (.ref t)):=.inr ⟨kvs,e.1.map Sum.inr,T,.inr ⟨ob,sa _ _ Qg⟩,rfl,sa _ _ hT,vv.symm⟩;have ez:(op :: outs)[i + 1]? = some zs:=by
    rw [ax];have Tf:i < outs.length:=by lia
    have:=oo i e _ ee (YU Tf);rw [YU Tf,this.uniq ocz]
   obtain ⟨nn,ecp,tot⟩:=cget (i + 1) zs ez;have hzk:H' t=some (.tup ((zs.map (Sum.inr:Str->A4)).map kV)):=by rw [sa _ _ hz,ZA]; rfl
   have dgC:BF H' C (.ref t) (some (.int nn)):=.inr ⟨ckv,zs.map Sum.inr,t,.inl (sa _ _ hC4),rfl,hzk,(FO cnd ecp).symm⟩;have em:=YY ee;have tk:∀ e',e' ∈ (HS (rs1.map (·.1)) x op).take (i + 1)->e' ∈ (HS (rs1.map (·.1)) x op).take i\/e'=e:=fun e' h=>by
    rw [Zs,ee] at h;rcases Zp.mp h with h | h
    ·exact .inl h
    ·exact .inr (Zl.mp h)
   exists _,rfl,_,rfl,_,rfl,D,.ref t,rfl,dgD,C,.int nn,rfl,dgC,_,rfl,_,rfl,C,.int t0,rfl,dgO sa,_,_,rfl,rfl,_,rfl;refine Ck (fun z=>?_) (fun z=>?_)
   ·have z':nn < t0:=of_decide_eq_true z;refine ⟨_,rfl,_,rfl,_,rfl,D,.ref t,rfl,dgD,C,.int nn,rfl,dgC,_,rfl,(by show 2<=sizeLine; lia),fun W hW=>?_⟩;have sW:=Ad (o:=.tup [V.int nn,V.ref T]) hW;have hLW:=sW _ _ hLL;have tp:∀ b ys,H' b=some (.tup ys)->(upd (upd H' W (.tup [V.int nn,V.ref T])) L (.lst (acc ++ [V.ref W]))) b=some (.tup ys):=fun b ys q=>by
     rw [Af (fun e=>by rw [e,hLL] at q; cases q)];exact sW _ _ q
    refine hB _ _ _ hLW ⟨_,ks ++ [(nn,e.1)],rfl,B7 (sa.trans sW) hL,Ab,by rw [Za,Za,kle]; rfl,fun j v p e1 e2=>?_,fun p hp=>?_,fun e' Gn TJ t' o' OD lt'=>?_,by rw [Za]; simp; lia⟩
    ·by_cases hj:j < acc.length
     ·rw [Zz hj] at e1;rw [Zz (by lia)] at e2;exact (kk j v p e1 e2).same tp
     ·have Wz:=(YZ.mp e1).1;rw [Za,Z9] at Wz;have hje:j=acc.length:=by lia
      subst hje;rw [Zx (Zb _),af] at e1;rw [kle,Zx (Zb _),af] at e2;cases e1
      cases e2
      have nWL:W ≠ L:=fun e=>by rw [e,hLL] at hW; cases hW
      exact ⟨W,T,rfl,by rw [Af nWL]; exact Ab,tp _ _ (sa _ _ hTs)⟩
    ·rcases Zp.mp hp with hp | hp
     ·exact kd p hp
     ·rw [Zl.mp hp];exact ⟨e,zs,em,rfl,ocz,tot,z'⟩
    ·rcases tk e' Gn with h | rfl
     ·exact ZN _ (kc e' h TJ t' o' OD lt')
     ·rw [o'.uniq ocz] at OD;rw [OD.uniq tot];exact Zj _ Zq
   ·have z':¬ nn < t0:=fun q=>z (decide_eq_true q)
    refine hN _ _ ⟨_,ks,rfl,sa,hLL,kle,kk,kd,fun e' Gn TJ t' o' OD lt'=>?_,by lia⟩;rcases tk e' Gn with h | rfl
    ·exact kc e' h TJ t' o' OD lt'
    ·rw [o'.uniq ocz] at OD;rw [OD.uniq tot] at lt';exact absurd lt' z'
  ·rintro L σ H5 acc hL ⟨v0,ks,rfl,s5,hLL,kle,kk,kd,kc,al⟩;rw [YV,tl,kl,Zu] at kc;have V4:=V5.trans s5;exists _,rfl,!acc.isEmpty,.inl ⟨acc,A9.of hLL,rfl⟩;cases ks with
   | nil=>
    have ea:acc=[]:=ZF.mp kle;subst ea;refine F8 ?_;refine k _ _ t0 V4 Ss (.inl ⟨rfl,fun e he zs t t0' o' OD tz=>?_⟩);rw [tz.uniq Ss];by_cases q:t < t0
    ·exact absurd (kc e he zs t o' OD q) (by simp)
    ·lia
   | cons p0 ks=>
    rw [show (!acc.isEmpty)=true from by cases acc with | nil=>simp at kle | cons a b=>rfl];refine IK ?_;refine ⟨_,rfl,_,rfl,L,acc,p0 :: ks,rfl,hLL,kle,by simp,kk,fun v p hp kn hmin=>?_⟩;obtain ⟨w',lx,rfl,hw,hx⟩:=kn;obtain ⟨e,zs,g1,g2,g3,g4,g5⟩:=kd p hp;obtain ⟨i,hi,ei⟩:=Zm g1;have ee:(HS (rs1.map (·.1)) x op)[i]? = some e:=by rw [YU hi,ei]
    obtain ⟨t,Xz,vv,hz,ocz⟩:=UR.val (GI sn on) ee;have zz:=ocz.uniq g3;subst zz;exists w',_,_,_,rfl,rfl,AF.of hw,rfl,D,.ref t,rfl,.inr ⟨kvs,e.1.map Sum.inr,lx,.inr ⟨ob,s5 _ _ Qg⟩,rfl,?_,vv.symm⟩
    ·rw [hx,<-g2,ZA];rfl
    ·refine k _ _ t0 V4 Ss (.inr ⟨t,Xz,rfl,s5 _ _ hz,e,p.1,t0,g1,g3,g4,Ss,g5,fun e' Gn TJ t' o' OD=>?_⟩);rw [g2];by_cases q:t' < t0
     ·exact hmin _ (kc e' Gn TJ t' o' OD q)
     ·refine SY (by lia)
end
section
variable {P:Program} {w:World} {K:YX} {mg:Str->Option Value} {base:Heap}
theorem E8  {fCH:Addr} {fdCH:FuncData} (XCH:Fn K mg "changed" Fb ["opening","out","more"] fCH fdCH) (GCH:AL P w K mg base Ce 1 fCH fdCH ["opening","out","more"] JJ) {fIO:Addr} {fdIO:FuncData} (XIO:Fn K mg "is_opening" CQ ["case","thing"] fIO fdIO) (GIO:AL P w K mg base Ce 3 fIO fdIO ["case","thing"] (Q9 K)) {f:Addr} {fd:FuncData} (F:EU K "outcomes_of" "outcomes_of" C9 f fd):AL P w K mg base Ce 4 f fd ["case","opening"] Nr:=by
 refine F.ok Ex (fun vs H Q E h=>?_) (fun cdv A outer s H vs Q E hr h=>?_)
 ·obtain ⟨c,o,m,n,xs,ws,rs1,Av,x,d,op,rfl,_⟩:=h;rfl
 ·obtain ⟨c,o,m,n,xs,ws,rs1,Av,x,d,op,rfl,cx,k⟩:=h;have nd:=Ex.nd;have hu:=En hr;have big:100000 < sizeLine:=by decide
  refine ⟨_,(Ae (Gb (ix:=2) (N:=["place","charge","opening"]) nd rfl (Or.inl rfl) rfl CM (CI [none,none,some 1]) (AZ K rfl (AA (Bc K rfl) (pv 0) Ag (fun _ _=>rfl)))
   (fun s2 H C fp=>⟨(BD K rfl (n:=2) rfl (Ar (Ah (i:=0) (show (["place","charge","opening"]:List Str).Nodup by decide +kernel) rfl (Or.inl rfl)) (Ar (Ah (i:=1) (show (["place","charge","opening"]:List Str).Nodup by decide +kernel) rfl (Or.inl rfl)) BC))),(Ds (BO (Ph K rfl) (pv 0) (pv 2) (by rfl))),(pv 0)⟩))
  (Ae (Aq (i:=3) nd rfl (Or.inr rfl) (JQ (N:=["site","opening"]) rfl hu CM (CI [none,some 1]) (Bq K rfl (pv 2))
   (fun s2 H C fp=>⟨(Ah (i:=0) (show (["site","opening"]:List Str).Nodup by decide +kernel) rfl (Or.inl rfl)),AV,(Bb (Aa Dy (Aa (pv 0) Ac))),(Ak GCH (hr.mono (by decide)) (by rfl) XCH.mg XCH.F.kp XCH.b .nil Ax (Aa (pv 1) (Aa G7 (Aa (pv 0) Ac))))⟩)))
  (Ae (Bz PassesOwn.never rfl (AZ K rfl (pv 1)) (Ah (i:=4) nd rfl (Or.inl rfl))
  (Ae (Ca hu (pv 3) (Bb (Aa Dy (Aa (pv 4) Ac))) (Ak GCH (hr.mono (by decide)) (by rfl) XCH.mg XCH.F.kp XCH.b .nil Ax (Aa (pv 1) (Aa (pv 4) (Aa G7 Ac)))) rfl)
  (Aj (Bz PassesOwn.never rfl (Bq K rfl (pv 2)) (Ah (i:=5) nd rfl (Or.inl rfl))
  (Aj (Ca hu (pv 3) (Bb (Aa Dy (Aa (pv 4) (Aa (pv 5) Ac)))) (Ak GCH (hr.mono (by decide)) (by rfl) XCH.mg XCH.F.kp XCH.b .nil Ax (Aa (pv 1) (Aa (pv 4) (Aa (pv 5) Ac)))) rfl))))))
  (Aj (AG (JQ (N:=["exchange","case","outcomes"]) rfl hu CM (CI [none,some 0,some 3]) (Ub (pv 3))
   (fun s2 H C fp=>⟨(Ah (i:=0) (show (["exchange","case","outcomes"]:List Str).Nodup by decide +kernel) rfl (Or.inl rfl)),(Ds (F3 (Ak GIO (hr.mono (by decide)) (by rfl) XIO.mg XIO.F.kp XIO.b .nil Ax (Aa (pv 1) (Aa (AH hu (pv 2) (pv 0) (fun _ _=>rfl)) Ac))))),(pv 0),(AH hu (pv 2) (pv 0) (fun _ _=>rfl))⟩))))))),?_⟩
  obtain ⟨t1,t2,Fm,Js,hc,Gz,HR,GG,hd2⟩:=cx.cw.ex;have VH:=BR HR;have l1:=cx.cw.l1;have sn:=cx.cw.ok1.nd;obtain ⟨on,os,oe⟩:=Gg cx.op sn;have ho:=cx.ho;have sl:(rs1.map (·.1)).length<=10:=by rw [YV]; exact l1
  have e64:=LS cx.op sn sl;have oll:op.length<=10:=by lia
  have otl:(Bx (rs1.map (·.1)) op).length<=10:=by lia
  exists _,rfl,c,_,_,_,rfl,rfl,AF.of hc,rfl,t1,rfl,⟨_,AF.of Gz⟩
  refine BS BU (xs:=Fm) (fun D i σ H' acc=>∃ v0 v1:Option V,σ=[v0,v1,some (.ref o)]/\Au H H'/\H' D=some (.lst acc)/\acc=(Bx ((rs1.map (·.1)).take i) op).map V.str)
   (by lia) (fun D hD=>⟨_,_,rfl,Ad hD,Ab,rfl⟩) (fun D i σ H' acc hD ⟨v0,v1,_,sa,AM,ea⟩=>⟨AF.of (sa _ _ Gz),AM,by rw [ea,YV]; exact Z2 (ab _ _) (by rw [Z8]; exact cF _ _)⟩) ?_ ?_
  ·rintro D i σ H' acc x' B N hD ex ⟨v0,v1,rfl,sa,AM,rfl⟩ hB hN;obtain ⟨u,t,eu,rfl,ht⟩:=C2 HR ex;have ey:(rs1.map (·.1))[i]? = some u.1:=by rw [Ze,eu]; rfl
   have tk:=G3 (fun s=>decide (s ∉ op)) ey;exists t,_,rfl,AF.of (sa _ _ ht),rfl,_,_,rfl,_,_,rfl,rfl;exists _,rfl,_,rfl,o,_,rfl,.inr (AF.of (sa _ _ ho)),rfl,Kg _,_,rfl;rw [LO,show (!decide (u.1 ∈ op))=decide (u.1 ∉ op) by simp];refine Ck (fun z=>?_) (fun z=>?_)
   ·rw [if_pos z] at tk;exact ⟨_,rfl,hB _ _ _ AM ⟨_,_,rfl,B7 sa hD,Ab,by unfold Bx; rw [tk,Zi]; rfl⟩⟩
   ·rw [if_neg z,ZY] at tk;exact hN _ _ ⟨_,_,rfl,sa,AM,by unfold Bx; rw [tk]⟩
  rintro OT σ H1 acc fOT ⟨v0,v1,rfl,s1,hOT,rfl⟩;rw [VH,show rs1.length=(rs1.map (·.1)).length by rw [YV],Zu] at hOT;obtain ⟨oth,eoth⟩:∃ l,l=Bx (rs1.map (·.1)) op:=⟨_,rfl⟩
  obtain ⟨ss,ess⟩:∃ l,l=rs1.map (·.1):=⟨_,rfl⟩
  rw [<-eoth] at hOT otl;have eall:Cw ss op=oth.map J1 ++ op.flatMap (Es ss op):=by rw [eoth,ess]; rfl
  have VQ:ss.Nodup:=ess ▸ sn;exists _,rfl,OT,rfl,⟨_,A9.of hOT⟩
  refine N2 Cb (xs:=oth.map V.str) (fun D i σ H'=>∃ (v0:Option V) (kvs:List (List A4 × V)),σ=[v0,some (.ref o)]/\Au H1 H'/\H' D=some (.dT kvs)/\Cu H' op kvs ((oth.take i).map J1))
   (fun D hD=>⟨_,[],rfl,Ad hD,Ab,Cu.nil⟩) (fun D i σ H' hD ⟨v0,kvs,_,sa,_,_⟩=>A9.of (sa _ _ hOT)) ?_ ?_
  ·rintro D i σ H' x' B N hD ex ⟨v0,kvs,rfl,sa,AM,oc⟩ hB hN;obtain ⟨y,ey,rfl⟩:=FP ex;refine IK (B:=N ([v0,some (V.ref o)].set 0 (some (V.str y))) H') ⟨_,rfl,(by show 2<=sizeLine; lia),fun T hT=>?_⟩;have sT:=Ad (o:=.tup [V.str "open",V.str y]) hT;refine ⟨_,rfl,_,rfl,o,op,none,some y,rfl,sT _ _ (sa _ _ (s1 _ _ ho)),by lia,fun H5 t zs s5 ft ht ocz=>?_⟩;have V2:=sa.trans (sT.trans s5);have J0:=s5 _ _ (sT _ _ AM);have Rm:Cu H5 op kvs ((oth.take i).map J1):=oc.keep fun b ys z=>s5 _ _ (sT _ _ z)
   have nw:(J1 y).1 ∉ ((oth.take i).map J1).map (·.1):=by
    refine KS (ss:=ss) (op:=op) (R:=(oth.drop (i + 1)).map J1 ++ op.flatMap (Es ss op)) VQ on ?_;rw [eall];conv=>lhs; rw [FA ey,Zi,Zr,ZR,ah]
   have len:=Rm.len;rw [YV,Z8] at len;refine hB _ _ _ _ ⟨kvs,(J1 y).1.map Sum.inr,T,rfl,s5 _ _ Ab,J0,by lia,_,kvs ++ [((J1 y).1.map Sum.inr,.ref t)],rfl,B7 V2 hD,?_,?_⟩
   ·rw [Rm.new nw];exact Ab
   ·rw [Lk J1 ey];refine (Rm.snoc ht ocz).keep fun b ys z=>?_
    rw [Af (fun e=>by rw [e,J0] at z; cases z)];exact z
  rintro D σ H2 fD ⟨v0,kvs,rfl,s2,hD,oc⟩;rw [YV,Zu] at oc;have YC:H D=none:=s1.free0 fD;have nOD:OT ≠ D:=Ai hOT fD;exists _,rfl,o,rfl,⟨_,AF.of ((s1.trans s2) _ _ ho)⟩
  refine CG (xs:=op.map V.str) (fun i σ H'=>∃ (v4 v5:Option V) (kvs:List (List A4 × V)),σ=[some (.ref c),some (.ref o),some (.ref OT),some (.ref D),v4,v5]/\Au H H'/\H' OT=some (.lst (oth.map V.str))/\H' D=some (.dT kvs)/\Cu H' op kvs (oth.map J1 ++ (op.take i).flatMap (Es ss op)))
   ⟨_,_,kvs,rfl,s1.trans s2,s2 _ _ hOT,hD,by rw [br,dP,ZY]; exact oc⟩ (fun i σ H' _ ⟨_,_,_,_,sa,_⟩=>AF.of (sa _ _ ho)) ?_ ?_
  ·rintro i v σ H' hv ⟨v4,v5,kv,rfl,sa,hO,AM,oc⟩ rt bk NN hN;obtain ⟨h,eh,rfl⟩:=FP hv;have hall:Cw ss op=(oth.map J1 ++ (op.take i).flatMap (Es ss op)) ++ Hu h :: (oth.map (Jo h) ++ (op.drop (i + 1)).flatMap (Es ss op)):=by
    rw [eall,MP _ eh,show Es ss op h=Hu h :: oth.map (Jo h) by unfold Es; rw [eoth,ess]];simp only [ZR,ah]
   obtain ⟨L0,eL0⟩:∃ l,l=oth.map J1 ++ (op.take i).flatMap (Es ss op):=⟨_,rfl⟩
   rw [<-eL0] at oc hall;have lens:L0.length + 1 + oth.length<=63:=by
    have:=congrArg aE hall;rw [ess] at this;rw [Za,Z4,Za,YV] at this;lia
   refine ⟨_,rfl,_,rfl,o,op,some h,none,rfl,sa _ _ ho,by lia,fun H5 t zs s5 ft ht ocz=>?_⟩;refine ⟨_,rfl,_,rfl,(by show 2<=sizeLine; lia),fun T hT=>?_⟩;have sT:=Ad (o:=.tup [V.str "shut",V.str h]) hT;have V2:=sa.trans (s5.trans sT);have J0:=sT _ _ (s5 _ _ AM);have hO5:=sT _ _ (s5 _ _ hO);have Rm:Cu (upd H5 T (.tup [V.str "shut",V.str h])) op kv L0:=oc.keep fun b ys z=>sT _ _ (s5 _ _ z)
   have nw:(Hu h).1 ∉ L0.map (·.1):=KS VQ on hall;have len:=Rm.len;exists D,_,rfl,DO.t (k:=(Hu h).1.map Sum.inr) J0 Ab (by lia);rw [Rm.new nw];have XQ:=(Rm.snoc (e:=Hu h) (sT _ _ ht) ocz).keep (H':=upd (upd H5 T (.tup [V.str "shut",V.str h])) D (.dT (kv ++ [((Hu h).1.map Sum.inr,.ref t)]))) fun b ys z=>by
    rw [Af (fun e=>by rw [e,J0] at z; cases z)];exact z
   have s6:Au H (upd (upd H5 T (.tup [V.str "shut",V.str h])) D (.dT (kv ++ [((Hu h).1.map Sum.inr,.ref t)]))):=B7 V2 YC;have Y5:(upd (upd H5 T (.tup [V.str "shut",V.str h])) D (.dT (kv ++ [((Hu h).1.map Sum.inr,.ref t)]))) D=some (.dT (kv ++ [((Hu h).1.map Sum.inr,.ref t)])):=Ab;have Yz:(upd (upd H5 T (.tup [V.str "shut",V.str h])) D (.dT (kv ++ [((Hu h).1.map Sum.inr,.ref t)]))) OT=some (.lst (oth.map V.str)):=by rw [Af nOD]; exact hO5
   generalize upd (upd H5 T (.tup [V.str "shut",V.str h])) D (.dT (kv ++ [((Hu h).1.map Sum.inr,.ref t)]))=H6 at XQ s6 Y5 Yz;generalize kv ++ [((Hu h).1.map Sum.inr,V.ref t)]=kv6 at XQ Y5;exists _,rfl,OT,rfl,⟨_,A9.of Yz⟩
   refine Kf (xs:=oth.map V.str) (fun j σ H'=>∃ (v5:Option V) (kvs:List (List A4 × V)),σ=[some (.ref c),some (.ref o),some (.ref OT),some (.ref D),some (.str h),v5]/\Au H H'/\H' OT=some (.lst (oth.map V.str))/\H' D=some (.dT kvs)/\Cu H' op kvs (L0 ++ Hu h :: (oth.take j).map (Jo h)))
    ⟨_,kv6,rfl,s6,Yz,Y5,XQ⟩ (fun j σ H' _ ⟨_,_,_,_,hO,_⟩=>A9.of hO) ?_ ?_
   ·rintro j v σ H7 hv ⟨v5,Yf,rfl,s7,Yy,Sh,Xc⟩ VW bk2 NN2 hN2;obtain ⟨y,ey,rfl⟩:=FP hv;refine ⟨_,rfl,_,rfl,_,rfl,o,op,some h,some y,rfl,s7 _ _ ho,by lia,fun H8 t2 Xz s8 ft2 GG XJ=>?_⟩;refine ⟨_,rfl,_,rfl,_,rfl,(by show 3<=sizeLine; lia),fun T2 Qf=>?_⟩;have VT:=Ad (o:=.tup [V.str "swap",V.str h,V.str y]) Qf;have WY:=s7.trans (s8.trans VT);have Sg:=VT _ _ (s8 _ _ Sh);have hO8:=VT _ _ (s8 _ _ Yy);have XO:Cu (upd H8 T2 (.tup [V.str "swap",V.str h,V.str y])) op Yf (L0 ++ Hu h :: (oth.take j).map (Jo h)):=Xc.keep fun b ys z=>VT _ _ (s8 _ _ z)
    have nw2:(Jo h y).1 ∉ (L0 ++ Hu h :: (oth.take j).map (Jo h)).map (·.1):=by
     refine KS (ss:=ss) (op:=op) (R:=(oth.drop (j + 1)).map (Jo h) ++ (op.drop (i + 1)).flatMap (Es ss op)) VQ on ?_;rw [hall];conv=>lhs; rw [FA ey]
     rw [Zi,Zr];simp only [ZR,ah]
    have Ta:=XO.len;rw [Za,Z4,YV,Z8] at Ta;exists D,_,rfl,DO.t (k:=(Jo h y).1.map Sum.inr) Sg Ab (by lia);rw [XO.new nw2];refine hN2 _ _ ⟨_,_,rfl,B7 WY YC,by rw [Af nOD]; exact hO8,Ab,?_⟩;rw [Lk (Jo h) ey,<-ah,<-ZR];refine (XO.snoc (e:=Jo h y) (VT _ _ GG) XJ).keep fun b ys z=>?_
    rw [Af (fun e=>by rw [e,Sg] at z; cases z)];exact z
   ·rintro σ H7 ⟨v5,Yf,rfl,s7,Yy,Sh,Xc⟩;rw [YV,Zu] at Xc;refine hN _ _ ⟨_,_,Yf,rfl,s7,Yy,Sh,?_⟩;rw [OF _ eh,<-ZR,<-eL0];unfold Es;rw [<-ess] at eoth;rw [<-eoth];exact Xc
  rintro σ H3 ⟨v4,v5,kv,rfl,s3,hO3,GH,oc3⟩;rw [YV,Zu,<-eall] at oc3;refine ⟨_,rfl,D,kv,rfl,GH,fun ob ts H4 fz tl tt=>?_⟩;have Qg:H4 D=some (.frz ob (.dT kv)):=by rw [fz.2]; exact Ab
  have s4:∀ b u,b ≠ D->H3 b=some u->H4 b=some u:=fun b u e z=>by rw [fz.2,Af e]; exact z
  have V5:Au H H4:=fun b u z=>s4 _ _ (Ai z YC) (s3 _ _ z)
  have UR:Cu H4 op kv (Cw ss op):=oc3.keep fun b ys z=>s4 _ _ (fun e=>by rw [e,GH] at z; cases z) z
  have kl:=UR.len;have cs:=cx.cw.sites;have nms:∀ s ∈ rs1.map (·.1),B8 s=true:=fun s hs=>by
   obtain ⟨r,Sf,rfl⟩:=Zd.mp hs;exact cx.cw.map.at'.nm _ (cx.cw.ok1.sub r Sf)
  refine N2 NM (fun D2 i σ H'=>∃ (v0:Option V) (kvs:List (List A4 × V)),σ=[v0,some (.ref c),some (.ref D)]/\Au H4 H'/\H' D2=some (.dT kvs)/\Cu H' op kvs (((Cw ss op).take i).filter (Eo x op)))
   (fun D2 Kd=>⟨_,[],rfl,Ad Kd,Ab,Cu.nil⟩) (fun D2 i σ H' Kd ⟨v0,kvs,_,sa,_,_⟩=>sa _ _ Qg) ?_ ?_
  ·rintro D2 i σ H' x' B N Kd ex ⟨v0,kvs,rfl,sa,AM,oc⟩ hB hN;obtain ⟨T,eT,rfl⟩:∃ T,ts[i]? = some T/\x'=.ref T:=by
    rw [Ze] at ex;cases q:ts[i]? with
    | none=>rw [q] at ex; cases ex
    | some y=>rw [q] at ex; exact ⟨y,rfl,(Zo.inj ex).symm⟩
   have hi:i < kv.length:=by rw [<-tl]; exact (YZ.mp eT).1
   have ek:kv[i]? = some kv[i]:=YU hi;obtain ⟨e,ee,ke⟩:=UR.mem_get ek;have hT:=tt i T _ eT ek;rw [ke] at hT;obtain ⟨t,zs,vv,hz,ocz⟩:=UR.val (EH VQ on) ee;have em:=YY ee;have ein:=DI em;have dg:∀ {Ng:Hp},Au H4 Ng->BF Ng D (.ref T) (some (.ref t)):=fun {Ng} s=>.inr ⟨kv,e.1.map Sum.inr,T,.inr ⟨ob,s _ _ Qg⟩,rfl,s _ _ hT,vv.symm⟩
   have ocr:=ocz.nodup on ein;have zsub:=ocz.sub (fun s hs=>ess ▸ os s hs) ein;have zl:zs.length<=10:=by
    have:=List.Nodup.length_le_of_subset ocr zsub;rw [ess] at this;lia
   exists _,rfl,_,rfl,_,rfl,D,.ref t,rfl,dg sa;refine ⟨c,rs1.map (·.1),x,d,.ref t,rfl,(cx.cw.same (V5.trans sa)).sites,cx.ri,nms,.inl ⟨_,Ow.strs (sa _ _ hz) (by lia) (fun s hs=>Z2 (Rn (nms _ (ess ▸ zsub s hs))) (by decide)),fun b H5 s5 hb=>?_⟩⟩
   ·have Fz:b=true ↔ Eo x op e=true:=hb.trans (ocz.isOp cx.ri on os (ess ▸ ein));have tk:=G3 (Eo x op) ee;have VS:=sa.trans s5;exists _,rfl;refine Ck (fun z=>?_) (fun z=>?_)
    ·rw [if_pos (Fz.mp z)] at tk;exists _,rfl,_,rfl,_,rfl,D,.ref t,rfl,dg VS;have Rm:Cu H5 op kvs (((Cw ss op).take i).filter (Eo x op)):=oc.keep fun b ys z=>s5 _ _ z
     have J0:=s5 _ _ AM;have nw:e.1 ∉ (((Cw ss op).take i).filter (Eo x op)).map (·.1):=fun hm=>by
      have:=KS VQ on (FA ee);obtain ⟨e',Gn,q⟩:=Zd.mp hm;exact this (Zd.mpr ⟨e',(Zy.mp Gn).1,q⟩)
     have len:=Rm.len;have lf:(((Cw ss op).take i).filter (Eo x op)).length<=(Cw ss op).length:=Z2 (ab _ _) (by rw [Z8]; exact Nat.min_le_right _ _);rw [<-ess] at e64;refine hB _ _ _ _ ⟨kvs,e.1.map Sum.inr,T,rfl,VS _ _ hT,J0,by lia,_,kvs ++ [(e.1.map Sum.inr,.ref t)],rfl,B7 VS Kd,?_,?_⟩
     ·rw [Rm.new nw];exact Ab
     ·rw [tk];refine (Rm.snoc (VS _ _ hz) ocz).keep fun b ys z=>?_
      rw [Af (fun e=>by rw [e,J0] at z; cases z)];exact z
    ·rw [if_neg (fun w=>z (Fz.mpr w)),ZY] at tk;exact hN _ _ ⟨_,kvs,rfl,VS,s5 _ _ AM,by rw [tk]; exact oc.keep fun b ys z=>s5 _ _ z⟩
  ·rintro D2 σ H' Kd ⟨v0,kvs,rfl,sa,AM,oc⟩;rw [YV,tl,kl,Zu] at oc;exact k _ D2 kvs (V5.trans sa) (V5.free0 Kd) AM (by rw [<-ess]; exact oc)
end
section
variable {P:Program} {w:World} {K:YX} {mg:Str->Option Value} {base:Heap}
theorem Iz (h_sorted:mg "sorted"=none) (h_tuple:mg "tuple"=none)  {f:Addr} {fd:FuncData} (F:EU K "changed" "changed" Fb f fd):AL P w K mg base Ce 1 f fd ["opening","out","more"] JJ:=by
 refine F.ok Ii (fun vs H Q E h=>?_) (fun cdv A outer s H vs Q E hr h=>?_)
 ·obtain ⟨o,op,out,more,rfl,_⟩:=h;rfl
 ·obtain ⟨o,op,out,more,rfl,ho,ol,k⟩:=h;have nd:=Ii.nd;have big:100000 < sizeLine:=by decide
  refine ⟨_,(Ae (Gb (ix:=3) (N:=["house","out"]) nd rfl (Or.inl rfl) rfl CM (CI [none,some 1]) (AZ K rfl (pv 0))
   (fun s2 H C fp=>⟨(Ah (i:=0) (show (["house","out"]:List Str).Nodup by decide +kernel) rfl (Or.inl rfl)),(Ds (BO Uc (pv 0) (pv 1) (BV _))),(pv 0)⟩))
  (Aj (AG (A7 (Bg K rfl) (by rfl) h_tuple PyProof.Rows.boot_tuple (Aa (Al (Gq K rfl) (by rfl) h_sorted PyProof.Rows.boot_sorted (Aa (Ip (E5 (G8 (pv 2))) (pv 3) (Aw KH (pv 3) (Bu (Aa (pv 2) Ac)))) Ac)) Ac))))),?_⟩
  have sc:∀ (h:Str) (q:Option Str),UB (.str h) (oS q)=true:=fun h q=>by cases q <;> rfl
  have nq:∀ (h:Str) (q:Option Str),(!decide (V.str h=oS q))=decide (some h ≠ q):=fun h q=>by cases q <;> simp [oS]
  exists _,rfl,o,rfl,⟨_,AF.of ho⟩
  refine BS BU (xs:=op.map V.str) (fun D i σ H' acc=>∃ v0:Option V,σ=[v0,some (oS out)]/\Au H H'/\H' D=some (.lst acc)/\acc=(AY (op.take i) out).map V.str)
   (by rw [YV]; lia) (fun D hD=>⟨_,rfl,Ad hD,Ab,rfl⟩) (fun D i σ H' acc hD ⟨v0,_,sa,AM,ea⟩=>⟨AF.of (sa _ _ ho),AM,by rw [ea,YV]; exact Z2 (ab _ _) (by rw [Z8]; exact cF _ _)⟩) ?_ ?_
  ·rintro D i σ H' acc x' B N hD ex ⟨v0,rfl,sa,AM,rfl⟩ hB hN;obtain ⟨y,ey,rfl⟩:=FP ex;have tk:=G3 (fun h=>decide (some h ≠ out)) ey;exists _,rfl,_,rfl,sc _ _,_,rfl;rw [nq];refine Ck (fun z=>?_) (fun z=>?_)
   ·rw [if_pos z] at tk;exact ⟨_,rfl,hB _ _ _ AM ⟨_,rfl,B7 sa hD,Ab,by unfold AY; rw [tk,Zi]; rfl⟩⟩
   ·rw [if_neg z,ZY] at tk;exact hN _ _ ⟨_,rfl,sa,AM,by unfold AY; rw [tk]⟩
  ·rintro D σ H' acc hD ⟨v0,rfl,sa,AM,rfl⟩;rw [YV,Zu] at AM;have kl:(AY op out).length<=op.length:=ab _ _;have C4:∀ (H2:Hp) (L:Addr) (ys:List Str),Au H H2->H2 L=some (.lst (ys.map V.str))->ys=AY op out ++ more.toList->∃ (a:Addr) (ss:List Str),[V.ref L]=[.ref a]/\A9 K H2 a (ss.map V.str)/\ss.length < 64/\∀ (l:Addr) (Dg:List Str),H2 l=none->Dg.Perm ss->PyProof.Rows.sortedS Dg=true->∃ (p:Addr) (ys:List V),[V.ref l]=[.ref p]/\((A9 K (upd H2 l (.lst (Dg.map V.str))) p ys/\∀ t,(upd H2 l (.lst (Dg.map V.str))) t=none->Q (.ref t) (upd (upd H2 l (.lst (Dg.map V.str))) t (.tup ys)))\/(AF K (upd H2 l (.lst (Dg.map V.str))) p ys/\Q (.ref p) (upd H2 l (.lst (Dg.map V.str))))):=fun H2 L ys s2 hL ey=>by
    refine ⟨L,ys,rfl,A9.of hL,?_,fun l zs hl pz sz=>⟨l,zs.map V.str,rfl,.inl ⟨A9.of Ab,fun t ht=>?_⟩⟩⟩
    ·rw [ey,Za];have:more.toList.length<=1:=by cases more <;> simp
     lia
    ·have s3:=s2.trans (Ad (o:=.lst (zs.map V.str)) hl);exact k _ t zs (s3.trans (Ad ht)) (s3.free0 ht) Ab ⟨ey ▸ pz,sz⟩
   exists _,rfl,_,rfl;cases more with
   | none=>
    refine Ck (fun _=>⟨_,rfl,?_⟩) (fun z=>by simp [oS] at z);exact C4 _ D _ sa AM (by simp)
   | some s=>
    refine Ck (fun z=>by simp [oS] at z) (fun _=>⟨_,rfl,_,rfl,(by show 1<=sizeLine; lia),fun L1 Y2=>?_⟩);have s2:=Ad (o:=.lst [V.str s]) Y2;refine ⟨D,L1,_,_,rfl,rfl,s2 _ _ AM,Ab,by rw [YV]; show _ + 1<=sizeLine; lia,fun L2 RB=>?_⟩;exact C4 _ L2 (AY op out ++ [s]) ((sa.trans s2).trans (Ad RB)) (by rw [Zi]; exact Ab) rfl
end
section
variable {P:Program} {w:World} {K:YX} {mg:Str->Option Value} {base:Heap}
theorem HE (h_int:mg "int"=none) (h_len:mg "len"=none) (h_sorted:mg "sorted"=none) {f:Addr} {fd:FuncData} (F:EU K "_law_openings" "_law_openings" Cz f fd):AL P w K mg base Ce 1 f fd ["_law_case_here"] QB:=by
 refine F.ok Em (fun vs H Q E h=>?_) (fun cdv A outer s H vs Q E hr h=>?_)
 ·obtain ⟨c,sites,x,d,rfl,_⟩:=h;rfl
 ·obtain ⟨c,sites,x,d,rfl,cs,s6,k⟩:=h;have nd:=Em.nd;have big:100000 < sizeLine:=by decide
  refine ⟨_,(Ae (Aq (i:=1) nd rfl (Or.inl rfl) (Bu (Aa (Bb Ac) Ac)))
  (Ae (Bz PassesOwn.never rfl (AZ K rfl (AA (Bc K rfl) (pv 0) Ag (fun _ _=>rfl))) (BD K rfl rfl (Ar (Ah (i:=2) nd rfl (Or.inr rfl)) (Ar (Ah (i:=3) nd rfl (Or.inl rfl)) BC)))
  (Aj (Aq (i:=1) nd rfl (Or.inl rfl) (Aw KH (pv 1) (Bj (N:=["_law_one","_law_place"]) rfl CM (CI [none,some 2]) (K9 (pv 1))
   (fun s2 H C fp=>⟨(Ah (i:=0) (show (["_law_one","_law_place"]:List Str).Nodup by decide +kernel) rfl (Or.inl rfl)),AV,(Aw (Rl K rfl) (pv 0) (Bb (Aa (pv 1) Ac)))⟩))))))
  (Ae (Aq (i:=4) nd rfl (Or.inr rfl) (AA Oe (Bu (Aa (AA (Bc K rfl) (pv 0) Ag (fun _ _=>rfl)) (Aa (Al Eh (by rfl) h_len PySem.boot_len (Aa (AA (Bc K rfl) (pv 0) Ag (fun _ _=>rfl)) Ac)) Ac))) (A7 CY (by rfl) h_int PyProof.Rows.boot_int (Aa (KA (G8 (AA (Bc K rfl) (pv 0) Ag (fun _ _=>rfl)))) Ac)) (fun _ _=>rfl)))
  (Aj (AG (Al (Fl K rfl) (by rfl) h_sorted PyProof.Rows.boot_sorted (Aa (Bj (N:=["_law_one","_law_most"]) rfl CM (CI [none,some 4]) (K9 (pv 1))
   (fun s2 H C fp=>⟨(Ah (i:=0) (show (["_law_one","_law_most"]:List Str).Nodup by decide +kernel) rfl (Or.inl rfl)),(Ds (Io JS JU Ag (Al (Az K rfl) (by rfl) h_len PySem.boot_len (Aa (pv 0) Ac)) (pv 1))),(pv 0)⟩)) Ac))))))),?_⟩
  obtain ⟨mV,t2V,t1,Fm,rs1,hc,Gz,HR,rfl,snd,sl,lim⟩:=cs;have ul:=BR HR;rw [YV] at sl;refine ⟨(by show 0<=sizeLine; lia),fun T0 hT0=>⟨(by show 1<=sizeLine; lia),fun L0 Y3=>?_⟩⟩;have s0:=(Ad (o:=.tup []) hT0).trans (Ad (o:=.lst [.ref T0]) Y3);exists _,rfl,c,_,_,_,rfl,rfl,AF.of (s0 _ _ hc),rfl,t1,rfl,⟨_,AF.of (s0 _ _ Gz)⟩
  refine LR (xs:=Fm) (fun i σ H'=>∃ (L:Addr) (us:List V) (fs:List (List Str)) (v2 v3 v4:Option V),σ=[some (.ref c),some (.ref L),v2,v3,v4]/\Au H H'/\H' L=some (.lst us)/\B9 H' us fs/\HA ((rs1.map (·.1)).take i) 100 fs/\fs.length<=2 ^ i)
   ⟨L0,[.ref T0],[[]],_,_,_,rfl,s0,Ab,.cons (by rw [Af (by intro z; subst z; rw [Ab] at Y3; cases Y3)]; exact Ab) .nil,HA.nil (by decide),Zb _⟩
   (fun i σ H' _ ⟨_,_,_,_,_,_,_,sa,_⟩=>AF.of (sa _ _ Gz)) ?_ ?_
  ·rintro i xx σ H' ex ⟨L,us,fs,v2,v3,v4,rfl,sa,hL,tU,sub,fl⟩ rt bk;obtain ⟨u,t,eu,rfl,ht⟩:=C2 HR ex;have hi:i < rs1.length:=(YZ.mp eu).1;have f512:fs.length<=512:=Z2 fl (Z2 (bg (by decide) (show i<=9 by lia)) (by decide));have hul:=tU.len;have WG:∀ f ∈ fs,f.length<=10:=fun f hf=>by
    have:=((sub.2 f).mp hf).1.length_le;rw [Z8,YV] at this;lia
   exists t,_,rfl,AF.of (sa _ _ ht),rfl,_,_,rfl,_,_,rfl,rfl;exists _,rfl,_,rfl,L,rfl,⟨_,A9.of hL⟩
   refine BI Cb (xs:=us) (fun D j As H2 acc=>∃ v0:Option V,As=[v0,some (.str u.1)]/\Au H' H2/\H2 D=some (.lst acc)/\B9 H2 acc ((fs.take j).map (· ++ [u.1]))/\acc.length=j)
    (by lia) (fun D hD=>⟨_,rfl,Ad hD,Ab,.nil,rfl⟩) (fun D j As H2 acc hD ⟨v0,_,sb,AM,_,al⟩=>⟨A9.of (sb _ _ hL),AM,al⟩) ?_ ?_
   ·rintro D j As H2 acc x' B hD Um ⟨v0,rfl,sb,AM,tp,al⟩ hB;obtain ⟨tf,f,rfl,ef,htf⟩:=tU.get Um;have fm:=WG f (YY ef);refine ⟨_,rfl,_,rfl,(by show 1<=sizeLine; lia),fun T1 W5=>?_⟩;have q1:=Ad (o:=.tup [.str u.1]) W5;have Yu:(upd H2 T1 (.tup [.str u.1])) T1=some (.tup [.str u.1]):=Ab;refine catA (K:=K) (q1 _ _ (sb _ _ htf)) Yu (by rw [YV]; show f.length + 1<=sizeLine; lia) fun T H5 s5 hT=>?_
    have q5:=q1.trans s5;refine hB _ _ _ (q5 _ _ AM) ⟨_,rfl,fun b o' z=>by rw [Af (Ai z hD)]; exact q5 _ _ (sb _ _ z),Ab,?_,by rw [Za,al]; rfl⟩;rw [Zs,ef,Zi];have hT':H5 T=some (.tup ((f ++ [u.1]).map V.str)):=by rw [hT,Zi]; rfl
    refine ((tp.keep fun b ys z=>q5 _ _ z).app (.cons hT' .nil)).keep fun b ys z=>?_
    rw [Af (Cg z (q5 _ _ AM) (fun q=>by cases q))];exact z
   ·rintro D As H2 acc hD ⟨v0,rfl,sb,AM,tp,al⟩;refine ⟨L,D,us,acc,rfl,rfl,sb _ _ hL,AM,by lia,fun p hp=>?_⟩;have sp:=Ad (o:=.lst (us ++ acc)) hp;rw [hul,Zu] at tp;have e0:(rs1.map (·.1))[i]? = some u.1:=by rw [Ze,eu]; rfl
    have e1:(rs1.map (·.1)).take (i + 1)=(rs1.map (·.1)).take i ++ [u.1]:=by rw [Zs,e0]; rfl
    have nin:u.1 ∉ (rs1.map (·.1)).take i:=by
     have:=snd.sublist (dG (i + 1) _);rw [e1] at this;exact fun z=>(ZJ.mp this).2.2 _ z _ (by simp) rfl
    have ef:(fs.filter fun f=>decide ((f.length:Int) < 100))=fs:=dv.mpr fun f hf=>decide_eq_true (by have:=WG f hf; lia)
    exists p,us ++ acc,fs ++ fs.map (· ++ [u.1]),_,_,_,rfl,(sa.trans sb).trans sp,Ab,((tU.keep fun b ys z=>sb _ _ z).app tp).keep (fun b ys z=>sp _ _ z),?_
    ·rw [e1];have:=HA.step nin sub;rw [ef] at this;exact this
    ·rw [Za,YV,eJ];lia
  ·rintro σ H' ⟨L,us,fs,v2,v3,v4,rfl,sa,hL,tU,sub,fl⟩;rw [ul,bE (by rw [YV]; exact Zb _)] at sub;rw [ul] at fl;have f64:fs.length<=64:=Z2 fl (Z2 (bg (by decide) (by rw [YV] at s6; exact s6)) (by decide));have WH:fs.length<=1024:=Z2 fl (Z2 (bg (by decide) sl) (by decide));have hul:=tU.len;have Ht:=sa _ _ hc;have Yn:=sa _ _ Gz;obtain ⟨mo,hmo,mok⟩:∃ mo:Int,HV [x,V.int (Fm.length:Int)] (if decide (x=.non)=true then 1 else 0)=some (.int mo)/\∀ f ∈ fs,((f.length:Int)<=mo ↔ Ea x f.length=true):=by
    rcases lim with ⟨rfl,_⟩ | ⟨i,rfl,_,i1,i2⟩
    ·refine ⟨Fm.length,rfl,fun f hf=>⟨fun _=>rfl,fun _=>?_⟩⟩;have:=((sub.2 f).mp hf).1.length_le;rw [YV] at this;lia
    ·exact ⟨i,rfl,fun f hf=>⟨fun h=>decide_eq_true h,fun h=>of_decide_eq_true h⟩⟩
   refine ⟨_,rfl,c,_,_,_,rfl,rfl,AF.of Ht,rfl,_,rfl,c,_,_,_,rfl,rfl,AF.of Ht,rfl,t1,_,rfl,.inr (AF.of Yn),(by show 2<=sizeLine; lia),fun M hM=>?_⟩;have sM:=Ad (o:=.lst [x,.int (Fm.length:Int)]) hM;have hMM:(upd H' M (.lst [x,.int (Fm.length:Int)])) M=some (.lst [x,.int (Fm.length:Int)]):=Ab;generalize upd H' M (.lst [x,.int (Fm.length:Int)])=H1 at sM hMM ⊢;refine ⟨_,rfl,c,_,_,_,rfl,rfl,AF.of (sM _ _ Ht),rfl,.inr ⟨_,rfl,M,_,_,_,rfl,rfl,A9.of hMM,hmo,?_⟩⟩;exists _,rfl,L,rfl,⟨_,A9.of (sM _ _ hL)⟩
   refine BS Cb (xs:=us) (fun D i As H2 acc=>∃ v0:Option V,As=[v0,some (.int mo)]/\Au H1 H2/\H2 D=some (.lst acc)/\B9 H2 acc ((fs.take i).filter fun f=>decide (0 < f.length) && Ea x f.length)/\acc.length<=i)
    (by lia) (fun D hD=>⟨_,rfl,Ad hD,Ab,.nil,Zb _⟩) (fun D i As H2 acc hD ⟨v0,_,sb,AM,_,al⟩=>⟨A9.of (sb _ _ (sM _ _ hL)),AM,al⟩) ?_ ?_
   ·rintro D i As H2 acc x' B N hD ex ⟨v0,rfl,sb,AM,tp,al⟩ hB hN;obtain ⟨tf,f,rfl,ef,htf⟩:=tU.get ex;have Wm:=sb _ _ (sM _ _ htf);have mk:=mok f (YY ef);have yes:(decide (0 < f.length) && Ea x f.length)=true->B [some (.ref tf),some (.int mo)] (.ref tf) H2:=fun z=>by
     refine hB _ _ _ AM ⟨_,rfl,fun b o' z=>by rw [Af (Ai z hD)]; exact sb _ _ z,Ab,?_,by rw [Za]; simp; lia⟩;rw [Zs,ef,aL];simp only [dX,aF,z,if_true,dY];refine (tp.app (.cons Wm .nil)).keep fun b ys z=>?_
     rw [Af (Cg z AM (fun q=>by cases q))];exact z
    have no:(decide (0 < f.length) && Ea x f.length)=false->N [some (.ref tf),some (.int mo)] H2:=fun z=>by
     refine hN _ _ ⟨_,rfl,sb,AM,?_,by lia⟩;rw [Zs,ef,aL];simp only [dX,aF,z,Z1,if_false,dY,ZY];exact tp
    exists _,rfl,tf,_,rfl,.inr (AF.of Wm),_,_,rfl,rfl,_,rfl;rw [YV];refine Ck (fun z1=>?_) (fun z1=>?_)
    ·have WQ:0 < f.length:=by have:=of_decide_eq_true z1; lia
     exists _,rfl,_,_,rfl,rfl,_,rfl;refine Ck (fun z=>?_) (fun z=>?_)
     ·exact ⟨_,rfl,yes (by rw [decide_eq_true WQ,mk.mp (of_decide_eq_true z)]; rfl)⟩
     ·refine no ?_;rw [decide_eq_true WQ,Bool.true_and];cases hb:Ea x f.length with
      | false=>rfl
      | true=>exact absurd (decide_eq_true (mk.mpr hb)) z
    ·have z0:¬ ((0:Int) < f.length):=by simpa using z1
     have WQ:¬ 0 < f.length:=by lia
     exists _,rfl;refine F8 ?_;exact no (by rw [decide_eq_false WQ]; rfl)
   ·rintro D As H2 acc hD ⟨v0,rfl,sb,AM,tp,al⟩;rw [hul,Zu] at tp;refine ⟨D,acc,fun _=>true,rfl,A9.of AM,tp.kinds (fun f hf=>?_),?_,fun l Kv hl pm=>?_⟩
    ·have:=(Zy.mp hf).2;simp only [ZI,decide_eq_true_eq] at this;intro z;rw [z] at this;simp at this
    ·have e1:=tp.len;have e2:=(List.length_filter_lt_length_iff_exists (p:=fun f:List Str=>decide (0 < f.length) && Ea x f.length) (l:=fs)).mpr ⟨[],(sub.2 []).mpr ⟨bC _,by decide⟩,by simp⟩;lia
    ·obtain ⟨os,po,to⟩:=B9.perm pm tp;have WW:=Ad (o:=.lst Kv) hl;refine k _ l Kv os (((sa.trans sM).trans sb).trans WW) ?_ Ab (to.keep fun b ys z=>WW _ _ z) ⟨po.nodup_iff.mpr (sub.1.sublist ar),?_,fun ss=>?_⟩ (by rw [po.length_eq]; exact Z2 (ab _ _) WH)
     ·exact ((sa.trans sM).trans sb).free hl
     ·trivial
     ·rw [po.mem_iff,Zy,sub.2,ZI,decide_eq_true_eq];constructor
      ·rintro ⟨⟨h1,_⟩,h2,h3⟩;exact ⟨by intro z; rw [z] at h2; simp at h2,h1,h3⟩
      ·rintro ⟨h1,h2,h3⟩;refine ⟨⟨h2,?_⟩,ZV.mpr h1,h3⟩;have:=h2.length_le;rw [YV] at this;lia
end
section
variable {P:Program} {w:World} {K:YX} {mg:Str->Option Value} {base:Heap}
theorem KL (h_min:mg "min"=none) (h_sum:mg "sum"=none) {f:Addr} {fd:FuncData} (F:EU K "_law_costs" "_law_costs" Dq f fd):AL P w K mg base Ce 1 f fd ["_law_case_here","_law_lengths_here","_law_opening"] Nv:=by
 refine F.ok FY (fun vs H Q E h=>?_) (fun cdv A outer s H vs Q E hr h=>?_)
 ·obtain ⟨c,m,A0,o,n,xs,ws,rs1,Av,x,d,ss,rfl,_⟩:=h;rfl
 ·obtain ⟨c,m,A0,o,n,xs,ws,rs1,Av,x,d,ss,rfl,cw,kn,ho,Xb,V3,k⟩:=h;have nd:=FY.nd;have hu:=En hr;have big:100000 < sizeLine:=by decide
  refine ⟨_,(Ae (Aq (i:=3) nd rfl (Or.inl rfl) (Al (D6 rfl) (by rfl) h_sum PyProof.Rows.boot_sum (Aa (Bj (N:=["_law_place","_law_amount","_law_opening"]) rfl CM (CI [none,none,some 2]) (AZ K rfl (AA (Bc K rfl) (pv 0) Ag (fun _ _=>rfl)))
   (fun s2 H C fp=>⟨(BD K rfl (n:=2) rfl (Ar (Ah (i:=0) (show (["_law_place","_law_amount","_law_opening"]:List Str).Nodup by decide +kernel) rfl (Or.inl rfl)) (Ar (Ah (i:=1) (show (["_law_place","_law_amount","_law_opening"]:List Str).Nodup by decide +kernel) rfl (Or.inl rfl)) BC))),(Ds (BO (UO K rfl) (pv 0) (pv 2) (by rfl))),(pv 1)⟩)) Ac)))
  (Ae (Bz PassesOwn.never rfl (AZ K rfl (AA (Bc K rfl) (pv 0) Ag (fun _ _=>rfl))) (BD K rfl rfl (Ar (Ah (i:=4) nd rfl (Or.inr rfl)) (Ar (Ah (i:=5) nd rfl (Or.inl rfl)) BC)))
  (Aj (Aq (i:=3) nd rfl (Or.inl rfl) (Aw Br (pv 3) (Aw NO (pv 5) (Al (D7 rfl) (by rfl) h_min PyProof.Rows.boot_min (Aa (Bj (N:=["_law_house","_law_lengths_here","_law_place"]) rfl CM (CI [none,some 1,some 4]) (AZ K rfl (pv 2))
   (fun s2 H C fp=>⟨(Ah (i:=0) (show (["_law_house","_law_lengths_here","_law_place"]:List Str).Nodup by decide +kernel) rfl (Or.inl rfl)),AV,(AH hu (pv 1) (Bb (Aa (pv 2) (Aa (pv 0) Ac))) (fun _ _=>rfl))⟩)) Ac)))))))
  (Aj (AG (pv 3))))),?_⟩
  obtain ⟨t1,t2,Fm,Js,hc,Gz,HR,GG,hd2⟩:=cw.ex;have VH:=BR HR;have ul2:=BR hd2;have l1:=cw.l1;have l2:=cw.l2;have ssx:∀ s ∈ ss,s ∈ xs:=fun s hs=>by
   obtain ⟨r,hr,e⟩:=Zd.mp (Xb.2.2 s hs);have e':r.1=s:=e;rw [<-e'];exact cw.ok1.sub r hr
  exists _,rfl,c,_,_,_,rfl,rfl,AF.of hc,rfl,t1,rfl,⟨_,AF.of Gz⟩
  refine BS BU (xs:=Fm) (fun D i σ H' acc=>∃ v0 v1:Option V,σ=[v0,v1,some (.ref o)]/\Au H H'/\H' D=some (.lst acc)/\acc=(((rs1.take i).filter fun r=>decide (r.1 ∈ ss)).map (·.2)).map V.int/\acc.length<=i)
   (by lia) (fun D hD=>⟨_,_,rfl,Ad hD,Ab,rfl,Zb _⟩)
   (fun D i σ H' acc hD ⟨v0,v1,_,sa,AM,_,al⟩=>⟨AF.of (sa _ _ Gz),AM,al⟩) ?_ ?_
  ·rintro D i σ H' acc x' B N hD ex ⟨v0,v1,rfl,sa,AM,ea,al⟩ hB hN;obtain ⟨u,t,eu,rfl,ht⟩:=C2 HR ex;exists t,_,rfl,AF.of (sa _ _ ht),rfl,_,_,rfl,_,_,rfl,rfl;exists _,rfl,_,rfl,o,_,rfl,.inr (AF.of (sa _ _ ho)),rfl,Kg ss,_,rfl;rw [LO];refine Ck (fun hz=>?_) (fun hz=>?_)
   ·have Qd:u.1 ∈ ss:=by simpa using hz
    exists _,rfl;refine hB _ _ _ AM ⟨_,_,rfl,fun b o' z=>by rw [Af (Ai z hD)]; exact sa _ _ z,Ab,?_,by rw [Za]; simp; lia⟩;rw [ea,Zs,eu,aL,Zi,Zi];simp [Qd]
   ·have Qd:¬ u.1 ∈ ss:=by simpa using hz
    refine hN _ _ ⟨_,_,rfl,sa,AM,?_,by lia⟩;rw [ea,Zs,eu,aL,Zi,Zi];simp [Qd]
  rintro D σ H1 acc hD ⟨v0,v1,rfl,s1,AM,ea,al⟩;rw [VH,Zu] at ea;exists D,_,rfl,A9.of (by rw [AM,ea]);rw [OG cw.ok1.nd Xb.2.1 Xb.2.2];refine ⟨_,rfl,c,_,_,_,rfl,rfl,AF.of (s1 _ _ hc),rfl,t2,rfl,⟨_,AF.of (s1 _ _ GG)⟩,CG (xs:=Js) (fun i σ H'=>∃ (v4 v5:Option V) (ds:List Int),σ=[some (.ref c),some (.ref A0),some (.ref o),some (.int ((ss.map (AO rs1)).sum + DZ (Av.take i) ds)),v4,v5]/\Au H H'/\ds.length=i/\∀ (j:Nat) r d,Av[j]? = some r->ds[j]? = some d->Md ws ss r.1 d)
   ⟨_,_,[],by have e:DZ (Av.take 0) []=0:=(by rw [br]; rfl); rw [e,ak]; rfl,s1,rfl,fun j r d _ e=>(by cases e)⟩ (fun i σ H' _ ⟨_,_,_,_,sa,_⟩=>AF.of (sa _ _ GG)) (fun i v σ H' hv hP rt bk N hN=>?_) (fun σ H' hP=>?_)⟩
  ·obtain ⟨v4,v5,ds,rfl,sa,dl,md⟩:=hP;obtain ⟨r,tt,er,rfl,htt⟩:=C2 hd2 hv;have rm:=YY er;have rx:=cw.ok2.sub r rm;have r4:=(cw.ok2.lo r rm).2;have r1:=(cw.ok2.lo r rm).1;exists tt,_,rfl,AF.of (sa _ _ htt),rfl,_,_,rfl,_,_,rfl,rfl;exists _,rfl,_,rfl,_,rfl,o,rfl,⟨_,AF.of (sa _ _ ho)⟩
   refine BI BU (xs:=ss.map V.str) (fun D i As H2 acc=>∃ v0:Option V,As=[v0,some (.ref A0),some (.str r.1)]/\Au H' H2/\H2 D=some (.lst acc)/\acc=((ss.take i).map fun s=>dst ws s r.1).map V.int/\acc.length=i)
    (by rw [YV]; lia) (fun D hD=>⟨_,rfl,Ad hD,Ab,rfl,rfl⟩) (fun D i As H2 acc hD ⟨v0,_,sb,AM,_,al⟩=>⟨AF.of (sb _ _ (sa _ _ ho)),AM,al⟩) ?_ ?_
   ·rintro D j As H2 acc x' B hD Um ⟨v0,rfl,sb,AM,ea,al⟩ hB;obtain ⟨s,es,rfl⟩:∃ s,ss[j]? = some s/\x'=.str s:=by
     rw [Ze] at Um;cases z:ss[j]? with
     | none=>rw [z] at Um; cases Um
     | some s=>rw [z] at Um; exact ⟨s,rfl,(Zo.inj Um).symm⟩
    refine ⟨_,rfl,_,rfl,_,rfl,(by show 2<=sizeLine; lia),fun T hT=>?_⟩;have q2:=Ad (o:=.tup [.str r.1,.str s]) hT;have MM:(upd H2 T (.tup [.str r.1,.str s])) T=some (.tup [.str r.1,.str s]):=Ab;generalize upd H2 T (.tup [.str r.1,.str s])=H3 at q2 MM ⊢;obtain ⟨g2,_,_⟩:=(((kn.same sa).same sb).same q2).get rx (ssx s (YY es)) MM;exists A0,_,rfl,g2;refine hB _ _ _ (q2 _ _ AM) ⟨_,rfl,fun b o e=>by rw [Af (Ai e hD)]; exact q2 _ _ (sb _ _ e),Ab,?_,by rw [Za,al]; rfl⟩;rw [ea,Zs,es,Zi,Zi];rfl
   ·rintro D As H2 acc hD ⟨v0,rfl,sb,AM,ea,al⟩;rw [YV,Zu] at ea;refine ⟨D,ss.map fun s=>dst ws s r.1,rfl,by rw [AM,ea],by rw [Ne,dy]; exact Xb.1,fun mn hm hle=>?_⟩;obtain ⟨s,hs,es⟩:=Zd.mp hm;have kd:=kn.dst (ssx s hs) rx;have kb:=cw.map.bound cw.n1 cw.n30 (ssx s hs) rx kd;rw [es] at kb;exists _,_,rfl,rfl,⟨⟨bx (by decide +kernel) r1,cV r4 (by decide +kernel)⟩,bx (by decide +kernel) kb.1,kb.2⟩,_,_,rfl,rfl;refine hN _ _ ⟨some (.str r.1),some (.int r.2),ds ++ [mn],?_,sa.trans sb,by rw [Za,dl]; rfl,fun j r' d' e1 e2=>?_⟩
    ·rw [LF er dl,<-bA];rfl
    ·by_cases ej:j < ds.length
     ·rw [Zz ej] at e2;exact md j r' d' e1 e2
     ·rw [Zx (by lia)] at e2;have hj:j=i:=by
       have:=(YZ.mp e2).1;simp at this;lia
      subst hj;rw [er] at e1;cases e1
      rw [dl,af] at e2;cases e2
      refine ⟨⟨s,hs,by rw [<-es]; exact kd.1⟩,fun s' Kc m' g=>?_⟩;have a1:=hle _ (Zd.mpr ⟨s',Kc,rfl⟩);have a2:=(kn.dst (ssx s' Kc) rx).2 m' g;exact bp a1 a2
  ·obtain ⟨v4,v5,ds,rfl,sa,dl,md⟩:=hP;rw [ul2,Zu];exact ⟨_,rfl,k H' _ sa ⟨ds,⟨by lia,md⟩,rfl⟩⟩
end
section
variable {P:Program} {w:World} {K:YX} {mg:Str->Option Value} {base:Heap}
theorem Iv {f:Addr} {fd:FuncData} (F:EU K "neighbours" "neighbours" CO f fd):AL P w K mg base Ce 1 f fd ["web"] (Q5 K):=by
 refine F.ok Fq (fun vs H Q E h=>?_) (fun cdv A outer s H vs Q E hr h=>?_)
 ·obtain ⟨q,ps,ws,r,rfl,_⟩:=h;rfl
 ·obtain ⟨q,ps,ws,r,rfl,ok,k⟩:=h;obtain ⟨tp,tw,us,hq,htp,htw,hD⟩:=ok.web.ex;have nd:=Fq.nd;have hu:=En hr;have big:1000 < sizeLine:=by decide
  have l30:=ok.l30;have l64:=ok.l64;refine ⟨_,Ae (E6 (pv 0) (BD K rfl rfl (Ar (Ah (i:=1) nd rfl (Or.inl rfl)) (Ar (Ah (i:=2) nd rfl (Or.inl rfl)) BC))))
   (Ae (QV (ix:=3) (N:=["place"]) (σ0:=fun _=>[none]) nd rfl (Or.inl rfl) rfl (BN.plain (by decide +kernel) (by decide +kernel) rfl (by decide +kernel)) (fun σ _=>Cp.none _ _ _ ["place"] σ) (AZ K rfl (pv 1))
    (fun s2 H C fp=>⟨Ah (i:=0) (show (["place"]:List Str).Nodup by decide +kernel) rfl (Or.inl rfl),AV,pv 0,L7⟩))
   (Ae (Bz PassesOwn.never rfl (AZ K rfl (pv 2)) (BD K rfl rfl (Ar (Ah (i:=4) nd rfl (Or.inl rfl)) (Ar (Ah (i:=5) nd rfl (Or.inl rfl)) (Ar (Ah (i:=6) nd rfl (Or.inl rfl)) BC))))
    (Ae (Ca hu (AH hu (pv 3) (pv 4) (fun _ _=>rfl)) (pv 5) (pv 6) rfl) (Aj (Ca hu (AH hu (pv 3) (pv 5) (fun _ _=>rfl)) (pv 4) (pv 6) rfl))))
   (Aj (AG (pv 3))))),?_⟩
  exists _,rfl,q,_,rfl,AF.of hq,rfl,_,_,rfl,_,_,rfl,rfl;refine ⟨_,rfl,tp,rfl,⟨_,AF.of htp⟩,fun C hC=>⟨fun i m As H'=>m=ps.length - i/\i<=ps.length/\(∃ v,As=[v])/\∃ ds:List Addr,Au H H'/\ds.length=i/\ds.Nodup/\C ∉ ds/\(∀ d ∈ ds,H d=none/\H' d=some (.dK []))/\H' C=some (.dK (sK (NW (ps.take i) ds))),
   ⟨_,rfl,Z7 _,⟨_,rfl⟩,[],Ad hC,rfl,.nil,by simp,by simp,Ab⟩,?_⟩⟩
  rintro i m As H' ⟨rfl,hi,⟨v,rfl⟩,ds,s1,dl,dn,dC,dH,Om⟩;have MI:=s1 _ _ htp;by_cases Bv:i < ps.length
  ·refine .inr ⟨⟨_,V.str ps[i],AF.of MI,by rw [Ze,YU Bv]; rfl⟩,?_⟩;rintro x H6 ⟨rfl,hx⟩;have La:=hx _ (AF.of MI);rw [Ze,YU Bv] at La;cases La
   have tl:(ps.take i).length=i:=by rw [Z8]; lia
   have np:ps[i] ∉ (NW (ps.take i) ds).map (·.1):=by
    rw [IA (by lia)];intro hm;obtain ⟨j,hj,e⟩:=Zm hm;rw [aU] at e;have:=Hn ok.nd (YU (show j < ps.length by lia)) (by rw [YU Bv,e]);lia
   refine ⟨_,rfl,fun d hd=>⟨_,Sum.inr ps[i],rfl,Ad hd _ _ Om,?_,_,by lia,rfl,Bv,⟨_,rfl⟩,ds ++ [d],fun b o z=>?_,by simp [dl],?_,?_,fun c hc=>?_,?_⟩⟩
   ·rw [CL];unfold NW;rw [YV,cD];lia
   ·rw [Af (Ai z hC)];exact Ad hd _ _ (s1 _ _ z)
   ·refine ZJ.mpr ⟨dn,Z3.mpr ⟨by simp,.nil⟩,fun a ha b hb=>?_⟩;have e:b=d:=by simpa using hb
    subst e;rintro rfl;rw [(dH _ ha).2] at hd;cases hd
   ·rw [Zp,not_or];refine ⟨dC,fun hm=>?_⟩;have e:C=d:=by simpa using hm
    rw [<-e,Om] at hd;cases hd
   ·rcases Zp.mp hc with hc | hc
    ·exists (dH c hc).1;rw [Af (fun z=>dC (by rw [<-z]; exact hc))];exact Ad hd _ _ (dH c hc).2
    ·have e:c=d:=by simpa using hc
     subst e;exists s1.free hd;rw [Af (fun z=>by rw [z,Om] at hd; cases hd)];exact Ab
   ·rw [Ab,Dw np];have e1:ps.take (i + 1)=ps.take i ++ [ps[i]]:=by rw [Zs,YU Bv]; rfl
    have e2:NW (ps.take (i + 1)) (ds ++ [d])=NW (ps.take i) ds ++ [(ps[i],.ref d)]:=by
     unfold NW;rw [e1,dW (by lia),Zi];rfl
    rw [e2]
  ·have e0:i=ps.length:=by lia
   subst e0;rw [Zu] at Om;refine .inl ⟨⟨_,AF.of MI,by rw [YV]; exact Zb _⟩,?_⟩;have NB0:NB H' C ps ds (Ld (ws.take 0)) 0:=⟨Om,dl,dn,dC,fun j p d e1 e2=>⟨[],(dH d (YY e2)).2,Zb _,fun y=>⟨fun z=>absurd z ZE,fun ⟨u,hu,_⟩=>absurd hu ZE⟩⟩⟩
   have YT:Si H' ps ds (BY (ws.take 0)):=fun j p d nv e1 e2 hr y v hy=>by
    have:nv=[]:=Rd.inj hr (.inl (dH d (YY e2)).2);subst this;cases hy
   have hwl:us.length=ws.length:=by rw [Jc hD,YV]
   refine ⟨_,rfl,tw,rfl,⟨_,AF.of (s1 _ _ htw)⟩,LR (xs:=us) (fun i σ H2=>(∃ v4 v5 v6,σ=[some (.ref q),some (.ref tp),some (.ref tw),some (.ref C),v4,v5,v6])/\Au H H2/\NB H2 C ps ds (Ld (ws.take i)) (2 * i)/\Si H2 ps ds (BY (ws.take i))) ⟨⟨_,_,_,rfl⟩,s1,NB0,YT⟩ (fun i σ H2 _ hP=>AF.of (hP.2.1 _ _ htw)) (fun i x σ H2 hx hP rt bk=>?_) (fun σ H2 hP=>?_)⟩
   ·obtain ⟨⟨v4,v5,v6,rfl⟩,s2,nb,nbv⟩:=hP;obtain ⟨u,t,gu,rfl,ht⟩:=Jb hD hx;have Vg:i < ws.length:=(YZ.mp gu).1;have hu2:=ok.ends u (YY gu);exists t,_,rfl,AF.of (s2 _ _ ht),rfl,_,_,rfl,_,_,rfl,_,_,rfl,rfl;obtain ⟨j,d,nv,a1,a2,a3,a4,a5,a6⟩:=nb.get ok.nd hu2.1;obtain ⟨DF,b1,b2,b3⟩:=My nv u.2.1 (.int u.2.2);have dH1:∀ c ∈ ds,H c=none:=fun c hc=>(dH c hc).1
    exists _,rfl,_,rfl,_,rfl,C,_,rfl,?_,_,rfl,d,_,rfl,DO.k (k:=Sum.inr u.2.1) a4 (by rw [CL]; lia)
    ·have:=BF.k (k:=Sum.inr u.1) nb.top;rw [a3] at this;exact this
    rw [b1];have Ue:=nb.put ok.nd a1 a2 a4 b2 b3 a6 a5;have Wd:=nbv.put ok.nd nb.nd a1 a2 a4 b1 (fun _ _ _=>PN) (LX gu);have s3:Au H (upd H2 d (.dK (sK DF))):=fun b o z=>by
     rw [Af (Ai z (dH1 d (YY a2)))];exact s2 _ _ z
    generalize upd H2 d (.dK (sK DF))=H3 at Ue Wd s3 ⊢;obtain ⟨j',d',mv,c1,c2,c3,c4,c5,c6⟩:=Ue.get ok.nd hu2.2;obtain ⟨mv',e1,e2,e3⟩:=My mv u.1 (.int u.2.2);exists _,rfl,_,rfl,_,rfl,C,_,rfl,?_,_,rfl,d',_,rfl,DO.k (k:=Sum.inr u.1) c4 (by rw [CL]; lia)
    ·have:=BF.k (k:=Sum.inr u.2.1) Ue.top;rw [c3] at this;exact this
    rw [e1];have nb3:=Ue.put ok.nd c1 c2 c4 e2 e3 c6 c5;have Ya:=Wd.put (Ed':=BY (ws.take (i + 1))) ok.nd Ue.nd c1 c2 c4 e1 (fun _ _ _ h=>h) (LX gu).symm;refine ⟨⟨_,_,_,rfl⟩,fun b o z=>?_,nb3.mono (fun a b=>(RR gu a b).symm) (by lia),Ya⟩;rw [Af (Ai z (dH1 d' (YY c2)))];exact s3 _ _ z
   ·obtain ⟨⟨v4,v5,v6,rfl⟩,s2,nb,nbv⟩:=hP;rw [hwl,Zu] at nb nbv;exact ⟨_,rfl,k H2 C ds s2 (nb.mono (fun _ _=>Iff.rfl) (by lia)) nbv hC fun d hd=>(dH d hd).1⟩
end
section
variable {P:Program} {w:World} {K:YX} {mg:Str->Option Value} {base:Heap}
structure NbF (K:YX) (mg:Str->Option Value) (f:Addr) (fd:FuncData):Prop where
 F:EU K "neighbours" "neighbours" CO f fd
 mg:mg "neighbours"=some (.ref f)
 b:HB K fd ["web"] []
theorem M7 {f fN:Addr} {fd fdN:FuncData} (NK:NbF K mg fN fdN) (hmi:mg "min"=none) (F:EU K "nearest" "nearest" EY f fd):AL P w K mg base Ce 2 f fd ["web","starts"] (Q4 K):=by
 have GN:AL P w K mg base Ce 1 fN fdN ["web"] (Q5 K):=Iv NK.F;refine F.ok Ih (fun vs H Q E h=>?_) (fun cdv A outer s H vs Q E hr h=>?_)
 ·obtain ⟨q,st,ps,ss,ws,r,rfl,_⟩:=h;rfl
 ·obtain ⟨q,st,ps,ss,ws,r,rfl,ok,pos,uniq,hst,ssne,ssn,sssub,k⟩:=h;have nd:=Ih.nd;have hu:=En hr;have LP:=hr.units;have big:1000 < sizeLine:=by decide
  have l30:=ok.l30;have ssl:ss.length<=30:=by
   have:=Co ssn sssub;lia
  refine ⟨_,Ae (Aq (i:=2) nd rfl (Or.inl rfl) (Ak GN hr (by rfl) NK.mg NK.F.kp NK.b .nil Ax (Aa (pv 0) Ac)))
   (Ae (Aq (i:=3) nd rfl (Or.inr rfl) (Ir (N:=["start"]) (σ0:=fun _=>[none]) rfl (BN.plain (by decide +kernel) (by decide +kernel) rfl (by decide +kernel)) (fun σ _=>Cp.none _ _ _ ["start"] σ) (PI.or (Bq K rfl (pv 1)) (AZ K rfl (pv 1)))
    (fun s2 H C fp=>⟨Ah (i:=0) (show (["start"]:List Str).Nodup by decide +kernel) rfl (Or.inl rfl),AV,pv 0,Bb (Aa Ag (Aa (pv 0) Ac))⟩)))
   (Ae (Aq (i:=4) nd rfl (Or.inl rfl) L7)
   (Ae (L5 PassesOwn.never (L4 (pv 3) (fun _=>rfl))
    (Ae (E6 (SE (Al (Jg rfl LP) (by rfl) hmi PyProof.Rows.boot_min (Aa
      (Bj (N:=["name","reached"]) rfl
       CM
       (CI [none,some 3]) (NJ (pv 3))
       (fun s2 H C fp=>⟨Ah (i:=0) (show (["name","reached"]:List Str).Nodup by decide +kernel) rfl (Or.inl rfl),AV,Bb (Aa (AH hu (pv 1) (pv 0) (fun _ _=>rfl)) (Aa (pv 0) Ac))⟩)) Ac)))
      (BD K rfl rfl (Ar (BD K rfl rfl (Ar (Ah (i:=5) nd rfl (Or.inl rfl)) (Ar (Ah (i:=6) nd rfl (Or.inl rfl)) BC))) (Ar (Ah (i:=7) nd rfl (Or.inl rfl)) BC))))
    (Ae (SD (pv 3) (pv 7))
    (Ae (Ca hu (pv 4) (pv 7) (Bb (Aa (pv 5) (Aa (pv 6) Ac))) rfl)
    (Aj (Bz PassesOwn.never rfl (NJ (AH hu (pv 2) (pv 7) (fun _ _=>rfl))) (Ah (i:=8) nd rfl (Or.inl rfl))
     (Aj (Dt (E5 (JR hu (pv 8) (pv 4)))
      (Ae (Aq (i:=9) nd rfl (Or.inl rfl) (Bb (Aa (Aw Br (pv 5) (AH hu (AH hu (pv 2) (pv 7) (fun _ _=>rfl)) (pv 8) (fun _ _=>rfl))) (Aa (pv 6) Ac))))
      (Aj (Ca hu (pv 3) (pv 8) (Al (J5 rfl LP) (by rfl) hmi PyProof.Rows.boot_min (Aa (pv 9) (Aa (Rb hu (pv 3) (pv 8) (pv 9) ⟨rfl,rfl,rfl,rfl⟩) Ac))) rfl))) BP))))))))
   (Aj (AG (pv 4)))))),?_⟩
  refine ⟨_,rfl,q,ps,ws,r,rfl,ok,fun H1 B ds s1 nb nbv hB hds=>?_⟩;have nbAt:∀ a,a ∈ ds->∃ u,H1 a=some u:=fun a hm=>by
   obtain ⟨i,hi,e⟩:=Zm hm;have Vg:i < ps.length:=by rw [<-nb.len]; exact hi
   obtain ⟨nv,a1,_⟩:=nb.inner i ps[i] a (YU Vg) (by rw [YU hi,e]);exact ⟨_,a1⟩
  have VA:=nb.top;rcases hst with hst | hst
  case' inl=>
   refine .inl ⟨_,rfl,st,rfl,⟨_,A9.of (s1 _ _ hst)⟩,fun RA hRA=>?_⟩
  case' inr=>
   refine .inr ⟨_,rfl,st,rfl,⟨_,AF.of (s1 _ _ hst)⟩,fun RA hRA=>?_⟩
  all_goals
   refine ⟨fun i m As H'=>m=ss.length - i/\i<=ss.length/\(∃ v,As=[v])/\∃ nv:List (Str × V),Au H1 H'/\H' RA=some (.dK (sK nv))/\nv.map (·.1)=ss.take i/\∀ y v,(y,v) ∈ nv->Ks H' v (0,y),
    ⟨_,rfl,Z7 _,⟨_,rfl⟩,[],Ad hRA,Ab,rfl,fun y v hy=>absurd hy ZE⟩,?_⟩
   rintro i m As H' ⟨rfl,hi,⟨v,rfl⟩,nv,s2,Om,nk,np⟩;have MJ:=s2 _ _ (s1 _ _ hst);by_cases Bv:i < ss.length
   ·refine .inr ⟨⟨_,V.str ss[i],by first | exact A9.of MJ | exact AF.of MJ,by rw [Ze,YU Bv]; rfl⟩,?_⟩;rintro x H6 ⟨rfl,hx⟩;have La:=hx _ (by first | exact A9.of MJ | exact AF.of MJ);rw [Ze,YU Bv] at La;cases La
    have nn:ss[i] ∉ nv.map (·.1):=by
     rw [nk];intro hm;obtain ⟨j,hj,e⟩:=Zm hm;rw [Z8] at hj;rw [aU] at e;have:=Hn ssn (YU (show j < ss.length by lia)) (by rw [YU Bv,e]);lia
    have nl:nv.length=i:=by
     have:=congrArg aE nk;rw [YV,Z8] at this;lia
    refine ⟨_,rfl,_,rfl,(by show 2<=sizeLine; lia),fun t ht=>⟨_,Sum.inr ss[i],rfl,Ad ht _ _ Om,by rw [CL]; lia,_,by lia,rfl,Bv,⟨_,rfl⟩,nv ++ [(ss[i],.ref t)],fun b o z=>?_,by rw [Ab,Dw nn],?_,fun y v hy=>?_⟩⟩
    ·rw [Af (Ai z hRA)];exact Ad ht _ _ (s2 _ _ z)
    ·rw [Zi,nk,Zs,YU Bv]; rfl
    ·have tk:∀ b xs,(upd H6 t (.tup [.int 0,.str ss[i]])) b=some (.tup xs)->(upd (upd H6 t (.tup [.int 0,.str ss[i]])) RA (.dK (Bp (sK nv) (Sum.inr ss[i]:A4) (.ref t)))) b=some (.tup xs):=fun b xs z=>by
      rw [Af (Cg z (Ad ht _ _ Om) (by intro z; cases z))]; exact z
     rcases Zp.mp hy with hy | hy
     ·exact (np y v hy).same fun b xs z=>tk b xs (Ad ht _ _ z)
     ·simp only [Zl,Prod.mk.injEq] at hy;obtain ⟨rfl,rfl⟩:=hy;exact ⟨t,rfl,tk _ _ Ab⟩
   ·have e0:i=ss.length:=by lia
    subst e0;rw [Zu] at nk;refine .inl ⟨⟨_,by first | exact A9.of MJ | exact AF.of MJ,by rw [YV]; exact Zb _⟩,fun SA hSA=>?_⟩;have sS:=Ad (o:=.dK []) hSA;have aR:RA ∉ ds/\RA ≠ B/\RA ≠ SA/\H RA=none:=⟨(fun hm=>by obtain ⟨u,e⟩:=nbAt RA hm; rw [hRA] at e; cases e),(fun z=>by rw [z,VA] at hRA; cases hRA),(fun z=>by rw [<-z,Om] at hSA; cases hSA),s1.free hRA⟩
    have aS:SA ∉ ds/\SA ≠ B/\SA ≠ RA/\H SA=none:=⟨(fun hm=>by obtain ⟨u,e⟩:=nbAt SA hm; rw [s2 _ _ e] at hSA; cases hSA),(fun z=>by rw [z,s2 _ _ VA] at hSA; cases hSA),(fun z=>aR.2.2.1 z.symm),(s1.trans s2).free hSA⟩
    have s3:Au H1 (upd H' SA (.dK [])):=s2.trans sS;have N0:NI H (upd H' SA (.dK [])) ps ws B RA SA ds nv [] (fun _ _=>False) (fun y p=>y ∈ ss/\p=(0,y)):=by
     refine ⟨s1.trans s3,nb.r.same s3,nbv.of nb.r (fun d _ nv z=>by rcases z with a | ⟨o,a⟩; exact .inl (s3 _ _ a); exact .inr ⟨o,s3 _ _ a⟩),sS _ _ Om,Ab,⟨by rw [nk]; exact ssn,fun y v hy=>⟨(0,y),(np y v hy).same fun b xs z=>sS _ _ z,by rw [<-nk]; exact Zd.mpr ⟨_,hy,rfl⟩,rfl⟩,fun y p hp=>?_⟩,⟨.nil,fun y v hy=>absurd hy ZE,fun y p hp=>hp.elim⟩,fun y hy=>sssub y (by rw [<-nk]; exact hy),fun y hy=>absurd hy ZE⟩;obtain ⟨hy,rfl⟩:=hp;rw [<-nk] at hy;obtain ⟨⟨z,v⟩,a,b⟩:=Zd.mp hy;have b':z=y:=b;subst b';exact ⟨v,a,(np z v a).same fun b xs z=>sS _ _ z⟩
    have D0:TF ws ss (fun _ _=>False) (fun y p=>y ∈ ss/\p=(0,y)):=⟨fun _ _ h=>h.elim,fun y p ⟨h1,h2⟩=>by subst h2; exact ⟨h1,.nil y⟩,fun _ _ _ _ h=>h.elim,fun s hs=>.inr ⟨(0,s),⟨hs,rfl⟩,Du.refl _⟩⟩
    clear Om MJ np;generalize upd H' SA (.dK [])=H5 at N0 ⊢;refine ⟨fun m σ H2=>∃ nvR nvS S R v5 v6 v7 v8 v9,m=ps.length - nvS.length/\σ=[some (.ref q),some (.ref st),some (.ref B),some (.ref RA),some (.ref SA),v5,v6,v7,v8,v9]/\NI H H2 ps ws B RA SA ds nvR nvS S R/\TF ws ss S R/\∀ y p,R y p->∀ q,¬ S y q,
     ⟨_,nv,[],_,_,_,_,_,_,_,rfl,rfl,N0,D0,fun _ _ _ _ h=>h⟩,?_⟩
    clear N0 D0 hSA sS s3 s2 nk;rintro m σ H2 ⟨nvR,nvS,S,R,v5,v6,v7,v8,v9,rfl,rfl,N,Dj,dis⟩;exists _,rfl,_,.inr (.inr ⟨_,N.dR,rfl⟩);by_cases hne:nvR=[]
    ·subst hne;refine F8 ?_;have all:∀ x ∈ ps,∃ q,S x q:=Dj.done (fun y p h=>by obtain ⟨v,a,_⟩:=N.pR.2.2 y p h; cases a) ssne ok.con (fun T x hx tx cl=>ok.con (fun z=>T z->T r) (fun h=>h) (fun a b hab h tb=>h (cl b a hab.symm tb)) x hx tx) sssub;refine ⟨_,rfl,k H2 SA nvS N.same aS.2.2.2 N.dS N.pS.1 (fun x=>⟨N.subS x,fun hx=>N.inS.mpr (all x hx)⟩) fun y v hy=>?_⟩;obtain ⟨p,h1,h2⟩:=N.pS.2.1 y v hy;exact ⟨p,h1,Dj.near y p h2⟩
    ·have Yp:(!(sK nvR).isEmpty)=true:=by cases nvR with
      | nil=>exact absurd rfl hne
      | cons=>rfl
     rw [Yp];refine IK ?_;obtain ⟨NN,hNN⟩:∃ NN:St->Hp->Prop,NN=fun As H'=>∃ m',m' < ps.length - nvS.length/\∃ nvR nvS S R v5 v6 v7 v8 v9,m'=ps.length - nvS.length/\As=[some (.ref q),some (.ref st),some (.ref B),some (.ref RA),some (.ref SA),v5,v6,v7,v8,v9]/\NI H H' ps ws B RA SA ds nvR nvS S R/\TF ws ss S R/\∀ y p,R y p->∀ q,¬ S y q:=⟨_,rfl⟩
     exists NN,fun As H' z=>by rw [hNN] at z; exact z
     have lR:=N.lenR;have lS:=N.lenS;refine ⟨_,rfl,RA,_,rfl,.inl N.dR,fun o H3 fz C hC=>?_⟩;have fz':H3=upd H2 RA (.frz o (.dK (sK nvR))):=by
      rcases fz with ⟨_,e⟩ | ⟨e,_⟩
      ·exact e
      ·rw [N.dR] at e; cases e
     have hR3:=fz.at;have X7:∀ b xs,H2 b=some (.tup xs)->H3 b=some (.tup xs):=fun b xs z=>by
      rw [fz.ne (Cg z N.dR (by intro z; cases z))]; exact z
     refine ⟨fun i m As H'=>m=nvR.length - i/\i<=nvR.length/\(∃ v,As=[v,some (.ref RA)])/\∃ (acc:List V) (ks:List ((Int × Str) × Str)),Au H3 H'/\H' C=some (.lst acc)/\acc.length=i/\ks.length=i/\(∀ (j:Nat) v k,acc[j]? = some v->ks[j]? = some k->Uv H' v k)/\(∀ (j:Nat) y v,j < i->nvR[j]? = some (y,v)->∃ p,Ks H3 v p/\ks[j]? = some (p,y)),
      ⟨_,rfl,Z7 _,⟨_,rfl⟩,[],[],Ad hC,Ab,rfl,rfl,fun j v k h=>(by simp at h),fun j y v hj=>absurd hj (aB _)⟩,?_⟩
     rintro i m As H' ⟨rfl,hi,⟨v,rfl⟩,acc,ks,s4,Om,al,kl,hky,hks⟩;have W7:=s4 _ _ hR3;have nCR:RA ≠ C:=Ai hR3 hC;by_cases Bv:i < nvR.length
     ·refine .inr ⟨⟨W7,by rw [CL]; exact Bv⟩,?_⟩;rintro z H6 ⟨rfl,key,v2,ek,rfl⟩;obtain ⟨y,ey,rfl⟩:=TQ ek;have hm:=YY ey;obtain ⟨p,hp,hRp⟩:=N.pR.2.1 y v2 hm;have hp3:=hp.same X7;refine ⟨_,rfl,_,rfl,RA,v2,rfl,.inl ⟨_,Sum.inr y,.inr ⟨o,W7⟩,rfl,(Dr N.pR.1 hm).symm⟩,_,rfl,(by show 2<=sizeLine; lia),fun t ht=>?_⟩;have st:=Ad (o:=.tup [v2,.str y]) ht;have hC2:=st _ _ Om;have tC:∀ b xs,(upd H6 t (.tup [v2,.str y])) b=some (.tup xs)->(upd (upd H6 t (.tup [v2,.str y])) C (.lst (acc ++ [.ref t]))) b=some (.tup xs):=fun b xs z=>by
       rw [Af (Cg z hC2 (by intro z; cases z))]; exact z
      refine ⟨acc,hC2,by lia,_,by lia,rfl,Bv,⟨_,rfl⟩,acc ++ [.ref t],ks ++ [(p,y)],fun b u z=>?_,Ab,by simp [al],by simp [kl],fun j v k h1 h2=>?_,fun j y' v' hj h=>?_⟩
      ·rw [Af (Ai z hC)];exact st _ _ (s4 _ _ z)
      ·by_cases hj:j < acc.length
       ·rw [Zz hj] at h1;rw [Zz (by lia)] at h2;exact (hky j v k h1 h2).same fun b xs z=>tC b xs (st _ _ z)
       ·rw [Zx (by lia)] at h1;rw [Zx (by lia)] at h2;have j0:j - acc.length=0:=by
         have:=(YZ.mp h1).1;simp at this;lia
        have j1:j - ks.length=0:=by lia
        rw [j0] at h1;rw [j1] at h2;cases h1
        cases h2
        obtain ⟨t2,e2,g2⟩:=hp3;subst e2;exact ⟨t,t2,rfl,tC _ _ Ab,t2,rfl,tC _ _ (st _ _ (s4 _ _ g2))⟩
      ·by_cases ej:j=i
       ·subst ej;rw [ey] at h;cases h
        exact ⟨p,hp3,by rw [Zx (by lia),kl,af]; rfl⟩
       ·obtain ⟨p',a1,a2⟩:=hks j y' v' (by lia) h;exact ⟨p',a1,by rw [Zz (by lia)]; exact a2⟩
     ·have e0:i=nvR.length:=by lia
      subst e0;have ksne:ks ≠ []:=by
       intro z;rw [z] at kl;exact hne (ZF.mp kl.symm)
      refine .inl ⟨⟨W7,by rw [CL]; exact Zb _⟩,C,acc,ks,rfl,Om,by lia,ksne,hky,fun v kk hk hKy hmin=>?_⟩;exists RA,o,sK nvR,W7,fun ob w z=>?_
      ·have z':H RA=some (.frz ob w):=z;rw [aR.2.2.2] at z';cases z'
      obtain ⟨⟨d0,Ia⟩,here⟩:=kk;obtain ⟨t,t2,rfl,ht,t2',e2,GG⟩:=hKy;cases e2
      have t45:∀ b xs,H' b=some (.tup xs)->(upd H' RA (.dK (sK nvR))) b=some (.tup xs):=fun b xs z=>by
       rw [Af (Cg z W7 (by intro z; cases z))]; exact z
      have s25:Au H2 (upd H' RA (.dK (sK nvR))):=fun b u z=>by
       by_cases eb:b=RA
       ·subst eb;rw [N.dR] at z;cases z
        exact Ab
       ·rw [Af eb];refine s4 _ _ ?_;rw [fz.ne eb]; exact z
      have N5:=N.grow s25;have ht5:=t45 _ _ ht;have Wr:=t45 _ _ GG;have inR:∀ j y p,ks[j]? = some (p,y)->R y p:=fun j y p h=>by
       have hj:j < nvR.length:=by
        have:=(YZ.mp h).1;lia
       obtain ⟨p',a1,a2⟩:=hks j nvR[j].1 nvR[j].2 hj (YU hj);rw [h] at a2;cases a2
       obtain ⟨p'',b1,b2⟩:=N.pR.2.1 _ _ (ZQ hj);rw [a1.fn (b1.same X7)];exact b2
      have hRh:R here (d0,Ia):=by
       obtain ⟨j,hj,ej⟩:=Zm hk;exact inR j here (d0,Ia) (by rw [YU hj,ej])
      have least:∀ z p,R z p->Du (d0,Ia) p:=fun z p hz=>by
       obtain ⟨v,a,b⟩:=N.pR.2.2 z p hz;obtain ⟨j,hj,ej⟩:=Zm a;obtain ⟨p',a1,a2⟩:=hks j z v hj (by rw [YU hj,ej]);have:=a1.fn (b.same X7);subst this;exact hmin _ (YY a2)
      have nSh:∀ q,¬ S here q:=dis here _ hRh;have nearH:Nc ws ss here (d0,Ia):=Dj.pick pos hRh nSh least;exists t,_,rfl,AF.of ht5,rfl,_,_,rfl,t2,_,rfl,AF.of Wr,rfl,_,_,rfl,_,_,rfl,rfl,_,_,rfl,rfl;generalize upd H' RA (.dK (sK nvR))=H5 at N5 ht5 Wr s25 ⊢;have hin:here ∈ nvR.map (·.1):=N5.inR.mpr ⟨_,hRh⟩;have hps:here ∈ ps:=N5.subR here hin;exists _,rfl,_,rfl,RA,_,Sum.inr here,rfl,N5.dR,rfl,by rw [Hi,decide_eq_true hin]
      rw [S7];have N6:=N5.setR aR (N5.pR.drop here) (fun y hy=>by
       obtain ⟨e,he,ee⟩:=Zd.mp hy;exact N5.subR y (Zd.mpr ⟨e,(Zy.mp he).1,ee⟩))
      generalize upd H5 RA (.dK (sK (nvR.filter fun q=>decide (q.1 ≠ here))))=H6 at N6 ⊢;have nhS:here ∉ nvS.map (·.1):=fun h=>by
       obtain ⟨q,hq⟩:=N6.inS.mp h;exact nSh q hq
      refine ⟨_,rfl,_,rfl,(by show 2<=sizeLine; lia),fun t3 Ym=>?_⟩;have N7:=N6.grow (Ad (o:=.tup [.int d0,.str Ia]) Ym);have Wq:(upd H6 t3 (.tup [.int d0,.str Ia])) t3=some (.tup [.int d0,.str Ia]):=Ab;generalize upd H6 t3 (.tup [.int d0,.str Ia])=H7 at N7 Wq ⊢;exists _,rfl,_,rfl,SA,_,rfl,DO.k (k:=Sum.inr here) N7.dS (by rw [CL]; have:=N7.lenS; lia);rw [Dw nhS];have N8:=N7.setS aS (N7.pS.put (Dw nhS) (p:=(d0,Ia)) ⟨t3,rfl,Wq⟩) (fun y hy=>by
       rw [Zi] at hy;rcases Zp.mp hy with hy | hy
       ·exact N7.subS y hy
       ·have:y=here:=by simpa using hy
        rw [this]; exact hps)
      generalize upd H7 SA (.dK (sK (nvS ++ [(here,.ref t3)])))=H8 at N8 ⊢;obtain ⟨S',Ol⟩:∃ S':Str->Int × Str->Prop,S'=fun z q=>(z=here/\q=(d0,Ia))\/(z ≠ here/\S z q):=⟨_,rfl⟩
      obtain ⟨Pm,hnvS⟩:∃ Pm:List (Str × V),Pm=nvS ++ [(here,.ref t3)]:=⟨_,rfl⟩
      rw [<-Ol,<-hnvS] at N8;have nSl:Pm.length=nvS.length + 1:=by rw [hnvS]; simp
      have nearS:∀ y q,S' y q->Nc ws ss y q:=fun y q h=>by
       rw [Ol] at h;rcases h with ⟨rfl,rfl⟩ | ⟨_,h⟩
       ·exact nearH
       ·exact Dj.near y q h
      have hSh:S' here (d0,Ia):=by rw [Ol]; exact .inl ⟨rfl,rfl⟩
      have toS:∀ y q,S y q->∃ q',S' y q':=fun y q h=>by
       by_cases e:y=here
       ·rw [e]; exact ⟨_,hSh⟩
       ·exact ⟨q,by rw [Ol]; exact .inr ⟨e,h⟩⟩
      obtain ⟨i0,d,SO,a1,a2,a3,a4,a5⟩:=N8.nr.get ok.nd hps;have dm:=YY a2;refine ⟨_,rfl,_,rfl,B,.ref d,rfl,?_,d,sK SO,rfl,a4,fun o9 H9 fz9=>?_⟩
      ·have:=BF.k (k:=Sum.inr here) N8.nr.top;rw [a3] at this;exact this
      have N9:=N8.frz aR.1 aS.1 hds a1 a2 fz9 a5;obtain ⟨Pv,hPv⟩:∃ Pv:Nat->St->Hp->Prop,Pv=fun i σ H'=>∃ HF R' v8 v9,σ=[some (.ref q),some (.ref st),some (.ref B),some (.ref RA),some (.ref SA),some (.int d0),some (.str Ia),some (.str here),v8,v9]/\NI H H' ps ws B RA SA ds HF Pm S' R'/\H' d=some (.frz o9 (.dK (sK SO))) /\
        (∀ y p,R' y p->p.2 ∈ ss/\Bh ws p.2 y p.1)/\(∀ s ∈ ss,(∃ q,S' s q)\/∃ q,R' s q/\Du q (0,s)) /\
        (∀ x q y l,S' x q->BY ws x y l->(∃ q',S' y q')\/(∃ q',R' y q'/\Du q' (q.1 + l,q.2))\/(x=here/\∀ (j:Nat) (v:V),j < i->SO[j]? ≠ some (y,v)))/\(∀ y p,R' y p->∀ q,¬ S' y q):=⟨_,rfl⟩
      refine PJ (a:=d) (o:=o9) (kvs:=sK SO) Pv ?_ (fun i σ H' _ hP=>by rw [hPv] at hP; obtain ⟨_,_,_,_,_,_,z,_⟩:=hP; exact z) (fun i key v σ H' hx hP rt bk=>?_) (fun σ H' hP=>?_)
      ·rw [hPv];refine ⟨_,_,_,_,rfl,N9,fz9.at,fun y p h=>Dj.reach y p h.2,fun s hs=>?_,fun x qq y l hx he=>?_,fun y p h qq hq=>?_⟩
       ·rcases Dj.start s hs with ⟨qq,h⟩ | ⟨qq,h,le⟩
        ·exact .inl (toS s qq h)
        ·by_cases e:s=here
         ·rw [e]; exact .inl ⟨_,hSh⟩
         ·exact .inr ⟨qq,⟨e,h⟩,le⟩
       ·by_cases ex:x=here
        ·exact .inr (.inr ⟨ex,fun j v hj=>absurd hj (aB _)⟩)
        ·rw [Ol] at hx;rcases hx with ⟨h,_⟩ | ⟨_,hx⟩
         ·exact absurd h ex
         ·rcases Dj.relax x qq y l hx he with ⟨q',h⟩ | ⟨q',h,le⟩
          ·exact .inl (toS y q' h)
          ·by_cases e:y=here
           ·rw [e]; exact .inl ⟨_,hSh⟩
           ·exact .inr (.inl ⟨q',⟨e,h⟩,le⟩)
       ·rw [Ol] at hq;rcases hq with ⟨h2,_⟩ | ⟨_,h2⟩
        ·exact h.1 h2
        ·exact dis y p h.2 qq h2
      ·rw [hPv] at hP;obtain ⟨HF,R',v8,v9,rfl,Sj,hf,rch,sta,rel,Ts⟩:=hP;obtain ⟨y,e1,rfl⟩:=TQ hx;have hym:=YY e1;obtain ⟨w0,hw0⟩:∃ w0,Bd (sK SO) (Sum.inr y:A4)=some w0:=by
        have:(Bd (sK SO) (Sum.inr y:A4)).isSome=true:=by rw [Hi,decide_eq_true (Zd.mpr ⟨_,hym,rfl⟩)]
        exact b0.mp this
       obtain ⟨l,rfl,ed⟩:=Sj.nbv i0 here d SO a1 a2 (.inr ⟨o9,hf⟩) y w0 (JO hw0);have hyp:y ∈ ps:=by
        obtain ⟨u,hu,e⟩:=ed.adj;obtain ⟨q1,q2⟩:=ok.ends u hu;rcases e with ⟨_,e⟩ | ⟨e,_⟩
        ·rw [<-e]; exact q2
        ·rw [<-e]; exact q1
       exists _,rfl,_,rfl,SA,_,rfl,BF.k (k:=Sum.inr y) Sj.dS,_,rfl;rw [Hi];have step:∀ {z:Str},(∀ (j:Nat) (v:V),j < i->SO[j]? ≠ some (z,v))->z ≠ y->∀ (j:Nat) (v:V),j < i + 1->SO[j]? ≠ some (z,v):=fun h2 hz j v hj e=>by
        by_cases ej:j=i
        ·subst ej;rw [e1] at e;cases e
         exact hz rfl
        ·exact h2 j v (by lia) e
       by_cases hy:y ∈ Pm.map (·.1)
       ·rw [decide_eq_true hy];refine F8 ?_;show Pv (i + 1) _ _
        rw [hPv];refine ⟨HF,R',_,_,rfl,Sj,hf,rch,sta,fun x qq z l' La he=>?_,Ts⟩;rcases rel x qq z l' La he with h | h | ⟨h1,h2⟩
        ·exact .inl h
        ·exact .inr (.inl h)
        ·by_cases ez:z=y
         ·rw [ez]; exact .inl (Sj.inS.mp hy)
         ·exact .inr (.inr ⟨h1,step h2 ez⟩)
       ·rw [decide_eq_false hy];refine IK ?_;have nSy:∀ qq,¬ S' y qq:=fun qq h=>hy (Sj.inS.mpr ⟨qq,h⟩)
        have dgT:BF H' B (.str here) (some (.ref d)):=by
         have:=BF.k (k:=Sum.inr here) Sj.nr.top;rw [a3] at this;exact this
        refine ⟨_,rfl,_,rfl,_,rfl,B,.ref d,rfl,dgT,_,rfl,d,.int l,rfl,.inl ⟨_,Sum.inr y,.inr ⟨o9,hf⟩,rfl,hw0.symm⟩,_,_,rfl,rfl,_,rfl,(by show 2<=sizeLine; lia),fun t4 ht4=>?_⟩;have s4':=Ad (o:=.tup [.int (d0 + l),.str Ia]) ht4;have Qi:=Sj.grow s4';have W0:=s4' _ _ hf;have Wo:(upd H' t4 (.tup [.int (d0 + l),.str Ia])) t4=some (.tup [.int (d0 + l),.str Ia]):=Ab;generalize upd H' t4 (.tup [.int (d0 + l),.str Ia])=Oy at Qi W0 Wo ⊢;have cand:Ks Oy (.ref t4) (d0 + l,Ia):=⟨t4,rfl,Wo⟩
        have candW:Ia ∈ ss/\Bh ws Ia y (d0 + l):=⟨nearH.1.1,nearH.1.2.snoc ed⟩
        have lR':=Qi.lenR;have fin:∀ (x:V) (pn:Int × Str),Ks Oy x pn->Du pn (d0 + l,Ia)->(∀ old,R' y old->Du pn old)->(pn.2 ∈ ss/\Bh ws pn.2 y pn.1) ->
          Pv (i + 1) [some (.ref q),some (.ref st),some (.ref B),some (.ref RA),some (.ref SA),some (.int d0),some (.str Ia),some (.str here),some (.str y),some (.ref t4)] (upd Oy RA (.dK (Bp (sK HF) (Sum.inr y:A4) x))):=by
         intro x pn hx1 hle hold hW;obtain ⟨nv2,p1,p2,p3⟩:=My HF y x;rw [p1,hPv];have N12:=Qi.setR aR (Qi.pR.put p1 hx1) (fun z hz=>by
          rcases (p3 z).mp hz with hz | rfl
          ·exact Qi.subR z hz
          ·exact hyp)
         refine ⟨nv2,_,_,_,rfl,N12,?_,fun z p hz=>?_,fun s hs=>?_,fun x' qq z l' La he=>?_,fun z p hz qq hq=>?_⟩
         ·rw [Af (fun z=>aR.1 (by rw [<-z]; exact dm))]; exact W0
         ·rcases hz with ⟨rfl,rfl⟩ | ⟨_,hz⟩
          ·exact hW
          ·exact rch z p hz
         ·rcases sta s hs with h | ⟨qq,h,le⟩
          ·exact .inl h
          ·by_cases e:s=y
           ·subst e;exact .inr ⟨pn,.inl ⟨rfl,rfl⟩,(hold qq h).trans le⟩
           ·exact .inr ⟨qq,.inr ⟨e,h⟩,le⟩
         ·rcases rel x' qq z l' La he with h | ⟨q',h,le⟩ | ⟨h1,h2⟩
          ·exact .inl h
          ·by_cases e:z=y
           ·subst e;exact .inr (.inl ⟨pn,.inl ⟨rfl,rfl⟩,(hold q' h).trans le⟩)
           ·exact .inr (.inl ⟨q',.inr ⟨e,h⟩,le⟩)
          ·by_cases e:z=y
           ·subst e;subst h1;have e2:=uniq _ _ _ _ he ed;subst e2;have e3:=Qi.pS.fn La hSh;subst e3;exact .inr (.inl ⟨pn,.inl ⟨rfl,rfl⟩,hle⟩)
           ·exact .inr (.inr ⟨h1,step h2 e⟩)
         ·rcases hz with ⟨rfl,rfl⟩ | ⟨_,hz⟩
          ·exact nSy qq hq
          ·exact Ts z p hz qq hq
        have put:∀ {x:V},DO Oy RA (.str y) x (upd Oy RA (.dK (Bp (sK HF) (Sum.inr y:A4) x))):=fun {x}=>DO.k (k:=Sum.inr y) Qi.dR (by rw [CL]; lia)
        obtain ⟨w1,pq,ew,hw1,hold,hWq⟩:∃ w1 pq,(Bd (sK HF) (Sum.inr y:A4)).getD (.ref t4)=w1/\Ks Oy w1 pq/\(∀ old,R' y old->Du pq old)/\(pq.2 ∈ ss/\Bh ws pq.2 y pq.1):=by
         cases hv:Bd (sK HF) (Sum.inr y:A4) with
         | none=>
          refine ⟨_,_,rfl,cand,fun old h=>?_,candW⟩;have h1:y ∈ HF.map (·.1):=Qi.inR.mpr ⟨old,h⟩;have h2:(Bd (sK HF) (Sum.inr y:A4)).isSome=true:=by rw [Hi,decide_eq_true h1]
          rw [hv] at h2;cases h2
         | some w1=>
          obtain ⟨pq,h1,h2⟩:=Qi.pR.2.1 y w1 (JO hv);exact ⟨w1,pq,rfl,h1,fun old h=>by rw [Qi.pR.fn h2 h]; exact Du.refl _,rch y pq h2⟩
        refine ⟨_,rfl,_,rfl,RA,rfl,.inl ⟨_,.inl Qi.dR⟩,_,rfl,_,rfl,_,BF.k (k:=Sum.inr y) Qi.dR,_,_,(d0 + l,Ia),pq,rfl,cand,(by rw [ew]; exact hw1),fun le=>⟨_,rfl,_,rfl,RA,_,rfl,put,?_⟩,fun le=>⟨_,rfl,_,rfl,RA,_,rfl,put,?_⟩⟩
        ·rw [ew];exact fin w1 pq hw1 le hold hWq
        ·exact fin (.ref t4) _ cand (Du.refl _) (fun old h=>le.trans (hold old h)) candW
      ·rw [hPv] at hP;obtain ⟨HF,R',v8,v9,rfl,Sj,hf,rch,sta,rel,Ts⟩:=hP;show NN _ _
       rw [hNN];refine ⟨_,?_,HF,Pm,S',R',_,_,_,_,_,rfl,rfl,Sj,⟨nearS,rch,fun x qq y l hx he=>?_,sta⟩,Ts⟩
       ·have:=Sj.lenS;lia
       ·rcases rel x qq y l hx he with h | h | ⟨rfl,h2⟩
        ·exact .inl h
        ·exact .inr h
        ·exfalso
         obtain ⟨⟨z,v⟩,Qe,e⟩:=Zd.mp ((a5 y).mpr he.adj);have e':z=y:=e;subst e';obtain ⟨j,hj,e2⟩:=Zm Qe;exact h2 j v (by rw [CL]; exact hj) (by rw [YU hj,e2])
end
section
variable {P:Program} {w:World} {K:YX} {mg:Str->Option Value} {base:Heap}
structure NeF (K:YX) (mg:Str->Option Value) (fN:Addr) (fdN:FuncData) (f:Addr) (fd:FuncData):Prop where
 N:NbF K mg fN fdN
 mi:mg "min"=none
 F:EU K "nearest" "nearest" EY f fd
 mg:mg "nearest"=some (.ref f)
 b:HB K fd ["web","starts"] []
theorem NU {f fN fE:Addr} {fd fdN fdE:FuncData} (EK:NeF K mg fN fdN fE fdE) (F:EU K "fars" "fars" K3 f fd):AL P w K mg base Ce 3 f fd ["web","place"] (QA K):=by
 have GE:AL P w K mg base Ce 2 fE fdE ["web","starts"] (Q4 K):=M7 EK.N EK.mi EK.F;refine F.ok Ny (fun vs H Q E h=>?_) (fun cdv A outer s H vs Q E hr h=>?_)
 ·obtain ⟨q,ps,ws,r,x,rfl,_⟩:=h;rfl
 ·obtain ⟨q,ps,ws,r,x,rfl,ok,pos,uniq,hx,k⟩:=h;have hu:=En hr;have nd:=Ny.nd;have big:1000 < sizeLine:=by decide
  have l30:=ok.l30;refine ⟨_,Ae (Aq (i:=2) nd rfl (Or.inr rfl) (Ak GE hr (by rfl) EK.mg EK.F.kp EK.b .nil Ax (Aa (pv 0) (Aa (Bu (Aa (pv 1) Ac)) Ac))))
   (Aj (AG (Ir (N:=["name","told"]) rfl
      CM
      (CI [none,some 2]) (AZ K rfl (AA (Bc K rfl) (pv 0) Ag (fun _ _=>rfl)))
      (fun s2 H C fp=>⟨Ah (i:=0) (show (["name","told"]:List Str).Nodup by decide +kernel) rfl (Or.inl rfl),AV,pv 0,AA (Bc K rfl) (AH hu (pv 1) (pv 0) (fun _ _=>rfl)) Ag (fun _ _=>rfl)⟩)))),?_⟩
  refine ⟨_,rfl,_,rfl,(by show 1<=sizeLine; lia),fun st hst=>?_⟩;have s0:=Ad (o:=.lst [.str x]) hst;refine ⟨q,st,ps,[x],ws,r,rfl,ok.same s0,pos,uniq,.inl Ab,by simp,Z3.mpr ⟨by simp,.nil⟩,by simpa using hx,fun H1 B nv s1 hB VA nn nk nr=>?_⟩;have TU:=s0.trans s1;obtain ⟨tp,tw,us,hq,htp,htw,hD⟩:=ok.web.ex;refine ⟨_,rfl,q,_,0,.ref tp,rfl,rfl,AF.of (TU _ _ hq),CD (j:=0) rfl,tp,rfl,⟨_,AF.of (TU _ _ htp)⟩,fun C hC=>?_⟩;exists fun i m As H2=>m=ps.length - i/\i<=ps.length/\(∃ v,As=[v,some (.ref B)])/\∃ nc:List (Str × V),H2=upd H1 C (.dK (sK nc))/\nc.map (·.1)=ps.take i/\∀ y v,(y,v) ∈ nc->∃ n,v=.int n/\HW ws x y n,⟨_,rfl,Z7 _,⟨_,rfl⟩,[],rfl,rfl,fun y v hy=>absurd hy ZE⟩
  rintro i m As H2 ⟨rfl,hi,⟨v,rfl⟩,nc,rfl,ncK,ncV⟩;have sC:=Ad (o:=.dK (sK nc)) hC;have MI:=sC _ _ (TU _ _ htp);by_cases Bv:i < ps.length
  ·refine .inr ⟨⟨_,V.str ps[i],AF.of MI,by rw [Ze,YU Bv]; rfl⟩,?_⟩;rintro z H6 ⟨rfl,hz⟩;have Qd:=hz _ (AF.of MI);rw [Ze,YU Bv] at Qd;cases Qd
   obtain ⟨⟨y,v2⟩,hm,e⟩:=Zd.mp ((nk ps[i]).mpr (ZQ Bv));have e':y=ps[i]:=e;subst e';obtain ⟨p,⟨t,e2,ht⟩,hnr⟩:=nr ps[i] v2 hm;subst e2;have Y8:=sC _ _ VA;have GG:=sC _ _ ht;have nn':ps[i] ∉ nc.map (·.1):=by
    rw [ncK];intro Qe;obtain ⟨j,hj,e⟩:=Zm Qe;rw [Z8] at hj;rw [aU] at e;have:=Hn ok.nd (YU (show j < ps.length by lia)) (by rw [YU Bv,e]);lia
   have ncl:nc.length=i:=by
    have:=congrArg aE ncK;rw [YV,Z8] at this;lia
   refine ⟨_,rfl,_,rfl,_,rfl,B,.ref t,rfl,.inl ⟨_,Sum.inr ps[i],.inl Y8,rfl,(Dr nn hm).symm⟩,t,_,0,.int p.1,rfl,rfl,AF.of GG,CD (j:=0) rfl,_,Sum.inr ps[i],rfl,Ab,by rw [CL]; lia,_,by lia,rfl,Bv,⟨_,rfl⟩,nc ++ [(ps[i],.int p.1)],by rw [Kw,Dw nn'],?_,fun y v hy=>?_⟩
   ·rw [Zi,ncK,Zs,YU Bv]; rfl
   ·rcases Zp.mp hy with hy | hy
    ·exact ncV y v hy
    ·simp only [Zl,Prod.mk.injEq] at hy;obtain ⟨rfl,rfl⟩:=hy;exact ⟨p.1,rfl,hnr.dst.2⟩
  ·have e0:i=ps.length:=by lia
   subst e0;rw [Zu] at ncK;exact .inl ⟨⟨_,AF.of MI,by rw [YV]; exact Zb _⟩,k _ C nc (TU.trans sC) (TU.free hC) Ab ncK ncV⟩
end
structure TxtN (K:YX) (mg:Str->Option Value):Prop where
 len:mg "len"=none
 isin:mg "isinstance"=none
 str:mg "str"=none
 all:mg "all"=none
 most:∃ t,mg "MOST_LETTERS"=some (.int 6 t)
section
variable {P:Program} {w:World} {K:YX} {mg:Str->Option Value} {base:Heap}
theorem NT {f:Addr} {fd:FuncData} (T:TxtN K mg) (F:EU K "is_name" "is_name" EZ f fd):AL P w K mg base Ce 1 f fd ["thing"] (Q6 K):=by
 refine F.ok Mw (fun vs H Q E h=>?_) (fun cdv A outer s H vs Q E hr h=>?_)
 ·obtain ⟨x,rfl,_⟩:=h;rfl
 ·obtain ⟨x,rfl,h⟩:=h;obtain ⟨tk,hmost⟩:=T.most;refine ⟨_,Ae (Dt (N4 (F4 (F3 (Al Hv (by rfl) T.isin PyProof.Rows.boot_isinstance (Aa (pv 0) (Aa (NL (v:=.ty "str") (by rfl) T.str PyProof.Rows.boot_str rfl) Ac)))))
    (K7 (F4 (Io JU JU Ag (Al Gs (by rfl) T.len PySem.boot_len (Aa (pv 0) Ac)) (SF (v:=.int 6) (by rfl) hmost ⟨_,rfl⟩))))).pt
    (Aj (AG Gf)) BP)
   (Aj (AG (Al (EO rfl) (by rfl) T.all PyProof.Rows.boot_all (Aa
    (Bj (N:=["letter"]) (σ0:=fun _=>[none]) rfl (BN.plain (by decide +kernel) (by decide +kernel) rfl (by decide +kernel)) (fun σ _=>Cp.none _ _ _ ["letter"] σ) (UG (pv 0))
     (fun s2 H C fp=>⟨Ah (i:=0) (show (["letter"]:List Str).Nodup by decide +kernel) rfl (Or.inl rfl),AV,Rc JT JT Dy (pv 0) Dy⟩)) Ac)))),?_⟩
  rcases h with ⟨t,rfl,ht,k⟩ | ⟨⟨ty,h1,h2⟩,k⟩
  ·exists _,rfl,_,"str",_,_,rfl,ER.str t,rfl,_,rfl;refine F8 ?_;exists _,rfl,t,rfl,Z2 ht (by decide),_,_,rfl,rfl,_,rfl;have last:∀ (h1:1<=t.length) (h2:t.length<=6),Nn (iStr (Sv 0)) (Ke 0) Kx (Mr (fun x y H Q=>∃ i j,x=.str i/\y=.str j/\Q (.bl (!(decide (j.cps.toList < i.cps.toList)))) H) (fun x y H Q=>∃ i j,x=.str i/\y=.str j/\Q (.bl (!(decide (j.cps.toList < i.cps.toList)))) H) (tC (.str "a")) (Sv 0) (tC (.str "z"))) (fun _=>[none]) [some (V.str t)] H
     (fun x H1=>∃ (p:Addr) (bs:List Bool),[x]=[V.ref p]/\A9 K H1 p (bs.map V.bl)/\Q (.bl (bs.all id)) H1):=by
    intro h1 h2;refine ⟨_,rfl,t,rfl,fun D hD=>⟨fun i m As H'=>m=t.cps.size - i/\i<=t.cps.size/\(∃ v,As=[v])/\H'=upd H D (.lst ((t.cps.toList.take i).map fun c=>V.bl (GC c))),⟨_,rfl,Z7 _,⟨_,rfl⟩,rfl⟩,?_⟩⟩;rintro i m As H' ⟨rfl,hi,⟨v,rfl⟩,rfl⟩;by_cases Bv:i < t.cps.size
    ·refine .inr ⟨Bv,?_⟩;rintro x H2 ⟨rfl,c,hc,rfl⟩;have Ht:t.cps.toList[i]? = some c:=by simpa using hc
     have step:∀ b,b=GC c->∃ acc,(upd H D (.lst ((t.cps.toList.take i).map fun c=>V.bl (GC c)))) D=some (.lst acc)/\acc.length < sizeLine/\∃ m',m' < t.cps.size - i/\(m'=t.cps.size - (i + 1)/\i + 1<=t.cps.size/\(∃ v,[some (V.str ⟨#[c]⟩)]=[v]) /\
       upd (upd H D (.lst ((t.cps.toList.take i).map fun c=>V.bl (GC c)))) D (.lst (acc ++ [V.bl b]))=upd H D (.lst ((t.cps.toList.take (i + 1)).map fun c=>V.bl (GC c)))):=by
      rintro b rfl;exists _,Ab,?_,_,?_,rfl,Bv,⟨_,rfl⟩
      ·rw [YV,Z8];have:t.length=t.cps.size:=rfl;have:1000 < sizeLine:=by decide
       lia
      ·lia
      ·rw [Kw,Jt _ _ _ _ Ht]
     exists _,rfl,_,_,rfl,rfl,_,rfl;rw [leA];refine Ck (fun ha=>?_) (fun ha=>?_)
     ·exists _,_,rfl,rfl;rw [leZ];exact step _ (by unfold GC; rw [ha]; rfl)
     ·exact step _ (by unfold GC; rw [Bool.not_eq_true] at ha; rw [ha]; rfl)
    ·have e:i=t.cps.size:=by lia
     subst e;refine .inl ⟨Zb _,D,t.cps.toList.map GC,rfl,.inl (.inl ?_),?_⟩
     ·rw [Ab,bE (by simp),ZA];rfl
     ·have e2:(t.cps.toList.map GC).all id=B8 t:=by
       unfold B8;rw [bY,decide_eq_true h1,decide_eq_true h2];rfl
      rw [e2];exact k _ (Ad hD)
   refine Ck (fun h1=>?_) (fun h1=>?_)
   ·exists _,_,rfl,rfl,_,rfl;rw [decide_eq_true_eq] at h1;refine Ck (fun h2=>?_) (fun h2=>?_)
    ·have e:B8 t=false:=by
      unfold B8;have:¬ t.length<=6:=by
       intro z;rw [decide_eq_true (show ((t.length:Nat):Int)<=6 by lia)] at h2;cases h2
      rw [decide_eq_false this,Bool.and_false,bL]
     rw [<-e];exact k _ (Au.refl _)
    ·refine last (by lia) ?_;by_cases z:t.length<=6
     ·exact z
     ·rw [decide_eq_false (show ¬ ((t.length:Nat):Int)<=6 by lia)] at h2;exact absurd rfl h2
   ·exists _,rfl;refine IK ?_;have e:B8 t=false:=by
     unfold B8;rw [decide_eq_true_eq] at h1;rw [decide_eq_false (show ¬ 1<=t.length by lia),bL,bL]
    show Q (.bl false) H
    rw [<-e];exact k _ (Au.refl _)
  ·exists _,rfl,_,"str",_,_,rfl,h1,h2,_,rfl;exact k
end
section
variable {P:Program} {w:World} {K:YX} {mg:Str->Option Value} {base:Heap}
theorem Fy (h_all:mg "all"=none) (h_list:mg "list"=none) (h_sorted:mg "sorted"=none) (h_set:mg "set"=none) {fN:Addr} {fdN:FuncData} (XN:Fn K mg "is_name" EZ ["thing"] fN fdN) (GN:AL P w K mg base Ce 1 fN fdN ["thing"] (Q6 K)) {f:Addr} {fd:FuncData} (F:EU K "are_rising" "are_rising" CS f fd):AL P w K mg base Ce 2 f fd ["things"] (Lq K):=by
 refine F.ok Fv (fun vs H Q E h=>?_) (fun cdv A outer s H vs Q E hr h=>?_)
 ·obtain ⟨t,xs,ds,rfl,_⟩:=h;rfl
 ·obtain ⟨t,xs,ds,rfl,ht,dx,short,few,k⟩:=h;have nd:=Fv.nd;have LP:=hr.units;have big:100000 < sizeLine:=by decide
  refine ⟨_,(Aj (AG (Rf (Al (EO rfl) (by rfl) h_all PyProof.Rows.boot_all (Aa (Bj (N:=["thing"]) (σ0:=fun _=>[none]) rfl (BN.plain (by decide +kernel) (by decide +kernel) rfl (by decide +kernel)) (fun σ _=>Cp.none _ _ _ ["thing"] σ) (UH (pv 0))
   (fun s2 H C fp=>⟨Ah (i:=0) (show (["thing"]:List Str).Nodup by decide +kernel) rfl (Or.inl rfl),AV,(Ak GN (hr.mono (by decide)) (by rfl) XN.mg XN.F.kp XN.b .nil Ax (Aa (pv 0) Ac))⟩)) Ac))
   (Ra (Ge (Pk LP) (A7 Gr (by rfl) h_list PyProof.Rows.boot_list (Aa (pv 0) Ac)) (Al (HK rfl) (by rfl) h_sorted PyProof.Rows.boot_sorted (Aa (A7 (Me K rfl rfl) (by rfl) h_set PyProof.Rows.boot_set (Aa (pv 0) Ac)) Ac)) (BV _)))))),?_⟩
  have seq:∀ H',Au H H'->A9 K H' t xs\/AF K H' t xs:=fun H' sa=>ht.imp (fun z=>A9.of (sa _ _ z)) (fun z=>AF.of (sa _ _ z))
  have dl:=dx.len;exists _,rfl,t,rfl;rcases ht with ht | ht
  ·refine .inl ⟨⟨_,A9.of ht⟩,BI Cb (xs:=xs) (fun D i σ H' acc=>∃ v0:Option V,σ=[v0]/\Au H H'/\H' D=some (.lst acc)/\acc=((ds.take i).map Ho).map V.bl/\acc.length=i)
    (by lia) (fun D hD=>⟨_,rfl,Ad hD,Ab,rfl,rfl⟩) (fun D i σ H' acc hD ⟨v0,_,sa,AM,_,al⟩=>⟨A9.of (sa _ _ ht),AM,al⟩) ?_ ?_⟩
   ·rintro D i σ H' acc x B hD ex ⟨v0,rfl,sa,AM,rfl,al⟩ hB;obtain ⟨d,ed,hd⟩:=dx.at ex;have Lb:=hd.same sa;have step:∀ H5,Au H' H5->B [some x] (.bl (Ho d)) H5:=fun H5 s5=>by
     refine hB _ _ _ (s5 _ _ AM) ⟨_,rfl,fun b o e=>?_,Ab,?_,by rw [Za,al]; rfl⟩
     ·rw [Af (Ai e hD)];exact s5 _ _ (sa _ _ e)
     ·rw [Zs,ed,Zi,Zi];rfl
    exists _,rfl,x,rfl;cases d with
    | str y=>
     cases hd
     exact .inl ⟨y,rfl,short y (YY ed),step⟩
    | _=>exact .inr ⟨Lb.notStr (fun s=>by intro z; cases z),step _ (Au.refl _)⟩
   ·rintro D σ H' acc hD ⟨v0,rfl,sa,AM,rfl,al⟩;rw [dl,Zu] at AM;exists D,ds.map Ho,rfl,A9.of AM,_,rfl;refine Ck (fun z=>?_) (fun z=>?_)
    ·obtain ⟨ss,rfl,hn⟩:=GA z;obtain rfl:=dx.txt;rw [YV] at few;refine ⟨_,rfl,t,_,rfl,seq _ sa,fun l hl=>?_⟩;have s1:=Ad (o:=.lst (ss.map V.str)) hl;refine ⟨_,rfl,t,ss,rfl,seq _ (sa.trans s1),by lia,fun D2 Kd=>⟨D2,ss,rfl,Ab,by lia,fun l2 Dg MK Wc KO srt=>?_⟩⟩;have s2:=Ad (o:=setS P w D2 ss) Kd;have s3:=Ad (o:=.lst (Dg.map V.str)) MK;exists _,_,.lst (s3 _ _ (s2 _ _ Ab)) (CW _ ss),.lst Ab (CW _ Dg),by simp only [PyData.canLay0]; exact ED hn,by simp only [PyData.canLay0]; exact ED (fun s hs=>hn s ((KO s).mp hs)),?_
     ·simp only [PyData.depth,FC];decide
     ·refine k _ _ (sa.trans (s1.trans (s2.trans s3))) ?_;rw [LV];exists fun e=>⟨ss,rfl,hn,(DW Wc KO srt).mp (DQ e)⟩
      rintro ⟨s5,e5,_,r5⟩;obtain rfl:=DQ e5;rw [(DW Wc KO srt).mpr r5]
    ·refine k _ _ sa ⟨fun q=>absurd q (by decide),fun ⟨ss,e,hn,_⟩=>?_⟩;rw [e] at z;exact absurd (Kr hn) z
  ·refine .inr ⟨⟨_,AF.of ht⟩,BI BU (xs:=xs) (fun D i σ H' acc=>∃ v0:Option V,σ=[v0]/\Au H H'/\H' D=some (.lst acc)/\acc=((ds.take i).map Ho).map V.bl/\acc.length=i)
    (by lia) (fun D hD=>⟨_,rfl,Ad hD,Ab,rfl,rfl⟩) (fun D i σ H' acc hD ⟨v0,_,sa,AM,_,al⟩=>⟨AF.of (sa _ _ ht),AM,al⟩) ?_ ?_⟩
   ·rintro D i σ H' acc x B hD ex ⟨v0,rfl,sa,AM,rfl,al⟩ hB;obtain ⟨d,ed,hd⟩:=dx.at ex;have Lb:=hd.same sa;have step:∀ H5,Au H' H5->B [some x] (.bl (Ho d)) H5:=fun H5 s5=>by
     refine hB _ _ _ (s5 _ _ AM) ⟨_,rfl,fun b o e=>?_,Ab,?_,by rw [Za,al]; rfl⟩
     ·rw [Af (Ai e hD)];exact s5 _ _ (sa _ _ e)
     ·rw [Zs,ed,Zi,Zi];rfl
    exists _,rfl,x,rfl;cases d with
    | str y=>
     cases hd
     exact .inl ⟨y,rfl,short y (YY ed),step⟩
    | _=>exact .inr ⟨Lb.notStr (fun s=>by intro z; cases z),step _ (Au.refl _)⟩
   ·rintro D σ H' acc hD ⟨v0,rfl,sa,AM,rfl,al⟩;rw [dl,Zu] at AM;exists D,ds.map Ho,rfl,A9.of AM,_,rfl;refine Ck (fun z=>?_) (fun z=>?_)
    ·obtain ⟨ss,rfl,hn⟩:=GA z;obtain rfl:=dx.txt;rw [YV] at few;refine ⟨_,rfl,t,_,rfl,seq _ sa,fun l hl=>?_⟩;have s1:=Ad (o:=.lst (ss.map V.str)) hl;refine ⟨_,rfl,t,ss,rfl,seq _ (sa.trans s1),by lia,fun D2 Kd=>⟨D2,ss,rfl,Ab,by lia,fun l2 Dg MK Wc KO srt=>?_⟩⟩;have s2:=Ad (o:=setS P w D2 ss) Kd;have s3:=Ad (o:=.lst (Dg.map V.str)) MK;exists _,_,.lst (s3 _ _ (s2 _ _ Ab)) (CW _ ss),.lst Ab (CW _ Dg),by simp only [PyData.canLay0]; exact ED hn,by simp only [PyData.canLay0]; exact ED (fun s hs=>hn s ((KO s).mp hs)),?_
     ·simp only [PyData.depth,FC];decide
     ·refine k _ _ (sa.trans (s1.trans (s2.trans s3))) ?_;rw [LV];exists fun e=>⟨ss,rfl,hn,(DW Wc KO srt).mp (DQ e)⟩
      rintro ⟨s5,e5,_,r5⟩;obtain rfl:=DQ e5;rw [(DW Wc KO srt).mpr r5]
    ·refine k _ _ sa ⟨fun q=>absurd q (by decide),fun ⟨ss,e,hn,_⟩=>?_⟩;rw [e] at z;exact absurd (Kr hn) z
end
section
variable {P:Program} {w:World} {K:YX} {mg:Str->Option Value} {base:Heap}
theorem Fx (h_all:mg "all"=none) (h_dict:mg "dict"=none) (h_isinstance:mg "isinstance"=none) (h_len:mg "len"=none) (h_tuple:mg "tuple"=none) {fM fR:Addr} {fdM fdR:FuncData} (XM:Fn K mg "most_houses" CA ["case"] fM fdM) (GM:AL P w K mg base Ce 1 fM fdM ["case"] Q7) (XR:Fn K mg "are_rising" CS ["things"] fR fdR) (GR:AL P w K mg base Ce 2 fR fdR ["things"] (Lq K)) {f:Addr} {fd:FuncData} (F:EU K "is_opening" "is_opening" CQ f fd):AL P w K mg base Ce 3 f fd ["case","thing"] (Q9 K):=by
 refine F.ok Fu (fun vs H Q E h=>?_) (fun cdv A outer s H vs Q E hr h=>?_)
 ·obtain ⟨c,sites,x,d,v,rfl,_⟩:=h;rfl
 ·obtain ⟨c,sites,x,d,v,rfl,cs,rise,names,k⟩:=h;have nd:=Fu.nd;have hu:=En hr;have big:1000 < sizeLine:=by decide
  refine ⟨_,(Ae (Dt (N4 (F4 (F3 (Al Hv (by rfl) h_isinstance PyProof.Rows.boot_isinstance (Aa (pv 1) (Aa (NL (v:=.ty "tuple") (by rfl) h_tuple PyProof.Rows.boot_tuple rfl) Ac))))) (K7 (F4 (Io JU JU Ag (Al Eh (by rfl) h_len PySem.boot_len (Aa (pv 1) Ac)) (Ak GM (hr.mono (by decide)) (by rfl) XM.mg XM.F.kp XM.b .nil Ax (Aa (pv 0) Ac)))))).pt
  (Aj (AG Gf))
  BP)
  (Ae (Aq (i:=2) nd rfl (Or.inr rfl) (A7 (DK rfl) (by rfl) h_dict PyProof.Rows.boot_dict (Aa (AA Rx (pv 0) Ag (fun _ _=>rfl)) Ac)))
  (Aj (AG (Rf (Ak GR (hr.mono (by decide)) (by rfl) XR.mg XR.F.kp XR.b .nil Ax (Aa (pv 1) Ac)) (Ra (Al (EO rfl) (by rfl) h_all PyProof.Rows.boot_all (Aa (Bj (N:=["place","sites"]) rfl CM (CI [none,some 2]) (QY (pv 1))
   (fun s2 H C fp=>⟨(Ah (i:=0) (show (["place","sites"]:List Str).Nodup by decide +kernel) rfl (Or.inl rfl)),AV,(KA (UL hu (pv 0) (pv 1)))⟩)) Ac)))))))),?_⟩
  rcases k with ⟨ds,⟨t,xs,rfl,ht,dx,short,few⟩,k⟩ | ⟨⟨ty,t1,t2⟩,k⟩
  ·exists _,rfl,_,"tuple",_,_,rfl,.tup ht,rfl,_,rfl;refine F8 ?_;exists _,rfl,t,_,rfl,.inr (AF.of ht),_,_,rfl,rfl,_,rfl;have dl:=dx.len;refine Ck (fun z1=>?_) (fun z1=>?_)
   ·refine ⟨_,rfl,c,sites,x,d,rfl,cs,fun mo mo0 mok=>?_⟩;obtain ⟨mV,t2V,t1,Fm,rs1,hc,Gz,HR,rfl,snd,sl,lim⟩:=cs;have ul:=BR HR;rw [YV] at sl mok;exists _,_,rfl,rfl,_,rfl;refine Ck (fun z2=>?_) (fun z2=>?_)
    ·refine k _ _ (Au.refl _) ⟨fun q=>absurd q (by decide),fun ⟨ss,e,_,sub,lb⟩=>?_⟩;have l1:=sub.length_le;rw [YV] at l1;have:=(mok _ l1).mpr lb;rw [dl,e,YV] at z2;simp [this] at z2
    ·have z3:(xs.length:Int)<=mo:=by simpa using z2
     refine ⟨_,rfl,c,_,_,_,rfl,rfl,AF.of hc,rfl,t1,Fm,DE rs1,rfl,Gz,by unfold DE; rw [YV]; exact ul,Nz HR,by rw [Fc]; exact snd,by unfold DE; rw [YV]; lia,fun B hB=>?_⟩;have s1:=Ad (o:=.dK (sK (DE rs1))) hB;have Tj:(upd H B (.dK (sK (DE rs1)))) B=some (.dK (sK (DE rs1))):=Ab;generalize upd H B (.dK (sK (DE rs1)))=H1 at s1 Tj;refine ⟨_,rfl,t,xs,ds,rfl,.inr (s1 _ _ ht),dx.mono (fun a o e _=>s1 a o e),short,few,fun b H2 s2 hb=>⟨_,rfl,?_⟩⟩;refine Ck (fun z=>?_) (fun z=>?_)
     ·obtain ⟨ss,rfl,hn,ri⟩:=hb.mp z;obtain rfl:=dx.txt;rw [YV] at few z1 z3;have ne:ss ≠ []:=fun e=>by subst e; simp at z1
      have Y8:=s2 _ _ Tj;have GG:=s2 _ _ (s1 _ _ ht);exists _,rfl,t,rfl,⟨_,AF.of GG⟩
      refine BI BU (xs:=ss.map V.str) (fun D i σ H' acc=>∃ v0:Option V,σ=[v0,some (.ref B)]/\Au H2 H'/\H' D=some (.lst acc)/\acc=((ss.take i).map fun y=>decide (y ∈ rs1.map (·.1))).map V.bl/\acc.length=i)
       (by rw [YV]; lia) (fun D hD=>⟨_,rfl,Ad hD,Ab,rfl,rfl⟩) (fun D i σ H' acc hD ⟨v0,_,sa,AM,_,al⟩=>⟨AF.of (sa _ _ GG),AM,al⟩) ?_ ?_
      ·rintro D i σ H' acc x' Bk hD ex ⟨v0,rfl,sa,AM,rfl,al⟩ hBk;obtain ⟨y,ey,rfl⟩:∃ y,ss[i]? = some y/\x'=.str y:=by
        rw [Ze] at ex;cases q:ss[i]? with
        | none=>rw [q] at ex; cases ex
        | some y=>rw [q] at ex; exact ⟨y,rfl,(Zo.inj ex).symm⟩
       exists _,rfl,_,rfl,B,_,rfl,BF.k (k:=Sum.inr y) (sa _ _ Y8);rw [Hi,Fc];refine hBk _ _ _ AM ⟨_,rfl,fun b o e=>?_,Ab,?_,by rw [Za,al]; rfl⟩
       ·rw [Af (Ai e hD)];exact sa _ _ e
       ·rw [Zs,ey,Zi,Zi];rfl
      ·rintro D σ H' acc hD ⟨v0,rfl,sa,AM,rfl,al⟩;rw [YV,Zu] at AM;exists D,_,rfl,A9.of AM;refine k _ _ (s1.trans (s2.trans sa)) ?_;rw [bY,aw];constructor
       ·intro h;have sub:=DV ri rise fun y hy=>by simpa using h y hy
        have l1:=sub.length_le;rw [YV] at l1;exact ⟨ss,rfl,ne,sub,(mok _ l1).mp z3⟩
       ·rintro ⟨s5,e5,_,sub,_⟩ y hy;rw [DQ e5] at hy;simpa using sub.subset hy
     ·refine k _ _ (s1.trans s2) ⟨fun q=>absurd q (by decide),fun ⟨ss,e,_,sub,_⟩=>absurd (hb.mpr ⟨ss,e,fun y hy=>names y (sub.subset hy),rise.sub sub⟩) z⟩
   ·exists _,rfl;refine IK ?_;refine k _ _ (Au.refl _) ⟨fun q=>absurd q (by decide),fun ⟨ss,e,ne,_⟩=>?_⟩;rw [dl,e,YV,decide_eq_true_eq] at z1;exact absurd (ZF.mp (by lia)) ne
  ·exists _,rfl,_,"tuple",_,_,rfl,t1,t2,_,rfl;exact k _ (Au.refl _)
end
section
variable {P:Program} {w:World} {K:YX} {mg:Str->Option Value} {base:Heap}
theorem Gh {fF:Addr} {fdF:FuncData} (XF:Fn K mg "fars" K3 ["web","place"] fF fdF) (GF:AL P w K mg base Ce 3 fF fdF ["web","place"] (QA K)) {f:Addr} {fd:FuncData} (F:EU K "site_fars" "site_fars" Dm f fd):AL P w K mg base Ce 4 f fd ["case"] Ib:=by
 refine F.ok FU (fun vs H Q E h=>?_) (fun cdv A outer s H vs Q E hr h=>?_)
 ·obtain ⟨c,m,n,xs,ws,rs1,Av,x,d,rfl,_⟩:=h;rfl
 ·obtain ⟨c,m,n,xs,ws,rs1,Av,x,d,rfl,cw,k⟩:=h;have nd:=FU.nd;have big:100000 < sizeLine:=by decide
  refine ⟨_,(Aj (AG (Ir (N:=["place","price","case"]) rfl CM (CI [none,none,some 0]) (AZ K rfl (AA (Bc K rfl) (pv 0) Ag (fun _ _=>rfl)))
   (fun s2 H C fp=>⟨(BD K rfl (n:=2) rfl (Ar (Ah (i:=0) (show (["place","price","case"]:List Str).Nodup by decide +kernel) rfl (Or.inl rfl)) (Ar (Ah (i:=1) (show (["place","price","case"]:List Str).Nodup by decide +kernel) rfl (Or.inl rfl)) BC))),AV,(pv 0),(Ak GF (hr.mono (by decide)) (by rfl) XF.mg XF.F.kp XF.b .nil Ax (Aa (AA (Bc K rfl) (pv 2) Ag (fun _ _=>rfl)) (Aa (pv 0) Ac)))⟩)))),?_⟩
  obtain ⟨t1,t2,Fm,Js,hc,Gz,HR,GG,hd2⟩:=cw.ex;obtain ⟨r,okw,pos,uni⟩:=cw.map.web cw.n1 cw.n30;have ul:=BR HR;have l1:=cw.l1;exists _,rfl,c,_,_,_,rfl,rfl,AF.of hc,rfl,t1,rfl,⟨_,AF.of Gz⟩
  refine OS BU (xs:=Fm) (rs1.map (·.1)) (by rw [YV,ul]) cw.ok1.nd (fun D i σ H' nv=>∃ (v0 v1:Option V),σ=[v0,v1,some (.ref c)]/\Au H H'/\H' D=some (.dK (sK nv))/\nv.map (·.1)=(rs1.map (·.1)).take i/\∀ s v,(s,v) ∈ nv->RZ H' v xs ws s)
   (by lia) (fun D hD=>⟨_,_,rfl,Ad hD,Ab,rfl,fun s v hm=>nomatch hm⟩) (fun D i σ H' nv hD ⟨v0,v1,_,sa,AM,nk,_⟩=>⟨AF.of (sa _ _ Gz),AM,nk⟩) ?_ ?_
  ·rintro D i σ H' nv x' kk B hD ex ek ⟨v0,v1,rfl,sa,AM,nk,nf⟩ hB;obtain ⟨u,t,eu,rfl,ht⟩:=C2 HR ex;have e:kk=u.1:=by
    rw [Ze,eu] at ek;exact (Zo.inj ek).symm
   subst e;exists t,_,rfl,AF.of (sa _ _ ht),rfl,_,_,rfl,_,_,rfl,rfl;refine ⟨_,rfl,_,rfl,c,_,_,_,rfl,rfl,AF.of (sa _ _ hc),rfl,_,rfl,m,xs,ws,r,u.1,rfl,okw.same sa,pos,uni,cw.ok1.sub u (YY eu),fun H1 B1 nb s1 fB VA nbK nbV=>?_⟩;have RD:=s1 _ _ AM;refine hB _ _ _ RD ⟨_,_,rfl,fun b o' z=>by rw [Af (Ai z hD)]; exact s1 _ _ (sa _ _ z),Ab,?_,fun s v hm=>?_⟩
   ·rw [Zi,nk,Zs,ek];rfl
   ·have nB:∀ {b:Addr} {kv:List (A4 × V)},b ≠ D->H1 b=some (.dK kv)->(upd H1 D (.dK (sK (nv ++ [(u.1,.ref B1)])))) b=some (.dK kv):=fun nb z=>by rw [Af nb]; exact z
    rcases Zp.mp hm with hm | hm
    ·obtain ⟨B2,Ue,rfl,z1,z2,z3⟩:=nf s v hm;by_cases e:B2=D
     ·subst e;rw [AM] at z1;have e:=HO.dK.inj (Zo.inj z1);have Xk:((Sum.inr s:A4),V.ref B2) ∈ sK Ue:=by rw [<-e]; exact Zd.mpr ⟨_,hm,rfl⟩
      obtain ⟨⟨y,u'⟩,h1,h2⟩:=Zd.mp Xk;cases h2
      obtain ⟨n',e',_⟩:=z3 _ _ h1;cases e'
     ·exact ⟨B2,Ue,rfl,nB e (s1 _ _ z1),z2,z3⟩
    ·simp only [Zl,Prod.mk.injEq] at hm;obtain ⟨rfl,rfl⟩:=hm;exact ⟨B1,nb,rfl,nB (fun z=>by rw [z,AM] at fB; cases fB) VA,nbK,nbV⟩
  ·rintro D σ H' nv hD ⟨v0,v1,rfl,sa,AM,nk,nf⟩;rw [ul,show rs1.length=(rs1.map (·.1)).length by rw [YV],Zu] at nk;exact k H' D nv sa hD AM nk nf
end
section
variable {P:Program} {w:World} {K:YX} {mg:Str->Option Value} {base:Heap}
theorem E9 (h_len:mg "len"=none) (h_min:mg "min"=none) {f:Addr} {fd:FuncData} (F:EU K "most_houses" "most_houses" CA f fd):AL P w K mg base Ce 1 f fd ["case"] Q7:=by
 refine F.ok Ey (fun vs H Q E h=>?_) (fun cdv A outer s H vs Q E hr h=>?_)
 ·obtain ⟨c,sites,x,d,rfl,_⟩:=h;rfl
 ·obtain ⟨c,sites,x,d,rfl,cs,k⟩:=h;have nd:=Ey.nd;have big:100000 < sizeLine:=by decide
  refine ⟨_,(Ae (E6 (pv 0) (BD K rfl rfl (Ar (Ah (i:=1) nd rfl (Or.inl rfl)) (Ar (Ah (i:=2) nd rfl (Or.inl rfl)) (Ar (Ah (i:=3) nd rfl (Or.inl rfl)) (Ar (Ah (i:=4) nd rfl (Or.inl rfl)) BC))))))
  (Aj (AG (Ip (E5 (G8 (pv 4))) (Al (Az K rfl) (by rfl) h_len PySem.boot_len (Aa (pv 2) Ac)) (Al (GP rfl) (by rfl) h_min PyProof.Rows.boot_min (Aa (pv 4) (Aa (Al (Az K rfl) (by rfl) h_len PySem.boot_len (Aa (pv 2) Ac)) Ac))))))),?_⟩
  obtain ⟨mV,t2V,t1,Fm,rs1,hc,Gz,HR,rfl,snd,sl,lim⟩:=cs;have ul:=BR HR;exists _,rfl,c,_,rfl,AF.of hc,rfl,_,_,rfl,_,_,rfl,_,_,rfl,_,_,rfl,rfl;exists _,rfl,_,rfl;rcases lim with ⟨rfl,_⟩ | ⟨lm,rfl,_,lm1,lm2⟩
  ·refine Ck (fun _=>?_) (fun z=>by simp at z);exists _,rfl,t1,_,rfl,.inr (AF.of Gz);refine k _ (by lia) fun j hj=>?_
   rw [YV] at hj;simp only [Ea,iff_true];lia
  ·refine Ck (fun z=>by simp at z) (fun _=>?_);exists _,rfl,_,rfl,t1,_,rfl,.inr (AF.of Gz),_,_,rfl;refine k _ (by split <;> lia) fun j hj=>?_
   rw [YV] at hj;simp only [Ea,decide_eq_true_eq];split <;> lia
end
section
variable {P:Program} {w:World} {K:YX} {mg:Str->Option Value} {base:Heap}
theorem Hm (h_dict:mg "dict"=none) (h_min:mg "min"=none) (h_sum:mg "sum"=none) {fS:Addr} {fdS:FuncData} (XS:Fn K mg "site_fars" Dm ["case"] fS fdS) (GS:AL P w K mg base Ce 4 fS fdS ["case"] Ib) {f:Addr} {fd:FuncData} (F:EU K "costs_of" "costs_of" DT f fd):AL P w K mg base Ce 5 f fd ["case","chosen"] JI:=by
 refine F.ok Hg (fun vs H Q E h=>?_) (fun cdv A outer s H vs Q E hr h=>?_)
 ·obtain ⟨c,e,m,n,xs,ws,rs1,Av,x,d,us,os,rfl,_⟩:=h;rfl
 ·obtain ⟨c,e,m,n,xs,ws,rs1,Av,x,d,us,os,rfl,cw,he,tU,ond,opn,ol,k⟩:=h;have nd:=Hg.nd;have hu:=En hr;have big:100000 < sizeLine:=by decide
  refine ⟨_,(Ae (E6 (pv 0) (BD K rfl rfl (Ar (Ah (i:=2) nd rfl (Or.inl rfl)) (Ar (Ah (i:=3) nd rfl (Or.inl rfl)) (Ar (Ah (i:=4) nd rfl (Or.inl rfl)) (Ar (Ah (i:=5) nd rfl (Or.inl rfl)) BC))))))
  (Ae (Aq (i:=6) nd rfl (Or.inr rfl) (A7 (DK rfl) (by rfl) h_dict PyProof.Rows.boot_dict (Aa (pv 3) Ac)))
  (Ae (Aq (i:=7) nd rfl (Or.inr rfl) (Ak GS (hr.mono (by decide)) (by rfl) XS.mg XS.F.kp XS.b .nil Ax (Aa (pv 0) Ac)))
  (Ae (Aq (i:=8) nd rfl (Or.inl rfl) Iq)
  (Ae (Bz PassesOwn.never rfl (Bq K rfl (pv 1)) (Ah (i:=9) nd rfl (Or.inr rfl))
  (Ae (QW (fun x=>decide (x=("place":Str))) (ix:=10) (N:=["place","many","aways","houses"]) nd rfl (Or.inl rfl) rfl (Gx.caught (by rfl) rfl (by decide +kernel) (by intro y hy; simp only [Zg,ZE,or_false] at hy; rcases hy with rfl | rfl <;> rfl) (by refine List.Pairwise.cons (fun y hy=>?_) (aM _ _); rw [Zl.mp hy]; show @Ne Nat _ _; lia)
   (by intro y hy e; simp only [Zg,ZE,or_false] at hy; rcases hy with rfl | rfl | rfl | rfl | rfl | rfl <;> first | exact ⟨_,Zq⟩ | exact ⟨_,Zv _ Zq⟩ | cases e)) (by intro x h; have h':=of_decide_eq_true h; subst h'; decide +kernel) (CI [none,none,some 7,some 9]) (by
   intro σ i x v h1 h2;match i,h1,h2 with
   | 0,_,h2=>cases h2
   | 1,_,h2=>cases h2
   | 2,h1,h2=>cases h1; decide +kernel
   | 3,h1,h2=>cases h1; decide +kernel
   | n + 4,h1,_=>cases h1) (AZ K rfl (pv 4))
   (fun s2 H C fp=>⟨(BD K rfl (n:=2) rfl (Ar (Ah (i:=0) (show (["place","many","aways","houses"]:List Str).Nodup by decide +kernel) rfl (Or.inr rfl) (.inl (by dsimp only; exact decide_eq_true rfl))) (Ar (Ah (i:=1) (show (["place","many","aways","houses"]:List Str).Nodup by decide +kernel) rfl (Or.inl rfl)) BC))),AV,(Aw NO (pv 1) (Al (D7 rfl) (by rfl) h_min PyProof.Rows.boot_min (Aa (Bj (N:=["house","place","aways"]) rfl CM (CI [none,some 0,some 2]) (AZ K rfl (pv 3))
   (fun s2 H C fp=>⟨(Ah (i:=0) (show (["house","place","aways"]:List Str).Nodup by decide +kernel) rfl (Or.inl rfl)),AV,(AH hu (AH hu (pv 2) (pv 0) (fun _ _=>rfl)) (pv 1) (fun _ _=>rfl))⟩)) Ac)))⟩))
  (Aj (Ca hu (pv 8) (pv 9) (Aw Br (Al (D6 rfl) (by rfl) h_sum PyProof.Rows.boot_sum (Aa (Bj (N:=["house","charges"]) rfl CM (CI [none,some 6]) (AZ K rfl (pv 9))
   (fun s2 H C fp=>⟨(Ah (i:=0) (show (["house","charges"]:List Str).Nodup by decide +kernel) rfl (Or.inl rfl)),AV,(AH hu (pv 1) (pv 0) (fun _ _=>rfl))⟩)) Ac)) (Al (D6 rfl) (by rfl) h_sum PyProof.Rows.boot_sum (Aa (pv 10) Ac))) rfl))))
  (Aj (AG (pv 8)))))))),?_⟩
  obtain ⟨t1,t2,Fm,Js,hc,Gz,HR,GG,hd2⟩:=cw.ex;have VH:=BR HR;have ul2:=BR hd2;have l1:=cw.l1;have l2:=cw.l2;have hul:=tU.len;exists _,rfl,c,_,rfl,AF.of hc,rfl,_,_,rfl,_,_,rfl,_,_,rfl,_,_,rfl,rfl;refine ⟨_,rfl,t1,Fm,DE rs1,rfl,Gz,by unfold DE; rw [YV]; exact VH,Nz HR,by rw [Fc]; exact cw.ok1.nd,by unfold DE; rw [YV]; lia,fun CH hCH=>?_⟩;have s1:=Ad (o:=.dK (sK (DE rs1))) hCH;have hCC:(upd H CH (.dK (sK (DE rs1)))) CH=some (.dK (sK (DE rs1))):=Ab;generalize upd H CH (.dK (sK (DE rs1)))=H1 at s1 hCC;refine ⟨_,rfl,c,m,n,xs,ws,rs1,Av,x,d,rfl,cw.same s1,fun H2 AW nv s2 fA hA nk nf=>?_⟩;have QM:=s1.trans s2;intro D hD;have s3:=Ad (o:=.dT []) hD;have fD:H D=none:=by
   cases z:H D with
   | none=>rfl
   | some o'=>rw [QM _ _ z] at hD; cases hD
  exists _,rfl,e,rfl,⟨_,A9.of (s3 _ _ (QM _ _ he))⟩
  refine Kf (xs:=us) (fun i σ H'=>∃ (v9 v10:Option V) (kvs:List (List A4 × V)),σ=[some (.ref c),some (.ref e),some (.ref m),some (.ref t1),some (.ref t2),some x,some (.ref CH),some (.ref AW),some (.ref D),v9,v10]/\Au H2 H'/\H' D=some (.dT kvs)/\kvs.map (·.1)=(os.take i).map (fun ss=>ss.map Sum.inr)/\(∀ ss v,(ss.map Sum.inr,v) ∈ kvs->∃ t,v=.int t/\Bn ws rs1 Av ss t))
   ⟨_,_,[],rfl,s3,Ab,rfl,fun ss v hm=>nomatch hm⟩ (fun i σ H' _ ⟨_,_,_,_,sa,_⟩=>A9.of (sa _ _ (QM _ _ he))) ?_ ?_
  ·rintro i v σ H' hv ⟨v9,v10,kvs,rfl,sa,AM,kk,kt⟩ rt bk NN hN;obtain ⟨o,ss,rfl,es,ho⟩:=tU.get hv;have hsm:=YY es;have hi:i < os.length:=(YZ.mp es).1;obtain ⟨sne,snd,ssub⟩:=opn ss hsm;have sl:ss.length<=rs1.length:=by
    have:=List.Nodup.length_le_of_subset snd (fun s hs=>ssub s hs);rw [YV] at this;exact this
   have Wu:=QM _ _ ho;have sx:∀ s ∈ ss,s ∈ xs:=fun s hs=>by
    obtain ⟨r,Sf,rfl⟩:=Zd.mp (ssub s hs);exact cw.ok1.sub r Sf
   have nnd:(nv.map (·.1)).Nodup:=by rw [nk]; exact cw.ok1.nd
   exists _,rfl,t2,rfl,⟨_,AF.of (sa _ _ (QM _ _ GG))⟩
   refine BI BU (xs:=Js) (fun D2 j As H3 acc=>∃ (v0 v1:Option V) (ds:List Int),As=[v0,v1,some (.ref AW),some (.ref o)]/\Au H' H3/\H3 D2=some (.lst acc)/\acc=((Av.zip ds).map fun p=>p.1.2 * p.2).map V.int/\ds.length=j/\acc.length=j/\∀ (q:Nat) r d,Av[q]? = some r->ds[q]? = some d->Md ws ss r.1 d)
    (by lia) (fun D2 Kd=>⟨_,_,[],rfl,Ad Kd,Ab,by rw [List.zip_nil_right]; rfl,rfl,rfl,fun q r d _ e=>by simp at e⟩)
    (fun D2 j As H3 acc Kd ⟨v0,v1,ds,_,sb,RC,_,_,al,_⟩=>⟨AF.of (sb _ _ (sa _ _ (QM _ _ GG))),RC,al⟩) ?_ ?_
   ·rintro D2 j As H3 acc x' B Kd ex ⟨v0,v1,ds,rfl,sb,RC,ea,dl,al,dm⟩ hB;obtain ⟨u,t,eu,rfl,ht⟩:=C2 hd2 ex;have um:=YY eu;have ux:u.1 ∈ xs:=cw.ok2.sub u um;have ub:=cw.ok2.lo u um;have sab:=sa.trans sb;have hA3:=sab _ _ hA;exists t,_,rfl,AF.of (sab _ _ (QM _ _ ht)),rfl,_,_,rfl,_,_,rfl,rfl;exists _,rfl,_,rfl,o,rfl,⟨_,AF.of (sab _ _ Wu)⟩
    refine BI BU (xs:=ss.map V.str) (fun D3 q Ku H4 GQ=>∃ (w0:Option V) (ns:List Int),Ku=[w0,some (.str u.1),some (.ref AW)]/\Au H3 H4/\H4 D3=some (.lst GQ)/\GQ=ns.map V.int/\ns.length=q/\GQ.length=q/\∀ (a:Nat) n' s,ns[a]? = some n'->ss[a]? = some s->HW ws s u.1 n')
     (by rw [YV]; lia) (fun D3 GH=>⟨_,[],rfl,Ad GH,Ab,rfl,rfl,rfl,fun a n' s e=>by simp at e⟩)
     (fun D3 q Ku H4 GQ GH ⟨w0,ns,_,sc,IT,_,_,T4,_⟩=>⟨AF.of (sc _ _ (sab _ _ Wu)),IT,T4⟩) ?_ ?_
    ·rintro D3 q Ku H4 GQ x3 B3 GH RH ⟨w0,ns,rfl,sc,IT,Uo,nl,T4,nm⟩ Y7;obtain ⟨s,ey,rfl⟩:∃ s,ss[q]? = some s/\x3=.str s:=by
      rw [Ze] at RH;cases z:ss[q]? with
      | none=>rw [z] at RH; cases RH
      | some y=>rw [z] at RH; exact ⟨y,rfl,(Zo.inj RH).symm⟩
     have hs:=YY ey;obtain ⟨⟨s',vB⟩,hm,Tn⟩:=Zd.mp (show s ∈ nv.map (·.1) by rw [nk]; exact ssub s hs);have Tn:s'=s:=Tn;subst Tn;obtain ⟨Bf,nb,rfl,hBf,nbk,nbv⟩:=nf _ _ hm;obtain ⟨⟨y',vy⟩,hmy,YD⟩:=Zd.mp (show u.1 ∈ nb.map (·.1) by rw [nbk]; exact ux);have YD:y'=u.1:=YD;subst YD;obtain ⟨nn,rfl,dst⟩:=nbv _ _ hmy;have nbnd:(nb.map (·.1)).Nodup:=by rw [nbk]; exact cw.map.at'.nd
     have dg1:BF H4 AW (.str s') (some (.ref Bf)):=.inl ⟨_,Sum.inr s',.inl (sc _ _ hA3),rfl,(Dr nnd hm).symm⟩;have dg2:BF H4 Bf (.str u.1) (some (.int nn)):=.inl ⟨_,Sum.inr u.1,.inl (sc _ _ (sab _ _ hBf)),rfl,(Dr nbnd hmy).symm⟩;exists _,rfl,_,rfl,AW,.ref Bf,rfl,dg1,_,rfl,Bf,.int nn,rfl,dg2;refine Y7 _ _ _ IT ⟨_,ns ++ [nn],rfl,fun b o' z=>by rw [Af (Ai z GH)]; exact sc _ _ z,Ab,by rw [Uo,Zi]; rfl,by rw [Za,nl]; rfl,by rw [Za,T4]; rfl,fun a n' s e1 e2=>?_⟩;by_cases ha:a < ns.length
     ·rw [Zz ha] at e1;exact nm a n' s e1 e2
     ·have Ys:=(YZ.mp e1).1;rw [Za,Z9] at Ys;have hqa:a=q:=by lia
      subst hqa;rw [Zx (by lia),show a - ns.length=0 by lia,ZS] at e1;cases e1
      rw [ey] at e2;cases e2
      exact dst
    ·rintro D3 Ku H4 GQ GH ⟨w0,ns,rfl,sc,IT,Uo,nl,T4,nm⟩;rw [YV] at nl;have nne:ns ≠ []:=fun z=>by rw [z] at nl; exact sne (ZF.mp nl.symm)
     refine ⟨D3,ns,rfl,by rw [IT,Uo],nne,fun mn hmn hle=>?_⟩;have md:Md ws ss u.1 mn:=by
      obtain ⟨a,ha⟩:=aj hmn;have ha':=(YZ.mp ha).1;have Lc:ss[a]? = some (ss[a]'(by lia)):=YU _;refine ⟨⟨_,YY Lc,(nm a _ _ ha Lc).1⟩,fun s hs mm g=>?_⟩;obtain ⟨b,hb⟩:=aj hs;have Fz:=(YZ.mp hb).1;have en:ns[b]? = some (ns[b]'(by lia)):=YU _;have z1:=hle _ (YY en);have z2:=(nm b _ _ en hb).2 mm g;lia
     have bd:0<=mn/\mn < 2 ^ 300:=by
      obtain ⟨a,ha⟩:=aj hmn;have ha':=(YZ.mp ha).1;have Lc:ss[a]? = some (ss[a]'(by lia)):=YU _;exact cw.map.bound cw.n1 cw.n30 (sx _ (YY Lc)) ux (nm a _ _ ha Lc)
     exists _,_,rfl,rfl,⟨⟨by lia,by lia⟩,⟨by lia,by lia⟩⟩
     have Y6:=sc _ _ RC;refine hB _ _ _ Y6 ⟨_,_,ds ++ [mn],rfl,fun b o' z=>by rw [Af (Ai z Kd)]; exact sc _ _ (sb _ _ z),Ab,?_,by rw [Za,dl]; rfl,by rw [Za,al]; rfl,fun q r d e1 e2=>?_⟩
     ·rw [Le (a:=u) (by rw [dl]; exact eu),Zi,Zi,ea];rfl
     ·by_cases ha:q < ds.length
      ·rw [Zz ha] at e2;exact dm q r d e1 e2
      ·have Ys:=(YZ.mp e2).1;rw [Za,Z9] at Ys;have hqa:q=j:=by lia
       subst hqa;rw [Zx (by lia),show q - ds.length=0 by lia,ZS] at e2;cases e2
       rw [eu] at e1;cases e1
       exact md
   ·rintro D2 As H3 acc Kd ⟨v0,v1,ds,rfl,sb,RC,ea,dl,al,dm⟩;have sab:=sa.trans sb;have wd:Mg ws ss Av ds:=⟨by lia,dm⟩
    exists _,rfl,o,rfl,⟨_,AF.of (sab _ _ Wu)⟩
    refine BI BU (xs:=ss.map V.str) (fun D3 q Ku H4 GQ=>∃ w0:Option V,Ku=[w0,some (.ref CH)]/\Au H3 H4/\H4 D3=some (.lst GQ)/\GQ=((ss.take q).map (AO rs1)).map V.int/\GQ.length=q)
     (by rw [YV]; lia) (fun D3 GH=>⟨_,rfl,Ad GH,Ab,rfl,rfl⟩)
     (fun D3 q Ku H4 GQ GH ⟨w0,_,sc,IT,_,T4⟩=>⟨AF.of (sc _ _ (sab _ _ Wu)),IT,T4⟩) ?_ ?_
    ·rintro D3 q Ku H4 GQ x3 B3 GH RH ⟨w0,rfl,sc,IT,Uo,T4⟩ Y7;obtain ⟨s,ey,rfl⟩:∃ s,ss[q]? = some s/\x3=.str s:=by
      rw [Ze] at RH;cases z:ss[q]? with
      | none=>rw [z] at RH; cases RH
      | some y=>rw [z] at RH; exact ⟨y,rfl,(Zo.inj RH).symm⟩
     obtain ⟨r,Sf,rfl⟩:=Zd.mp (ssub s (YY ey));have hm:(r.1,V.int r.2) ∈ DE rs1:=by unfold DE; exact Zd.mpr ⟨r,Sf,rfl⟩
     have dg:BF H4 CH (.str r.1) (some (.int r.2)):=.inl ⟨_,Sum.inr r.1,.inl (sc _ _ (sab _ _ (s2 _ _ hCC))),rfl,(Dr (by rw [Fc]; exact cw.ok1.nd) hm).symm⟩;exists _,rfl,_,rfl,CH,.int r.2,rfl,dg;refine Y7 _ _ _ IT ⟨_,rfl,fun b o' z=>by rw [Af (Ai z GH)]; exact sc _ _ z,Ab,?_,by rw [Za,T4]; rfl⟩;rw [Uo,Zs,ey,Zi,Zi];simp [Eg cw.ok1.nd Sf]
    ·rintro D3 Ku H4 GQ GH ⟨w0,rfl,sc,IT,Uo,T4⟩;rw [YV,Zu] at Uo;have Y4:=sc _ _ (sb _ _ AM);have sall:=sab.trans sc;exists D3,_,rfl,A9.of (by rw [IT,Uo]),_,rfl,D2,_,rfl,A9.of (by rw [sc _ _ RC,ea]),_,_,rfl,rfl,_,rfl,_,rfl,D,_,rfl,DO.t (k:=ss.map Sum.inr) Y4 (by rw [S2]; exact sall _ _ Wu) ?_
     ·have:=congrArg aE kk;rw [YV,YV,Z8] at this;lia
     have nin:ss.map Sum.inr ∉ kvs.map (·.1):=by
      rw [kk];intro hm;obtain ⟨s2,Ws,e2⟩:=Zd.mp hm;have e2:=Oj e2;subst e2;obtain ⟨b,hb,eb⟩:=Zm Ws;rw [Z8] at hb;rw [aU] at eb;have Fz:b < os.length:=by lia
      have e5:os[b]=os[i]:=eb.trans (Zo.inj ((YU hi).symm.trans es)).symm;have:=(cj (i:=b) (j:=i) (h₀:=Fz) (h₁:=hi) ond).mp e5;lia
     rw [Im _ (Lg nin)];refine hN _ _ ⟨_,_,kvs ++ [(ss.map Sum.inr,_)],rfl,fun b o' z=>by rw [Af (Ai z hD)]; exact sall _ _ z,Ab,?_,fun s2 v2 hm=>?_⟩
     ·rw [Zi,kk,Zs,es,Zi];rfl
     ·rcases Zp.mp hm with hm | hm
      ·exact kt s2 v2 hm
      ·simp only [Zl,Prod.mk.injEq] at hm;obtain ⟨e1,rfl⟩:=hm;have e1:=Oj e1;subst e1;exact ⟨_,rfl,ds,wd,rfl⟩
  ·rintro σ H' ⟨v9,v10,kvs,rfl,sa,AM,kk,kt⟩;rw [hul,Zu] at kk;exact ⟨_,rfl,k H' D kvs (QM.trans sa) fD AM kk kt⟩
end
section
variable {P:Program} {w:World} {K:YX} {mg:Str->Option Value} {base:Heap}
theorem Iw (h_int:mg "int"=none) {f:Addr} {fd:FuncData} (F:EU K "_law_lengths" "_law_lengths" CB f fd):AL P w K mg base Ce 1 f fd ["_law_plan"] Nt:=by
 refine F.ok Ez (fun vs H Q E h=>?_) (fun cdv A outer s H vs Q E hr h=>?_)
 ·obtain ⟨q,n,xs,ws,rfl,_⟩:=h;rfl
 ·obtain ⟨q,n,xs,ws,rfl,mw,Xe,SN,k⟩:=h;have hu:=En hr;have nd:=Ez.nd;have big:16000000 < sizeLine:=by decide
  have two:2<=sizeLine:=by decide
  obtain ⟨r0,okw,pos,uni⟩:=mw.web Xe SN;obtain ⟨D,e,us,hq,hD,hE,hW⟩:=mw.at'.ex;have ends:=okw.ends;have x30:xs.length<=30:=okw.l30;have w64:=okw.l64;have wof:∀ u ∈ ws,u.1 ∈ xs/\u.2.1 ∈ xs/\u.1 ≠ u.2.1/\1<=u.2.2:=fun u hu=>⟨(ends u hu).1,(ends u hu).2,mw.apart hu,pos u hu⟩
  have hwl:us.length=ws.length:=by rw [Jc hW,YV]
  refine ⟨_,(Ae (Aq (i:=1) nd rfl (Or.inl rfl) Iq)
  (Ae (Bz PassesOwn.never rfl (AZ K rfl (AA (Bc K rfl) (pv 0) Ag (fun _ _=>rfl))) (Ah (i:=2) nd rfl (Or.inl rfl))
  (Aj (Bz PassesOwn.never rfl (AZ K rfl (AA (Bc K rfl) (pv 0) Ag (fun _ _=>rfl))) (Ah (i:=3) nd rfl (Or.inl rfl))
  (Aj (Ca hu (pv 1) (Bb (Aa (pv 2) (Aa (pv 3) Ac))) (AA (AB K rfl) (Bu (Aa G7 (Aa Ag Ac))) (A7 CY (by rfl) h_int PyProof.Rows.boot_int (Aa (Ge NQ (pv 2) (pv 3) (BV _)) Ac)) (fun _ _=>rfl)) rfl)))))
  (Ae (Bz PassesOwn.never rfl (AZ K rfl (AA (Bc K rfl) (pv 0) Ag (fun _ _=>rfl))) (BD K rfl rfl (Ar (Ah (i:=2) nd rfl (Or.inl rfl)) (Ar (Ah (i:=3) nd rfl (Or.inl rfl)) (Ar (Ah (i:=4) nd rfl (Or.inl rfl)) BC))))
  (Ae (Ca hu (pv 1) (Bb (Aa (pv 2) (Aa (pv 3) Ac))) (pv 4) rfl)
  (Aj (Ca hu (pv 1) (Bb (Aa (pv 3) (Aa (pv 2) Ac))) (pv 4) rfl))))
  (Ae (Bz PassesOwn.never rfl (AZ K rfl (AA (Bc K rfl) (pv 0) Ag (fun _ _=>rfl))) (Ah (i:=5) nd rfl (Or.inl rfl))
  (Aj (Bz PassesOwn.never rfl (AZ K rfl (AA (Bc K rfl) (pv 0) Ag (fun _ _=>rfl))) (Ah (i:=2) nd rfl (Or.inl rfl))
  (Aj (Bz PassesOwn.never rfl (AZ K rfl (AA (Bc K rfl) (pv 0) Ag (fun _ _=>rfl))) (Ah (i:=3) nd rfl (Or.inl rfl))
  (Ae (Aq (i:=6) nd rfl (Or.inl rfl) (AH hu (pv 1) (Bb (Aa (pv 2) (Aa (pv 5) Ac))) (fun _ _=>rfl)))
  (Ae (Aq (i:=7) nd rfl (Or.inl rfl) (AH hu (pv 1) (Bb (Aa (pv 5) (Aa (pv 3) Ac))) (fun _ _=>rfl)))
  (Ae (Aq (i:=8) nd rfl (Or.inl rfl) (AH hu (pv 1) (Bb (Aa (pv 2) (Aa (pv 3) Ac))) (fun _ _=>rfl)))
  (Aj (Dt (M3 (E5 (KC (pv 6))) (M3 (E5 (KC (pv 7))) (NA (N4 (E5 (G8 (pv 8))) (K7 (BO JS (Aw Br (pv 6) (pv 7)) (pv 8) (BV _)))).pt))).pt
  (Aj (Ca hu (pv 1) (Bb (Aa (pv 2) (Aa (pv 3) Ac))) (Aw Br (pv 6) (pv 7)) rfl))
  BP))))))))))
  (Aj (AG (pv 1))))))),?_⟩
  intro A hA;have V0:MV (upd H A (.dT [])) A (fun _ _=>none) 0:=⟨[],Ab,Zb _,fun x y=>rfl⟩
  have nAD:∀ {b:Addr} {u:HO},H b=some u->b ≠ A:=fun z=>Ai z hA
  have strAt:∀ {i:Nat} {v:V},(xs.map V.str)[i]? = some v->∃ x,xs[i]? = some x/\v=.str x/\i < xs.length:=fun {i v} h=>by
   rw [Ze] at h;cases ex:xs[i]? with
   | none=>rw [ex] at h; cases h
   | some x=>rw [ex] at h; exact ⟨x,rfl,(Zo.inj h).symm,(YZ.mp ex).1⟩
  refine ⟨_,rfl,q,_,_,_,rfl,rfl,AF.of (Ad hA _ _ hq),rfl,D,rfl,⟨_,AF.of (Ad hA _ _ hD)⟩,CG (xs:=xs.map V.str) (fun i σ H2=>(∃ v4 v5 v6 v7 v8 v9 v10,σ=[some (.ref q),some (.ref A),v4,v5,v6,v7,v8,v9,v10])/\Au H H2/\∃ G,MV H2 A G (i * 30)/\(∀ x y v,G x y=some v->x ∈ xs/\y ∈ xs/\v=oI (if x=y then some 0 else none))/\∀ (a:Nat) x,a < i->xs[a]? = some x->∀ y ∈ xs,∃ v,G x y=some v)
   ⟨⟨_,_,_,_,_,_,_,rfl⟩,Ad hA,_,V0.up (Z7 _),fun x y v h=>(by cases h),fun j x hj=>absurd hj (aB _)⟩ (fun i σ H2 _ hP=>AF.of (hP.2.1 _ _ hD)) (fun i v σ H2 hv hP rt bk N hNi=>?_) (fun σ H2 hP=>?_)⟩
  ·obtain ⟨⟨v4,v5,v6,v7,v8,v9,v10,rfl⟩,s2,G0,hG0,m1,m2⟩:=hP;obtain ⟨one,eone,rfl,ilt⟩:=strAt hv;refine ⟨_,rfl,q,_,_,_,rfl,rfl,AF.of (s2 _ _ hq),rfl,D,rfl,⟨_,AF.of (s2 _ _ hD)⟩,CG (xs:=xs.map V.str) (fun j σ H3=>(∃ v5 v6 v7 v8 v9 v10,σ=[some (.ref q),some (.ref A),some (.str one),v5,v6,v7,v8,v9,v10])/\Au H H3/\∃ G,MV H3 A G (i * 30 + j)/\(∀ x y v,G x y=some v->x ∈ xs/\y ∈ xs/\v=oI (if x=y then some 0 else none))/\(∀ (a:Nat) x,a < i->xs[a]? = some x->∀ y ∈ xs,∃ v,G x y=some v)/\∀ (b:Nat) y,b < j->xs[b]? = some y->∃ v,G one y=some v)
    ⟨⟨_,_,_,_,_,_,rfl⟩,s2,G0,hG0.up (by lia),m1,m2,fun b y hb=>absurd hb (aB _)⟩ (fun i σ H3 _ hP=>AF.of (hP.2.1 _ _ hD)) (fun j v σ H3 hv hP rt bk N hNj=>?_) (fun σ H3 hP=>?_)⟩
   ·obtain ⟨⟨v5,v6,v7,v8,v9,v10,rfl⟩,s3,G1,Xn,m3,m4,m5⟩:=hP;obtain ⟨oth,eoth,rfl,jlt⟩:=strAt hv;have cb:i * 30 + j < 16000000:=by
     have:i * 30<=30 * 30:=bc _ (by lia);lia
    refine ⟨(by show 2<=sizeLine; lia),fun L hL=>?_⟩;have q1:=Ad (o:=.lst [.non,.int 0]) hL;have hL':(upd H3 L (.lst [.non,.int 0])) L=some (.lst [.non,.int 0]):=Ab;generalize upd H3 L (.lst [.non,.int 0])=H4 at q1 hL' ⊢;have ix:HV [V.non,.int 0] (if decide (V.str one=V.str oth)=true then 1 else 0)=some (oI (if one=oth then some 0 else none)):=by
     by_cases z:one=oth
     ·subst z;rw [if_pos (decide_eq_true rfl),if_pos rfl];rfl
     ·rw [if_neg (fun h=>z (by have:=of_decide_eq_true h; injection this)),if_neg z];rfl
    refine ⟨_,rfl,_,rfl,rfl,.inr ⟨_,rfl,L,_,_,_,rfl,rfl,A9.of hL',ix,?_⟩⟩;refine ⟨_,rfl,_,rfl,_,rfl,two,fun t ht=>?_⟩;have q2:=q1.trans (Ad (o:=.tup [.str one,.str oth]) ht);obtain ⟨H5,dp,hG5,kvs,e5⟩:=(Xn.same q2).put (by lia) (v:=oI (if one=oth then some 0 else none)) (t:=t) (x:=one) (y:=oth) Ab;refine ⟨A,H5,rfl,dp,hNj _ _ ⟨⟨_,_,_,_,_,_,rfl⟩,fun b u z=>?_,_,hG5.up (by lia),fun x y v h=>?_,fun a x ha ex y hy=>?_,fun b y hb ey=>?_⟩⟩
    ·rw [e5,Af (nAD z)];exact q2 _ _ (s3 _ _ z)
    ·unfold Mv at h;split at h
     ·rename_i hc
      obtain ⟨rfl,rfl⟩:=hc;cases h
      exact ⟨YY eone,YY eoth,rfl⟩
     ·exact m3 x y v h
    ·unfold Mv;split
     ·exact ⟨_,rfl⟩
     ·exact m4 a x ha ex y hy
    ·unfold Mv;split
     ·exact ⟨_,rfl⟩
     ·rename_i hc
      refine m5 b y ?_ ey;have:b ≠ j:=by
       rintro rfl;rw [eoth] at ey;exact hc ⟨rfl,(Zo.inj ey).symm⟩
      lia
   ·obtain ⟨⟨v5,v6,v7,v8,v9,v10,rfl⟩,s3,G1,Xn,m3,m4,m5⟩:=hP;rw [YV] at Xn m5;refine hNi _ _ ⟨⟨_,_,_,_,_,_,_,rfl⟩,s3,G1,Xn.up (by lia),m3,fun a x ha ex y hy=>?_⟩;by_cases ea:a=i
    ·subst ea;rw [eone] at ex;cases ex
     obtain ⟨b,hb,eb⟩:=Zm hy;exact m5 b y hb (by rw [YU hb,eb])
    ·exact m4 a x (by lia) ex y hy
  obtain ⟨⟨v4,v5,v6,v7,v8,v9,v10,rfl⟩,s2,G,hG,m1,m2⟩:=hP;rw [YV] at hG m2;obtain ⟨M,hMe⟩:∃ M:Str->Str->Option Int,M=fun x y=>if x=y/\x ∈ xs then some 0 else none:=⟨_,rfl⟩
  have hM:MO H2 A xs M 1000:=by
   refine ⟨G,hG.up (by lia),fun x hx y hy=>?_,fun x y hn=>?_⟩
   ·obtain ⟨a,ha,ea⟩:=Zm hx;obtain ⟨v,hv⟩:=m2 a x ha (by rw [YU ha,ea]) y hy;rw [hv,(m1 x y v hv).2.2,hMe];by_cases z:x=y
    ·rw [if_pos z];show _=some (oI (if x=y/\x ∈ xs then some 0 else none))
     rw [if_pos ⟨z,hx⟩]
    ·rw [if_neg z];show _=some (oI (if x=y/\x ∈ xs then some 0 else none))
     rw [if_neg (fun h=>z h.1)]
   ·cases hg:G x y with
    | none=>rfl
    | some v=>exact absurd ⟨(m1 x y v hg).1,(m1 x y v hg).2.1⟩ hn
  have m1:∀ x y n,M x y=some n->x=y/\n=0:=fun x y n h=>by
   rw [hMe] at h;dsimp only at h;split at h
   ·rename_i hc
    cases h
    exact ⟨hc.1,rfl⟩
   ·cases h
  have WJ:∀ x ∈ xs,M x x=some 0:=fun x hx=>by
   rw [hMe];exact if_pos ⟨rfl,hx⟩
  refine ⟨_,rfl,q,_,_,_,rfl,rfl,AF.of (s2 _ _ hq),rfl,e,rfl,⟨_,AF.of (s2 _ _ hE)⟩,CG (xs:=us) (fun i σ H3=>(∃ v4 v5 v6 v7 v8 v9 v10,σ=[some (.ref q),some (.ref A),v4,v5,v6,v7,v8,v9,v10])/\Au H H3/\∃ M,MO H3 A xs M (1000 + 2 * i)/\(∀ x y n,M x y=some n->(x=y/\n=0)\/BY ws x y n)/\(∀ x ∈ xs,M x x=some 0)/\∀ x y n,BY (ws.take i) x y n->M x y=some n)
   ⟨⟨_,_,_,_,_,_,_,rfl⟩,s2,M,(hM.up (by lia)),fun x y n h=>.inl (m1 x y n h),WJ,fun x y n h=>(by obtain ⟨u,hu,_⟩:=h; exact absurd hu ZE)⟩ (fun i σ H3 _ hP=>AF.of (hP.2.1 _ _ hE)) (fun i v σ H3 hv hP rt bk N hN=>?_) (fun σ H3 hP=>?_)⟩
  ·obtain ⟨⟨v4,v5,v6,v7,v8,v9,v10,rfl⟩,s3,M,hM,n1,n2,n3⟩:=hP;obtain ⟨u,tt,gu,rfl,htt⟩:=Jb hW hv;have um:=YY gu;have une:u.1 ≠ u.2.1:=(wof u um).2.2.1;have hi:i < ws.length:=(YZ.mp gu).1;exists tt,_,rfl,AF.of (s3 _ _ htt),rfl,_,_,rfl,_,_,rfl,_,_,rfl,rfl;refine ⟨_,rfl,_,rfl,_,rfl,_,rfl,two,fun t ht=>?_⟩;obtain ⟨H4,dp,hM4,kvs,e4⟩:=(hM.same (Ad (o:=.tup [.str u.1,.str u.2.1]) ht)).put (by lia) (wof u um).1 (wof u um).2.1 (n:=u.2.2) (t:=t) (x:=u.1) (y:=u.2.1) Ab;have s4:Au H H4:=fun b o z=>by
    rw [e4,Af (nAD z)];exact Ad ht _ _ (s3 _ _ z)
   exists A,H4,rfl,dp;refine ⟨_,rfl,_,rfl,_,rfl,_,rfl,two,fun t2 GG=>?_⟩;obtain ⟨H5,dp2,hM5,kvs2,e5⟩:=(hM4.same (Ad (o:=.tup [.str u.2.1,.str u.1]) GG)).put (by lia) (wof u um).2.1 (wof u um).1 (n:=u.2.2) (t:=t2) (x:=u.2.1) (y:=u.1) Ab;refine ⟨A,H5,rfl,dp2,hN _ _ ⟨⟨_,_,_,_,_,_,_,rfl⟩,fun b o z=>?_,_,(hM5.up (by lia)),fun a b n h=>?_,fun x hx=>?_,fun a b n h=>?_⟩⟩
   ·rw [e5,Af (nAD z)];exact Ad GG _ _ (s4 _ _ z)
   ·unfold K2 at h;split at h
    ·rename_i hc
     cases h
     exact .inr ⟨u,um,.inr ⟨hc.2.symm,hc.1.symm⟩,rfl⟩
    ·split at h
     ·rename_i hc
      cases h
      exact .inr ⟨u,um,.inl ⟨hc.1.symm,hc.2.symm⟩,rfl⟩
     ·exact n1 a b n h
   ·unfold K2;rw [if_neg (fun z=>une (z.2.symm.trans z.1)),if_neg (fun z=>une (z.1.symm.trans z.2))];exact n2 x hx
   ·have hE':BY ws a b n:=by
     obtain ⟨v,hv,r⟩:=h;exact ⟨v,dk hv,r⟩
    unfold K2;split
    ·rename_i hc
     have:=uni _ _ _ _ hE' ⟨u,um,.inr ⟨hc.2.symm,hc.1.symm⟩,rfl⟩;rw [this]
    ·rename_i hc1
     split
     ·rename_i hc
      have:=uni _ _ _ _ hE' ⟨u,um,.inl ⟨hc.1.symm,hc.2.symm⟩,rfl⟩;rw [this]
     ·rename_i PH
      refine n3 a b n ?_;obtain ⟨v,hv,ev,el⟩:=h;rw [Zs,gu] at hv;rcases Zp.mp hv with hv | hv
      ·exact ⟨v,hv,ev,el⟩
      ·have:v=u:=by simpa using hv
       subst this;rcases ev with ⟨x1,x2⟩ | ⟨x1,x2⟩
       ·exact absurd ⟨x1.symm,x2.symm⟩ PH
       ·exact absurd ⟨x2.symm,x1.symm⟩ hc1
  obtain ⟨⟨v4,v5,v6,v7,v8,v9,v10,rfl⟩,s3,M,hM,n1,n2,n3⟩:=hP;rw [hwl,Zu] at n3;have FW0:FW ws xs 0 M:=by
   refine ⟨fun x y n h=>?_,fun x y m g=>?_,fun x hx=>⟨0,n2 x hx,ZD _⟩⟩
   ·rcases n1 x y n h with ⟨rfl,rfl⟩ | h
    ·exact .nil x
    ·have:=Bh.cons h (.nil y);rwa [ak] at this
   ·cases g with
    | edge e=>exact ⟨m,n3 x y m e,ZD _⟩
    | cons _ h _=>exact absurd h ZE
  refine ⟨_,rfl,q,_,_,_,rfl,rfl,AF.of (s3 _ _ hq),rfl,D,rfl,⟨_,AF.of (s3 _ _ hD)⟩,CG (xs:=xs.map V.str) (fun t σ H4=>(∃ v4 v5 v6 v7 v8 v9 v10,σ=[some (.ref q),some (.ref A),v4,v5,v6,v7,v8,v9,v10])/\Au H H4/\∃ M,MO H4 A xs M (2000 + t * 1000)/\FW ws xs t M)
   ⟨⟨_,_,_,_,_,_,_,rfl⟩,s3,M,(hM.up (by lia)),FW0⟩ (fun i σ H4 _ hP=>AF.of (hP.2.1 _ _ hD)) (fun t v σ H4 hv hP rt bk N hNt=>?_) (fun σ H4 hP=>?_)⟩
  ·obtain ⟨⟨v4,v5,v6,v7,v8,v9,v10,rfl⟩,s4,M0,hM0,fw⟩:=hP;have strAt:∀ {i:Nat} {v:V},(xs.map V.str)[i]? = some v->∃ x,xs[i]? = some x/\v=.str x/\i < xs.length:=fun {i v} h=>by
    rw [Ze] at h;cases ex:xs[i]? with
    | none=>rw [ex] at h; cases h
    | some x=>rw [ex] at h; exact ⟨x,rfl,(Zo.inj h).symm,(YZ.mp ex).1⟩
   obtain ⟨mid,emid,rfl,tlt⟩:=strAt hv;refine ⟨_,rfl,q,_,_,_,rfl,rfl,AF.of (s4 _ _ hq),rfl,D,rfl,⟨_,AF.of (s4 _ _ hD)⟩,CG (xs:=xs.map V.str) (fun i σ H5=>(∃ v4 v5 v6 v8 v9 v10,σ=[some (.ref q),some (.ref A),v4,v5,v6,some (.str mid),v8,v9,v10])/\Au H H5/\∃ M,MO H5 A xs M (2000 + t * 1000 + i * 30)/\Gw M0 M/\(∀ x y n,M x y=some n->Bh ws x y n)/\∀ (a:Nat) x,a < i->xs[a]? = some x->∀ y ∈ xs,∀ p1 p2,M0 x mid=some p1->M0 mid y=some p2->∃ n,M x y=some n/\n<=p1 + p2)
    ⟨⟨_,_,_,_,_,_,rfl⟩,s4,M0,(hM0.up (by lia)),Gw.refl _,fw.sound,fun a x ha=>absurd ha (aB _)⟩ (fun i σ H5 _ hP=>AF.of (hP.2.1 _ _ hD)) (fun i v σ H5 hv hP rt bk N hNi=>?_) (fun σ H5 hP=>?_)⟩
   ·obtain ⟨⟨v4,v5,v6,v8,v9,v10,rfl⟩,s5,M1,Vh,Wh,so1,Sm⟩:=hP;obtain ⟨one,eone,rfl,ilt⟩:=strAt hv;refine ⟨_,rfl,q,_,_,_,rfl,rfl,AF.of (s5 _ _ hq),rfl,D,rfl,⟨_,AF.of (s5 _ _ hD)⟩,CG (xs:=xs.map V.str) (fun j σ H6=>(∃ v5 v6 v8 v9 v10,σ=[some (.ref q),some (.ref A),some (.str one),v5,v6,some (.str mid),v8,v9,v10])/\Au H H6/\∃ M,MO H6 A xs M (2000 + t * 1000 + i * 30 + j)/\Gw M1 M/\(∀ x y n,M x y=some n->Bh ws x y n)/\∀ (b:Nat) y,b < j->xs[b]? = some y->∀ p1 p2,M0 one mid=some p1->M0 mid y=some p2->∃ n,M one y=some n/\n<=p1 + p2)
     ⟨⟨_,_,_,_,_,rfl⟩,s5,M1,(Vh.up (by lia)),Gw.refl _,so1,fun b y hb=>absurd hb (aB _)⟩ (fun i σ H6 _ hP=>AF.of (hP.2.1 _ _ hD)) (fun j v σ H6 hv hP rt bk N hNj=>?_) (fun σ H6 hP=>?_)⟩
    ·obtain ⟨⟨v5,v6,v8,v9,v10,rfl⟩,s6,M2,Uk,V6,so2,Qo⟩:=hP;obtain ⟨oth,eoth,rfl,jlt⟩:=strAt hv;have cb:2000 + t * 1000 + i * 30 + j < 16000000:=by
      have:t * 1000<=30 * 1000:=bc _ (by lia);have:i * 30<=30 * 30:=bc _ (by lia);lia
     have moAll:=Wh.trans V6;have hone:one ∈ xs:=YY eone;have hoth:oth ∈ xs:=YY eoth;have hmid:mid ∈ xs:=YY emid;have keepM:∀ {H7:Hp} (v8 v9 v10:Option V),Au H6 H7->(∀ p1 p2,M0 one mid=some p1->M0 mid oth=some p2->∃ n,M2 one oth=some n/\n<=p1 + p2) ->
       (∃ w5 w6 w8 w9 X1,([some (.ref q),some (.ref A),some (.str one),some (.str oth),v6,some (.str mid),v8,v9,v10]:St)=[some (.ref q),some (.ref A),some (.str one),w5,w6,some (.str mid),w8,w9,X1])/\Au H H7/\∃ M,MO H7 A xs M (2000 + t * 1000 + i * 30 + (j + 1))/\Gw M1 M/\(∀ x y n,M x y=some n->Bh ws x y n)/\∀ (b:Nat) y,b < j + 1->xs[b]? = some y->∀ p1 p2,M0 one mid=some p1->M0 mid y=some p2->∃ n,M one y=some n/\n<=p1 + p2:=by
      intro H7 v8 v9 v10 s7 hv2;refine ⟨⟨_,_,_,_,_,rfl⟩,s6.trans s7,M2,((Uk.same s7).up (by lia)),V6,so2,fun b y hb ey p1 p2 q1 q2=>?_⟩;by_cases eb:b=j
      ·subst eb;rw [eoth] at ey;cases ey
       exact hv2 p1 p2 q1 q2
      ·exact Qo b y (by lia) ey p1 p2 q1 q2
     refine ⟨_,rfl,_,rfl,_,rfl,two,fun t1 Gz=>?_⟩;have z1:=Ad (o:=.tup [.str one,.str mid]) Gz;exists A,_,rfl,(Uk.same z1).get hone hmid Ab;refine ⟨_,rfl,_,rfl,_,rfl,two,fun t2 GG=>?_⟩;have z2:=z1.trans (Ad (o:=.tup [.str mid,.str oth]) GG);exists A,_,rfl,(Uk.same z2).get hmid hoth Ab;refine ⟨_,rfl,_,rfl,_,rfl,two,fun t3 Ym=>?_⟩;have z3:=z2.trans (Ad (o:=.tup [.str one,.str oth]) Ym);exists A,_,rfl,(Uk.same z3).get hone hoth Ab;generalize upd (upd (upd H6 t1 (.tup [.str one,.str mid])) t2 (.tup [.str mid,.str oth])) t3 (.tup [.str one,.str oth])=H7 at z3;exists _,rfl,_,rfl;cases eo:M2 one mid with
     | none=>
      refine F8 (F8 ?_);refine hNj _ _ (keepM _ _ _ z3 fun p1 p2 q1 _=>?_);obtain ⟨n',e',_⟩:=moAll one mid p1 q1;rw [eo] at e';cases e'
     | some a1=>
      refine IK ?_;exists _,rfl,_,rfl;cases em:M2 mid oth with
      | none=>
       refine F8 (F8 ?_);refine hNj _ _ (keepM _ _ _ z3 fun p1 p2 _ q2=>?_);obtain ⟨n',e',_⟩:=moAll mid oth p2 q2;rw [em] at e';cases e'
      | some a2=>
       refine IK ?_;have low:∀ p1 p2,M0 one mid=some p1->M0 mid oth=some p2->a1 + a2<=p1 + p2:=fun p1 p2 q1 q2=>by
        obtain ⟨n1',Vn,l1'⟩:=moAll one mid p1 q1;obtain ⟨n2',Xw,l2'⟩:=moAll mid oth p2 q2;rw [eo] at Vn;rw [em] at Xw;cases Vn
        cases Xw
        lia
       have putM:∀ (v10:Option V),(∀ n,M2 one oth=some n->a1 + a2<=n)->∀ t6,H7 t6=none->∃ a H8,V.ref A=.ref a/\DO (upd H7 t6 (.tup [.str one,.str oth])) a (.ref t6) (.int (a1 + a2)) H8 /\
         ((∃ w5 w6 w8 w9 X1,([some (.ref q),some (.ref A),some (.str one),some (.str oth),v6,some (.str mid),some (.int a1),some (.int a2),v10]:St)=[some (.ref q),some (.ref A),some (.str one),w5,w6,some (.str mid),w8,w9,X1])/\Au H H8/\∃ M,MO H8 A xs M (2000 + t * 1000 + i * 30 + (j + 1))/\Gw M1 M/\(∀ x y n,M x y=some n->Bh ws x y n)/\∀ (b:Nat) y,b < j + 1->xs[b]? = some y->∀ p1 p2,M0 one mid=some p1->M0 mid y=some p2->∃ n,M one y=some n/\n<=p1 + p2):=by
        intro v10 hle t6 Wn;have hws:=(so2 _ _ _ eo).app (so2 _ _ _ em);have z6:=z3.trans (Ad (o:=.tup [.str one,.str oth]) Wn);obtain ⟨H8,dp,Y0,kvs,e8⟩:=(Uk.same z6).put (by lia) hone hoth (n:=a1 + a2) (t:=t6) (x:=one) (y:=oth) Ab;have mo8:Gw M2 (K2 M2 one oth (a1 + a2)):=fun x y n h=>by
         unfold K2;split
         ·rename_i hc
          obtain ⟨rfl,rfl⟩:=hc;exact ⟨_,rfl,hle n h⟩
         ·exact ⟨n,h,ZD _⟩
        refine ⟨A,H8,rfl,dp,⟨_,_,_,_,_,rfl⟩,fun b o z=>?_,_,Y0,V6.trans mo8,fun x y n h=>?_,fun b y hb ey p1 p2 q1 q2=>?_⟩
        ·rw [e8,Af (nAD z)];exact z6 _ _ (s6 _ _ z)
        ·unfold K2 at h;split at h
         ·rename_i hc
          obtain ⟨rfl,rfl⟩:=hc;cases h
          exact hws
         ·exact so2 x y n h
        ·by_cases eb:b=j
         ·subst eb;rw [eoth] at ey;cases ey
          refine ⟨a1 + a2,?_,low p1 p2 q1 q2⟩;unfold K2;rw [if_pos ⟨rfl,rfl⟩]
         ·obtain ⟨n,en,ln⟩:=Qo b y (by lia) ey p1 p2 q1 q2;obtain ⟨n',YE,ln'⟩:=mo8 one y n en;exact ⟨n',YE,by lia⟩
       exists _,rfl,_,rfl;cases ez:M2 one oth with
       | none=>
        refine IK (IK ?_);refine ⟨_,rfl,_,rfl,_,_,rfl,rfl,_,rfl,_,rfl,_,rfl,two,fun t6 Wn=>?_⟩;exact (putM _ (fun n h=>by rw [ez] at h; cases h) t6 Wn).imp fun _ h=>h.imp fun _ h=>⟨h.1,h.2.1,hNj _ _ h.2.2⟩
       | some a3=>
        refine F8 ?_;exists _,rfl,_,rfl,_,_,rfl,rfl,_,rfl,_,_,rfl,rfl,_,rfl;refine Ck (fun Bv=>?_) (fun Bv=>?_)
        ·have Bv:=of_decide_eq_true Bv;refine ⟨_,rfl,_,rfl,_,_,rfl,rfl,_,rfl,_,rfl,_,rfl,two,fun t6 Wn=>?_⟩;exact (putM _ (fun n h=>by rw [ez] at h; cases h; lia) t6 Wn).imp fun _ h=>h.imp fun _ h=>⟨h.1,h.2.1,hNj _ _ h.2.2⟩
        ·have Bv:¬ a1 + a2 < a3:=fun z=>Bv (decide_eq_true z)
         refine hNj _ _ (keepM _ _ _ z3 fun p1 p2 q1 q2=>⟨a3,ez,?_⟩);have:=low p1 p2 q1 q2;lia
    ·obtain ⟨⟨v5,v6,v8,v9,v10,rfl⟩,s6,M2,Uk,V6,so2,Qo⟩:=hP;rw [YV] at Uk Qo;refine hNi _ _ ⟨⟨_,_,_,_,_,_,rfl⟩,s6,M2,(Uk.up (by lia)),Wh.trans V6,so2,fun a x ha ex y hy p1 p2 q1 q2=>?_⟩;by_cases ea:a=i
     ·subst ea;rw [eone] at ex;cases ex
      obtain ⟨b,hb,eb⟩:=Zm hy;exact Qo b y hb (by rw [YU hb,eb]) p1 p2 q1 q2
     ·obtain ⟨n,en,ln⟩:=Sm a x (by lia) ex y hy p1 p2 q1 q2;obtain ⟨n',YE,ln'⟩:=V6 x y n en;exact ⟨n',YE,by lia⟩
   ·obtain ⟨⟨v4,v5,v6,v8,v9,v10,rfl⟩,s5,M1,Vh,Wh,so1,Sm⟩:=hP;rw [YV] at Vh Sm;refine hNt _ _ ⟨⟨_,_,_,_,_,_,_,rfl⟩,s5,M1,(Vh.up (by lia)),fw.next pos ends emid Wh so1 fun x hx y hy p1 p2 q1 q2=>?_⟩;obtain ⟨a,ha,ea⟩:=Zm hx;exact Sm a x ha (by rw [YU ha,ea]) y hy p1 p2 q1 q2
  ·obtain ⟨⟨v4,v5,v6,v7,v8,v9,v10,rfl⟩,s4,M1,Vh,fw⟩:=hP;rw [YV] at Vh fw;exact ⟨_,rfl,k H4 A s4 hA ⟨_,_,Vh.md (fun x hx y hy=>let ⟨nn,e,_⟩:=fw.doneW ends (fun x hx y hy=>let ⟨kk,a,_⟩:=mw.sums Xe SN x hx y hy; ⟨kk,a⟩) x hx y hy; ⟨nn,e⟩),fun x hx y hy=>(fw.doneW ends (fun x hx y hy=>let ⟨kk,a,_⟩:=mw.sums Xe SN x hx y hy; ⟨kk,a⟩) x hx y hy).imp fun nn h=>⟨by rw [if_pos ⟨hx,hy⟩]; exact h.1,h.2,mw.bound Xe SN hx hy h.2⟩⟩⟩
end
section
variable {P:Program} {w:World} {K:YX} {mg:Str->Option Value} {base:Heap}
theorem L9 (h_int:mg "int"=none) (h_len:mg "len"=none) (h_min:mg "min"=none) (h_tuple:mg "tuple"=none) {fT:Addr} {fdT:FuncData} (XT:Fn K mg "_law_take" AK ["_law_pen","_law_many"] fT fdT) (GT:AL P w K mg base Ce 1 fT fdT ["_law_pen","_law_many"] (Dk K)) {fN:Addr} {fdN:FuncData} (XN:Fn K mg "_law_names" Dp ["_law_pen","_law_many"] fN fdN) (GN:AL P w K mg base Ce 2 fN fdN ["_law_pen","_law_many"] (Lr K)) {fL:Addr} {fdL:FuncData} (XL:Fn K mg "_law_length" C0 ["_law_pen"] fL fdL) (GL:AL P w K mg base Ce 2 fL fdL ["_law_pen"] (Ms K)) {fS:Addr} {fdS:FuncData} (XS:Fn K mg "_law_some" DR ["_law_pen","_law_names_here","_law_many"] fS fdS) (GS:AL P w K mg base Ce 2 fS fdS ["_law_pen","_law_names_here","_law_many"] (Nq K)) {fM:Addr} {fdM:FuncData} (XM:Fn K mg "_law_map" C6 ["_law_pen","_law_names_here","_law_shape"] fM fdM) (GM:AL P w K mg base Ce 3 fM fdM ["_law_pen","_law_names_here","_law_shape"] (Q8 K)) {f:Addr} {fd:FuncData} (F:EU K "_law_case" "_law_case" DS f fd):AL P w K mg base Ce 4 f fd ["_law_pen","_law_shape"] (Nw K):=by
 refine F.ok Hf (fun vs H Q E h=>?_) (fun cdv A outer s H vs Q E hr h=>?_)
 ·obtain ⟨p,sh,rfl,_⟩:=h;rfl
 ·obtain ⟨p,sh,rfl,hP,WX,sh4,k⟩:=h;have nd:=Hf.nd;have big:100000 < sizeLine:=by decide
  refine ⟨_,(Ae (Aq (i:=2) nd rfl (Or.inl rfl) (Ak GN (hr.mono (by decide)) (by rfl) XN.mg XN.F.kp XN.b .nil Ax (Aa (pv 0) (Aa (Aw Br Ag (Ak GT (hr.mono (by decide)) (by rfl) XT.mg XT.F.kp XT.b .nil Ax (Aa (pv 0) (Aa Ag Ac)))) Ac))))
  (Ae (Aq (i:=3) nd rfl (Or.inl rfl) (Ak GM (hr.mono (by decide)) (by rfl) XM.mg XM.F.kp XM.b .nil Ax (Aa (pv 0) (Aa (pv 2) (Aa (pv 1) Ac)))))
  (Ae (Aq (i:=4) nd rfl (Or.inl rfl) (Ak GT (hr.mono (by decide)) (by rfl) XT.mg XT.F.kp XT.b .nil Ax (Aa (pv 0) (Aa Ag Ac))))
  (Ae (Aq (i:=5) nd rfl (Or.inl rfl) (Bu Ac))
  (Ae (Bz PassesOwn.never rfl (Bq K rfl (Ak GS (hr.mono (by decide)) (by rfl) XS.mg XS.F.kp XS.b .nil Ax (Aa (pv 0) (Aa (pv 2) (Aa (Aw Br Ag (Ak GT (hr.mono (by decide)) (by rfl) XT.mg XT.F.kp XT.b .nil Ax (Aa (pv 0) (Aa (Al (GP rfl) (by rfl) h_min PyProof.Rows.boot_min (Aa Ag (Aa (Al (Az K rfl) (by rfl) h_len PySem.boot_len (Aa (pv 2) Ac)) Ac))) Ac)))) Ac))))) (Ah (i:=6) nd rfl (Or.inl rfl))
  (Aj (Fd (Hl PySem.F.plainAttrs_list PySem.F.slot_list_append PySem.F.type_list_append Cc (pv 5) (Aa (Bb (Aa (pv 6) (Aa (AA (AB K rfl) (Bu (Aa Ag (Aa (Ak GT (hr.mono (by decide)) (by rfl) XT.mg XT.F.kp XT.b .nil Ax (Aa (pv 0) (Aa Ag Ac))) (Aa (Ak GT (hr.mono (by decide)) (by rfl) XT.mg XT.F.kp XT.b .nil Ax (Aa (pv 0) (Aa Ag Ac))) (Aa (Aw KD (Ak GL (hr.mono (by decide)) (by rfl) XL.mg XL.F.kp XL.b .nil Ax (Aa (pv 0) Ac)) Ag) Ac))))) (pv 4) (fun _ _=>rfl)) Ac))) Ac)))))
  (Ae (Aq (i:=7) nd rfl (Or.inl rfl) (Bu Ac))
  (Ae (Bz PassesOwn.never rfl (Bq K rfl (Ak GS (hr.mono (by decide)) (by rfl) XS.mg XS.F.kp XS.b .nil Ax (Aa (pv 0) (Aa (pv 2) (Aa (Aw Br Ag (Ak GT (hr.mono (by decide)) (by rfl) XT.mg XT.F.kp XT.b .nil Ax (Aa (pv 0) (Aa (Al (GP rfl) (by rfl) h_min PyProof.Rows.boot_min (Aa Ag (Aa (Al (Az K rfl) (by rfl) h_len PySem.boot_len (Aa (pv 2) Ac)) Ac))) Ac)))) Ac))))) (Ah (i:=6) nd rfl (Or.inl rfl))
  (Aj (Fd (Hl PySem.F.plainAttrs_list PySem.F.slot_list_append PySem.F.type_list_append Cc (pv 7) (Aa (Bb (Aa (pv 6) (Aa (AA (AB K rfl) (Bu (Aa (Aw Br Ag (Ak GT (hr.mono (by decide)) (by rfl) XT.mg XT.F.kp XT.b .nil Ax (Aa (pv 0) (Aa Ag Ac)))) (Aa (Ak GL (hr.mono (by decide)) (by rfl) XL.mg XL.F.kp XL.b .nil Ax (Aa (pv 0) Ac)) Ac))) (A7 CY (by rfl) h_int PyProof.Rows.boot_int (Aa (Ge NQ (Ak GT (hr.mono (by decide)) (by rfl) XT.mg XT.F.kp XT.b .nil Ax (Aa (pv 0) (Aa Ag Ac))) Ag (BV _)) Ac)) (fun _ _=>rfl)) Ac))) Ac)))))
  (Ae (Aq (i:=8) nd rfl (Or.inl rfl) (AA (AB K rfl) (Bu (Aa G7 (Aa (Aw Br Ag (Ak GT (hr.mono (by decide)) (by rfl) XT.mg XT.F.kp XT.b .nil Ax (Aa (pv 0) (Aa (Al (Az K rfl) (by rfl) h_len PySem.boot_len (Aa (pv 5) Ac)) Ac)))) (Aa (Aw Br Ag (Ak GT (hr.mono (by decide)) (by rfl) XT.mg XT.F.kp XT.b .nil Ax (Aa (pv 0) (Aa Ag Ac)))) Ac)))) (Ak GT (hr.mono (by decide)) (by rfl) XT.mg XT.F.kp XT.b .nil Ax (Aa (pv 0) (Aa Ag Ac))) (fun _ _=>rfl)))
  (Aj (AG (Bb (Aa (pv 3) (Aa (A7 (Bg K rfl) (by rfl) h_tuple PyProof.Rows.boot_tuple (Aa (pv 5) Ac)) (Aa (A7 (Bg K rfl) (by rfl) h_tuple PyProof.Rows.boot_tuple (Aa (pv 7) Ac)) (Aa (pv 8) Ac))))))))))))))),?_⟩
  have t30:(100:Int) < 10 ^ 30:=by decide
  refine ⟨_,rfl,_,rfl,p,9,rfl,hP,by decide,by decide,fun d1 H1 P1 k1 d10 d11=>⟨_,_,rfl,rfl,?_⟩⟩;obtain ⟨n1,rfl⟩:∃ n:Nat,d1=n:=⟨d1.toNat,by lia⟩
  refine ⟨p,1 + n1,rfl,P1,by lia,fun H2 D xs P2 k2 fD hD xl xnd xnm=>?_⟩;have nD:D ≠ p:=P1.ne fD;refine ⟨_,rfl,_,rfl,_,rfl,p,D,xs,sh,rfl,P2,hD,nD,xnd,xnm,by lia,by lia,WX,sh4,fun H3 m ps ws P3 k3 pp mw=>?_⟩;have GH:=k3 _ _ nD hD;have q3:=(k1.trans k2).trans k3;refine ⟨_,rfl,p,4,rfl,P3,by decide,by decide,fun wy H4 P4 k4 wy0 wy4=>?_⟩;have q4:=q3.trans k4;have mw4:=mw.keepT (DA P3 k4);have Qg:=k4 _ _ nD GH;clear mw GH hD k1 k2 k3 k4 q3 P1 P2 P3 fD;refine ⟨(by show 0<=sizeLine; lia),fun R hR=>?_⟩;have nR:R ≠ p:=P4.ne hR;have nRD:R ≠ D:=fun z=>by rw [z,Qg] at hR; cases hR
  have s5:=Ad (o:=.lst []) hR;have P5:=P4.same s5;have Yc:=mw4.keepT (fun b ys z=>s5 _ _ z);have J0:=s5 _ _ Qg;have Xm:(upd H4 R (.lst [])) R=some (.lst []):=Ab;have q5:Ba p H (upd H4 R (.lst [])):=q4.trans (Ba.of_same s5);have frR:H R=none:=by
   cases z:H R with
   | none=>rfl
   | some o=>rw [q4 _ _ nR z] at hR; cases hR
  generalize upd H4 R (.lst [])=H5 at P5 Yc J0 Xm q5;clear mw4 Qg hR s5 P4 q4;have lx:((xs.map V.str).length:Int)=1 + (n1:Int):=by rw [YV,xl]; lia
  refine ⟨_,rfl,_,rfl,_,rfl,_,rfl,D,_,rfl,.inl (A9.of J0),_,_,rfl,p,_,rfl,P5,by rw [lx]; split <;> lia,by rw [lx]; split <;> lia,fun d2 H6 P6 k6 d20 Xx=>⟨_,_,rfl,rfl,?_⟩⟩;rw [lx] at Xx;obtain ⟨n2,rfl⟩:∃ n:Nat,d2=n:=⟨d2.toNat,by lia⟩
  have n2b:1 + n2<=xs.length/\n2 < 6:=by
   rw [xl];split at Xx <;> lia
  refine ⟨p,D,xs,1 + n2,rfl,P6,k6 _ _ nD J0,nD,by lia,n2b.1,fun H7 D1 ys zs P7 k7 Xs RD pm yl so=>⟨D1,rfl,⟨_,A9.of RD⟩,?_⟩⟩;have Wl:=k6.trans k7;have mw7:=Yc.keepT (DA P5 Wl);have Sh:=Wl _ _ nD J0;have Yx:=Wl _ _ nR Xm;have q7:=q5.trans Wl;have nD1:D1 ≠ p:=P6.ne Xs;have nDR:D1 ≠ R:=fun z=>by rw [z,k6 _ _ nR Xm] at Xs; cases Xs
  clear Yc J0 Xm q5 k6 k7 Wl P5 P6 Xs;refine EF (xs:=ys.map V.str) (fun i σ H'=>∃ (v6:Option V) (rs:List BJ) (vs:List V),σ=[some (.ref p),some (.int sh),some (.ref D),some (.ref m),some (.int wy),some (.ref R),v6,none,none]/\R5 K H7 H' p R rs vs/\rs.map (·.1)=ys.take i/\vs.length=i/\∀ r ∈ rs,0<=r.2/\r.2 < 10 ^ 30)
   ⟨_,[],[],rfl,⟨P7,fun b o _ _ z=>z,Yx,.nil,nR⟩,rfl,rfl,fun r hr=>nomatch hr⟩ (fun i σ H' _ ⟨_,_,_,_,r5,_⟩=>A9.of (r5.kp _ _ nD1 nDR RD)) ?_ ?_
  ·rintro i v σ H' hv ⟨v6,rs,vs,rfl,r5,rt,vl,rl⟩;obtain ⟨y,ey,rfl⟩:∃ y,ys[i]? = some y/\v=.str y:=by
    rw [Ze] at hv;cases ex:ys[i]? with
    | none=>rw [ex] at hv; cases hv
    | some x=>rw [ex] at hv; exact ⟨x,rfl,(Zo.inj hv).symm⟩
   have ii:=(YZ.mp ey).1;refine ⟨_,rfl,.inl ⟨rfl,_,A9.of r5.hR⟩,_,rfl,_,rfl,p,5,rfl,r5.pn,by decide,by decide,fun e1 Ha Pa ka YI YH=>?_⟩;refine ⟨_,rfl,p,40,rfl,Pa,by decide,by decide,fun e2 Hb Pb kb e20 e21=>?_⟩;refine ⟨_,rfl,p,rfl,Pb,fun le Hc Pc kc Xf Wj=>⟨_,_,rfl,rfl,(by show 4<=sizeLine; lia),fun T hT=>?_⟩⟩;have rc:=r5.step Pc ((ka.trans kb).trans kc);obtain ⟨a,ha,a0,YS⟩:∃ a:Int,HV [V.int 0,V.int e1,V.int e2,V.int (le - 1)] wy=some (.int a)/\0<=a/\a < 10 ^ 30:=by
    have c:wy=0\/wy=1\/wy=2\/wy=3:=by lia
    rcases c with rfl | rfl | rfl | rfl
    ·exact ⟨0,rfl,by lia,by lia⟩
    ·exact ⟨e1,rfl,by lia,by lia⟩
    ·exact ⟨e2,rfl,by lia,by lia⟩
    ·exact ⟨le - 1,rfl,by lia,by lia⟩
   have rd:=rc.add hT (.lst [.int 0,.int e1,.int e2,.int (le - 1)]);refine ⟨_,rfl,T,_,_,_,rfl,rfl,A9.of Ab,ha,(by show 2<=sizeLine; lia),fun T2 Qf=>?_⟩;have re:=rd.add Qf (.tup [.str y,.int a]);exists R,_,_,rfl,rfl,re.hR,by lia
   refine ⟨_,rs ++ [(y,a)],_,rfl,re.app Ab,by rw [Zi,rt,Zs,ey]; rfl,by rw [Za,vl]; rfl,fun r hr=>?_⟩;rcases Zp.mp hr with hr | hr
   ·exact rl r hr
   ·rw [Zl.mp hr]; exact ⟨a0,YS⟩
  rintro σ H8 ⟨v6,rs1,X2,rfl,r8,WZ,vl1,rl1⟩;rw [YV,Zu] at WZ;rw [YV] at vl1;have rs1l:rs1.length=ys.length:=by rw [<-WZ,YV]
  have WT:∀ b xs,H7 b=some (.tup xs)->H8 b=some (.tup xs):=fun b xs z=>r8.kp b _ (by obtain ⟨_,_,_,_,y,_⟩:=P7; exact Cg z y (fun q=>by cases q)) (Cg z Yx (fun q=>by cases q)) z
  have mw8:=mw7.keepT WT;have Sg:=r8.kp _ _ nD nRD.symm Sh;have q8:Ba p H H8:=fun b o hb z=>r8.kp b o hb (Ai z frR) (q7 b o hb z)
  have P8:=r8.pn;have Yw:=r8.hR;have dd8:=r8.dd;have ok1:ES ps 0 rs1:=FZ pm xnd WZ rl1 (by lia) pp;clear r8 mw7 Sh Yx WT RD nDR nD1 q7 P7;refine ⟨(by show 0<=sizeLine; lia),fun R2 Ti=>?_⟩;have We:R2 ≠ p:=P8.ne Ti;have nR2D:R2 ≠ D:=fun z=>by rw [z,Sg] at Ti; cases Ti
  have nRR:R ≠ R2:=fun z=>by rw [<-z,Yw] at Ti; cases Ti
  have s9:=Ad (o:=.lst []) Ti;have P9:=P8.same s9;have Yb:=mw8.keepT (fun b ys z=>s9 _ _ z);have Xq:=s9 _ _ Sg;have Yv:=s9 _ _ Yw;have YK:=BH dd8 (fun b ys z=>s9 _ _ z);have Th:(upd H8 R2 (.lst [])) R2=some (.lst []):=Ab;have q9:Ba p H (upd H8 R2 (.lst [])):=q8.trans (Ba.of_same s9);have YA:H R2=none:=by
   cases z:H R2 with
   | none=>rfl
   | some o=>rw [q8 _ _ We z] at Ti; cases Ti
  generalize upd H8 R2 (.lst [])=H9 at P9 Yb Xq Yv YK Th q9;clear mw8 Sg Yw dd8 q8 P8 s9 Ti;refine ⟨_,rfl,_,rfl,_,rfl,_,rfl,D,_,rfl,.inl (A9.of Xq),_,_,rfl,p,_,rfl,P9,by rw [lx]; split <;> lia,by rw [lx]; split <;> lia,fun d3 Nf WN k10 d30 d31=>⟨_,_,rfl,rfl,?_⟩⟩;rw [lx] at d31;obtain ⟨n3,rfl⟩:∃ n:Nat,d3=n:=⟨d3.toNat,by lia⟩
  have n3b:1 + n3<=xs.length/\n3 < 8:=by
   rw [xl];split at d31 <;> lia
  refine ⟨p,D,xs,1 + n3,rfl,WN,k10 _ _ nD Xq,nD,by lia,n3b.1,fun Oy D2 VF Xz WM k11 Xr Kd Xa yl2 so2=>⟨D2,rfl,⟨_,A9.of Kd⟩,?_⟩⟩;have Pw:=k10.trans k11;have Wg:=Yb.keepT (DA P9 Pw);have WA:=Pw _ _ nR Yv;have WK:=BH YK (DA P9 Pw);have R9:=Pw _ _ We Th;have q11:=q9.trans Pw;have nD2:D2 ≠ p:=WN.ne Xr;have Wf:D2 ≠ R2:=fun z=>by rw [z,k10 _ _ We Th] at Xr; cases Xr
  clear Yb Xq Yv YK Th q9 P9 WN k10 k11 Pw Xr;refine EF (xs:=VF.map V.str) (fun i σ H'=>∃ (v6:Option V) (rs:List BJ) (vs:List V),σ=[some (.ref p),some (.int sh),some (.ref D),some (.ref m),some (.int wy),some (.ref R),v6,some (.ref R2),none]/\R5 K Oy H' p R2 rs vs/\rs.map (·.1)=VF.take i/\vs.length=i/\∀ r ∈ rs,1<=r.2/\r.2 < 10 ^ 30)
   ⟨_,[],[],rfl,⟨WM,fun b o _ _ z=>z,R9,.nil,We⟩,rfl,rfl,fun r hr=>nomatch hr⟩ (fun i σ H' _ ⟨_,_,_,_,r5,_⟩=>A9.of (r5.kp _ _ nD2 Wf Kd)) ?_ ?_
  ·rintro i v σ H' hv ⟨v6,rs,vs,rfl,r5,rt,vl,rl⟩;obtain ⟨y,ey,rfl⟩:∃ y,VF[i]? = some y/\v=.str y:=by
    rw [Ze] at hv;cases ex:VF[i]? with
    | none=>rw [ex] at hv; cases hv
    | some x=>rw [ex] at hv; exact ⟨x,rfl,(Zo.inj hv).symm⟩
   have ii:=(YZ.mp ey).1;refine ⟨_,rfl,.inl ⟨rfl,_,A9.of r5.hR⟩,_,rfl,_,rfl,p,4,rfl,r5.pn,by decide,by decide,fun e1 Ha Pa ka YI YH=>⟨_,_,rfl,rfl,?_⟩⟩;refine ⟨_,rfl,p,rfl,Pa,fun le Hc Pc kc Xf Wj=>⟨(by show 2<=sizeLine; lia),fun T hT=>?_⟩⟩;have rd:=(r5.step Pc (ka.trans kc)).add hT (.lst [.int (1 + e1),.int le]);have nT:T ≠ p:=Pc.ne hT;have MM:(upd Hc T (.lst [.int (1 + e1),.int le])) T=some (.lst [.int (1 + e1),.int le]):=Ab;generalize upd Hc T (.lst [.int (1 + e1),.int le])=Hd at rd MM;refine ⟨_,rfl,p,5,rfl,rd.pn,by decide,by decide,fun e3 He Pe ke e30 e31=>⟨rfl,.inr ⟨_,rfl,?_⟩⟩⟩;have re:=rd.step Pe ke;have hTe:=ke _ _ nT MM;obtain ⟨a,ha,a0,YS⟩:∃ a:Int,HV [V.int (1 + e1),V.int le] (if decide (V.int e3=V.int 0)=true then 1 else 0)=some (.int a)/\1<=a/\a < 10 ^ 30:=by
    split
    ·exact ⟨le,rfl,Xf,Wj⟩
    ·exact ⟨1 + e1,rfl,by lia,by lia⟩
   refine ⟨T,_,_,_,rfl,rfl,A9.of hTe,ha,(by show 2<=sizeLine; lia),fun T2 Qf=>?_⟩;have rf:=re.add Qf (.tup [.str y,.int a]);exists R2,_,_,rfl,rfl,rf.hR,by lia
   refine ⟨_,rs ++ [(y,a)],_,rfl,rf.app Ab,by rw [Zi,rt,Zs,ey]; rfl,by rw [Za,vl]; rfl,fun r hr=>?_⟩;rcases Zp.mp hr with hr | hr
   ·exact rl r hr
   ·rw [Zl.mp hr]; exact ⟨a0,YS⟩
  rintro σ Xy ⟨v6',Av,WS,rfl,TZ,VW,vl2,rl2⟩;rw [YV,Zu] at VW;rw [YV] at vl2;have rs2l:Av.length=VF.length:=by rw [<-VW,YV]
  have U3:∀ b xs,Oy b=some (.tup xs)->Xy b=some (.tup xs):=fun b xs z=>TZ.kp b _ (by obtain ⟨_,_,_,_,y,_⟩:=WM; exact Cg z y (fun q=>by cases q)) (Cg z R9 (fun q=>by cases q)) z
  have Yd:=Wg.keepT U3;have W9:=TZ.kp _ _ nR nRR WA;have YM:=BH WK U3;have q12:Ba p H Xy:=fun b o hb z=>TZ.kp b o hb (Ai z YA) (q11 b o hb z)
  have P12:=TZ.pn;have W8:=TZ.hR;have YJ:=TZ.dd;have ok2:ES ps 1 Av:=FZ Xa xnd VW rl2 (by lia) pp;clear TZ Wg WA WK R9 q11 WM U3 Kd nD2 Wf;refine ⟨_,rfl,_,rfl,R,_,rfl,.inl (A9.of W9),p,_,rfl,P12,by lia,by lia,fun f1 H13 P13 k13 f10 f11=>⟨_,_,rfl,rfl,?_⟩⟩;refine ⟨_,rfl,p,12,rfl,P13,by decide,by decide,fun f2 H14 P14 k14 f20 f21=>⟨_,_,rfl,rfl,(by show 3<=sizeLine; lia),fun T hT=>?_⟩⟩;have V2:=Ad (o:=.lst [.non,.int (1 + f1),.int (1 + f2)]) hT;have P15:=P14.same V2;have nT:T ≠ p:=P14.ne hT;have MM:(upd H14 T (.lst [.non,.int (1 + f1),.int (1 + f2)])) T=some (.lst [.non,.int (1 + f1),.int (1 + f2)]):=Ab;have k15:=(k13.trans k14).trans (Ba.of_same V2);generalize upd H14 T (.lst [.non,.int (1 + f1),.int (1 + f2)])=H15 at P15 MM k15;refine ⟨_,rfl,p,3,rfl,P15,by decide,by decide,fun f3 H16 P16 k16 f30 f31=>?_⟩;obtain ⟨x,d,hx,lim⟩:∃ (x:V) (d:PyData),HV [V.non,V.int (1 + f1),V.int (1 + f2)] f3=some x/\Lim x d:=by
   have c:f3=0\/f3=1\/f3=2:=by lia
   rcases c with rfl | rfl | rfl
   ·exact ⟨_,_,rfl,.inl ⟨rfl,rfl⟩⟩
   ·exact ⟨_,_,rfl,.inr ⟨1 + f1,rfl,rfl,by lia,by lia⟩⟩
   ·exact ⟨_,_,rfl,.inr ⟨1 + f2,rfl,rfl,by lia,by lia⟩⟩
  exists T,_,_,x,rfl,rfl,A9.of (k16 _ _ nT MM),hx;have kk:=k15.trans k16;have tt:=DA P12 kk;have q16:=q12.trans kk;refine ⟨_,rfl,_,rfl,R,_,rfl,.inl ⟨A9.of (kk _ _ nR W9),fun t1 Gz=>?_⟩⟩;have s17:=Ad (o:=.tup X2) Gz;refine ⟨_,rfl,R2,_,rfl,.inl ⟨A9.of (s17 _ _ (kk _ _ We W8)),fun t2 GG=>?_⟩⟩;have WY:=Ad (o:=.tup WS) GG;refine ⟨_,rfl,(by show 4<=sizeLine; lia),fun c hc=>?_⟩;have XC:=Ad (o:=.tup [.ref m,.ref t1,.ref t2,x]) hc;have sa:=s17.trans (WY.trans XC);refine k _ c m (1 + n1) ps ws rs1 Av x d (P16.same sa) (q16.trans (Ba.of_same sa)) ⟨⟨⟨t1,t2,X2,WS,Ab,XC _ _ (WY _ _ Ab),BH YM fun b ys z=>sa _ _ (tt _ _ z),XC _ _ Ab,BH YJ fun b ys z=>sa _ _ (tt _ _ z)⟩,by rw [<-xl]; exact Yd.keepT fun b ys z=>sa _ _ (tt _ _ z),by lia,by lia,ok1,ok2,by lia,by lia,lim⟩,by lia,by lia,by lia,by rw [WZ]; exact so,by rw [VW]; exact so2⟩
end
end K44
namespace L2
open PySem PySem.Spec PyProof.Rows
theorem HL {X:Cx} (hc:X.calm=true):Bi X (.builtin "sorted") (fun xs H Q=>∃ (d:Addr) (kvs:List (List A4 × V)) (kd:Nat->Bool),xs=[.ref d]/\H d=some (.dT kvs)/\(∀ p ∈ kvs,p.1 ≠ []/\∀ (i:Nat) k,p.1[i]? = some k->Mk (kd i) (kV k))/\kvs.length < 64 /\
  ∀ (l:Addr) (ts:List Addr) (ks:List (List A4)),H l=none->ks.Perm (kvs.map (·.1))->ts.length=ks.length->(∀ (i:Nat) t k,ts[i]? = some t->ks[i]? = some k->H t=some (.tup (k.map kV)))->Q (.ref l) (upd H l (.lst (ts.map V.ref)))):=by
 intro pins s σ H xs us Q I r h;obtain ⟨d,kvs,kd,rfl,hd,hk,Mm,q⟩:=h;obtain ⟨u,rfl,ru⟩:=Cf r;cases ru
 obtain ⟨z,y,xs,rel,o,es,ep,h1,h2,h3,h4,h5⟩:=(show A6 X.prog X.w H s.heap d (.dT kvs) from I.hok d _ hd)
 have rl:=Paired.length rel;have hlen:es.size=kvs.length:=by
  rw [<-Z5,h4,YV];exact rl.symm
 have sm:∀ {l:List (List A4 × V)} {m:List (List A4 × Addr × Value)},Paired (fun (p:List A4 × V) (q:List A4 × Addr × Value)=>p.1=q.1/\H q.2.1=some (.tup (p.1.map kV))/\A3 p.2 q.2.2) l m->l.map (·.1)=m.map (·.1)/\∀ q ∈ m,H q.2.1=some (.tup (q.1.map kV)):=by
  intro l m r;induction r with
  | nil=>exact ⟨rfl,fun q hq=>nomatch hq⟩
  | cons a b ih=>
   refine ⟨by rw [Zr,Zr,a.1,ih.1],fun q hq=>?_⟩;rcases Zg.mp hq with rfl | hq
   ·rw [<-a.1]; exact a.2.1
   ·exact ih.2 q hq
 obtain ⟨keq,kat⟩:=sm rel;have vals:∀ l:List (List A4 × Addr × Value),A5 ((l.map (·.2.1)).map V.ref) (l.map fun q=>Value.ref q.2.1):=by
  intro l;induction l with
  | nil=>exact .nil
  | cons q l ih=>exact .cons rfl ih
 have tk:∀ v ∈ (xs.map (·.2.1)).map V.ref,MT H kd v:=fun v hv=>by
  obtain ⟨t,ht,rfl⟩:=Zd.mp hv;obtain ⟨q,hq,rfl⟩:=Zd.mp ht;have hm:q.1 ∈ kvs.map (·.1):=by rw [keq]; exact bh hq
  obtain ⟨p,hp,e⟩:=Zd.mp hm;obtain ⟨n1,n2⟩:=hk p hp;rw [e] at n1 n2;refine ⟨_,_,rfl,kat q hq,fun z=>n1 (dy.mp z),fun i y e=>?_⟩;rw [Ze] at e;cases w:q.1[i]? with
  | none=>rw [w] at e; cases e
  | some k=>rw [w] at e; rw [<-Zo.inj e]; exact n2 i k w
 have tu:=Nk I (vals xs) tk;refine Calls.call_function_entry kind_sorted plain_sorted entry_sorted (args_sorted1 _) ?_;unfold Builtin.«sorted»;refine wpAny_bind (m:=checkCount "sorted" 1 1 _) (wpAny_pure ?_);refine wpAny_bind (PySem.W.kdu_collect (S8 (es:=es) (ep:=ep) y) (I.ok.hd hc) ⟨o,h1,h2,h3⟩ (by rw [hlen]; exact z) fun h' tk acc ML hacc=>?_);have key:∀ (i:Nat) v,acc.toList[i]? = some v->∃ q,xs[i]? = some q/\v=.ref q.2.1:=fun i v e=>by
  have e2:=hacc.2 i v (by rw [<-ZW]; exact e);dsimp only at e2;rw [<-ZW,h4,Ze] at e2;cases z:xs[i]? with
  | none=>rw [z] at e2; cases e2
  | some q=>
   rw [z] at e2;exact ⟨q,rfl,(Zo.inj e2).symm⟩
 have al:acc.toList.length=xs.length:=by
  rw [Z5,hacc.1,<-Z5,h4,YV]
 have av:acc.toList=xs.map fun q=>Value.ref q.2.1:=by
  refine aH (by rw [al,YV]) fun i i1 i2=>?_
  obtain ⟨q,e1,e2⟩:=key i _ (YU i1);rw [bD];rw [YU (by rw [<-al]; exact i1)] at e1;rw [e2,Zo.inj e1]
 have big:100000 < sizeLine:=by decide
 refine wpAny_bind (wpAny_newList ?_ (by rw [al]; lia));have hoL:(h'.push (seqObj "list" acc.toList.toArray 0)).get? h'.objs.size=some (seqObj "list" acc.toList.toArray 0):=Zf _ rfl;have keep:∀ b o,s.heap.get? b=some o->(h'.push (seqObj "list" acc.toList.toArray 0)).get? b=some o:=fun b o q=>YW _ (ML b o q)
 show wpAny _ _ _ _ _ { s with heap:=h'.push (seqObj "list" acc.toList.toArray 0),toks:=tk }
 refine wpAny_bind (wpAny_holding (wpAny_call_entry slot_list_sort ⟨_,hoL,rfl⟩ entry_list_sort (IG (sw:=Oc (CN s.heap)) (s:={ s with heap:=h'.push (seqObj "list" acc.toList.toArray 0),toks:=tk }) hoL (by rw [al]; lia) (by rw [al]; lia) ?_ fun out o1 _=>⟨_,rfl,wpAny_pure ⟨_,rfl,?_⟩⟩) (args_list_sort _)))
 ·intro z2 h'' kp;exact JF (s:={ s with toks:=tk }) (by rw [av]; exact tu) z2 _ h'' fun b o e=>kp b o (Zh (Zc (ML b o e))) (keep b o e)
 ·rw [av] at o1;obtain ⟨Ql,px,rfl⟩:=Hk _ o1.symm xs rfl;obtain ⟨e,he⟩:=sortedHeap_at (out:=(Ql.map fun q=>Value.ref q.2.1).toArray) hoL;have gone:s.heap.get? h'.objs.size=none:=by
   cases z:s.heap.get? h'.objs.size with
   | none=>rfl
   | some o=>exact absurd (Zc (ML _ _ z)) (ZK _)
  have fl:H h'.objs.size=none:=by
   cases z:H h'.objs.size with
   | none=>rfl
   | some u=>
    obtain ⟨ob,e⟩:=A6.there (I.hok _ u z);rw [gone] at e;cases e
  obtain ⟨m,hlm⟩:=id I.loc;obtain ⟨oL,esL,epL,Wv,rL⟩:=id hlm.1;have old:∀ b o,s.heap.get? b=some o->(sortedHeap (h'.push (seqObj "list" acc.toList.toArray 0)) h'.objs.size acc.toList (Ql.map fun q=>Value.ref q.2.1).toArray).get? b=some o:=fun b o q=>by
   have q':=ML b o q;have lt:=Zc q';rw [sortedHeap_old (Zh lt) (by rw [size_push']; exact Z0 lt)];exact YW _ q'
  have pl:=px.length_eq;have I2:=I.laidF (D:=h'.objs.size) (o:=.lst ((Ql.map (·.2.1)).map V.ref)) hlm ⟨oL,esL,epL,old _ _ Wv,rL⟩ (fun b ob _ q=>old b ob q) gone (fun z=>by rw [z,Wv] at gone; cases gone)
   ⟨by rw [YV,YV,pl,<-rl]; exact z,_,e,vals Ql,he⟩
  refine ⟨.ref h'.objs.size,_,I2.kept (t':=tk) fun b u q=>q,rfl,q h'.objs.size (Ql.map (·.2.1)) (Ql.map (·.1)) fl ?_ (by rw [YV,YV]) fun i t k e1 e2=>?_⟩
  ·rw [keq]; exact px.map _
  ·rw [Ze] at e1 e2;cases w:Ql[i]? with
   | none=>rw [w] at e1; cases e1
   | some q=>
    rw [w] at e1 e2;rw [<-Zo.inj e1,<-Zo.inj e2];exact kat q (px.mem_iff.mp (YY w))
end L2
namespace K44
open PySem L2
section
variable {P:Program} {w:World} {K:YX} {mg:Str->Option Value} {base:Heap}
theorem UT (h_sorted:mg "sorted"=none) (h_tuple:mg "tuple"=none) {f:Addr} {cdv:Value} {A:Around} {outer:List Env} {s:Shared} {H:Hp} {E:XK} (hr:Ei 2 (A.deeper (PyProof.Rows.envOfC "_law_map" (Ao C6) s.heap.objs.size f cdv))) :
  ∃ tl,Mj (J3 Ce P w K mg base ["_law_pen","_law_names_here","_law_shape","_law_ways","_law_k","_law_other","_law_turn","_law_pair"] "_law_map" (Ao C6) f cdv A outer s H E).nox ((Cr C6).drop 3) tl /\
   ∀ (W:EW) (H0 H1:Hp) (p e D:Addr) (xs:List Str) (us:List A8) (v2 v4 v5 v6 v7:Option V),M5 K H0 H1 p e D xs us->F1 xs us->us.length<=31->(∀ u ∈ us,u.2.2 < 10 ^ 30)->xs.Nodup->(∀ x ∈ xs,B8 x=true)->xs.length<=26 ->
    (∀ (H':Hp) (m:Addr) (ps:List Str) (ws:List A8),Di K H' p->Ba p H0 H'->ps.Perm xs->FG H' m xs.length ps ws->W.rt (.ref m) H')->tl W [some (.ref p),some (.ref e),v2,some (.ref D),v4,v5,v6,v7] H1:=by
 have nd:=F2.nd;have hu:=En hr;have big:100000 < sizeLine:=by decide
 refine ⟨_,(Aj (AG (Bb (Aa (A7 (Bg K rfl) (by rfl) h_tuple PyProof.Rows.boot_tuple (Aa (Al Cd (by rfl) h_sorted PyProof.Rows.boot_sorted (Aa (pv 1) Ac)) Ac)) (Aa (A7 (Bg K rfl) (by rfl) h_tuple PyProof.Rows.boot_tuple (Aa (Bj (N:=["_law_pair","_law_ways"]) rfl CM (CI [none,some 3]) (Bq K rfl (Al (HL rfl) (by rfl) h_sorted PyProof.Rows.boot_sorted (Aa (pv 3) Ac)))
   (fun s2 H C fp=>⟨(Ah (i:=0) (show (["_law_pair","_law_ways"]:List Str).Nodup by decide +kernel) rfl (Or.inl rfl)),AV,(Aw (Rk K rfl) (pv 0) (Bb (Aa (AH hu (pv 1) (pv 0) (fun _ _=>rfl)) Ac)))⟩)) Ac)) Ac))))),?_⟩
 intro W H0 H1 p e D xs us v2 v4 v5 v6 v7 mi wc ul Sb xnd xnm x26 k;refine ⟨_,rfl,e,xs,rfl,A9.of mi.he,by lia,fun l ps hl pm so=>⟨l,_,rfl,.inl ⟨A9.of Ab,fun T1 W5=>?_⟩⟩⟩;have m1:=(mi.add hl (.lst (ps.map V.str))).add W5 (.tup (ps.map V.str));have W4:(upd (upd H1 l (.lst (ps.map V.str))) T1 (.tup (ps.map V.str))) T1=some (.tup (ps.map V.str)):=Ab;generalize upd (upd H1 l (.lst (ps.map V.str))) T1 (.tup (ps.map V.str))=H2 at m1 W4;refine ⟨_,rfl,D,_,fun _=>true,rfl,m1.hw,fun q hq=>?_,by rw [YV]; lia,fun l2 ts ks MK pk tl tt=>⟨l2,rfl,⟨_,A9.of Ab⟩,?_⟩⟩
 ·obtain ⟨u,_,rfl⟩:=Zd.mp hq;refine ⟨(fun z=>by cases z),fun i y ey=>?_⟩;have hm:=YY ey;have Xk:y ∈ [Sum.inr (BK u.1 u.2.1),Sum.inr (BL u.1 u.2.1)]:=hm;simp only [Zg,ZE,or_false] at Xk;rcases Xk with rfl | rfl
  ·exact ⟨_,rfl⟩
  ·exact ⟨_,rfl⟩
 have m2:=m1.add MK (.lst (ts.map V.ref));have Wy:(upd H2 l2 (.lst (ts.map V.ref))) l2=some (.lst (ts.map V.ref)):=Ab;have s2:=Ad (o:=.lst (ts.map V.ref)) MK;have W3:=s2 _ _ W4;generalize upd H2 l2 (.lst (ts.map V.ref))=H3 at m2 Wy s2 W3;rw [ZA] at pk;obtain ⟨Lj,pu,rfl⟩:=Hk _ pk.symm us rfl;have ulen:=pu.length_eq;rw [YV] at tl;refine BI Cb (xs:=ts.map V.ref) (fun B i σ H' acc=>∃ v0:Option V,σ=[v0,some (.ref D)]/\Au H3 H'/\H' B=some (.lst acc)/\acc.length=i/\Bt H' acc (((Lj.take i).map EA).map O1))
  (by rw [YV]; lia) (fun B hB=>⟨_,rfl,Ad hB,Ab,rfl,.nil⟩) (fun B i σ H' acc hB ⟨v0,_,kp,Tj,al,_⟩=>⟨A9.of (kp _ _ Wy),Tj,al⟩) ?_ ?_
 ·rintro B i σ H' acc x' Y hB ex ⟨v0,rfl,kp,Tj,al,dd⟩ hY;obtain ⟨t,et,rfl⟩:∃ t,ts[i]? = some t/\x'=.ref t:=by
   rw [Ze] at ex;cases z:ts[i]? with
   | none=>rw [z] at ex; cases ex
   | some t=>rw [z] at ex; exact ⟨t,rfl,(Zo.inj ex).symm⟩
  have hi:i < Lj.length:=by rw [<-tl]; exact (YZ.mp et).1
  obtain ⟨u,eu⟩:∃ u,Lj[i]? = some u:=⟨_,YU hi⟩
  have ht:H2 t=some (.tup [.str (BK u.1 u.2.1),.str (BL u.1 u.2.1)]):=tt i t (DH u) et (by rw [Ze,eu]; rfl);have Xi:=kp _ _ (s2 _ _ ht);have um:u ∈ us:=pu.mem_iff.mp (YY eu);have dg:BF H' D (.ref t) (some (.int u.2.2)):=by
   rw [<-valW wc.2.1 um];exact BF.t (k:=DH u) (kp _ _ m2.hw) Xi
  refine ⟨_,rfl,_,rfl,_,rfl,D,_,rfl,dg,(by show 1<=sizeLine; lia),fun T2 Qf=>?_⟩;refine ⟨t,T2,_,_,rfl,rfl,AF.of (Ad Qf _ _ Xi),AF.of Ab,by simp,by show 2 + 1<=sizeLine; lia,(fun z=>by cases z),fun _ T hT=>?_⟩;have s4:=(Ad (o:=.tup [.int u.2.2]) Qf).trans (Ad (o:=.tup [.str (BK u.1 u.2.1),.str (BL u.1 u.2.1),.int u.2.2]) hT);have MM:(upd (upd H' T2 (.tup [.int u.2.2])) T (.tup [.str (BK u.1 u.2.1),.str (BL u.1 u.2.1),.int u.2.2])) T=some (.tup [.str (BK u.1 u.2.1),.str (BL u.1 u.2.1),.int u.2.2]):=Ab;show Y _ _ (upd (upd H' T2 (.tup [.int u.2.2])) T (.tup [.str (BK u.1 u.2.1),.str (BL u.1 u.2.1),.int u.2.2]))
  generalize upd (upd H' T2 (.tup [.int u.2.2])) T (.tup [.str (BK u.1 u.2.1),.str (BL u.1 u.2.1),.int u.2.2])=H5 at s4 MM;have hB5:=s4 _ _ Tj;have nT:T ≠ B:=Cg MM hB5 (fun z=>by cases z);refine hY _ _ _ hB5 ⟨_,rfl,fun b o z=>by rw [Af (Ai z hB)]; exact s4 _ _ (kp _ _ z),Ab,by rw [Za,al]; rfl,?_⟩;rw [Zs,eu,Option.toList_some,Zi,Zi];refine Jd (FN dd fun b ys z=>?_) (.cons (.tup (vs:=[.str (BK u.1 u.2.1),.str (BL u.1 u.2.1),.int u.2.2]) (by rw [Af nT]; exact MM) ?_) .nil)
  ·rw [Af (Cg z Tj (fun y=>by cases y))];exact s4 _ _ z
  ·exact .cons (.str _) (.cons (.str _) (.cons (.int _) .nil))
 ·rintro B σ H' acc hB ⟨v0,rfl,kp,Tj,al,dd⟩;rw [YV,tl,Zu] at dd;refine ⟨B,_,rfl,.inl ⟨A9.of Tj,fun T hT=>⟨(by show 2<=sizeLine; lia),fun m hm=>?_⟩⟩⟩;have s5:=(Ad (o:=.tup acc) hT).trans (Ad (o:=.tup [.ref T1,.ref T]) hm);have s6:=kp.trans s5;have m6:=m2.step (m2.pn.same s6) (Ba.of_same s6);have pw:(Lj.map EA).Perm (us.map EA):=pu.map _;refine k _ m ps (Lj.map EA) m6.pn m6.kp pm ⟨⟨⟨T1,T,acc,Ab,s6 _ _ W3,Ad hm _ _ Ab,FN dd fun b ys z=>s5 _ _ z⟩,pm.length_eq,pm.nodup_iff.mpr xnd,fun x hx=>xnm x (pm.mem_iff.mp hx),by rw [YV]; lia,fun w hw=>?_⟩,⟨xs,us,pm,pw,wc⟩,so,by rw [YV]; lia⟩;have hn:=Kh pw (fun u hu=>⟨(wc.1 u hu).1,(wc.1 u hu).2.1⟩) w hw;obtain ⟨u,Yl,rfl⟩:=Zd.mp hw;have um:=pu.mem_iff.mp Yl;exact ⟨xnm _ hn.1,xnm _ hn.2,(wc.1 u um).2.2.2,Sb u um⟩
theorem M8 (h_int:mg "int"=none) (h_len:mg "len"=none) (h_max:mg "max"=none) (h_range:mg "range"=none) (h_sorted:mg "sorted"=none) (h_tuple:mg "tuple"=none) {fT:Addr} {fdT:FuncData} (XT:Fn K mg "_law_take" AK ["_law_pen","_law_many"] fT fdT) (GT:AL P w K mg base Ce 1 fT fdT ["_law_pen","_law_many"] (Dk K)) {fL:Addr} {fdL:FuncData} (XL:Fn K mg "_law_length" C0 ["_law_pen"] fL fdL) (GL:AL P w K mg base Ce 2 fL fdL ["_law_pen"] (Ms K)) {f:Addr} {fd:FuncData} (F:EU K "_law_map" "_law_map" C6 f fd):AL P w K mg base Ce 3 f fd ["_law_pen","_law_names_here","_law_shape"] (Q8 K):=by
 refine F.ok F2 (fun vs H Q E h=>?_) (fun cdv A outer s H vs Q E hr h=>?_)
 ·obtain ⟨p,e,xs,sh,rfl,_⟩:=h;rfl
 ·obtain ⟨p,e,xs,sh,rfl,P0,he,nep,xnd,xnm,x1,x26,WX,sh4,k⟩:=h;have nd:=F2.nd;have hu:=En hr;have big:100000 < sizeLine:=by decide
  obtain ⟨tE,hE,kE⟩:=UT (P:=P) (w:=w) (K:=K) (mg:=mg) (base:=base) h_sorted h_tuple (f:=f) (cdv:=cdv) (A:=A) (outer:=outer) (s:=s) (H:=H) (E:=E) hr;refine ⟨_,(Ae (Aq (i:=3) nd rfl (Or.inr rfl) Iq)
  (Ae (Bz PassesOwn.never rfl (OZ (by rfl) h_range (Aa Ag (Aa (Al (Az K rfl) (by rfl) h_len PySem.boot_len (Aa (pv 1) Ac)) Ac))) (Ah (i:=4) nd rfl (Or.inl rfl))
  (Ae (Aq (i:=5) nd rfl (Or.inl rfl) (AA (AB K rfl) (Bu (Aa (Aw KD (pv 4) Ag) (Aa (Ak GT (hr.mono (by decide)) (by rfl) XT.mg XT.F.kp XT.b .nil Ax (Aa (pv 0) (Aa (pv 4) Ac))) (Aa (Al (PY rfl) (by rfl) h_max PyProof.Rows.boot_max (Aa Ag (Aa (Aw KD (Aw KD (pv 4) Ag) (Ak GT (hr.mono (by decide)) (by rfl) XT.mg XT.F.kp XT.b .nil Ax (Aa (pv 0) (Aa Ag Ac)))) Ac))) (Aa Ag Ac))))) (pv 2) (fun _ _=>rfl)))
  (Aj (Ca hu (pv 3) (A7 (Bg K rfl) (by rfl) h_tuple PyProof.Rows.boot_tuple (Aa (Al DJ (by rfl) h_sorted PyProof.Rows.boot_sorted (Aa (Bu (Aa (AA (AB K rfl) (pv 1) (pv 4) (fun _ _=>rfl)) (Aa (AA (AB K rfl) (pv 1) (pv 5) (fun _ _=>rfl)) Ac))) Ac)) Ac)) (Ak GL (hr.mono (by decide)) (by rfl) XL.mg XL.F.kp XL.b .nil Ax (Aa (pv 0) Ac)) rfl))))
  (Ae (Bz PassesOwn.never rfl (CV (by rfl) h_range (Aa (Aw Dz (Ak GT (hr.mono (by decide)) (by rfl) XT.mg XT.F.kp XT.b .nil Ax (Aa (pv 0) (Aa Ag Ac))) (A7 CY (by rfl) h_int PyProof.Rows.boot_int (Aa (Ge Rj (pv 2) Ag (BV _)) Ac))) Ac)) (Ah (i:=6) nd rfl (Or.inl rfl))
  (Ae (Aq (i:=7) nd rfl (Or.inl rfl) (A7 (Bg K rfl) (by rfl) h_tuple PyProof.Rows.boot_tuple (Aa (Al DJ (by rfl) h_sorted PyProof.Rows.boot_sorted (Aa (Bu (Aa (AA (AB K rfl) (pv 1) (Ak GT (hr.mono (by decide)) (by rfl) XT.mg XT.F.kp XT.b .nil Ax (Aa (pv 0) (Aa (Al (Az K rfl) (by rfl) h_len PySem.boot_len (Aa (pv 1) Ac)) Ac))) (fun _ _=>rfl)) (Aa (AA (AB K rfl) (pv 1) (Ak GT (hr.mono (by decide)) (by rfl) XT.mg XT.F.kp XT.b .nil Ax (Aa (pv 0) (Aa (Al (Az K rfl) (by rfl) h_len PySem.boot_len (Aa (pv 1) Ac)) Ac))) (fun _ _=>rfl)) Ac))) Ac)) Ac)))
  (Aj (Dt (M3 (BO Uc (AA (Bc K rfl) (pv 7) Ag (fun _ _=>rfl)) (AA (Bc K rfl) (pv 7) Ag (fun _ _=>rfl)) (BV _)) (NA (E5 (JR hu (pv 7) (pv 3))))).pt
  (Aj (Ca hu (pv 3) (pv 7) (Ak GL (hr.mono (by decide)) (by rfl) XL.mg XL.F.kp XL.b .nil Ax (Aa (pv 0) Ac)) rfl))
  BP))))
  hE))),?_⟩
  intro D hD;have m0:M5 K H (upd H D (.dT [])) p e D xs []:=⟨P0.same (Ad hD),Ad hD _ _ he,Ab,Ba.of_same (Ad hD),nep,P0.ne hD,hD⟩
  generalize upd H D (.dT [])=H1 at m0;exists _,rfl,e,_,rfl,.inl (A9.of m0.he),_,_,rfl,⟨by lia,by lia,by rw [YV]; lia,by rw [YV]; lia⟩
  refine Fg (lo:=1) (fun j σ H'=>∃ (v4 v5 v6 v7:Option V) (us:List A8),σ=[some (.ref p),some (.ref e),some (.int sh),some (.ref D),v4,v5,v6,v7]/\M5 K H H' p e D xs us/\us.length=j/\HP xs (j + 1) us/\∀ u ∈ us,u.2.2 < 10 ^ 30)
   ⟨_,_,_,_,[],rfl,m0,rfl,HP.nil xs,fun u hu=>nomatch hu⟩ ?_ ?_
  ·rintro j σ H' hj ⟨v4,v5,v6,v7,us,rfl,mi,ul,tr,Sb⟩;rw [YV] at hj;have HI:j + 1 < xs.length:=by lia
   refine ⟨_,rfl,_,_,rfl,rfl,_,rfl,_,rfl,p,_,rfl,mi.pn,by lia,by lia,fun d H2 P2 k2 d0 d1=>?_⟩;refine ⟨_,rfl,_,_,rfl,rfl,_,rfl,p,2,rfl,P2,by decide,by decide,fun d' H3 P3 k3 d'0 d'1=>⟨_,_,rfl,rfl,_,_,rfl,?_⟩⟩;have V8:=mi.step P3 (k2.trans k3);clear mi P2 k2 k3;refine ⟨(by show 4<=sizeLine; lia),fun T hT=>?_⟩;have V7:=V8.add hT (.lst [.int (1 + (j:Int) - 1),.int d,.int (if 1 + (j:Int) - 1 - d' > 0 then 1 + (j:Int) - 1 - d' else 0),.int 0]);have MM:(upd H3 T (.lst [.int (1 + (j:Int) - 1),.int d,.int (if 1 + (j:Int) - 1 - d' > 0 then 1 + (j:Int) - 1 - d' else 0),.int 0])) T=some (.lst [.int (1 + (j:Int) - 1),.int d,.int (if 1 + (j:Int) - 1 - d' > 0 then 1 + (j:Int) - 1 - d' else 0),.int 0]):=Ab;obtain ⟨o,hv,o0⟩:∃ o:Nat,HV [V.int (1 + (j:Int) - 1),V.int d,V.int (if 1 + (j:Int) - 1 - d' > 0 then 1 + (j:Int) - 1 - d' else 0),V.int 0] sh=some (.int (o:Int))/\o < j + 1:=by
    have c:sh=0\/sh=1\/sh=2\/sh=3:=by lia
    rcases c with rfl | rfl | rfl | rfl
    ·exact ⟨j,by show some (V.int _)=_; rw [show 1 + (j:Int) - 1=(j:Int) by lia],by lia⟩
    ·exact ⟨d.toNat,by show some (V.int _)=_; rw [dE d0],by lia⟩
    ·exists (if 1 + (j:Int) - 1 - d' > 0 then 1 + (j:Int) - 1 - d' else 0).toNat,?_
     ·show some (V.int _)=_
      rw [dE (by split <;> lia)]
     ·split <;> lia
    ·exact ⟨0,rfl,by lia⟩
   generalize upd H3 T (.lst [.int (1 + (j:Int) - 1),.int d,.int (if 1 + (j:Int) - 1 - d' > 0 then 1 + (j:Int) - 1 - d' else 0),.int 0])=H4 at V7 MM;exists _,rfl,T,_,_,_,rfl,rfl,A9.of MM,hv;refine ⟨_,rfl,p,rfl,V7.pn,fun le H5 P5 k5 l1 l30=>?_⟩;have Ye:=V7.step P5 k5;have ea:(xs.map V.str)[j + 1]? = some (.str xs[j + 1]):=by rw [Ze,YU HI]; rfl
   have eo:(xs.map V.str)[o]? = some (.str (xs[o]'(by lia))):=by rw [Ze,YU (by lia)]; rfl
   have e1j:(1 + (j:Int))=((j + 1:Nat):Int):=by lia
   have xo:xs[o]? = some (xs[o]'(by lia)):=YU _;have xj:xs[j + 1]? = some xs[j + 1]:=YU _;generalize (xs[o]'(by lia))=x at eo xo;generalize xs[j + 1]=y at ea xj;refine ⟨_,rfl,_,rfl,_,rfl,e,_,_,_,rfl,rfl,A9.of Ye.he,(by rw [e1j]; exact CD ea),_,rfl,_,rfl,e,_,_,_,rfl,rfl,A9.of Ye.he,CD eo,(by show 2<=sizeLine; lia),fun T2 Qf=>⟨T2,y,x,rfl,Ab,fun l hl=>⟨l,_,rfl,.inl ⟨A9.of Ab,fun T3 Yt=>?_⟩⟩⟩⟩;have Sd:=((Ye.add Qf (.lst [.str y,.str x])).add hl (.lst [.str (BK y x),.str (BL y x)])).add Yt (.tup [.str (BK y x),.str (BL y x)]);have pn:=NC (US tr xnd (x:=x) (n:=le) xj);have hk:(upd (upd (upd H5 T2 (.lst [.str y,.str x])) l (.lst [.str (BK y x),.str (BL y x)])) T3 (.tup [.str (BK y x),.str (BL y x)])) T3=some (.tup ((DH (x,y,le)).map kV)):=by
    rw [JW y x,JX y x];exact Ab
   generalize upd (upd (upd H5 T2 (.lst [.str y,.str x])) l (.lst [.str (BK y x),.str (BL y x)])) T3 (.tup [.str (BK y x),.str (BL y x)])=H6 at Sd hk;exists D,_,rfl,DO.t Sd.hw hk (by rw [YV]; lia);rw [show V.int le=V.int (x,y,le).2.2 from rfl,pn];refine ⟨_,_,_,_,us ++ [(x,y,le)],rfl,Sd.put _,by rw [Za,ul]; rfl,Qu tr xnd o0 xo xj l1,fun u hu=>?_⟩;rcases Zp.mp hu with hu | hu
   ·exact Sb u hu
   ·rw [Zl.mp hu]; exact l30
  ·rintro σ H' ⟨v4,v5,v6,v7,us,rfl,mi,ul,tr,Sb⟩;rw [YV] at ul tr;rw [show ((xs.length:Int) - 1).toNat + 1=xs.length by lia] at tr;have wc:=(tr.ways xnd).c;refine ⟨_,rfl,p,6,rfl,mi.pn,by decide,by decide,fun d H2 P2 k2 d0 d1=>?_⟩;have mi2:=mi.step P2 k2;clear mi P2 k2;refine ⟨_,rfl,_,_,rfl,rfl,.inr ⟨_,rfl,?_⟩⟩;have i01:∀ b:Bool,(if b=true then (1:Int) else 0)=0\/(if b=true then (1:Int) else 0)=1:=fun b=>by cases b <;> simp
   have i1:=i01 (decide (1 < sh));generalize (if decide (1 < sh)=true then (1:Int) else 0)=i at i1;have mb:0<=d * i/\d * i<=5:=by rcases i1 with rfl | rfl <;> lia
   exists _,_,rfl,rfl,.inl ⟨by lia,by lia⟩,_,rfl,by lia,by lia
   generalize d * i=m at mb;refine Fg (lo:=0) (fun j σ H'=>∃ (v4 v5 v6 v7:Option V) (us:List A8),σ=[some (.ref p),some (.ref e),some (.int sh),some (.ref D),v4,v5,v6,v7]/\M5 K H H' p e D xs us/\us.length<=26 + j/\F1 xs us/\∀ u ∈ us,u.2.2 < 10 ^ 30)
    ⟨_,_,_,_,us,rfl,mi2,by lia,wc,Sb⟩ ?_ ?_
   ·rintro j σ H' hj ⟨v4,v5,v6,v7,us,rfl,mi,ul,wc,Sb⟩;have xl0:(0:Int) < ((xs.map V.str).length:Int):=by rw [YV]; lia
    have xlB:((xs.map V.str).length:Int) < 1073741824:=by rw [YV]; lia
    refine ⟨_,rfl,_,rfl,_,rfl,e,_,rfl,.inl (A9.of mi.he),p,_,rfl,mi.pn,xl0,xlB,fun g H3 P3 k3 g0 g1=>?_⟩;rw [YV] at g1;have V8:=mi.step P3 k3;obtain ⟨gn,rfl⟩:∃ n:Nat,g=n:=⟨g.toNat,by lia⟩
    have hgn:gn < xs.length:=by lia
    have eg:(xs.map V.str)[gn]? = some (.str xs[gn]):=by rw [Ze,YU hgn]; rfl
    exists e,_,_,_,rfl,rfl,A9.of V8.he,CD eg;refine ⟨_,rfl,_,rfl,_,rfl,e,_,rfl,.inl (A9.of V8.he),p,_,rfl,V8.pn,xl0,xlB,fun h H4 P4 k4 h0 h1=>?_⟩;rw [YV] at h1;have V7:=V8.step P4 k4;obtain ⟨hn,rfl⟩:∃ n:Nat,h=n:=⟨h.toNat,by lia⟩
    have hhn:hn < xs.length:=by lia
    have eh:(xs.map V.str)[hn]? = some (.str xs[hn]):=by rw [Ze,YU hhn]; rfl
    refine ⟨e,_,_,_,rfl,rfl,A9.of V7.he,CD eh,(by show 2<=sizeLine; lia),fun T2 Qf=>?_⟩;have mx:xs[gn] ∈ xs:=ZQ hgn;have my:xs[hn] ∈ xs:=ZQ hhn;generalize xs[gn]=x at mx;generalize xs[hn]=y at my;refine ⟨T2,x,y,rfl,Ab,fun l hl=>⟨l,_,rfl,.inl ⟨A9.of Ab,fun T3 Yt=>?_⟩⟩⟩;have Sd:=((V7.add Qf (.lst [.str x,.str y])).add hl (.lst [.str (BK x y),.str (BL x y)])).add Yt (.tup [.str (BK x y),.str (BL x y)]);have hk:(upd (upd (upd H4 T2 (.lst [.str x,.str y])) l (.lst [.str (BK x y),.str (BL x y)])) T3 (.tup [.str (BK x y),.str (BL x y)])) T3=some (.tup [.str (BK x y),.str (BL x y)]):=Ab;generalize upd (upd (upd H4 T2 (.lst [.str x,.str y])) l (.lst [.str (BK x y),.str (BL x y)])) T3 (.tup [.str (BK x y),.str (BL x y)])=H6 at Sd hk;exists _,rfl,T3,_,_,_,rfl,rfl,AF.of hk,rfl,_,rfl,T3,_,_,_,rfl,rfl,AF.of hk,rfl,rfl,_,rfl;have stay:∀ v4 v5 v6 v7:Option V,∃ (v4' v5' v6' v7':Option V) (us:List A8),[some (.ref p),some (.ref e),some (.int sh),some (.ref D),v4,v5,v6,v7]=[some (.ref p),some (.ref e),some (.int sh),some (.ref D),v4',v5',v6',v7']/\M5 K H H6 p e D xs us/\us.length<=26 + (j + 1)/\F1 xs us/\∀ u ∈ us,u.2.2 < 10 ^ 30:=fun v4 v5 v6 v7=>⟨_,_,_,_,us,rfl,Sd,by lia,wc,Sb⟩
    refine Ck (fun z1=>?_) (fun _=>F8 (stay _ _ _ _));have ne:x ≠ y:=by
     intro z;subst z;simp [BK,BL] at z1
    exists _,rfl,_,rfl,D,_,rfl,BF.t (k:=DH (x,y,1)) Sd.hw hk,_,rfl;refine Ck (fun z2=>?_) (fun _=>stay _ _ _ _);refine ⟨_,rfl,p,rfl,Sd.pn,fun le H7 P7 k7 l1 l30=>?_⟩;have mi7:=Sd.step P7 k7;have hk7:=DA Sd.pn k7 _ _ hk;have no:∀ u ∈ us,¬ DP u (x,y,le):=fun u Yl al=>Sn (x:=(x,y,1)) (by simpa using z2) u Yl al
    have pn:=NC no;exists _,rfl,_,rfl,D,_,rfl,DO.t (k:=DH (x,y,le)) mi7.hw hk7 (by rw [YV]; lia);rw [show V.int le=V.int (x,y,le).2.2 from rfl,pn];refine ⟨_,_,_,_,us ++ [(x,y,le)],rfl,mi7.put _,by rw [Za]; simp; lia,O0 wc mx my ne l1 no,fun u hu=>?_⟩;rcases Zp.mp hu with hu | hu
    ·exact Sb u hu
    ·rw [Zl.mp hu]; exact l30
   ·rintro σ H' ⟨v4,v5,v6,v7,us,rfl,mi,ul,wc,Sb⟩;exact kE _ H H' p e D xs us _ _ _ _ _ mi wc (by lia) Sb xnd xnm x26 fun H' m ps ws a b c d=>k H' m ps ws a b c d
end
section
variable {P:Program} {w:World} {K:YX} {mg:Str->Option Value} {base:Heap}
theorem KJ (h_len:mg "len"=none) (h_range:mg "range"=none) {fT:Addr} {fdT:FuncData} (XT:Fn K mg "_law_take" AK ["_law_pen","_law_many"] fT fdT) (GT:AL P w K mg base Ce 1 fT fdT ["_law_pen","_law_many"] (Dk K)) {f:Addr} {fd:FuncData} (F:EU K "_law_names" "_law_names" Dp f fd):AL P w K mg base Ce 2 f fd ["_law_pen","_law_many"] (Lr K):=by
 refine F.ok FX (fun vs H Q E h=>?_) (fun cdv A outer s H vs Q E hr h=>?_)
 ·obtain ⟨p,n,rfl,_⟩:=h;rfl
 ·obtain ⟨p,n,rfl,hP,hn,k⟩:=h;have nd:=FX.nd;have big:100000 < sizeLine:=by decide
  refine ⟨_,(Ae (Aq (i:=2) nd rfl (Or.inr rfl) Dy)
  (Ae (Aq (i:=3) nd rfl (Or.inl rfl) (Ak GT (hr.mono (by decide)) (by rfl) XT.mg XT.F.kp XT.b .nil Ax (Aa (pv 0) (Aa Ag Ac))))
  (Ae (Aq (i:=4) nd rfl (Or.inl rfl) (Hl PySem.F.plainAttrs_str PySem.F.slot_str_join PySem.F.type_str_join SQ Dy (Aa (Bj (N:=["_law_k","_law_pen","_law_letters"]) rfl CM (CI [none,some 0,some 2]) (CV (by rfl) h_range (Aa (Ak GT (hr.mono (by decide)) (by rfl) XT.mg XT.F.kp XT.b .nil Ax (Aa (pv 0) (Aa Ag Ac))) Ac))
   (fun s2 H C fp=>⟨(Ah (i:=0) (show (["_law_k","_law_pen","_law_letters"]:List Str).Nodup by decide +kernel) rfl (Or.inl rfl)),AV,(AA Ry (pv 2) (Ak GT (hr.mono (by decide)) (by rfl) XT.mg XT.F.kp XT.b .nil Ax (Aa (pv 1) (Aa Ag Ac))) (fun _ _=>rfl))⟩)) Ac)))
  (Ae (Aq (i:=5) nd rfl (Or.inl rfl) (Ak GT (hr.mono (by decide)) (by rfl) XT.mg XT.F.kp XT.b .nil Ax (Aa (pv 0) (Aa (Aw Br (Al Gs (by rfl) h_len PySem.boot_len (Aa (pv 4) Ac)) Ag) Ac))))
  (Ae (Aq (i:=6) nd rfl (Or.inl rfl) (Ak GT (hr.mono (by decide)) (by rfl) XT.mg XT.F.kp XT.b .nil Ax (Aa (pv 0) (Aa Ag Ac))))
  (Ae (Aq (i:=7) nd rfl (Or.inl rfl) (Bu Ac))
  (Ae (Bz PassesOwn.never rfl (CV (by rfl) h_range (Aa (pv 1) Ac)) (Ah (i:=8) nd rfl (Or.inl rfl))
  (Ae (Aq (i:=9) nd rfl (Or.inl rfl) (AA Ry (pv 2) (Aw DX (Aw Br (pv 3) (Aw Dz Ag (pv 8))) Ag) (fun _ _=>rfl)))
  (Aj (Fd (Hl PySem.F.plainAttrs_list PySem.F.slot_list_append PySem.F.type_list_append Cc (pv 7) (Aa (Aw DY (Aw DY (Aw DY (Gd (pv 4) NF (ND (pv 5))) (pv 9)) (Gd (pv 4) (ND (pv 5)) NF)) (Aw Ri Dy (Aw Dz (pv 6) (Aw DX (pv 8) Ag)))) Ac))))))
  (Aj (AG (pv 7)))))))))),?_⟩
  refine ⟨_,rfl,p,26,rfl,hP,by decide,by decide,fun st H0 P0 k0 Ia st1=>?_⟩;refine ⟨rfl,_,rfl,p,5,rfl,P0,by decide,by decide,fun d H1 P1 k1 da db=>⟨_,rfl,by lia,by lia,?_⟩⟩;have q1:=k0.trans k1;refine Il (n:=d.toNat) (fun D i σ H' acc=>∃ (v0:Option V) (ss:List Str),σ=[v0,some (.ref p),some (.str Gm)]/\Di K H' p/\Ba p H1 H'/\H' D=some (.lst acc)/\acc=ss.map V.str/\acc.length=i/\∀ s ∈ ss,s.length=1/\T8 s)
   (by lia) (fun D hD=>⟨_,[],rfl,P1.same (Ad hD),Ba.of_same (Ad hD),Ab,rfl,rfl,fun s hs=>nomatch hs⟩) (fun D i σ H' acc hD ⟨v0,ss,_,_,_,AM,_,al,_⟩=>⟨AM,al⟩) ?_ ?_
  ·rintro D i σ H' acc B hD hi ⟨v0,ss,rfl,P2,q2,AM,ea,al,lo⟩ hB;have nD:=P1.ne hD;refine ⟨_,rfl,_,rfl,p,26,rfl,P2,by decide,by decide,fun e H3 P3 k3 YG Xv=>?_⟩;have lc:=Hr _ (RP (Eb YG Xv));have GH:=k3 _ _ nD AM;exists _,_,_,rfl,rfl,by decide,Eb YG Xv
   refine hB _ _ _ GH ⟨_,ss ++ [⟨#[97 + e.toNat]⟩],rfl,P3.other GH nD,fun b' o hb z=>?_,Ab,by rw [ea,Zi]; rfl,by rw [Za,al]; rfl,fun s hs=>?_⟩
   ·rw [Af (Ai z hD)];exact k3 _ _ hb (q2 b' o hb z)
   ·rcases Zp.mp hs with hs | hs
    ·exact lo s hs
    ·rw [Zl] at hs;subst hs;refine ⟨rfl,fun c hc=>?_⟩;have:c=97 + e.toNat:=by simpa using hc
     subst this;exact lc
  rintro D0 σ0 H2 acc hD0 ⟨v0,ss,rfl,P2,q2,AM,ea,al,lo⟩;obtain ⟨j1,j2,j3⟩:=Rw lo;have sl:ss.length=d.toNat:=by rw [<-al,ea,YV]
  exists _,D0,ss,rfl,rfl,by rw [AM,ea],by decide,by lia
  generalize Txt.join (Str.ofString "") ss=bs at j1 j2;have bl:bs.length<=4:=by lia
  refine ⟨_,rfl,_,rfl,bs,rfl,by lia,_,_,rfl,rfl,p,_,rfl,P2,by lia,by lia,fun at' H3 P3 k3 at0 at1=>?_⟩;refine ⟨_,rfl,p,2,rfl,P3,by decide,by decide,fun mo H5 P5 k5 mo0 Wh=>?_⟩;have q5:Ba p H H5:=((q1.trans q2).trans k3).trans k5;refine ⟨(by show 0<=sizeLine; lia),fun D hD=>?_⟩;have nD:D ≠ p:=P5.ne hD;have fD:H D=none:=by
   cases z:H D with
   | none=>rfl
   | some o=>rw [q5 _ _ nD z] at hD; cases hD
  have spm:(7:Int) ∈ ([1,3,5,7,9,11,15,17]:List Int):=by simp
  exists _,rfl,n,rfl,by lia,by lia
  refine Fg (n:=n) (lo:=0) (fun j σ H'=>∃ (xs:List Str) (v9 v10:Option V),σ=[some (.ref p),some (.int n),some (.str Gm),some (.int st),some (.str bs),some (.int at'),some (.int mo),some (.ref D),v9,v10]/\H'=upd H5 D (.lst (xs.map V.str))/\xs.length=j/\(∀ x ∈ xs,B8 x=true)/\∀ (i:Nat) x,xs[i]? = some x->∃ tl,x.cps.toList=(Txt.slice bs none (some at')).cps.toList ++ (Pf n st 7 i ++ tl))
   ⟨[],_,_,rfl,rfl,rfl,(fun x hx=>nomatch hx),(fun i x e=>by simp at e)⟩ ?_ ?_
  ·rintro j σ H' hj ⟨xs,v9,v10,rfl,rfl,xl,nm,sh⟩;have r0:0<=(st + 7 * (0 + (j:Int))) % 26:=ai _ (by decide);have r1:(st + 7 * (0 + (j:Int))) % 26 < 26:=az _ (by decide);exists _,rfl,_,rfl,_,rfl,_,_,rfl,rfl,.inl ⟨by decide,by decide⟩,_,_,rfl,rfl,_,_,rfl,rfl,(by show (0:Int) < 26; decide),_,_,_,rfl,rfl,by decide,Eb r0 r1
   have lc:=Hr _ (RP (Eb r0 r1));have s1:=QD (z:=bs) at0 (by lia);have s2:=Mu (z:=bs) at0 (by lia);have w1:=JK (z:=bs) none (some at') j1;have w2:=JK (z:=bs) (some at') none j1;have dD:(upd H5 D (.lst (xs.map V.str))) D=some (.lst (xs.map V.str)):=Ab;have m01:mo * ((0 + (j:Int)) % 2)=0\/mo * ((0 + (j:Int)) % 2)=1:=by
    have e1:mo=0\/mo=1:=by lia
    have e2:(0 + (j:Int)) % 2=0\/(0 + (j:Int)) % 2=1:=by lia
    rcases e1 with rfl | rfl <;> rcases e2 with e2 | e2 <;> rw [e2] <;> simp
   have hz:∀ z:Str,z=(if mo * ((0 + (j:Int)) % 2)=1 then Str.ofString "z" else Str.empty)->z.length<=1/\T8 z:=fun z e=>by
    subst e;split
    ·refine ⟨by decide,fun c hc=>?_⟩;have e:(Str.ofString "z").cps.toList=[122]:=by decide +kernel
     rw [e,Zl] at hc;subst hc;decide
    ·exact ⟨by decide,fun c hc=>by cases hc⟩
   obtain ⟨zz,ezz⟩:∃ zz,zz=(if mo * ((0 + (j:Int)) % 2)=1 then Str.ofString "z" else Str.empty):=⟨_,rfl⟩
   obtain ⟨z1,z2⟩:=hz zz ezz;have fin:∀ (x:Str),x=Txt.slice bs none (some at') ++ ⟨#[97 + ((st + 7 * (0 + (j:Int))) % 26).toNat]⟩ ++ Txt.slice bs (some at') none ++ zz->B8 x=true/\∃ tl,x.cps.toList=(Txt.slice bs none (some at')).cps.toList ++ (Pf n st 7 j ++ tl):=fun x e=>by
    have ec:x.cps.toList=(Txt.slice bs none (some at')).cps.toList ++ ([97 + ((st + 7 * (0 + (j:Int))) % 26).toNat] ++ ((Txt.slice bs (some at') none).cps.toList ++ zz.cps.toList)):=by
     rw [e,Str.cps_append,Str.cps_append,Str.cps_append,bO,bO,bO,ZR,ZR]
    have el:x.length=(Txt.slice bs none (some at')).length + 1 + (Txt.slice bs (some at') none).length + zz.length:=by
     rw [e,Str.length_append,Str.length_append,Str.length_append];rfl
    exists Ro (by lia) (by lia) fun c hc=>?_
    ·rw [ec,Zp,Zp,Zp,Zl] at hc;rcases hc with hc | hc | hc | hc
     ·exact w1 c hc
     ·rw [hc]; exact lc
     ·exact w2 c hc
     ·exact z2 c hc
    ·exists (Txt.slice bs (some at') none).cps.toList ++ zz.cps.toList;rw [ec];unfold Pf;rw [if_neg (by lia),aa]
   exists _,rfl,.inl ⟨rfl,_,A9.of dD⟩,_,rfl,_,rfl,_,rfl,bs,rfl,by lia,_,rfl,_,_,rfl,rfl,?_,_,rfl,_,rfl,_,rfl,bs,rfl,by lia,_,_,rfl,rfl,?_,_,rfl,_,rfl,_,_,rfl,rfl,(by show (0:Int) < 2; decide),_,_,rfl,rfl,.inl ⟨by lia,by lia⟩,_,_,rfl,rfl,m01,_,_,rfl,rfl,?_,D,_,_,rfl,rfl,dD,(by rw [YV]; lia)
   ·show (Txt.slice bs none (some at')).length + 1<=sizeLine
    lia
   ·rw [Str.length_append];show (Txt.slice bs none (some at')).length + 1 + _<=sizeLine
    lia
   ·rw [<-ezz,Str.length_append,Str.length_append];show (Txt.slice bs none (some at')).length + 1 + _ + _<=sizeLine
    lia
   rw [<-ezz];obtain ⟨f1,f2⟩:=fin _ rfl;refine ⟨xs ++ [_],_,_,rfl,by rw [Kw,Zi]; rfl,by rw [Za,xl]; rfl,fun x hx=>?_,fun i x e=>?_⟩
   ·rcases Zp.mp hx with hx | hx
    ·exact nm x hx
    ·rw [Zl.mp hx];exact f1
   ·by_cases hi:i < xs.length
    ·rw [Zz hi] at e;exact sh i x e
    ·have Vg:i=j:=by
      have:=(YZ.mp e).1;rw [Za,Z9] at this;lia
     subst Vg;rw [Zx (by lia),xl,af,ZS] at e;rw [<-Zo.inj e];exact f2
  ·rintro σ H' ⟨xs,v9,v10,rfl,rfl,xl,nm,sh⟩;exact ⟨_,rfl,k _ D xs (P5.same (Ad hD)) (fun b' o hb z=>by rw [Af (Ai z fD)]; exact q5 _ _ hb z) fD Ab xl (LD sh fun i j hij hj tl U4=>UM (by lia) spm hij (by lia) tl U4) nm⟩
end
section
variable {P:Program} {w:World} {K:YX} {mg:Str->Option Value} {base:Heap}
theorem Fw (h_int:mg "int"=none) {fT:Addr} {fdT:FuncData} (XT:Fn K mg "_law_take" AK ["_law_pen","_law_many"] fT fdT) (GT:AL P w K mg base Ce 1 fT fdT ["_law_pen","_law_many"] (Dk K)) {f:Addr} {fd:FuncData} (F:EU K "_law_length" "_law_length" C0 f fd):AL P w K mg base Ce 2 f fd ["_law_pen"] (Ms K):=by
 refine F.ok Fs (fun vs H Q E h=>?_) (fun cdv A outer s H vs Q E hr h=>?_)
 ·obtain ⟨p,rfl,_⟩:=h;rfl
 ·obtain ⟨p,rfl,hP,k⟩:=h;have nd:=Fs.nd;have big:100000 < sizeLine:=by decide
  refine ⟨_,(Ae (Aq (i:=1) nd rfl (Or.inl rfl) (Ak GT (hr.mono (by decide)) (by rfl) XT.mg XT.F.kp XT.b .nil Ax (Aa (pv 0) (Aa Ag Ac))))
  (Ae (Dt (BO JS (pv 1) Ag (BV _))
  (Aj (AG (Aw Br Ag (Ak GT (hr.mono (by decide)) (by rfl) XT.mg XT.F.kp XT.b .nil Ax (Aa (pv 0) (Aa Ag Ac))))))
  BP)
  (Ae (Dt (BO JS (pv 1) Ag (BV _))
  (Aj (AG (Aw Br Ag (Ak GT (hr.mono (by decide)) (by rfl) XT.mg XT.F.kp XT.b .nil Ax (Aa (pv 0) (Aa Ag Ac))))))
  BP)
  (Aj (AG (Aw Br (A7 J7 (by rfl) h_int PyProof.Rows.boot_int (Aa (Aw DY Dy (Aw SG Dy (Ak GT (hr.mono (by decide)) (by rfl) XT.mg XT.F.kp XT.b .nil Ax (Aa (pv 0) (Aa Ag Ac))))) Ac)) (Ak GT (hr.mono (by decide)) (by rfl) XT.mg XT.F.kp XT.b .nil Ax (Aa (pv 0) (Aa Ag Ac))))))))),?_⟩
  have ten:(100:Int) < 10 ^ 30:=by decide
  refine ⟨_,rfl,p,12,rfl,hP,by decide,by decide,fun d H1 P1 k1 d0 d1=>?_⟩;exists _,rfl,_,_,rfl,rfl,_,rfl;refine Ck (fun _=>?_) (fun _=>?_)
  ·exact ⟨_,rfl,p,3,rfl,P1,by decide,by decide,fun e H2 P2 k2 e0 e1=>⟨_,_,rfl,rfl,k _ H2 P2 (k1.trans k2) (by lia) (by lia)⟩⟩
  exists _,rfl,_,_,rfl,rfl,_,rfl;refine Ck (fun _=>?_) (fun _=>?_)
  ·exact ⟨_,rfl,p,30,rfl,P1,by decide,by decide,fun e H2 P2 k2 e0 e1=>⟨_,_,rfl,rfl,k _ H2 P2 (k1.trans k2) (by lia) (by lia)⟩⟩
  refine ⟨_,rfl,p,30,rfl,P1,by decide,by decide,fun e H2 P2 k2 e0 e1=>?_⟩;obtain ⟨n,rfl⟩:∃ n:Nat,e=(n:Int):=⟨e.toNat,by lia⟩
  have hn:n < 30:=by lia
  have it:=Oi ⟨n,hn⟩;have l1:(Str.ofString "1").length=1:=by decide +kernel
  have zl:(J8 n).length=n:=it.2;refine ⟨n,rfl,rfl,hn,_,_,rfl,rfl,(by lia),_,_,rfl,it.1,(by rw [Str.length_append,l1,zl]; lia),_,rfl,p,10,rfl,P2,by decide,by decide,fun e2 H3 P3 k3 e20 e21=>⟨_,_,rfl,rfl,k _ H3 P3 (k1.trans (k2.trans k3)) ?_ ?_⟩⟩
  ·have:(1:Int)<=10 ^ n:=(Qw ⟨n,hn⟩).1;show 1<=(10:Int) ^ n + e2
   lia
  ·have h1:(10:Int) ^ n + 10<=10 ^ 30:=(Qw ⟨n,hn⟩).2;show (10:Int) ^ n + e2 < 10 ^ 30
   lia
theorem L8 (h_len:mg "len"=none) (h_list:mg "list"=none) (h_range:mg "range"=none) (h_sorted:mg "sorted"=none) {fT:Addr} {fdT:FuncData} (XT:Fn K mg "_law_take" AK ["_law_pen","_law_many"] fT fdT) (GT:AL P w K mg base Ce 1 fT fdT ["_law_pen","_law_many"] (Dk K)) {f:Addr} {fd:FuncData} (F:EU K "_law_some" "_law_some" DR f fd):AL P w K mg base Ce 2 f fd ["_law_pen","_law_names_here","_law_many"] (Nq K):=by
 refine F.ok GZ (fun vs H Q E h=>?_) (fun cdv A outer s H vs Q E hr h=>?_)
 ·obtain ⟨p,e,xs,m,rfl,_⟩:=h;rfl
 ·obtain ⟨p,e,xs,m,rfl,P0,he,nep,x30,mx,k⟩:=h;have nd:=GZ.nd;have big:100000 < sizeLine:=by decide
  refine ⟨_,(Ae (Aq (i:=3) nd rfl (Or.inl rfl) (A7 Gr (by rfl) h_list PyProof.Rows.boot_list (Aa (pv 1) Ac)))
  (Ae (Aq (i:=4) nd rfl (Or.inl rfl) (Bu Ac))
  (Ae (Bz PassesOwn.never rfl (CV (by rfl) h_range (Aa (pv 2) Ac)) (Ah (i:=5) nd rfl (Or.inl rfl))
  (Aj (Fd (Hl PySem.F.plainAttrs_list PySem.F.slot_list_append PySem.F.type_list_append Cc (pv 4) (Aa (Hl PySem.F.plainAttrs_list PySem.F.slot_list_pop PySem.F.type_list_pop Rp (pv 3) (Aa (Ak GT (hr.mono (by decide)) (by rfl) XT.mg XT.F.kp XT.b .nil Ax (Aa (pv 0) (Aa (Al (Az K rfl) (by rfl) h_len PySem.boot_len (Aa (pv 3) Ac)) Ac))) Ac)) Ac)))))
  (Aj (AG (Al Cd (by rfl) h_sorted PyProof.Rows.boot_sorted (Aa (pv 4) Ac))))))),?_⟩
  refine ⟨_,rfl,e,_,rfl,.inl (A9.of he),fun PL hPL=>?_⟩;have s0:=Ad (o:=.lst (xs.map V.str)) hPL;have nPL:PL ≠ p:=P0.ne hPL;have P1:=P0.same s0;have hPP:(upd H PL (.lst (xs.map V.str))) PL=some (.lst (xs.map V.str)):=Ab;generalize upd H PL (.lst (xs.map V.str))=H1 at s0 P1 hPP ⊢;refine ⟨(by show 0<=sizeLine; lia),fun D hD=>?_⟩;have s1:=Ad (o:=.lst []) hD;have AM:(upd H1 D (.lst [])) D=some (.lst []):=Ab;have nD:D ≠ p:=P1.ne hD;have nDP:D ≠ PL:=fun z=>by rw [z,hPP] at hD; cases hD
  have P2:=P1.same s1;have frD:H D=none:=s0.free hD;generalize upd H1 D (.lst [])=H2 at s1 AM P2 ⊢;refine ⟨_,rfl,m,rfl,by lia,by lia,Fg (n:=m) (fun i σ H'=>∃ (v5:Option V) (ys left:List Str),σ=[some (.ref p),some (.ref e),some (.int (m:Int)),some (.ref PL),some (.ref D),v5]/\Di K H' p/\(∀ b o,b ≠ p->H b=some o->H' b=some o)/\H' PL=some (.lst (left.map V.str))/\H' D=some (.lst (ys.map V.str))/\ys.length=i/\(ys ++ left).Perm xs)
   ⟨_,[],xs,rfl,P2,fun b o _ z=>s1 _ _ (s0 _ _ z),s1 _ _ hPP,AM,rfl,List.Perm.refl _⟩ ?_ (fun σ H' hP=>?_)⟩
  ·rintro i σ H3 hi ⟨v5,ys,left,rfl,P3,k3,h3,GH,yl,pm⟩;have ll:ys.length + left.length=xs.length:=by rw [<-Za]; exact pm.length_eq
   refine ⟨_,rfl,.inl ⟨rfl,_,A9.of GH⟩,_,rfl,.inl ⟨rfl,_,A9.of h3⟩,_,rfl,_,rfl,PL,_,rfl,.inl (A9.of h3),p,_,rfl,P3,?_,?_,fun e' H4 P4 k4 YG Xv=>?_⟩
   ·rw [YV]; lia
   ·rw [YV]; lia
   rw [YV] at Xv;obtain ⟨q,rfl⟩:∃ q:Nat,e'=(q:Int):=⟨e'.toNat,by lia⟩
   have hq:q < left.length:=by lia
   have hget:left[q]? = some left[q]:=YU hq;have h4:=k4 _ _ nPL h3;have Qg:=k4 _ _ nD GH;exists PL,_,_,q,.str left[q],rfl,rfl,h4,by lia,by lia,?_,by rw [Ze,hget]; rfl
   ·rw [YV];exact (KQ (by show Rz left.length (q:Int)=some q; unfold Rz; rw [if_pos (by lia),if_pos (by lia)]; rfl)).1
   rw [JY];have P5:=P4.other (zs:=(left.eraseIdx q).map V.str) h4 nPL;have J0:(upd H4 PL (.lst ((left.eraseIdx q).map V.str))) D=some (.lst (ys.map V.str)):=by rw [Af nDP]; exact Qg
   exists D,_,_,rfl,rfl,J0,by rw [YV]; lia
   exists _,ys ++ [left[q]],left.eraseIdx q,rfl,P5.other J0 nD,fun b' o hb z=>?_,?_,by rw [Ab,Zi]; rfl,by rw [Za,yl]; rfl
   ·rw [Af (Ai z frD),Af (Ai z hPL)];exact k4 _ _ hb (k3 b' o hb z)
   ·rw [Af nDP.symm];exact Ab
   ·refine List.Perm.trans ?_ pm;rw [ZR];exact List.Perm.append_left _ (Ep hget)
  ·obtain ⟨v5,ys,left,rfl,P3,k3,h3,GH,yl,pm⟩:=hP;have ll:ys.length + left.length=xs.length:=by rw [<-Za]; exact pm.length_eq
   refine ⟨_,rfl,D,ys,rfl,A9.of GH,by lia,fun l ss hl Xa srt=>?_⟩;have sl:=Ad (o:=.lst (ss.map V.str)) hl;exact k _ l ss left (P3.same sl) (fun b o hb z=>sl _ _ (k3 b o hb z)) (by
    cases z:H l with
    | none=>rfl
    | some o=>
     by_cases hb:l=p
     ·subst hb;obtain ⟨_,_,_,_,q,_⟩:=P3;rw [q] at hl;cases hl
     ·rw [k3 l o hb z] at hl;cases hl) Ab ((Xa.append_right left).trans pm) (by rw [Xa.length_eq]; exact yl) srt
end
section
variable {P:Program} {w:World} {K:YX} {mg:Str->Option Value} {base:Heap}
theorem takeB {f:Addr} {cdv:Value} {A:Around} {outer:List Env} {s:Shared} {H:Hp} {E:XK} :
  ∃ tl,Mj (J3 Ce P w K mg base ["_law_pen","_law_many","_law_place","_law_cell","_law_number","_law_digit"] "_law_take" (Ao AK) f cdv A outer s H E).nox ((Cr AK).drop 1) tl /\
   ∀ (W:EW) (H6:Hp) (p a:Addr) (ns:List Int) (i l m:Int) (v2 v3 v4 v5:Option V),H6 p=some (.lst (K8 a i l))->MY K H6 a (ns.map V.int)->ns.length<=63->0<=i->0<=l->0 < m->m < 1073741824->(∀ (d:Int) (H':Hp),Di K H' p->Ba p H6 H'->0<=d->d < m->W.rt (.int d) H')->tl W [some (.ref p),some (.int m),v2,v3,v4,v5] H6:=by
 have nd:=CF.nd;refine ⟨_,(Ae (Aq (i:=5) nd rfl (Or.inl rfl) (Aw DX (AA (AB K rfl) (pv 0) Ag (fun _ _=>rfl)) (pv 1)))
  (Ae (E6 (Aw NP (AA (AB K rfl) (pv 0) Ag (fun _ _=>rfl)) (pv 1)) (M4 (pv 0) Ag Ig))
  (Aj (AG (pv 5))))),?_⟩
 intro W H6 p a ns i l m v2 v3 v4 v5 hp sc ln i0 l0 hm Qe k;have sq:∀ {H':Hp} {a:Addr} {i l:Int},H' p=some (.lst (K8 a i l))->A9 K H' p (K8 a i l):=fun h=>.inl (.inl h)
 exists _,rfl,p,_,_,_,rfl,rfl,sq hp,QX _ _ _,_,rfl,_,_,rfl,rfl,hm;exists _,rfl,p,_,_,_,rfl,rfl,sq hp,QX _ _ _,_,rfl,_,_,rfl,rfl,⟨hm,Qe⟩,_,rfl,p,_,_,2,rfl,rfl,hp,rfl,_,rfl;exact k _ _ (Di.put hp sc ln i0 (Int.ediv_nonneg l0 (by lia))) Ba.upd (ai _ (by lia)) (az _ hm)
theorem takeD {f:Addr} {cdv:Value} {A:Around} {outer:List Env} {s:Shared} {H:Hp} {E:XK} :
  ∃ tl,Mj (J3 Ce P w K mg base ["_law_pen","_law_many","_law_place","_law_cell","_law_number","_law_digit"] "_law_take" (Ao AK) f cdv A outer s H E).nox (MF ((MF ((Cr AK).getD 0 (.Pass ⟨0,0,0,0⟩))).getD 4 (.Pass ⟨0,0,0,0⟩))) tl /\
   ∀ (W:EW) (H6:Hp) (p:Addr) (m i c:Int) (v4 v5:Option V),0 < m->0<=i->(∀ d:Int,0<=d->d < m->W.rt (.int d) H6)->tl W [some (.ref p),some (.int m),some (.int i),some (.int c),v4,v5] H6:=by
 have nd:=CF.nd;refine ⟨_,(Ae (Aq (i:=4) nd rfl (Or.inl rfl) (Aw DX (Aw Dz (Aw Br (Aw Br (Aw DX (pv 3) Ag) (Aw Dz Ag (pv 2))) Ag) Ag) Ag))
  (Ae (Aq (i:=4) nd rfl (Or.inl rfl) (Aw DX (Aw Br (Aw Br (Aw Dz (pv 4) (pv 4)) (Aw Dz Ag (pv 4))) (pv 2)) Ag))
  (Aj (AG (Aw DX (Aw NP (Aw DX (Aw Br (Aw Br (Aw Dz (pv 4) (pv 4)) (Aw Dz Ag (pv 4))) Ag) Ag) Ag) (pv 1)))))),?_⟩
 intro W H6 p m i c v4 v5 hm i0 k;exists _,rfl,_,_,rfl,rfl,(by show (0:Int) < 2147483629; decide),_,rfl,_,_,rfl,rfl,.inl ⟨by decide,by decide⟩,_,_,rfl,rfl,_,_,rfl,rfl,_,_,rfl,rfl,.inr ⟨by decide,by decide⟩,_,_,rfl,rfl,(by show (0:Int) < 2147483647; decide)
 have h0:0<=(c % 2147483629 + 40503 * i + 977) * 48271 % 2147483647:=ai _ (by decide);have h1:(c % 2147483629 + 40503 * i + 977) * 48271 % 2147483647 < 2147483647:=az _ (by decide);have big:∀ z:Int,0<=z->z < 2147483647->-(2 ^ 64) < z/\z < 2 ^ 64:=fun z a b=>⟨bx (b:=0) (by decide) a,cV b (by decide)⟩
 exists _,rfl,_,rfl,_,_,rfl,rfl,.inl (big _ h0 h1),_,rfl,_,_,rfl,rfl,.inl ⟨by decide,by decide⟩,_,_,rfl,rfl,_,rfl,_,_,rfl,rfl,_,_,rfl,rfl,(by show (0:Int) < 2147483587; decide)
 obtain ⟨u,eu,u0,u1⟩:∃ u:Int,((c % 2147483629 + 40503 * i + 977) * 48271 % 2147483647 * ((c % 2147483629 + 40503 * i + 977) * 48271 % 2147483647) + 69621 * ((c % 2147483629 + 40503 * i + 977) * 48271 % 2147483647) + i) % 2147483587=u/\0<=u/\u < 2147483647:=⟨_,rfl,ai _ (by decide),cV (az _ (by decide)) (by decide)⟩
 exists _,rfl,_,rfl,_,_,rfl,rfl,.inl (big _ (by rw [eu]; exact u0) (by rw [eu]; exact u1)),_,rfl,_,_,rfl,rfl,.inl ⟨by decide,by decide⟩,_,_,rfl,rfl,_,_,rfl,rfl,_,_,rfl,rfl,(by show (0:Int) < 2147483563; decide),_,_,rfl,rfl,⟨by decide,by decide⟩,_,rfl,_,_,rfl,rfl,hm;exact k _ (ai _ (by lia)) (az _ hm)
theorem takeC (h_len:mg "len"=none) {f:Addr} {cdv:Value} {A:Around} {outer:List Env} {s:Shared} {H:Hp} {E:XK} :
  ∃ tl,Mj (J3 Ce P w K mg base ["_law_pen","_law_many","_law_place","_law_cell","_law_number","_law_digit"] "_law_take" (Ao AK) f cdv A outer s H E).nox ((MF ((Cr AK).getD 0 (.Pass ⟨0,0,0,0⟩))).drop 4) tl /\
   ∀ (W:EW) (H6:Hp) (p a:Addr) (ns:List Int) (i l m c:Int) (v4 v5:Option V),H6 p=some (.lst (K8 a (i + 1) l))->MY K H6 a (ns.map V.int)->ns.length<=63->0<=i->0<=l->0 < m->m < 1073741824->0<=c->(∀ d:Int,0<=d->d < m->W.rt (.int d) H6)->(∀ (c':Int) (v4:Option V),0<=c'->W.nx [some (.ref p),some (.int m),some (.int i),some (.int c),v4,v5] (upd H6 p (.lst (K8 a (i + 1) c'))))->tl W [some (.ref p),some (.int m),some (.int i),some (.int c),v4,v5] H6:=by
 have nd:=CF.nd;obtain ⟨tlD,htD,rdD⟩:=takeD (P:=P) (w:=w) (K:=K) (mg:=mg) (base:=base) (f:=f) (cdv:=cdv) (A:=A) (outer:=outer) (s:=s) (H:=H) (E:=E);refine ⟨_,(Ae (Dt (N4 (BO op_ge (pv 2) (Al (Az K rfl) (by rfl) h_len PySem.boot_len (Aa (AA (AB K rfl) (pv 0) Ag (fun _ _=>rfl)) Ac)) (BV _)) (K7 (BO JS (pv 3) (Aw UN Ag Ag) (BV _)))).pt
  htD
  BP)
  (Aj (E6 (pv 3) (M4 (pv 0) Ag Ig)))),?_⟩
 intro W H6 p a ns i l m c v4 v5 hp sc ln i0 l0 hm Qe c0 kr kn;have sq:∀ {H':Hp} {a:Addr} {i l:Int},H' p=some (.lst (K8 a i l))->A9 K H' p (K8 a i l):=fun h=>.inl (.inl h)
 exists _,rfl,_,rfl,p,_,_,_,rfl,rfl,sq hp,NG _ _ _,a,_,rfl,.inl sc.sq,_,_,rfl,rfl,_,rfl;refine Ck (fun _=>rdD _ H6 p m i c v4 v5 hm i0 kr) (fun _=>?_);exists _,rfl,_,_,rfl,rfl,⟨by decide,by decide,by decide⟩,_,_,rfl,rfl,_,rfl;refine Ck (fun _=>rdD _ H6 p m i c v4 v5 hm i0 kr) (fun _=>?_);exists _,rfl,_,rfl,p,_,_,2,rfl,rfl,hp,rfl;exact kn c _ c0
theorem BB (h_abs:mg "abs"=none) (h_len:mg "len"=none) {f:Addr} {fd:FuncData} (F:EU K "_law_take" "_law_take" AK f fd):AL P w K mg base Ce 1 f fd ["_law_pen","_law_many"] (Dk K):=by
 refine F.ok CF (fun vs H Q E h=>?_) (fun cdv A outer s H vs Q E hr h=>?_)
 ·obtain ⟨p,m,rfl,_⟩:=h;rfl
 ·obtain ⟨p,m,rfl,⟨a,ns,i,l,hp,sc,ln,i0,l0⟩,hm,Qe,k⟩:=h;have nd:=CF.nd;have big:100000 < sizeLine:=by decide
  obtain ⟨tlC,htC,rdC⟩:=takeC (P:=P) (w:=w) (K:=K) (mg:=mg) (base:=base) h_len (f:=f) (cdv:=cdv) (A:=A) (outer:=outer) (s:=s) (H:=H) (E:=E);obtain ⟨tlB,htB,rdB⟩:=takeB (P:=P) (w:=w) (K:=K) (mg:=mg) (base:=base) (f:=f) (cdv:=cdv) (A:=A) (outer:=outer) (s:=s) (H:=H) (E:=E);refine ⟨_,(Ae (Dt (BO NQ (AA (AB K rfl) (pv 0) Ag (fun _ _=>rfl)) Ag (BV _))
  (Ae (Aq (i:=2) nd rfl (Or.inl rfl) (AA (AB K rfl) (pv 0) Ag (fun _ _=>rfl)))
  (Ae (E6 (Aw Br (pv 2) Ag) (M4 (pv 0) Ag Ig))
  (Ae (Aq (i:=3) nd rfl (Or.inl rfl) Ag)
  (Ae (Dt (BO Rj (Al (Az K rfl) (by rfl) h_len PySem.boot_len (Aa (AA (AB K rfl) (pv 0) Ag (fun _ _=>rfl)) Ac)) Ag (BV _))
  (Aj (Aq (i:=3) nd rfl (Or.inl rfl) (Al RO (by rfl) h_abs PyProof.Rows.boot_abs (Aa (AA (AB K rfl) (AA (AB K rfl) (pv 0) Ag (fun _ _=>rfl)) (Aw DX (pv 2) (Al (Az K rfl) (by rfl) h_len PySem.boot_len (Aa (AA (AB K rfl) (pv 0) Ag (fun _ _=>rfl)) Ac))) (fun _ _=>rfl)) Ac))))
  BP)
  htC))))
  BP)
  htB),?_⟩
  have sq:∀ {H':Hp} {a:Addr} {i l:Int},H' p=some (.lst (K8 a i l))->A9 K H' p (K8 a i l):=fun h=>.inl (.inl h)
  exists _,rfl,p,_,_,_,rfl,rfl,sq hp,QX _ _ _,rfl,_,rfl;refine Ck (fun z0=>?_) (fun _=>rdB _ H p a ns i l m _ _ _ _ hp sc ln i0 l0 hm Qe k);exists _,rfl,p,_,_,_,rfl,rfl,sq hp,pn5_1 _ _ _;exists _,rfl,_,_,rfl,rfl,_,rfl,p,_,_,1,rfl,rfl,hp,rfl;have Wt:(upd H p (.lst (K8 a (i + 1) l))) p=some (.lst (K8 a (i + 1) l)):=Ab;have VR:MY K (upd H p (.lst (K8 a (i + 1) l))) a (ns.map V.int):=sc.keep hp Ba.upd;have fin:∀ (c:Int),0<=c->tlC ⟨fun σ H'=>tlB ⟨fun _ H'=>Q .non H',Q,fun _ _=>False,fun _ _=>False⟩ σ H',Q,fun _ _=>False,fun _ _=>False⟩ [some (.ref p),some (.int m),some (.int i),some (.int c),none,none] (upd H p (.lst (K8 a (i + 1) l))):=fun c c0=>by
   refine rdC _ _ p a ns i l m c _ _ Wt VR ln i0 l0 hm Qe c0 (fun d d0 d1=>?_) fun c' v4 c0'=>?_
   ·exact k d _ (Di.put hp sc ln (by lia) l0) Ba.upd d0 d1
   ·refine rdB _ _ p a ns (i + 1) c' m _ _ _ _ Ab (VR.keep Wt Ba.upd) ln (by lia) c0' hm Qe fun d H' P' k' d0 d1=>k d H' P' ((Ba.upd.trans Ba.upd).trans k') d0 d1
  exists _,rfl,p,_,_,_,rfl,rfl,sq Wt,NG _ _ _,a,_,rfl,.inl VR.sq,_,_,rfl,rfl,_,rfl;refine Ck (fun zl=>?_) (fun _=>fin 0 (ZD _));have zl':0 < ns.length:=by have:=of_decide_eq_true zl; rw [YV] at this; lia
  have j0:0<=i % ((ns.map V.int).length:Int):=ai _ (by rw [YV]; lia);have j1:i % ((ns.map V.int).length:Int) < (ns.map V.int).length:=az _ (by rw [YV]; lia);obtain ⟨j,ej⟩:∃ j:Nat,i % ((ns.map V.int).length:Int)=(j:Int):=⟨(i % ((ns.map V.int).length:Int)).toNat,by lia⟩
  have jl:j < ns.length:=by rw [ej,YV] at j1; lia
  exists _,rfl,p,_,_,_,rfl,rfl,sq Wt,NG _ _ _,_,rfl,_,rfl,p,_,_,_,rfl,rfl,sq Wt,NG _ _ _,a,_,rfl,.inl VR.sq,_,_,rfl,rfl,(by show (0:Int) < ((ns.map V.int).length:Int); rw [YV]; lia),a,_,_,.int ns[j],rfl,rfl,VR.sq,(by rw [ej]; exact CD (by rw [Ze,YU jl]; rfl))
  exists _,rfl;exact fin _ (by first | exact Int.natCast_nonneg _ | exact Int.ofNat_nonneg _ | (split <;> lia))
end
end K44
namespace L2
open PySem PySem.Spec PyProof.Rows
def At (K:YX) (n:Str) (st:Stmt) (f:Addr) (fd:FuncData):Prop:=ZP K mainGlobals n=some (some (.ref f))/\EU K n n st f fd
section
variable {K:YX} {h:Heap} {mg:Str->Option Value} {n p q r t u:Str} {st:Stmt} {f:Addr} {fd:FuncData}
theorem at_mk {oc:Value} {od an:Option Addr} {osl:Array (Option Value)} {kV doc pm cdv ct:Value} (a:ZP K mainGlobals n=some (some (.ref f))) (l:K.lookup f=some ⟨oc,od,.func (ay n n (Ee st) (Cr st) (Ao st) .none kV doc pm an cdv ct),osl⟩)
  (c:bH K cdv n=true) (k:bG K (.ref f)=true):At K n st f (ay n n (Ee st) (Cr st) (Ao st) .none kV doc pm an cdv ct):=⟨a,Vi l c k⟩
abbrev BA (n:Str) (st:Stmt) (us:List Value) (ps:List (Str × Value)):Prop:=∀ (kV doc pm:Value) (an:Option Addr) (cdv ct:Value),bindArgs (ay n n (Ee st) (Cr st) (Ao st) .none kV doc pm an cdv ct) ⟨us,[]⟩=pure ps
theorem Ul (X:K.In h) (G:h.Ns mainGlobals mg) (A:At K n st f fd) (hb:∀ x,BA n st [x] [(p,x)]):Fn K mg n st [p] f fd:=⟨A.2,aW X G A.1,A.2.binds fun _ _ _ _ _ _ us hl=>by obtain ⟨x,rfl⟩:=len1 hl; exact hb ..⟩
theorem Qh (X:K.In h) (G:h.Ns mainGlobals mg) (A:At K n st f fd) (hb:∀ x y,BA n st [x,y] [(p,x),(q,y)]):Fn K mg n st [p,q] f fd:=⟨A.2,aW X G A.1,A.2.binds fun _ _ _ _ _ _ us hl=>by obtain ⟨x,y,rfl⟩:=Ta hl; exact hb ..⟩
theorem fa3 (X:K.In h) (G:h.Ns mainGlobals mg) (A:At K n st f fd) (hb:∀ x y z,BA n st [x,y,z] [(p,x),(q,y),(r,z)]):Fn K mg n st [p,q,r] f fd:=⟨A.2,aW X G A.1,A.2.binds fun _ _ _ _ _ _ us hl=>by obtain ⟨x,y,z,rfl⟩:=len3 hl; exact hb ..⟩
end
end L2
namespace K44
open PySem L2
theorem all_mk {l:cc} {w:World} {K:YX} {h:Heap} {mg:Str->Option Value} {fa f1 f2 f3 f4 f5 f6 f7 f8 f9 f10 f11 f12 f13 f14 f15 f16 f17 f18 f19 f20 f21 f22 f23 f24 f25 f26:Addr} {d1 d2 d3 d4 d5 d6 d7 d8 d9 d10 d11 d12 d13 d14 d15 d16 d17 d18 d19 d20 Xx d22 d23 d24 d25 d26:FuncData} (X:K.In h) (G:h.Ns mainGlobals mg) (hfa:mg "law"=some (.ref fa))
  (a1:At K "is_name" EZ f1 d1) (a2:At K "are_rising" CS f2 d2) (a3:At K "is_opening" CQ f3 d3) (a4:At K "most_houses" CA f4 d4) (a5:At K "neighbours" CO f5 d5) (a6:At K "fars" K3 f6 d6) (a7:At K "site_fars" Dm f7 d7) (a8:At K "nearest" EY f8 d8) (a9:At K "costs_of" DT f9 d9) (a10:At K "is_settled" CP f10 d10) (a11:At K "bettered" DU f11 d11) (a12:At K "better" E3 f12 d12) (a13:At K "outcomes_of" C9 f13 d13) (a14:At K "changed" Fb f14 d14) (a15:At K "_law_take" AK f15 d15) (a16:At K "_law_names" Dp f16 d16) (a17:At K "_law_length" C0 f17 d17) (a18:At K "_law_map" C6 f18 d18) (a19:At K "_law_some" DR f19 d19) (a20:At K "_law_case" DS f20 d20) (a21:At K "_law_lengths" CB f21 Xx) (a22:At K "_law_costs" Dq f22 d22) (a23:At K "_law_openings" Cz f23 d23) (a24:At K "_law_changed" CC f24 d24) (a25:At K "_law_right" Dn f25 d25) (a26:At K "law" QL f26 d26)
  (z1:ZP K mainGlobals "int"=some none) (z2:ZP K mainGlobals "abs"=some none) (z3:ZP K mainGlobals "len"=some none) (z4:ZP K mainGlobals "min"=some none) (z5:ZP K mainGlobals "tuple"=some none) (z6:ZP K mainGlobals "range"=some none) (z7:ZP K mainGlobals "list"=some none) (z8:ZP K mainGlobals "sorted"=some none) (z9:ZP K mainGlobals "max"=some none) (z10:ZP K mainGlobals "dict"=some none) (z11:ZP K mainGlobals "sum"=some none) (z12:ZP K mainGlobals "all"=some none) (z13:ZP K mainGlobals "isinstance"=some none) (z14:ZP K mainGlobals "set"=some none) (z15:ZP K mainGlobals "str"=some none) {tc1:Tok} (w1:ZP K mainGlobals "MOST_LETTERS"=some (some (.int 6 tc1))) :
  ∃ fd:FuncData,(∀ (s:Shared) (v:Value),BindsTo s fd ⟨[v],[]⟩ [("_law_script",v)])/\∀ base:Heap,K.In base->base.Ns mainGlobals mg->AL l.prog w K mg base Ce 9 fa fd ["_law_script"] (Nu K):=by
 cases hfa.symm.trans (aW X G a26.1)
 have y1:=ZG X G z1;have y2:=ZG X G z2;have y3:=ZG X G z3;have y4:=ZG X G z4;have y5:=ZG X G z5;have y6:=ZG X G z6;have y7:=ZG X G z7;have y8:=ZG X G z8;have y9:=ZG X G z9;have VG:=ZG X G z10;have X0:=ZG X G z11;have V1:=ZG X G z12;have WR:=ZG X G z13;have y14:=ZG X G z14;have y15:=ZG X G z15;have n1:=Ul X G a1 (p:="thing") fun _ _ _ _ _ _ _=>rfl
 have n2:=Ul X G a2 (p:="things") fun _ _ _ _ _ _ _=>rfl
 have n3:=Qh X G a3 (p:="case") (q:="thing") fun _ _ _ _ _ _ _ _=>rfl
 have n4:=Ul X G a4 (p:="case") fun _ _ _ _ _ _ _=>rfl
 have n5:=Ul X G a5 (p:="web") fun _ _ _ _ _ _ _=>rfl
 have n6:=Qh X G a6 (p:="web") (q:="place") fun _ _ _ _ _ _ _ _=>rfl
 have n7:=Ul X G a7 (p:="case") fun _ _ _ _ _ _ _=>rfl
 have n8:=Qh X G a8 (p:="web") (q:="starts") fun _ _ _ _ _ _ _ _=>rfl
 have n9:=Qh X G a9 (p:="case") (q:="chosen") fun _ _ _ _ _ _ _ _=>rfl
 have n10:=Qh X G a10 (p:="case") (q:="opening") fun _ _ _ _ _ _ _ _=>rfl
 have n11:=Qh X G a11 (p:="case") (q:="opening") fun _ _ _ _ _ _ _ _=>rfl
 have n12:=Qh X G a12 (p:="case") (q:="opening") fun _ _ _ _ _ _ _ _=>rfl
 have n13:=Qh X G a13 (p:="case") (q:="opening") fun _ _ _ _ _ _ _ _=>rfl
 have n14:=fa3 X G a14 (p:="opening") (q:="out") (r:="more") fun _ _ _ _ _ _ _ _ _=>rfl
 have Ug:=Qh X G a15 (p:="_law_pen") (q:="_law_many") fun _ _ _ _ _ _ _ _=>rfl
 have n16:=Qh X G a16 (p:="_law_pen") (q:="_law_many") fun _ _ _ _ _ _ _ _=>rfl
 have n17:=Ul X G a17 (p:="_law_pen") fun _ _ _ _ _ _ _=>rfl
 have n18:=fa3 X G a18 (p:="_law_pen") (q:="_law_names_here") (r:="_law_shape") fun _ _ _ _ _ _ _ _ _=>rfl
 have n19:=fa3 X G a19 (p:="_law_pen") (q:="_law_names_here") (r:="_law_many") fun _ _ _ _ _ _ _ _ _=>rfl
 have n20:=Qh X G a20 (p:="_law_pen") (q:="_law_shape") fun _ _ _ _ _ _ _ _=>rfl
 have n21:=Ul X G a21 (p:="_law_plan") fun _ _ _ _ _ _ _=>rfl
 have n22:=fa3 X G a22 (p:="_law_case_here") (q:="_law_lengths_here") (r:="_law_opening") fun _ _ _ _ _ _ _ _ _=>rfl
 have n23:=Ul X G a23 (p:="_law_case_here") fun _ _ _ _ _ _ _=>rfl
 have n24:=Qh X G a24 (p:="_law_case_here") (q:="_law_limited") fun _ _ _ _ _ _ _ _=>rfl
 have n25:=fa3 X G a25 (p:="_law_pen") (q:="_law_case_here") (r:="_law_times") fun _ _ _ _ _ _ _ _ _=>rfl
 obtain ⟨oc,od,kV,doc,pm,an,cdv,ct,osl,e,lk,hcd⟩:=a26.2.ex;exact ⟨d26,fun s v=>by subst e; exact .of_eq rfl,fun base _ _=>UQ y1 Ug (BB y2 y3 a15.2) n20 (L9 y1 y3 y4 y5 Ug (BB y2 y3 a15.2) n16 (KJ y3 y6 Ug (BB y2 y3 a15.2) a16.2) n17 (Fw y1 Ug (BB y2 y3 a15.2) a17.2) n19 (L8 y3 y7 y6 y8 Ug (BB y2 y3 a15.2) a19.2) n18 (M8 y1 y3 y9 y6 y8 y5 Ug (BB y2 y3 a15.2) n17 (Fw y1 Ug (BB y2 y3 a15.2) a17.2) a18.2) a20.2) n24 (Iy y1 y5 a24.2) n25 (KI VG y3 y9 y4 y6 Ug (BB y2 y3 a15.2) n21 (Iw y1 a21.2) n23 (HE y1 y3 y8 a23.2) n22 (KL y4 X0 a22.2) n10 (Jv n12 (JV y7 y4 n13 (E8 n14 (Iz y8 y5 a14.2) n3 (Fx V1 VG WR y3 y5 n4 (E9 y3 y4 a4.2) n2 (Fy V1 y7 y8 y14 n1 (NT ⟨y3,WR,y15,V1,⟨_,aW X G w1⟩⟩ a1.2) a2.2) a3.2) a13.2) n9 (Hm VG y4 X0 n7 (Gh n6 (NU ⟨⟨n5.F,n5.mg,n5.b⟩,y4,n8.F,n8.mg,n8.b⟩ a6.2) a7.2) a9.2) a12.2) a10.2) n11 (LA n12 (JV y7 y4 n13 (E8 n14 (Iz y8 y5 a14.2) n3 (Fx V1 VG WR y3 y5 n4 (E9 y3 y4 a4.2) n2 (Fy V1 y7 y8 y14 n1 (NT ⟨y3,WR,y15,V1,⟨_,aW X G w1⟩⟩ a1.2) a2.2) a3.2) a13.2) n9 (Hm VG y4 X0 n7 (Gh n6 (NU ⟨⟨n5.F,n5.mg,n5.b⟩,y4,n8.F,n8.mg,n8.b⟩ a6.2) a7.2) a9.2) a12.2) a11.2) a25.2) a26.2⟩
theorem UA {K:YX} {H:Hp} {a:Addr} {xs:List V} (o:T7 H) (h:A9 K H a xs):MY K H a xs:=by
 rcases h with (h | ⟨ob,h⟩) | h
 ·rcases o a with z | ⟨ob,ys,z⟩ <;> (rw [h] at z; cases z)
 ·exact .inl ⟨ob,h⟩
 ·exact .inr h
theorem walk {l:cc} {q:Program} {loose:List Str} {XP:(Str->Option Value)->Heap->Prop} {YP:World->Heap->Prop} {d:DefRec} {K:Params->YX} (hn:l.most=some 63) (hdf:d.params.defaults=[])
  (hY:∀ (w:World) (h:Heap),YP w h->(K w.params).In h)
  (F:∀ (w:World) (mg:Str->Option Value) (fa:Addr) (h:Heap),(K w.params).In h->h.Ns mainGlobals mg->mg d.name=some (.ref fa) ->
   ∃ fd:FuncData,(∀ (s:Shared) (u:Value),BindsTo s fd ⟨[u],[]⟩ [("_law_script",u)])/\∀ base:Heap,(K w.params).In base->base.Ns mainGlobals mg->AL l.prog w (K w.params) mg base Ce 9 fa fd ["_law_script"] (Nu (K w.params))) :
  dO q loose XP YP l.row.toRowW d [] (fun f vs=>PySem.call f vs):=
 L2.walk_of (n:=63) (k:=9) (x:="_law_script") (CX:=fun _=>Ce) (sp:=fun w=>Nu (K w.params)) hn (by decide) hdf ⟨rfl,by decide,by decide,rfl⟩ hY F (fun _ _ a ns hl ho hS=>⟨a,ns,rfl,UA ho hS,hl,fun _=>rfl⟩) fun _ _ _ _ _ z=>z
end K44
structure PySem.W.Fast:Prop where
  (tw13100639514181753201 tw8529907598612756614 tw8573189396304060300 tw9111159500429977234 tw4711528535668692599 tw1651681595812376655 tw9412684093241955383 tw10820456421841891464 tw1533380776460818439 tw16022649628081745643 tw12258454937591285962 tw17841797361343181913 tw2617870858095256529 tw16926234252709478207 tw14242873894058308556 tw9080899605753440288 tw17634654165571806716 tw11350348796940751172 tw6520174363534862292 tw14171623496856020482 tw10954392302109826595 tw7471037475856000880 tw5758836922486140391 tw986152126923984629 tw15268734595891971538 tw17475658450050000700 tw16638707885380560218 tw6265758802949424621 tw2532712561363067698 tw2465709552122038074 tw17916624495383081806 tw15808637599253118914 tw7124376396522368973 tw3768370789962750616 tw14336985205892528597 tw11590344679206938148 tw8536196593272612627 tw3495140690460449067 tw9755781701139936824 tw17771631561128090843 tw11625681988313579488 tw16988489808118938401 tw7897577260818405215 tw10299533465035881119 tw4700982780785503287 tw9581866431542319753 tw12114486742147156520 tw13673448961656528541 tw398078954046349096 tw6634071717200928882 tw454249607431707051 tw9303747933659362033 tw9829647905439792322 tw11373273900017219577 tw4367954949426247422 tw17153900105603888914 tw8107914142010863265 tw9711333302205988903 tw11201867861166495045 tw7977065547199324341 tw9189145069655912804 tw12776659845700278446 tw12345737290919950382 tw4621131419827964120:True)
open PySem PySem.W PyProof.Rows
set_option maxRecDepth 100000 in
set_option maxHeartbeats 0 in
theorem PySem.Challenge.cw_openhouses_k44_whole_three_times_the_bes_holds : PySem.Challenge.rw_openhouses_k44_whole_three_times_the_bes.Holds := by
 w_on; o_law; k_head; (case hw=>w_witness2)
 k_fill
 refine K44.walk (l:=PySem.Challenge.rw_openhouses_k44_whole_three_times_the_bes) rfl rfl (fun w h Y=>PySem.W.kIn_of Y) ?F
 case F=>
  intro w mg fa h KX G hmg;refine' K44.all_mk KX G hmg (L2.at_mk ?a1 ?l1 ?c1 ?k1) (L2.at_mk ?a2 ?l2 ?c2 ?k2) (L2.at_mk ?a3 ?l3 ?c3 ?k3) (L2.at_mk ?a4 ?l4 ?c4 ?k4) (L2.at_mk ?a5 ?l5 ?c5 ?k5) (L2.at_mk ?a6 ?l6 ?c6 ?k6) (L2.at_mk ?a7 ?l7 ?c7 ?k7) (L2.at_mk ?a8 ?l8 ?c8 ?k8) (L2.at_mk ?a9 ?l9 ?c9 ?k9) (L2.at_mk ?a10 ?l10 ?c10 ?k10) (L2.at_mk ?a11 ?l11 ?c11 ?k11) (L2.at_mk ?a12 ?l12 ?c12 ?k12) (L2.at_mk ?a13 ?l13 ?c13 ?k13) (L2.at_mk ?a14 ?l14 ?c14 ?k14) (L2.at_mk ?a15 ?l15 ?c15 ?k15) (L2.at_mk ?a16 ?l16 ?c16 ?k16) (L2.at_mk ?a17 ?l17 ?c17 ?k17) (L2.at_mk ?a18 ?l18 ?c18 ?k18) (L2.at_mk ?a19 ?l19 ?c19 ?k19) (L2.at_mk ?a20 ?l20 ?c20 ?k20) (L2.at_mk ?a21 ?l21 ?c21 ?k21) (L2.at_mk ?a22 ?l22 ?c22 ?k22) (L2.at_mk ?a23 ?l23 ?c23 ?k23) (L2.at_mk ?a24 ?l24 ?c24 ?k24) (L2.at_mk ?a25 ?l25 ?c25 ?k25) (L2.at_mk ?a26 ?l26 ?c26 ?k26) ?z1 ?z2 ?z3 ?z4 ?z5 ?z6 ?z7 ?z8 ?z9 ?z10 ?z11 ?z12 ?z13 ?z14 ?z15 ?w1;any_goals k_is
