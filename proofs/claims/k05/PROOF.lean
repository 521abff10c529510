import PyProof.Rows.All
import Wide.All
import OpenK.AllK
import Wide.FinOn
import Lean
import PyProof.EqAt
import PyProof.EqKinds
import PyProof.TupleCall
import PyProof.P3Eq
import PyProof.NeData
import PyProof.P3In
import PyProof.StrLawsChain
import KE.KIntText
import KE.IntTextLaws
import PyProof.Rows.StrJoinMade
import PyProof.Rows.FStr
import PyProof.ListMulRoad
import PySem.Challenge.RW_openhouses_k05_first_paths
open List renaming getElem?_eq_getElem→Qi,length_map→Qk,mem_of_getElem?→Qm,mem_cons→Qn,mem_append_right→Qq,mem_singleton→Qs,map_cons→Qt,map_append→Qw,getElem?_eq_some_iff→Qx,mem_cons_self→Qy,length_append→Qz,mem_map→Q0,mem_cons_of_mem→Q3,getElem_of_mem→Q5,getD_eq_getElem?_getD→Q6,getElem?_map→Q7,not_mem_nil→Q8,size_toArray→Q9,mem_append→QA,mem_append_left→QD,length_cons→QF,sum_cons→QG,nodup_cons→QI,take_add_one→QJ,range→QO,mem_filter→QQ,take_length→QT,length_take→QW,getElem_mem→QX,getElem?_append_right→QY,getElem?_append_left→QZ,length_singleton→Ra,map_map→Rc,mem_range→Rf,length_filter_le→Rh,any_cons→Ri,filterMap_cons→Rj,map_congr_left→Rk,length_eq_zero_iff→Rl,mem_filterMap→Rn,find?_cons→Ru,pairwise_singleton→Rw,getElem?_cons_zero→Rx,length_range→R3,getElem_take→R4,append_inj'→R6,map_nil→R7,nodup_nil→RC,lt_irrefl→RD,not_lt→RE,length_pos_iff→RG,filter_append→RJ,nodup_append→RL,append_assoc→RM,all_eq_true→RQ,length→RT,of_mem_zip→RU,length_zip→RV,pairwise_iff_getElem→RY,exists_mem_of_ne_nil→RZ,all_cons→Sa,length_filterMap_le→Sb,getElem?_set_self→Se,filterMap_append→Sk,getElem?_set_ne→Sn,pairwise_append→Sr,filter_sublist→Su,map_inj_right→Sx,pairwise_cons→Sy,getElem_inj→S5,cons_append→S6,filter_cons→S7,nodup_range→S9,cons→SE,length_nil→SF,lt_asymm→SJ,sum_nil→SM
open PySem.W renaming Frag→Qj,mg_none_of→QP,kia_one→QU,nsIn→Rb,fnOf→Rm,mg_of→R0,keepIn→R8,codeIn→R9,methodObj→RH,instObj→RN,OpenLaw→RO,lookIn→RS,cellsFrom_some→RX,kitx_list→So,kitx_dict→Sq,plainGet→Ss,findIn→S0,kitOne→S1,WalkO→S8
open PySem.Heap renaming get?_push_of_some→Ql,lt_size→Qp,get?_push_size→Q4,get?_update_other→QS,size_push→QV,size_update→RR,get?_update_self→Si,get?_push_ne→S4
open Nat renaming le_refl→Qo,lt_of_lt_of_le→Qu,ne_of_lt→Qv,lt_succ_self→QC,le_trans→QE,zero_le→QH,lt_succ_of_lt→QK,lt_irrefl→QL,le_succ→QN,not_lt_zero→Ro,mul_le_mul→Rp,ne_of_gt→Rr,lt_of_succ_lt→R5,not_lt→RB,pow_le_pow_right→RF,le_succ_of_le→RP,le_of_lt→Sh,sub_self→Sm,mul_le_mul_right→Sv,add_sub_cancel→S2,zero_add→SN,succ_mul→SO,succ→SR
open Bool renaming false_ne_true→Qr,and_eq_true→Rq,false_eq_true→Rv,eq_iff_iff→Rz,or_eq_true→SG,false_and→SH,and_true→SI
open Option renaming some→QB,map_some→Rt,isSome_iff_exists→R1,isSome_map→RI,none→Sf
open Int renaming emod_lt_of_pos→QM,emod_nonneg→QR,le_refl→Ry,lt_of_lt_of_le→RK,add_zero→Sj,lt_trans→Sl,toNat_of_nonneg→Sz,emod_eq_of_lt→SD,add_assoc→SK,zero_add→SQ
open Array renaming length_toList→Rg,perm_iff_toList_perm→RW,toList→Sd,mem_of_getElem?→Sg,toList_inj→S3
set_option Elab.async false
set_option linter.all false
set_option maxRecDepth 100000
set_option maxHeartbeats 4000000
namespace L2
open PySem PySem.W PyProof.Rows
section
variable {lt:Keyed->Keyed->Bool}
end
section
variable {prog:Program} {w:World} {A:Around} {E:Value->Shared->Prop} {s:Shared} {κ:SortKind} {lt:Keyed->Keyed->Bool} {a0:Array Keyed}
end
section lists
variable {lt:Keyed->Keyed->Bool}
end lists
section
variable {prog:Program} {w:World} {A:Around} {E:Value->Shared->Prop} {s:Shared} {κ:SortKind} {lt:Keyed->Keyed->Bool} {a0:Array Keyed}
end
section
variable {prog:Program} {w:World} {A:Around} {E:Value->Shared->Prop} {s:Shared} {κ:SortKind} {lt:Keyed->Keyed->Bool} {a0:Array Keyed}
end
section segs
variable {lt:Keyed->Keyed->Bool}
end segs
section
variable {prog:Program} {w:World} {A:Around} {E:Value->Shared->Prop} {s:Shared} {κ:SortKind} {lt:Keyed->Keyed->Bool} {a0:Array Keyed}
end
section
variable {lt:Keyed->Keyed->Bool}
end
section
variable {prog:Program} {w:World} {A:Around} {E:Value->Shared->Prop} {s:Shared} {κ:SortKind} {lt:Keyed->Keyed->Bool} {a0:Array Keyed}
end
section
variable {prog:Program} {w:World} {A:Around} {E:Value->Shared->Prop} {s:Shared} {κ:SortKind} {lt:Keyed->Keyed->Bool} {a0:Array Keyed}
end
end L2
namespace L2
open PySem PySem.Spec PyProof.Rows
abbrev A5:=Sum Int Str
def EH:A5->Value->Bool
 | .inl k,v=>Value.isInt k v
 | .inr x,v=>Value.isStrOf x v
def keyH (w:World):A5->Int
 | .inl k=>hashInt k
 | .inr x=>hashStr w x
theorem AH:∀ {k:A5} {v:Value},EH k v=true->(∃ i t,k=Sum.inl i/\v=Value.int i t)\/(∃ x t,k=Sum.inr x/\v=Value.str x t)
 | .inl i,v,h=>by
  obtain ⟨t,e⟩:=Value.isInt_shape (k:=i) (v:=v) h;exact .inl ⟨i,t,rfl,e⟩
 | .inr x,v,h=>by
  obtain ⟨t,e⟩:=Value.isStrOf_shape (x:=x) (v:=v) h;exact .inr ⟨x,t,rfl,e⟩
theorem Jb (i:Int) (t:Tok):EH (.inl i) (.int i t)=true:=by simp [EH,Value.isInt]
theorem Ja (x:Str) (t:Tok):EH (.inr x) (.str x t)=true:=by simp [EH,Value.isStrOf]
theorem Nj (a b:Int):decide ((Sum.inl a:A5)=Sum.inl b)=(a == b):=by
 by_cases e:a=b
 ·subst e; simp
 ·have h:¬ (Sum.inl a:A5)=Sum.inl b:=fun q=>e (Sum.inl.inj q)
  rw [decide_eq_false h];exact (beq_eq_false_iff_ne.mpr e).symm
theorem Ng (a b:Str):decide ((Sum.inr a:A5)=Sum.inr b)=decide (a=b):=by
 by_cases e:a=b
 ·subst e; simp
 ·have h:¬ (Sum.inr a:A5)=Sum.inr b:=fun q=>e (Sum.inr.inj q)
  rw [decide_eq_false h,decide_eq_false e]
theorem Ni (a:Int) (b:Str):decide ((Sum.inl a:A5)=Sum.inr b)=false:=decide_eq_false (fun q=>nomatch q)
theorem Nh (a:Str) (b:Int):decide ((Sum.inr a:A5)=Sum.inl b)=false:=decide_eq_false (fun q=>nomatch q)
def AD (prog:Program) (w:World):PySem.KeyKind prog w A5 where
 is:=EH
 hash:=keyH w
 inj:=fun v a b ha hb=>by
  rcases AH ha with ⟨i,t,rfl,rfl⟩ | ⟨x,t,rfl,rfl⟩
  ·rcases AH hb with ⟨j,u,rfl,e⟩ | ⟨y,u,rfl,e⟩
   ·injection e with e1 _; rw [e1]
   ·exact nomatch e
  ·rcases AH hb with ⟨j,u,rfl,e⟩ | ⟨y,u,rfl,e⟩
   ·exact nomatch e
   ·injection e with e1 _; rw [e1]
 byValue:=fun k v h=>by
  rcases AH h with ⟨i,t,rfl,rfl⟩ | ⟨x,t,rfl,rfl⟩ <;> rfl
 pyHash:=fun hv h=>by
  rcases AH hv with ⟨i,t,rfl,rfl⟩ | ⟨x,t,rfl,rfl⟩
  ·exact wpAny_pyHash_int h
  ·exact wpAny_pyHash_str h
 eqBool:=fun hu hv h=>by
  rcases AH hu with ⟨i,t,rfl,rfl⟩ | ⟨x,t,rfl,rfl⟩
  ·rcases AH hv with ⟨j,u,rfl,rfl⟩ | ⟨y,u,rfl,rfl⟩
   ·rw [Nj] at h; exact wpAny_eqBool_int h
   ·rw [Ni] at h; exact SeqAt.EqAt.int_str i t y u _ _ _ _ h
  ·rcases AH hv with ⟨j,u,rfl,rfl⟩ | ⟨y,u,rfl,rfl⟩
   ·rw [Nh] at h; exact SeqAt.EqAt.str_int x t j u _ _ _ _ h
   ·rw [Ng] at h; exact wpAny_eqBool_str h
 «strs»:=fun k x t v h=>by
  rcases AH h with ⟨i,u,rfl,e⟩ | ⟨y,u,rfl,e⟩
  ·exact nomatch e
  ·injection e with e1 _;subst e1;cases v <;> rfl
theorem G6 (prog:Program) (w:World) (i:Int) (t:Tok):(AD prog w).is (.inl i) (.int i t)=true:=Jb i t
theorem G5 (prog:Program) (w:World) (x:Str) (t:Tok):(AD prog w).is (.inr x) (.str x t)=true:=Ja x t
inductive V where
 | non | bl (b:Bool) | int (i:Int) | str (x:Str) | byt (b:Array UInt8) | flt (b:UInt64) | ref (a:Addr) | ty (n:String)
 deriving DecidableEq
def As:V->Value->Prop
 | .non,u=>u=Value.none
 | .bl b,u=>u=Value.bool b
 | .int i,u=>∃ t,u=Value.int i t
 | .str x,u=>∃ t,u=Value.str x t
 | .byt b,u=>∃ t,u=Value.bytes b t
 | .flt b,u=>∃ t,u=Value.float b t
 | .ref a,u=>u=Value.ref a
 | .ty n,u=>u=Value.type n
abbrev A4:List V->List Value->Prop:=Paired As
theorem A4.length {xs:List V} {us:List Value} (r:A4 xs us):xs.length=us.length:=Paired.length r
theorem A4.get:∀ {xs:List V} {us:List Value} {i:Nat} {x:V},A4 xs us->xs[i]? = some x->∃ u,us[i]? = some u/\As x u
 | _,_,_,_,.nil,e=>by simp at e
 | _,_,0,_,.cons r _,e=>by simp at e; subst e; exact ⟨_,rfl,r⟩
 | _,_,i + 1,x,.cons _ t,e=>by
  obtain ⟨u,h1,h2⟩:=A4.get (i:=i) (x:=x) t (by simpa using e);exact ⟨u,by simpa using h1,h2⟩
theorem A4.append:∀ {xs ys:List V} {us ws:List Value},A4 xs us->A4 ys ws->A4 (xs ++ ys) (us ++ ws)
 | _,_,_,_,.nil,s=>s
 | _,_,_,_,.cons r t,s=>.cons r (A4.append t s)
def DR:Option V->Option Value->Prop
 | some v,some u=>As v u
 | none,none=>True
 | _,_=>False
def KV {κ:Type}:List (κ × V)->List (κ × Value)->Prop:=Paired fun (p:κ × V) (q:κ × Value)=>p.1=q.1/\As p.2 q.2
def kV:A5->V
 | .inl i=>.int i
 | .inr x=>.str x
inductive HO where
 /-- a list -/
 | lst (xs:List V)
 /-- a tuple (never changes) -/
 | tup (xs:List V)
 /-- a dict whose keys are ints and texts; one whose keys are tuples of ints and texts (the empty one is both) -/
 | dK (kvs:List (A5 × V)) | dT (kvs:List (List A5 × V))
 /-- a set of ints: Ar members,Ar size -/
 | set (S:Int->Bool) (n:Nat)
 /-- an instance of the class at C,Ar dict at dx,Ar attributes -/
 | ins (C dx:Addr) (fs:List (Str × V))
 /-- the dict of the instance at x -/
 | own (x:Addr)
 /-- the dict of an exception -/
 | xd (fs:List (Str × V))
 /-- a bound method,f of x -/
 | met (f x:Addr)
 /-- a range object lo,lo + 1,.. below hi -/
 | rng (lo hi:Int)
 /-- a thing that is known to the object (the script; a dict while a loop walks it): read,never written while it is so -/
 | frz (o:Obj) (u:HO)
 /-- a code Ov table -/
 | tbl (ps:Array Value)
 /-- any other thing,by what is true of Ar one object (a def of one's own: SetO a S n:=HO.ext fun h=>..) -/
 | ext (φ:Heap->Prop)
abbrev Hp:=Addr->Option HO
def upd (H:Hp) (a:Addr) (o:HO):Hp:=fun b=>if b=a then some o else H b
theorem Ab {H:Hp} {a:Addr} {o:HO}:upd H a o a=some o:=by unfold upd; rw [if_pos rfl]
theorem Af {H:Hp} {a b:Addr} {o:HO} (h:b ≠ a):upd H a o b=H b:=by unfold upd; rw [if_neg h]
theorem BF {H:Hp} {a:Addr} {o u:HO}:upd (upd H a o) a u=upd H a u:=by
 funext b; unfold upd; split <;> rfl
theorem Bn {H:Hp} {a b:Addr} {o u:HO} (h:H a=some o) (h':H b=some u) (d:o ≠ u):a ≠ b:=by
 intro e; subst e; rw [h] at h'; exact d (QB.inj h')
theorem Ai {H:Hp} {a b:Addr} {o:HO} (h:H a=some o) (h':H b=none):a ≠ b:=by
 intro e; subst e; rw [h] at h'; cases h'
def KZ (h:Heap) (a:Addr):Prop:=∀ o,h.get? a=some o->o.dict=none
theorem KZ.new {h:Heap} {o:Obj} (hd:o.dict=none) (hf:o.isFreed=false):KZ (h.push o) h.objs.size:=fun o' e=>by
 rw [Q4 _ hf] at e;cases e
 exact hd
section
variable (P:Program) (w:World)
def Ax (H:Hp) (h:Heap) (a:Addr):HO->Prop
 | .lst xs=>xs.length<=sizeLine/\∃ (Ar:List Value) (n:Nat),A4 xs Ar/\h.get? a=some { cls:=.type "list",data:=.seq Ar.toArray n }
 | .tup xs=>xs.length<=sizeLine/\∃ Ar:List Value,A4 xs Ar/\IsTup h a Ar.toArray/\KZ h a
 | .dK kvs=>kvs.length<=sizeLine/\(a == sysModules)=false/\∃ vs,KV kvs vs/\h.DictOf (AD P w) a vs
 | .dT kvs=>kvs.length<=sizeLine/\(a == sysModules)=false/\∃ xs:List (List A5 × Addr × Value),
   Paired (fun (p:List A5 × V) (q:List A5 × Addr × Value)=>p.1=q.1/\H q.2.1=some (.tup (p.1.map kV))/\As p.2 q.2.2) kvs xs /\
   ∃ o es ep,h.get? a=some o/\o.ExactDict/\o.data=.dict es ep/\es.toList=xs.map (entryOfKey (tupleKind (AD P w)))/\(xs.map (·.1)).Nodup
 | .set S n=>h.SetOf (intKind P w) a S n
 | .ins C dx fs=>H dx=some (.own a)/\fs.length<=1000/\dx ≠ a/\h.get? a=some (RN C dx) /\
   ∃ mA,h.Ns1 dx mA/\(∀ f,DR (fs.lookup f) (mA f))/\PySem.Within mA (fs.map (·.1))
 | .own _=>∃ o,h.get? a=some o
 | .xd fs=>∃ mA,h.Ns1 a mA/\∀ f,DR (fs.lookup f) (mA f)
 | .rng lo hi=>∃ t u v,h.get? a=some { cls:=.type "range",data:=.fields #[.int lo t,.int hi u,.int 1 v] }
 | .frz o u=>h.get? a=some o/\Ax H h a u
 | .tbl ps=>h.get? a=some { cls:=.none,data:=.fields ps }
 | .met f x=>h.get? a=some (RH (.ref f) (.ref x))
 | .ext φ=>φ h/\(∃ o,h.get? a=some o)/\∀ h1 h2:Heap,φ h1->(∀ o,h1.get? a=some o->h2.get? a=some o)->φ h2
def Dk (H:Hp) (h:Heap):Prop:=∀ a o,H a=some o->Ax P w H h a o
end
section
variable {P:Program} {w:World} {H H':Hp} {h h':Heap} {a:Addr} {o:HO}
theorem Ax.lt (x:Ax P w H h a o):a < h.objs.size:=by
 cases o with
 | lst xs=>obtain ⟨_,_,_,_,e⟩:=x; exact Qp e
 | tup xs=>obtain ⟨_,_,_,p,_⟩:=x; exact p.lt
 | dK kvs=>obtain ⟨_,_,_,_,o,_,_,e,_⟩:=x; exact Qp e
 | dT kvs=>obtain ⟨_,_,_,_,o,_,_,e,_⟩:=x; exact Qp e
 | set S n=>obtain ⟨o,_,_,_,e,_⟩:=x; exact Qp e
 | ins C dx fs=>obtain ⟨_,_,_,e,_⟩:=x; exact Qp e
 | own y=>obtain ⟨_,e⟩:=x; exact Qp e
 | xd fs=>obtain ⟨_,⟨_,_,_,e,_⟩,_⟩:=x; exact Qp e
 | rng lo hi=>obtain ⟨_,_,_,e⟩:=x; exact Qp e
 | frz ob u=>obtain ⟨e,_⟩:=x; exact Qp e
 | tbl ps=>exact Qp (show h.get? a=some _ from x)
 | met f y=>exact Qp (show h.get? a=some _ from x)
 | ext φ=>obtain ⟨_,⟨_,e⟩,_⟩:=x; exact Qp e
theorem Paired.mapP {α β:Type} {F G:α->β->Prop}:∀ {Kv:List α} {l₂:List β},Paired F Kv l₂->(∀ a b,F a b->G a b)->Paired G Kv l₂
 | _,_,.nil,_=>.nil
 | _,_,.cons r t,f=>.cons (f _ _ r) (Paired.mapP t f)
theorem Ax.stay (x:Ax P w H h a o) (k:∀ b u,(b=a\/H b=some (.own a))->h.get? b=some u->h'.get? b=some u)
  (ho:∀ b,H b=some (.own a)->H' b=some (.own a)) (ht:∀ b xs,H b=some (.tup xs)->H' b=some (.tup xs)):Ax P w H' h' a o:=by
 induction o with
 | lst xs=>obtain ⟨z,Ar,n,r,e⟩:=x; exact ⟨z,Ar,n,r,k _ _ (.inl rfl) e⟩
 | tup xs=>
  obtain ⟨z,Ar,r,⟨ob,e,c⟩,dn⟩:=x;have e':=k _ _ (.inl rfl) e;exact ⟨z,Ar,r,⟨ob,e',c⟩,fun o q=>by rw [e'] at q; cases q; exact dn _ e⟩
 | dK kvs=>obtain ⟨z,y,vs,r,ob,es,ep,e,c⟩:=x; exact ⟨z,y,vs,r,ob,es,ep,k _ _ (.inl rfl) e,c⟩
 | dT kvs=>
  obtain ⟨z,y,xs,r,ob,es,ep,e,c⟩:=x;exact ⟨z,y,xs,Paired.mapP r fun p q z=>⟨z.1,ht _ _ z.2.1,z.2.2⟩,ob,es,ep,k _ _ (.inl rfl) e,c⟩
 | set S n=>obtain ⟨ob,es,ep,t,e,c⟩:=x; exact ⟨ob,es,ep,t,k _ _ (.inl rfl) e,c⟩
 | ins C dx fs=>
  obtain ⟨d,z,ne,e,mA,⟨od,es,ep,e2,c⟩,r⟩:=x;exact ⟨ho _ d,z,ne,k _ _ (.inl rfl) e,mA,⟨od,es,ep,k _ _ (.inr d) e2,c⟩,r⟩
 | own y=>obtain ⟨ob,e⟩:=x; exact ⟨ob,k _ _ (.inl rfl) e⟩
 | xd fs=>obtain ⟨mA,⟨od,es,ep,e,c⟩,r⟩:=x; exact ⟨mA,⟨od,es,ep,k _ _ (.inl rfl) e,c⟩,r⟩
 | rng lo hi=>obtain ⟨t,u,v,e⟩:=x; exact ⟨t,u,v,k _ _ (.inl rfl) e⟩
 | frz ob u ih=>obtain ⟨e,q⟩:=x; exact ⟨k _ _ (.inl rfl) e,ih q⟩
 | tbl ps=>
  have e:h.get? a=some { cls:=.none,data:=.fields ps }:=x;show h'.get? a=some { cls:=.none,data:=.fields ps }
  exact k a _ (.inl rfl) e
 | met f y=>
  have e:h.get? a=some (RH (.ref f) (.ref y)):=x;show h'.get? a=some (RH (.ref f) (.ref y))
  exact k a _ (.inl rfl) e
 | ext φ=>obtain ⟨p,⟨o,e⟩,st⟩:=x; exact ⟨st _ _ p fun o q=>k _ _ (.inl rfl) q,⟨o,k _ _ (.inl rfl) e⟩,st⟩
theorem Dk.lt (x:Dk P w H h) (e:H a=some o):a < h.objs.size:=(x a o e).lt
theorem Dk.fresh (x:Dk P w H h) (e:h.objs.size<=a):H a=none:=by
 cases q:H a with
 | none=>rfl
 | some u=>exact absurd (Qu (x.lt q) e) (QL _)
theorem Dk.kept (x:Dk P w H h) (k:∀ b u,h.get? b=some u->h'.get? b=some u):Dk P w H h':=fun a o e=>
 (x a o e).stay (fun b u _ q=>k b u q) (fun _ q=>q) fun _ _ q=>q
theorem Dk.laid (x:Dk P w H h) (k:∀ b u,h.get? b=some u->h'.get? b=some u) (hp:h.objs.size<=a) (new:Ax P w (upd H a o) h' a o):Dk P w (upd H a o) h':=fun b u e=>by
 have hn:=x.fresh hp;by_cases hb:b=a
 ·subst hb; rw [Ab] at e; cases e; exact new
 ·rw [Af hb] at e;exact (x b u e).stay (fun c v _ q=>k c v q) (fun c q=>by rw [Af (Ai q hn)]; exact q) fun c xs q=>by rw [Af (Ai q hn)]; exact q
end
def Rd (H:Hp) (a:Addr) (u:HO):Prop:=H a=some u\/∃ o,H a=some (.frz o u)
theorem Rd.ok {P:Program} {w:World} {H:Hp} {h:Heap} {a:Addr} {u:HO} (r:Rd H a u) (x:Dk P w H h):Ax P w H h a u:=by
 rcases r with r | ⟨o,r⟩
 ·exact x a u r
 ·obtain ⟨_,q⟩:=x a _ r;exact q
def Mut:Option HO->Prop
 | some (.lst _)=>True
 | some (.dK _)=>True
 | some (.dT _)=>True
 | some (.set _ _)=>True
 | some (.ins _ _ _)=>True
 | some (.ext _)=>True
 | _=>False
section
variable {P:Program} {w:World} {H:Hp} {h h':Heap} {x e:Addr} {o':HO}
theorem Dk.write (ok:Dk P w H h) (mu:Mut (H x)) (he:e=x\/H e=some (.own x)) (k:∀ b u,b ≠ e->h.get? b=some u->h'.get? b=some u) (heo:∃ u,h'.get? e=some u)
  (new:Ax P w (upd H x o') h' x o'):Dk P w (upd H x o') h':=fun b u q=>by
 have nown:∀ c y,H c=some (.own y)->c ≠ x:=fun c y r z=>by subst z; rw [r] at mu; exact mu
 have ntup:∀ c xs,H c=some (.tup xs)->c ≠ x:=fun c xs r z=>by subst z; rw [r] at mu; exact mu
 by_cases hb:b=x
 ·subst hb; rw [Ab] at q; cases q; exact new
 ·rw [Af hb] at q;by_cases hbe:b=e
  ·have q':H b=some (.own x):=by
    rcases he with z | z
    ·exact absurd (hbe.trans z) hb
    ·rw [hbe]; exact z
   rw [q] at q'; cases q';obtain ⟨v,hv⟩:=heo;exact ⟨v,by rw [hbe]; exact hv⟩
  ·refine (ok b u q).stay (fun c v hc r=>k c v ?_ r) (fun c r=>by rw [Af (nown c b r)]; exact r) fun c xs r=>by rw [Af (ntup c xs r)]; exact r
   rcases hc with rfl | hc
   ·exact hbe
   ·rintro rfl;rcases he with z | z
    ·exact nown c b hc z
    ·rw [hc] at z; cases z; exact hb rfl
end
structure Un (fs ex:List Addr) (H H':Hp) (h h':Heap):Prop where
 keep:∀ b o,h.get? b=some o->H b=none->b ∉ fs->b ∉ ex->h'.get? b=some o
 slot:∀ b o,h.get? b=some o->H b=none->b ∈ fs->b ∉ ex->∃ sl,h'.get? b=some { o with slots:=sl }
 free:∀ b o,h.get? b=some o->H b=none->b ∉ ex->H' b=none
 there:∀ b o,h.get? b=some o->b ∉ ex->∃ o',h'.get? b=some o'
 tups:∀ b xs,H b=some (.tup xs)->H' b=some (.tup xs)
 frzs:∀ b o u,H b=some (.frz o u)->H' b=some (.frz o u)
 tbls:∀ b ps,H b=some (.tbl ps)->∃ more,H' b=some (.tbl (ps ++ more))
section
variable {fs fs' ex ex':List Addr} {H H1 H2:Hp} {h h1 h2 h':Heap} {a x e:Addr} {o:HO}
theorem Un.any (u:Un fs ex H H1 h h1) {b:Addr} {ob:Obj} (q:h.get? b=some ob) (n:H b=none) (hx:b ∉ ex):∃ sl,h1.get? b=some { ob with slots:=sl }:=by
 by_cases hb:b ∈ fs
 ·exact u.slot b ob q n hb hx
 ·exact ⟨ob.slots,u.keep b ob q n hb hx⟩
theorem Un.kept (k:∀ b u,h.get? b=some u->h'.get? b=some u):Un fs ex H H h h':=
 ⟨fun b ob q _ _ _=>k b ob q,fun b ob q _ _ _=>⟨ob.slots,k b ob q⟩,fun _ _ _ n _=>n,fun b ob q _=>⟨ob,k b ob q⟩,fun _ _ q=>q,fun _ _ _ q=>q,fun _ ps q=>⟨#[],by rw [q]; simp⟩⟩
theorem Un.refl:Un fs ex H H h h:=Un.kept fun _ _ q=>q
theorem Un.laid (k:∀ b u,h.get? b=some u->h'.get? b=some u) (hp:h.objs.size<=a) (hn:H a=none):Un fs ex H (upd H a o) h h' where
 keep:=fun b u q _ _ _=>k b u q
 slot:=fun b u q _ _ _=>⟨u.slots,k b u q⟩
 free:=fun b u q n _=>by rw [Af (Qv (Qu (Qp q) hp))]; exact n
 there:=fun b u q _=>⟨u,k b u q⟩
 tups:=fun b xs q=>by rw [Af (Ai q hn)]; exact q
 frzs:=fun b u xs q=>by rw [Af (Ai q hn)]; exact q
 tbls:=fun b ps q=>⟨#[],by rw [Af (Ai q hn),q]; simp⟩
theorem Un.write (mu:Mut (H x)) (he:e=x\/H e=some (.own x)) (k:∀ b u,b ≠ e->h.get? b=some u->h'.get? b=some u) (heo:∃ u,h'.get? e=some u):Un fs ex H (upd H x o) h h':=by
 have hx:∀ b,H b=none->b ≠ x:=fun b n z=>by subst z; rw [n] at mu; exact mu
 have hb:∀ b,H b=none->b ≠ e:=fun b n z=>by
  subst z;rcases he with r | r
  ·exact hx b n r
  ·rw [n] at r; cases r
 have hm:∀ b u,H b=some u->¬ Mut (some u)->b ≠ x:=fun b u q nm z=>by subst z; rw [q] at mu; exact nm mu
 refine ⟨fun b u q n _ _=>k b u (hb b n) q,fun b u q n _ _=>⟨u.slots,k b u (hb b n) q⟩,fun b u q n _=>by rw [Af (hx b n)]; exact n,fun b u q _=>?_,
  fun b xs q=>by rw [Af (hm b _ q fun z=>z)]; exact q,fun b u xs q=>by rw [Af (hm b _ q fun z=>z)]; exact q,fun b ps q=>⟨#[],by rw [Af (hm b _ q fun z=>z),q]; simp⟩⟩
 by_cases hbe:b=e
 ·subst hbe; exact heo
 ·exact ⟨u,k b u hbe q⟩
end
def trk (h:Heap) (H:Hp):List Addr:=(QO h.objs.size).filter fun a=>(H a).isSome
def Gd (h:Heap) (H:Hp):Heap:=PySem.W.hideAll h (trk h H)
theorem Jf (h:Heap) (H:Hp):(Gd h H).objs.size=h.objs.size:=PySem.W.hideAll_size _ _
theorem K6 {h:Heap} {H:Hp} {b:Addr} {o:Obj} (e:h.get? b=some o) (n:H b=none):(Gd h H).get? b=some o:=
 PySem.W.hideAll_get _ e fun hm=>by
  have q:(H b).isSome=true:=(QQ.mp hm).2;rw [n] at q; simp at q
theorem LC {h:Heap} {H:Hp} {b:Addr} {o:Obj} (e:(Gd h H).get? b=some o):h.get? b=some o/\H b=none:=by
 have e':h.get? b=some o:=PySem.W.of_hideAll (trk h H) e;refine ⟨e',?_⟩;cases q:H b with
 | none=>rfl
 | some x=>
  have hm:b ∈ trk h H:=QQ.mpr ⟨Rf.mpr (Qp e'),by simp [q]⟩;have z:(Gd h H).get? b=none:=PySem.W.hideAll_none (trk h H) hm;rw [z] at e; cases e
def Ew (g h:Heap) (L:Addr):List (Addr × Obj):=(QO h.objs.size).filterMap fun a=>if a=L\/(g.get? a).isSome=true then none else (h.get? a).map fun o=>(a,o)
theorem CI {g h:Heap} {L a:Addr} {o:Obj} (h1:a ≠ L) (h2:g.get? a=none) (h3:h.get? a=some o):(a,o) ∈ Ew g h L:=
 Rn.mpr ⟨a,Rf.mpr (Qp h3),by simp [h1,h2,h3]⟩
theorem E7 {g h:Heap} {L:Addr} {p:Addr × Obj} (hp:p ∈ Ew g h L):p.1 ≠ L/\g.get? p.1=none/\h.get? p.1=some p.2:=by
 obtain ⟨b,_,e⟩:=Rn.mp hp;split at e
 ·cases e
 ·rename_i hn
  cases q:h.get? b with
  | none=>rw [q] at e; simp at e
  | some u=>
   rw [q] at e;simp only [Rt,QB.injEq] at e;subst e;refine ⟨fun z=>hn (.inl z),?_,q⟩;show g.get? b=none
   cases r:g.get? b with
   | none=>rfl
   | some v=>exact (hn (.inr (by simp [r]))).elim
def C0 (g h:Heap) (L d:Addr):List (Addr × Obj):=(Ew g h L).filter fun p=>decide (p.1 ≠ d)
theorem Ks {g h:Heap} {L:Addr}:News g L h (Ew g h L):=fun p hp=>let ⟨a,b,c⟩:=E7 hp; ⟨c,a,b⟩
structure Mod (K:Qj) (mg:Str->Option Value) (base:Heap):Prop where
 kin:K.In base
 glob:base.Ns mainGlobals mg
 blt:∃ mb,base.Ns builtinsNs mb/\∀ x:Str,x ≠ "__name__"->mb x=bootBuiltins x
 nolimit:base.NoLimit
structure Cx where
 prog:Program
 w:World
 K:Qj
 mg:Str->Option Value
 base:Heap
 A:Around
 N:List Str
 s₀:Shared
 H₀:Hp
 env:Env
 outer:List Env
 stack:List Env
 ex:List Addr
 fn:Str->Bool
 calm:Bool
 pn:List (Addr × Obj)
 xe:Value->Shared->Prop
def KG (l:List Env):List Addr:=l.filterMap (·.frame)
abbrev Cx.fs (X:Cx):List Addr:=KG X.outer
def Vis (sc:Scope) (x:Str):Prop:=sc.names.lookup x=some .local\/sc.names.lookup x=some .cell\/sc.names.lookup x=some .free
def Og (sc:Scope) (x:Str):Prop:=sc.names.lookup x=some .local\/sc.names.lookup x=some .cell
def Look (env:Env) (h:Heap) (m:Str->Option Value) (x:Str) (u:Value):Prop:=
 (env.kindOf x=some .local/\m x=some u)\/((env.kindOf x=some .cell\/env.kindOf x=some .free)/\∃ c,env.cells.lookup x=some c/\h.IsCell c (some u))
structure Cx.Ok (X:Cx):Prop where
 mod:Mod X.K X.mg X.base
 kind:X.env.scope.kind=.function
 glob:X.env.globals=mainGlobals
 blt:X.env.builtins=builtinsNs
 above:X.s₀.heap.objs.size<=X.env.locals
 inj:∀ x y c,X.env.cells.lookup x=some c->X.env.cells.lookup y=some c->x=y
 has:∀ x,(X.env.kindOf x=some .cell\/X.env.kindOf x=some .free)->∃ c,X.env.cells.lookup x=some c
 cab:∀ x c,X.fn x=true->X.env.cells.lookup x=some c->X.s₀.heap.objs.size<=c
 hd:X.calm=true->X.A.handled=none
 frames:X.A.frames=some X.stack
 stk:X.stack=X.outer\/(X.stack=X.env :: X.outer/\X.env.frame=some X.env.locals)
 exf:∀ b ∈ X.ex,b ≠ X.env.locals/\∀ x c,X.env.cells.lookup x=some c->c ≠ b
 bs:∀ b o,X.base.get? b=some o->X.s₀.heap.get? b=some o/\X.H₀ b=none
 bsz:X.base.objs.size<=X.s₀.heap.objs.size
 noex:∀ b o,X.base.get? b=some o->b ∉ X.ex
 exfs:∀ b ∈ X.ex,b ∉ X.fs
 funs:X.s₀.heap.FunFrames X.base X.outer
 frf:∀ b ∈ X.fs,X.H₀ b=none
structure Ak (X:Cx) (pins:List (Addr × Obj)) (σ:List (Option V)) (H:Hp) (s:Shared):Prop where
 ok:X.Ok
 os:s.os=X.s₀.os
 bare:AllBare s.gens
 base:Un X.fs X.ex X.H₀ H X.s₀.heap s.heap
 loc:∃ m,s.heap.Ns X.env.locals m/\∀ (i:Nat) (x:Str) (v:V),X.N[i]? = some x->σ[i]? = some (some v)->Vis X.env.scope x->∃ u,As v u/\Look X.env s.heap m x u
 cell:∀ x c,X.env.cells.lookup x=some c->∃ v,s.heap.IsCell c v
 free:H X.env.locals=none
 freeC:∀ x c,X.env.cells.lookup x=some c->H c=none
 pin:∀ p ∈ X.pn ++ pins,s.heap.get? p.1=some p.2/\H p.1=none/\p.1 ≠ X.env.locals/\p.1 ∉ X.fs/\∀ v,p.2.data ≠ .cell v
 hok:Dk X.prog X.w H s.heap
 len:σ.length=X.N.length
section
variable {X:Cx} {pins:List (Addr × Obj)} {σ:List (Option V)} {H H':Hp} {s:Shared} {h':Heap}
theorem Cx.Ok.nofr (ok:X.Ok) {b:Addr} {o:Obj} (e:X.base.get? b=some o):b ∉ X.fs:=fun hb=>by
 have:=(ok.funs.mem hb).1;rw [e] at this; cases this
theorem Ak.bs (I:Ak X pins σ H s):∀ b o,X.base.get? b=some o->s.heap.get? b=some o/\H b=none:=fun b o e=>
 ⟨I.base.keep b o (I.ok.bs b o e).1 (I.ok.bs b o e).2 (I.ok.nofr e) (I.ok.noex b o e),I.base.free b o (I.ok.bs b o e).1 (I.ok.bs b o e).2 (I.ok.noex b o e)⟩
theorem Ak.bk (I:Ak X pins σ H s):∀ b o,X.base.get? b=some o->s.heap.get? b=some o:=fun b o e=>(I.bs b o e).1
theorem Ak.mod (I:Ak X pins σ H s):Mod X.K X.mg X.base:=I.ok.mod
theorem Ak.kIn (I:Ak X pins σ H s):X.K.In s.heap:=I.ok.mod.kin.keeps I.bk
theorem Ak.lt (I:Ak X pins σ H s):X.env.locals < s.heap.objs.size:=let ⟨_,hn,_⟩:=I.loc; hn.lt
theorem Ak.sz (I:Ak X pins σ H s):X.s₀.heap.objs.size<=s.heap.objs.size:=QE I.ok.above (Sh I.lt)
theorem Ak.nofs (I:Ak X pins σ H s) {a:Addr} (h:s.heap.objs.size<=a):a ∉ X.fs:=fun hb=>by
 obtain ⟨_,o,ho,_⟩:=I.ok.funs.mem hb;exact absurd (Qu (Qp ho) (QE I.sz h)) (QL _)
theorem Ak.cne (I:Ak X pins σ H s):∀ x c,X.env.cells.lookup x=some c->c ≠ X.env.locals:=fun x c e z=>by
 obtain ⟨v,o,ho,hd⟩:=I.cell x c e;obtain ⟨m,⟨o',es,ep,Im,M3,_⟩,_⟩:=I.loc;rw [z,Im] at ho; cases ho; rw [M3] at hd; cases hd
theorem Ak.funs (I:Ak X pins σ H s):s.heap.FunFrames X.base X.outer:=by
 have all:∀ (l:List Env),(∀ b ∈ KG l,b ∈ X.fs)->X.s₀.heap.FunFrames X.base l->s.heap.FunFrames X.base l:=by
  intro l;induction l with
  | nil=>intro _ _; trivial
  | cons env r ih=>
   intro hs hl;obtain ⟨hk,⟨L,o,hf,hn,ho,hd⟩,hr⟩:=hl;have hL:L ∈ X.fs:=hs L (by unfold KG; rw [Rj,hf]; exact Qy);obtain ⟨sl,e⟩:=I.base.slot L o ho (I.ok.frf L hL) hL fun z=>I.ok.exfs L z hL
   exact ⟨hk,⟨L,_,hf,hn,e,hd⟩,ih (fun b hb=>hs b (by unfold KG; rw [Rj,hf]; exact Q3 _ hb)) hr⟩
 exact all X.outer (fun _ hb=>hb) I.ok.funs
theorem Ak.stack (I:Ak X pins σ H s):s.heap.FunFrames X.base X.stack:=by
 rcases I.ok.stk with e | ⟨e,hf⟩
 ·rw [e]; exact I.funs
 ·rw [e];obtain ⟨m,hn,_⟩:=I.loc;refine .cons (by rw [I.ok.kind]; decide) hf hn ?_ I.funs;exact Heap.get?_none_of_le (QE I.ok.bsz I.ok.above)
theorem Ak.stkSub (I:Ak X pins σ H s):∀ b ∈ KG X.stack,b ∈ X.env.locals :: X.fs:=fun b hb=>by
 rcases I.ok.stk with e | ⟨e,hf⟩
 ·rw [e] at hb; exact Q3 _ hb
 ·rw [e] at hb;unfold KG at hb;rw [Rj,hf] at hb;exact hb
theorem Ak.stkFree (I:Ak X pins σ H s):∀ b ∈ KG X.stack,H b=none:=fun b hb=>by
 rcases Qn.mp (I.stkSub b hb) with e | hb
 ·rw [e]; exact I.free
 ·obtain ⟨_,o,ho,_⟩:=I.ok.funs.mem hb;exact I.base.free b o ho (I.ok.frf b hb) fun z=>I.ok.exfs b z hb
theorem Ak.step {g':Array GenState} {t':Nat} {d':Drawn} {ch:List Addr} (I:Ak X pins σ H s)
  (hch:∀ b ∈ ch,(b ∈ X.ex\/X.s₀.heap.objs.size<=b)/\b ≠ X.env.locals/\(∀ x c,X.env.cells.lookup x=some c->c ≠ b)/\∀ p ∈ X.pn ++ pins,p.1 ≠ b)
  (keep:∀ b o,b ≠ X.env.locals->b ∉ X.fs->b ∉ ch->s.heap.get? b=some o->H b=none->h'.get? b=some o)
  (slot:∀ b o,b ≠ X.env.locals->b ∈ X.fs->b ∉ ch->s.heap.get? b=some o->H b=none->∃ sl,h'.get? b=some { o with slots:=sl }) (free:∀ b o,b ∉ ch->s.heap.get? b=some o->H b=none->H' b=none)
  (there:∀ b o,b ∉ ch->s.heap.get? b=some o->∃ o',h'.get? b=some o')
  (tups:∀ b xs,H b=some (.tup xs)->H' b=some (.tup xs)) (frzs:∀ b o u,H b=some (.frz o u)->H' b=some (.frz o u)) (tbls:∀ b ps,H b=some (.tbl ps)->∃ more,H' b=some (.tbl (ps ++ more)))
  (ns:∀ m,s.heap.Ns X.env.locals m->h'.Ns X.env.locals m) (hok:Dk X.prog X.w H' h') (hg:AllBare g') :
  Ak X pins σ H' { s with heap:=h',gens:=g',drawn:=d',toks:=t' }:=by
 have neL:∀ b o,X.s₀.heap.get? b=some o->b ≠ X.env.locals:=fun b o e=>Qv (Qu (Qp e) I.ok.above)
 have neC:∀ b o,X.s₀.heap.get? b=some o->b ∉ X.ex->b ∉ ch:=fun b o e hx hb=>by
  rcases (hch b hb).1 with z | z
  ·exact hx z
  ·exact absurd (Qu (Qp e) z) (QL _)
 have cellK:∀ x c,X.env.cells.lookup x=some c->∀ v,s.heap.IsCell c v->h'.IsCell c v:=fun x c e v ⟨o,ho,hd⟩=>by
  have nch:c ∉ ch:=fun z=>(hch c z).2.2.1 x c e rfl
  by_cases hc:c ∈ X.fs
  ·obtain ⟨sl,q⟩:=slot c o (I.cne x c e) hc nch ho (I.freeC x c e);exact ⟨_,q,hd⟩
  ·exact ⟨o,keep c o (I.cne x c e) hc nch ho (I.freeC x c e),hd⟩
 refine ⟨I.ok,I.os,hg,⟨fun b o e n hb hx=>?_,fun b o e n hb hx=>?_,fun b o e n hx=>?_,fun b o e hx=>?_,fun b xs e=>tups b xs (I.base.tups b xs e),fun b o xs e=>frzs b o xs (I.base.frzs b o xs e),fun b ps e=>?_⟩,?_,fun x c e=>?_,?_,fun x c e=>?_,fun p hp=>?_,hok,I.len⟩
 ·exact keep b o (neL b o e) hb (neC b o e hx) (I.base.keep b o e n hb hx) (I.base.free b o e n hx)
 ·obtain ⟨sl,e1⟩:=I.base.slot b o e n hb hx;obtain ⟨sl',e2⟩:=slot b _ (neL b o e) hb (neC b o e hx) e1 (I.base.free b o e n hx);exact ⟨sl',e2⟩
 ·obtain ⟨o',e1⟩:=I.base.there b o e hx;exact free b o' (neC b o e hx) e1 (I.base.free b o e n hx)
 ·obtain ⟨o',e1⟩:=I.base.there b o e hx;exact there b o' (neC b o e hx) e1
 ·obtain ⟨m1,e1⟩:=I.base.tbls b ps e;obtain ⟨m2,e2⟩:=tbls b _ e1;exact ⟨m1 ++ m2,by rw [e2,Array.append_assoc]⟩
 ·obtain ⟨m,hn,hl⟩:=I.loc;refine ⟨m,ns m hn,fun i x v e1 e2 e3=>?_⟩;obtain ⟨u,r,l⟩:=hl i x v e1 e2 e3;refine ⟨u,r,?_⟩;rcases l with l | ⟨k,c,e,z⟩
  ·exact .inl l
  ·exact .inr ⟨k,c,e,cellK x c e _ z⟩
 ·obtain ⟨v,z⟩:=I.cell x c e;exact ⟨v,cellK x c e v z⟩
 ·obtain ⟨m,⟨o,_,_,ho,_⟩,_⟩:=I.loc;exact free _ o (fun z=>(hch _ z).2.1 rfl) ho I.free
 ·obtain ⟨v,o,ho,hd⟩:=I.cell x c e;exact free c o (fun z=>(hch c z).2.2.1 x c e rfl) ho (I.freeC x c e)
 ·obtain ⟨e,n,ne,nf,d⟩:=I.pin p hp;have nch:p.1 ∉ ch:=fun z=>(hch p.1 z).2.2.2 p hp rfl
  exact ⟨keep p.1 p.2 ne nf nch e n,free p.1 p.2 nch e n,ne,nf,d⟩
theorem Ak.un {t':Nat} (I:Ak X pins σ H s) (u:Un X.fs [] H H' s.heap h') (hok:Dk X.prog X.w H' h'):Ak X pins σ H' { s with heap:=h',toks:=t' }:=by
 obtain ⟨m,⟨o,es,ep,ho,r⟩,_⟩:=id I.loc;obtain ⟨sl,hL⟩:=u.any ho I.free (by simp);exact I.step (g':=s.gens) (d':=s.drawn) (ch:=[]) (fun _ z=>nomatch z) (fun b o _ hb _ e n=>u.keep b o e n hb (by simp)) (fun b o _ hb _ e n=>u.slot b o e n hb (by simp)) (fun b o _ e n=>u.free b o e n (by simp)) (fun b o _ e=>u.there b o e (by simp)) u.tups u.frzs u.tbls (fun m' hm=>by
  obtain ⟨o',Pa,Pb,Im,r'⟩:=hm;rw [ho] at Im; cases Im;exact ⟨_,Pa,Pb,hL,r'⟩) hok I.bare
theorem Ak.call {g':Array GenState} {t':Nat} {d':Drawn} {ch:List Addr} (I:Ak X pins σ H s) (u:Un (KG X.stack) ch H H' s.heap h') (hok:Dk X.prog X.w H' h') (hg:AllBare g')
  (hch:∀ b ∈ ch,(b ∈ X.ex\/X.s₀.heap.objs.size<=b)/\b ≠ X.env.locals/\(∀ x c,X.env.cells.lookup x=some c->c ≠ b)/\∀ p ∈ X.pn ++ pins,p.1 ≠ b) :
  Ak X pins σ H' { s with heap:=h',gens:=g',drawn:=d',toks:=t' }:=by
 obtain ⟨m,⟨o,es,ep,ho,r⟩,_⟩:=id I.loc;obtain ⟨sl,hL⟩:=u.any ho I.free fun z=>(hch _ z).2.1 rfl
 exact I.step (ch:=ch) hch (fun b o hL hb hc e n=>u.keep b o e n (fun z=>(Qn.mp (I.stkSub b z)).elim hL hb) hc) (fun b o _ _ hc e n=>u.any e n hc) (fun b o hc e n=>u.free b o e n hc) (fun b o hc e=>u.there b o e hc) u.tups u.frzs u.tbls (fun m' hm=>by
  obtain ⟨o',Pa,Pb,Im,r'⟩:=hm;rw [ho] at Im; cases Im;exact ⟨_,Pa,Pb,hL,r'⟩) hok hg
theorem Ak.turned {t':Nat} {it:Addr} (I:Ak X pins σ H s) (k:∀ b o,b ≠ it->s.heap.get? b=some o->h'.get? b=some o) (hn:H it=none) (hL:it ≠ X.env.locals)
  (h1:it ∈ X.ex\/X.s₀.heap.objs.size<=it) (h2:∀ x c,X.env.cells.lookup x=some c->c ≠ it) (h3:∀ p ∈ X.pn ++ pins,p.1 ≠ it):Ak X pins σ H { s with heap:=h',toks:=t' }:=by
 have nit:∀ b u,H b=some u->b ≠ it:=fun b u e z=>by rw [z,hn] at e; cases e
 refine I.step (g':=s.gens) (d':=s.drawn) (ch:=[it]) (fun b hb=>?_) (fun b o _ _ hc e _=>k b o (fun z=>hc (by simp [z])) e) (fun b o _ _ hc e _=>⟨o.slots,k b o (fun z=>hc (by simp [z])) e⟩) (fun _ _ _ _ n=>n)
  (fun b o hc e=>⟨o,k b o (fun z=>hc (by simp [z])) e⟩) (fun _ _ e=>e) (fun _ _ _ e=>e) (fun b ps e=>⟨#[],by rw [e]; simp⟩) (fun m hm=>?_) (fun b u e=>?_) I.bare
 ·have e:b=it:=by simpa using hb
  subst e;exact ⟨h1,hL,h2,h3⟩
 ·obtain ⟨o,es,ep,ho,r⟩:=hm;exact ⟨o,es,ep,k _ o (Ne.symm hL) ho,r⟩
 ·refine (I.hok b u e).stay (fun c v hc q=>k c v ?_ q) (fun _ q=>q) fun _ _ q=>q
  rcases hc with z | z
  ·rw [z]; exact nit b u e
  ·exact nit c _ z
theorem Ak.tok (I:Ak X pins σ H s) (t:Nat):Ak X pins σ H { s with toks:=t }:=I.un (h':=s.heap) (t':=t) Un.refl I.hok
theorem Ak.kept {t':Nat} (I:Ak X pins σ H s) (k:∀ b u,s.heap.get? b=some u->h'.get? b=some u):Ak X pins σ H { s with heap:=h',toks:=t' }:=I.un (Un.kept k) (I.hok.kept k)
theorem Ak.laid {a:Addr} {o:HO} {t':Nat} (I:Ak X pins σ H s) (k:∀ b u,s.heap.get? b=some u->h'.get? b=some u) (hp:s.heap.objs.size<=a) (new:Ax X.prog X.w (upd H a o) h' a o) :
  Ak X pins σ (upd H a o) { s with heap:=h',toks:=t' }:=I.un (Un.laid k hp (I.hok.fresh hp)) (I.hok.laid k hp new)
theorem Ak.write {x e:Addr} {o:HO} {t':Nat} (I:Ak X pins σ H s) (mu:Mut (H x)) (he:e=x\/H e=some (.own x)) (k:∀ b u,b ≠ e->s.heap.get? b=some u->h'.get? b=some u) (heo:∃ u,h'.get? e=some u)
  (new:Ax X.prog X.w (upd H x o) h' x o):Ak X pins σ (upd H x o) { s with heap:=h',toks:=t' }:=I.un (Un.write mu he k heo) (I.hok.write mu he k heo new)
theorem Ak.pins_of {Ms:List (Addr × Obj)} (I:Ak X pins σ H s) (h:∀ p ∈ Ms,s.heap.get? p.1=some p.2/\H p.1=none/\p.1 ≠ X.env.locals/\p.1 ∉ X.fs/\∀ v,p.2.data ≠ .cell v):Ak X Ms σ H s:=
 ⟨I.ok,I.os,I.bare,I.base,I.loc,I.cell,I.free,I.freeC,fun p hp=>(QA.mp hp).elim (fun z=>I.pin p (QD _ z)) (h p),I.hok,I.len⟩
theorem E8 {N:List Str} (hN:N.Nodup) {i j:Nat} {x:Str} (a:N[i]? = some x) (b:N[j]? = some x):i=j:=by
 obtain ⟨h1,e1⟩:=Qx.mp a;obtain ⟨h2,e2⟩:=Qx.mp b;exact (S5 hN).mp (e1.trans e2.symm)
theorem D6 {M:Model} {A:Around} {E:Value->Shared->Prop} {i:Nat} {x:Str} {v:V} {u:Value} {Q:Unit->Shared->Prop} (I:Ak X pins σ H s) (hN:X.N.Nodup) (hi:X.N[i]? = some x) (hx:Og X.env.scope x) (r:As v u)
  (h:∀ s',Ak X pins (σ.set i (some v)) H s'->(∃ a,Heap.SameBut a s.heap s'.heap/\(a=X.env.locals\/X.env.cells.lookup x=some a))->Q () s') (hf:X.fn x=true\/X.env.scope.names.lookup x=some .local:=by first | exact .inl rfl | exact .inr rfl | assumption):wpAny M A (storeName X.env x u) Q E s:=by
 obtain ⟨m,hn,hl⟩:=id I.loc;have hcls:(X.env.scope.kind == .class || (X.env.scope.kind == .module && X.env.locals != X.env.globals))=false:=by rw [I.ok.kind]; rfl
 have hiσ:i < σ.length:=by rw [I.len]; exact (Qx.mp hi).1
 have cne:=I.cne;have tracked:∀ {a:Addr} {h':Heap},(∃ o,s.heap.get? a=some o/\H a=none)->Heap.SameBut a s.heap h'->Dk X.prog X.w H h':=fun {a h'} ha hs b ob e=>by
  obtain ⟨_,_,hfree⟩:=ha;refine (I.hok b ob e).stay (fun c w' hc q=>(hs.2 c ?_).trans q) (fun _ q=>q) fun _ _ q=>q
  rintro rfl;rcases hc with rfl | hc
  ·rw [hfree] at e; cases e
  ·rw [hfree] at hc; cases hc
 rcases hx with hk | hk
 ·refine wpAny_storeName_local hk hn (fun h' OO hs=>?_) hcls;obtain ⟨oL,_,_,hoL,_⟩:=id hn;refine h _ ⟨I.ok,I.os,I.bare,⟨fun b o e n hb hx=>?_,fun b o e n hb hx=>?_,I.base.free,fun b o e hx=>?_,I.base.tups,I.base.frzs,I.base.tbls⟩,⟨_,OO,fun j y v' e1 e2 e3=>?_⟩,fun y c e=>?_,I.free,I.freeC,fun p hp=>?_,tracked ⟨oL,hoL,I.free⟩ hs,by simpa using I.len⟩ ⟨_,hs,.inl rfl⟩
  ·exact (hs.2 b (Qv (Qu (Qp e) I.ok.above))).trans (I.base.keep b o e n hb hx)
  ·obtain ⟨sl,e1⟩:=I.base.slot b o e n hb hx;exact ⟨sl,(hs.2 b (Qv (Qu (Qp e) I.ok.above))).trans e1⟩
  ·obtain ⟨o',e1⟩:=I.base.there b o e hx;exact ⟨o',(hs.2 b (Qv (Qu (Qp e) I.ok.above))).trans e1⟩
  ·by_cases hj:j=i
   ·subst hj;rw [hi] at e1; cases e1;rw [Se hiσ] at e2;cases e2
    exact ⟨u,r,.inl ⟨hk,by simp⟩⟩
   ·rw [Sn (Ne.symm hj)] at e2;obtain ⟨u',r',q⟩:=hl j y v' e1 e2 e3;refine ⟨u',r',?_⟩;rcases q with ⟨k,e⟩ | ⟨k,c,e,z⟩
    ·refine .inl ⟨k,?_⟩;have:y ≠ x:=fun e=>hj (E8 hN e1 (e ▸ hi))
     simp [this,e]
    ·exact .inr ⟨k,c,e,z.sameBut hs (cne y c e)⟩
  ·obtain ⟨w',z⟩:=I.cell y c e;exact ⟨w',z.sameBut hs (cne y c e)⟩
  ·obtain ⟨e,n,ne,nf,d⟩:=I.pin p hp;exact ⟨(hs.2 p.1 ne).trans e,n,ne,nf,d⟩
 ·have hfn:X.fn x=true:=by
   rcases hf with z | z
   ·exact z
   ·rw [z] at hk; cases hk
  obtain ⟨c,hc⟩:=I.ok.has x (.inl hk);obtain ⟨w',z⟩:=I.cell x c hc;refine wpAny_storeName_cell I.ok.kind hk hc z (fun h' K8 hs=>?_);obtain ⟨oc,hoc,hocd⟩:=id z;refine h { s with heap:=h' } ⟨I.ok,I.os,I.bare,⟨fun b o e n hb hx=>?_,fun b o e n hb hx=>?_,I.base.free,fun b o e hx=>?_,I.base.tups,I.base.frzs,I.base.tbls⟩,⟨m,hn.sameBut hs (Ne.symm (cne x c hc)),fun j y v' e1 e2 e3=>?_⟩,fun y c' e=>?_,I.free,I.freeC,fun p hp=>?_,tracked ⟨oc,hoc,I.freeC x c hc⟩ hs,by simpa using I.len⟩ ⟨c,hs,.inr hc⟩
  ·exact (hs.2 b (Qv (Qu (Qp e) (I.ok.cab x c hfn hc)))).trans (I.base.keep b o e n hb hx)
  ·obtain ⟨sl,e1⟩:=I.base.slot b o e n hb hx;exact ⟨sl,(hs.2 b (Qv (Qu (Qp e) (I.ok.cab x c hfn hc)))).trans e1⟩
  ·obtain ⟨o',e1⟩:=I.base.there b o e hx;exact ⟨o',(hs.2 b (Qv (Qu (Qp e) (I.ok.cab x c hfn hc)))).trans e1⟩
  ·by_cases hj:j=i
   ·subst hj;rw [hi] at e1; cases e1;rw [Se hiσ] at e2;cases e2
    exact ⟨u,r,.inr ⟨.inl hk,c,hc,K8⟩⟩
   ·rw [Sn (Ne.symm hj)] at e2;obtain ⟨u',r',q⟩:=hl j y v' e1 e2 e3;refine ⟨u',r',?_⟩;rcases q with q | ⟨k,c',e,z'⟩
    ·exact .inl q
    ·refine .inr ⟨k,c',e,z'.sameBut hs ?_⟩;rintro rfl;exact hj (E8 hN e1 (I.ok.inj _ _ _ e hc ▸ hi))
  ·by_cases hcc:c'=c
   ·subst hcc; exact ⟨_,K8⟩
   ·obtain ⟨w2,z2⟩:=I.cell y c' e;exact ⟨w2,z2.sameBut hs hcc⟩
  ·obtain ⟨e,n,ne,nf,d⟩:=I.pin p hp;refine ⟨(hs.2 p.1 ?_).trans e,n,ne,nf,d⟩;intro q;rw [q,hoc] at e;have q':oc=p.2:=QB.inj e;exact d w' (by rw [<-q']; exact hocd)
theorem Gs {M:Model} {A:Around} {E:Value->Shared->Prop} {i:Nat} {x:Str} {v:V} {u:Value} {Q:Unit->Shared->Prop} (I:Ak X pins σ H s) (hN:X.N.Nodup) (hi:X.N[i]? = some x) (hx:Og X.env.scope x) (r:As v u)
  (h:∀ s',Ak X pins (σ.set i (some v)) H s'->Q () s') (hf:X.fn x=true\/X.env.scope.names.lookup x=some .local:=by first | exact .inl rfl | exact .inr rfl | assumption):wpAny M A (storeName X.env x u) Q E s:=
 D6 I hN hi hx r (fun s' I' _=>h s' I') hf
theorem Ak.call' {s':Shared} {ch:List Addr} (I:Ak X pins σ H s) (ho:s'.os=s.os) (u:Un (KG X.stack) ch H H' s.heap s'.heap) (hok:Dk X.prog X.w H' s'.heap) (hg:AllBare s'.gens)
  (hch:∀ b ∈ ch,(b ∈ X.ex\/X.s₀.heap.objs.size<=b)/\b ≠ X.env.locals/\(∀ x c,X.env.cells.lookup x=some c->c ≠ b)/\∀ p ∈ X.pn ++ pins,p.1 ≠ b):Ak X pins σ H' s':=by
 obtain ⟨h',g',d',t',o'⟩:=s';have e:o'=s.os:=ho;subst e;exact I.call (g':=g') (t':=t') (d':=d') u hok hg hch
end
abbrev XK:=Value->Option Addr->Hp->Prop
abbrev St:=List (Option V)
abbrev VK:=V->Hp->Prop
abbrev TE:=St->Hp->VK->Prop
abbrev TT:=St->Hp->(Bool->Hp->Prop)->Prop
abbrev TA:=St->Hp->(List V->Hp->Prop)->Prop
structure CB where
 nx:St->Hp->Prop
 rt:VK
 bk:St->Hp->Prop:=fun _ _=>False
 ct:St->Hp->Prop:=fun _ _=>False
abbrev TS:=CB->St->Hp->Prop
def EP (X:Cx) (pins:List (Addr × Obj)) (σ:St) (Q:VK) (u:Value) (s':Shared):Prop:=∃ v H',Ak X pins σ H' s'/\As v u/\Q v H'
def TP (X:Cx) (pins:List (Addr × Obj)) (σ:St) (Q:Bool->Hp->Prop) (b:Bool) (s':Shared):Prop:=∃ H',Ak X pins σ H' s'/\Q b H'
def AP (X:Cx) (pins:List (Addr × Obj)) (σ:St) (Q:List V->Hp->Prop) (us:List Value) (s':Shared):Prop:=∃ vs H',Ak X pins σ H' s'/\A4 vs us/\Q vs H'
def SP (X:Cx) (pins:List (Addr × Obj)) (D:CB) (f:Flow) (s':Shared):Prop:=
 match f with
 | .next=>∃ Ap H',Ak X pins Ap H' s'/\D.nx Ap H'
 | .brk=>∃ Ap H',Ak X pins Ap H' s'/\D.bk Ap H'
 | .cont=>∃ Ap H',Ak X pins Ap H' s'/\D.ct Ap H'
 | .ret u=>∃ v Ap H',Ak X pins Ap H' s'/\As v u/\D.rt v H'
def PE (X:Cx) (e:Expr) (t:TE):Prop:=
 ∀ ⦃pins:List (Addr × Obj)⦄ (s:Shared) (σ:St) (H:Hp) (Q:VK),Ak X pins σ H s->t σ H Q->wpAny (model X.prog X.w) X.A (eval e X.env) (EP X pins σ Q) X.xe s
def PT (X:Cx) (e:Expr) (t:TT):Prop:=
 ∀ ⦃pins:List (Addr × Obj)⦄ (s:Shared) (σ:St) (H:Hp) (Q:Bool->Hp->Prop),Ak X pins σ H s->t σ H Q->wpAny (model X.prog X.w) X.A (isTrue e X.env (eval e X.env)) (TP X pins σ Q) X.xe s
def PW (X:Cx) (e:Expr) (t:TT):Prop:=
 ∀ ⦃whole:Sem Value⦄ (pins:List (Addr × Obj)) (s:Shared) (σ:St) (H:Hp) (Q:Bool->Hp->Prop),Ak X pins σ H s->t σ H Q->wpAny (model X.prog X.w) X.A (isTrue e X.env whole) (TP X pins σ Q) X.xe s
theorem PW.pt {X:Cx} {e:Expr} {t:TT} (h:PW X e t):PT X e t:=@h _
def PA (X:Cx) (es:List Expr) (t:TA):Prop:=
 ∀ ⦃pos:Pos⦄ (pins:List (Addr × Obj)) (s:Shared) (σ:St) (H:Hp) (Q:List V->Hp->Prop),Ak X pins σ H s->t σ H Q->wpAny (model X.prog X.w) X.A (spliced (backTo pos (starEach es X.env))) (AP X pins σ Q) X.xe s
def PS (X:Cx) (st:Stmt) (t:TS):Prop:=
 ∀ ⦃pins:List (Addr × Obj)⦄ (s:Shared) (σ:St) (H:Hp) (D:CB),Ak X pins σ H s->t D σ H->wpAny (model X.prog X.w) X.A (exec st X.env) (SP X pins D) X.xe s
def GQ (X:Cx) (st:List Stmt) (t:TS):Prop:=
 ∀ ⦃pins:List (Addr × Obj)⦄ (s:Shared) (σ:St) (H:Hp) (D:CB),Ak X pins σ H s->t D σ H->wpAny (model X.prog X.w) X.A (execs st X.env) (SP X pins D) X.xe s
theorem Bj {α:Type} {t:Sem α} {Q Q':α->Shared->Prop} {M:Model} {A:Around} {E:Value->Shared->Prop} {s:Shared} (h:wpAny M A t Q E s) (hQ:∀ a s,Q a s->Q' a s):wpAny M A t Q' E s:=wpAny_mono h hQ fun _ _ x=>x
section
variable {X:Cx}
def tVar (i:Nat):TE:=fun σ H Q=>∃ v,σ[i]? = some (some v)/\Q v H
def tC (v:V):TE:=fun _ H Q=>Q v H
theorem MW {i:Nat} {x:Str} {pos:Pos} (hN:X.N[i]? = some x) (hv:Vis X.env.scope x) (hd:(x == ("__debug__":Str))=false:=by decide) (hcd:(x == ("__classdict__":Str))=false:=by decide):PE X (.Name x pos) (tVar i):=by
 intro pins s σ H Q I h;obtain ⟨v,e,h⟩:=h;obtain ⟨m,hn,hl⟩:=I.loc;obtain ⟨u,r,l⟩:=hl i x v hN e hv;have fin:EP X pins σ Q u s:=⟨v,H,I,r,h⟩
 rcases l with ⟨hk,hm⟩ | ⟨hk,c,hc,hcell⟩
 ·exact wpAny_Name (wpAny_loadName_local I.ok.kind hk hn hm fin) hd
 ·rcases hk with hk | hk
  ·exact wpAny_Name (wpAny_loadName_cell I.ok.kind hk hc hcell fin) hd
  ·exact wpAny_Name (wpAny_loadName_free I.ok.kind hk hc hcell fin hcd) hd
theorem Ag {i j pos}:PE X (.Constant (.int i) j pos) (tC (.int i)):=fun _ _ _ H _ I h=>wpAny_Constant_int ⟨.int i,H,I.tok _,⟨_,rfl⟩,h⟩
theorem Ki {b j pos}:PE X (.Constant (.bool b) j pos) (tC (.bl b)):=fun _ _ _ H _ I h=>Constant_bool ⟨.bl b,H,I,rfl,h⟩
theorem BC {x j pos}:PE X (.Constant (.str x) j pos) (tC (.str x)):=fun _ _ _ H _ I h=>Calls.Constant_str ⟨.str x,H,I.tok _,⟨_,rfl⟩,h⟩
def Gl (X:Cx) (x:Str):Prop:=X.env.kindOf x=some .globalImplicit
theorem LL {E:Value->Shared->Prop} {pins:List (Addr × Obj)} {s:Shared} {σ:St} {H:Hp} {x:Str} {u:Value} {pos:Pos} {Q:Value->Shared->Prop} (I:Ak X pins σ H s) (hg:Gl X x) (hm:X.mg x=some u) (h:Q u s)
  (hd:(x == ("__debug__":Str))=false:=by decide):wpAny (model X.prog X.w) X.A (eval (.Name x pos) X.env) Q E s:=
 Calls.Name_function_global I.ok.kind hg (Calls.loadGlobal_global (by rw [I.ok.glob]; exact I.mod.glob.keeps I.bk) hm h) hd
theorem EF {E:Value->Shared->Prop} {pins:List (Addr × Obj)} {s:Shared} {σ:St} {H:Hp} {x:Str} {u:Value} {pos:Pos} {Q:Value->Shared->Prop} (I:Ak X pins σ H s) (hg:Gl X x) (hm:X.mg x=none) (hv:bootBuiltins x=some u) (h:Q u s)
  (hn:x ≠ "__name__":=by decide) (hd:(x == ("__debug__":Str))=false:=by decide):wpAny (model X.prog X.w) X.A (eval (.Name x pos) X.env) Q E s:=by
 obtain ⟨mb,h1,h2⟩:=I.mod.blt;exact Calls.Name_function_global I.ok.kind hg (Calls.loadGlobal_builtin (by rw [I.ok.glob]; exact I.mod.glob.keeps I.bk) hm (by rw [I.ok.blt]; exact h1.keeps I.bk) ((h2 x hn).trans hv) h) hd
theorem L4 {x:Str} {v:V} {u:Value} {pos:Pos} (hg:Gl X x) (hm:X.mg x=none) (hv:bootBuiltins x=some u) (r:As v u) (hn:x ≠ "__name__":=by decide) (hd:(x == ("__debug__":Str))=false:=by decide):PE X (.Name x pos) (tC v):=
 fun _ _ _ H _ I h=>EF I hg hm hv ⟨v,H,I,r,h⟩ hn hd
variable {a b:Expr} {ta tb:TE} {pos:Pos}
def PC (X:Cx) (op:CmpOp) (a b:Expr) (t:TE):Prop:=
 ∀ ⦃pins:List (Addr × Obj)⦄ (s:Shared) (σ:St) (H:Hp) (Q:VK),Ak X pins σ H s->t σ H Q ->
  wpAny (model X.prog X.w) X.A (eval a X.env) (fun v AB=>wpAny (model X.prog X.w) X.A (eval b X.env) (fun u Dn=>wpAny (model X.prog X.w) X.A (compareOp op v u) (EP X pins σ Q) X.xe Dn) X.xe AB) X.xe s
def tB (t:TE):TT:=fun σ H Q=>t σ H fun x H1=>∃ c,x=.bl c/\Q c H1
theorem FP {op:CmpOp} {t:TE} (h:PC X op a b t) (h1:behindInMarks op b=false:=by first | exact nobehind _ (by decide) (by decide) | rfl):PT X (.Compare a [op] [b] pos) (tB t):=by
 intro pins s σ H Q I hw;refine wpAny_isTrue_Compare1 (Bj (h (pins:=pins) s σ H _ I hw) fun v s1 h1=>Bj h1 fun u s2 h2=>Bj h2 fun c s3 ⟨x,H1,I1,r1,q1⟩=>?_) h1;obtain ⟨d,rfl,q⟩:=q1;cases r1
 exact wpAny_truthy_bool ⟨H1,I1,q⟩
theorem MU {e:Expr} {t:TE} (h:PE X e t) (he:∀ whole,isTrue e X.env whole=(do let v <- whole; standAt e.pos; holding [v] (truthy v)):=by intro _; rfl):PT X e (tB t):=by
 intro pins s σ H Q I hw;refine isTrue_plain (Bj (h (pins:=pins) s σ H _ I hw) fun v s1 ⟨x,H1,I1,r1,q1⟩=>?_) (he _);obtain ⟨d,rfl,q⟩:=q1;cases r1
 exact wpAny_truthy_bool ⟨H1,I1,q⟩
variable {tA OH:TT} {C0:List Expr}
def tAnd (t u:TT):TT:=fun σ H Q=>t σ H fun c H1=>if c=true then u σ H1 Q else Q false H1
def tOr (t u:TT):TT:=fun σ H Q=>t σ H fun c H1=>if c=true then Q true H1 else u σ H1 Q
def tNot (t:TT):TT:=fun σ H Q=>t σ H fun c H1=>Q (!c) H1
theorem Er (ha:PT X a tA):PW X (.BoolOp .And [a] pos) tA:=by
 intro wh pins s σ H Q I h;refine isTrue_and (Bj (ha (pins:=pins) s σ H Q I h) fun c s1 e=>?_);cases c with
 | true=>exact isTrue_and_nil e
 | false=>exact e
theorem JZ (ha:PT X a tA):PW X (.BoolOp .Or [a] pos) tA:=by
 intro wh pins s σ H Q I h;refine isTrue_or (Bj (ha (pins:=pins) s σ H Q I h) fun c s1 e=>?_);cases c with
 | false=>exact isTrue_or_nil e
 | true=>exact e
theorem FL (ha:PT X a tA) (hb:PW X (.BoolOp .And (b :: C0) pos) OH):PW X (.BoolOp .And (a :: b :: C0) pos) (tAnd tA OH):=by
 intro wh pins s σ H Q I h;refine isTrue_and (Bj (ha (pins:=pins) s σ H _ I h) fun c s1 ⟨H1,I1,q1⟩=>?_);cases c with
 | true=>exact hb (whole:=wh) (pins:=pins) s1 σ H1 Q I1 q1
 | false=>exact ⟨H1,I1,q1⟩
theorem Mq (ha:PT X a tA) (hb:PW X (.BoolOp .Or (b :: C0) pos) OH):PW X (.BoolOp .Or (a :: b :: C0) pos) (tOr tA OH):=by
 intro wh pins s σ H Q I h;refine isTrue_or (Bj (ha (pins:=pins) s σ H _ I h) fun c s1 ⟨H1,I1,q1⟩=>?_);cases c with
 | true=>exact ⟨H1,I1,q1⟩
 | false=>exact hb (whole:=wh) (pins:=pins) s1 σ H1 Q I1 q1
theorem MV (ha:PT X a tA):PT X (.UnaryOp .Not a pos) (tNot tA):=by
 intro pins s σ H Q I h;exact isTrue_not (ha (pins:=pins) s σ H (fun c H1=>Q (!c) H1) I h)
end
def A6 (K:Qj) (H:Hp) (a:Addr) (xs:List V):Prop:=
 Rd H a (.lst xs) \/
  ∃ (o:Obj) (Ar:Array Value) (n:Nat),K.lookup a=some o/\o.cls=.type "list"/\o.dict=none/\o.data=.seq Ar n/\Ar.size<=sizeLine/\A4 xs Ar.toList
def BY (K:Qj) (H:Hp) (a:Addr) (xs:List V):Prop:=
 Rd H a (.tup xs) \/
  ∃ (o:Obj) (Ar:Array Value) (n:Nat),K.lookup a=some o/\o.cls=.type "tuple"/\o.data=.seq Ar n/\Ar.size<=sizeLine/\A4 xs Ar.toList
def absV:Value->Option V
 | .none=>some .non
 | .bool b=>some (.bl b)
 | .int i _=>some (.int i)
 | .str x _=>some (.str x)
 | .bytes b _=>some (.byt b)
 | .float b _=>some (.flt b)
 | .ref a=>some (.ref a)
 | .type n=>some (.ty n)
 | _=>none
theorem As.abs {x:V} {u:Value} (r:As x u):absV u=some x:=by
 cases x with
 | non=>cases r; rfl
 | bl _=>cases r; rfl
 | int _=>obtain ⟨t,rfl⟩:=r; rfl
 | str _=>obtain ⟨t,rfl⟩:=r; rfl
 | byt _=>obtain ⟨t,rfl⟩:=r; rfl
 | flt _=>obtain ⟨t,rfl⟩:=r; rfl
 | ref _=>cases r; rfl
 | ty _=>cases r; rfl
theorem As.inj {x y:V} {u:Value} (r:As x u) (q:As y u):x=y:=QB.inj (r.abs.symm.trans q.abs)
theorem A4.inj:∀ {xs ys:List V} {us:List Value},A4 xs us->A4 ys us->xs=ys
 | _,_,_,.nil,.nil=>rfl
 | _,_,_,.cons r t,.cons r' t'=>by rw [r.inj r',A4.inj t t']
section
variable {X:Cx} {pins:List (Addr × Obj)} {σ:St} {H:Hp} {s:Shared} {a:Addr} {xs ys:List V}
theorem A6.of {K:Qj} (h:H a=some (.lst xs)):A6 K H a xs:=.inl (.inl h)
theorem BY.of {K:Qj} (h:H a=some (.tup xs)):BY K H a xs:=.inl (.inl h)
theorem Ak.list (I:Ak X pins σ H s) (h:A6 X.K H a xs):∃ Ar:List Value,A4 xs Ar/\PlainL s.heap a Ar.toArray/\xs.length<=sizeLine:=by
 rcases h with h | ⟨o,Ar,n,hk,hc,hd,hs,hz,r⟩
 ·obtain ⟨z,Ar,n,r,e⟩:=h.ok I.hok;exact ⟨Ar,r,⟨_,n,e,rfl,rfl,rfl⟩,z⟩
 ·refine ⟨Ar.toList,r,⟨o,n,I.kIn a o hk,hc,hd,by simpa using hs⟩,?_⟩;have e:=r.length;simp only [Rg] at e;lia
theorem Ak.tuple (I:Ak X pins σ H s) (h:BY X.K H a xs):∃ Ar:List Value,A4 xs Ar/\IsTup s.heap a Ar.toArray/\xs.length<=sizeLine:=by
 rcases h with h | ⟨o,Ar,n,hk,hc,hs,hz,r⟩
 ·obtain ⟨z,Ar,r,p,_⟩:=h.ok I.hok;exact ⟨Ar,r,p,z⟩
 ·refine ⟨Ar.toList,r,⟨o,I.kIn a o hk,hc,n,by simpa using hs⟩,?_⟩;have e:=r.length;simp only [Rg] at e;lia
theorem Ak.list_inj (I:Ak X pins σ H s) (h:A6 X.K H a xs) (h':A6 X.K H a ys):xs=ys:=by
 obtain ⟨Ar,r,⟨o,n,e,_,_,d⟩,_⟩:=I.list h;obtain ⟨its',r',⟨o',n',e',_,_,d'⟩,_⟩:=I.list h';rw [e] at e'; cases e';rw [d] at d';injection d' with d1 _;have:Ar=its':=by simpa using congrArg Sd d1
 subst this;exact r.inj r'
theorem Ak.tuple_inj (I:Ak X pins σ H s) (h:BY X.K H a xs) (h':BY X.K H a ys):xs=ys:=by
 obtain ⟨Ar,r,⟨o,e,_,n,d⟩,_⟩:=I.tuple h;obtain ⟨its',r',⟨o',e',_,n',d'⟩,_⟩:=I.tuple h';rw [e] at e'; cases e';rw [d] at d';injection d' with d1 _;have:Ar=its':=by simpa using congrArg Sd d1
 subst this;exact r.inj r'
end
abbrev Cx.wish (X:Cx) (E:Value->Shared->Prop):Cx:={ X with xe:=E }
abbrev Cx.nox (X:Cx):Cx:=X.wish fun _ _=>False
theorem Cx.Ok.wish {X:Cx} (ok:X.Ok) (E:Value->Shared->Prop):(X.wish E).Ok:=
 ⟨ok.mod,ok.kind,ok.glob,ok.blt,ok.above,ok.inj,ok.has,ok.cab,ok.hd,ok.frames,ok.stk,ok.exf,ok.bs,ok.bsz,ok.noex,ok.exfs,ok.funs,ok.frf⟩
theorem Cx.Ok.unwish {X:Cx} {E:Value->Shared->Prop} (ok:(X.wish E).Ok):X.Ok:=
 ⟨ok.mod,ok.kind,ok.glob,ok.blt,ok.above,ok.inj,ok.has,ok.cab,ok.hd,ok.frames,ok.stk,ok.exf,ok.bs,ok.bsz,ok.noex,ok.exfs,ok.funs,ok.frf⟩
section
variable {X:Cx} {pins:List (Addr × Obj)} {σ:St} {H:Hp} {s:Shared} {E:Value->Shared->Prop}
theorem Ak.wish (I:Ak X pins σ H s) (E:Value->Shared->Prop):Ak (X.wish E) pins σ H s:=⟨I.ok.wish E,I.os,I.bare,I.base,I.loc,I.cell,I.free,I.freeC,I.pin,I.hok,I.len⟩
theorem Ak.unwish (I:Ak (X.wish E) pins σ H s):Ak X pins σ H s:=⟨I.ok.unwish,I.os,I.bare,I.base,I.loc,I.cell,I.free,I.freeC,I.pin,I.hok,I.len⟩
theorem SP.unwish {D:CB} {f:Flow} {s':Shared} (h:SP (X.wish E) pins D f s'):SP X pins D f s':=by
 cases f with
 | next=>obtain ⟨Ap,H',I,q⟩:=h; exact ⟨Ap,H',I.unwish,q⟩
 | brk=>obtain ⟨Ap,H',I,q⟩:=h; exact ⟨Ap,H',I.unwish,q⟩
 | cont=>obtain ⟨Ap,H',I,q⟩:=h; exact ⟨Ap,H',I.unwish,q⟩
 | ret u=>obtain ⟨v,Ap,H',I,r,q⟩:=h; exact ⟨v,Ap,H',I.unwish,r,q⟩
theorem GQ.nox {st:List Stmt} {t:TS} (h:GQ X.nox st t):GQ X st t:=fun pins s σ H D I hw=>
 wpAny_mono (h (pins:=pins) s σ H D (I.wish _) hw) (fun _ _ q=>q.unwish) fun _ _ z=>False.elim z
end
section
variable {X:Cx} {st:Stmt} {C0:List Stmt} {t u:TS} {e:Expr} {te:TE} {pos:Pos}
def tNext:TS:=fun D σ H=>D.nx σ H
def tSeq (t u:TS):TS:=fun D σ H=>t { D with nx:=u D } σ H
theorem AO:GQ X [] tNext:=fun _ _ σ H _ I h=>wpAny_execs_nil ⟨σ,H,I,h⟩
theorem Ad (h1:PS X st t) (h2:GQ X C0 u):GQ X (st :: C0) (tSeq t u):=by
 intro pins s σ H D I h;refine wpAny_execs_cons (Bj (h1 (pins:=pins) s σ H { D with nx:=u D } I h) fun f s1 q=>?_);cases f with
 | next=>
  obtain ⟨Ap,H',I',q⟩:=q;exact h2 (pins:=pins) s1 Ap H' D I' q
 | ret v=>exact q
 | brk=>exact q
 | cont=>exact q
theorem Ah (h1:PS X st t):GQ X [st] t:=by
 intro pins s σ H D I h;refine wpAny_execs_cons (Bj (h1 (pins:=pins) s σ H D I h) fun f s1 q=>?_);cases f with
 | next=>exact wpAny_execs_nil q
 | ret v=>exact q
 | brk=>exact q
 | cont=>exact q
theorem Ak.quiet {pins:List (Addr × Obj)} {σ:St} {H:Hp} {s:Shared} (I:Ak X pins σ H s):interactive X.env=false:=by simp [interactive,I.ok.kind]
def tDrop (te:TE):TS:=fun D σ H=>te σ H fun _ H1=>D.nx σ H1
theorem BQ (he:PE X e te) (hs:swapsWith e none pos.line X.env=pure false:=by rfl):PS X (.Expr e pos) (tDrop te):=by
 intro pins s σ H D I h;exact wpAny_Expr_any (Bj (he (pins:=pins) s σ H _ I h) fun v s1 ⟨x,H1,I1,r1,q1⟩=>⟨σ,H1,I1,q1⟩) I.quiet hs
def tRet (te:TE):TS:=fun D σ H=>te σ H D.rt
theorem AI (he:PE X e te):PS X (.Return (some e) pos) (tRet te):=by
 intro pins s σ H D I h;exact wpAny_Return_some (Bj (he (pins:=pins) s σ H _ I h) fun v s1 ⟨x,H1,I1,r1,q1⟩=>⟨x,σ,H1,I1,r1,q1⟩)
def tIfS (c:TT) (t u:TS):TS:=fun D σ H=>c σ H fun b H1=>if b=true then t D σ H1 else u D σ H1
theorem B8 {c:Expr} {a b:List Stmt} {tc:TT} (hc:PT X c tc) (ha:GQ X a t) (hb:GQ X b u):PS X (.If c a b pos) (tIfS tc t u):=by
 intro pins s σ H D I h;refine wpAny_If (Bj (hc (pins:=pins) s σ H _ I h) fun d s1 ⟨H1,I1,q1⟩=>?_);cases d with
 | true=>exact ha (pins:=pins) s1 σ H1 D I1 q1
 | false=>exact hb (pins:=pins) s1 σ H1 D I1 q1
end
abbrev TG:=V->St->Hp->(St->Hp->Prop)->Prop
abbrev M8:=List V->St->Hp->(St->Hp->Prop)->Prop
def PG (X:Cx) (target:Expr) (t:TG):Prop:=
 ∀ ⦃pins:List (Addr × Obj)⦄ (s:Shared) (σ:St) (H:Hp) (v:V) (u:Value) (Q:St->Hp->Prop),Ak X pins σ H s->As v u->t v σ H Q ->
  wpAny (model X.prog X.w) X.A (assign target X.env u) (fun _ s'=>∃ Ap H',Ak X pins Ap H' s'/\Q Ap H') X.xe s
def PGs (X:Cx) (ts:List Expr) (t:M8):Prop:=
 ∀ ⦃pins:List (Addr × Obj)⦄ (s:Shared) (σ:St) (H:Hp) (vs:List V) (us:List Value) (Q:St->Hp->Prop),Ak X pins σ H s->A4 vs us->t vs σ H Q ->
  wpAny (model X.prog X.w) X.A (assignInOrder ((assignEach ts X.env).map (·.2)) us) (fun _ s'=>∃ Ap H',Ak X pins Ap H' s'/\Q Ap H') X.xe s
section
variable {X:Cx} {pos:Pos}
def Ip (i:Nat):TG:=fun v σ H Q=>Q (σ.set i (some v)) H
theorem Aj {i:Nat} {x:Str} (hN:X.N.Nodup) (hi:X.N[i]? = some x) (hx:Og X.env.scope x) (hf:X.fn x=true\/X.env.scope.names.lookup x=some .local:=by first | exact .inl rfl | exact .inr rfl | assumption):PG X (.Name x pos) (Ip i):=by
 intro pins s σ H v u Q I r h;exact wpAny_assign_Name (Gs I hN hi hx r (fun s' I'=>⟨_,H,I',h⟩) hf)
def gNil:M8:=fun vs σ H Q=>vs=[]/\Q σ H
def gCons (t:TG) (u:M8):M8:=fun vs σ H Q=>∃ v r,vs=v :: r/\t v σ H fun Ap H'=>u r Ap H' Q
theorem BS:PGs X [] gNil:=by
 intro pins s σ H vs us Q I r h;obtain ⟨e,h⟩:=h;subst e;cases r
 exact assignInOrder_nil ⟨σ,H,I,h⟩
theorem Au {e:Expr} {es:List Expr} {t:TG} {u:M8} (h1:PG X e t) (h2:PGs X es u)
  (hs:(assignEach (e :: es) X.env).map (·.2)=assign e X.env :: (assignEach es X.env).map (·.2):=by rfl):PGs X (e :: es) (gCons t u):=by
 intro pins s σ H vs us Q I r h;obtain ⟨v,vr,e1,h⟩:=h;subst e1;cases r with
 | cons r rr=>
  rw [hs];refine assignInOrder_cons (Bj (h1 (pins:=pins) s σ H _ _ _ I r h) fun _ s1 ⟨NS,H1,I1,q1⟩=>?_);exact h2 (pins:=pins) s1 NS H1 _ _ Q I1 rr q1
def gTup (K:Qj) (n:Nat) (t:M8):TG:=fun v σ H Q=>∃ a xs,v=.ref a/\BY K H a xs/\xs.length=n/\t xs σ H Q
theorem Kf {es:List Expr} {k:Nat} {t:M8} {n:Nat} (hc:X.calm=true) (h:PGs X es t)
  (hn:(assignEach es X.env).length=n:=by rfl) (hst:(assignEach es X.env).findIdx? (·.1)=none:=by rfl):PG X (.Tuple es k pos) (gTup X.K n t):=by
 intro pins s σ H v u Q I r hw;obtain ⟨a,xs,e1,hq,hl,hw⟩:=hw;subst e1;cases r
 obtain ⟨Ar,rv,ht,hz⟩:=I.tuple hq;refine assign_Tuple_tuple (I.ok.hd hc) ht (by simp [hn,<-hl,rv.length]) hst fun h' hx=>?_
 have I1:Ak X pins σ H { s with heap:=h' }:=I.kept (t':=s.toks) fun b o e=>hx b o (Qv (Qp e)) e
 exact h (pins:=pins) _ σ H xs _ Q I1 (by simpa using rv) hw
def Lm (te:TE) (g:TG):TS:=fun D σ H=>te σ H fun x H1=>g x σ H1 D.nx
theorem Hh {tg e:Expr} {te:TE} {g:TG} (he:PE X e te) (hg:PG X tg g) (hs:swapsWithSole [tg] e pos.line X.env=pure false:=by rfl) (hw:swappedStores [tg] e X.env=pure none:=by rfl)
  (h1:(assignEach [tg] X.env).map (·.2)=[assign tg X.env]:=by rfl):PS X (.Assign [tg] e pos) (Lm te g):=by
 intro pins s σ H D I h;refine wpAny_Assign_stores (Bj (he (pins:=pins) s σ H _ I h) fun v s1 ⟨x,H1,I1,r1,q1⟩=>?_) hs hw;rw [h1];exact Bj (hg (pins:=pins) s1 σ H1 x v _ I1 r1 q1) fun _ s2 q=>q
theorem An {i:Nat} {x:Str} {e:Expr} {te:TE} {pos':Pos} (hN:X.N.Nodup) (hi:X.N[i]? = some x) (hx:Og X.env.scope x) (he:PE X e te) (hs:swapsWith e (some (.Name x pos')) pos.line X.env=pure false:=by rfl) (hf:X.fn x=true\/X.env.scope.names.lookup x=some .local:=by first | exact .inl rfl | exact .inr rfl | assumption) :
  PS X (.Assign [.Name x pos'] e pos) (Lm te (Ip i)):=by
 intro pins s σ H D I h;refine wpAny_Assign_Name (Bj (he (pins:=pins) s σ H _ I h) fun v s1 ⟨y,H1,I1,r1,q1⟩=>?_) hs;exact Gs I1 hN hi hx r1 (fun s2 I2=>⟨_,H1,I2,q1⟩) hf
end
section
variable {X:Cx} {pos:Pos}
def JD (c:TT) (tb:TS):TS:=fun D σ H=>∃ W:Nat->St->Hp->Prop,(∃ m,W m σ H)/\∀ m σ H,W m σ H ->
 c σ H fun b H1=>if b=true then ∃ N:St->Hp->Prop,(∀ Ap H',N Ap H'->∃ m',m' < m/\W m' Ap H')/\tb { D with nx:=N,ct:=N,bk:=D.nx } σ H1 else D.nx σ H1
theorem Dt {c:Expr} {body:List Stmt} {tc:TT} {tb:TS} (hp:PassesOwn (model X.prog X.w) X.A X.env X.xe) (hc:PT X c tc) (hb:GQ X body tb):PS X (.While c body [] pos) (JD tc tb):=by
 intro pins s σ H D I h;obtain ⟨W,⟨m0,w0⟩,turn⟩:=h;refine wpAny_While (codeAny_whileLoop (fun n s'=>∃ Ap H',Ak X pins Ap H' s'/\W n Ap H') ?_ m0 ⟨σ,H,I,w0⟩);rintro n s1 ⟨NS,H1,I1,w1⟩;refine wpAny_passesOwn hp (Bj (hc (pins:=pins) s1 NS H1 _ I1 (turn n NS H1 w1)) fun b s2 ⟨H2,I2,q2⟩=>?_);cases b with
 | true=>
  obtain ⟨N,hN,q2⟩:=q2;rw [if_pos rfl];refine wpAny_passesOwn hp (Bj (hb (pins:=pins) s2 NS H2 _ I2 q2) fun f s3 q3=>?_);cases f with
  | next=>
   obtain ⟨J7,H3,I3,n3⟩:=q3;obtain ⟨m',hm,w3⟩:=hN J7 H3 n3;exact ⟨m',hm,J7,H3,I3,w3⟩
  | cont=>
   obtain ⟨J7,H3,I3,n3⟩:=q3;obtain ⟨m',hm,w3⟩:=hN J7 H3 n3;exact ⟨m',hm,J7,H3,I3,w3⟩
  | brk=>exact q3
  | ret v=>exact q3
 | false=>
  rw [if_neg Qr];exact wpAny_execs_nil ⟨NS,H2,I2,q2⟩
end
structure It where
 go:Nat->Hp->Prop
 yld:Nat->Hp->V->Hp->Prop
 stop:Nat->Hp->Prop
def DS (X:Cx) (pins:List (Addr × Obj)) (H:Hp) (b:Addr):Prop:=
 H b=none/\b ≠ X.env.locals/\b ∉ X.fs/\(b ∈ X.ex\/X.s₀.heap.objs.size<=b)/\(∀ x c,X.env.cells.lookup x=some c->c ≠ b)/\∀ p ∈ X.pn ++ pins,p.1 ≠ b
theorem Ak.fpOk {X:Cx} {pins:List (Addr × Obj)} {σ:St} {H H':Hp} {s:Shared} {b:Addr} (I:Ak X pins σ H s) (hb:s.heap.objs.size<=b) (hn:H' b=none):DS X pins H' b:=by
 refine ⟨hn,Rr (Qu I.lt hb),I.nofs hb,.inr (QE I.sz hb),fun x c e z=>?_,fun p hp z=>?_⟩
 ·obtain ⟨v,q⟩:=I.cell x c e;exact absurd (Qu q.lt (by rw [z]; exact hb)) (QL _)
 ·exact absurd (Qu (Qp (I.pin p hp).1) (by rw [z]; exact hb)) (QL _)
structure KY (P:Program) (w:World) (K:Qj) (tg:Expr) (J:It) (fp:List Addr) (it:Addr) (tn:Nat->Heap->Prop):Prop where
 mem:it ∈ fp
 obj:∀ i h,tn i h->∀ b ∈ fp,∃ o,h.get? b=some o/\∀ v,o.data ≠ .cell v
 keep:∀ i h h',tn i h->(∀ b ∈ fp,∀ o,h.get? b=some o->h'.get? b=some o)->tn i h'
 item:∀ (X:Cx),X.prog=P->X.w=w->X.K=K->X.calm=true->∀ (i:Nat) (pins:List (Addr × Obj)) (s:Shared) (σ:St) (H:Hp) (E:Value->Shared->Prop),Ak X pins σ H s->(∀ b ∈ fp,DS X pins H b)->tn i s.heap->J.go i H ->
  wpAny (model P w) X.A (pyNext (.ref it)) (fun r s1=>∃ u,r=some u /\
   wpAny (model P w) X.A (letOwnedTupleGo tg (.ref it) u) (fun _ s2=>∃ x H',Ak X pins σ H' s2/\As x u/\J.yld i H x H'/\tn (i + 1) s2.heap/\∀ b ∈ fp,H' b=none) E s1) E s
 done:∀ (X:Cx),X.prog=P->X.w=w->X.K=K->X.calm=true->∀ (i:Nat) (pins:List (Addr × Obj)) (s:Shared) (σ:St) (H:Hp) (E:Value->Shared->Prop),Ak X pins σ H s->(∀ b ∈ fp,DS X pins H b)->tn i s.heap->J.stop i H ->
  wpAny (model P w) X.A (pyNext (.ref it)) (fun r s1=>r=none/\Ak X pins σ H s1) E s
 self:∀ (A:Around) (i:Nat) (s:Shared) (Q:Value->Shared->Prop) (E:Value->Shared->Prop),tn i s.heap->Q (.ref it) s->wpAny (model P w) A (pyIter (.ref it)) Q E s
abbrev TI:=St->Hp->(It->Hp->Prop)->Prop
def PIE (X:Cx) (pins:List (Addr × Obj)) (σ:St) (tg:Expr) (R:It->Hp->Prop) (itv:Value) (s2:Shared):Prop:=
 ∃ (it:Addr) (fp:List Addr) (tn:Nat->Heap->Prop) (J:It) (H':Hp),itv=.ref it/\Ak X pins σ H' s2/\KY X.prog X.w X.K tg J fp it tn/\tn 0 s2.heap/\(∀ b ∈ fp,DS X pins H' b)/\R J H'
def PI (X:Cx) (tg iter:Expr) (wi:TI):Prop:=
 ∀ ⦃pins:List (Addr × Obj)⦄ (s:Shared) (σ:St) (H:Hp) (R:It->Hp->Prop),Ak X pins σ H s->wi σ H R ->
  wpAny (model X.prog X.w) X.A (eval iter X.env) (fun v s1=>wpAny (model X.prog X.w) X.A (pyIter v) (PIE X pins σ tg R) X.xe s1) X.xe s
theorem Io {M:Model} {A:Around} {E:Value->Shared->Prop} {s:Shared} {tg:Expr} {it:Addr} {u:Value} {o:Obj} {n:String} {vs:Array Value} {Q:Unit->Shared->Prop} (ho:s.heap.get? it=some o) (hc:o.cls=.type n) (hd:o.data=.fields vs)
  (hn:["enumerate","zip","dict_itemiterator","dict_reverseitemiterator","odict_iterator","itertools.zip_longest","itertools.pairwise"].contains n=false) (hQ:Q () s):wpAny M A (letOwnedTupleGo tg (.ref it) u) Q E s:=by
 unfold letOwnedTupleGo;cases tg <;> first
  | exact wpAny_pure hQ
  | (cases u <;> first
    | exact wpAny_pure hQ
    | (refine wpAny_bind (wpAny_load ho ?_)
       rw [hc,hd];show wpAny M A (if (["enumerate","zip","dict_itemiterator","dict_reverseitemiterator","odict_iterator","itertools.zip_longest","itertools.pairwise"].contains n && vs[0]? == some (rawInt _))=true then _ else _) Q E s
       rw [if_neg (by intro h; rw [hn,SH] at h; cases h)];exact wpAny_pure hQ))
def Oi (K:Qj) (a:Addr):It:=
 ⟨fun i H=>∃ xs x,A6 K H a xs/\xs[i]? = some x,fun i H x H'=>H'=H/\∀ xs,A6 K H a xs->xs[i]? = some x,fun i H=>∃ xs,A6 K H a xs/\xs.length<=i⟩
def MB (K:Qj) (a:Addr):It:=
 ⟨fun i H=>∃ xs x,BY K H a xs/\xs[i]? = some x,fun i H x H'=>H'=H/\∀ xs,BY K H a xs->xs[i]? = some x,fun i H=>∃ xs,BY K H a xs/\xs.length<=i⟩
def NM (lo:Int) (n:Nat):It:=⟨fun i _=>i < n,fun i H x H'=>H'=H/\x=.int (lo + i),fun i _=>n<=i⟩
theorem ID {P:Program} {w:World} {K:Qj} {tg:Expr} (a it:Addr):KY P w K tg (Oi K a) [it] it (fun i h=>h.IsListIter it a i) where
 mem:=by simp
 obj:=fun i h st b hb=>by
  have e:b=it:=by simpa using hb
  subst e;obtain ⟨o,e,c,d⟩:=st;exact ⟨o,e,fun v z=>by rw [d] at z; cases z⟩
 keep:=fun i h h' st k=>st.at fun o e=>k it (by simp) o e
 item:=by
  intro X hP hw hK hc i pins s σ H E I hf st hg;subst hP hw hK;obtain ⟨xs,x,hq,hx⟩:=hg;obtain ⟨Ar,rv,p,hz⟩:=I.list hq;obtain ⟨u,hu,ru⟩:=rv.get hx;obtain ⟨f0,f1,f2,f3,f4,f5⟩:=hf it (by simp);refine wpAny_pyNext_list_item st p.isList (x:=u) (by simpa using hu) fun h' Jy sb=>?_
  have I1:Ak X pins σ H { s with heap:=h' }:=I.turned (t':=s.toks) (fun b o hb e=>(sb.2 b hb).trans e) f0 f1 f3 f4 f5;obtain ⟨o,e,c,d⟩:=id Jy;exact ⟨u,rfl,Io (s:={ s with heap:=h' }) e c d (by decide) ⟨x,H,I1,ru,⟨rfl,fun ys hy=>by rw [I.list_inj hy hq]; exact hx⟩,Jy,fun b hb=>(hf b hb).1⟩⟩
 done:=by
  intro X hP hw hK hc i pins s σ H E I hf st hg;subst hP hw hK;obtain ⟨xs,hq,hx⟩:=hg;obtain ⟨Ar,rv,p,hz⟩:=I.list hq;obtain ⟨f0,f1,f2,f3,f4,f5⟩:=hf it (by simp);have hl:=rv.length;exact wpAny_pyNext_list_end (I.ok.hd hc) st p.isList (by simp; lia) fun h' eb=>⟨rfl,I.turned (t':=s.toks) (fun b o hb e=>eb b o hb e) f0 f1 f3 f4 f5⟩
 self:=fun _ _ _ _ _ st h=>wpAny_pyIter_listiter st h
theorem GY {P:Program} {w:World} {K:Qj} {tg:Expr} (a it:Addr):KY P w K tg (MB K a) [it] it (fun i h=>h.IsTupleIter it a i) where
 mem:=by simp
 obj:=fun i h st b hb=>by
  have e:b=it:=by simpa using hb
  subst e;obtain ⟨o,e,c,d⟩:=st;exact ⟨o,e,fun v z=>by rw [d] at z; cases z⟩
 keep:=fun i h h' st k=>st.at fun o e=>k it (by simp) o e
 item:=by
  intro X hP hw hK hc i pins s σ H E I hf st hg;subst hP hw hK;obtain ⟨xs,x,hq,hx⟩:=hg;obtain ⟨Ar,rv,p,hz⟩:=I.tuple hq;obtain ⟨u,hu,ru⟩:=rv.get hx;obtain ⟨f0,f1,f2,f3,f4,f5⟩:=hf it (by simp);refine wpAny_pyNext_tuple_item st (show s.heap.IsTuple a Ar.toArray from p) (x:=u) (by simpa using hu) fun h' Jy sb=>?_
  have I1:Ak X pins σ H { s with heap:=h' }:=I.turned (t':=s.toks) (fun b o hb e=>(sb.2 b hb).trans e) f0 f1 f3 f4 f5;obtain ⟨o,e,c,d⟩:=id Jy;exact ⟨u,rfl,Io (s:={ s with heap:=h' }) e c d (by decide) ⟨x,H,I1,ru,⟨rfl,fun ys hy=>by rw [I.tuple_inj hy hq]; exact hx⟩,Jy,fun b hb=>(hf b hb).1⟩⟩
 done:=by
  intro X hP hw hK hc i pins s σ H E I hf st hg;subst hP hw hK;obtain ⟨xs,hq,hx⟩:=hg;obtain ⟨Ar,rv,p,hz⟩:=I.tuple hq;obtain ⟨f0,f1,f2,f3,f4,f5⟩:=hf it (by simp);have hl:=rv.length;exact wpAny_pyNext_tuple_end (I.ok.hd hc) st (show s.heap.IsTuple a Ar.toArray from p) (by simp; lia) fun h' eb=>⟨rfl,I.turned (t':=s.toks) (fun b o hb e=>eb b o hb e) f0 f1 f3 f4 f5⟩
 self:=fun _ _ _ _ _ st h=>wpAny_pyIter_tupleiter st h
theorem GZ {P:Program} {w:World} {K:Qj} {tg:Expr} (it:Addr) (lo:Int) (n:Nat):KY P w K tg (NM lo n) [it] it (fun i h=>IsRangeIter h it (lo + (i:Nat) * 1) ((n:Int) - (i:Nat)) 1) where
 mem:=by simp
 obj:=fun i h st b hb=>by
  have e:b=it:=by simpa using hb
  subst e;exact ⟨_,st,fun v z=>by
   have z':Data.fields _=Data.cell v:=z;cases z'⟩
 keep:=fun i h h' st k=>k it (by simp) _ st
 item:=by
  intro X hP hw hK hc i pins s σ H E I hf st hg;subst hP hw hK;obtain ⟨f0,f1,f2,f3,f4,f5⟩:=hf it (by simp);have W:=Walks.range (prog:=X.prog) (w:=X.w) (I.ok.hd hc) it lo 1 n;refine W.item i s _ _ hg st fun v h' tk hv Jy kk=>?_
  obtain ⟨t,rfl⟩:=hv;have I1:Ak X pins σ H { s with heap:=h',toks:=tk }:=I.turned (fun b o hb e=>kk b o (by simpa using hb) e) f0 f1 f3 f4 f5;refine ⟨_,rfl,Io (s:={ s with heap:=h',toks:=tk }) (n:="range_iterator") Jy rfl rfl (by decide) ⟨.int (lo + i),H,I1,⟨t,?_⟩,⟨rfl,rfl⟩,Jy,fun b hb=>(hf b hb).1⟩⟩;rw [Int.mul_one]
 done:=by
  intro X hP hw hK hc i pins s σ H E I hf st hg;subst hP hw hK;obtain ⟨f0,f1,f2,f3,f4,f5⟩:=hf it (by simp);exact wpAny_pyNext_range_end (I.ok.hd hc) st (by have:n<=i:=hg; lia) fun h' eb=>⟨rfl,I.turned (t':=s.toks) (fun b o hb e=>eb b o hb e) f0 f1 f3 f4 f5⟩
 self:=fun _ _ _ _ _ st h=>wpAny_pyIter_rangeiter st h
section
variable {X:Cx} {tg:Expr}
def My (K:Qj) (tl:TE):TI:=fun σ H R=>tl σ H fun x H1=>∃ a,x=.ref a/\(∃ xs,A6 K H1 a xs)/\R (Oi K a) H1
def iTup (K:Qj) (tl:TE):TI:=fun σ H R=>tl σ H fun x H1=>∃ a,x=.ref a/\(∃ xs,BY K H1 a xs)/\R (MB K a) H1
theorem BR {l:Expr} {tl:TE} (hl:PE X l tl):PI X tg l (My X.K tl):=by
 intro pins s σ H R I h;refine Bj (hl (pins:=pins) s σ H _ I h) fun v s1 ⟨x,H1,I1,r1,q1⟩=>?_
 obtain ⟨a,e,⟨xs,hq⟩,q⟩:=q1;subst e;cases r1
 obtain ⟨Ar,rv,p,hz⟩:=I1.list hq;refine wpAny_pyIter_list p.isList ?_;refine ⟨s1.heap.objs.size,[s1.heap.objs.size],_,_,H1,rfl,I1.kept (t':=s1.toks) fun b o e=>Ql _ e,ID a _,⟨_,Q4 _ rfl,rfl,rfl⟩,fun b hb=>?_,q⟩;have e:b=s1.heap.objs.size:=by simpa using hb
 subst e;exact I1.fpOk (Qo _) (I1.hok.fresh (Qo _))
theorem Ke {l:Expr} {tl:TE} (hl:PE X l tl):PI X tg l (iTup X.K tl):=by
 intro pins s σ H R I h;refine Bj (hl (pins:=pins) s σ H _ I h) fun v s1 ⟨x,H1,I1,r1,q1⟩=>?_
 obtain ⟨a,e,⟨xs,hq⟩,q⟩:=q1;subst e;cases r1
 obtain ⟨Ar,rv,p,hz⟩:=I1.tuple hq;refine wpAny_pyIter_tuple (show s1.heap.IsTuple a Ar.toArray from p) ?_;refine ⟨s1.heap.objs.size,[s1.heap.objs.size],_,_,H1,rfl,I1.kept (t':=s1.toks) fun b o e=>Ql _ e,GY a _,⟨_,Q4 _ rfl,rfl,rfl⟩,fun b hb=>?_,q⟩;have e:b=s1.heap.objs.size:=by simpa using hb
 subst e;exact I1.fpOk (Qo _) (I1.hok.fresh (Qo _))
theorem Gx {pins:List (Addr × Obj)} {σ:St} {H:Hp} {s:Shared} {R:It->Hp->Prop} {E:Value->Shared->Prop} {lo hi:Int} {t u v:Tok} {tk:Nat} (I:Ak X pins σ H s) (h1:-(2 ^ 62)<=lo) (h2:lo < 2 ^ 62) (h3:-(2 ^ 62)<=hi) (h4:hi < 2 ^ 62)
  (q:R (NM lo (hi - lo).toNat) H):wpAny (model X.prog X.w) X.A (pyIter (.ref s.heap.objs.size)) (PIE X pins σ tg R) E { s with heap:=s.heap.push { cls:=.type "range",data:=.fields #[.int lo t,.int hi u,.int 1 v] },toks:=tk }:=by
 refine wpAny_pyIter_range (IsRange.new ..) (small_one h1 h2 h3 h4) ?_;have I1:Ak X pins σ H { s with heap:=s.heap.push { cls:=.type "range",data:=.fields #[.int lo t,.int hi u,.int 1 v] },toks:=tk }:=I.kept fun b o e=>Ql _ e
 refine ⟨(s.heap.push { cls:=.type "range",data:=.fields #[.int lo t,.int hi u,.int 1 v] }).objs.size,[(s.heap.push { cls:=.type "range",data:=.fields #[.int lo t,.int hi u,.int 1 v] }).objs.size],_,_,H,rfl,
  I1.kept (t':=tk) fun b o e=>Ql _ e,GZ _ lo (hi - lo).toNat,?_,fun b hb=>?_,q⟩
 ·have e1:lo + ((0:Nat):Int) * 1=lo:=by simp
  have e2:(((hi - lo).toNat:Nat):Int) - ((0:Nat):Int)=Builtin.Range.rangeSize lo hi 1:=by rw [rangeSize_one]; split <;> lia
  show IsRangeIter _ _ (lo + ((0:Nat):Int) * 1) ((((hi - lo).toNat:Nat):Int) - ((0:Nat):Int)) 1
  rw [e1,e2];exact Q4 _ rfl
 ·have e:b=(s.heap.push { cls:=.type "range",data:=.fields #[.int lo t,.int hi u,.int 1 v] }).objs.size:=by simpa using hb
  subst e;exact I1.fpOk (Qo _) (I1.hok.fresh (Qo _))
def iRng1 (ta:TA):TI:=fun σ H R=>ta σ H fun vs H1=>∃ j:Int,vs=[.int j]/\-(2 ^ 62)<=j/\j < 2 ^ 62/\R (NM 0 j.toNat) H1
def iRng2 (ta:TA):TI:=fun σ H R=>ta σ H fun vs H1=>∃ i j:Int,vs=[.int i,.int j]/\(-(2 ^ 62)<=i/\i < 2 ^ 62/\-(2 ^ 62)<=j/\j < 2 ^ 62)/\R (NM i (j - i).toNat) H1
theorem CP {a:Expr} {ta:TA} {p pos:Pos} (hg:Gl X "range") (hm:X.mg "range"=none) (ha:PA X [a] ta) (hs:starEach [a] X.env=[(false,eval a X.env)]:=by rfl):PI X tg (.Call (.Name "range" p) [a] [] pos) (iRng1 ta):=by
 intro pins s σ H R I h;refine Call_ (EF I hg hm boot_range (PyProof.Rows.callWith_type1 (Bj (ha (pos:=pos) (pins:=pins) s σ H _ I h) fun us s1 ⟨vs,H1,I1,r1,q1⟩=>?_) hs rfl));obtain ⟨j,e,q1,q2,q⟩:=q1;subst e;cases r1 with
 | cons r rr=>
  cases rr
  obtain ⟨t,rfl⟩:=r;exact call_range_1 (Gx I1 (by lia) (by lia) q1 q2 (by simpa using q))
theorem Fp {a b:Expr} {ta:TA} {p pos:Pos} (hg:Gl X "range") (hm:X.mg "range"=none) (ha:PA X [a,b] ta) (hs:starEach [a,b] X.env=[(false,eval a X.env),(false,eval b X.env)]:=by rfl) (hs2:starEach [b] X.env=[(false,eval b X.env)]:=by rfl) :
  PI X tg (.Call (.Name "range" p) [a,b] [] pos) (iRng2 ta):=by
 intro pins s σ H R I h;refine Call_ (EF I hg hm boot_range (PyProof.Rows.callWith_type1 (Bj (ha (pos:=pos) (pins:=pins) s σ H _ I h) fun us s1 ⟨vs,H1,I1,r1,q1⟩=>?_) (by rw [hs,hs2]) (by rw [hs2]; rfl)));obtain ⟨i,j,e,⟨q1,q2,q3,q4⟩,q⟩:=q1;subst e;cases r1 with
 | cons r rr=>
  cases rr with
  | cons r' rr=>
   cases rr
   obtain ⟨t,rfl⟩:=r;obtain ⟨t',rfl⟩:=r';exact call_range_2 (Gx I1 q1 q2 q3 q4 q)
def tFor (wi:TI) (g:TG) (tb:TS):TS:=fun D σ H=>wi σ H fun J H1=>∃ W:Nat->Nat->St->Hp->Prop,(∃ m,W 0 m σ H1)/\∀ i m σ H,W i m σ H ->
 (J.stop i H/\D.nx σ H)\/(J.go i H/\∃ N:St->Hp->Prop,(∀ Ap H',N Ap H'->∃ m',m' < m/\W (i + 1) m' Ap H')/\∀ x H',J.yld i H x H'->g x σ H' fun AW H2=>tb { D with nx:=N,ct:=N,bk:=D.nx } AW H2)
def CG (fp:List Addr) (h:Heap):List (Addr × Obj):=fp.filterMap fun b=>(h.get? b).map fun o=>(b,o)
theorem AU {fp:List Addr} {h:Heap} {b:Addr} {o:Obj} (hb:b ∈ fp) (e:h.get? b=some o):(b,o) ∈ CG fp h:=Rn.mpr ⟨b,hb,by rw [e]; rfl⟩
theorem IQ {fp:List Addr} {h:Heap} {p:Addr × Obj} (hp:p ∈ CG fp h):p.1 ∈ fp/\h.get? p.1=some p.2:=by
 obtain ⟨b,hb,e⟩:=Rn.mp hp;cases q:h.get? b with
 | none=>rw [q] at e; cases e
 | some o=>
  rw [q] at e;have e':(b,o)=p:=QB.inj e;subst e';exact ⟨hb,q⟩
theorem Ak.pinned {pins:List (Addr × Obj)} {σ:St} {H:Hp} {s:Shared} {fp:List Addr} (I:Ak X pins σ H s) (hf:∀ b ∈ fp,DS X pins H b) (ho:∀ b ∈ fp,∃ o,s.heap.get? b=some o/\∀ v,o.data ≠ .cell v):Ak X (pins ++ CG fp s.heap) σ H s:=
 I.pins_of fun p hp=>(QA.mp hp).elim (fun z=>I.pin p (Qq _ z)) fun z=>by
  obtain ⟨hb,e⟩:=IQ z;obtain ⟨f0,f1,f2,_⟩:=hf p.1 hb;obtain ⟨o,e',d⟩:=ho p.1 hb;rw [e] at e'; cases e';exact ⟨e,f0,f1,f2,d⟩
theorem Ak.unpinned {pins pl:List (Addr × Obj)} {σ:St} {H:Hp} {s:Shared} (I:Ak X (pins ++ pl) σ H s):Ak X pins σ H s:=I.pins_of fun p hp=>I.pin p (Qq _ (QD _ hp))
theorem Br {iter:Expr} {body:List Stmt} {wi:TI} {g:TG} {tb:TS} {pos:Pos} (hp:PassesOwn (model X.prog X.w) X.A X.env X.xe) (hc:X.calm=true) (hi:PI X tg iter wi) (hg:PG X tg g) (hb:GQ X body tb)
  (hs:∀ x,foldedSetIterable iter X.env x=pure x:=by intro _; rfl):PS X (.For tg iter body [] pos) (tFor wi g tb):=by
 intro pins s σ H D I h;refine wpAny_For (Bj (hi (pins:=pins) s σ H _ I h) fun v s1 h1=>Bj h1 fun itv s2 h2=>?_) hs;obtain ⟨it,fp,tn,J,H2,e,I2,T,EZ,f2,W,⟨m0,w0⟩,turn⟩:=h2;subst e;have stat:∀ {H':Hp},(∀ b ∈ fp,H' b=none)->∀ b ∈ fp,DS X pins H' b:=fun hn b hb=>⟨hn b hb,(f2 b hb).2⟩
 refine codeAny_forLoop_any (fun n s'=>∃ i Ap H',Ak X pins Ap H' s'/\tn i s'.heap/\(∀ b ∈ fp,H' b=none)/\W i n Ap H') ?_ m0 ⟨0,σ,H2,I2,EZ,fun b hb=>(f2 b hb).1,w0⟩;rintro n s3 ⟨i,J7,H3,I3,st3,fr3,w3⟩;rcases turn i n J7 H3 w3 with ⟨stop,qn⟩ | ⟨go,N,hN,step⟩
 ·refine wpAny_passesOwn hp (Bj (T.done X rfl rfl rfl hc i (pins:=pins) s3 J7 H3 X.xe I3 (stat fr3) st3 stop) fun r s4 ⟨hr,I4⟩=>?_);subst hr;exact wpAny_execs_nil ⟨J7,H3,I4,qn⟩
 ·refine wpAny_passesOwn hp (Bj (T.item X rfl rfl rfl hc i (pins:=pins) s3 J7 H3 X.xe I3 (stat fr3) st3 go) fun r s4 ⟨u,hr,h4⟩=>?_);subst hr;refine wpAny_passesOwn hp (Bj h4 fun _ s5 ⟨x,H5,I5,r5,y5,Pf,fr5⟩=>?_);have I5':=I5.pinned (stat fr5) (T.obj _ _ Pf);refine wpAny_passesOwn hp (Bj (hg s5 J7 H5 x u _ I5' r5 (step x H5 y5)) fun _ s6 ⟨σ6,H6,I6,q6⟩=>?_);refine wpAny_passesOwn hp (Bj (hb s6 σ6 H6 _ I6 q6) fun f s7 q7=>?_);have again:∀ {Dl:St} {H7:Hp},Ak X (pins ++ CG fp s5.heap) Dl H7 s7->N Dl H7->∃ m,m < n/\∃ i Ap H',Ak X pins Ap H' s7/\tn i s7.heap/\(∀ b ∈ fp,H' b=none)/\W i m Ap H':=fun {Dl H7} I7 n7=>by
   obtain ⟨m',hm,w7⟩:=hN Dl H7 n7;refine ⟨m',hm,i + 1,Dl,H7,I7.unpinned,T.keep _ _ _ Pf fun b hb o e=>(I7.pin (b,o) (Qq _ (Qq _ (AU hb e)))).1,fun b hb=>?_,w7⟩;obtain ⟨o,e,d⟩:=T.obj _ _ Pf b hb;exact (I7.pin (b,o) (Qq _ (Qq _ (AU hb e)))).2.1
  cases f with
  | next=>obtain ⟨Dl,H7,I7,n7⟩:=q7; exact again I7 n7
  | cont=>obtain ⟨Dl,H7,I7,n7⟩:=q7; exact again I7 n7
  | brk=>obtain ⟨Dl,H7,I7,q7⟩:=q7; exact ⟨Dl,H7,I7.unpinned,q7⟩
  | ret v=>obtain ⟨x7,Dl,H7,I7,r7,q7⟩:=q7; exact ⟨x7,Dl,H7,I7.unpinned,r7,q7⟩
end
theorem B6 {K:Qj} {a:Addr} {xs:List V} {g:TG} {tb:TS} {D:CB} {σ:St} {H:Hp} (Pv:Nat->St->Hp->Prop) (h0:Pv 0 σ H) (hl:∀ i σ H,i<=xs.length->Pv i σ H->A6 K H a xs)
  (hs:∀ i x σ H,xs[i]? = some x->Pv i σ H->g x σ H fun AW H2=>tb { D with nx:=Pv (i + 1),ct:=Pv (i + 1),bk:=D.nx } AW H2) (hd:∀ σ H,Pv xs.length σ H->D.nx σ H) :
  ∃ W:Nat->Nat->St->Hp->Prop,(∃ m,W 0 m σ H)/\∀ i m σ H,W i m σ H ->
   ((Oi K a).stop i H/\D.nx σ H)\/((Oi K a).go i H/\∃ N:St->Hp->Prop,(∀ Ap H',N Ap H'->∃ m',m' < m/\W (i + 1) m' Ap H')/\∀ x H',(Oi K a).yld i H x H'->g x σ H' fun AW H2=>tb { D with nx:=N,ct:=N,bk:=D.nx } AW H2):=by
 refine ⟨fun i m σ H=>m=xs.length - i/\i<=xs.length/\Pv i σ H,⟨xs.length,by simp,QH _,h0⟩,?_⟩;rintro i m σ H ⟨rfl,hi,p⟩;have q:=hl i σ H hi p;by_cases Bc:i < xs.length
 ·refine .inr ⟨⟨xs,xs[i],q,by simp [Bc]⟩,Pv (i + 1),fun Ap H' p'=>⟨xs.length - (i + 1),by lia,rfl,Bc,p'⟩,fun x H' y=>?_⟩;obtain ⟨e,y⟩:=y;subst e;exact hs i x σ _ (y xs q) p
 ·have e:i=xs.length:=by lia
  subst e;exact .inl ⟨⟨xs,q,Qo _⟩,hd σ H p⟩
theorem LU {K:Qj} {a:Addr} {xs:List V} {g:TG} {tb:TS} {D:CB} {σ:St} {H:Hp} (Pv:Nat->St->Hp->Prop) (h0:Pv 0 σ H) (hl:∀ i σ H,i<=xs.length->Pv i σ H->BY K H a xs)
  (hs:∀ i x σ H,xs[i]? = some x->Pv i σ H->g x σ H fun AW H2=>tb { D with nx:=Pv (i + 1),ct:=Pv (i + 1),bk:=D.nx } AW H2) (hd:∀ σ H,Pv xs.length σ H->D.nx σ H) :
  ∃ W:Nat->Nat->St->Hp->Prop,(∃ m,W 0 m σ H)/\∀ i m σ H,W i m σ H ->
   ((MB K a).stop i H/\D.nx σ H)\/((MB K a).go i H/\∃ N:St->Hp->Prop,(∀ Ap H',N Ap H'->∃ m',m' < m/\W (i + 1) m' Ap H')/\∀ x H',(MB K a).yld i H x H'->g x σ H' fun AW H2=>tb { D with nx:=N,ct:=N,bk:=D.nx } AW H2):=by
 refine ⟨fun i m σ H=>m=xs.length - i/\i<=xs.length/\Pv i σ H,⟨xs.length,by simp,QH _,h0⟩,?_⟩;rintro i m σ H ⟨rfl,hi,p⟩;have q:=hl i σ H hi p;by_cases Bc:i < xs.length
 ·refine .inr ⟨⟨xs,xs[i],q,by simp [Bc]⟩,Pv (i + 1),fun Ap H' p'=>⟨xs.length - (i + 1),by lia,rfl,Bc,p'⟩,fun x H' y=>?_⟩;obtain ⟨e,y⟩:=y;subst e;exact hs i x σ _ (y xs q) p
 ·have e:i=xs.length:=by lia
  subst e;exact .inl ⟨⟨xs,q,Qo _⟩,hd σ H p⟩
theorem Cq {lo:Int} {n:Nat} {g:TG} {tb:TS} {D:CB} {σ:St} {H:Hp} (Pv:Nat->St->Hp->Prop) (h0:Pv 0 σ H)
  (hs:∀ i σ H,i < n->Pv i σ H->g (.int (lo + i)) σ H fun AW H2=>tb { D with nx:=Pv (i + 1),ct:=Pv (i + 1),bk:=D.nx } AW H2) (hd:∀ σ H,Pv n σ H->D.nx σ H) :
  ∃ W:Nat->Nat->St->Hp->Prop,(∃ m,W 0 m σ H)/\∀ i m σ H,W i m σ H ->
   ((NM lo n).stop i H/\D.nx σ H)\/((NM lo n).go i H/\∃ N:St->Hp->Prop,(∀ Ap H',N Ap H'->∃ m',m' < m/\W (i + 1) m' Ap H')/\∀ x H',(NM lo n).yld i H x H'->g x σ H' fun AW H2=>tb { D with nx:=N,ct:=N,bk:=D.nx } AW H2):=by
 refine ⟨fun i m σ H=>m=n - i/\i<=n/\Pv i σ H,⟨n,by simp,QH _,h0⟩,?_⟩;rintro i m σ H ⟨rfl,hi,p⟩;by_cases Bc:i < n
 ·refine .inr ⟨Bc,Pv (i + 1),fun Ap H' p'=>⟨n - (i + 1),by lia,rfl,Bc,p'⟩,fun x H' y=>?_⟩;obtain ⟨e,y⟩:=y;subst e y;exact hs i σ _ Bc p
 ·have e:i=n:=by lia
  subst e;exact .inl ⟨Qo _,hd σ H p⟩
theorem J8 {c:TT} {tb:TS} {D:CB} {σ:St} {H:Hp} (Pv:St->Hp->Prop) (μ:St->Hp->Nat) (h0:Pv σ H)
  (hs:∀ σ H,Pv σ H->c σ H fun b H1=>if b=true then tb { D with nx:=fun Ap H'=>Pv Ap H'/\μ Ap H' < μ σ H,ct:=fun Ap H'=>Pv Ap H'/\μ Ap H' < μ σ H,bk:=D.nx } σ H1 else D.nx σ H1)
  (mono:∀ σ H Q Q',(∀ b H1,Q b H1->Q' b H1)->c σ H Q->c σ H Q'):JD c tb D σ H:=by
 refine ⟨fun m σ H=>m=μ σ H/\Pv σ H,⟨_,rfl,h0⟩,?_⟩;rintro m σ H ⟨rfl,p⟩;refine mono σ H _ _ (fun b H1 q=>?_) (hs σ H p);cases b with
 | true=>exact ⟨_,fun Ap H' ⟨p',l⟩=>⟨_,l,rfl,p'⟩,q⟩
 | false=>exact q
abbrev R2:=V->V->Hp->VK->Prop
def Ex (X:Cx) (f:Value->Value->Sem Value) (r:R2):Prop:=
 ∀ ⦃pins:List (Addr × Obj)⦄ (s:Shared) (σ:St) (H:Hp) (x y:V) (v u:Value) (Q:VK),Ak X pins σ H s->As x v->As y u->r x y H Q ->
  wpAny (model X.prog X.w) X.A (f v u) (EP X pins σ Q) X.xe s
def UnR (X:Cx) (f:Value->Sem Value) (r:V->Hp->VK->Prop):Prop:=
 ∀ ⦃pins:List (Addr × Obj)⦄ (s:Shared) (σ:St) (H:Hp) (x:V) (v:Value) (Q:VK),Ak X pins σ H s->As x v->r x H Q ->
  wpAny (model X.prog X.w) X.A (f v) (EP X pins σ Q) X.xe s
def Bp (X:Cx) (f:Value) (r:List V->Hp->VK->Prop):Prop:=
 ∀ ⦃pins:List (Addr × Obj)⦄ (s:Shared) (σ:St) (H:Hp) (xs:List V) (us:List Value) (Q:VK),Ak X pins σ H s->A4 xs us->r xs H Q ->
  wpAny (model X.prog X.w) X.A (call f us) (EP X pins σ Q) X.xe s
def TruR (X:Cx) (r:V->Hp->(Bool->Hp->Prop)->Prop):Prop:=
 ∀ ⦃pins:List (Addr × Obj)⦄ (s:Shared) (σ:St) (H:Hp) (x:V) (v:Value) (Q:Bool->Hp->Prop),Ak X pins σ H s->As x v->r x H Q ->
  wpAny (model X.prog X.w) X.A (truthy v) (TP X pins σ Q) X.xe s
def tOp (r:R2) (ta tb:TE):TE:=fun σ H Q=>ta σ H fun x H1=>tb σ H1 fun y H2=>r x y H2 Q
def tUn (r:V->Hp->VK->Prop) (ta:TE):TE:=fun σ H Q=>ta σ H fun x H1=>r x H1 Q
def rI (C:Int->Int->Prop) (g:Int->Int->V):R2:=fun x y H Q=>∃ i j,x=.int i/\y=.int j/\C i j/\Q (g i j) H
def MR (g:Int->Int->V):R2:=fun x y H Q=>∃ i j,x=.int i/\y=.int j/\Q (g i j) H
def rU (g:Int->V):V->Hp->VK->Prop:=fun x H Q=>∃ i,x=.int i/\Q (g i) H
section
variable {X:Cx} {a b c:Expr} {ta tb tc:TE} {pos:Pos}
theorem NG (ha:PE X a ta) (hb:PE X b tb) {pins:List (Addr × Obj)} {s:Shared} {σ:St} {H:Hp} {R:V->V->Hp->Prop} (I:Ak X pins σ H s)
  (h:ta σ H fun x H1=>tb σ H1 fun y H2=>R x y H2) {Q:Value->Shared->Prop} {f:Value->Value->Sem Value}
  (hf:∀ v u s2 x y H2,Ak X pins σ H2 s2->As x v->As y u->R x y H2->wpAny (model X.prog X.w) X.A (f v u) Q X.xe s2) :
  wpAny (model X.prog X.w) X.A (eval a X.env) (fun v AB=>wpAny (model X.prog X.w) X.A (eval b X.env) (fun u Dn=>wpAny (model X.prog X.w) X.A (f v u) Q X.xe Dn) X.xe AB) X.xe s:=by
 refine Bj (ha (pins:=pins) s σ H _ I h) fun v s1 ⟨x,H1,I1,r1,q1⟩=>?_
 refine Bj (hb (pins:=pins) s1 σ H1 _ I1 q1) fun u s2 ⟨y,H2,I2,r2,q2⟩=>?_
 exact hf v u s2 x y H2 I2 r1 r2 q2
theorem Aq {op:Operator} {r:R2} (ho:Ex X (binaryOp op) r) (ha:PE X a ta) (hb:PE X b tb):PE X (.BinOp a op b pos) (tOp r ta tb):=by
 intro pins s σ H Q I h;exact wpAny_BinOp (NG ha hb I h fun v u s2 x y H2 I2 rx ry q=>ho (pins:=pins) s2 σ H2 x y v u Q I2 rx ry q)
theorem HW {op:UnaryOp} {r:V->Hp->VK->Prop} (ho:UnR X (unaryOp op) r) (ha:PE X a ta):PE X (.UnaryOp op a pos) (tUn r ta):=by
 intro pins s σ H Q I h;exact UnaryOp_ (Bj (ha (pins:=pins) s σ H _ I h) fun v s1 ⟨x,H1,I1,r1,q1⟩=>ho (pins:=pins) s1 σ H1 x v Q I1 r1 q1)
theorem opI {f:Value->Value->Sem Value} {C:Int->Int->Prop} {g:Int->Int->Int}
  (rule:∀ (i j:Int) (t u:Tok) (s:Shared) (Q:Value->Shared->Prop) (E:Value->Shared->Prop),C i j->Q (.int (g i j) s.toks) { s with toks:=s.toks + 1 }->wpAny (model X.prog X.w) X.A (f (.int i t) (.int j u)) Q E s) :
  Ex X f (rI C fun i j=>.int (g i j)):=by
 intro pins s σ H x y v u Q I rx ry h;obtain ⟨i,j,rfl,rfl,hc,q⟩:=h;obtain ⟨t,rfl⟩:=rx;obtain ⟨t',rfl⟩:=ry;exact rule i j t t' s _ _ hc ⟨.int (g i j),H,I.tok _,⟨_,rfl⟩,q⟩
theorem opI0 {f:Value->Value->Sem Value} {g:Int->Int->Int}
  (rule:∀ (i j:Int) (t u:Tok) (s:Shared) (Q:Value->Shared->Prop) (E:Value->Shared->Prop),Q (.int (g i j) s.toks) { s with toks:=s.toks + 1 }->wpAny (model X.prog X.w) X.A (f (.int i t) (.int j u)) Q E s) :
  Ex X f (MR fun i j=>.int (g i j)):=by
 intro pins s σ H x y v u Q I rx ry h;obtain ⟨i,j,rfl,rfl,q⟩:=h;obtain ⟨t,rfl⟩:=rx;obtain ⟨t',rfl⟩:=ry;exact rule i j t t' s _ _ ⟨.int (g i j),H,I.tok _,⟨_,rfl⟩,q⟩
theorem MY {f:Value->Value->Sem Value} {g:Int->Int->Bool}
  (rule:∀ (i j:Int) (t u:Tok) (s:Shared) (Q:Value->Shared->Prop) (E:Value->Shared->Prop),Q (.bool (g i j)) s->wpAny (model X.prog X.w) X.A (f (.int i t) (.int j u)) Q E s) :
  Ex X f (MR fun i j=>.bl (g i j)):=by
 intro pins s σ H x y v u Q I rx ry h;obtain ⟨i,j,rfl,rfl,q⟩:=h;obtain ⟨t,rfl⟩:=rx;obtain ⟨t',rfl⟩:=ry;exact rule i j t t' s _ _ ⟨.bl (g i j),H,I,rfl,q⟩
def CDiv (i j:Int):Prop:=0 < j/\j < 1073741824
def CPow (i j:Int):Prop:=0<=j/\j<=1000000/\i.natAbs < 2 ^ 64
def NQ (i j:Int):Prop:=(-(2 ^ 64) < i/\i < 2 ^ 64)\/(-(2 ^ 64) < j/\j < 2 ^ 64)
theorem NQ.ok {i j:Int} (h:NQ i j):IntMulOk i j:=by
 rcases h with ⟨h1,h2⟩ | ⟨h1,h2⟩
 ·exact .of_left (intBits_le_64 h1 h2)
 ·exact .of_right (intBits_le_64 h1 h2)
theorem Ba:Ex X (binaryOp .Add) (MR fun i j=>.int (i + j)):=opI0 fun _ _ _ _ _ _ _ q=>add_int q
theorem D9:Ex X (binaryOp .Sub) (MR fun i j=>.int (i - j)):=opI0 fun _ _ _ _ _ _ _ q=>sub_int q
theorem E5:Ex X (binaryOp .Mult) (rI NQ fun i j=>.int (i * j)):=opI fun _ _ _ _ _ _ _ hc q=>mul_int q hc.ok
theorem Es:Ex X (binaryOp .FloorDiv) (rI CDiv fun i j=>.int (i / j)):=opI fun i j _ _ _ _ _ hc q=>by
 have h1:(0:Int) < j:=hc.1;have h2:j < 1073741824:=hc.2;exact floordiv_int (by lia) (by rw [Int.fdiv_eq_ediv_of_nonneg i (by lia)]; exact q) (.inl (PyProof.noPylong_small (by lia)))
theorem BL:Ex X (binaryOp .Mod) (rI (fun _ j=>0 < j) fun i j=>.int (i % j)):=opI fun i j _ _ _ _ _ hc q=>by
 have h1:(0:Int) < j:=hc;exact mod_int' (by lia) (by rw [Int.fmod_eq_emod_of_nonneg i (by lia)]; exact q)
theorem Hi:Ex X (binaryOp .Pow) (rI CPow fun i j=>.int (i ^ j.toNat)):=opI fun _ _ _ _ _ _ _ hc q=>pow_int_small hc.1 hc.2.1 hc.2.2 q
theorem unI {f:Value->Sem Value} {g:Int->Int}
  (rule:∀ (i:Int) (t:Tok) (s:Shared) (Q:Value->Shared->Prop) (E:Value->Shared->Prop),Q (.int (g i) s.toks) { s with toks:=s.toks + 1 }->wpAny (model X.prog X.w) X.A (f (.int i t)) Q E s) :
  UnR X f (rU fun i=>.int (g i)):=by
 intro pins s σ H x v Q I rx h;obtain ⟨i,rfl,q⟩:=h;obtain ⟨t,rfl⟩:=rx;exact rule i t s _ _ ⟨.int (g i),H,I.tok _,⟨_,rfl⟩,q⟩
theorem FA:UnR X (unaryOp .USub) (rU fun i=>.int (-i)):=unI fun _ _ _ _ _ q=>neg_int q
end
def scal:V->V->Bool
 | .non,.non=>true | .non,.int _=>true | .int _,.non=>true | .non,.bl _=>true | .bl _,.non=>true | .non,.str _=>true | .str _,.non=>true
 | .int _,.int _=>true | .bl _,.bl _=>true | .str _,.str _=>true | .byt _,.byt _=>true
 | .int _,.str _=>true | .str _,.int _=>true | .bl _,.str _=>true | .str _,.bl _=>true
 | _,_=>false
def rEq:R2:=fun x y H Q=>scal x y=true/\Q (.bl (decide (x=y))) H
def rNe:R2:=fun x y H Q=>scal x y=true/\Q (.bl (!decide (x=y))) H
theorem Iy {i j:Int}:decide (V.int i=V.int j)=(i == j):=by
 rw [Rz];simp
theorem KQ {i j:Bool}:decide (V.bl i=V.bl j)=(i == j):=by
 rw [Rz];simp
theorem Iw {i j:Str}:decide (V.str i=V.str j)=(i == j):=by
 rw [Rz];simp
theorem Iz {i j:Array UInt8}:decide (V.byt i=V.byt j)=(i.toList == j.toList):=by
 rw [Rz];cases i
 cases j
 simp
section
variable {X:Cx} {a b c:Expr} {ta tb tc:TE} {pos:Pos}
theorem A3 {pins:List (Addr × Obj)} {σ:St} {H:Hp} {s:Shared} {Q:VK} {k k':Bool} (I:Ak X pins σ H s) (q:Q (.bl k) H) (e:k=k'):EP X pins σ Q (.bool k') s:=by
 subst e;exact ⟨.bl k,H,I,rfl,q⟩
theorem G1:Ex X (compareOp .Eq) rEq:=by
 intro pins s σ H x y v u Q I rx ry h;obtain ⟨hs,q⟩:=h;cases x with
 | non=>
  cases rx
  cases y with
  | non=>cases ry; exact PySem.EqNone.eq_none_none (A3 I q (by simp))
  | bl j=>cases ry; exact PySem.EqNone.eq_none_bool (A3 I q (by simp))
  | int j=>obtain ⟨t',rfl⟩:=ry; exact PySem.EqNone.eq_none_int (A3 I q (by simp))
  | str j=>obtain ⟨t',rfl⟩:=ry; exact PySem.EqNone.eq_none_str (A3 I q (by simp))
  | _=>exact absurd (show false=true from hs) Qr
 | bl i=>
  cases rx
  cases y with
  | non=>cases ry; exact PySem.EqNone.eq_bool_none (A3 I q (by simp))
  | bl j=>cases ry; exact eq_bool (A3 I q KQ)
  | str j=>obtain ⟨t',rfl⟩:=ry; exact PySem.EqMixed.eq_bool_str (A3 I q (by simp))
  | _=>exact absurd (show false=true from hs) Qr
 | int i=>
  obtain ⟨t,rfl⟩:=rx;cases y with
  | non=>cases ry; exact PySem.EqNone.eq_int_none (A3 I q (by simp))
  | int j=>obtain ⟨t',rfl⟩:=ry; exact eq_int (A3 I q Iy)
  | str j=>obtain ⟨t',rfl⟩:=ry; exact PySem.EqMixed.eq_int_str (A3 I q (by simp))
  | _=>exact absurd (show false=true from hs) Qr
 | str i=>
  obtain ⟨t,rfl⟩:=rx;cases y with
  | non=>cases ry; exact PySem.EqNone.eq_str_none (A3 I q (by simp))
  | bl j=>cases ry; exact PySem.EqMixed.eq_str_bool (A3 I q (by simp))
  | int j=>obtain ⟨t',rfl⟩:=ry; exact PySem.EqMixed.eq_str_int (A3 I q (by simp))
  | str j=>obtain ⟨t',rfl⟩:=ry; exact eq_str (A3 I q Iw)
  | _=>exact absurd (show false=true from hs) Qr
 | byt i=>
  obtain ⟨t,rfl⟩:=rx;cases y with
  | byt j=>obtain ⟨t',rfl⟩:=ry; exact PySem.W.eq_bytes (A3 I q Iz)
  | _=>exact absurd (show false=true from hs) Qr
 | _=>cases y <;> exact absurd (show false=true from hs) Qr
theorem Mt:Ex X (compareOp .NotEq) rNe:=by
 intro pins s σ H x y v u Q I rx ry h;obtain ⟨hs,q⟩:=h;cases x with
 | non=>
  cases rx
  cases y with
  | non=>cases ry; exact PySem.EqNone.ne_none_none (A3 I q (by simp))
  | bl j=>cases ry; exact PySem.EqNone.ne_none_bool (A3 I q (by simp))
  | int j=>obtain ⟨t',rfl⟩:=ry; exact PySem.EqNone.ne_none_int (A3 I q (by simp))
  | str j=>obtain ⟨t',rfl⟩:=ry; exact PySem.EqNone.ne_none_str (A3 I q (by simp))
  | _=>exact absurd (show false=true from hs) Qr
 | bl i=>
  cases rx
  cases y with
  | non=>cases ry; exact PySem.EqNone.ne_bool_none (A3 I q (by simp))
  | bl j=>cases ry; exact ne_bool (A3 I q (congrArg not KQ))
  | str j=>obtain ⟨t',rfl⟩:=ry; exact PySem.EqMixed.ne_bool_str (A3 I q (by simp))
  | _=>exact absurd (show false=true from hs) Qr
 | int i=>
  obtain ⟨t,rfl⟩:=rx;cases y with
  | non=>cases ry; exact PySem.EqNone.ne_int_none (A3 I q (by simp))
  | int j=>obtain ⟨t',rfl⟩:=ry; exact ne_int (A3 I q (congrArg not Iy))
  | str j=>obtain ⟨t',rfl⟩:=ry; exact PySem.EqMixed.ne_int_str (A3 I q (by simp))
  | _=>exact absurd (show false=true from hs) Qr
 | str i=>
  obtain ⟨t,rfl⟩:=rx;cases y with
  | non=>cases ry; exact PySem.EqNone.ne_str_none (A3 I q (by simp))
  | bl j=>cases ry; exact PySem.EqMixed.ne_str_bool (A3 I q (by simp))
  | int j=>obtain ⟨t',rfl⟩:=ry; exact PySem.EqMixed.ne_str_int (A3 I q (by simp))
  | str j=>obtain ⟨t',rfl⟩:=ry; exact ne_str (A3 I q (congrArg not Iw))
  | _=>exact absurd (show false=true from hs) Qr
 | byt i=>
  obtain ⟨t,rfl⟩:=rx;cases y with
  | byt j=>obtain ⟨t',rfl⟩:=ry; exact PySem.W.ne_bytes (A3 I q (congrArg not Iz))
  | _=>exact absurd (show false=true from hs) Qr
 | _=>cases y <;> exact absurd (show false=true from hs) Qr
theorem HZ:Ex X (compareOp .Lt) (MR fun i j=>.bl (decide (i < j))):=MY fun _ _ _ _ _ _ _ q=>lt_int q
theorem G0:Ex X (compareOp .Gt) (MR fun i j=>.bl (decide (j < i))):=MY fun _ _ _ _ _ _ _ q=>gt_int q
theorem op_ge:Ex X (compareOp .GtE) (MR fun i j=>.bl (decide (j<=i))):=MY fun _ _ _ _ _ _ _ q=>ge_int q
theorem AL (b:Expr) {op:CmpOp} (h:op ≠ .In:=by decide) (h2:op ≠ .NotIn:=by decide):behindInMarks op b=false:=by
 have e1:(op == CmpOp.In)=false:=by cases op <;> first | rfl | exact absurd rfl h
 have e2:(op == CmpOp.NotIn)=false:=by cases op <;> first | rfl | exact absurd rfl h2
 cases b <;> simp [behindInMarks,e1,e2]
theorem L3 {op:CmpOp} {r:R2} (ho:Ex X (compareOp op) r) (ha:PE X a ta) (hb:PE X b tb) (hm:behindInMarks op b=false):PE X (.Compare a [op] [b] pos) (tOp r ta tb):=by
 intro pins s σ H Q I h;exact wpAny_Compare1 (NG ha hb I h fun v u s2 x y H2 I2 rx ry q=>ho (pins:=pins) s2 σ H2 x y v u Q I2 rx ry q) hm
def tTest (t:TE):TT:=fun σ H Q=>t σ H fun x H'=>∃ k,x=.bl k/\Q k H'
theorem A1 {op:CmpOp} {r:R2} (ho:Ex X (compareOp op) r) (ha:PE X a ta) (hb:PE X b tb) (hm:behindInMarks op b=false):PT X (.Compare a [op] [b] pos) (tTest (tOp r ta tb)):=by
 intro pins s σ H Q I h;refine wpAny_isTrue_Compare1 (Bj (ha (pins:=pins) s σ H _ I h) fun v s1 ⟨x,H1,I1,r1,q1⟩=>Bj (hb (pins:=pins) s1 σ H1 _ I1 q1) fun u s2 ⟨y,H2,I2,r2,q2⟩=>
  Bj (ho (pins:=pins) s2 σ H2 x y v u _ I2 r1 r2 q2) fun c s3 ⟨z,H3,I3,r3,k,e,q3⟩=>?_) hm
 subst e;cases r3
 exact wpAny_truthy_bool ⟨H3,I3,q3⟩
def TruV (K:Qj) (x:V) (H:Hp) (k:Bool):Prop:=
 match x with
 | .non=>k=false
 | .bl b=>k=b
 | .int i=>k=(i != 0)
 | .str y=>y.length<=sizeLine/\k=((y.length:Int) != 0)
 | .byt y=>y.size<=sizeLine/\k=((y.size:Int) != 0)
 | .ref p=>(∃ xs,A6 K H p xs/\k = !xs.isEmpty)\/(∃ xs,BY K H p xs/\k = !xs.isEmpty)\/∃ kvs,H p=some (.dK kvs)/\k = !kvs.isEmpty
 | _=>False
theorem Hq {κ:Type} {kvs:List (κ × V)} {vs:List (κ × Value)} (r:KV kvs vs):(!vs.isEmpty) = !kvs.isEmpty:=by
 cases r <;> rfl
theorem EI {xs:List V} {Ar:List Value} (r:A4 xs Ar):(!Ar.toArray.isEmpty) = !xs.isEmpty:=by
 cases r <;> simp
theorem DG:(sizeLine:Nat) < 2 ^ 63:=by rw [sizeLine_eq]; decide
theorem MF:TruR X (fun x H Q=>∃ k,TruV X.K x H k/\Q k H):=by
 intro pins s σ H x v Q I rx h;obtain ⟨k,e,q⟩:=h;have hl:=DG;have hs:sizeLine=16777216:=sizeLine_eq;cases x with
 | non=>
  cases rx
  have e':k=false:=e;subst e';exact truthy_none ⟨H,I,q⟩
 | bl b=>
  cases rx
  have e':k=b:=e;subst e';exact wpAny_truthy_bool ⟨H,I,q⟩
 | int i=>
  obtain ⟨t,rfl⟩:=rx;have e':k=(i != 0):=e;subst e';exact PySem.P.truthy_int ⟨H,I,q⟩
 | str y=>
  obtain ⟨t,rfl⟩:=rx;obtain ⟨hy,e'⟩:y.length<=sizeLine/\k=((y.length:Int) != 0):=e;subst e';exact PySem.P.truthy_str (by lia) ⟨H,I.tok _,q⟩
 | byt y=>
  obtain ⟨t,rfl⟩:=rx;obtain ⟨hy,e'⟩:y.size<=sizeLine/\k=((y.size:Int) != 0):=e;subst e';exact PySem.W.truthy_bytes (by lia) ⟨H,I.tok _,q⟩
 | ref p=>
  cases rx
  have e':(∃ xs,A6 X.K H p xs/\k = !xs.isEmpty)\/(∃ xs,BY X.K H p xs/\k = !xs.isEmpty)\/∃ kvs,H p=some (.dK kvs)/\k = !kvs.isEmpty:=e;rcases e' with ⟨xs,hx,e'⟩ | ⟨xs,hx,e'⟩ | ⟨kvs,hx,e'⟩
  ·subst e';obtain ⟨Ar,r,pl,hz⟩:=I.list hx;have hlen:=r.length;exact wpAny_truthy_list pl.isList (by simp only [Q9]; lia) ⟨H,I.tok _,by rw [EI r]; exact q⟩
  ·subst e';obtain ⟨Ar,r,pl,hz⟩:=I.tuple hx;have hlen:=r.length;exact truthy_tuple pl (by simp only [Q9]; lia) ⟨H,I.tok _,by rw [EI r]; exact q⟩
  ·subst e';obtain ⟨hz,hS,vs,r,m⟩:kvs.length<=sizeLine/\(p == sysModules)=false/\∃ vs,KV kvs vs/\s.heap.DictOf (AD X.prog X.w) p vs:=I.hok p _ hx;have hlen:kvs.length=vs.length:=Paired.length r;exact wpAny_truthy_dict hS m (by lia) ⟨H,I.tok _,by rw [Hq r]; exact q⟩
 | _=>exact (show False from e).elim
theorem Kb (ha:PE X a ta) (he:∀ whole,isTrue a X.env whole=(do let v <- whole; standAt a.pos; holding [v] (truthy v))) :
  PT X a (fun σ H Q=>ta σ H fun x H'=>∃ k,TruV X.K x H' k/\Q k H'):=by
 intro pins s σ H Q I h;exact isTrue_plain (Bj (ha (pins:=pins) s σ H _ I h) fun v s1 ⟨x,H1,I1,r1,q1⟩=>MF (pins:=pins) s1 σ H1 x v Q I1 r1 q1) (he _)
theorem E6:Ex X (binaryOp .Add) (fun x y H Q=>∃ i j,x=.str i/\y=.str j/\i.length + j.length<=sizeLine/\Q (.str (i ++ j)) H):=by
 intro pins s σ H x y v u Q I rx ry h;obtain ⟨i,j,rfl,rfl,hz,q⟩:=h;obtain ⟨t,rfl⟩:=rx;obtain ⟨t',rfl⟩:=ry;exact add_str (fun t' tk=>⟨.str (i ++ j),H,I.tok _,⟨_,rfl⟩,q⟩) hz
theorem Ce {x:V} {us:List Value} (r:A4 [x] us):∃ u,us=[u]/\As x u:=by
 cases r with
 | cons r1 r2=>cases r2; exact ⟨_,rfl,r1⟩
theorem HI {x y:V} {us:List Value} (r:A4 [x,y] us):∃ u w',us=[u,w']/\As x u/\As y w':=by
 cases r with
 | cons r1 r2=>
  cases r2 with
  | cons r3 r4=>cases r4; exact ⟨_,_,rfl,r1,r3⟩
theorem EW:Bp X (.builtin "abs") (fun xs H Q=>∃ i,xs=[.int i]/\Q (.int (if i < 0 then -i else i)) H):=by
 intro pins s σ H xs us Q I r h;obtain ⟨i,rfl,q⟩:=h;obtain ⟨u,rfl,t,rfl⟩:=Ce r;exact call_abs_int fun u tk=>⟨.int (if i < 0 then -i else i),H,I.tok _,⟨_,rfl⟩,q⟩
theorem Jw:Bp X (.type "int") (fun xs H Q=>(∃ i,xs=[.int i]/\Q (.int i) H)\/∃ k,xs=[.bl k]/\Q (.int (if k then 1 else 0)) H):=by
 intro pins s σ H xs us Q I r h;rcases h with ⟨i,rfl,q⟩ | ⟨k,rfl,q⟩
 ·obtain ⟨u,rfl,t,rfl⟩:=Ce r;exact call_int_int ⟨.int i,H,I,⟨_,rfl⟩,q⟩
 ·obtain ⟨u,rfl,r1⟩:=Ce r;cases r1
  exact call_int_bool ⟨.int (if k then 1 else 0),H,I.tok _,⟨_,rfl⟩,q⟩
end
structure NL (h:Heap) (x dx C:Addr) (mA:Str->Option Value):Prop where
 obj:h.get? x=some (RN C dx)
 ns:h.Ns1 dx mA
 ne:dx ≠ x
theorem IX {h:Heap} {dx:Addr} {mA:Str->Option Value} (n:h.Ns1 dx mA):∃ od,h.get? dx=some od/\∀ name,RS name od=some (mA name):=by
 obtain ⟨o,es,ep,ho,hd,hk,_,hm⟩:=n;refine ⟨o,ho,fun name=>?_⟩;have e:=hm name;unfold nsFind findBy at e;rw [<-Array.find?_toList] at e;unfold RS;rw [hd];dsimp only;split
 ·rename_i y q
  rw [q] at e;exact congrArg some e
 ·rename_i q
  rw [q] at e;have a:es.toList.any (·.refKey)=false:=by
   rw [List.any_eq_false];intro y hy;obtain ⟨z,t,hkey⟩:=hk y (Array.mem_toList_iff.mp hy);simp [DictEntry.refKey,hkey]
  have a':¬ es.toList.any (·.refKey)=true:=by rw [a]; exact Qr
  rw [if_neg a'];exact congrArg some e
theorem NL.look {h:Heap} {x dx C:Addr} {mA:Str->Option Value} (I:NL h x dx C mA):∃ od,PySem.W.InstAt h x (RN C dx) C (some od)/\∀ name,RS name od=some (mA name):=
 let ⟨od,ho,hl⟩:=IX I.ns
 ⟨od,⟨I.obj,rfl,rfl,ho⟩,hl⟩
section
variable {prog:Program} {w:World} {A:Around} {E:Value->Shared->Prop} {s:Shared} {K:Qj} {x dx C f:Addr} {mA:Str->Option Value} {name:Str} {v:Value}
end
theorem DR.some_of {v:V} {o:Option Value} (r:DR (some v) o):∃ u,o=some u/\As v u:=by
 cases o with
 | none=>exact (show False from r).elim
 | some u=>exact ⟨u,rfl,r⟩
section
variable {P:Program} {w:World} {H H':Hp} {h h':Heap} {a C dx:Addr} {fs fs':List (Str × V)}
theorem LO (hok:Dk P w H h) (e:H a=some (.ins C dx fs)):∃ mA,NL h a dx C mA/\(∀ f,DR (fs.lookup f) (mA f))/\PySem.Within mA (fs.map (·.1))/\fs.length<=1000/\H dx=some (.own a):=by
 obtain ⟨d,z,ne,ob,mA,n,r,q⟩:=(show Ax P w H h a (.ins C dx fs) from hok a _ e)
 exact ⟨mA,⟨ob,n,ne⟩,r,q,z,d⟩
end
structure Cls (K:Qj) (C:Addr):Prop where
 pg:Ss K C Str.empty=true
 hd:PySem.W.hasDictIn K C=true
 po:PySem.W.plainOver K C=true
 sa:S0 K (.ref C) "__setattr__"=some (some (.builtin "object.__setattr__"))
theorem Cls.get {K:Qj} {C:Addr} (c:Cls K C) (f:Str):Ss K C f=true:=c.pg
section
variable {X:Cx} {pins:List (Addr × Obj)} {σ:St} {H:Hp} {s:Shared} {a C dx:Addr} {fs:List (Str × V)} {f:Str} {v:V} {A:Around} {E:Value->Shared->Prop}
end
section
variable {X:Cx} {o e value:Expr} {f:Str} {pos pos' tpos:Pos} {ta tv:TE}
end
section
variable {X:Cx} {pins:List (Addr × Obj)} {σ:St} {H:Hp} {s:Shared} {A:Around} {E:Value->Shared->Prop} {Q:Value->Shared->Prop} {c:Value} {b:Bool}
inductive DP (K:Qj) (H:Hp):V->Value->Prop where
 | non:DP K H .non (.type "NoneType")
 | bl (x:Bool):DP K H (.bl x) (.type "bool")
 | int (i:Int):DP K H (.int i) (.type "int")
 | str (x:Str):DP K H (.str x) (.type "str")
 | flt (x:UInt64):DP K H (.flt x) (.type "float")
 | lst {a:Addr} {xs:List V} (e:H a=some (.lst xs)):DP K H (.ref a) (.type "list")
 | frz {a:Addr} {o:Obj} {xs:List V} (e:H a=some (.frz o (.lst xs))):DP K H (.ref a) (.type "list")
 | tup {a:Addr} {xs:List V} (e:H a=some (.tup xs)):DP K H (.ref a) (.type "tuple")
 | dK {a:Addr} {kvs:List (A5 × V)} (e:H a=some (.dK kvs)):DP K H (.ref a) (.type "dict")
 | dT {a:Addr} {kvs:List (List A5 × V)} (e:H a=some (.dT kvs)):DP K H (.ref a) (.type "dict")
 | ins {a C dx:Addr} {fs:List (Str × V)} (e:H a=some (.ins C dx fs)) (cl:Cls K C) (ha:S0 K (.ref C) "__class__"=some (some (.builtin "object.__class__")))
   (hn:PySem.W.specialIn K (.builtin "object.__class__") "__get__"=some (some (.builtin "getset_descriptor.__get__"))) (htk:PySem.W.takesIn K (.builtin "object.__class__")=some true)
   (hm:PySem.W.mroIn K C (.type "object")=some true):DP K H (.ref a) (.ref C)
theorem Jc {x:V} {u t:Value} (I:Ak X pins σ H s) (rx:As x u) (ty:DP X.K H x t) (e:S1 X.K t c=some b) (h:∀ tk,Q (.bool b) { s with toks:=tk }) :
  wpAny (model X.prog X.w) A (call (.builtin "isinstance") [u,c]) Q E s:=by
 cases ty with
 | non=>cases (show u=Value.none from rx); exact QU PySem.W.kitx_none I.kIn True.intro e (fun z=>nomatch z) h
 | bl y=>cases (show u=Value.bool y from rx); exact QU PySem.W.kitx_bool I.kIn True.intro e (fun z=>nomatch z) h
 | int i=>obtain ⟨t,q⟩:=(show ∃ t,u=Value.int i t from rx); cases q; exact QU PySem.W.kitx_int I.kIn True.intro e (fun z=>nomatch z) h
 | str y=>obtain ⟨t,q⟩:=(show ∃ t,u=Value.str y t from rx); cases q; exact QU PySem.W.kitx_str I.kIn True.intro e (fun z=>nomatch z) h
 | flt y=>obtain ⟨t,q⟩:=(show ∃ t,u=Value.float y t from rx); cases q; exact QU PySem.W.kitx_float I.kIn True.intro e (fun z=>nomatch z) h
 | @lst a xs ea=>
  cases (show u=Value.ref a from rx)
  obtain ⟨_,_,n,_,h1⟩:=(show Ax X.prog X.w H s.heap a (.lst xs) from I.hok a _ ea)
  exact QU So I.kIn ⟨_,h1,rfl⟩ e (fun z=>nomatch z) h
 | @frz a ob xs ea=>
  cases (show u=Value.ref a from rx)
  obtain ⟨_,_,_,n,_,h1⟩:=(show Ax X.prog X.w H s.heap a (.frz ob (.lst xs)) from I.hok a _ ea)
  exact QU So I.kIn ⟨_,h1,rfl⟩ e (fun z=>nomatch z) h
 | @tup a xs ea=>
  cases (show u=Value.ref a from rx)
  obtain ⟨_,_,_,p,_⟩:=(show Ax X.prog X.w H s.heap a (.tup xs) from I.hok a _ ea)
  obtain ⟨o,h1,h2,_⟩:=p;exact QU PySem.W.kitx_tuple I.kIn ⟨o,h1,h2⟩ e (fun z=>nomatch z) h
 | @dK a kvs ea=>
  cases (show u=Value.ref a from rx)
  obtain ⟨_,_,vs,_,p⟩:=(show Ax X.prog X.w H s.heap a (.dK kvs) from I.hok a _ ea)
  obtain ⟨o,es,ep,h1,h2,_⟩:=p;exact QU Sq I.kIn ⟨o,h1,h2.1⟩ e (fun z=>nomatch z) h
 | @dT a kvs ea=>
  cases (show u=Value.ref a from rx)
  obtain ⟨_,_,xs,_,o,es,ep,h1,h2,_⟩:=(show Ax X.prog X.w H s.heap a (.dT kvs) from I.hok a _ ea)
  exact QU Sq I.kIn ⟨o,h1,h2.1⟩ e (fun z=>nomatch z) h
 | @ins a C dx fs ea cl ha hn htk hm=>
  cases (show u=Value.ref a from rx)
  obtain ⟨mA,O,_⟩:=LO I.hok ea;obtain ⟨od,J,_⟩:=O.look;exact QU (PySem.W.kitx_own (cl.get _) cl.hd ha hn htk hm) I.kIn J e (fun z=>nomatch z) h
end
structure BM (k:Nat) (A:Around):Prop where
 hd:A.handled=none
 dp:A.depth + 3 * k + 5 < recursionLimit
 un:A.units + 16 * k + 200 < cLine
 gd:A.guards=some []:=by rfl
theorem BM.mono {j k:Nat} {A:Around} (r:BM k A) (h:j<=k):BM j A:=⟨r.hd,by have:=r.dp; lia,by have:=r.un; lia,r.gd⟩
theorem BM.deeper {k:Nat} {A:Around} (r:BM (k + 1) A) (env:Env):BM k (A.deeper env):=
 ⟨r.hd,by have:=r.dp; show A.depth + 1 + 3 * k + 5 < _; lia,by have:=r.un; show A.units + 3 + 16 * k + 200 < _; lia,r.gd⟩
theorem BM.depth {k:Nat} {A:Around} (r:BM k A):A.depth < recursionLimit:=by have:=r.dp; lia
theorem BM.units {k:Nat} {A:Around} (r:BM k A):A.units + 64 < cLine:=by have:=r.un; lia
def tNil:TA:=fun _ H Q=>Q [] H
def tCons (ta:TE) (tr:TA):TA:=fun σ H Q=>ta σ H fun x H1=>tr σ H1 fun xs H2=>Q (x :: xs) H2
section
variable {X:Cx} {e:Expr} {es:List Expr} {te:TE} {t:TA} {pos:Pos}
theorem Ae:PA X [] tNil:=fun _ _ _ _ H Q I h=>Calls.spliced_nil ⟨[],H,I,.nil,h⟩
theorem Aa (ha:PE X e te) (hr:PA X es t) (hs:starEach (e :: es) X.env=(false,eval e X.env) :: starEach es X.env:=by rfl):PA X (e :: es) (tCons te t):=by
 intro pos pins s σ H Q I h;rw [hs];show wpAny _ _ (spliced ((false,eval e X.env) :: backTo pos (starEach es X.env))) _ _ s
 refine Calls.spliced_cons (Bj (ha (pins:=pins) s σ H _ I h) fun u s1 ⟨x,H1,I1,r1,q1⟩=>?_);exact Bj (hr (pos:=pos) (pins:=pins) s1 σ H1 _ I1 q1) fun us s2 ⟨xs,H2,I2,r2,q2⟩=>⟨x :: xs,H2,I2,.cons r1 r2,q2⟩
def tTup (t:TA):TE:=fun σ H Q=>t σ H fun xs H1=>xs.length<=sizeLine/\∀ p,H1 p=none->Q (.ref p) (upd H1 p (.tup xs))
def tLst (t:TA):TE:=fun σ H Q=>t σ H fun xs H1=>xs.length<=sizeLine/\∀ p,H1 p=none->Q (.ref p) (upd H1 p (.lst xs))
theorem A9 {x1} (h:PA X es t):PE X (.Tuple es x1 pos) (tTup t):=by
 intro pins s σ H Q I hq;refine wpAny_Tuple_spliced (Bj (h (pos:=pos) (pins:=pins) s σ H _ I hq) fun us s1 ⟨xs,H1,I1,r,z,q⟩=>⟨by rw [<-r.length]; exact z,?_⟩);have hf:H1 s1.heap.objs.size=none:=I1.hok.fresh (Qo _);refine ⟨.ref s1.heap.objs.size,upd H1 s1.heap.objs.size (.tup xs),I1.laid (t':=s1.toks) (fun b u e=>Ql _ e) (Qo _) ?_,rfl,q _ hf⟩;exact ⟨z,us,r,⟨_,Q4 _ rfl,rfl,_,rfl⟩,KZ.new rfl rfl⟩
theorem Bs (h:PA X es t):PE X (.List es pos) (tLst t):=by
 intro pins s σ H Q I hq;refine wpAny_List_spliced (Bj (h (pos:=pos) (pins:=pins) s σ H _ I hq) fun us s1 ⟨xs,H1,I1,r,z,q⟩=>⟨by rw [<-r.length]; exact z,?_⟩);have hf:H1 s1.heap.objs.size=none:=I1.hok.fresh (Qo _);refine ⟨.ref s1.heap.objs.size,upd H1 s1.heap.objs.size (.lst xs),I1.laid (t':=s1.toks) (fun b u e=>Ql _ e) (Qo _) ?_,rfl,q _ hf⟩;exact ⟨z,us,0,r,Q4 _ rfl⟩
end
abbrev Sp:=List V->Hp->VK->XK->Prop
abbrev Lb:=List Env->Hp->Shared->XK->Value->Shared->Prop
structure Mj (P:Program) (w:World) (K:Qj) (mg:Str->Option Value) (base:Heap) (A:Around) (outer:List Env) (s:Shared) (H:Hp):Prop where
 frames:A.frames=some outer
 mod:Mod K mg base
 bs:∀ b o,base.get? b=some o->s.heap.get? b=some o/\H b=none
 bsz:base.objs.size<=s.heap.objs.size
 funs:s.heap.FunFrames base outer
 frf:∀ b ∈ KG outer,H b=none
 hok:Dk P w H s.heap
 bare:AllBare s.gens
def CE (outer:List Env) (P:Program) (w:World) (H:Hp) (s:Shared) (Q:VK) (u:Value) (s':Shared):Prop:=
 ∃ v H',s'.os=s.os/\AllBare s'.gens/\Un (KG outer) [] H H' s.heap s'.heap/\Dk P w H' s'.heap/\As v u/\Q v H'
def CR (CX:Lb) (outer:List Env) (P:Program) (w:World) (H:Hp) (s:Shared) (Q:VK) (E:XK) (r:Result) (s':Shared):Prop:=
 match r with
 | .ok (.ret u)=>CE outer P w H s Q u s'
 | .ok _=>False
 | .error e=>CX outer H s E e s'
structure AJ (P:Program) (w:World) (K:Qj) (mg:Str->Option Value) (base:Heap) (CX:Lb) (k:Nat) (f:Addr) (fd:FuncData) (ps:List Str) (sp:Sp):Prop where
 len:∀ vs H Q E,sp vs H Q E->vs.length=ps.length
 run:∀ (A:Around) (outer:List Env) (s:Shared) (H:Hp) (args:Args) (us:List Value) (vs:List V) (Q:VK) (E:XK),BM k A->Mj P w K mg base A outer s H->BindsTo s fd args (ps.zip us)->A4 vs us->sp vs H Q E ->
  codeAny (model P w) A (.call (.ref f) args) (CR CX outer P w H s Q E) s
section
variable {X:Cx} {pins:List (Addr × Obj)} {σ:St} {H:Hp} {s s':Shared}
theorem Ak.env0 (I:Ak X pins σ H s):Mj X.prog X.w X.K X.mg X.base X.A X.stack s H:=
 ⟨I.ok.frames,I.ok.mod,I.bs,QE I.ok.bsz I.sz,I.stack,I.stkFree,I.hok,I.bare⟩
theorem Ak.after {Q:VK} {u:Value} (I:Ak X pins σ H s) (h:CE X.stack X.prog X.w H s Q u s'):EP X pins σ Q u s':=by
 obtain ⟨v,H',os,bare,un,hok,r,q⟩:=h;obtain ⟨hh,g,d,t,os'⟩:=s';obtain rfl:os'=s.os:=os;exact ⟨v,H',I.call (h':=hh) (g':=g) (d':=d) (t':=t) (ch:=[]) un hok bare (fun b z=>absurd z (by simp)),r,q⟩
end
def tCall (sp:Sp) (dvs:List V) (E:XK) (t:TA):TE:=fun σ H Q=>t σ H fun vs H1=>sp (vs ++ dvs) H1 Q E
def C9 (K:Qj) (fd:FuncData) (ps:List Str) (ds:List Value):Prop:=
 ∀ (s:Shared) (us:List Value),K.In s.heap->(us ++ ds).length=ps.length->BindsTo s fd ⟨us,[]⟩ (ps.zip (us ++ ds))
theorem C9.all {K:Qj} {fd:FuncData} {ps:List Str} (h:∀ us:List Value,us.length=ps.length->bindArgs fd ⟨us,[]⟩=pure (ps.zip us)):C9 K fd ps []:=fun s us _ hl=>by
 rw [List.append_nil] at hl ⊢;exact .of_eq (h us hl)
def HF (CX:Lb) (X:Cx) (E:XK):Prop:=∀ (pins:List (Addr × Obj)) (σ:St) (H:Hp) (s:Shared) (e:Value) (s':Shared),Ak X pins σ H s->CX X.stack H s E e s'->X.xe e s'
section
variable {X:Cx} {CX:Lb} {k:Nat} {f C:Addr} {fd:FuncData} {ps:List Str} {sp:Sp} {dvs:List V} {ds:List Value} {E:XK} {x m:Str} {p pos apos:Pos} {e o:Expr} {es:List Expr} {ta:TE} {t:TA}
theorem MP {pins:List (Addr × Obj)} {σ:St} {H:Hp} {s:Shared} {Q:VK} {us:List Value} {vs:List V} (F:AJ X.prog X.w X.K X.mg X.base CX k f fd ps sp) (hr:BM k X.A) (hb:C9 X.K fd ps ds) (hd:A4 dvs ds) (hx:HF CX X E)
  (I:Ak X pins σ H s) (r:A4 vs us) (h:sp (vs ++ dvs) H Q E):wpAny (model X.prog X.w) X.A (call (.ref f) us) (EP X pins σ Q) X.xe s:=by
 have r2:A4 (vs ++ dvs) (us ++ ds):=r.append hd;have hl:(us ++ ds).length=ps.length:=by rw [<-r2.length]; exact F.len _ _ _ _ h
 refine wpAny_call (codeAny_mono (F.run X.A X.stack s H ⟨us,[]⟩ (us ++ ds) (vs ++ dvs) Q E hr I.env0 (hb s us I.kIn hl) r2 h) fun r s' hq=>?_);cases r with
 | error e=>exact hx pins σ H s e s' I hq
 | ok fl=>
  cases fl with
  | ret u=>exact I.after hq
  | next=>exact False.elim hq
  | brk=>exact False.elim hq
  | cont=>exact False.elim hq
theorem Ao (F:AJ X.prog X.w X.K X.mg X.base CX k f fd ps sp) (hr:BM k X.A) (hg:Gl X x) (hm:X.mg x=some (.ref f)) (hk:R8 X.K (.ref f)=true) (hb:C9 X.K fd ps ds) (hd:A4 dvs ds) (hx:HF CX X E)
  (ha:PA X (e :: es) t) (hdb:(x == ("__debug__":Str))=false:=by decide) (he:starEach (e :: es) X.env=(false,eval e X.env) :: starEach es X.env:=by rfl) (hpl:(backTo pos (starEach es X.env)).any (·.1)=false:=by rfl) :
  PE X (.Call (.Name x p) (e :: es) [] pos) (tCall sp dvs E t):=by
 intro pins s σ H Q I h;refine wpAny_Call_Name_kw (LL I hg hm ?_ hdb);refine PySem.W.callWith_K (h₀:=X.base) I.ok.mod.kin hk (Bj (ha (pos:=pos) (pins:=pins) s σ H _ I h) fun us s1 ⟨vs,H1,I1,r,q⟩=>⟨I1.kIn,?_⟩) he hpl;exact MP F hr hb hd hx I1 r q
end
section
variable {X:Cx} {CX:Lb} {k:Nat} {f C:Addr} {fd:FuncData} {ps ks:List Str} {sp:Sp} {E:XK} {x m:Str} {p pos apos kpos:Pos} {e o:Expr} {es:List Expr} {kws:List Keyword} {te ta:TE} {t tk:TA} {nm:Option Str}
variable {g:List Value->List Value->List Value} {gV:List V->List V->List V}
end
structure AF (N P:List Str) (sc:Scope):Prop where
 kind:sc.kind=.function
 co:sc.isCoroutine=false
 gen:sc.isGenerator=false
 nd:N.Nodup
 pre:N.take P.length=P
 par:∀ x ∈ P,sc.names.lookup x=some .local\/sc.names.lookup x=some .cell
 nofree:∀ y ∈ sc.names,y.2 ≠ .free
theorem Fz {kindOf:Str->Option NameKind} {x:Str}:∀ {binds:List (Str × Value)} {m:Str->Option Value},(∀ v,(x,v) ∉ binds)->bindL kindOf binds m x=m x
 | [],_,_=>rfl
 | (n,v) :: r,m,h=>by
  unfold bindL;rw [Fz fun w hw=>h w (Q3 _ hw)];split
  ·have:x ≠ n:=by rintro rfl; exact h v Qy
   simp [this]
  ·rfl
theorem F1 {kindOf:Str->Option NameKind} {x:Str}:∀ {binds:List (Str × Value)} {m:Str->Option Value},(∀ v,(x,v) ∉ binds)->bindC kindOf binds m x=m x
 | [],_,_=>rfl
 | (n,v) :: r,m,h=>by
  unfold bindC;rw [F1 fun w hw=>h w (Q3 _ hw)];split
  ·rfl
  ·have:x ≠ n:=by rintro rfl; exact h v Qy
   simp [this]
theorem F0 {kindOf:Str->Option NameKind} {x:Str} {v:Value}:∀ {P:List Str} {vs:List Value} {i:Nat} {m:Str->Option Value},P.Nodup->P[i]? = some x->vs[i]? = some v->kindOf x=some .local ->
  bindL kindOf (P.zip vs) m x=some v
 | [],_,_,_,_,h,_,_=>by simp at h
 | _ :: _,[],_,_,_,_,h,_=>by simp at h
 | p :: P,w :: vs,0,m,nd,h1,h2,hk=>by
  simp at h1 h2; subst h1; subst h2;show bindL kindOf ((p,w) :: P.zip vs) m p=_
  unfold bindL;rw [Fz fun v hv=>(QI.mp nd).1 (RU hv).1,if_pos hk];simp
 | p :: P,w :: vs,i + 1,m,nd,h1,h2,hk=>by
  show bindL kindOf ((p,w) :: P.zip vs) m x=_
  unfold bindL;exact F0 (i:=i) (QI.mp nd).2 (by simpa using h1) (by simpa using h2) hk
theorem F3 {kindOf:Str->Option NameKind} {x:Str} {v:Value}:∀ {P:List Str} {vs:List Value} {i:Nat} {m:Str->Option Value},P.Nodup->P[i]? = some x->vs[i]? = some v->kindOf x ≠ some .local ->
  bindC kindOf (P.zip vs) m x=some v
 | [],_,_,_,_,h,_,_=>by simp at h
 | _ :: _,[],_,_,_,_,h,_=>by simp at h
 | p :: P,w :: vs,0,m,nd,h1,h2,hk=>by
  simp at h1 h2; subst h1; subst h2;show bindC kindOf ((p,w) :: P.zip vs) m p=_
  unfold bindC;rw [F1 fun v hv=>(QI.mp nd).1 (RU hv).1,if_neg hk];simp
 | p :: P,w :: vs,i + 1,m,nd,h1,h2,hk=>by
  show bindC kindOf ((p,w) :: P.zip vs) m x=_
  unfold bindC;exact F3 (i:=i) (QI.mp nd).2 (by simpa using h1) (by simpa using h2) hk
def start (N:List Str) (vs:List V):St:=vs.map some ++ List.replicate (N.length - vs.length) none
def Fh (CX:Lb) (P:Program) (w:World) (K:Qj) (mg:Str->Option Value) (base:Heap) (N:List Str) (qual:Str) (scope:Scope) (f:Addr) (cd:Value) (A:Around) (outer:List Env) (s:Shared) (H:Hp) (E:XK):Cx where
 prog:=P
 w:=w
 K:=K
 mg:=mg
 base:=base
 A:=A.deeper (envOfC qual scope s.heap.objs.size f cd)
 N:=N
 s₀:=s
 H₀:=H
 env:=envOfC qual scope s.heap.objs.size f cd
 outer:=outer
 stack:=envOfC qual scope s.heap.objs.size f cd :: outer
 ex:=[]
 calm:=true
 fn:=fun _=>true
 pn:=[]
 xe:=fun e s'=>wpAny (model P w) (A.deeper (envOfC qual scope s.heap.objs.size f cd)) (leaving (envOfC qual scope s.heap.objs.size f cd) e) (fun _ Pn=>CX outer H s E e Pn) (fun e' Pn=>CX outer H s E e' Pn) s'
theorem GJ {sc:Scope} {n:Nat} {x:Str} (h:sc.names.lookup x=some .cell):∃ c,(cellsFrom n sc.names []).lookup x=some c:=by
 have q:=RX sc.names n [] (.inl h);exact R1.mp q
theorem Jd {CX:Lb} {P:Program} {w:World} {K:Qj} {mg:Str->Option Value} {base:Heap} {N ps:List Str} {qual:Str} {scope:Scope} {f:Addr} {cd:Value} {A:Around} {outer:List Env} {s s1:Shared} {H:Hp} {E:XK} {us:List Value} {vs:List V}
  (S:AF N ps scope) (hd:A.handled=none) (e0:Mj P w K mg base A outer s H) (hl:vs.length=ps.length) (r:A4 vs us)
  (x:InCallC s s.heap.objs.size (bindL (envOfC qual scope s.heap.objs.size f cd).kindOf (ps.zip us) fun _=>none) (cellsFrom (s.heap.objs.size + 1) scope.names []) (bindC (envOfC qual scope s.heap.objs.size f cd).kindOf (ps.zip us) fun _=>none) s1) :
  Ak (Fh CX P w K mg base N qual scope f cd A outer s H E) [] (start N vs) H s1:=by
 have hpl:ps.length<=N.length:=by have:=congrArg RT S.pre; rw [QW] at this; lia
 obtain ⟨h1,tk,rfl,hk⟩:=x.done;have noA:∀ b:Addr,b ∉ (Fh CX P w K mg base N qual scope f cd A outer s H E).ex:=fun b z=>absurd (show b ∈ ([]:List Addr) from z) (by simp)
 refine ⟨⟨e0.mod,S.kind,rfl,rfl,Qo _,fun y z c h1 h2=>?_,fun y hy=>?_,fun y c _ h=>?_,fun _=>hd,Around.frames_deeper e0.frames,.inr ⟨rfl,rfl⟩,fun b z=>absurd z (noA b),e0.bs,e0.bsz,fun b _ _=>noA b,fun b z=>absurd z (noA b),e0.funs,e0.frf⟩,
  rfl,e0.bare,Un.kept hk,⟨_,x.toInCall.ns,fun i y v h1 h2 h3=>?_⟩,fun y c h=>⟨_,x.cell y c h⟩,e0.hok.fresh (Qo _),fun y c h=>?_,fun p hp=>absurd (show p ∈ ([]:List (Addr × Obj)) from hp) (by simp),e0.hok.kept hk,?_⟩
 ·exact name_of_addr x.apart (PySem.mem_of_lookup h1) (PySem.mem_of_lookup h2)
 ·have hy:scope.names.lookup y=some .cell\/scope.names.lookup y=some .free:=hy;rcases hy with hy | hy
  ·exact GJ hy
  ·exact absurd rfl (S.nofree _ (PySem.mem_of_lookup hy))
 ·exact Sh (x.above y c (PySem.mem_of_lookup h))
 ·have hi:i < vs.length:=by
   unfold start at h2;by_cases hi:i < vs.length
   ·exact hi
   ·rw [QY (by simpa using hi)] at h2;rw [List.getElem?_replicate] at h2;split at h2 <;> cases h2
  have ha:vs[i]? = some v:=by
   unfold start at h2;rw [QZ (by simpa using hi),Q7] at h2;cases e:vs[i]? with
   | none=>rw [e] at h2; cases h2
   | some a=>rw [e] at h2; cases h2; rfl
  obtain ⟨u,hu,rv⟩:=r.get ha;have hp:ps[i]? = some y:=by
   rw [<-S.pre,List.getElem?_take_of_lt (by lia)]; exact h1
  have ndP:ps.Nodup:=by rw [<-S.pre]; exact S.nd.sublist (List.take_sublist _ _)
  refine ⟨u,rv,?_⟩;rcases S.par y (Qm hp) with k | k
  ·exact .inl ⟨k,F0 ndP hp hu k⟩
  ·obtain ⟨c,e⟩:=GJ (n:=s.heap.objs.size + 1) k;refine .inr ⟨.inl k,c,e,?_⟩;have q:=x.cell y c e;rw [F3 ndP hp hu (by show scope.names.lookup y ≠ _; rw [k]; decide)] at q;exact q
 ·exact e0.hok.fresh (Sh (x.above y c (PySem.mem_of_lookup h)))
 ·unfold start;show _=N.length
  rw [Qz,Qk,List.length_replicate];lia
theorem fn_of {CX:Lb} {P:Program} {w:World} {K:Qj} {mg:Str->Option Value} {base:Heap} {k:Nat} {f:Addr} {name qual:Str} {params:Arguments} {body:List Stmt} {scope:Scope} {dV kV doc pm cdv ct oc:Value} {an od:Option Addr}
  {osl:Array (Option Value)} {N ps:List Str} {sp:Sp} (lk:K.lookup f=some ⟨oc,od,.func (Rm name qual params body scope dV kV doc pm an cdv ct),osl⟩) (hcd:R9 K cdv qual=true) (S:AF N ps scope)
  (len:∀ vs H Q E,sp vs H Q E->vs.length=ps.length)
  (hbody:∀ (A:Around) (outer:List Env) (s:Shared) (H:Hp) (vs:List V) (Q:VK) (E:XK),BM k (A.deeper (envOfC qual scope s.heap.objs.size f cdv))->sp vs H Q E ->
   ∃ t,GQ (Fh CX P w K mg base N qual scope f cdv A outer s H E) body t/\t { nx:=fun _ H'=>Q .non H',rt:=Q } (start N vs) H) :
  AJ P w K mg base CX (k + 1) f (Rm name qual params body scope dV kV doc pm an cdv ct) ps sp:=by
 refine ⟨len,fun A outer s H args us vs Q E hr e0 hb r hsp=>?_⟩;have hl:=len _ _ _ _ hsp;have KX:K.In s.heap:=e0.mod.kin.keeps fun b o e=>(e0.bs b o e).1
 have lim:s.heap.NoLimit:=e0.mod.nolimit.keeps fun b o e=>(e0.bs b o e).1
 have hkind:∀ y ∈ ps.zip us,scope.names.lookup y.1=some .local\/(scope.names.lookup y.1=some .cell/\((cellsFrom (s.heap.objs.size + 1) scope.names []).lookup y.1).isSome=true):=fun ⟨n,v⟩ hy=>by
  rcases S.par n (RU hy).1 with q | q
  ·exact .inl q
  ·exact .inr ⟨q,RX _ _ _ (.inl q)⟩
 refine codeAny_call_function hr.depth (KX _ _ lk) rfl S.co S.gen rfl (PySem.W.codeRec_of KX hcd) (hb _ _ _ _ ?_);refine wpAny_newFunctionEnv_cells S.kind hkind fun env he s1 x=>?_
 subst he;refine ⟨lim.keeps x.toInCall.keep,codeAny_func ?_⟩;obtain ⟨t,ht,hq⟩:=hbody A outer s H vs Q E (hr.deeper _) hsp;have I:Ak (Fh CX P w K mg base N qual scope f cdv A outer s H E) [] (start N vs) H s1:=Jd S hr.hd e0 hl r x;refine wpAny_mono (ht s1 (start N vs) H _ I hq) (fun fl s' hs=>?_) fun e s' hs=>hs
 have fin:∀ {Ap:St} {H':Hp} {v:V} {u:Value},Ak (Fh CX P w K mg base N qual scope f cdv A outer s H E) [] Ap H' s'->As v u->Q v H'->CE outer P w H s Q u s':=
  fun {Ap H' v u} J rv q=>⟨v,H',J.os,J.bare,J.base,J.hok,rv,q⟩
 cases fl with
 | ret u=>
  obtain ⟨v,Ap,H',J,rv,q⟩:=hs;exact fin J rv q
 | next=>
  obtain ⟨Ap,H',J,q⟩:=hs;exact fin (v:=V.non) (u:=Value.none) J rfl q
 | brk=>
  obtain ⟨_,_,_,q⟩:=hs;exact False.elim q
 | cont=>
  obtain ⟨_,_,_,q⟩:=hs;exact False.elim q
section
variable {X:Cx} {x:Str} {p pos:Pos} {e:Expr} {es:List Expr} {t:TA} {id T:String} {r:List V->Hp->VK->Prop}
def tCB (r:List V->Hp->VK->Prop) (t:TA):TE:=fun σ H Q=>t σ H fun vs H1=>r vs H1 Q
theorem Ay (hc:Bp X (.builtin id) r) (hg:Gl X x) (hm:X.mg x=none) (hv:bootBuiltins x=some (.builtin id)) (ha:PA X (e :: es) t) (hn:x ≠ "__name__":=by decide) (hdb:(x == ("__debug__":Str))=false:=by decide)
  (he:starEach (e :: es) X.env=(false,eval e X.env) :: starEach es X.env:=by rfl) (hpl:(backTo pos (starEach es X.env)).any (·.1)=false:=by rfl):PE X (.Call (.Name x p) (e :: es) [] pos) (tCB r t):=by
 intro pins s σ H Q I h;refine wpAny_Call_Name_kw (EF I hg hm hv ?_ hn hdb);exact PyProof.Rows.callWith_builtin1 (Bj (ha (pos:=pos) (pins:=pins) s σ H _ I h) fun us s1 ⟨vs,H1,I1,r1,q1⟩=>hc (pins:=pins) s1 σ H1 vs us Q I1 r1 q1) he hpl
theorem Co (hc:Bp X (.type T) r) (hg:Gl X x) (hm:X.mg x=none) (hv:bootBuiltins x=some (.type T)) (ha:PA X (e :: es) t) (hn:x ≠ "__name__":=by decide) (hdb:(x == ("__debug__":Str))=false:=by decide)
  (he:starEach (e :: es) X.env=(false,eval e X.env) :: starEach es X.env:=by rfl) (hpl:(backTo pos (starEach es X.env)).any (·.1)=false:=by rfl):PE X (.Call (.Name x p) (e :: es) [] pos) (tCB r t):=by
 intro pins s σ H Q I h;refine wpAny_Call_Name_kw (EF I hg hm hv ?_ hn hdb);exact PyProof.Rows.callWith_type1 (Bj (ha (pos:=pos) (pins:=pins) s σ H _ I h) fun us s1 ⟨vs,H1,I1,r1,q1⟩=>hc (pins:=pins) s1 σ H1 vs us Q I1 r1 q1) he hpl
end
end L2
namespace HT
open PySem PyProof.Rows
section
open PySem.SeqAt
open PySem.AutoSeq1 (wpAny_loadPart')
open PySem.MeetsSeq PySem.MeetsSeq2 PySem.MeetsSeq3
end
section
variable {prog:Program} {w:World} {A:Around} {E:Value->Shared->Prop} {s:Shared}
end
end HT
namespace L2
open PySem PySem.Spec PyProof.Rows
abbrev TO:=St->Hp->(Option Int->Hp->Prop)->Prop
def PO (X:Cx) (e:Option Expr) (t:TO):Prop:=
 ∀ ⦃pins:List (Addr × Obj)⦄ (s:Shared) (σ:St) (H:Hp) (Q:Option Int->Hp->Prop),Ak X pins σ H s->t σ H Q ->
  wpAny (model X.prog X.w) X.A (evalPart e X.env) (fun u s'=>∃ o H',Ak X pins σ H' s'/\IsPart u o/\Q o H') X.xe s
def Lk:TO:=fun _ H Q=>Q none H
def tPart (t:TE):TO:=fun σ H Q=>t σ H fun x H1=>∃ i,x=.int i/\Q (some i) H1
section
variable {X:Cx} {e:Expr} {te:TE} {lo hi:Option Expr} {tl th:TO} {pos p2:Pos}
theorem Lz:PO X none Lk:=by
 intro pins s σ H Q I h;rw [evalPart_none];exact wpAny_pure ⟨none,H,I,.none,h⟩
theorem Ly (h:PE X e te):PO X (some e) (tPart te):=by
 intro pins s σ H Q I hw;rw [evalPart_some];refine Bj (h (pins:=pins) s σ H _ I hw) fun u s1 ⟨x,H1,I1,r1,q1⟩=>?_
 obtain ⟨i,rfl,q⟩:=q1;obtain ⟨t,rfl⟩:=r1;exact ⟨some i,H1,I1,.int i t,q⟩
end
def Mx (n:Nat) (i:Int):Option Nat:=if 0<=i then (if i < n then some i.toNat else none) else if -(n:Int)<=i then some (i + n).toNat else none
def GV {α:Type} (xs:List α) (i:Int):Option α:=(Mx xs.length i).bind fun j=>xs[j]?
theorem LN {n:Nat} {i:Int} {j:Nat} (h:Mx n i=some j):seqIndex? i n=some j/\j < n/\-(n:Int)<=i/\i < n:=by
 unfold Mx at h;by_cases h0:0<=i
 ·rw [if_pos h0] at h;by_cases h1:i < n
  ·rw [if_pos h1] at h;have e:i.toNat=j:=QB.inj h;exact ⟨by rw [seqIndex_of h0 h1,e],by lia,by lia,h1⟩
  ·rw [if_neg h1] at h; cases h
 ·rw [if_neg h0] at h;by_cases h1:-(n:Int)<=i
  ·rw [if_pos h1] at h;have e:(i + n).toNat=j:=QB.inj h;exact ⟨by rw [seqIndex_neg (by lia) h1,e],by lia,h1,by lia⟩
  ·rw [if_neg h1] at h; cases h
theorem Eu {α:Type} {xs:List α} {i:Int} {v:α} (h:GV xs i=some v):∃ j,seqIndex? i xs.length=some j/\xs[j]? = some v/\j < xs.length/\-(xs.length:Int)<=i/\i < xs.length:=by
 unfold GV at h;cases e:Mx xs.length i with
 | none=>rw [e] at h; cases h
 | some j=>
  rw [e] at h;obtain ⟨h1,h2,h3,h4⟩:=LN e;exact ⟨j,h1,h,h2,h3,h4⟩
theorem CT {α:Type} {xs:List α} {j:Nat} {v:α} (h:xs[j]? = some v):GV xs (j:Int)=some v:=by
 have hj:j < xs.length:=(Qx.mp h).1;have e:Mx xs.length (j:Int)=some j:=by
  unfold Mx;rw [if_pos (by lia),if_pos (by lia)]; simp
 unfold GV; rw [e]; exact h
theorem EX {α:Type} (xs:List α) (v:α):GV (xs ++ [v]) (-1)=some v:=by
 have hl:(xs ++ [v]).length=xs.length + 1:=by simp
 have e:Mx (xs ++ [v]).length (-1)=some xs.length:=by
  unfold Mx;rw [hl,if_neg (by decide),if_pos (by lia)];congr 1;lia
 unfold GV;rw [e];show (xs ++ [v])[xs.length]? = some v
 simp
def Md (b:Expr):Prop:=∀ o i,subscripted b false o i=operate [o,i] (getItem o i)
def Oh (X:Cx) (r:R2):Prop:=
 ∀ (value slice:Expr) (pins:List (Addr × Obj)) (s:Shared) (σ:St) (H:Hp) (x y:V) (v u:Value) (Q:VK),Ak X pins σ H s->As x v->As y u->r x y H Q ->
  subscripted slice false v u=operate [v,u] (getItem v u)->wpAny (model X.prog X.w) X.A (subscriptTail value slice v u) (EP X pins σ Q) X.xe s
def MtR (X:Cx) (id:String) (r:V->List V->Hp->VK->Prop):Prop:=
 ∀ ⦃pins:List (Addr × Obj)⦄ (s:Shared) (σ:St) (H:Hp) (x:V) (xs:List V) (v:Value) (us:List Value) (Q:VK),Ak X pins σ H s->As x v->A4 xs us->r x xs H Q ->
  wpAny (model X.prog X.w) X.A (call (.builtin id) (v :: us)) (EP X pins σ Q) X.xe s
section
variable {X:Cx} {a b:Expr} {ta tb:TE} {pos:Pos}
theorem Bm {r:R2} (hr:Oh X r) (ha:PE X a ta) (hb:PE X b tb) (hs:Md b):PE X (.Subscript a b pos) (tOp r ta tb):=by
 intro pins s σ H Q I h;exact Subscript_ (NG ha hb I h fun v u s2 x y H2 I2 rx ry q=>hr a b (pins:=pins) s2 σ H2 x y v u Q I2 rx ry q (hs _ _))
def rIxL (K:Qj):R2:=fun x y H Q=>∃ p xs i v,x=.ref p/\y=.int i/\A6 K H p xs/\GV xs i=some v/\Q v H
def rIxT (K:Qj):R2:=fun x y H Q=>∃ p xs i v,x=.ref p/\y=.int i/\BY K H p xs/\GV xs i=some v/\Q v H
def rIxS:R2:=fun x y H Q=>∃ z i c,x=.str z/\y=.int i/\z.length<=sizeLine/\GV z.cps.toList i=some c/\Q (.str ⟨#[c]⟩) H
theorem B5:Oh X (rIxL X.K):=by
 intro value slice pins s σ H x y v u Q I rx ry h hs;obtain ⟨p,xs,i,z,rfl,rfl,hq,he,q⟩:=h;cases rx
 obtain ⟨t,rfl⟩:=ry;obtain ⟨Ar,r,pl,hz⟩:=I.list hq;obtain ⟨j,h1,h2,h3,h4,h5⟩:=Eu he;obtain ⟨w,ew,JW⟩:=r.get h2;have hl:=r.length;have hn:=DG;have fin:EP X pins σ Q w s:=⟨z,H,I,JW,q⟩
 by_cases h0:0<=i
 ·have hj:i.toNat=j:=by
   rw [seqIndex_of h0 h5] at h1;exact QB.inj h1
  exact item_listR pl.isList h0 (by lia) (by rw [hj]; simpa using ew) fin hs
 ·have hj:(i + (Ar.toArray.size:Int)).toNat=j:=by
   rw [seqIndex_neg (by lia) h4] at h1;rw [Q9,<-hl];exact QB.inj h1
  exact subscriptTail_builtinR (x:=w) pl.isList.typeIs slot_list_getitem.lookup
   (wpAny_getItem_list_neg (Q:=fun r s'=>r=w/\EP X pins σ Q r s') pl.isList (by lia) (by rw [Q9] <;> lia) (by lia) (by rw [hj]; simpa using ew) ⟨rfl,fin⟩) hs
theorem K0:Oh X (rIxT X.K):=by
 intro value slice pins s σ H x y v u Q I rx ry h hs;obtain ⟨p,xs,i,z,rfl,rfl,hq,he,q⟩:=h;cases rx
 obtain ⟨t,rfl⟩:=ry;obtain ⟨Ar,r,pl,hz⟩:=I.tuple hq;obtain ⟨j,h1,h2,h3,h4,h5⟩:=Eu he;obtain ⟨w,ew,JW⟩:=r.get h2;have hl:=r.length;have hn:=DG;have fin:EP X pins σ Q w s:=⟨z,H,I,JW,q⟩
 exact subscriptTail_builtinR (x:=w) pl.typeIs slot_tuple_getitem.lookup
  (getItem_tuple (j:=j) (Q:=fun r s'=>r=w/\EP X pins σ Q r s') pl (by lia) (by lia) (by rw [Q9,<-hl]; exact h1) (by simpa using ew) ⟨rfl,fin⟩) hs
theorem Ho:Oh X rIxS:=by
 intro value slice pins s σ H x y v u Q I rx ry h hs;obtain ⟨z,i,c,rfl,rfl,hz,he,q⟩:=h;obtain ⟨t,rfl⟩:=rx;obtain ⟨t',rfl⟩:=ry;obtain ⟨j,h1,h2,h3,h4,h5⟩:=Eu he;have hl:z.cps.toList.length=z.length:=by simp [Str.length]
 rw [hl] at h1 h4 h5;have hn:=DG;exact tail_any (typeIs_str s z t) slot_str_getitem.lookup (getItem_str (c:=c) (by
  have e1:decide (i < -(2 ^ 63:Int))=false:=decide_eq_false (by lia);have e2:decide (i >= 2 ^ 63)=false:=decide_eq_false (by lia);rw [e1,e2,Bool.or_false]) (by rw [h1]; simpa using h2) ⟨.str ⟨#[c]⟩,H,I.tok _,⟨_,rfl⟩,q⟩) hs
def Dx:V->Bool
 | .non=>true
 | .bl _=>true
 | .int _=>true
 | .str _=>true
 | _=>false
def KL:V->V->Bool
 | .non,.non=>true
 | .bl a,.bl b=>a == b
 | .bl a,.int b=>(if a then 1 else 0) == b
 | .int a,.bl b=>a == (if b then 1 else 0)
 | .int a,.int b=>a == b
 | .str a,.str b=>a == b
 | _,_=>false
theorem N4 {A:Around} {s:Shared} {y x:V} {u v:Value} (ry:As y u) (rx:As x v) (fy:Dx y=true) (fx:Dx x=true):SeqAt.EqAt A s u v (KL y x):=by
 cases y with
 | non=>
  cases ry
  cases x with
  | non=>cases rx; exact SeqAt.EqAt.same _
  | bl b=>cases rx; exact SeqAt.EqAt.none_bool b
  | int b=>obtain ⟨t,rfl⟩:=rx; exact SeqAt.EqAt.none_int b t
  | str b=>obtain ⟨t,rfl⟩:=rx; exact SeqAt.EqAt.none_str b t
  | _=>exact absurd (show false=true from fx) Qr
 | bl a=>
  cases ry
  cases x with
  | non=>cases rx; exact SeqAt.EqAt.bool_none a
  | bl b=>cases rx; exact SeqAt.EqAt.bool_bool a b
  | int b=>obtain ⟨t,rfl⟩:=rx; exact SeqAt.EqAt.bool_int a b t
  | str b=>obtain ⟨t,rfl⟩:=rx; exact SeqAt.EqAt.bool_str a b t
  | _=>exact absurd (show false=true from fx) Qr
 | int a=>
  obtain ⟨t',rfl⟩:=ry;cases x with
  | non=>cases rx; exact SeqAt.EqAt.int_none a t'
  | bl b=>cases rx; exact SeqAt.EqAt.int_bool a t' b
  | int b=>obtain ⟨t,rfl⟩:=rx; exact SeqAt.EqAt.int_int a t' b t
  | str b=>obtain ⟨t,rfl⟩:=rx; exact SeqAt.EqAt.int_str a t' b t
  | _=>exact absurd (show false=true from fx) Qr
 | str a=>
  obtain ⟨t',rfl⟩:=ry;cases x with
  | non=>cases rx; exact SeqAt.EqAt.str_none a t'
  | bl b=>cases rx; exact SeqAt.EqAt.str_bool a t' b
  | int b=>obtain ⟨t,rfl⟩:=rx; exact SeqAt.EqAt.str_int a t' b t
  | str b=>obtain ⟨t,rfl⟩:=rx; exact SeqAt.EqAt.str_str a t' b t
  | _=>exact absurd (show false=true from fx) Qr
 | _=>exact absurd (show false=true from fy) Qr
def LX (x:V) (u:Value):Bool:=match u with
 | .none=>KL .non x
 | .bool b=>KL (.bl b) x
 | .int i _=>KL (.int i) x
 | .str z _=>KL (.str z) x
 | _=>false
theorem KN {x y:V} {u:Value} (r:As y u) (f:Dx y=true):LX x u=KL y x:=by
 cases y with
 | non=>cases r; rfl
 | bl b=>cases r; rfl
 | int i=>obtain ⟨t,rfl⟩:=r; rfl
 | str z=>obtain ⟨t,rfl⟩:=r; rfl
 | _=>exact absurd (show false=true from f) Qr
theorem Gi {x:V}:∀ {xs:List V} {us:List Value},A4 xs us->xs.all Dx=true->us.any (LX x)=xs.any fun y=>KL y x
 | _,_,.nil,_=>rfl
 | y :: xs,u :: us,.cons r t,f=>by
  rw [Sa,Rq] at f;rw [Ri,Ri,KN r f.1,Gi t f.2]
theorem EE {A:Around} {s:Shared} {x:V} {v:Value} (rx:As x v) (fx:Dx x=true):∀ {xs:List V} {us:List Value},A4 xs us->xs.all Dx=true->∀ u ∈ us,SeqAt.EqAt A s u v (LX x u)
 | _,_,.nil,_=>fun u hu=>by cases hu
 | y :: xs,u :: us,.cons r t,f=>fun u' hu=>by
  rw [Sa,Rq] at f;rcases Qn.mp hu with rfl | hu
  ·rw [KN r f.1]; exact N4 r rx f.1 fx
  ·exact EE rx fx t f.2 u' hu
def NW (x:V) (xs:List V):Bool:=xs.any fun y=>KL y x
def rIn (K:Qj) (neg:Bool):R2:=fun x y H Q=>∃ p xs,y=.ref p/\(A6 K H p xs\/BY K H p xs)/\Dx x=true/\xs.all Dx=true/\Q (.bl (if neg then !NW x xs else NW x xs)) H
theorem DB:Ex X (compareOp .In) (rIn X.K false):=by
 intro pins s σ H x y v u Q I rx ry h;obtain ⟨p,xs,rfl,hq,fx,fs,q⟩:=h;cases ry
 rcases hq with hq | hq
 ·obtain ⟨Ar,r,pl,hz⟩:=I.list hq;refine SeqAt.in_listAt (LX x) pl.isList (fun w hw=>EE rx fx r fs w (by simpa using hw)) ⟨.bl _,H,I,rfl,?_⟩;rw [show Ar.toArray.any (LX x)=Ar.any (LX x) by simp,Gi r fs];exact q
 ·obtain ⟨Ar,r,pl,hz⟩:=I.tuple hq;refine SeqAt.in_tupleAt (LX x) pl (fun w hw=>EE rx fx r fs w (by simpa using hw)) ⟨.bl _,H,I,rfl,?_⟩;rw [show Ar.toArray.any (LX x)=Ar.any (LX x) by simp,Gi r fs];exact q
theorem AR:Bp X (.builtin "len") (fun xs H Q=>∃ p ys,xs=[.ref p]/\(A6 X.K H p ys\/BY X.K H p ys)/\Q (.int ys.length) H):=by
 intro pins s σ H xs us Q I r h;obtain ⟨p,ys,rfl,hq,q⟩:=h;obtain ⟨u,rfl,rx⟩:=Ce r;cases rx
 have hn:=DG;rcases hq with hq | hq
 ·obtain ⟨Ar,r',pl,hz⟩:=I.list hq;have hlen:=r'.length;exact Calls.call_len_list pl.isList (by simp only [Q9] <;> lia) ⟨.int ys.length,H,I.tok _,⟨s.toks + 1,by rw [Q9,hlen]⟩,q⟩
 ·obtain ⟨Ar,r',pl,hz⟩:=I.tuple hq;have hlen:=r'.length;exact len_tuple pl (by simp only [Q9] <;> lia) ⟨.int ys.length,H,I.tok _,⟨s.toks + 1,by rw [Q9,hlen]⟩,q⟩
theorem Gh:Bp X (.builtin "len") (fun xs H Q=>∃ z,xs=[.str z]/\z.length<=sizeLine/\Q (.int z.length) H):=by
 intro pins s σ H xs us Q I r h;obtain ⟨z,rfl,hz,q⟩:=h;obtain ⟨u,rfl,t,rfl⟩:=Ce r;have hn:=DG;exact len_str (by lia) ⟨.int z.length,H,I.tok _,⟨_,rfl⟩,q⟩
theorem Bp.or {f:Value} {r r':List V->Hp->VK->Prop} (h:Bp X f r) (h':Bp X f r'):Bp X f (fun xs H Q=>r xs H Q\/r' xs H Q):=by
 intro pins s σ H xs us Q I rs q;rcases q with q | q
 ·exact h (pins:=pins) s σ H xs us Q I rs q
 ·exact h' (pins:=pins) s σ H xs us Q I rs q
theorem Dc:Bp X (.type "tuple") (fun xs H Q=>∃ p ys,xs=[.ref p]/\((A6 X.K H p ys/\∀ l,H l=none->Q (.ref l) (upd H l (.tup ys)))\/(BY X.K H p ys/\Q (.ref p) H))):=by
 intro pins s σ H xs us Q I r h;obtain ⟨p,ys,rfl,h⟩:=h;obtain ⟨u,rfl,rx⟩:=Ce r;cases rx
 rcases h with ⟨hq,q⟩ | ⟨hq,q⟩
 ·obtain ⟨Ar,r',pl,hz⟩:=I.list hq;have hlen:=r'.length;refine call_tuple_list pl.isList (fun h' kp=>?_) (by simp only [Q9] <;> lia);have I1:Ak X pins σ H { s with heap:=h' }:=I.kept (t':=s.toks) kp;have I2:Ak X pins σ (upd H h'.objs.size (.tup ys)) { s with heap:=h'.push { cls:=.type "tuple",data:=.seq Ar.toArray } }:=
   I1.laid (t':=s.toks) (fun b o e=>Ql _ e) (Qo _) (show Ax X.prog X.w _ _ _ (.tup ys) from ⟨hz,Ar,r',IsTup.new _ _,KZ.new rfl rfl⟩)
  exact ⟨.ref h'.objs.size,_,I2,rfl,q _ (I1.hok.fresh (Qo _))⟩
 ·obtain ⟨Ar,r',pl,hz⟩:=I.tuple hq;exact call_tuple_same pl ⟨.ref p,H,I,rfl,q⟩
def tyV (K:Qj) (T:String) (x:V) (H:Hp):Prop:=match x with
 | .str _=>T="str"
 | .int _=>T="int"
 | .ref p=>(T="list"/\∃ xs,A6 K H p xs)\/(T="tuple"/\∃ o,K.lookup p=some o/\o.cls=.type "tuple"/\o.dict=none) \/
   (T="dict"/\((∃ kvs,H p=some (.dK kvs))\/∃ kvs,H p=some (.dT kvs)))\/(T="set"/\∃ S n,H p=some (.set S n))
 | _=>False
theorem JC {pins:List (Addr × Obj)} {σ:St} {H:Hp} {s:Shared} {T:String} {x:V} {v:Value} (I:Ak X pins σ H s) (r:As x v) (ty:tyV X.K T x H) :
  s.TypeIs v T/\∀ a,v=.ref a->∃ ob,s.heap.get? a=some ob/\ob.dict=none:=by
 cases x with
 | str z=>
  obtain ⟨t,rfl⟩:=r;cases (show T="str" from ty)
  exact ⟨typeIs_str s z t,fun _ e=>nomatch e⟩
 | int i=>
  obtain ⟨t,rfl⟩:=r;cases (show T="int" from ty)
  exact ⟨typeIs_int s i t,fun _ e=>nomatch e⟩
 | ref p=>
  cases r
  rcases ty with ⟨rfl,xs,hq⟩ | ⟨rfl,o,hk,hc,hd⟩ | ⟨rfl,hk⟩ | ⟨rfl,S,n,hk⟩
  ·obtain ⟨Ar,_,pl,_⟩:=I.list hq;refine ⟨pl.isList.typeIs,fun a e=>?_⟩;cases e
   obtain ⟨o,n,e,c,hd,_⟩:=pl;exact ⟨o,e,hd⟩
  ·refine ⟨⟨o,I.kIn p o hk,hc⟩,fun a e=>?_⟩;cases e
   exact ⟨o,I.kIn _ o hk,hd⟩
  ·have z:∃ o,s.heap.get? p=some o/\o.ExactDict:=by
    rcases hk with ⟨kvs,hk⟩ | ⟨kvs,hk⟩
    ·obtain ⟨_,_,_,_,o,_,_,e,ex,_⟩:=I.hok p _ hk;exact ⟨o,e,ex⟩
    ·obtain ⟨_,_,_,_,o,_,_,e,ex,_⟩:=I.hok p _ hk;exact ⟨o,e,ex⟩
   obtain ⟨o,e,ex⟩:=z;refine ⟨⟨o,e,ex.1⟩,fun a e2=>?_⟩;cases e2
   exact ⟨o,e,ex.2.1⟩
  ·obtain ⟨o,_,_,_,e,ex,_⟩:=I.hok p _ hk;refine ⟨⟨o,e,ex.1⟩,fun a e2=>?_⟩;cases e2
   exact ⟨o,e,ex.2.1⟩
 | _=>exact False.elim ty
def tBM0 (K:Qj) (T:String) (r:V->List V->Hp->VK->Prop) (to:TE):TE:=fun σ H Q=>to σ H fun x H1=>tyV K T x H1/\r x [] H1 Q
def tBM (K:Qj) (T:String) (r:V->List V->Hp->VK->Prop) (to:TE) (t:TA):TE:=fun σ H Q=>to σ H fun x H1=>tyV K T x H1/\t σ H1 fun xs H2=>r x xs H2 Q
variable {o e:Expr} {es:List Expr} {to:TE} {t:TA} {name:Str} {apos CK:Pos} {T id:String} {r:V->List V->Hp->VK->Prop}
theorem MX (pa:PlainAttrs T) (slot:Slot T name id) (hty:typeOf (.builtin id)=pure (.type "method_descriptor")) (hm:MtR X id r) (ho:PE X o to)
  (hbase:attributeBase o name X.env (eval o X.env)=eval o X.env:=by rfl) (hline:(apos.endLine == CK.line)=true:=by rfl):PE X (.Call (.Attribute o name apos) [] [] CK) (tBM0 X.K T r to):=by
 intro pins s σ H Q I h;refine wpAny_Call_method0_late hbase hline (Bj (ho (pins:=pins) s σ H _ I h) fun v s1 ⟨x,H1,I1,r1,ty,q1⟩=>?_);obtain ⟨h1,h2⟩:=JC I1 r1 ty;exact ⟨T,id,pa,slot,hty,h1,h2,Calls.callWith_builtin rfl (PySem.evalArgs_none (hm (pins:=pins) s1 σ H1 x [] v [] Q I1 r1 .nil q1))⟩
theorem Du (pa:PlainAttrs T) (slot:Slot T name id) (hty:typeOf (.builtin id)=pure (.type "method_descriptor")) (hm:MtR X id r) (ho:PE X o to) (ha:PA X (e :: es) t)
  (hbase:attributeBase o name X.env (eval o X.env)=eval o X.env:=by rfl)
  (hfew:((backTo CK (starEach (e :: es) X.env)).all (fun x=>!x.1) && (backToKw CK (keywordEach [] X.env)).all (fun x=>x.1.isSome)
   && decide ((e :: es).length + ([]:List Keyword).length + (if ([]:List Keyword).isEmpty then 0 else 1) < 30))=true:=by rfl)
  (hline:(apos.endLine == CK.line)=true:=by rfl) (hs:starEach (e :: es) X.env=(false,eval e X.env) :: starEach es X.env:=by rfl) (hplain:(backTo CK (starEach es X.env)).any (·.1)=false:=by rfl) :
  PE X (.Call (.Attribute o name apos) (e :: es) [] CK) (tBM X.K T r to t):=by
 intro pins s σ H Q I h;refine wpAny_Call_method_late hbase hfew hline rfl (Bj (ho (pins:=pins) s σ H _ I h) fun v s1 ⟨x,H1,I1,r1,ty,q1⟩=>?_);obtain ⟨h1,h2⟩:=JC I1 r1 ty;refine ⟨T,id,pa,slot,hty,h1,h2,?_⟩;have hA:=ha (pos:=CK) (pins:=pins) s1 σ H1 _ I1 q1;rw [hs] at hA ⊢;refine Calls.callWith_builtin (by show (false || (backTo CK (starEach es X.env)).any (·.1))=false; rw [hplain] <;> rfl) (Calls.evalArgs_plain ?_);exact Bj hA fun us s2 ⟨vs,H2,I2,r2,q2⟩=>hm (pins:=pins) s2 σ H2 x vs v us Q I2 r1 r2 q2
end
def MtM (X:Cx) (id:String) (r:V->List V->Hp->VK->Prop):Prop:=
 ∀ ⦃pins:List (Addr × Obj)⦄ (s:Shared) (σ:St) (H:Hp) (x:V) (xs:List V) (v:Value) (us:List Value) (Q:VK),Ak X pins σ H s->As x v->A4 xs us->r x xs H Q ->
  wpAny (model X.prog X.w) X.A (call (.builtin id) (v :: us)) (EP X pins σ Q) X.xe s
theorem A4.one:∀ {x:V} {us:List Value},A4 [x] us->∃ u,us=[u]/\As x u
 | _,_,.cons r .nil=>⟨_,rfl,r⟩
theorem A4.zero:∀ {us:List Value},A4 [] us->us=[]
 | _,.nil=>rfl
theorem A4.dropLast {xs:List V} {us:List Value} (h:A4 xs us):A4 xs.dropLast us.dropLast:=by
 induction h with
 | nil=>exact .nil
 | cons r t ih=>
  cases t with
  | nil=>exact .nil
  | cons q t'=>exact .cons r ih
theorem Hz {α:Type} (l:List α):l.eraseIdx (l.length - 1)=l.dropLast:=by
 induction l with
 | nil=>rfl
 | cons a r ih=>
  cases r with
  | nil=>rfl
  | cons b r=>
   have e:(a :: b :: r).length - 1=((b :: r).length - 1) + 1:=by
    have h1:(a :: b :: r).length=r.length + 2:=rfl;have h2:(b :: r).length=r.length + 1:=rfl;lia
   rw [e,List.eraseIdx_cons_succ,ih];all_goals rfl
section
variable {X:Cx} {pins:List (Addr × Obj)} {σ:St} {H:Hp} {s:Shared} {l b:Addr} {xs ys zs:List V}
theorem Ak.lset {Ar its':List Value} {n:Nat} {f:Array Value->Array Value} {t':Nat} (I:Ak X pins σ H s) (hH:H l=some (.lst xs))
  (e:s.heap.get? l=some { cls:=.type "list",data:=.seq Ar.toArray n }) (hf:f Ar.toArray=its'.toArray) (hv:A4 ys its') (hz:ys.length<=sizeLine) :
  Ak X pins σ (upd H l (.lst ys)) { s with heap:=s.heap.update l (Obj.mapSeq f),toks:=t' }:=by
 have q:=PySem.IsL.update e f;rw [hf] at q;refine I.write (x:=l) (e:=l) (by rw [hH]; exact trivial) (.inl rfl) (fun b' u hb hu=>(QS s.heap (Obj.mapSeq f) (Ne.symm hb)).trans hu) ⟨_,q⟩ ?_;exact ⟨hz,its',_,hv,q⟩
theorem Ak.lnew {Ar:List Value} {t':Nat} (I:Ak X pins σ H s) (hv:A4 ys Ar) (hz:ys.length<=sizeLine) :
  Ak X pins σ (upd H s.heap.objs.size (.lst ys)) { s with heap:=s.heap.push { cls:=.type "list",data:=.seq Ar.toArray },toks:=t' }:=
 I.laid (fun _ _ q=>Ql _ q) (Qo _) ⟨hz,Ar,0,hv,Q4 _ rfl⟩
theorem Ak.fresh (I:Ak X pins σ H s):H s.heap.objs.size=none:=I.hok.fresh (Qo _)
theorem Ak.lstM (I:Ak X pins σ H s) (hH:H l=some (.lst xs)):xs.length<=sizeLine/\∃ (Ar:List Value) (n:Nat),A4 xs Ar/\xs.length=Ar.length/\s.heap.get? l=some { cls:=.type "list",data:=.seq Ar.toArray n }:=by
 obtain ⟨z,Ar,n,r,e⟩:=I.hok l _ hH;exact ⟨z,Ar,n,r,r.length,e⟩
theorem Kr {n:Nat} (h:n<=sizeLine):Builtin.List.listTooLong n=false:=by
 unfold Builtin.List.listTooLong;exact decide_eq_false (by lia)
end
section
variable {X:Cx}
def Lv:V->List V->Hp->VK->Prop:=fun x vs H Q=>∃ l xs y,x=.ref l/\vs=[y]/\H l=some (.lst xs)/\xs.length < sizeLine/\Q .non (upd H l (.lst (xs ++ [y])))
theorem Bi:MtM X "list.append" Lv:=by
 intro pins s σ H x vs v us Q I rx rv h;obtain ⟨l,xs,y,rfl,rfl,hH,hz,q⟩:=h;cases rx
 obtain ⟨u,rfl,ru⟩:=rv.one;obtain ⟨z,Ar,n,r,hl,e⟩:=I.lstM hH;refine call_meets F.slot_list_append ⟨_,e,rfl⟩ F.entry_list_append (F.args_list_append_2 _ _) (PySem.list_append l Ar.toArray n u (by rw [Q9]; lia)) ⟨e,?_⟩;refine ⟨.non,_,I.lset (its':=Ar ++ [u]) hH e (by simp) (r.append (.cons ru .nil)) ?_,rfl,q⟩;rw [Qz,Ra];lia
def Lu:V->List V->Hp->VK->Prop:=fun x vs H Q=>∃ l b xs zs,x=.ref l/\vs=[.ref b]/\H l=some (.lst xs)/\H b=some (.lst zs)/\xs.length + zs.length<=sizeLine/\Q .non (upd H l (.lst (xs ++ zs)))
theorem IU:MtM X "list.extend" Lu:=by
 intro pins s σ H x vs v us Q I rx rv h;obtain ⟨l,b,xs,zs,rfl,rfl,hH,hB,hz,q⟩:=h;cases rx
 obtain ⟨u,rfl,ru⟩:=rv.one;cases ru
 obtain ⟨z,Ar,n,r,hl,e⟩:=I.lstM hH;obtain ⟨z2,Ga,n2,r2,J0,e2⟩:=I.lstM hB;have hsz:Ar.toArray.size + Ga.toArray.size<=sizeLine:=by rw [Q9,Q9]; lia
 have hlong:¬ (!Ar.toArray.isEmpty && Builtin.List.listTooLong (Ar.toArray.size + Ga.toArray.size))=true:=by
  rw [Kr hsz,Bool.and_false];exact Qr
 refine call_meets F.slot_list_extend ⟨_,e,rfl⟩ F.entry_list_extend (F.args_list_extend_2 _ _)
  (AutoSeq1.list_extend_list_list_0 l Ar.toArray n b Ga.toArray n2 hlong (by rw [Q9]; lia) (by lia)) ⟨e,e2,?_⟩
 refine ⟨.non,_,I.lset (its':=Ar ++ Ga) hH e (by simp) (r.append r2) ?_,rfl,q⟩;rw [Qz];lia
def rPop:V->List V->Hp->VK->Prop:=fun x vs H Q=>∃ l xs y,x=.ref l/\vs=[]/\H l=some (.lst xs)/\xs[xs.length - 1]? = some y/\Q y (upd H l (.lst xs.dropLast))
theorem Nc:MtM X "list.pop" rPop:=by
 intro pins s σ H x vs v us Q I rx rv h;obtain ⟨l,xs,y,rfl,rfl,hH,hy,q⟩:=h;cases rx
 have hus:=rv.zero;subst hus;obtain ⟨z,Ar,n,r,hl,e⟩:=I.lstM hH;obtain ⟨u,hu,ru⟩:=r.get hy;have hy':Ar.toArray[Ar.toArray.size - 1]? = some u:=by
  show Ar.toArray[Ar.length - 1]? = some u
  rw [<-Array.getElem?_toList,<-hl];exact hu
 refine call_meets F.slot_list_pop ⟨_,e,rfl⟩ F.entry_list_pop (F.args_list_pop_1 _) (MeetsSeq.list_pop_last l Ar.toArray n u hy' (by rw [Q9]; lia)) ⟨e,?_⟩;refine ⟨y,_,I.lset (its':=Ar.dropLast) hH e ?_ r.dropLast ?_,ru,q⟩
 ·show Ar.toArray.eraseIdxIfInBounds (Ar.toArray.size - 1)=Ar.dropLast.toArray
  rw [Q9,List.eraseIdxIfInBounds_toArray,Hz]
 ·rw [List.length_dropLast];lia
def rCat:R2:=fun x y H Q=>∃ l b xs zs,x=.ref l/\y=.ref b/\H l=some (.lst xs)/\H b=some (.lst zs)/\xs.length + zs.length<=sizeLine/\∀ p,H p=none->Q (.ref p) (upd H p (.lst (xs ++ zs)))
theorem Km:Ex X (binaryOp .Add) rCat:=by
 intro pins s σ H x y v u Q I rx ry h;obtain ⟨l,b,xs,zs,rfl,rfl,hH,hB,hz,q⟩:=h;cases rx
 cases ry
 obtain ⟨z,Ar,n,r,hl,e⟩:=I.lstM hH;obtain ⟨z2,Ga,n2,r2,J0,e2⟩:=I.lstM hB;refine PySem.P.add_list e e2 ?_ (by rw [Q9,Q9]; lia);have ea:Ar.toArray ++ Ga.toArray=(Ar ++ Ga).toArray:=by simp
 rw [ea];exact ⟨.ref _,_,I.lnew (t':=s.toks) (r.append r2) (by rw [Qz]; lia),rfl,q _ I.fresh⟩
end
section
variable {prog:Program} {w:World} {A:Around} {E:Value->Shared->Prop} {s:Shared}
set_option maxRecDepth 100000 in
end
section
variable {X:Cx}
end
section
variable {κ:Type} [DecidableEq κ]
def AX (kvs:List (κ × V)) (k:κ):Option V:=(kvs.find? fun kv=>decide (kv.1=k)).map (·.2)
def Be (kvs:List (κ × V)) (k:κ) (v:V):List (κ × V):=
 if (kvs.any fun kv=>decide (kv.1=k))=true then kvs.map (fun kv=>if kv.1=k then (kv.1,v) else kv) else kvs ++ [(k,v)]
def EN (kvs:List (κ × V)) (k:κ):List (κ × V):=kvs.filter fun kv=>decide (kv.1 ≠ k)
theorem Bh {p:κ × V} {r:List (κ × V)} {k:κ} (e:p.1=k):AX (p :: r) k=some p.2:=by simp [AX,Ru,e]
theorem AZ {p:κ × V} {r:List (κ × V)} {k:κ} (e:¬ p.1=k):AX (p :: r) k=AX r k:=by simp [AX,Ru,e]
theorem B3 (k:κ):∀ kvs:List (κ × V),(kvs.any fun kv=>decide (kv.1=k))=(AX kvs k).isSome
 | []=>rfl
 | p :: r=>by
  rw [Ri];by_cases e:p.1=k
  ·simp only [Bh e,decide_eq_true e,Bool.true_or,Option.isSome_some]
  ·rw [AZ e,decide_eq_false e,Bool.false_or]; exact B3 k r
theorem Gq (k j:κ) (y:V):∀ kvs:List (κ × V),AX (kvs.map fun kv=>if kv.1=k then (kv.1,y) else kv) j=(AX kvs j).map fun x=>if j=k then y else x
 | []=>rfl
 | p :: r=>by
  have ih:=Gq k j y r;rw [Qt];by_cases h:p.1=k
  ·rw [if_pos h];by_cases e:p.1=j
   ·rw [Bh (p:=(p.1,y)) e,Bh e,Rt,if_pos (e.symm.trans h)]
   ·rw [AZ (p:=(p.1,y)) e,AZ e,ih]
  ·rw [if_neg h];by_cases e:p.1=j
   ·rw [Bh (p:=p) e,Bh e,Rt,if_neg (fun z=>h (e.trans z))]
   ·rw [AZ (p:=p) e,AZ e,ih]
theorem Fo (k j:κ) (y:V):∀ kvs:List (κ × V),AX kvs k=none->AX (kvs ++ [(k,y)]) j=if j=k then some y else AX kvs j
 | [],_=>by
  by_cases e:k=j
  ·rw [if_pos e.symm]; exact Bh (p:=(k,y)) e
  ·rw [if_neg (fun z=>e z.symm)]; exact AZ (p:=(k,y)) e
 | p :: r,hn=>by
  rw [S6];have hk:¬ p.1=k:=fun z=>by rw [Bh z] at hn; cases hn
  rw [AZ hk] at hn;have ih:=Fo k j y r hn;by_cases e:p.1=j
  ·rw [Bh e,Bh e,if_neg (fun z=>hk (e.trans z))]
  ·rw [AZ e,AZ e,ih]
theorem JA (kvs:List (κ × V)) (k j:κ) (y:V):AX (Be kvs k y) j=if j=k then some y else AX kvs j:=by
 unfold Be;by_cases a:(kvs.any fun kv=>decide (kv.1=k))=true
 ·rw [if_pos a,Gq];rw [B3] at a;by_cases e:j=k
  ·obtain ⟨x,hx⟩:=R1.mp a;rw [if_pos e,e,hx,Rt,if_pos rfl]
  ·rw [if_neg e];cases AX kvs j with
   | none=>rfl
   | some x=>rw [Rt,if_neg e]
 ·rw [if_neg a];refine Fo k j y kvs ?_;rw [B3] at a;cases q:AX kvs k with
  | none=>rfl
  | some x=>rw [q] at a; exact (a rfl).elim
theorem BI (kvs:List (κ × V)) (k:κ) (v:V):(Be kvs k v).length<=kvs.length + 1:=by
 unfold Be;split
 ·rw [Qk]; lia
 ·rw [Qz,QF,SF]; lia
theorem Ka {kvs:List (κ × V)} {k:κ} (v:V) (h:AX kvs k=none):Be kvs k v=kvs ++ [(k,v)]:=by
 unfold Be;rw [B3,h];exact if_neg (by decide)
theorem DR.isSome_eq {o:Option V} {u:Option Value} (r:DR o u):o.isSome=u.isSome:=by
 cases o with
 | none=>cases u with
  | none=>rfl
  | some _=>exact (show False from r).elim
 | some _=>cases u with
  | none=>exact (show False from r).elim
  | some _=>rfl
theorem DR.getD {o:Option V} {u:Option Value} {d:V} {d':Value} (r:DR o u) (rd:As d d'):As (o.getD d) (u.getD d'):=by
 cases o with
 | none=>cases u with
  | none=>exact rd
  | some _=>exact (show False from r).elim
 | some _=>cases u with
  | none=>exact (show False from r).elim
  | some _=>exact r
theorem KV.val {kvs:List (κ × V)} {vs:List (κ × Value)} (r:KV kvs vs) (k:κ):DR (AX kvs k) (valueAt vs k):=by
 unfold KV at r;induction r with
 | nil=>exact True.intro
 | @cons p q ps qs h t ih=>
  obtain ⟨h1,h2⟩:=h;by_cases e:p.1=k
  ·have e':q.1=k:=h1.symm.trans e;have b:valueAt (q :: qs) k=some q.2:=by simp [valueAt,Ru,e']
   rw [Bh e,b]; exact h2
  ·have e':¬ q.1=k:=fun z=>e (h1.trans z)
   have b:valueAt (q :: qs) k=valueAt qs k:=by simp [valueAt,Ru,e']
   rw [AZ e,b]; exact ih
theorem KV.any {kvs:List (κ × V)} {vs:List (κ × Value)} (r:KV kvs vs) (k:κ):(kvs.any fun kv=>decide (kv.1=k))=vs.any fun kv=>decide (kv.1=k):=by
 unfold KV at r;induction r with
 | nil=>rfl
 | cons h t ih=>rw [Ri,Ri,ih,h.1]
theorem KV.repl {kvs:List (κ × V)} {vs:List (κ × Value)} (r:KV kvs vs) (k:κ) {y:V} {u:Value} (ry:As y u) :
  KV (kvs.map fun kv=>if kv.1=k then (kv.1,y) else kv) (vs.map fun kv=>if kv.1=k then (kv.1,u) else kv):=by
 unfold KV at r ⊢;induction r with
 | nil=>exact .nil
 | @cons p q ps qs h t ih=>
  rw [Qt,Qt];refine .cons ?_ ih;obtain ⟨h1,h2⟩:=h;by_cases e:p.1=k
  ·rw [if_pos e,if_pos (h1.symm.trans e)]; exact ⟨h1,ry⟩
  ·rw [if_neg e,if_neg (fun z=>e (h1.trans z))]; exact ⟨h1,h2⟩
theorem KV.put {kvs:List (κ × V)} {vs:List (κ × Value)} (r:KV kvs vs) (k:κ) {y:V} {u:Value} (ry:As y u):KV (Be kvs k y) (stored vs k u):=by
 unfold Be stored;rw [r.any k];by_cases e:(vs.any fun kv=>decide (kv.1=k))=true
 ·rw [if_pos e,if_pos e]; exact r.repl k ry
 ·rw [if_neg e,if_neg e]; exact Paired.snoc r ⟨rfl,ry⟩
theorem KV.drop {kvs:List (κ × V)} {vs:List (κ × Value)} (r:KV kvs vs) (k:κ):KV (EN kvs k) (without vs k):=by
 unfold KV at r ⊢;unfold EN without;induction r with
 | nil=>exact .nil
 | @cons p q ps qs h t ih=>
  obtain ⟨h1,h2⟩:=h;rw [S7,S7];by_cases e:p.1=k
  ·have a:¬ decide (p.1 ≠ k)=true:=by simp [e]
   have b:¬ decide (q.1 ≠ k)=true:=by simp [h1.symm.trans e]
   rw [if_neg a,if_neg b]; exact ih
  ·have e':¬ q.1=k:=fun z=>e (h1.trans z)
   have a:decide (p.1 ≠ k)=true:=by simp [e]
   have b:decide (q.1 ≠ k)=true:=by simp [e']
   rw [if_pos a,if_pos b]; exact .cons ⟨h1,h2⟩ ih
theorem KV.length {kvs:List (κ × V)} {vs:List (κ × Value)} (r:KV kvs vs):kvs.length=vs.length:=Paired.length r
theorem KP (kvs:List (κ × V)) (k:κ):(EN kvs k).length<=kvs.length:=Rh _ _
end
theorem Dw {P:Program} {w:World} {k:A5} {u:Value} (r:As (kV k) u):(AD P w).is k u=true:=by
 cases k with
 | inl i=>obtain ⟨t,e⟩:=(show ∃ t,u=Value.int i t from r); subst e; exact G6 P w i t
 | inr x=>obtain ⟨t,e⟩:=(show ∃ t,u=Value.str x t from r); subst e; exact G5 P w x t
theorem Fw {P:Program} {w:World}:∀ {ks:List A5} {us:List Value},A4 (ks.map kV) us->ItemsAre (AD P w) ks us
 | [],_,r=>by rw [R7] at r; cases r; exact .nil
 | k :: ks,_,r=>by
  rw [Qt] at r;cases r with
  | cons h t=>exact .cons (Dw h) (Fw t)
abbrev KT (H:Hp):List (List A5 × V)->List (List A5 × Addr × Value)->Prop:=Paired fun p q=>p.1=q.1/\H q.2.1=some (.tup (p.1.map kV))/\As p.2 q.2.2
theorem KT.val {H:Hp} {kvs:List (List A5 × V)} {xs:List (List A5 × Addr × Value)} (r:KT H kvs xs) (k:List A5):DR (AX kvs k) ((atKey xs k).map (·.2)):=by
 induction r with
 | nil=>exact True.intro
 | @cons p q ps qs h t ih=>
  obtain ⟨h1,_,h2⟩:=h;by_cases e:p.1=k
  ·have e':q.1=k:=h1.symm.trans e;have b:atKey (q :: qs) k=some q.2:=by simp [atKey,Ru,e']
   rw [Bh e,b]; exact h2
  ·have e':¬ q.1=k:=fun z=>e (h1.trans z)
   have b:atKey (q :: qs) k=atKey qs k:=by simp [atKey,Ru,e']
   rw [AZ e,b]; exact ih
theorem KT.repl {H:Hp} {kvs:List (List A5 × V)} {xs:List (List A5 × Addr × Value)} (r:KT H kvs xs) (k:List A5) {y:V} {u:Value} (ry:As y u) :
  KT H (kvs.map fun kv=>if kv.1=k then (kv.1,y) else kv) (xs.map (putAt k u)):=by
 induction r with
 | nil=>exact .nil
 | @cons p q ps qs h t ih=>
  rw [Qt,Qt];refine .cons ?_ ih;obtain ⟨h1,h2,h3⟩:=h;unfold putAt;by_cases e:p.1=k
  ·rw [if_pos e,if_pos (h1.symm.trans e)]; exact ⟨h1,h2,ry⟩
  ·rw [if_neg e,if_neg (fun z=>e (h1.trans z))]; exact ⟨h1,h2,h3⟩
theorem KT.put {H:Hp} {kvs:List (List A5 × V)} {xs:List (List A5 × Addr × Value)} (r:KT H kvs xs) (k:List A5) {b:Addr} {y:V} {u:Value} (hb:H b=some (.tup (k.map kV))) (ry:As y u) :
  KT H (Be kvs k y) (storedH xs k b u):=by
 have e:(kvs.any fun kv=>decide (kv.1=k))=(atKey xs k).isSome:=by
  rw [B3,(r.val k).isSome_eq,RI]
 unfold Be storedH;rw [e];by_cases q:(atKey xs k).isSome=true
 ·rw [if_pos q,if_pos q]; exact r.repl k ry
 ·rw [if_neg q,if_neg q]; exact Paired.snoc r ⟨rfl,hb,ry⟩
theorem KT.keeps {H H':Hp} {kvs:List (List A5 × V)} {xs:List (List A5 × Addr × Value)} (r:KT H kvs xs) (ht:∀ b ys,H b=some (.tup ys)->H' b=some (.tup ys)):KT H' kvs xs:=
 Paired.mapP r fun _ _ z=>⟨z.1,ht _ _ z.2.1,z.2.2⟩
section
variable {P:Program} {w:World} {H:Hp} {h:Heap} {a:Addr}
theorem Mp {u:HO} (ok:Dk P w H h) (e:Rd H a u):Ax P w H h a u:=e.ok ok
theorem EO {kvs:List (A5 × V)} (ok:Dk P w H h) (e:Rd H a (.dK kvs)):kvs.length<=sizeLine/\(a == sysModules)=false/\∃ vs,KV kvs vs/\h.DictOf (AD P w) a vs:=
 show Ax P w H h a (.dK kvs) from Mp ok e
theorem Iv {kvs:List (A5 × V)} (ok:Dk P w H h) (e:H a=some (.dK kvs)):kvs.length<=sizeLine/\(a == sysModules)=false/\∃ vs,KV kvs vs/\h.DictOf (AD P w) a vs:=EO ok (.inl e)
theorem DH {ks:List A5} (ok:Dk P w H h) (e:H a=some (.tup (ks.map kV))):(tupleKind (AD P w)).is h ks a:=by
 obtain ⟨_,Ar,r,⟨o,h1,h2,n,h3⟩,_⟩:=(show Ax P w H h a (.tup (ks.map kV)) from ok a _ e)
 exact ⟨o,Ar.toArray,n,h1,h2,h3,by simpa using Fw r⟩
theorem EM {kvs:List (List A5 × V)} (ok:Dk P w H h) (e:Rd H a (.dT kvs)):kvs.length<=sizeLine/\(a == sysModules)=false /\
  ∃ xs,KT H kvs xs/\h.DictOfH (tupleKind (AD P w)) a xs:=by
 obtain ⟨z,y,xs,r,o,es,ep,h1,h2,h3,h4,h5⟩:=(show Ax P w H h a (.dT kvs) from Mp ok e)
 refine ⟨z,y,xs,r,o,es,ep,h1,h2,h3,h4,fun x hx=>?_,h5⟩;have all:∀ {l:List (List A5 × V)} {m:List (List A5 × Addr × Value)},KT H l m->∀ x ∈ m,(tupleKind (AD P w)).is h x.1 x.2.1:=by
  intro l m q;induction q with
  | nil=>intro x hx; exact nomatch hx
  | @cons p q ps qs hq t ih=>
   intro x hx;rcases Qn.mp hx with e | hx
   ·subst e;exact DH ok (by rw [<-hq.1]; exact hq.2.1)
   ·exact ih x hx
 exact all r x hx
theorem dt_of {kvs:List (List A5 × V)} (ok:Dk P w H h) (e:H a=some (.dT kvs)):kvs.length<=sizeLine/\(a == sysModules)=false /\
  ∃ xs,KT H kvs xs/\h.DictOfH (tupleKind (AD P w)) a xs:=EM ok (.inl e)
end
def Bo (H:Hp) (a:Addr) (y:V) (r:Option V):Prop:=
 (∃ kvs k,Rd H a (.dK kvs)/\y=kV k/\r=AX kvs k)\/∃ kvs k b,Rd H a (.dT kvs)/\y=.ref b/\H b=some (.tup (k.map kV))/\r=AX kvs k
def CC (H:Hp) (a:Addr) (y v:V) (H':Hp):Prop:=
 (∃ kvs k,H a=some (.dK kvs)/\y=kV k/\kvs.length < sizeLine/\H'=upd H a (.dK (Be kvs k v))) \/
 ∃ kvs k b,H a=some (.dT kvs)/\y=.ref b/\H b=some (.tup (k.map kV))/\kvs.length < sizeLine/\H'=upd H a (.dT (Be kvs k v))
theorem Bo.k {H:Hp} {a:Addr} {kvs:List (A5 × V)} {k:A5} (e:H a=some (.dK kvs)):Bo H a (kV k) (AX kvs k):=.inl ⟨kvs,k,.inl e,rfl,rfl⟩
theorem Bo.t {H:Hp} {a b:Addr} {kvs:List (List A5 × V)} {k:List A5} (e:H a=some (.dT kvs)) (eb:H b=some (.tup (k.map kV))):Bo H a (.ref b) (AX kvs k):=.inr ⟨kvs,k,b,.inl e,rfl,eb,rfl⟩
theorem CC.k {H:Hp} {a:Addr} {kvs:List (A5 × V)} {k:A5} {v:V} (e:H a=some (.dK kvs)) (hl:kvs.length < sizeLine):CC H a (kV k) v (upd H a (.dK (Be kvs k v))):=.inl ⟨kvs,k,e,rfl,hl,rfl⟩
theorem CC.t {H:Hp} {a b:Addr} {kvs:List (List A5 × V)} {k:List A5} {v:V} (e:H a=some (.dT kvs)) (eb:H b=some (.tup (k.map kV))) (hl:kvs.length < sizeLine) :
  CC H a (.ref b) v (upd H a (.dT (Be kvs k v))):=.inr ⟨kvs,k,b,e,rfl,eb,hl,rfl⟩
section
variable {X:Cx} {pins:List (Addr × Obj)} {σ:St} {H:Hp} {s:Shared} {a:Addr} {y v:V} {u r:Value} {o:Option V} {A:Around} {E:Value->Shared->Prop}
theorem Ak.big (I:Ak X pins σ H s):sysModules < s.heap.objs.size:=by
 have h:mainGlobals < s.heap.objs.size:=(I.mod.glob.keeps I.bk).lt;exact Nat.lt_trans (by decide) h
theorem Js {Q:Value->Shared->Prop} (hu:A.units + 1 < cLine) (I:Ak X pins σ H s) (g:Bo H a y (some v)) (ry:As y u) (h:∀ w' s',Ak X pins σ H s'->As v w'->Q w' s') :
  wpAny (model X.prog X.w) A (getItem (.ref a) u) Q E s:=by
 rcases g with ⟨kvs,k,e,ey,l⟩ | ⟨kvs,k,b,e,ey,eb,l⟩
 ·subst ey;obtain ⟨z,hd,vs,rel,dd⟩:=EO I.hok e;obtain ⟨w',hw,JW⟩:=DR.some_of (v:=v) (o:=valueAt vs k) (by rw [l]; exact rel.val k);exact wpAny_getItem_of (Dw ry) dd.mapOf hw (h w' _ (I.tok _) JW)
 ·subst ey;cases (show u=Value.ref b from ry)
  obtain ⟨z,hd,xs,rel,dd⟩:=EM I.hok e;obtain ⟨w',hw,JW⟩:=DR.some_of (v:=v) (o:=(atKey xs k).map (·.2)) (by rw [l]; exact rel.val k);obtain ⟨p,hp,hp2⟩:=Option.map_eq_some_iff.mp hw;refine wpAny_getItem_heap (tupleKind_room_in1 hu) (DH I.hok eb) dd hp ?_;rw [hp2];exact h w' _ (I.tok _) JW
theorem d_in {Q:Value->Shared->Prop} (hu:A.units + 1 < cLine) (I:Ak X pins σ H s) (g:Bo H a y o) (ry:As y u) (h:∀ s',Ak X pins σ H s'->Q (.bool o.isSome) s') :
  wpAny (model X.prog X.w) A (compareOp .In u (.ref a)) Q E s:=by
 rcases g with ⟨kvs,k,e,ey,l⟩ | ⟨kvs,k,b,e,ey,eb,l⟩
 ·subst ey;obtain ⟨z,hd,vs,rel,dd⟩:=EO I.hok e;refine wpAny_in_of (Dw ry) hd dd.mapOf ?_;rw [<-(rel.val k).isSome_eq,<-l];exact h _ (I.tok _)
 ·subst ey;cases (show u=Value.ref b from ry)
  obtain ⟨z,hd,xs,rel,dd⟩:=EM I.hok e;refine wpAny_in_heap (tupleKind_room_in1 hu) (DH I.hok eb) hd dd ?_;have q:=(rel.val k).isSome_eq;rw [RI] at q;rw [<-q,<-l];exact h _ (I.tok _)
theorem LZ {Q:Value->Shared->Prop} (hu:A.units + 1 < cLine) (I:Ak X pins σ H s) (g:Bo H a y o) (ry:As y u) (h:∀ s',Ak X pins σ H s'->Q (.bool (!o.isSome)) s') :
  wpAny (model X.prog X.w) A (compareOp .NotIn u (.ref a)) Q E s:=by
 rcases g with ⟨kvs,k,e,ey,l⟩ | ⟨kvs,k,b,e,ey,eb,l⟩
 ·subst ey;obtain ⟨z,hd,vs,rel,dd⟩:=EO I.hok e;refine wpAny_notIn_of (Dw ry) hd dd.mapOf ?_;rw [<-(rel.val k).isSome_eq,<-l];exact h _ (I.tok _)
 ·subst ey;cases (show u=Value.ref b from ry)
  obtain ⟨z,hd,xs,rel,dd⟩:=EM I.hok e;refine wpAny_notIn_heap (tupleKind_room_in1 hu) (DH I.hok eb) hd dd ?_;have q:=(rel.val k).isSome_eq;rw [RI] at q;rw [<-q,<-l];exact h _ (I.tok _)
theorem Dz {h':Heap} {t':Nat} {ob:HO} (I:Ak X pins σ H s) (mu:Mut (H a)) (hs:Heap.SameBut a s.heap h') (he:∃ q,h'.get? a=some q) (new:Ax X.prog X.w (upd H a ob) h' a ob) :
  Ak X pins σ (upd H a ob) { s with heap:=h',toks:=t' }:=
 I.write (x:=a) (e:=a) mu (.inl rfl) (fun b q hb z=>(hs.2 b hb).trans z) he new
theorem Gf {P:Program} {w:World} {H':Hp} {h':Heap} {kvs:List (A5 × V)} {vs:List (A5 × Value)} (z:kvs.length<=sizeLine) (hd:(a == sysModules)=false) (rel:KV kvs vs) (dd:h'.DictOf (AD P w) a vs) :
  Ax P w H' h' a (.dK kvs):=⟨z,hd,vs,rel,dd⟩
theorem Jr {H':Hp} {Q:Unit->Shared->Prop} (hu:A.units + 1 < cLine) (I:Ak X pins σ H s) (g:CC H a y v H') (ry:As y u) (rv:As v r) (h:∀ s',Ak X pins σ H' s'->Q () s') :
  wpAny (model X.prog X.w) A (setItem (.ref a) u r) Q E s:=by
 rcases g with ⟨kvs,k,e,ey,l,eH⟩ | ⟨kvs,k,b,e,ey,eb,l,eH⟩
 ·subst ey eH;obtain ⟨z,hd,vs,rel,dd⟩:=Iv I.hok e;have hz:vs.length<=sizeLine:=by rw [<-rel.length]; exact z
  have hl:(Be kvs k v).length<=sizeLine:=by have:=BI kvs k v; lia
  refine wpAny_setItem_pairs (hsz:=hz) (Dw ry) dd fun h' Jp hs=>h _ ?_
  have he:∃ q,h'.get? a=some q:=let ⟨q,_,_,hq,_⟩:=Jp; ⟨q,hq⟩;exact Dz I (by rw [e]; exact True.intro) hs he (Gf hl hd (rel.put k rv) Jp)
 ·subst ey eH;cases (show u=Value.ref b from ry)
  obtain ⟨z,hd,xs,rel,dd⟩:=dt_of I.hok e;have hz:xs.length<=sizeLine:=by rw [<-Paired.length rel]; exact z
  have hl:(Be kvs k v).length<=sizeLine:=by have:=BI kvs k v; lia
  refine wpAny_setItem_heap (hsz:=hz) (tupleKind_room_in1 hu) (DH I.hok eb) dd fun h' Jp hs=>h _ ?_
  obtain ⟨q,es,ep,hq,h2,h3,h4,_,h5⟩:=Jp;refine Dz I (by rw [e]; exact True.intro) hs ⟨q,hq⟩ ⟨hl,hd,_,(rel.put k eb rv).keeps fun c ys ec=>?_,q,es,ep,hq,h2,h3,h4,h5⟩;rw [Af (Bn ec e (fun z=>nomatch z))];exact ec
end
section
variable {X:Cx} {pins:List (Addr × Obj)} {σ:St} {H:Hp} {s:Shared} {a:Addr} {kvs:List (A5 × V)} {k:A5} {u:Value} {A:Around} {E:Value->Shared->Prop}
theorem Jt {Q:Unit->Shared->Prop} (I:Ak X pins σ H s) (e:H a=some (.dK kvs)) (ry:As (kV k) u) (l:(AX kvs k).isSome=true) (h:∀ s',Ak X pins σ (upd H a (.dK (EN kvs k))) s'->Q () s') :
  wpAny (model X.prog X.w) A (delItem (.ref a) u) Q E s:=by
 obtain ⟨z,hd,vs,rel,dd⟩:=Iv I.hok e;refine wpAny_delItem_slot dd.typeIs (by decide) PySem.F.slot_dict_delitem
  (call_meetsIn PySem.F.slot_dict_delitem dd.typeIs PySem.F.entry_dict_delitem (PySem.F.args_dict_delitem_2 _ _) (meets_dict_delitem_pairs (AD X.prog X.w) a (Dw ry)) ⟨vs,dd,by rw [<-rel.length]; exact z,by rw [<-(rel.val k).isSome_eq]; exact l,fun h' Jp hs=>h _ ?_⟩)
 have he:∃ q,h'.get? a=some q:=let ⟨q,_,_,hq,_⟩:=Jp; ⟨q,hq⟩;exact Dz I (by rw [e]; exact True.intro) hs he (Gf (QE (KP kvs k) z) hd (rel.drop k) Jp)
end
def NoSl (i:Expr):Prop:=∀ ov iv,subscripted i false ov iv=operate [ov,iv] (getItem ov iv)
theorem Ln {prog:Program} {w:World} {A:Around} {E:Value->Shared->Prop} {s:Shared} {env:Env} {value slice:Expr} {pos:Pos} {T id:String} {Q:Value->Shared->Prop}
  (hl:typeLookup (.type T) "__getitem__"=pure (some (.builtin id))) (hs:NoSl slice)
  (h:wpAny (model prog w) A (eval value env) (fun o AB=>wpAny (model prog w) A (eval slice env) (fun i Dn=>Dn.TypeIs o T/\wpAny (model prog w) A (getItem o i) Q E Dn) E AB) E s) :
  wpAny (model prog w) A (eval (.Subscript value slice pos) env) Q E s:=by
 refine Subscript_ (wpAny_mono h (fun o AB Bb=>wpAny_mono Bb (fun i Dn Hs=>?_) fun _ _ x=>x) fun _ _ x=>x);obtain ⟨hT,Hs⟩:=Hs;unfold subscriptTail;refine wpAny_bind ?_;rw [getitemInPython_of_ne hT.not_modules];refine wpAny_bind (wpAny_specialOf hT hl ?_);have fin:wpAny (model prog w) A (subscripted slice false o i) (fun r BG=>wpAny (model prog w) A (letTemporaryGo value o r >>= fun _=>pure r) Q E BG) E Dn:=by
  rw [hs o i];exact wpAny_operating (wpAny_mono Hs (fun r BG Hr=>wpAny_bind (wpAny_letTemporaryGo (wpAny_pure Hr))) fun _ _ x=>x)
 first
  | exact wpAny_pure (wpAny_bind fin)
  | exact wpAny_bind (wpAny_pure (wpAny_bind fin))
  | exact wpAny_bind fin
theorem GG {X:Cx} {pins:List (Addr × Obj)} {σ:St} {H:Hp} {s:Shared} {a:Addr} {y:V} {o:Option V} (I:Ak X pins σ H s) (g:Bo H a y o):s.TypeIs (.ref a) "dict":=by
 rcases g with ⟨kvs,k,e,_,_⟩ | ⟨kvs,k,b,e,_,_,_⟩
 ·obtain ⟨_,_,vs,_,dd⟩:=EO I.hok e;exact dd.typeIs
 ·obtain ⟨_,_,xs,_,dd⟩:=EM I.hok e;exact dd.typeIs
def tDGet (td ty:TE):TE:=fun σ H Q=>td σ H fun x H1=>ty σ H1 fun y H2=>∃ a v,x=.ref a/\Bo H2 a y (some v)/\Q v H2
def tDIn (ty td:TE):TE:=fun σ H Q=>ty σ H fun y H1=>td σ H1 fun x H2=>∃ a o,x=.ref a/\Bo H2 a y o/\Q (.bl o.isSome) H2
def Ll (ty td:TE):TE:=fun σ H Q=>ty σ H fun y H1=>td σ H1 fun x H2=>∃ a o,x=.ref a/\Bo H2 a y o/\Q (.bl (!o.isSome)) H2
def sDPut (td ty tv:TE):TS:=fun D σ H=>tv σ H fun v H1=>td σ H1 fun x H2=>ty σ H2 fun y H3=>∃ a H4,x=.ref a/\CC H3 a y v H4/\D.nx σ H4
def sDDel (td ty:TE):TS:=fun D σ H=>td σ H fun x H1=>ty σ H1 fun y H2=>∃ a kvs k,x=.ref a/\H2 a=some (.dK kvs)/\y=kV k/\(AX kvs k).isSome=true/\D.nx σ (upd H2 a (.dK (EN kvs k)))
section
variable {X:Cx} {o i e value:Expr} {pos pos' tpos:Pos} {td ty tv:TE}
theorem A2 (hu:X.A.units + 1 < cLine) (ho:PE X o td) (hi:PE X i ty) (hs:NoSl i):PE X (.Subscript o i pos) (tDGet td ty):=by
 intro pins s σ H Q I h;refine Ln PySem.F.slot_dict_getitem.lookup hs (Bj (ho (pins:=pins) s σ H _ I h) fun u s1 ⟨x,H1,I1,rx,q1⟩=>Bj (hi (pins:=pins) s1 σ H1 _ I1 q1) fun iv s2 ⟨y,H2,I2,ry,a,v,ex,g,q2⟩=>?_);subst ex;obtain rfl:u=Value.ref a:=rx;exact ⟨GG I2 g,Js hu I2 g ry fun w' s3 I3 JW=>⟨v,H2,I3,JW,q2⟩⟩
theorem Kj (hu:X.A.units + 1 < cLine) (hi:PE X i ty) (ho:PE X o td):PC X .In i o (tDIn ty td):=by
 intro pins s σ H Q I h;refine Bj (hi (pins:=pins) s σ H _ I h) fun iv s1 ⟨y,H1,I1,ry,q1⟩=>Bj (ho (pins:=pins) s1 σ H1 _ I1 q1) fun u s2 ⟨x,H2,I2,rx,a,ov,ex,g,q2⟩=>?_
 subst ex;obtain rfl:u=Value.ref a:=rx;exact d_in hu I2 g ry fun s3 I3=>⟨.bl ov.isSome,H2,I3,rfl,q2⟩
theorem Fq (hu:X.A.units + 1 < cLine) (hi:PE X i ty) (ho:PE X o td):PC X .NotIn i o (Ll ty td):=by
 intro pins s σ H Q I h;refine Bj (hi (pins:=pins) s σ H _ I h) fun iv s1 ⟨y,H1,I1,ry,q1⟩=>Bj (ho (pins:=pins) s1 σ H1 _ I1 q1) fun u s2 ⟨x,H2,I2,rx,a,ov,ex,g,q2⟩=>?_
 subst ex;obtain rfl:u=Value.ref a:=rx;exact LZ hu I2 g ry fun s3 I3=>⟨.bl (!ov.isSome),H2,I3,rfl,q2⟩
theorem Bv (hu:X.A.units + 1 < cLine) (ho:PE X o td) (hi:PE X i ty) (hv:PE X value tv) (hs:swapsWith value (some (.Subscript o i pos')) pos.line X.env=pure false) :
  PS X (.Assign [.Subscript o i pos'] value pos) (sDPut td ty tv):=by
 intro pins s σ H D I h;refine wpAny_Assign_Subscript (Bj (hv (pins:=pins) s σ H _ I h) fun r s1 ⟨v,H1,I1,rv,q1⟩=>Bj (ho (pins:=pins) s1 σ H1 _ I1 q1) fun u s2 ⟨x,H2,I2,rx,q2⟩=>Bj (hi (pins:=pins) s2 σ H2 _ I2 q2) fun iv s3 ⟨y,H3,I3,ry,a,H4,ex,g,q3⟩=>?_) hs;subst ex;obtain rfl:u=Value.ref a:=rx;exact Jr hu I3 g ry rv fun s4 I4=>⟨σ,H4,I4,q3⟩
theorem Lw (ho:PE X o td) (hi:PE X i ty):PS X (.Delete [.Subscript o i tpos] pos) (sDDel td ty):=by
 intro pins s σ H D I h;refine wpAny_Delete (wpAny_deleteEach_cons (wpAny_delete_Subscript (Bj (ho (pins:=pins) s σ H _ I h) fun u s1 ⟨x,H1,I1,rx,q1⟩=>Bj (hi (pins:=pins) s1 σ H1 _ I1 q1) fun iv s2 ⟨y,H2,I2,ry,a,kvs,k,ex,e,ey,l,q2⟩=>?_)));subst ex ey;obtain rfl:u=Value.ref a:=rx;exact Jt I2 e ry l fun s3 I3=>wpAny_deleteEach_nil ⟨σ,_,I3,q2⟩
end
theorem Dy {P:Program} {w:World} {H:Hp} (h:Heap) (hb:sysModules < h.objs.size):Ax P w H (h.push { cls:=.type "dict",data:=.dict #[] }) h.objs.size (.dK []):=
 ⟨QH _,beq_eq_false_iff_ne.mpr (Ne.symm (Qv hb)),[],.nil,Heap.DictOf.new h⟩
theorem KO {P:Program} {w:World} {H:Hp} (h:Heap) (hb:sysModules < h.objs.size):Ax P w H (h.push { cls:=.type "dict",data:=.dict #[] }) h.objs.size (.dT []):=
 ⟨QH _,beq_eq_false_iff_ne.mpr (Ne.symm (Qv hb)),[],.nil,_,#[],0,Q4 _ rfl,⟨rfl,rfl,rfl⟩,rfl,rfl,RC⟩
def MI:TE:=fun _ H Q=>∀ p,H p=none->Q (.ref p) (upd H p (.dK []))
def MH:TE:=fun _ H Q=>∀ p,H p=none->Q (.ref p) (upd H p (.dT []))
section
variable {X:Cx} {pos:Pos}
theorem E3:PE X (.Dict [] [] pos) MI:=fun pins s σ H Q I h=>
 wpAny_Dict_empty ⟨.ref s.heap.objs.size,_,I.laid (a:=s.heap.objs.size) (o:=.dK []) (t':=s.toks) (fun _ _ q=>Ql _ q) (Qo _) (Dy s.heap I.big),rfl,h _ (I.hok.fresh (Qo _))⟩
theorem Kg:PE X (.Dict [] [] pos) MH:=fun pins s σ H Q I h=>
 wpAny_Dict_empty ⟨.ref s.heap.objs.size,_,I.laid (a:=s.heap.objs.size) (o:=.dT []) (t':=s.toks) (fun _ _ q=>Ql _ q) (Qo _) (KO s.heap I.big),rfl,h _ (I.hok.fresh (Qo _))⟩
end
def Ha:List (TE × TE)->St->Hp->(List (V × V)->Hp->Prop)->Prop
 | [],_,H,Q=>Q [] H
 | (tk,tv) :: r,σ,H,Q=>tk σ H fun x H1=>tv σ H1 fun y H2=>Ha r σ H2 fun ps H3=>Q ((x,y) :: ps) H3
abbrev VV:List (V × V)->List (Value × Value)->Prop:=Paired fun p q=>As p.1 q.1/\As p.2 q.2
def PPs (X:Cx) (pos:Pos) (keys:List (Option Expr)) (values:List Expr) (trs:List (TE × TE)):Prop:=
 ∀ ⦃pins:List (Addr × Obj)⦄ (s:Shared) (σ:St) (H:Hp) (Q:List (V × V)->Hp->Prop),Ak X pins σ H s->Ha trs σ H Q ->
  wpAny (model X.prog X.w) X.A (evalPairs (pairTrees keys values X.env pos)) (fun vs s'=>∃ ps H',Ak X pins σ H' s'/\VV ps vs/\Q ps H') X.xe s
theorem Lx {X:Cx} {pos:Pos}:PPs X pos [] [] []:=fun pins s σ H Q I h=>pairTrees_nil_walk ⟨[],H,I,.nil,h⟩
theorem E2 {X:Cx} {pos:Pos} {k v:Expr} {ks:List (Option Expr)} {vs:List Expr} {tk tv:TE} {trs:List (TE × TE)} (hk:PE X k tk) (hv:PE X v tv) (hr:PPs X pos ks vs trs) :
  PPs X pos (some k :: ks) (v :: vs) ((tk,tv) :: trs):=fun pins s σ H Q I h=>
 pairTrees_cons_walk (Bj (hk (pins:=pins) s σ H _ I h) fun u s1 ⟨x,H1,I1,rx,q1⟩=>Bj (hv (pins:=pins) s1 σ H1 _ I1 q1) fun w2 s2 ⟨y,H2,I2,ry,q2⟩=>
  Bj (hr (pins:=pins) s2 σ H2 _ I2 q2) fun ws s3 ⟨ps,H3,I3,rel,q3⟩=>⟨(x,y) :: ps,H3,I3,.cons ⟨rx,ry⟩ rel,q3⟩)
def ED (kvs more:List (A5 × V)):List (A5 × V):=more.foldl (fun acc kv=>Be acc kv.1 kv.2) kvs
theorem KV.merge:∀ {more:List (A5 × V)} {rs:List (A5 × Value)} {kvs:List (A5 × V)} {vs:List (A5 × Value)},KV more rs->KV kvs vs->KV (ED kvs more) (merged vs rs):=by
 intro more rs kvs vs r;unfold KV at r;induction r generalizing kvs vs with
 | nil=>intro q; exact q
 | @cons p q ps qs h t ih=>
  intro r0;have e:KV (Be kvs p.1 p.2) (stored vs q.1 q.2):=by
   have:=r0.put p.1 h.2;rw [<-h.1]; exact this
  exact ih e
theorem CY:∀ (more kvs:List (A5 × V)),(ED kvs more).length<=kvs.length + more.length
 | [],kvs=>by show kvs.length<=kvs.length + 0; lia
 | p :: r,kvs=>by
  have h1:=CY r (Be kvs p.1 p.2);have h2:=BI kvs p.1 p.2;show (ED (Be kvs p.1 p.2) r).length<=_
  rw [QF]; lia
theorem EU {P:Program} {w:World}:∀ {kvs:List (A5 × V)} {ws:List (Value × Value)},VV (kvs.map fun kv=>(kV kv.1,kv.2)) ws->∃ rs,Carries (AD P w) ws rs/\KV kvs rs
 | [],_,r=>by rw [R7] at r; cases r; exact ⟨[],True.intro,.nil⟩
 | p :: kvs,_,r=>by
  rw [Qt] at r;cases r with
  | @cons a b as bs h t=>
   obtain ⟨rs,c,q⟩:=EU (P:=P) (w:=w) t;obtain ⟨b1,b2⟩:=b;exact ⟨(p.1,b2) :: rs,⟨Dw h.1,rfl,c⟩,.cons ⟨rfl,h.2⟩ q⟩
def tDisp (trs:List (TE × TE)):TE:=fun σ H Q=>∀ p,H p=none->Ha trs σ (upd H p (.dK [])) fun ps H2=>H2 p=some (.dK [])/\∃ kvs:List (A5 × V),ps=kvs.map (fun kv=>(kV kv.1,kv.2))/\kvs.length<=15/\Q (.ref p) (upd H2 p (.dK (ED [] kvs)))
theorem L1 {X:Cx} {pos:Pos} {keys:List (Option Expr)} {values:List Expr} {trs:List (TE × TE)} (h:PPs X pos keys values trs) (hall:keys.all (·.isSome)=true) (hl:keys.length=values.length) (h0:keys ≠ [])
  (h15:keys.length<=15):PE X (.Dict keys values pos) (tDisp trs):=by
 intro pins s σ H Q I q;have hn:=I.hok.fresh (Qo s.heap.objs.size);have I1:=I.laid (a:=s.heap.objs.size) (o:=.dK []) (h':=s.heap.push { cls:=.type "dict",data:=.dict #[] }) (t':=s.toks) (fun _ _ q=>Ql _ q) (Qo _) (Dy s.heap I.big);refine wpAny_Dict_walk (knd:=AD X.prog X.w) hall hl h0 h15 (Bj (h (pins:=pins) _ σ _ _ I1 (q _ hn)) fun ws s2 ⟨ps,H2,I2,rel,e,kvs,ep,lk,q2⟩=>?_);subst ep;obtain ⟨rs,c,rk⟩:=EU (P:=X.prog) (w:=X.w) rel;obtain ⟨z,hd,Gn,r0,dd⟩:=Iv I2.hok e;cases r0
 refine ⟨rs,c,dd,fun h' Jp hs=>⟨.ref s.heap.objs.size,_,?_,rfl,q2⟩⟩;have hz:(ED [] kvs).length<=sizeLine:=by
  have h1:=CY kvs [];rw [SF] at h1;rw [sizeLine_eq]; lia
 have he:∃ q,h'.get? s.heap.objs.size=some q:=let ⟨q,_,_,hq,_⟩:=Jp; ⟨q,hq⟩;exact Dz I2 (by rw [e]; exact True.intro) hs he (Gf hz hd (rk.merge .nil) Jp)
structure M2 (X:Cx) (o:Expr) (m:Str) (apos:Pos) (e f:Expr) (CK:Pos):Prop where
 base:attributeBase o m X.env (eval o X.env)=eval o X.env
 few:((backTo CK (starEach [e,f] X.env)).all (fun x=>!x.1) && (backToKw CK (keywordEach [] X.env)).all (fun x=>x.1.isSome)
  && decide (([e,f]:List Expr).length + ([]:List Keyword).length + (if ([]:List Keyword).isEmpty then 0 else 1) < 30))=true
 line:(apos.endLine == CK.line)=true
 trees:backTo CK (starEach [e,f] X.env)=[(false,eval e X.env),(false,eval f X.env)]
def IsD (H:Hp) (a:Addr):Prop:=(∃ kvs,Rd H a (.dK kvs))\/∃ kvs,Rd H a (.dT kvs)
theorem Nk {X:Cx} {pins:List (Addr × Obj)} {σ:St} {H:Hp} {s:Shared} {a:Addr} (I:Ak X pins σ H s) (d:IsD H a) :
  s.TypeIs (.ref a) "dict"/\(∀ b,Value.ref a=.ref b->∃ ob,s.heap.get? b=some ob/\ob.dict=none)/\(a == sysModules)=false:=by
 rcases d with ⟨kvs,e⟩ | ⟨kvs,e⟩
 ·obtain ⟨_,hd,vs,_,dd⟩:=EO I.hok e;refine ⟨dd.typeIs,fun b q=>?_,hd⟩;cases q
  obtain ⟨ob,_,_,h1,h2,_⟩:=dd;exact ⟨ob,h1,h2.2.1⟩
 ·obtain ⟨_,hd,xs,_,dd⟩:=EM I.hok e;refine ⟨dd.typeIs,fun b q=>?_,hd⟩;cases q
  obtain ⟨ob,_,_,h1,h2,_⟩:=dd;exact ⟨ob,h1,h2.2.1⟩
section
variable {X:Cx} {pins:List (Addr × Obj)} {σ:St} {H:Hp} {s:Shared} {a:Addr} {y d:V} {u r:Value} {o:Option V} {A:Around} {E:Value->Shared->Prop}
theorem NC {Q:Value->Shared->Prop} (hu:A.units + 1 < cLine) (I:Ak X pins σ H s) (g:Bo H a y o) (ry:As y u) (rd:As d r) (h:∀ w' s',Ak X pins σ H s'->As (o.getD d) w'->Q w' s') :
  wpAny (model X.prog X.w) A (call (.builtin "dict.get") [.ref a,u,r]) Q E s:=by
 rcases g with ⟨kvs,k,e,ey,l⟩ | ⟨kvs,k,b,e,ey,eb,l⟩
 ·subst ey;obtain ⟨z,hd,vs,rel,dd⟩:=EO I.hok e;refine call_meetsIn PySem.F.slot_dict_get dd.typeIs PySem.F.entry_dict_get (PySem.F.args_dict_get_3 _ _ _) (meets_dict_get_default (AD X.prog X.w) a (Dw ry) hd r) ⟨_,dd.mapOf,h _ _ (I.tok _) ?_⟩;rw [l];exact (rel.val k).getD rd
 ·subst ey;cases (show u=Value.ref b from ry)
  obtain ⟨z,hd,xs,rel,dd⟩:=EM I.hok e;refine call_meetsIn PySem.F.slot_dict_get dd.typeIs PySem.F.entry_dict_get (PySem.F.args_dict_get_3 _ _ _) (meetsH_dict_get_default (tupleKind (AD X.prog X.w)) a b hd r) ⟨tupleKind_room_in1 hu,k,xs,DH I.hok eb,dd,h _ _ (I.tok _) ?_⟩;rw [l];exact (rel.val k).getD rd
end
def MJ (td ty tx:TE):TE:=fun σ H Q=>td σ H fun x H1=>∃ a,x=.ref a/\IsD H1 a/\ty σ H1 fun y H2=>tx σ H2 fun z H3=>∃ o,Bo H3 a y o/\Q (o.getD z) H3
section
variable {X:Cx} {o e f:Expr} {apos CK:Pos} {td ty tx:TE}
theorem Kh (hu:X.A.units + 1 < cLine) (ho:PE X o td) (he:PE X e ty) (hf:PE X f tx) (m:M2 X o "get" apos e f CK):PE X (.Call (.Attribute o "get" apos) [e,f] [] CK) (MJ td ty tx):=by
 intro pins s σ H Q I h;refine wpAny_Call_method m.base m.few m.line PySem.F.plainAttrs_dict PySem.F.slot_dict_get PySem.F.type_dict_get (Bj (ho (pins:=pins) s σ H _ I h) fun u s1 ⟨x,H1,I1,rx,a,ex,d,q1⟩=>?_);subst ex;obtain rfl:u=Value.ref a:=rx;obtain ⟨t1,t2,_⟩:=Nk I1 d;refine ⟨t1,t2,?_⟩;rw [m.trees];refine Calls.callWith_builtin rfl (Calls.evalArgs_plain (Calls.spliced_cons (Bj (he (pins:=pins) s1 σ H1 _ I1 q1) fun iv s2 ⟨y,H2,I2,ry,q2⟩=>
  Calls.spliced_cons (Bj (hf (pins:=pins) s2 σ H2 _ I2 q2) fun fv s3 ⟨z,H3,I3,rz,ov,g,q3⟩=>Calls.spliced_nil ?_))))
 exact NC hu I3 g ry rz fun w' s4 I4 JW=>⟨_,H3,I4,JW,q3⟩
end
section
variable {X:Cx} {pins:List (Addr × Obj)} {σ:St} {H:Hp} {s:Shared} {a:Addr} {kvs:List (A5 × V)} {A:Around} {E:Value->Shared->Prop}
end
section
variable {X:Cx} {pins:List (Addr × Obj)} {σ:St} {H:Hp} {s:Shared} {a:Addr} {y:V} {u:Value} {A:Around} {E:Value->Shared->Prop}
end
end L2
namespace Att
open PySem PySem.W PySem.Calls PyProof.Rows
theorem El {P:Params} {h:Heap}:∀ (ns:List Int) (vs:List Value),WellAll P h vs (ns.map WData.int)->IntsAre vs ns:=by
 intro ns;induction ns with
 | nil=>
  intro vs w;rw [R7] at w;cases w
  exact .nil
 | cons n ns ih=>
  intro vs w;rw [Qt] at w;cases w with
  | cons a b=>
   cases a
   exact .cons _ _ (ih _ b)
theorem IH {l:OpenLaw} {n:Nat} (hn:l.most=some n) {P:Params} {h:Heap} {args:List WData} {vals:List Value}
  (hpre:l.row.toRowW.claim.pre args=true) (hwl:WellAll P h vals args) :
  ∃ a vs ns,vals=[Value.ref a]/\args=[WData.list (ns.map WData.int)]/\h.get? a=some { cls:=.type "list",data:=.seq vs.toArray }/\IntsAre vs ns/\ns.length<=n:=by
 have hsh:WShape.hasAll [] args [.list .int]=true:=(pre_splitW hpre).1;have hc:l.pre.holds [] { args:=args } = true:=(pre_splitW hpre).2;obtain ⟨d,r,rfl,h1,h2⟩:=hasAllW_cons hsh;obtain rfl:=hasAllW_nil h2;obtain ⟨xs,rfl,h3⟩:=hasW_list h1;obtain ⟨ns,rfl⟩:=items_int h3;have hlen:ns.length<=n:=by
  unfold OpenLaw.pre at hc;have h4:(WTm.not (.lt (.lit (.int (n:Int))) (.len (.arg 0)))).holds [] { args:=[.list (ns.map .int)] } = true:=by
   have h4:=(holds_andW hc).1;rw [hn] at h4;exact h4
  have h5:=condW_of h4 (w_not (w_lt w_lit (w_len_list (w_arg rfl))));rw [Qk] at h5;refine Nat.le_of_not_lt fun q=>?_
  have q':(n:Int) < ((ns.length:Nat):Int):=by lia
  first
   | (rw [decide_eq_true q'] at h5; exact absurd h5 (by decide))
   | (simp at h5; lia)
 cases hwl with
 | cons w1 w2=>
  cases w2
  cases w1 with
  | list ho hall=>exact ⟨_,_,ns,rfl,rfl,ho,El ns _ hall,hlen⟩
theorem IJ (l:OpenLaw) (args:List WData):l.row.toRowW.claim.post args (.bool true) args=true:=
 postW_of (r:=l.row.toRowW) (X:=(true == true))
  (show WShape.has [] (.bool true) .bool=true by first | rfl | decide | simp [WShape.has,WShape.arms,WShape.armsAll])
  (show (WTm.eq .res (.lit (.bool true))).value [] { args:=args,res:=some (.bool true),after:=args } = some (.bool (true == true)) from w_eq_bool (w_res rfl) w_lit) rfl
theorem attach_call {l:OpenLaw} {n:Nat} {q:Program} {loose:List Str} {XP:(Str->Option Value)->Heap->Prop} {YP:World->Heap->Prop} {d:DefRec}
  (hn:l.most=some n) (hdf:d.params.defaults=[])
  (call:∀ (w:World) (s₀ AB:Shared) (mg mb:Str->Option Value) (fa:Addr) (o:Obj) (pm cd doc:Value) (a:Addr) (vs:List Value) (ns:List Int),
   Ground q loose [] XP w s₀ mg mb AB.heap->YP w AB.heap ->
   AB.heap.get? fa=some o->o.data=.func (docDef d.name d.params d.body d.scope pm cd doc)->AB.heap.CodeRec cd d.name->mg d.name=some (.ref fa) ->
   AB.heap.get? a=some { cls:=.type "list",data:=.seq vs.toArray }->IntsAre vs ns->ns.length<=n->AB.gens=#[] ->
   codeAny (model l.prog w) callerA (.call (.ref fa) ⟨[.ref a],[]⟩) (fun r s'=>r=.ok (.ret (.bool true))/\OldK AB.heap s'.heap/\s'.os=AB.os/\AllBare s'.gens) AB) :
  WalkO q loose XP YP l.row.toRowW d [] (fun f vs=>PySem.call f vs):=by
 intro w s₀ AB mg mb G Y fa o pm cd doc dV kV ho hd hcd hD hmg hg args vals as hpre hlay hrd hwl hlo;obtain rfl:dV=.none:=Dflts.none hD hdf;obtain rfl:kV=.none:=Dflts.noKw hD;obtain ⟨a,vs,ns,rfl,rfl,hobj,hints,hlen⟩:=IH hn hpre hwl;refine enter_call (codeAny_mono (call w s₀ AB mg mb fa o pm cd doc a vs ns G Y ho (fd_plain hd) hcd hmg hobj hints hlen hg) fun r s' hq=>?_);obtain ⟨rfl,h2,h3,h4⟩:=hq;exact ⟨.inl ⟨.bool true,.bool true,[],rfl,fun _=>rfl,.bool true,IJ l _,fun _=>⟨List.Pairwise.nil,fun _ hm=>(nomatch hm)⟩⟩,h2,h3,h4⟩
section
variable {prog:Program} {w:World} {A:Around} {E:Value->Shared->Prop} {s:Shared} {K:Frag}
end
end Att
namespace L2
open PySem PySem.Spec PyProof.Rows
theorem Fm:∀ {vs:List Value} {ns:List Int},IntsAre vs ns->A4 (ns.map V.int) vs
 | _,_,.nil=>.nil
 | _,_,.cons n t h=>.cons ⟨t,rfl⟩ (Fm h)
def Mf (H:Hp):Prop:=∀ b,H b=none\/∃ o xs,H b=some (.frz o (.lst xs))
theorem Kz {P:Program} {w:World} {K:Qj} {mg mb:Str->Option Value} {CX:Lb} {k:Nat} {fa a:Addr} {fd:FuncData} {x:Str} {sp:Sp} {AB:Shared} {vs:List Value} {ns:List Int}
  (KX:K.In AB.heap) (hns:AB.heap.Ns mainGlobals mg) (hb:AB.heap.Ns builtinsNs mb) (hbb:∀ x:Str,x ≠ "__name__"->mb x=bootBuiltins x) (hlim:AB.heap.NoLimit) (hg:AB.gens=#[])
  (ha:AB.heap.get? a=some { cls:=.type "list",data:=.seq vs.toArray }) (hi:IntsAre vs ns) (hl:ns.length<=sizeLine) (hr:BM k callerA)
  (F:∀ base:Heap,K.In base->base.Ns mainGlobals mg->AJ P w K mg base CX k fa fd [x] sp) (hbind:∀ (s:Shared) (u:Value),BindsTo s fd ⟨[u],[]⟩ [(x,u)])
  (hsp:∀ H:Hp,Mf H->A6 K H a (ns.map V.int)->sp [.ref a] H (fun v _=>v=.bl true) fun _ _ _=>False)
  (hCX:∀ H e s',CX [] H AB (fun _ _ _=>False) e s'->False) :
  codeAny (model P w) callerA (.call (.ref fa) ⟨[.ref a],[]⟩) (fun r s'=>r=.ok (.ret (.bool true))/\OldK AB.heap s'.heap/\s'.os=AB.os/\AllBare s'.gens) AB:=by
 have rv:=Fm hi;have lenV:=hi.length;have core:∀ H:Hp,Mf H->A6 K H a (ns.map V.int)->Dk P w H AB.heap->(∀ b,H b ≠ none->b=a)->(H a ≠ none->K.lookup a=none) ->
   codeAny (model P w) callerA (.call (.ref fa) ⟨[.ref a],[]⟩) (fun r s'=>r=.ok (.ret (.bool true))/\OldK AB.heap s'.heap/\s'.os=AB.os/\AllBare s'.gens) AB:=by
  intro H hO hS hok hA hK;have base_of:∀ {b:Addr} {o:Obj},AB.heap.get? b=some o->H b=none->(Gd AB.heap H).get? b=some o:=fun e n=>K6 e n
  have noA:∀ {b:Addr} {o:Obj} {es:Array DictEntry} {ep:Nat},AB.heap.get? b=some o->o.data=.dict es ep->H b=none:=fun {b o es ep} e d=>by
   cases q:H b with
   | none=>rfl
   | some u=>
    have e':b=a:=hA b (by rw [q]; simp);subst e';rw [ha] at e; cases e;have d':Data.seq vs.toArray _=Data.dict es ep:=d;cases d'
  have nsK:∀ {b:Addr} {m:Str->Option Value},AB.heap.Ns b m->(Gd AB.heap H).Ns b m:=fun {b m} ⟨o,es,ep,e,d,r⟩=>⟨o,es,ep,base_of e (noA e d),d,r⟩
  have hKb:K.In (Gd AB.heap H):=fun b o e=>base_of (KX b o e) (by
   cases q:H b with
   | none=>rfl
   | some u=>
    have e':b=a:=hA b (by rw [q]; simp);subst e';rw [hK (by rw [q]; simp)] at e; cases e)
  have hM:Mod K mg (Gd AB.heap H):=⟨hKb,nsK hns,⟨mb,nsK hb,hbb⟩,let ⟨mc,h1,h2⟩:=hlim; ⟨mc,nsK h1,h2⟩⟩
  have e0:Mj P w K mg (Gd AB.heap H) callerA [] AB H:=⟨rfl,hM,fun b o e=>LC e,Nat.le_of_eq (Jf _ _),trivial,fun b hb=>absurd (show b ∈ ([]:List Addr) from hb) (by simp),hok,.of_eq hg⟩
  refine codeAny_mono ((F _ hKb (nsK hns)).run callerA [] AB H ⟨[.ref a],[]⟩ [.ref a] [.ref a] _ _ hr e0 (hbind AB (.ref a)) (.cons rfl .nil) (hsp H hO hS)) fun r s' h=>?_
  cases r with
  | error e=>exact (hCX H e s' h).elim
  | ok fl=>
   cases fl with
   | next=>exact False.elim h
   | brk=>exact False.elim h
   | cont=>exact False.elim h
   | ret u=>
    obtain ⟨v,H',os,bare,un,PK,r',q⟩:=h;have q':v=.bl true:=q;subst q';obtain rfl:u=Value.bool true:=r';refine ⟨rfl,OldK.of_keep fun b o e=>?_,os,bare⟩;cases q:H b with
    | none=>exact un.keep b o e q (by intro z; exact absurd (show b ∈ ([]:List Addr) from z) (by simp)) (by simp)
    | some u=>
     rcases hO b with z | ⟨ob,xs,z⟩
     ·rw [q] at z; cases z
     ·have z2:=un.frzs b ob _ z;obtain ⟨e1,_⟩:=hok b _ z;obtain ⟨e2,_⟩:=PK b _ z2;rw [e] at e1; cases e1;exact e2
 cases hk:K.lookup a with
 | some o=>
  have e:=KX a o hk;rw [ha] at e;cases e
  refine core (fun _=>none) (fun _=>.inl rfl) (.inr ⟨_,vs.toArray,_,hk,rfl,rfl,rfl,by rw [Q9,lenV]; exact hl,by simpa using rv⟩) (fun b u z=>by have z':(none:Option HO)=some u:=z; cases z') (fun b z=>absurd rfl z) fun z=>absurd rfl z
 | none=>
  refine core (fun b=>if b=a then some (.frz { cls:=.type "list",data:=.seq vs.toArray } (.lst (ns.map V.int))) else none) (fun b=>?_) (.inl (.inr ⟨{ cls:=.type "list",data:=.seq vs.toArray },if_pos rfl⟩)) (fun b u z=>?_) (fun b z=>?_) fun _=>hk
  ·by_cases hb:b=a
   ·exact .inr ⟨_,_,if_pos hb⟩
   ·exact .inl (if_neg hb)
  ·by_cases hb:b=a
   ·have z':=(if_pos hb).symm.trans z;cases z'
    subst hb;exact ⟨ha,by rw [Qk]; exact hl,vs,_,rv,ha⟩
   ·have z':=(if_neg hb).symm.trans z;cases z'
  ·by_cases hb:b=a
   ·exact hb
   ·exact absurd (if_neg hb) z
theorem walk_of {l:RO} {n k:Nat} {q:Program} {loose:List Str} {XP:(Str->Option Value)->Heap->Prop} {YP:World->Heap->Prop} {d:DefRec} {K:Params->Qj} {CX:World->Lb} {sp:World->Sp} {x:Str}
  (hn:l.most=some n) (hn2:n<=sizeLine) (hdf:d.params.defaults=[]) (hr:BM k callerA)
  (hY:∀ (w:World) (h:Heap),YP w h->(K w.params).In h)
  (F:∀ (w:World) (mg:Str->Option Value) (fa:Addr) (h:Heap),(K w.params).In h->h.Ns mainGlobals mg->mg d.name=some (.ref fa) ->
   ∃ fd:FuncData,(∀ (s:Shared) (u:Value),BindsTo s fd ⟨[u],[]⟩ [(x,u)]) /\
    ∀ base:Heap,(K w.params).In base->base.Ns mainGlobals mg->AJ l.prog w (K w.params) mg base (CX w) k fa fd [x] (sp w))
  (hsp:∀ (w:World) (H:Hp) (a:Addr) (ns:List Int),ns.length<=n->Mf H->A6 (K w.params) H a (ns.map V.int)->sp w [.ref a] H (fun v _=>v=.bl true) fun _ _ _=>False)
  (hCX:∀ (w:World) (H:Hp) (s:Shared) (e:Value) (s':Shared),CX w [] H s (fun _ _ _=>False) e s'->False) :
  S8 q loose XP YP l.row.toRowW d [] (fun f vs=>PySem.call f vs):=by
 refine Att.attach_call hn hdf fun w s₀ AB mg mb fa o pm cd doc a vs ns G Y ho hd hcd hmg hobj hints hlen hg=>?_
 have KX:=hY w _ Y;obtain ⟨fd,hb,hF⟩:=F w mg fa _ KX G.T.g hmg;exact Kz KX G.T.g G.T.b G.T.builtins G.T.nolimit hg hobj hints (QE hlen hn2) hr hF hb (fun H hO hS=>hsp w H a ns hlen hO hS) fun H e s'=>hCX w H AB e s'
def C5 (s:Stmt):Arguments:=match s with
 | .FunctionDef _ a _ _ _ _ _ _ _ _=>a
 | _=>{ posonlyargs:=[],args:=[],vararg:=none,kwonlyargs:=[],kw_defaults:=[],kwarg:=none,defaults:=[] }
def Bx (s:Stmt):List Stmt:=match s with
 | .FunctionDef _ _ b _ _ _ _ _ _ _=>b
 | _=>[]
def Am (s:Stmt):Scope:=match s with
 | .FunctionDef _ _ _ _ _ _ sc _ _ _=>sc
 | _=>{ kind:=.function,names:=[],isGenerator:=false,isCoroutine:=false }
abbrev BV:Lb:=fun _ _ _ _ _ _=>False
abbrev E0:XK:=fun _ _ _=>False
theorem AA {X:Cx}:HF BV X E0:=fun _ _ _ _ _ _ _ h=>h.elim
structure D4 (K:Qj) (x qual:Str) (st:Stmt) (f:Addr) (fd:FuncData):Prop where
 ex:∃ (oc:Value) (od:Option Addr) (kV doc pm:Value) (an:Option Addr) (cdv ct:Value) (osl:Array (Option Value)),
  fd=Rm x qual (C5 st) (Bx st) (Am st) .none kV doc pm an cdv ct/\K.lookup f=some ⟨oc,od,.func fd,osl⟩/\R9 K cdv qual=true
 kp:R8 K (.ref f)=true
section
variable {P:Program} {w:World} {K:Qj} {mg:Str->Option Value} {base:Heap}
theorem D4.ok {x qual:Str} {st:Stmt} {f:Addr} {fd:FuncData} {N ps:List Str} {k:Nat} {sp:Sp} (F:D4 K x qual st f fd) (S:AF N ps (Am st)) (len:∀ vs H Q E,sp vs H Q E->vs.length=ps.length)
  (hbody:∀ (cdv:Value) (A:Around) (outer:List Env) (s:Shared) (H:Hp) (vs:List V) (Q:VK) (E:XK),BM k (A.deeper (envOfC qual (Am st) s.heap.objs.size f cdv))->sp vs H Q E ->
   ∃ t,GQ (Fh BV P w K mg base N qual (Am st) f cdv A outer s H E).nox (Bx st) t/\t { nx:=fun _ H'=>Q .non H',rt:=Q } (start N vs) H):AJ P w K mg base BV (k + 1) f fd ps sp:=by
 obtain ⟨oc,od,kV,doc,pm,an,cdv,ct,osl,rfl,lk,hcd⟩:=F.ex;refine fn_of lk hcd S len fun A outer s H vs Q E hr hsp=>?_
 obtain ⟨t,h,q⟩:=hbody cdv A outer s H vs Q E hr hsp;exact ⟨t,h.nox,q⟩
theorem D4.binds {x qual:Str} {st:Stmt} {f:Addr} {fd:FuncData} {ps:List Str} (F:D4 K x qual st f fd)
  (h:∀ (kV doc pm:Value) (an:Option Addr) (cdv ct:Value) (us:List Value),us.length=ps.length->bindArgs (Rm x qual (C5 st) (Bx st) (Am st) .none kV doc pm an cdv ct) ⟨us,[]⟩=pure (ps.zip us)):C9 K fd ps []:=by
 obtain ⟨oc,od,kV,doc,pm,an,cdv,ct,osl,rfl,lk,hcd⟩:=F.ex;exact .all (h kV doc pm an cdv ct)
theorem Nz {x qual:Str} {st:Stmt} {f:Addr} {oc:Value} {od an:Option Addr} {osl:Array (Option Value)} {kV doc pm cdv ct:Value} (l:K.lookup f=some ⟨oc,od,.func (Rm x qual (C5 st) (Bx st) (Am st) .none kV doc pm an cdv ct),osl⟩)
  (c:R9 K cdv qual=true) (k:R8 K (.ref f)=true):D4 K x qual st f (Rm x qual (C5 st) (Bx st) (Am st) .none kV doc pm an cdv ct):=⟨⟨oc,od,kV,doc,pm,an,cdv,ct,osl,rfl,l,c⟩,k⟩
end
theorem CJ {A:Around} {k:Nat} (hr:BM k A):A.units + 1 < cLine:=Nat.lt_of_le_of_lt (Nat.add_le_add_left (by decide:1<=64) _) hr.units
section
variable {X:Cx}
theorem pv (i:Nat) {x:Str} {pos:Pos} (hN:X.N[i]? = some x:=by rfl) (hv:Vis X.env.scope x:=by first | exact Or.inl rfl | exact Or.inr (Or.inl rfl) | exact Or.inr (Or.inr rfl)) (hd:(x == ("__debug__":Str))=false:=by decide)
  (hcd:(x == ("__classdict__":Str))=false:=by decide):PE X (.Name x pos) (tVar i):=MW hN hv hd hcd
end
theorem DI {A B:Prop} (h:B):if false=true then A else B:=by
 rw [if_neg Qr];exact h
theorem Fg {A B:Prop} (h:A):if true=true then A else B:=by
 rw [if_pos rfl];exact h
theorem C4 {c A B:Prop} [Decidable c] (h1:c->A) (h2:¬ c->B):if c then A else B:=by
 by_cases h:c
 ·rw [if_pos h];exact h1 h
 ·rw [if_neg h];exact h2 h
def Aw (H H':Hp):Prop:=∀ b o,H b=some o->H' b=some o
theorem Aw.refl (H:Hp):Aw H H:=fun _ _ h=>h
theorem Aw.trans {H H1 H2:Hp} (a:Aw H H1) (b:Aw H1 H2):Aw H H2:=fun c o h=>b c o (a c o h)
theorem Aw.free {H H':Hp} (e:Aw H H') {l:Addr} (h:H' l=Sf):H l=Sf:=by
 cases q:H l with
 | none=>rfl
 | some o=>
  rw [e l o q] at h;cases h
section
variable {κ:Type} [DecidableEq κ]
theorem JB {kvs:List (κ × V)} {k:κ} (h:AX kvs k=none):¬ k ∈ kvs.map (·.1):=by
 intro m;obtain ⟨p,hp,e⟩:=Q0.mp m;have q:(kvs.any fun kv=>decide (kv.1=k))=true:=List.any_eq_true.mpr ⟨p,hp,decide_eq_true e⟩;rw [B3,h] at q;exact absurd q (by simp)
theorem Ic:∀ {l:List κ} {k:κ},l.Nodup->¬ k ∈ l->(l ++ [k]).Nodup
 | [],k,_,_=>by simp
 | a :: r,k,h,hk=>by
  obtain ⟨h1,h2⟩:=QI.mp h;show (a :: (r ++ [k])).Nodup
  refine QI.mpr ⟨fun m=>?_,Ic h2 fun m=>hk (Qn.mpr (Or.inr m))⟩;rcases QA.mp m with q | q
  ·exact h1 q
  ·exact hk (Qn.mpr (Or.inl (Qs.mp q).symm))
end
abbrev Al (X:Cx) (scope:Scope) (cl:List (Str × Addr)) (N:List Str) (s2:Shared) (H:Hp) (C:Addr) (fp:List Addr):Cx where
 prog:=X.prog
 w:=X.w
 K:=X.K
 mg:=X.mg
 base:=X.base
 A:=X.A
 N:=N
 s₀:=s2
 H₀:=H
 env:=compEnvC scope cl C X.env
 outer:=X.stack
 stack:=X.stack
 ex:=fp
 fn:=fun _=>false
 calm:=X.calm
 pn:=[]
 xe:=fun _ _=>False
structure AV (X:Cx) (scope:Scope) (cl:List (Str × Addr)):Prop where
 clos:closureFor scope X.env=pure cl
 cell:∀ y ∈ scope.names,y.2 ≠ .cell
 kind:scope.kind=.function
 names:∀ y ∈ scope.names,y.2=.local->scope.names.lookup y.1=some .local
 sub:∀ x c,cl.lookup x=some c->X.env.cells.lookup x=some c
 has:∀ x,((relabel scope X.env).names.lookup x=some .cell\/(relabel scope X.env).names.lookup x=some .free)->∃ c,cl.lookup x=some c
def Bu (X:Cx) (cl:List (Str × Addr)) (scope:Scope) (N:List Str) (σ Ap:St):Prop:=
 Ap.length=N.length/\∀ (i:Nat) (x:Str) (v:V),N[i]? = some x->Ap[i]? = some (some v) ->
  (∃ j:Nat,X.N[j]? = some x/\σ[j]? = some (some v))/\(X.env.kindOf x=some .cell\/X.env.kindOf x=some .free) /\
   ((relabel scope X.env).names.lookup x=some .cell\/(relabel scope X.env).names.lookup x=some .free)
theorem Bu.none (X:Cx) (cl:List (Str × Addr)) (scope:Scope) (N:List Str) (σ:St):Bu X cl scope N σ (N.map fun _=>Sf):=by
 refine ⟨by simp,fun i x v h1 h2=>?_⟩;rw [Q7,h1] at h2;cases h2
section
variable {X:Cx} {pins:List (Addr × Obj)} {σ Ap:St} {H H':Hp} {s2 s':Shared} {scope:Scope} {cl:List (Str × Addr)} {N:List Str} {fp:List Addr} {C D:Addr} {Bb h':Heap} {t':Nat}
theorem ES (I:Ak X pins σ H s2) (hf:∀ b ∈ fp,DS X pins H b) (hfo:∀ b ∈ fp,∃ o,s2.heap.get? b=some o) (co:AV X scope cl) (hσ:Bu X cl scope N σ Ap)
  (k:∀ b o,s2.heap.get? b=some o->Bb.get? b=some o) (hD:s2.heap.objs.size<=D) (hC:s2.heap.objs.size<=C) (hDC:C ≠ D)
  (new:Bb.get? D=some { cls:=.type "list",data:=.seq ([]:List Value).toArray 0 }\/∃ n,Bb.get? D=some { cls:=.type "list",data:=.seq ([]:List Value).toArray n }) {m:Str->Option Value} (hn:Bb.Ns C m) :
  Ak (Al X scope cl N s2 H C fp) [] Ap (upd H D (.lst [])) { s2 with heap:=Bb,toks:=t' }:=by
 have fD:H D=none:=I.hok.fresh hD;have fC:H C=none:=I.hok.fresh hC;have newO:Ax X.prog X.w (upd H D (.lst [])) Bb D (.lst []):=by
  refine ⟨QH _,[],?_⟩;rcases new with e | ⟨n,e⟩
  ·exact ⟨0,.nil,e⟩
  ·exact ⟨n,.nil,e⟩
 have lts:∀ b ∈ fp,b < s2.heap.objs.size:=fun b hb=>let ⟨_,e⟩:=hfo b hb; Qp e
 have cells_lt:∀ x c,cl.lookup x=some c->c < s2.heap.objs.size:=fun x c e=>by
  obtain ⟨v,q⟩:=I.cell x c (co.sub x c e);exact q.lt
 have ok:Cx.Ok (Al X scope cl N s2 H C fp):=by
  refine ⟨I.ok.mod,?_,I.ok.glob,I.ok.blt,hC,?_,?_,?_,I.ok.hd,I.ok.frames,.inl rfl,?_,I.bs,QE I.ok.bsz I.sz,?_,?_,I.stack,I.stkFree⟩
  ·exact co.kind
  ·exact fun x y c e1 e2=>I.ok.inj x y c (co.sub x c e1) (co.sub y c e2)
  ·exact fun x h=>co.has x h
  ·exact fun x c h _=>by cases h
  ·intro b hb;refine ⟨fun e=>?_,fun x c e=>(hf b hb).2.2.2.2.1 x c (co.sub x c e)⟩;have z:=lts b hb;exact absurd (Qu z hC) (by rw [show b=C from e]; exact QL _)
  ·intro b o e hb;have K9:b ∈ fp:=hb;rcases (hf b K9).2.2.2.1 with z | z
   ·exact I.ok.noex b o e z
   ·exact absurd (Qu (Qp e) (QE I.ok.bsz z)) (QL _)
  ·intro b hb hz;have K9:b ∈ fp:=hb;obtain ⟨_,f1,f2,_⟩:=hf b K9;rcases Qn.mp (I.stkSub b hz) with e | e
   ·exact f1 e
   ·exact f2 e
 refine ⟨ok,rfl,I.bare,Un.laid k hD fD,?_,?_,?_,?_,?_,I.hok.laid k hD newO,hσ.1⟩
 ·refine ⟨m,hn,fun i x v e1 e2 _=>?_⟩;obtain ⟨⟨j,j1,j2⟩,kk,kr⟩:=hσ.2 i x v e1 e2;obtain ⟨mo,_,hl⟩:=I.loc;obtain ⟨u,r,l⟩:=hl j x v j1 j2 (by
   rcases kk with z | z
   ·exact .inr (.inl z)
   ·exact .inr (.inr z))
  refine ⟨u,r,.inr ⟨kr,?_⟩⟩;obtain ⟨c,hc⟩:=co.has x kr;rcases l with ⟨z,_⟩ | ⟨_,c',K8,hcell⟩
  ·rcases kk with q | q
   ·rw [z] at q; cases q
   ·rw [z] at q; cases q
  ·have e3:=co.sub x c hc;rw [K8] at e3;have e4:c'=c:=QB.inj e3;subst e4;obtain ⟨o,ho,hd⟩:=hcell;exact ⟨c',hc,o,k _ o ho,hd⟩
 ·intro x c e;obtain ⟨v,o,ho,hd⟩:=I.cell x c (co.sub x c e);exact ⟨v,o,k _ o ho,hd⟩
 ·show upd H D (.lst []) C=none
  rw [Af hDC];exact fC
 ·intro x c e;rw [Af (Qv (Qu (cells_lt x c e) hD))];exact I.freeC x c (co.sub x c e)
 ·intro p hp;cases hp
theorem D1 {pl:List (Addr × Obj)} (I:Ak X pins σ H s2) (hf:∀ b ∈ fp,DS X pins H b) (hC:s2.heap.objs.size<=C) (I2:Ak (Al X scope cl N s2 H C fp) pl Ap H' s')
  (hs:Heap.SameBut C s'.heap h'):Ak X pins σ H' { s' with heap:=h' }:=by
 have nC:∀ b o,s2.heap.get? b=some o->b ≠ C:=fun b o e=>Qv (Qu (Qp e) hC)
 have u:=I2.base;refine I.call' (s':={ s' with heap:=h' }) (ch:=fp) I2.os ⟨?_,?_,u.free,?_,u.tups,u.frzs,u.tbls⟩ ?_ I2.bare fun b hb=>?_
 ·exact fun b o e n h1 h2=>(hs.2 b (nC b o e)).trans (u.keep b o e n h1 h2)
 ·intro b o e n h1 h2;obtain ⟨sl,q⟩:=u.slot b o e n h1 h2;exact ⟨sl,(hs.2 b (nC b o e)).trans q⟩
 ·intro b o e h2;obtain ⟨o',q⟩:=u.there b o e h2;exact ⟨o',(hs.2 b (nC b o e)).trans q⟩
 ·intro b ob e;have hfree:H' C=none:=I2.free;refine (I2.hok b ob e).stay (fun c w' hc q=>(hs.2 c ?_).trans q) (fun _ q=>q) fun _ _ q=>q
  rintro rfl;rcases hc with rfl | hc
  ·rw [hfree] at e; cases e
  ·rw [hfree] at hc; cases hc
 ·obtain ⟨_,f1,_,f3,f4,f5⟩:=hf b hb;exact ⟨f3,f1,f4,f5⟩
end
section
variable {prog:Program} {w:World} {A:Around} {R:Result->Shared->Prop} {s:Shared}
theorem BK {elt target iter:Expr} {ifs:List Expr} {scope:Scope} {pos:Pos} {it acc:Value} {env:Env} (I:Nat->Shared->Prop)
  (turn:∀ n s,I n s->wpAny (model prog w) A (pyNext it) (fun r AB=>match r with
   | none=>R (.ok .next) AB
   | some v=>wpAny (model prog w) A (letOwnedTupleGo target it v) (fun _ Gr=>wpAny (model prog w) A (assign target env v) (fun _ Dn=>
     wpAny (model prog w) A (forIn ifs true fun c r=>if r=true then do let ok <- isTrue c env (eval c env); pure (ForInStep.yield ok) else pure (ForInStep.yield r)) (fun ok BG=>
      if ok=true then wpAny (model prog w) A (eval elt env) (fun x JG=>
       wpAny (model prog w) A (call (.builtin "list.append") [acc,x]) (fun _ JF=>∃ m,m < n/\I m JF) (notedBy (model prog w) A env fun e s'=>R (.error e) s') JG) (notedBy (model prog w) A env fun e s'=>R (.error e) s') BG
      else ∃ m,m < n/\I m BG) (notedBy (model prog w) A env fun e s'=>R (.error e) s') Dn) (notedBy (model prog w) A env fun e s'=>R (.error e) s') Gr) (notedBy (model prog w) A env fun e s'=>R (.error e) s') AB) (notedBy (model prog w) A env fun e s'=>R (.error e) s') s)
  (n:Nat) (h:I n s) :
  codeAny (model prog w) A (.compLoop (.ListComp elt [⟨target,iter,ifs,0⟩] scope pos) 0 it acc env) R s:=by
 refine codeAny_loop rfl I (fun n s hI=>?_) n h;show wpAny _ A ((compTurn (.ListComp elt [⟨target,iter,ifs,0⟩] scope pos) 0 it acc env).onRaise (fun x=>do noteFrame x env; theTreesLotGoes x)) _ _ s
 refine wpAny_noted ?_;rw [compTurn_list];refine wpAny_bind (wpAny_standAt (wpAny_bind (wpAny_mono (turn n s hI) (fun r AB Bb=>?_) fun _ _ h'=>h')));cases r with
 | none=>exact wpAny_pure Bb
 | some v=>
  refine wpAny_bind (wpAny_mono Bb (fun _ Gr K2=>?_) fun _ _ h'=>h');refine wpAny_bind (wpAny_mono K2 (fun _ Dn Hs=>wpAny_bind (wpAny_mono Hs (fun ok BG Hr=>?_) fun _ _ h'=>h')) fun _ _ h'=>h');cases ok with
  | false=>exact wpAny_pure ⟨rfl,Hr⟩
  | true=>
   exact wpAny_bind (wpAny_bind (wpAny_mono Hr (fun x JG Nm=>wpAny_bind (wpAny_mono Nm (fun _ JF Nl=>wpAny_pure (wpAny_pure ⟨rfl,Nl⟩)) fun _ _ h'=>h')) fun _ _ h'=>h'))
end
def Of (X:Cx) (ifs:List Expr) (t:TT):Prop:=
 ∀ ⦃pins:List (Addr × Obj)⦄ (s:Shared) (σ:St) (H:Hp) (Q:Bool->Hp->Prop),Ak X pins σ H s->t σ H Q ->
  wpAny (model X.prog X.w) X.A (forIn ifs true fun c r=>if r=true then do let ok <- isTrue c X.env (eval c X.env); pure (ForInStep.yield ok) else pure (ForInStep.yield r)) (TP X pins σ Q) X.xe s
def MG:TT:=fun _ H Q=>Q true H
theorem Cj {X:Cx}:Of X [] MG:=fun _ _ _ H _ I h=>wpAny_tests_nil ⟨H,I,h⟩
theorem FO {X:Cx} {c:Expr} {t:TT} (h:PT X c t):Of X [c] t:=fun pins s σ H Q I q=>wpAny_tests_one (h (pins:=pins) s σ H Q I q)
def Mn (wi:TI) (g:TG) (tt:TT) (te:TE) (σ0:St->St):TE:=fun σ H Q=>wi σ H fun J H1=>∀ D,H1 D=none->∃ W:Nat->Nat->St->Hp->Prop,(∃ m,W 0 m (σ0 σ) (upd H1 D (.lst []))) /\
 ∀ i m Ap H',W i m Ap H'->(J.stop i H'/\Q (.ref D) H')\/(J.go i H'/\∀ x H2,J.yld i H' x H2->g x Ap H2 fun AW H3=>tt AW H3 fun b H4=>
  if b=true then te AW H4 (fun v H5=>∃ acc,H5 D=some (.lst acc)/\acc.length < sizeLine/\∃ m',m' < m/\W (i + 1) m' AW (upd H5 D (.lst (acc ++ [v])))) else ∃ m',m' < m/\W (i + 1) m' AW H4)
theorem CQ {X:Cx} {tg iter elt:Expr} {ifs:List Expr} {scope:Scope} {cl:List (Str × Addr)} {N:List Str} {pos:Pos} {wi:TI} {g:TG} {tt:TT} {te:TE} {σ0:St->St} (hc:X.calm=true) (co:AV X scope cl)
  (hσ:∀ σ,σ.length=X.N.length->Bu X cl scope N σ (σ0 σ)) (hi:PI X tg iter wi)
  (hb:∀ s2 H C fp,PG (Al X scope cl N s2 H C fp) tg g/\Of (Al X scope cl N s2 H C fp) ifs tt/\PE (Al X scope cl N s2 H C fp) elt te)
  (hs:∀ x,foldedSetIterable iter X.env x=pure x:=by intro _; rfl):PE X (.ListComp elt [⟨tg,iter,ifs,0⟩] scope pos) (Mn wi g tt te σ0):=by
 intro pins s σ H Q I h;rw [eval_ListComp];refine wpAny_comprehension_free (use:=none) rfl hs co.clos co.kind co.names (wpAny_mono (hi (pins:=pins) s σ H _ I h) (fun xv s1 h1=>wpAny_mono h1 (fun itv s2 h2=>?_) fun _ _ e=>e) fun _ _ e=>e);obtain ⟨it,fp,tn,J,H2,rfl,I2,T,EZ,f2,hW⟩:=h2;refine wpAny_newObj_type (wpAny_newFunctionEnv co.cell (by intro y hy; cases hy) (fun Bb Bz Bf=>?_) co.kind);dsimp only at Bz Bf ⊢;generalize Hw:s2.heap.push { cls:=.type "list",dict:=none,data:=.seq ([]:List Value).toArray } = HH at Bz Bf ⊢;have BE:HH.objs.size=s2.heap.objs.size + 1:=by rw [<-Hw,QV]
 have old:∀ b o,s2.heap.get? b=some o->Bb.get? b=some o:=fun b o e=>
  Bf.extBut b o (Qv (by rw [BE]; exact QK (Qp e))) (Ql _ (Hw ▸ Ql _ e))
 have newD:∃ n,Bb.get? s2.heap.objs.size=some { cls:=.type "list",data:=.seq ([]:List Value).toArray n }:=
  ⟨_,Bf.extBut _ _ (Qv (by rw [BE]; exact QC _)) (Ql _ (Hw ▸ Q4 _ rfl))⟩
 obtain ⟨W,⟨m0,w0⟩,turn⟩:=hW s2.heap.objs.size I2.fresh;have hfo:∀ b ∈ fp,∃ o,s2.heap.get? b=some o:=fun b hb=>let ⟨o,e,_⟩:=T.obj _ _ EZ b hb; ⟨o,e⟩
 have I3:Ak (Al X scope cl N s2 H2 HH.objs.size fp) [] (σ0 σ) (upd H2 s2.heap.objs.size (.lst [])) { s2 with heap:=Bb,toks:=s2.toks + ([]:List (Str × Value)).length }:=
  ES I2 f2 hfo co (hσ σ I.len) old (Qo _) (by rw [BE]; exact QN _) (Rr (by rw [BE]; exact QC _)) (.inr newD) Bz
 have fC:s2.heap.objs.size<=HH.objs.size:=by rw [BE]; exact QN _
 obtain ⟨hg,ht,he⟩:=hb s2 H2 HH.objs.size fp;have loop:∀ BG:Shared,BG = { s2 with heap:=Bb,toks:=s2.toks + ([]:List (Str × Value)).length } ->
   codeAny (model X.prog X.w) X.A (.compLoop (.ListComp elt [⟨tg,iter,ifs,0⟩] scope pos) 0 (.ref it) (.ref s2.heap.objs.size) (compEnvC scope cl HH.objs.size X.env))
    (compPost (model X.prog X.w) X.A X.xe none (EP X pins σ Q) (.ref s2.heap.objs.size) HH.objs.size) BG:=by
  rintro BG rfl;have stat:∀ {H':Hp} ,(∀ b ∈ fp,H' b=none)->∀ b ∈ fp,DS (Al X scope cl N s2 H2 HH.objs.size fp) [] H' b:=fun hn b hb=>by
   refine ⟨hn b hb,?_,?_,.inl hb,?_,fun p hp=>by cases hp⟩
   ·obtain ⟨o,e⟩:=hfo b hb;exact Qv (show b < HH.objs.size by rw [BE]; exact QK (Qp e))
   ·intro hz;obtain ⟨_,q1,q2,_⟩:=f2 b hb;rcases Qn.mp (I2.stkSub b hz) with e | e
    ·exact q1 e
    ·exact q2 e
   ·exact fun x c e=>(f2 b hb).2.2.2.2.1 x c (co.sub x c e)
  refine BK (fun n s'=>∃ i Ap H',Ak (Al X scope cl N s2 H2 HH.objs.size fp) [] Ap H' s'/\tn i s'.heap/\(∀ b ∈ fp,H' b=none)/\W i n Ap H') ?_ m0
   ⟨0,σ0 σ,_,I3,T.keep _ _ _ EZ fun b hb o e=>old b o e,fun b hb=>?_,w0⟩
  ·rintro n s4 ⟨i,F9,H4,I4,JJ,KH,w4⟩;rcases turn i n F9 H4 w4 with ⟨stop,qn⟩ | ⟨go,step⟩
   ·refine wpAny_mono (T.done (Al X scope cl N s2 H2 HH.objs.size fp) rfl rfl rfl hc i [] s4 F9 H4 (fun _ _=>False) I4 (stat KH) JJ stop) (fun r s5 ⟨hr,I5⟩=>?_) fun _ _ z=>z.elim
    subst hr;obtain ⟨m5,Nq,_⟩:=id I5.loc;exact ⟨m5,Nq,fun h' LQ=>⟨.ref _,H4,D1 I2 f2 fC I5 LQ,rfl,qn⟩⟩
   ·refine wpAny_mono (T.item (Al X scope cl N s2 H2 HH.objs.size fp) rfl rfl rfl hc i [] s4 F9 H4 (fun _ _=>False) I4 (stat KH) JJ go) (fun r s5 ⟨u,hr,h5⟩=>?_) fun _ _ z=>z.elim
    subst hr;refine wpAny_mono h5 (fun _ s6 ⟨x,H6,I6,r6,y6,Hb,N1⟩=>?_) fun _ _ z=>z.elim
    have NO:=I6.pinned (stat N1) (T.obj _ _ Hb);refine wpAny_mono (hg s6 F9 H6 x u _ NO r6 (step x H6 y6)) (fun _ s7 ⟨Dl,H7,I7,q7⟩=>?_) fun _ _ z=>z.elim
    refine wpAny_mono (ht s7 Dl H7 _ I7 q7) (fun ok s8 ⟨H8,I8,q8⟩=>?_) fun _ _ z=>z.elim
    have again:∀ {s9:Shared} {F8:St} {H9:Hp} ,Ak (Al X scope cl N s2 H2 HH.objs.size fp) ([] ++ CG fp s6.heap) F8 H9 s9->(∃ m',m' < n/\W (i + 1) m' F8 H9)->∃ m,m < n/\∃ i Ap H',Ak (Al X scope cl N s2 H2 HH.objs.size fp) [] Ap H' s9/\tn i s9.heap/\(∀ b ∈ fp,H' b=none)/\W i m Ap H':=fun {s9 F8 H9} I9 n9=>by
     obtain ⟨m',hm,w9⟩:=n9;refine ⟨m',hm,i + 1,F8,H9,I9.unpinned,T.keep _ _ _ Hb fun b hb o e=>(I9.pin (b,o) (Qq _ (Qq _ (AU hb e)))).1,fun b hb=>?_,w9⟩;obtain ⟨o,e,d⟩:=T.obj _ _ Hb b hb;exact (I9.pin (b,o) (Qq _ (Qq _ (AU hb e)))).2.1
    cases ok with
    | false=>
     rw [if_neg Qr] at q8 ⊢;exact again I8 q8
    | true=>
     rw [if_pos rfl] at q8 ⊢;refine wpAny_mono (he s8 Dl H8 _ I8 q8) (fun y s9 ⟨v,H9,I9,r9,acc,hacc,hsz,q9⟩=>?_) fun _ _ z=>z.elim
     refine wpAny_mono (Bi (X:=Al X scope cl N s2 H2 HH.objs.size fp) s9 Dl H9 (.ref s2.heap.objs.size) [v] (.ref s2.heap.objs.size) [y] (fun _ Mi=>∃ m',m' < n/\W (i + 1) m' Dl Mi) I9 rfl (.cons r9 .nil) ⟨_,acc,v,rfl,rfl,hacc,hsz,q9⟩) (fun _ Ls ⟨_,Mi,NP,_,MS⟩=>?_) fun _ _ z=>z.elim
     exact again NP MS
  ·have z:=(f2 b hb).1;obtain ⟨o,e⟩:=hfo b hb;rw [Af (Qv (Qp e))];exact z
 exact codeAny_compStart_list (loop _ rfl) (T.self _ 0 _ _ _ (T.keep _ _ _ EZ fun b hb o e=>old b o e) (loop _ rfl))
theorem GO {X:Cx}:Bp X (.builtin "isinstance") (fun xs H Q=>∃ x c t b,xs=[x,.ty c]/\DP X.K H x t/\S1 X.K t (.type c)=some b/\Q (.bl b) H):=by
 intro pins s σ H xs us Q I r h;obtain ⟨x,c,t,b,rfl,ty,e,q⟩:=h;obtain ⟨u,v,rfl,rx,rc⟩:=HI r;cases rc
 exact Jc I rx ty e fun tk=>⟨.bl b,H,I.tok tk,rfl,q⟩
def tSlS (te:TE) (tl th:TO):TE:=fun σ H Q=>te σ H fun x H1=>tl σ H1 fun l H2=>th σ H2 fun u H3=>∃ z,x=.str z/\z.length<=sizeLine/\Q (.str (Txt.slice z l u)) H3
theorem FU {X:Cx} {e:Expr} {te:TE} {lo hi:Option Expr} {tl th:TO} {pos p2:Pos} (he:PE X e te) (hl:PO X lo tl) (hu:PO X hi th):PE X (.Subscript e (.Slice lo hi none p2) pos) (tSlS te tl th):=by
 intro pins s σ H Q I h;refine Subscript_ (Bj (he (pins:=pins) s σ H _ I h) fun v s1 ⟨x,H1,I1,r1,q1⟩=>?_);refine wpAny_Slice (Bj (hl (pins:=pins) s1 σ H1 _ I1 q1) fun vl s2 ⟨l,H2,I2,pl,q2⟩=>Bj (hu (pins:=pins) s2 σ H2 _ I2 q2) fun vu s3 ⟨u,H3,I3,pu,q3⟩=>?_);rw [evalPart_none];refine wpAny_pure ?_;obtain ⟨z,rfl,hz,q⟩:=q3;obtain ⟨t,rfl⟩:=r1;show wpAny (model X.prog X.w) X.A (subscriptTail e (.Slice lo hi none p2) (.str z t) (.ref s3.heap.objs.size)) (EP X pins σ Q) X.xe { s3 with heap:=s3.heap.push { cls:=.type "slice",data:=.fields #[vl,vu,.none] } }
 have kk:KeptH (fun h=>∀ b o,s3.heap.get? b=some o->h.get? b=some o):=fun h ob hh b o e=>Ql _ (hh b o e)
 have fin:ItemOn (model X.prog X.w) X.A X.xe (.str z t) (.ref s3.heap.objs.size) (EP X pins σ Q) { s3 with heap:=s3.heap.push { cls:=.type "slice",data:=.fields #[vl,vu,.none] } }:=by
  cases pl with
  | none=>
   cases pu with
   | none=>exact SBH.sliceItem_nn kk (fun _ _ e=>e) (fun h' t' k kp=>⟨.str _,H3,I3.kept kp,⟨_,rfl⟩,q⟩) hz
   | int j uj=>exact SBH.sliceItem_ns kk (fun _ _ e=>e) (fun h' t' k kp=>⟨.str _,H3,I3.kept kp,⟨_,rfl⟩,q⟩) hz
  | int i ui=>
   cases pu with
   | none=>exact SBH.sliceItem_sn kk (fun _ _ e=>e) (fun h' t' k kp=>⟨.str _,H3,I3.kept kp,⟨_,rfl⟩,q⟩) hz
   | int j uj=>exact SBH.sliceItem_ss kk (fun _ _ e=>e) (fun h' t' k kp=>⟨.str _,H3,I3.kept kp,⟨_,rfl⟩,q⟩) hz
 obtain ⟨T,id,hT,ht,hg⟩:=fin;exact tail_any (ops:=[.ref s3.heap.objs.size,.str z t]) ht hT hg (by with_unfolding_all rfl)
theorem IP {X:Cx} (hu:X.A.units < cLine):Ex X (compareOp .Eq) (fun x y H Q=>∃ a b xs,x=.ref a/\y=.ref b/\A6 X.K H a xs/\A6 X.K H b []/\Q (.bl xs.isEmpty) H):=by
 intro pins s σ H x y v u Q I rx ry h;obtain ⟨a,b,xs,rfl,rfl,ha,hb,q⟩:=h;cases rx
 cases ry
 obtain ⟨Ar,r,p,hz⟩:=I.list ha;obtain ⟨Ga,r2,p2,Ox⟩:=I.list hb;cases r2
 cases xs with
 | nil=>
  cases r
  refine PySem.SeqAt.eq_listAt (e:=fun _=>true) p.isList p2.isList rfl hu (fun j h1 h2=>absurd h1 (Ro _)) ?_;exact ⟨.bl true,H,I,rfl,q⟩
 | cons x xs=>
  cases r with
  | cons r1 r2=>
   refine PySem.SeqAt.eq_list_lengthsAt p.isList p2.isList (by simp) hu ?_;exact ⟨.bl false,H,I,rfl,q⟩
theorem C3 {α:Type}:∀ {l:List (Str × α)} {x:Str} {k:α},l.lookup x=some k->(x,k) ∈ l
 | [],_,_,h=>by cases h
 | (n,v) :: r,x,k,h=>by
  rw [List.lookup_cons] at h;by_cases e:x=n
  ·subst e;simp at h;subst h;exact Qy
  ·have:(x == n)=false:=beq_eq_false_iff_ne.mpr e;rw [this] at h;exact Q3 _ (C3 h)
theorem AV.plain {X:Cx} {scope:Scope} (hfree:∀ x ∈ scope.names,x.2 ≠ .free) (hcell:∀ y ∈ scope.names,y.2 ≠ .cell) (hkind:scope.kind=.function)
  (hnames:∀ y ∈ scope.names,y.2=.local->scope.names.lookup y.1=some .local):AV X scope []:=by
 refine ⟨closureFor_none hfree,hcell,hkind,hnames,fun x c h=>(by cases h),fun x h=>?_⟩;have key:∀ k,(relabel scope X.env).names.lookup x=some k->∃ y ∈ scope.names,y.2=k:=by
  intro k e;have m:=C3 e;obtain ⟨⟨n,k'⟩,hm,e'⟩:=Q0.mp m;have hf:=hfree _ hm;have:(k' == NameKind.free)=false:=by
   cases k' <;> first | rfl | exact absurd rfl hf
  dsimp only at e';rw [this] at e';simp at e';exact ⟨_,hm,e'.2⟩
 rcases h with h | h
 ·obtain ⟨y,hy,e⟩:=key _ h;exact absurd e (hcell y hy)
 ·obtain ⟨y,hy,e⟩:=key _ h;exact absurd e (hfree y hy)
def IW (c:Nat):Bool:=decide (97<=c) && decide (c<=122)
def Cc (t:Str):Bool:=decide (1<=t.length) && decide (t.length<=6) && t.cps.toList.all IW
theorem Ac {H:Hp} {p:Addr} {o:HO} (h:H p=none):Aw H (upd H p o):=fun b u e=>by
 rw [Af (Ai e h)];exact e
theorem Fd {α β:Type} (f:α->β) (l:List α) (i:Nat) (c:α) (h:l[i]? = some c):(l.take (i + 1)).map f=(l.take i).map f ++ [f c]:=by
 rw [List.take_succ,h,Qw];rfl
mutual
inductive Gk (H:Hp):V->PyData->Prop
 | non:Gk H .non .none
 | bl (b:Bool):Gk H (.bl b) (.bool b)
 | int (i:Int):Gk H (.int i) (.int i)
 | str (x:Str):Gk H (.str x) (.str x)
 | tup {a:Addr} {vs:List V} {ds:List PyData}:H a=some (.tup vs)->A7 H vs ds->Gk H (.ref a) (.tuple ds)
 | lst {a:Addr} {vs:List V} {ds:List PyData}:H a=some (.lst vs)->A7 H vs ds->Gk H (.ref a) (.list ds)
inductive A7 (H:Hp):List V->List PyData->Prop
 | nil:A7 H [] []
 | cons {v:V} {vs:List V} {d:PyData} {ds:List PyData}:Gk H v d->A7 H vs ds->A7 H (v :: vs) (d :: ds)
end
mutual
theorem Gk.mono {H H':Hp} (s:∀ a o,H a=some o->(∃ vs,o=.tup vs\/o=.lst vs)->H' a=some o):∀ {v:V} {d:PyData},Gk H v d->Gk H' v d
 | _,_,.non=>.non
 | _,_,.bl b=>.bl b
 | _,_,.int i=>.int i
 | _,_,.str x=>.str x
 | _,_,.tup e r=>.tup (s _ _ e ⟨_,.inl rfl⟩) (A7.mono s r)
 | _,_,.lst e r=>.lst (s _ _ e ⟨_,.inr rfl⟩) (A7.mono s r)
theorem A7.mono {H H':Hp} (s:∀ a o,H a=some o->(∃ vs,o=.tup vs\/o=.lst vs)->H' a=some o):∀ {vs:List V} {ds:List PyData},A7 H vs ds->A7 H' vs ds
 | _,_,.nil=>.nil
 | _,_,.cons x r=>.cons (Gk.mono s x) (A7.mono s r)
end
mutual
theorem Gk.reads {X:Cx} {pins:List (Addr × Obj)} {σ:St} {H:Hp} {s:Shared} (I:Ak X pins σ H s):∀ {v:V} {d:PyData} {u:Value},Gk H v d->As v u->∃ as,Reads s.heap u d as
 | _,_,_,.non,r=>by cases r; exact ⟨_,.none⟩
 | _,_,_,.bl b,r=>by cases r; exact ⟨_,.bool b⟩
 | _,_,_,.int i,r=>by obtain ⟨t,rfl⟩:=r; exact ⟨_,.int i t⟩
 | _,_,_,.str x,r=>by obtain ⟨t,rfl⟩:=r; exact ⟨_,.str x t⟩
 | _,_,_,.tup (a:=a) e m,r=>by
  cases r
  obtain ⟨_,Ar,rv,⟨o,ho,hc,n,hd⟩,_⟩:=(show Ax X.prog X.w H s.heap a (.tup _) from I.hok a _ e)
  obtain ⟨as,q⟩:=A7.reads I m rv;exact ⟨_,.tuple ho hc hd (by simpa using q)⟩
 | _,_,_,.lst (a:=a) e m,r=>by
  cases r
  obtain ⟨_,Ar,n,rv,ho⟩:=(show Ax X.prog X.w H s.heap a (.lst _) from I.hok a _ e)
  obtain ⟨as,q⟩:=A7.reads I m rv;exact ⟨_,.list ho rfl rfl (by simpa using q)⟩
theorem A7.reads {X:Cx} {pins:List (Addr × Obj)} {σ:St} {H:Hp} {s:Shared} (I:Ak X pins σ H s):∀ {vs:List V} {ds:List PyData} {us:List Value},A7 H vs ds->A4 vs us->∃ as,ReadsAll s.heap us ds as
 | _,_,_,.nil,r=>by cases r; exact ⟨_,.nil⟩
 | _,_,_,.cons x m,r=>by
  cases r with
  | cons r1 r2=>
   obtain ⟨as,q1⟩:=Gk.reads I x r1;obtain ⟨bs,q2⟩:=A7.reads I m r2;exact ⟨_,.cons q1 q2⟩
end
theorem DA {X:Cx} (hu:X.A.units + 64 < cLine):Ex X (compareOp .NotEq) (fun x y H Q=>∃ d e,Gk H x d/\Gk H y e/\d.canLay0=true/\e.canLay0=true/\d.depth<=60/\Q (.bl (!PyData.eqv d e)) H):=by
 intro pins s σ H x y v u Q I rx ry h;obtain ⟨d,e,h1,h2,c1,c2,hd,q⟩:=h;obtain ⟨as,r1⟩:=h1.reads I rx;obtain ⟨bs,r2⟩:=h2.reads I ry;exact SeqAt.compareNe_reads r1 r2 c1 c2 (by have:=Nat.min_le_left d.depth e.depth; lia) ⟨.bl _,H,I,rfl,q⟩
theorem K1 (z:Str) (xs:List Str):NW (.str z) (xs.map V.str)=decide (z ∈ xs):=by
 unfold NW;induction xs with
 | nil=>simp
 | cons x xs ih=>
  rw [Qt,Ri,ih];have e:KL (.str x) (.str z)=decide (z=x):=by
   show (x == z)=_
   by_cases h:z=x
   ·subst h; simp
   ·have h':¬ x=z:=fun q=>h q.symm
    rw [decide_eq_false h];exact beq_eq_false_iff_ne.mpr h'
  rw [e];by_cases h:z=x
  ·simp [h]
  ·by_cases h2:z ∈ xs <;> simp [h,h2]
theorem Jl (xs:List Str):(xs.map V.str).all Dx=true:=by
 rw [List.all_map];exact RQ.mpr fun _ _=>rfl
theorem IG {x:Str} {l u:Option Int} {c:Nat} (h:c ∈ (Txt.slice x l u).cps.toList):c ∈ x.cps.toList:=by
 unfold Txt.slice at h;split at h
 ·exact h
 ·rw [show ((⟨((Builtin.Str.strSliceIndices l u 1 x.length).filterMap (x.cps[·]?)).toArray⟩:Str).cps.toList)=(Builtin.Str.strSliceIndices l u 1 x.length).filterMap (x.cps[·]?) by simp] at h;obtain ⟨i,_,e⟩:=Rn.mp h;have:=Sg e;simpa using this
def AK (p:Addr) (H H':Hp):Prop:=∀ b o,b ≠ p->H b=some o->H' b=some o
theorem AK.trans {p:Addr} {H H1 H2:Hp} (a:AK p H H1) (b:AK p H1 H2):AK p H H2:=fun c o n e=>b c o n (a c o n e)
theorem AK.of_same {p:Addr} {H H':Hp} (s:Aw H H'):AK p H H':=fun b o _ e=>s b o e
theorem AK.upd {p:Addr} {H:Hp} {o:HO}:AK p H (L2.upd H p o):=fun b u n e=>by rw [Af n]; exact e
def AY (a:Addr) (i l:Int):List (A5 × V):=[(.inr "script",.ref a),(.inr "at",.int i),(.inr "left",.int l)]
theorem MT (a:Addr) (i l j:Int):Be (AY a i l) (.inr "at":A5) (.int j)=AY a j l:=rfl
theorem Gy (a:Addr) (i l j:Int):Be (AY a i l) (.inr "left":A5) (.int j)=AY a i j:=rfl
theorem FT {a:Addr} {i l:Int}:(AY a i l).length < sizeLine:=by
 show 3 < sizeLine
 decide
def Jx (K:Qj) (H:Hp) (a:Addr) (xs:List V):Prop:=(∃ ob,H a=some (.frz ob (.lst xs)))\/∃ o Ar n,List.lookup a K=some o/\o.cls=Value.type "list"/\o.dict=none/\o.data=Data.seq Ar n/\Ar.size<=sizeLine/\A4 xs Ar.toList
theorem Jx.sq {K:Qj} {H:Hp} {a:Addr} {xs:List V} (h:Jx K H a xs):A6 K H a xs:=by
 rcases h with ⟨ob,h⟩ | h
 ·exact .inl (.inr ⟨ob,h⟩)
 ·exact .inr h
theorem Jx.other {K:Qj} {H:Hp} {a D:Addr} {xs:List V} {o0 o:HO} (h:Jx K H a xs) (hd:H D=some o0) (h1:∀ ob u,o0 ≠ .frz ob u):Jx K (upd H D o) a xs:=by
 rcases h with ⟨ob,h⟩ | h
 ·exact .inl ⟨ob,by rw [Af (Bn h hd fun z=>h1 _ _ z.symm)]; exact h⟩
 ·exact .inr h
theorem Jx.same {K:Qj} {H H':Hp} {a:Addr} {xs:List V} (h:Jx K H a xs) (s:Aw H H'):Jx K H' a xs:=by
 rcases h with ⟨ob,h⟩ | h
 ·exact .inl ⟨ob,s _ _ h⟩
 ·exact .inr h
theorem FE {K:Qj} {H:Hp} {p a:Addr} {kvs:List (A5 × V)} {o:HO} {xs:List V} (hp:H p=some (.dK kvs)) (h:Jx K H a xs):Jx K (upd H p o) a xs:=h.other hp (by intro _ _ z; cases z)
structure A8 (K:Qj) (H:Hp) (p a:Addr) (ns:List Int) (i l:Int):Prop where
 dc:H p=some (.dK (AY a i l))
 sq:Jx K H a (ns.map V.int)
 ge:0<=i
def Mo (K:Qj):Sp:=fun vs H Q _=>∃ (a:Addr),vs=[.ref a]/\∀ (p:Addr),H p=none->Q (.ref p) (upd H p (.dK (AY a 0 0)))
def De (K:Qj):Sp:=fun vs H Q _=>∃ (p a:Addr) (ns:List Int) (i l m:Int),vs=[.ref p,.int m]/\A8 K H p a ns i l/\0 < m/\m < 1073741824/\ns.length<=63 /\
 ∀ (d i' l':Int),0<=d->d < m->A8 K (upd H p (.dK (AY a i' l'))) p a ns i' l'->Q (.int d) (upd H p (.dK (AY a i' l')))
theorem M6 {ns:List Int} {i:Int} (h0:0<=i) (h1:i < ns.length):∃ c,GV (ns.map V.int) i=some (V.int c):=by
 obtain ⟨n,rfl⟩:∃ n:Nat,i=(n:Int):=⟨i.toNat,by lia⟩
 have hn:n < ns.length:=by lia
 exact ⟨ns[n],CT (by rw [Q7,Qi hn]; rfl)⟩
theorem Mc {α:Type} {l:List α} {i:Int} (h0:0<=i) (h1:i < l.length):∃ c,GV l i=some c:=by
 obtain ⟨n,rfl⟩:∃ n:Nat,i=(n:Int):=⟨i.toNat,by lia⟩
 have hn:n < l.length:=by lia
 exact ⟨l[n],CT (Qi hn)⟩
theorem A8.same {K:Qj} {H H':Hp} {p a:Addr} {ns:List Int} {i l:Int} (h:A8 K H p a ns i l) (s:Aw H H'):A8 K H' p a ns i l:=⟨s _ _ h.dc,h.sq.same s,h.ge⟩
theorem Av {H:Hp} {p a:Addr} {i l i' l':Int} {b:Addr} {o:HO} (hp:H p=some (.dK (AY a i l))) (hb:H b=some o) (ne:o ≠ .dK (AY a i l)):(upd H p (.dK (AY a i' l'))) b=some o:=by
 rw [Af (Bn hb hp ne)];exact hb
theorem NJ {α:Type} {l:List α} {i:Int} {c:α} (h:GV l i=some c):c ∈ l:=by
 obtain ⟨j,_,h2,_⟩:=Eu h;exact Qm h2
theorem A8.stay {K:Qj} {H H':Hp} {p a:Addr} {ns:List Int} {i l:Int} (h:A8 K H p a ns i l) (k:AK p H H') {b:Addr} {o:HO} (e:H b=some o) (ne:∀ kvs,o ≠ .dK kvs):H' b=some o:=
 k b o (by intro z; subst z; rw [h.dc] at e; exact ne _ (QB.inj e).symm) e
theorem A8.other {K:Qj} {H:Hp} {p a D:Addr} {ns:List Int} {i l:Int} {o0 o:HO} (h:A8 K H p a ns i l) (hd:H D=some o0) (h1:∀ ob u,o0 ≠ .frz ob u) (h2:∀ kvs,o0 ≠ .dK kvs):A8 K (upd H D o) p a ns i l:=
 ⟨by rw [Af (Bn h.dc hd fun z=>h2 _ z.symm)]; exact h.dc,h.sq.other hd h1,h.ge⟩
abbrev Bw:Str:="abcdefghijklmnopqrstuvwxyz"
theorem G9:∀ c ∈ Bw.cps.toList,IW c=true:=by decide +kernel
theorem Hn:∀ n:Nat,n < 26->Bw.cps.toList[n]? = some (97 + n):=by
 intro n h;have:∀ k:_root_.Fin 26,Bw.cps.toList[k.val]? = some (97 + k.val):=by decide +kernel
 exact this ⟨n,h⟩
theorem Fv {d:Int} (h0:0<=d) (h1:d < 26):GV Bw.cps.toList d=some (97 + d.toNat):=by
 obtain ⟨n,rfl⟩:∃ n:Nat,d=(n:Int):=⟨d.toNat,by lia⟩
 exact CT (Hn n (by lia))
def M9 (z:Str):Prop:=∀ c ∈ z.cps.toList,IW c=true
theorem LI {x:Str} {c:Nat} (h:M9 x) (hc:IW c=true):M9 (x ++ ⟨#[c]⟩):=by
 intro k hk;have e:(x ++ (⟨#[c]⟩:Str)).cps.toList=x.cps.toList ++ [c]:=by
  rw [Str.cps_append];simp
 rw [e] at hk;rcases QA.mp hk with h' | h'
 ·exact h k h'
 ·rw [Qs.mp h']; exact hc
theorem G3 {z:Str} (h1:1<=z.length) (h2:z.length<=6) (h:M9 z):Cc z=true:=by
 unfold Cc;rw [decide_eq_true h1,decide_eq_true h2,RQ.mpr h];rfl
theorem Kx {z:Str} (h:Cc z=true):1<=z.length/\z.length<=6/\M9 z:=by
 unfold Cc at h;rw [Rq,Rq,decide_eq_true_eq,decide_eq_true_eq,RQ] at h;exact ⟨h.1.1,h.1.2,h.2⟩
def Cr (m:Nat):Str:=(⟨#[97 + m / 26 % 26]⟩:Str) ++ ⟨#[97 + m % 26]⟩
theorem DL (m:Nat):(Cr m).cps.toList=[97 + m / 26 % 26,97 + m % 26]:=by
 unfold Cr;rw [Str.cps_append];rfl
theorem Ju {m n:Nat} (h1:m < 676) (h2:n < 676) (h:Cr m=Cr n):m=n:=by
 have e:=congrArg (fun z:Str=>z.cps.toList) h;rw [DL,DL] at e;injection e with e1 e2;injection e2 with e2 _;lia
theorem H0 (m:Nat):Cc (Cr m)=true:=by
 have e:(Cr m).length=2:=by
  unfold Cr;rw [Str.length_append];rfl
 refine G3 (by lia) (by lia) fun c hc=>?_
 rw [DL] at hc;unfold IW;rw [Rq,decide_eq_true_eq,decide_eq_true_eq];rcases Qn.mp hc with rfl | hc
 ·lia
 ·rw [Qs.mp hc]; lia
theorem AE {α:Type} [BEq α] [LawfulBEq α]:∀ {l xs:List α},l.Nodup->(∀ x ∈ l,x ∈ xs)->l.length<=xs.length
 | [],_,_,_=>QH _
 | a :: l,xs,hn,hs=>by
  have ha:=hs a Qy;have OO:=QI.mp hn;have:=AE (l:=l) (xs:=xs.erase a) OO.2 fun x hx=>(List.mem_erase_of_ne (show x ≠ a from fun e=>OO.1 (by rw [<-e]; exact hx))).mpr (hs x (Q3 _ hx))
  rw [List.length_erase_of_mem ha] at this;have:0 < xs.length:=List.length_pos_of_mem ha;rw [QF];lia
theorem Ek {α:Type} {f:Nat->α}:∀ {n:Nat},(∀ i j,i < n->j < n->f i=f j->i=j)->((QO n).map f).Nodup:=by
 intro n h;rw [List.Nodup,List.pairwise_map];refine List.Pairwise.imp_of_mem (R:=fun a b=>a ≠ b) (fun {a b} ha hb hne e=>?_) S9;exact hne (h a b (Rf.mp ha) (Rf.mp hb) e)
theorem GI {n:Nat} {xs:List Str} (h:∀ m,m < n->Cr m ∈ xs) (hx:xs.length<=30):n<=30:=by
 have h1:((QO (min n 676)).map Cr).Nodup:=Ek fun i j hi hj e=>Ju (by lia) (by lia) e
 have h2:=AE h1 (xs:=xs) fun x hx=>by
  obtain ⟨m,hm,rfl⟩:=Q0.mp hx;exact h m (by have:=Rf.mp hm; lia)
 rw [Qk,R3] at h2;lia
theorem LV (xs:List Str):PyData.eqv (.list (xs.map .str)) (.list [])=xs.isEmpty:=by
 cases xs <;> rfl
theorem BW (H:Hp):∀ xs:List Str,A7 H (xs.map V.str) (xs.map .str)
 | []=>.nil
 | x :: xs=>.cons (.str x) (BW H xs)
theorem EG:∀ {xs:List Str},(∀ x ∈ xs,Cc x=true)->PyData.canLayAll0 (xs.map .str)=true
 | [],_=>rfl
 | x :: xs,h=>by
  show (PyData.strOk x && PyData.canLayAll0 (xs.map .str))=true
  rw [EG fun y hy=>h y (Q3 _ hy),SI];obtain ⟨_,_,lo⟩:=Kx (h x Qy);unfold PyData.strOk;rw [Array.all_eq_true_iff_forall_mem];intro c hc;have:=lo c (by simpa using hc);unfold IW at this;rw [Rq,decide_eq_true_eq,decide_eq_true_eq] at this;rw [decide_eq_true_eq];lia
theorem Di:∀ xs:List Str,PyData.depthAll (xs.map .str)=0
 | []=>rfl
 | x :: xs=>by
  show max 0 (PyData.depthAll (xs.map .str))=0
  rw [Di xs];rfl
def Iq:Stmt->List Stmt
 | .For _ _ b _ _=>b
 | _=>[]
def HM (K:Qj):Sp:=fun vs H Q _=>∃ (p a:Addr) (ns:List Int) (i l:Int) (n:Nat),vs=[.ref p,.int n]/\A8 K H p a ns i l/\ns.length<=63/\n<=30 /\
 ∀ (H':Hp) (D:Addr) (xs:List Str) (i' l':Int),A8 K H' p a ns i' l'->AK p H H'->H D=none->H' D=some (.lst (xs.map V.str))->xs.length=n->xs.Nodup->(∀ x ∈ xs,Cc x=true)->Q (.ref D) H'
def HN (K:Qj):Sp:=fun vs H Q _=>∃ (p a:Addr) (ns:List Int) (i l:Int),vs=[.ref p]/\A8 K H p a ns i l/\ns.length<=63 /\
 ∀ (n i' l':Int),1<=n->A8 K (upd H p (.dK (AY a i' l'))) p a ns i' l'->Q (.int n) (upd H p (.dK (AY a i' l')))
theorem AV.caught {X:Cx} {scope:Scope} {cl:List (Str × Addr)} (clos:closureFor scope X.env=pure cl) (hcell:∀ y ∈ scope.names,y.2 ≠ .cell) (hkind:scope.kind=.function)
  (hnames:∀ y ∈ scope.names,y.2=.local->scope.names.lookup y.1=some .local) (hcl:∀ y ∈ cl,X.env.cells.lookup y.1=some y.2)
  (hfr:∀ y ∈ scope.names,y.2=.free->∃ c,cl.lookup y.1=some c):AV X scope cl:=by
 refine ⟨clos,hcell,hkind,hnames,fun x c h=>hcl _ (C3 h),fun x h=>?_⟩;have key:∀ k,(relabel scope X.env).names.lookup x=some k->k=.cell\/k=.free->∃ c,cl.lookup x=some c:=by
  intro k e hk;have m:=C3 e;obtain ⟨⟨n,k'⟩,hm,e'⟩:=Q0.mp m;dsimp only at e';by_cases hf:k'=.free
  ·subst hf;have en:n=x:=by
    by_cases hc:(NameKind.free == NameKind.free && X.env.scope.kind == .function && X.env.kindOf n == some .cell)=true
    ·rw [if_pos hc] at e';injection e'
    ·rw [if_neg hc] at e';injection e'
   subst en;exact hfr _ hm rfl
  ·have:(k' == NameKind.free)=false:=by
    cases k' <;> first | rfl | exact absurd rfl hf
   rw [this] at e';simp at e';rcases hk with hk | hk
   ·exact absurd (e'.2.trans hk) (hcell _ hm)
   ·exact absurd (e'.2.trans hk) hf
 rcases h with h | h
 ·exact key _ h (.inl rfl)
 ·exact key _ h (.inr rfl)
theorem Bu.of {X:Cx} {cl:List (Str × Addr)} {scope:Scope} {N:List Str} {σ:St} (js:List (Option Nat)) (hl:js.length=N.length)
  (h:∀ (i j:Nat) (x:Str),N[i]? = some x->js[i]? = some (some j)->X.N[j]? = some x/\(X.env.kindOf x=some .cell\/X.env.kindOf x=some .free)/\((relabel scope X.env).names.lookup x=some .cell\/(relabel scope X.env).names.lookup x=some .free)) :
  Bu X cl scope N σ (js.map fun j=>j.bind fun j=>(σ[j]?).join):=by
 refine ⟨by rw [Qk,hl],fun i x v h1 h2=>?_⟩;rw [Q7] at h2;cases e:js[i]? with
 | none=>rw [e] at h2; cases h2
 | some o=>
  rw [e] at h2;cases o with
  | none=>cases h2
  | some j=>
   obtain ⟨a,b,c⟩:=h i j x h1 e;refine ⟨⟨j,a,?_⟩,b,c⟩;have h3:(σ[j]?).join=some v:=QB.inj h2;cases e2:σ[j]? with
   | none=>rw [e2] at h3; cases h3
   | some o=>
    rw [e2] at h3;have:o=some v:=h3;rw [this]
theorem Jv {X:Cx}:Bp X (.type "range") (fun xs H Q=>∃ j:Int,xs=[.int j]/\∀ q,H q=none->Q (.ref q) (upd H q (.rng 0 j))):=by
 intro pins s σ H xs us Q I r h;obtain ⟨j,rfl,q⟩:=h;obtain ⟨u,rfl,⟨t,rfl⟩⟩:=Ce r;refine call_range_1 ⟨.ref s.heap.objs.size,_,I.laid (o:=.rng 0 j) (fun b o e=>Ql _ e) (Qo _) ⟨_,_,_,Q4 _ rfl⟩,rfl,q _ I.fresh⟩
theorem GX {f:Nat->V}:∀ {n:Nat} {acc:Array Value},acc.size=n->(∀ (i:Nat) (v:Value),acc[i]? = some v->As (f i) v)->A4 ((QO n).map f) acc.toList:=by
 intro n acc hs h;have go:∀ (l:List Value) (k:Nat),(∀ (i:Nat) (v:Value),l[i]? = some v->As (f (k + i)) v)->A4 ((QO l.length).map fun i=>f (k + i)) l:=by
  intro l;induction l with
  | nil=>intro k _; exact .nil
  | cons v l ih=>
   intro k hh;rw [QF,List.range_succ_eq_map,Qt,Rc];refine .cons (by simpa using hh 0 v rfl) ?_;have:=ih (k + 1) fun i u e=>by
    have:=hh (i + 1) u (by simpa using e);rw [show k + 1 + i=k + (i + 1) by lia];exact this
   have e2:(fun i=>f (k + 1 + i))=((fun i=>f (k + i)) ∘ SR):=by
    funext i;show f (k + 1 + i)=f (k + (i + 1))
    rw [show k + 1 + i=k + (i + 1) by lia]
   rw [e2] at this;exact this
 have:=go acc.toList 0 fun i v e=>by
  rw [SN];exact h i v (by simpa using e)
 simp only [SN,Rg,hs] at this;exact this
theorem Fl {X:Cx} (hc:X.calm=true):Bp X (.type "list") (fun xs H Q=>∃ (r:Addr) (n:Nat),xs=[.ref r]/\H r=some (.rng 0 n)/\n<=100000/\∀ l,H l=none->Q (.ref l) (upd H l (.lst ((QO n).map fun (i:Nat)=>V.int (i:Int))))):=by
 intro pins s σ H xs us Q I r h;obtain ⟨r0,n,rfl,hr,hn,q⟩:=h;obtain ⟨u,rfl,rx⟩:=Ce r;cases rx
 obtain ⟨t,u,v,e⟩:=(show Ax X.prog X.w H s.heap r0 (.rng 0 n) from I.hok r0 _ hr)
 refine call_list_range (n:=n) (I.ok.hd hc) (show IsRange s.heap r0 0 n 1 t u v from e) (small_one (by decide) (by decide) (by lia) (by lia)) (by rw [rangeSize_one]; split <;> lia) (by lia) fun h' tk DO c' kp hS hacc=>?_
 refine ⟨.ref s.heap.objs.size,_,I.laid (o:=.lst ((QO n).map fun (i:Nat)=>V.int (i:Int))) kp (Qo _) ⟨?_,DO.toList,c',?_,by simpa using hS⟩,rfl,q _ I.fresh⟩
 ·rw [Qk,R3];have:100000 < sizeLine:=by decide
  lia
 ·refine GX hacc.1 fun i v e=>?_
  obtain ⟨t,rfl⟩:=hacc.2 i v e;exact ⟨t,by simp⟩
abbrev Az:=Str × Str × Int
def B2 (u:Az):PyData:=.tuple [.str u.1,.str u.2.1,.int u.2.2]
def Ei (u v:Az):Prop:=(u.1=v.1/\u.2.1=v.2.1)\/(u.1=v.2.1/\u.2.1=v.1)
structure DQ (xs:List Str) (k:Nat) (ws:List Az):Prop where
 of:∀ u ∈ ws,∃ i j:Nat,i < j/\j < k/\xs[i]? = some u.1/\xs[j]? = some u.2.1/\1<=u.2.2
 sep:ws.Pairwise fun u v=>¬ Ei u v
 to:∀ j,0 < j->j < k->∃ u ∈ ws,∃ i:Nat,i < j/\xs[i]? = some u.1/\xs[j]? = some u.2.1
 len:2 * ws.length<=k * (k - 1)
structure KW (xs:List Str) (ws:List Az):Prop where
 of:∀ u ∈ ws,u.1 ∈ xs/\u.2.1 ∈ xs/\u.1 ≠ u.2.1/\1<=u.2.2
 sep:ws.Pairwise fun u v=>¬ Ei u v
 to:∀ j,0 < j->j < xs.length->∃ u ∈ ws,∃ i:Nat,i < j/\xs[i]? = some u.1/\xs[j]? = some u.2.1
 len:2 * ws.length<=xs.length * (xs.length - 1) + 10
theorem By {xs:List Str} (h:xs.Nodup) {i j:Nat} {x:Str} (a:xs[i]? = some x) (b:xs[j]? = some x):i=j:=E8 h a b
theorem DQ.nil (xs:List Str):DQ xs 1 []:=⟨(fun _ h=>nomatch h),List.Pairwise.nil,(fun j h1 h2=>by lia),(by decide)⟩
theorem DQ.more {xs:List Str} {k:Nat} {ws us:List Az} (hn:xs.Nodup) (h:DQ xs k ws) (hk:k < xs.length) (js:List Nat) (hj:js.Nodup) (Bc:∀ j ∈ js,j < k) (h0:js ≠ [])
  (hl:us.length=js.length) (hu:∀ (q:Nat) (u:Az) (j:Nat),us[q]? = some u->js[q]? = some j->xs[j]? = some u.1/\xs[k]? = some u.2.1/\1<=u.2.2):DQ xs (k + 1) (ws ++ us):=by
 have at_:∀ u ∈ us,∃ (q j:Nat),us[q]? = some u/\js[q]? = some j/\j < k/\xs[j]? = some u.1/\xs[k]? = some u.2.1/\1<=u.2.2:=by
  intro u hm;obtain ⟨q,hq,e⟩:=Q5 hm;have e1:us[q]? = some u:=by rw [Qi hq,e]
  have e2:js[q]? = some js[q]:=Qi (by lia);obtain ⟨a,b,c⟩:=hu q u _ e1 e2;exact ⟨q,_,e1,e2,Bc _ (QX _),a,b,c⟩
 refine ⟨?_,?_,?_,?_⟩
 ·intro u hm;rcases QA.mp hm with hm | hm
  ·obtain ⟨i,j,a,b,c⟩:=h.of u hm;exact ⟨i,j,a,by lia,c⟩
  ·obtain ⟨q,j,_,_,a,b,c,d⟩:=at_ u hm;exact ⟨j,k,a,by lia,b,c,d⟩
 ·rw [Sr];refine ⟨h.sep,?_,?_⟩
  ·rw [RY];intro q r hq hr hqr al;have a1:=hu q us[q] js[q] (Qi hq) (Qi (by lia));have a2:=hu r us[r] js[r] (Qi hr) (Qi (by lia));have l1:=Bc js[q] (QX _);have l2:=Bc js[r] (QX _);rcases al with ⟨e1,_⟩ | ⟨e1,_⟩
   ·have a3:=a1.1;rw [e1] at a3;have ej:=By hn a3 a2.1;exact absurd ((S5 hj).mp ej) (by lia)
   ·have a3:=a1.1;rw [e1] at a3;have ej:=By hn a3 a2.2.1;lia
  ·intro u OL v hv al;obtain ⟨i,j,hij,hjk,e1,e2,_⟩:=h.of u OL;obtain ⟨q,m,_,_,hm,e3,e4,_⟩:=at_ v hv;rcases al with ⟨_,z⟩ | ⟨z,_⟩
   ·rw [z] at e2;have:=By hn e2 e4;lia
   ·rw [z] at e1;have:=By hn e1 e4;lia
 ·intro j h1 h2;by_cases e:j=k
  ·subst e;cases us with
   | nil=>
    cases js with
    | nil=>exact absurd rfl h0
    | cons _ _=>cases hl
   | cons u us=>
    obtain ⟨q,m,_,_,hm,e3,e4,_⟩:=at_ u Qy;exact ⟨u,Qq _ Qy,m,hm,e3,e4⟩
  ·obtain ⟨u,hm,i,a,b⟩:=h.to j h1 (by lia);exact ⟨u,QD _ hm,i,a,b⟩
 ·have:=h.len;have hjl:js.length<=k:=by
   have:=AE (l:=js) (xs:=QO k) hj fun j hm=>Rf.mpr (Bc j hm)
   rwa [R3] at this
  rw [Qz,hl];show 2 * (ws.length + js.length)<=(k + 1) * (k + 1 - 1)
  rw [S2];have e:(k + 1) * k=k * (k - 1) + 2 * k:=by
   cases k with
   | zero=>rfl
   | succ k=>
    rw [S2];simp only [SO,Nat.mul_succ,Nat.add_mul,Nat.mul_add];lia
  lia
theorem DQ.ways {xs:List Str} {ws:List Az} (hn:xs.Nodup) (h:DQ xs xs.length ws):KW xs ws:=by
 refine ⟨fun u hm=>?_,h.sep,h.to,by have:=h.len; lia⟩;obtain ⟨i,j,a,b,c,d,e⟩:=h.of u hm;refine ⟨Qm c,Qm d,fun z=>?_,e⟩;rw [z] at c;have:=By hn c d;lia
def CL (xs:List Str) (ws:List Az):Prop:=(∀ u ∈ ws,u.1 ∈ xs/\u.2.1 ∈ xs/\u.1 ≠ u.2.1/\1<=u.2.2)/\(ws.Pairwise fun u v=>¬ Ei u v) /\
 ∀ j,0 < j->j < xs.length->∃ u ∈ ws,∃ i:Nat,i < j/\xs[i]? = some u.1/\xs[j]? = some u.2.1
theorem KW.c {xs:List Str} {ws:List Az} (h:KW xs ws):CL xs ws:=⟨h.of,h.sep,h.to⟩
theorem CL.snoc {xs:List Str} {ws:List Az} {x y:Str} {n:Int} (h:CL xs ws) (hx:x ∈ xs) (hy:y ∈ xs) (ne:x ≠ y) (hn:1<=n) (no:∀ u ∈ ws,¬ ((x=u.1\/x=u.2.1)/\(y=u.1\/y=u.2.1))):CL xs (ws ++ [(x,y,n)]):=by
 refine ⟨fun u hu=>?_,?_,fun j h1 h2=>?_⟩
 ·rcases QA.mp hu with hu | hu
  ·exact h.1 u hu
  ·rw [Qs.mp hu]; exact ⟨hx,hy,ne,hn⟩
 ·rw [Sr];refine ⟨h.2.1,Rw _ _,fun u hu v hv al=>?_⟩;rw [Qs.mp hv] at al;refine no u hu ?_;rcases al with ⟨e1,e2⟩ | ⟨e1,e2⟩
  ·exact ⟨.inl e1.symm,.inr e2.symm⟩
  ·exact ⟨.inr e2.symm,.inl e1.symm⟩
 ·obtain ⟨u,hu,r⟩:=h.2.2 j h1 h2;exact ⟨u,QD _ hu,r⟩
theorem AQ {H:Hp}:∀ {vs:List V} {ds:List PyData},A7 H vs ds->vs.length=ds.length
 | _,_,.nil=>rfl
 | _,_,.cons _ r=>by rw [QF,QF,AQ r]
theorem Cd {H:Hp}:∀ {vs:List V} {ws:List Az} {i:Nat} {x:V},A7 H vs (ws.map B2)->vs[i]? = some x->∃ u t,ws[i]? = some u/\x=.ref t/\H t=some (.tup [.str u.1,.str u.2.1,.int u.2.2])
 | _,[],i,x,.nil,e=>by cases e
 | _,u :: ws,0,x,.cons (v:=v) h _,e=>by
  have e':v=x:=by simpa using e
  subst e';cases h with
  | tup ha hd=>
   refine ⟨u,_,rfl,rfl,?_⟩;cases hd with
   | cons h1 r1=>
    cases r1 with
    | cons h2 r2=>
     cases r2 with
     | cons h3 r3=>
      cases r3
      cases h1
      cases h2
      cases h3
      exact ha
 | _,u :: ws,i + 1,x,.cons _ r,e=>by
  obtain ⟨u',t,a,b⟩:=Cd (i:=i) (x:=x) r (by simpa using e);exact ⟨u',t,by simpa using a,b⟩
theorem BX {H:Hp}:∀ {vs:List V} {ds:List PyData} {v:V} {d:PyData},A7 H vs ds->Gk H v d->A7 H (vs ++ [v]) (ds ++ [d])
 | _,_,_,_,.nil,h=>.cons h .nil
 | _,_,_,_,.cons a r,h=>.cons a (BX r h)
theorem ER {H:Hp}:∀ {vs us:List V} {ds es:List PyData},A7 H vs ds->A7 H us es->A7 H (vs ++ us) (ds ++ es)
 | _,_,_,_,.nil,h=>h
 | _,_,_,_,.cons a r,h=>.cons a (ER r h)
theorem Il (x a b:Str) (n:Int):NW (.str x) [.str a,.str b,.int n]=(decide (x=a) || decide (x=b)):=by
 have e:∀ y:Str,KL (.str y) (.str x)=decide (x=y):=fun y=>by
  show (y == x)=_
  by_cases h:x=y
  ·subst h; simp
  ·rw [decide_eq_false h];exact beq_eq_false_iff_ne.mpr fun q=>h q.symm
 unfold NW;rw [Ri,Ri,Ri,List.any_nil,e,e,show KL (.int n) (.str x)=false from rfl];simp
theorem Nd {j t n:Int} (h0:0<=j) (h1:j < n) (h2:0<=t) (h3:t < n - 1):(j + 1 + t) % n ≠ j/\0<=(j + 1 + t) % n/\(j + 1 + t) % n < n:=by
 have hn:0 < n:=by lia
 refine ⟨?_,QR _ (by lia),QM _ hn⟩;by_cases h:j + 1 + t < n
 ·rw [SD (by lia) h];lia
 ·have e:(j + 1 + t) % n=j + 1 + t - n:=by
   rw [<-Int.sub_emod_right,SD (by lia) (by lia)]
  rw [e];lia
theorem C6 {xs:List Str} {i:Int} (h0:0<=i) (h1:i < xs.length):∃ x,GV (xs.map V.str) i=some (.str x)/\xs[i.toNat]? = some x:=by
 obtain ⟨n,rfl⟩:∃ n:Nat,i=(n:Int):=⟨i.toNat,by lia⟩
 have hn:n < xs.length:=by lia
 exact ⟨xs[n],CT (by rw [Q7,Qi hn]; rfl),Qi hn⟩
theorem BJ (K:Qj) {X:Cx} (h:X.K=K):Oh X (rIxL K):=by subst h; exact B5
theorem LM (K:Qj) {X:Cx} (h:X.K=K):Oh X (rIxT K):=by subst h; exact K0
theorem Kl (K:Qj) {X:Cx} (h:X.K=K):Ex X (compareOp .In) (rIn K false):=by subst h; exact DB
theorem Ck (K:Qj) {X:Cx} (h:X.K=K) {es:List Expr} {k:Nat} {t:M8} {n:Nat} {pos:Pos} (hc:X.calm=true) (ht:PGs X es t)
  (hn:(assignEach es X.env).length=n:=by rfl) (hst:(assignEach es X.env).findIdx? (·.1)=none:=by rfl):PG X (.Tuple es k pos) (gTup K n t):=by subst h; exact Kf hc ht hn hst
def JK (K:Qj):Sp:=fun vs H Q _=>∃ (p a:Addr) (ns:List Int) (i l:Int) (D:Addr) (xs:List Str),vs=[.ref p,.ref D]/\A8 K H p a ns i l/\ns.length<=63/\H D=some (.lst (xs.map V.str))/\1<=xs.length/\xs.length<=30/\xs.Nodup /\
 ∀ (H':Hp) (E:Addr) (vs:List V) (ws:List Az) (i' l':Int),A8 K H' p a ns i' l'->AK p H H'->H E=none->H' E=some (.lst vs)->A7 H' vs (ws.map B2)->KW xs ws->Q (.ref E) H'
end L2
namespace L2
open PySem PySem.W PyProof.Rows
def BN {α:Type} (n:Nat) (P:α->Prop):KasT α->Prop
 | .ret a=>P a
 | .ask i j k=>i < n/\j < n/\∀ b,BN n P (k b)
theorem BN.bind {α β:Type} {n:Nat} {P:α->Prop} {R:β->Prop} {f:α->KasT β}:∀ {t:KasT α},BN n P t->(∀ a,P a->BN n R (f a))->BN n R (t.bind f)
 | .ret a,h,hf=>hf a h
 | .ask i j k,h,hf=>⟨h.1,h.2.1,fun b=>BN.bind (h.2.2 b) hf⟩
theorem BN.wp {α:Type} {n:Nat} {P:α->Prop} {J:Shared->Prop} {cmp:Nat->Nat->(Bool->Shared->Prop)->Shared->Prop} {Q:α->Shared->Prop}
  (hc:∀ i j (C:Bool->Shared->Prop) s,i < n->j < n->J s->(∀ b s',J s'->C b s')->cmp i j C s) (hq:∀ a s,P a->J s->Q a s):∀ {t:KasT α} {s:Shared},BN n P t->J s->t.kasWp cmp Q s
 | .ret a,s,h,hs=>hq a s h hs
 | .ask i j k,s,h,hs=>hc i j _ s h.1 h.2.1 hs fun b s' LQ=>BN.wp hc hq (h.2.2 b) LQ
def F5 (n:Nat) (p:Array Nat):Prop:=p.Perm (List.toArray (QO n))
theorem F5.lt {n:Nat} {p:Array Nat} (h:F5 n p) (hn:0 < n) (i:Nat):p.getD i 0 < n:=by
 rw [Array.getD_eq_getD_getElem?];cases e:p[i]? with
 | none=>exact hn
 | some x=>
  have m:x ∈ p:=Sg e;have m2:x ∈ (List.toArray (QO n)):=(Array.Perm.mem_iff h).mp m;have m3:x ∈ QO n:=by simpa using m2
  exact Rf.mp m3
theorem F5.rev {n:Nat} {p:Array Nat} (h:F5 n p) (i j:Nat):F5 n (kas_rev p i j):=(mirror_perm p i j _).trans h
section
variable {n:Nat} (hn:0 < n)
include hn
theorem EL {p:Array Nat} (h:F5 n p):∀ (f m:Nat),BN n (fun _=>True) (kas_asc p f m)
 | 0,_=>True.intro
 | f + 1,m=>⟨h.lt hn _,h.lt hn _,fun b=>by
  cases b
  ·exact EL h f (m + 1)
  ·exact True.intro⟩
theorem CS:∀ (f:Nat) {p:Array Nat} (m q:Nat),F5 n p->BN n (fun r=>F5 n r.1) (kas_desc f p m q)
 | 0,p,m,q,h=>h
 | f + 1,p,m,q,h=>⟨h.lt hn _,h.lt hn _,fun b=>by
  cases b
  ·refine ⟨h.lt hn _,h.lt hn _,fun d=>?_⟩;cases d
   ·exact CS f _ _ h
   ·exact h
  ·show BN n _ (if q > 0 then _ else _)
   split
   ·exact CS f _ _ (h.rev _ _)
   ·exact CS f _ _ h⟩
theorem EJ {p:Array Nat} (h:F5 n p) (m r:Nat):BN n (fun x=>F5 n x.2) (kas_tail3 m r p):=BN.bind (EL hn (h.rev _ _) _ _) fun _ _=>h.rev _ _
theorem CZ {p:Array Nat} (h:F5 n p) (m r:Nat):BN n (fun x=>F5 n x.2) (kas_descPart m r p):=by
 refine BN.bind (CS hn _ _ _ h) fun x hx=>?_
 split
 ·exact EJ hn (hx.rev _ _) _ _
 ·exact EJ hn hx _ _
theorem Hx {p:Array Nat} (h:F5 n p) (r:Nat):BN n (fun x=>F5 n x.2) (kas_count r p):=by
 refine BN.bind (EL hn h _ _) fun m _=>?_
 split
 ·exact h
 ·split
  ·refine ⟨h.lt hn _,h.lt hn _,fun b=>?_⟩;cases b
   ·exact CZ hn (h.rev _ _) _ _
   ·exact h
  ·exact CZ hn h _ _
theorem Dh {p:Array Nat} (h:F5 n p) (k:Nat):∀ (f l r:Nat),BN n (fun _=>True) (kas_place p k f l r)
 | 0,_,_=>True.intro
 | f + 1,l,r=>by
  show BN n _ (if l >= r then _ else _)
  split
  ·exact True.intro
  ·refine ⟨h.lt hn _,h.lt hn _,fun b=>?_⟩;cases b
   ·exact Dh h k f _ _
   ·exact Dh h k f _ _
theorem GA:∀ (f:Nat) {p:Array Nat} (k:Nat),F5 n p->BN n (fun q=>F5 n q) (kas_bin f p k)
 | 0,p,k,h=>h
 | f + 1,p,k,h=>BN.bind (Dh hn h k _ _ _) fun l _=>GA f (k + 1) ((bubble_perm p k (k - l)).trans h)
theorem Jj:BN n (fun q=>F5 n q) (kas_sort n):=by
 refine BN.bind (Hx hn (Array.Perm.refl _) n) fun r hr=>?_
 split
 ·exact GA hn _ _ hr
 ·exact hr
end
theorem Kk {α:Type} {n:Nat} {p:Array Nat} (h:F5 n p) (xs:List α) (d:α) (hl:xs.length=n):(p.toList.map fun i=>xs.getD i d).Perm xs:=by
 have h1:p.toList.Perm (QO n):=by
  have:=RW.mp h;simpa using this
 refine (h1.map _).trans (List.Perm.of_eq ?_);subst hl;apply List.ext_getElem
 ·simp
 ·intro i h1 h2;simp [h2]
end L2
namespace L2
open PySem PySem.Spec PyProof.Rows PySem.W
def GP (h:Heap) (v:Value):Prop:=∃ a o xs n x y k t u q,v=.ref a/\h.get? a=some o/\o.cls=.type "tuple"/\o.data=.seq xs n/\xs=#[Value.str x t,.str y u,.int k q]
theorem Li {X:Cx} {pins:List (Addr × Obj)} {σ:St} {H:Hp} {s:Shared} (I:Ak X pins σ H s):∀ {vs:List V} {ws:List Az} {us:List Value},A7 H vs (ws.map B2)->A4 vs us->∀ v ∈ us,GP s.heap v:=by
 intro vs ws;induction ws generalizing vs with
 | nil=>intro us d r v hv; cases d; cases r; cases hv
 | cons w ws ih=>
  intro us d r v hv;cases d with
  | cons d1 d2=>
   cases r with
   | cons r1 r2=>
    rcases Qn.mp hv with rfl | hv
    ·obtain ⟨u,t,gu,rfl,ht⟩:=Cd (i:=0) (ws:=w :: ws) (A7.cons d1 d2) rfl;cases gu
     cases r1
     obtain ⟨_,Ar,rv,⟨o,ho,hc,n,hd⟩,_⟩:=(show Ax X.prog X.w H s.heap t (.tup _) from I.hok t _ ht)
     cases rv with
     | cons a1 b1=>
      cases b1 with
      | cons a2 b2=>
       cases b2 with
       | cons a3 b3=>
        cases b3
        obtain ⟨t1,rfl⟩:=a1;obtain ⟨t2,rfl⟩:=a2;obtain ⟨t3,rfl⟩:=a3;exact ⟨t,o,_,n,_,_,_,t1,t2,t3,rfl,ho,hc,hd,rfl⟩
    ·exact ih d2 r2 v hv
theorem ME {prog:Program} {w:World} {A:Around} {s:Shared} {u v:Value} {C:Bool->Shared->Prop} (hu:GP s.heap u) (hv:GP s.heap v) (hC:∀ b,C b s) :
  wpAny (model prog w) A (keyLt' (tuples' true) u v) C (fun _ _=>False) s:=by
 obtain ⟨a,o,xs,n,x,y,k,t1,t2,t3,rfl,ho,hc,hd,rfl⟩:=hu;obtain ⟨a',o',xs',n',x',y',k',t1',t2',t3',rfl,Im,K8,M3,rfl⟩:=hv;refine kat_lt ho hd Im M3 ?_;refine kat_cons (SeqAt.EqAt.str_str x t1 x' t1' _ _ _ _ ?_);refine kat_go (fun _=>kat_yes ?_) (fun _=>kat_no (oneLt_str (hC _)));refine kat_cons (SeqAt.EqAt.str_str y t2 y' t2' _ _ _ _ ?_);refine kat_go (fun _=>kat_yes ?_) (fun _=>kat_no (kat_one _ _ (PySem.P.lt_str (hC _))));refine kat_cons (SeqAt.EqAt.int_int k t3 k' t3' _ _ _ _ ?_);refine kat_go (fun _=>kat_yes (kat_nil (hC _))) (fun _=>kat_no (kat_one _ _ (lt_int (hC _))))
theorem Ax.there {P:Program} {w:World} {H:Hp} {h:Heap} {a:Addr} {o:HO} (x:Ax P w H h a o):∃ ob,h.get? a=some ob:=by
 cases o with
 | lst xs=>obtain ⟨_,_,_,_,e⟩:=x; exact ⟨_,e⟩
 | tup xs=>obtain ⟨_,_,_,⟨ob,e,_⟩,_⟩:=x; exact ⟨ob,e⟩
 | dK kvs=>obtain ⟨_,_,_,_,o,_,_,e,_⟩:=x; exact ⟨o,e⟩
 | dT kvs=>obtain ⟨_,_,_,_,o,_,_,e,_⟩:=x; exact ⟨o,e⟩
 | set S n=>obtain ⟨o,_,_,_,e,_⟩:=x; exact ⟨o,e⟩
 | ins C dx fs=>obtain ⟨_,_,_,e,_⟩:=x; exact ⟨_,e⟩
 | own y=>exact x
 | xd fs=>obtain ⟨_,⟨_,_,_,e,_⟩,_⟩:=x; exact ⟨_,e⟩
 | rng lo hi=>obtain ⟨_,_,_,e⟩:=x; exact ⟨_,e⟩
 | frz ob u=>obtain ⟨e,_⟩:=x; exact ⟨_,e⟩
 | tbl ps=>exact ⟨_,(show h.get? a=some _ from x)⟩
 | met f y=>exact ⟨_,(show h.get? a=some _ from x)⟩
 | ext φ=>obtain ⟨_,⟨_,e⟩,_⟩:=x; exact ⟨_,e⟩
theorem Ak.laidF {X:Cx} {pins:List (Addr × Obj)} {σ:St} {H:Hp} {s:Shared} {h2:Heap} {D:Addr} {o:HO} {m:Str->Option Value} (I:Ak X pins σ H s)
  (hl:s.heap.Ns X.env.locals m/\∀ (i:Nat) (x:Str) (v:V),X.N[i]? = some x->σ[i]? = some (some v)->Vis X.env.scope x->∃ u,As v u/\Look X.env s.heap m x u) (hn:h2.Ns X.env.locals m)
  (kp:∀ b ob,b ≠ X.env.locals->s.heap.get? b=some ob->h2.get? b=some ob) (hD:s.heap.get? D=none) (hDL:D ≠ X.env.locals) (new:Ax X.prog X.w (upd H D o) h2 D o):Ak X pins σ (upd H D o) { s with heap:=h2 }:=by
 have fD:H D=none:=by
  cases z:H D with
  | none=>rfl
  | some u=>
   obtain ⟨ob,e⟩:=Ax.there (I.hok D u z);rw [hD] at e;cases e
 have neL:∀ b ob,X.s₀.heap.get? b=some ob->b ≠ X.env.locals:=fun b ob e=>Qv (Qu (Qp e) I.ok.above)
 have neD:∀ b ob,s.heap.get? b=some ob->b ≠ D:=fun b ob e z=>by rw [z,hD] at e; cases e
 have cellK:∀ x c,X.env.cells.lookup x=some c->∀ v,s.heap.IsCell c v->h2.IsCell c v:=fun x c e v ⟨ob,ho,hd⟩=>⟨ob,kp c ob (I.cne x c e) ho,hd⟩
 refine ⟨I.ok,I.os,I.bare,⟨?_,?_,?_,?_,?_,?_,?_⟩,⟨m,hn,?_⟩,?_,?_,?_,?_,?_,I.len⟩
 ·exact fun b ob e n hb hx=>kp b ob (neL b ob e) (I.base.keep b ob e n hb hx)
 ·intro b ob e n hb hx;obtain ⟨sl,q⟩:=I.base.slot b ob e n hb hx;exact ⟨sl,kp b _ (neL b ob e) q⟩
 ·intro b ob e n hx;obtain ⟨Nb,q⟩:=I.base.there b ob e hx;rw [Af (neD b Nb q)];exact I.base.free b ob e n hx
 ·intro b ob e hx;obtain ⟨Nb,q⟩:=I.base.there b ob e hx;exact ⟨Nb,kp b Nb (neL b ob e) q⟩
 ·intro b xs e;have q:=I.base.tups b xs e;rw [Af (Ai q fD)];exact q
 ·intro b ob u e;have q:=I.base.frzs b ob u e;rw [Af (Ai q fD)];exact q
 ·intro b ps e;obtain ⟨more,q⟩:=I.base.tbls b ps e;exact ⟨more,by rw [Af (Ai q fD)]; exact q⟩
 ·intro i x v e1 e2 e3;obtain ⟨u,r,l⟩:=hl.2 i x v e1 e2 e3;refine ⟨u,r,?_⟩;rcases l with l | ⟨k,c,e,z⟩
  ·exact .inl l
  ·exact .inr ⟨k,c,e,cellK x c e _ z⟩
 ·intro x c e;obtain ⟨v,z⟩:=I.cell x c e;exact ⟨v,cellK x c e v z⟩
 ·rw [Af (Ne.symm hDL)];exact I.free
 ·intro x c e;obtain ⟨v,ob,ho,_⟩:=I.cell x c e;rw [Af (neD c ob ho)];exact I.freeC x c e
 ·intro p hp;obtain ⟨e,n,ne,nf,d⟩:=I.pin p hp;exact ⟨kp _ _ ne e,by rw [Af (neD _ _ e)]; exact n,ne,nf,d⟩
 ·intro b u e;by_cases hb:b=D
  ·subst hb;rw [Ab] at e;cases e
   exact new
  ·rw [Af hb] at e;refine (I.hok b u e).stay (fun c v hc q=>kp c v ?_ q) (fun c q=>by rw [Af (Ai q fD)]; exact q) fun c xs q=>by rw [Af (Ai q fD)]; exact q
   rintro rfl;rcases hc with rfl | hc
   ·rw [I.free] at e; cases e
   ·rw [I.free] at hc; cases hc
theorem DM {X:Cx}:Bp X (.builtin "sorted") (fun xs H Q=>∃ (a:Addr) (vs:List V) (ws:List Az),xs=[.ref a]/\H a=some (.lst vs)/\A7 H vs (ws.map B2)/\2<=ws.length/\ws.length < 64 /\
  ∀ (l:Addr) (Dd:List V),H l=none->Dd.Perm vs->Q (.ref l) (upd H l (.lst Dd))):=by
 intro pins s σ H xs us Q I r h;obtain ⟨a,vs,ws,rfl,ha,hd,h2,h64,q⟩:=h;obtain ⟨u,rfl,ru⟩:=Ce r;cases ru
 obtain ⟨Ar,rv,pl,hz⟩:=I.list (A6.of ha);have hwl:Ar.length=ws.length:=by rw [<-rv.length,AQ hd,Qk]
 obtain ⟨m,hlm⟩:=id I.loc;have F:Fr X.base X.env.locals s.heap m:=⟨hlm.1,I.bk,QE I.ok.bsz I.ok.above⟩
 refine kat_sorted F (Ks (g:=X.base) (h:=s.heap) (L:=X.env.locals)) pl.isList (by lia) (by lia) fun D e1 h' F' N' Bc=>?_
 have kp:∀ b o,b ≠ X.env.locals->s.heap.get? b=some o->h'.get? b=some o:=fun b o hb e=>by
  cases z:X.base.get? b with
  | some u=>
   have:=(I.bs b u z).1;rw [e] at this;cases this
   exact F'.keep b _ z
  | none=>exact (N' (b,o) (Q3 _ (CI hb z e))).1
 have nL:∀ b o xs n,s.heap.get? b=some o->o.data=.seq xs n->b ≠ X.env.locals:=fun b o xs n e hc z=>by
  obtain ⟨o',es,ep,Im,M3,_⟩:=hlm.1;rw [z,Im] at e;cases e
  rw [M3] at hc;cases hc
 have at':∀ v ∈ Ar,GP h' v:=fun v hv=>by
  obtain ⟨a,o,xs,n,x,y,k,t,u,q,e1,e2,e3,e4,e5⟩:=Li I hd rv v hv;exact ⟨a,o,xs,n,x,y,k,t,u,q,e1,kp a o (nL a o _ _ e2 e4) e2,e3,e4,e5⟩
 have tups:∀ (l:List Value),(∀ v ∈ l,GP h' v)->∃ fs:List Value,KatTups h' l fs/\fs.length=l.length/\∀ f ∈ fs,∃ x t,f=Value.str x t:=by
  intro l;induction l with
  | nil=>intro _; exact ⟨[],KatTups.nil,rfl,fun f hf=>nomatch hf⟩
  | cons v l ih=>
   intro hl;obtain ⟨fs,k1,k2,k3⟩:=ih fun v hv=>hl v (Q3 _ hv)
   obtain ⟨a,o,xs,n,x,y,k,t,u,q,rfl,e2,e3,e4,rfl⟩:=hl v Qy;refine ⟨.str x t :: fs,KatTups.cons e2 e3 e4 rfl k1,by rw [QF,QF,k2],fun f hf=>?_⟩;rcases Qn.mp hf with rfl | hf
   ·exact ⟨x,t,rfl⟩
   ·exact k3 f hf
 obtain ⟨fs,k1,k2,k3⟩:=tups Ar at';refine kat_kind (T:=.type "str") (fs:=fs) k1 (by lia) (fun v hv=>?_) rfl ?_
 ·obtain ⟨x,t,rfl⟩:=k3 v hv;exact Looks.now
 ·refine BN.wp (n:=Ar.length) (P:=F5 Ar.length) (J:=fun s'=>s' = { s with heap:=h' }) (fun i j C s' hi hj hs hC=>?_) (fun p s' hp hs=>?_) (Jj (by lia)) rfl
  ·subst hs;refine ME ?_ ?_ fun b=>hC b _ rfl
   ·refine at' _ ?_;rw [Q6,Qi hi];exact QX hi
   ·refine at' _ ?_;rw [Q6,Qi hj];exact QX hj
  ·subst hs;refine KasFin.intro F' N' (.head fun p hp=>Qv (Bc p hp)) fun h2 c F2 N2=>?_
   have hD:s.heap.get? D=none:=by
    cases z:s.heap.get? D with
    | none=>rfl
    | some ob=>
     have n0:=(N' _ Qy).2;exact absurd (Bc (D,ob) (CI n0.1 n0.2 z)) (QL _)
   have kp2:∀ b o,b ≠ X.env.locals->s.heap.get? b=some o->h2.get? b=some o:=fun b o hb e=>by
    cases z:X.base.get? b with
    | some u=>
     have:=(I.bs b u z).1;rw [e] at this;cases this
     exact F2.keep b _ z
    | none=>exact (N2 (b,o) (Q3 _ (CI hb z e))).1
   have fD:H D=none:=by
    cases z:H D with
    | none=>rfl
    | some u=>
     obtain ⟨ob,e⟩:=Ax.there (I.hok D u z);rw [hD] at e;cases e
   have Mr:(p.toList.map fun i=>vs.getD i .non).Perm vs:=Kk hp vs .non rv.length;have vv:∀ l:List Nat,(∀ i ∈ l,i < Ar.length)->A4 (l.map fun i=>vs.getD i .non) (l.map fun i=>Ar.getD i Value.none):=by
    intro l;induction l with
    | nil=>intro _; exact .nil
    | cons i l ih=>
     intro hl;refine .cons ?_ (ih fun j hj=>hl j (Q3 _ hj));have hi:=hl i Qy;have NZ:i < vs.length:=by rw [rv.length]; exact hi
     obtain ⟨u,e1,e2⟩:=rv.get (Qi NZ);show As (vs.getD i .non) (Ar.getD i Value.none)
     rw [Q6,Q6,Qi NZ,e1];exact e2
   have inl:∀ i ∈ p.toList,i < Ar.length:=fun i hi=>by
    have h1:p.toList.Perm (QO Ar.length):=by
     have:=RW.mp hp;simpa using this
    exact Rf.mp ((h1.mem_iff).mp hi)
   refine ⟨.ref D,_,I.laidF (o:=.lst (p.toList.map fun i=>vs.getD i .non)) hlm F2.ns kp2 hD (N' _ Qy).2.1 ⟨?_,_,c,vv p.toList inl,(N2 _ Qy).1⟩,rfl,q D _ fD Mr⟩;rw [Mr.length_eq];exact hz
end L2
namespace L2
open PySem PySem.Spec PyProof.Rows
def Gg (a b:Str) (i:Nat):List Nat:=if i=0 then a.cps.toList else b.cps.toList
theorem FC {a b:Str} {t u:Tok} {i:Nat} {v:Value} (h:(#[Value.str a t,.str b u]:Array Value)[i]? = some v):(i=0/\v=.str a t)\/(i=1/\v=.str b u):=by
 match i,h with
 | 0,h=>exact .inl ⟨rfl,by simpa using h.symm⟩
 | 1,h=>exact .inr ⟨rfl,by simpa using h.symm⟩
 | n + 2,h=>simp at h
theorem ND {prog:Program} {w:World} {A:Around} {a b:Str} {t u:Tok}:CmpOf prog w A .Lt (fun i v=>(#[Value.str a t,.str b u]:Array Value)[i]? = some v) (fun i j=>decide (Gg a b i < Gg a b j)):=by
 intro i j vi vj s Q E hi hj hQ;rcases FC hi with ⟨rfl,rfl⟩ | ⟨rfl,rfl⟩ <;> rcases FC hj with ⟨rfl,rfl⟩ | ⟨rfl,rfl⟩ <;> exact PySem.P.lt_str hQ
theorem NF {prog:Program} {w:World} {A:Around} {a b:Str} {t u:Tok}:CmpOf prog w A .Gt (fun i v=>(#[Value.str a t,.str b u]:Array Value)[i]? = some v) (fun i j=>decide (Gg a b j < Gg a b i)):=by
 intro i j vi vj s Q E hi hj hQ;rcases FC hi with ⟨rfl,rfl⟩ | ⟨rfl,rfl⟩ <;> rcases FC hj with ⟨rfl,rfl⟩ | ⟨rfl,rfl⟩ <;> exact PySem.P.gt_str hQ
section
variable {prog:Program} {w:World} {A:Around} {E:Value->Shared->Prop} {s:Shared}
theorem FX {a b:Str} {t u:Tok} {Q:Value->Shared->Prop} (hh:A.handled=none)
  (h:∀ h' tk,(∀ c o,s.heap.get? c=some o->h'.get? c=some o)->Q (if b.cps.toList < a.cps.toList then .str b u else .str a t) { s with heap:=h',toks:=tk }) :
  wpAny (model prog w) A (call (.builtin "min") [.str a t,.str b u]) Q E s:=by
 have hT:(s.heap.push { cls:=.type "tuple",data:=.seq #[.str a t,.str b u] }).IsTuple s.heap.objs.size #[.str a t,.str b u]:=⟨_,Q4 _ rfl,rfl,0,rfl⟩
 refine call_min_two (wpAny_pyIter_tuple hT ?_);have hsz:(s.heap.push { cls:=.type "tuple",data:=.seq #[.str a t,.str b u] }).objs.size=s.heap.objs.size + 1:=QV ..;refine ⟨_,[_,s.heap.objs.size],[_],_,_,_,_,rfl,Walks.tuple (A:=A.in1) hh _ s.heap.objs.size (by rw [hsz]; exact Qv (QC _)) #[.str a t,.str b u],
  ⟨⟨_,Q4 _ rfl,rfl,rfl⟩,hT.push _⟩,fun c hc=>?_,by simp,ND,fun v h' tk hP hk=>?_⟩
 ·show c < ((s.heap.push _).push _).objs.size
  rw [QV,hsz];rcases Qn.mp hc with rfl | hc
  ·rw [hsz]; exact QC _
  ·rcases Qn.mp hc with rfl | hc
   ·exact QK (QC _)
   ·cases hc
 ·have hold:∀ c o,s.heap.get? c=some o->h'.get? c=some o:=fun c o e=>by
   refine hk c o (fun hm=>?_) (Ql _ (Ql _ e));rcases Qn.mp hm with e1 | hm
   ·have:=Qp e; rw [e1,hsz] at this; exact QL _ (R5 this)
   ·cases hm
  have hv:v=if b.cps.toList < a.cps.toList then Value.str b u else Value.str a t:=by
   have KA:(#[Value.str a t,.str b u]:Array Value)[if decide (b.cps.toList < a.cps.toList)=true then 1 else 0]? = some v:=hP;by_cases hba:b.cps.toList < a.cps.toList
   ·rw [if_pos (decide_eq_true hba)] at KA;rw [if_pos hba];simpa using KA.symm
   ·rw [if_neg (by simpa using hba)] at KA;rw [if_neg hba];simpa using KA.symm
  rw [hv];exact h h' tk hold
theorem FY {a b:Str} {t u:Tok} {Q:Value->Shared->Prop} (hh:A.handled=none)
  (h:∀ h' tk,(∀ c o,s.heap.get? c=some o->h'.get? c=some o)->Q (if a.cps.toList < b.cps.toList then .str b u else .str a t) { s with heap:=h',toks:=tk }) :
  wpAny (model prog w) A (call (.builtin "max") [.str a t,.str b u]) Q E s:=by
 have hT:(s.heap.push { cls:=.type "tuple",data:=.seq #[.str a t,.str b u] }).IsTuple s.heap.objs.size #[.str a t,.str b u]:=⟨_,Q4 _ rfl,rfl,0,rfl⟩
 refine call_max_two (wpAny_pyIter_tuple hT ?_);have hsz:(s.heap.push { cls:=.type "tuple",data:=.seq #[.str a t,.str b u] }).objs.size=s.heap.objs.size + 1:=QV ..;refine ⟨_,[_,s.heap.objs.size],[_],_,_,_,_,rfl,Walks.tuple (A:=A.in1) hh _ s.heap.objs.size (by rw [hsz]; exact Qv (QC _)) #[.str a t,.str b u],
  ⟨⟨_,Q4 _ rfl,rfl,rfl⟩,hT.push _⟩,fun c hc=>?_,by simp,NF,fun v h' tk hP hk=>?_⟩
 ·show c < ((s.heap.push _).push _).objs.size
  rw [QV,hsz];rcases Qn.mp hc with rfl | hc
  ·rw [hsz]; exact QC _
  ·rcases Qn.mp hc with rfl | hc
   ·exact QK (QC _)
   ·cases hc
 ·have hold:∀ c o,s.heap.get? c=some o->h'.get? c=some o:=fun c o e=>by
   refine hk c o (fun hm=>?_) (Ql _ (Ql _ e));rcases Qn.mp hm with e1 | hm
   ·have:=Qp e; rw [e1,hsz] at this; exact QL _ (R5 this)
   ·cases hm
  have hv:v=if a.cps.toList < b.cps.toList then Value.str b u else Value.str a t:=by
   have KA:(#[Value.str a t,.str b u]:Array Value)[if decide (a.cps.toList < b.cps.toList)=true then 1 else 0]? = some v:=hP;by_cases hba:a.cps.toList < b.cps.toList
   ·rw [if_pos (decide_eq_true hba)] at KA;rw [if_pos hba];simpa using KA.symm
   ·rw [if_neg (by simpa using hba)] at KA;rw [if_neg hba];simpa using KA.symm
  rw [hv];exact h h' tk hold
end
def Hl (a b:Str):Str:=if b.cps.toList < a.cps.toList then b else a
def Hm (a b:Str):Str:=if a.cps.toList < b.cps.toList then b else a
theorem HA {X:Cx} (hc:X.calm=true):Bp X (.builtin "min") (fun xs H Q=>∃ i j,xs=[.str i,.str j]/\Q (.str (Hl i j)) H):=by
 intro pins s σ H xs us Q I r h;obtain ⟨i,j,rfl,q⟩:=h;obtain ⟨u,w',rfl,⟨t,rfl⟩,⟨t',rfl⟩⟩:=HI r;refine FX (I.ok.hd hc) fun h' tk k=>⟨_,H,I.kept k,?_,q⟩
 unfold Hl;by_cases hj:j.cps.toList < i.cps.toList
 ·rw [if_pos hj,if_pos hj]; exact ⟨_,rfl⟩
 ·rw [if_neg hj,if_neg hj]; exact ⟨_,rfl⟩
theorem HB {X:Cx} (hc:X.calm=true):Bp X (.builtin "max") (fun xs H Q=>∃ i j,xs=[.str i,.str j]/\Q (.str (Hm i j)) H):=by
 intro pins s σ H xs us Q I r h;obtain ⟨i,j,rfl,q⟩:=h;obtain ⟨u,w',rfl,⟨t,rfl⟩,⟨t',rfl⟩⟩:=HI r;refine FY (I.ok.hd hc) fun h' tk k=>⟨_,H,I.kept k,?_,q⟩
 unfold Hm;by_cases hj:i.cps.toList < j.cps.toList
 ·rw [if_pos hj,if_pos hj]; exact ⟨_,rfl⟩
 ·rw [if_neg hj,if_neg hj]; exact ⟨_,rfl⟩
theorem HK {ss:List Str}:∀ {us:List Value},A4 (ss.map V.str) us->StrsAre us ss:=by
 induction ss with
 | nil=>intro us r; cases r; exact .nil
 | cons x ss ih=>
  intro us r;cases r with
  | cons r1 r2=>
   obtain ⟨t,rfl⟩:=r1;exact .cons x t (ih r2)
theorem Ia:∀ {us:List Value} {ss:List Str},StrsAre us ss->A4 (ss.map V.str) us
 | _,_,.nil=>.nil
 | _,_,.cons x t r=>.cons ⟨t,rfl⟩ (Ia r)
theorem DN {X:Cx}:Bp X (.builtin "sorted") (fun xs H Q=>∃ (a:Addr) (ss:List Str),xs=[.ref a]/\A6 X.K H a (ss.map V.str)/\ss.length < 64 /\
  ∀ (l:Addr) (D7:List Str),H l=none->D7.Perm ss->sortedS D7=true->Q (.ref l) (upd H l (.lst (D7.map V.str)))):=by
 intro pins s σ H xs us Q I r h;obtain ⟨a,ss,rfl,ha,h64,q⟩:=h;obtain ⟨u,rfl,ru⟩:=Ce r;cases ru
 obtain ⟨Ar,rv,pl,hz⟩:=I.list ha;have hl:Ar.length=ss.length:=by rw [<-rv.length,Qk]
 refine sorted_strs pl.isList (HK rv) (by lia) fun out D7 h1 h2 h3=>?_
 obtain ⟨e,he⟩:=sortedAll_at s.heap Ar out;refine ⟨.ref (s.heap.objs.size + 1),_,I.laid (o:=.lst (D7.map V.str)) (t':=s.toks) (fun b o z=>sortedAll_old z) (QN _) ⟨?_,out.toList,e,Ia h1,by simpa using he⟩,rfl,q _ D7 (I.hok.fresh (QN _)) h2 h3⟩;rw [Qk,h2.length_eq];have:100 < sizeLine:=by decide
 lia
end L2
namespace L2
open PySem PySem.Spec PySem.W PyProof.Rows
section
variable {prog:Program} {w:World} {A:Around} {E:Value->Shared->Prop} {s:Shared} {lt:Keyed->Keyed->Bool}
end
inductive CD where
 | i (n:Int)
 | s (x:Str)
 deriving DecidableEq
def B7:CD->CD->Bool
 | .i a,.i b=>decide (a < b)
 | .s a,.s b=>decide (a.cps.toList < b.cps.toList)
 | .i _,.s _=>true
 | .s _,.i _=>false
def Bd:List CD->List CD->Bool
 | [],[]=>false
 | [],_ :: _=>true
 | _ :: _,[]=>false
 | x :: xs,y :: ys=>if x=y then Bd xs ys else B7 x y
theorem Mb (a:CD):B7 a a=false:=by
 cases a with
 | i n=>simp [B7]
 | s x=>exact strKind.irrefl x.cps.toList
theorem I0:∀ {a b c:CD},B7 a b=true->B7 b c=true->B7 a c=true
 | .i a,.i b,.i c,h1,h2=>by
  simp only [B7,decide_eq_true_eq] at h1 h2 ⊢;lia
 | .i _,.i _,.s _,_,_=>rfl
 | .i _,.s _,.s _,_,_=>rfl
 | .i _,.s _,.i _,_,h=>by cases h
 | .s _,.i _,_,h,_=>by cases h
 | .s _,.s _,.i _,_,h=>by cases h
 | .s x,.s y,.s z,h1,h2=>strKind.trans x.cps.toList y.cps.toList z.cps.toList h1 h2
theorem IA {a b:CD} (h:a ≠ b):B7 a b=true\/B7 b a=true:=by
 cases a <;> cases b <;> simp [B7]
 ·have:∀ x y:Int,CD.i x ≠ CD.i y->x < y\/y < x:=fun x y h=>by
   have:x ≠ y:=fun e=>h (by rw [e])
   lia
  exact this _ _ h
 ·rename_i x y
  by_cases h1:x.cps.toList < y.cps.toList
  ·exact .inl h1
  ·by_cases h2:y.cps.toList < x.cps.toList
   ·exact .inr h2
   ·exfalso
    apply h;have e:=strKind.total x.cps.toList y.cps.toList (decide_eq_false h1) (decide_eq_false h2);cases x
    cases y
    rw [S3] at e;subst e;rfl
theorem Et:∀ a,Bd a a=false
 | []=>rfl
 | x :: xs=>by unfold Bd; rw [if_pos rfl]; exact Et xs
theorem NH {a b:CD} (h:B7 a b=true):a ≠ b:=fun e=>by
 rw [e,Mb] at h;cases h
theorem Ij:∀ a b c,Bd a b=true->Bd b c=true->Bd a c=true
 | [],[],_,h,_=>by cases h
 | [],_ :: _,[],_,h=>by cases h
 | [],_ :: _,_ :: _,_,_=>rfl
 | _ :: _,[],_,h,_=>by cases h
 | _ :: _,_ :: _,[],_,h=>by cases h
 | x :: xs,y :: ys,z :: zs,h1,h2=>by
  unfold Bd at h1 h2 ⊢;by_cases e1:x=y
  ·rw [if_pos e1] at h1;by_cases e2:y=z
   ·rw [if_pos e2] at h2;rw [if_pos (e1.trans e2)];exact Ij xs ys zs h1 h2
   ·rw [if_neg e2] at h2;rw [if_neg (by rw [e1]; exact e2),e1];exact h2
  ·rw [if_neg e1] at h1;by_cases e2:y=z
   ·rw [if_neg (by rw [<-e2]; exact e1),<-e2];exact h1
   ·rw [if_neg e2] at h2;have h3:=I0 h1 h2;rw [if_neg (NH h3)];exact h3
theorem Ik:∀ a b,Bd a b=false->Bd b a=false->a=b
 | [],[],_,_=>rfl
 | [],_ :: _,h,_=>by cases h
 | _ :: _,[],_,h=>by cases h
 | x :: xs,y :: ys,h1,h2=>by
  unfold Bd at h1 h2;by_cases e:x=y
  ·rw [if_pos e] at h1;rw [if_pos e.symm] at h2;rw [e,Ik xs ys h1 h2]
  ·rw [if_neg e] at h1;rw [if_neg (fun z=>e z.symm)] at h2;rcases IA e with q | q
   ·rw [h1] at q; cases q
   ·rw [h2] at q; cases q
section
variable {prog:Program} {w:World} {A:Around} {E:Value->Shared->Prop} {s:Shared} {Q:Bool->Shared->Prop}
end
end L2
namespace L2
open PySem PySem.Spec PyProof.Rows
section
variable {prog:Program} {w:World} {A:Around} {E:Value->Shared->Prop} {s:Shared}
theorem JR {a:Addr} {vs:List Value} {n:Nat} {P:PySem.Fin->Shared->Prop} (ho:s.heap.get? a=some (seqObj "list" vs.toArray n)) (h2:vs.length < 2)
  (h:P (.done (.ret .none)) { s with heap:=sortedHeap s.heap a vs vs.toArray }):wpAny (model prog w) A (Builtin.«list.sort» ⟨[.ref a],[]⟩) P E s:=by
 rw [list_sort_plain];have ha:a < s.heap.objs.size:=Qp ho;refine wpAny_bind (listItems_at ho rfl ?_);refine wpAny_bind (listUpdate_at ho rfl ?_);obtain ⟨e1,ho1⟩:∃ e1,(s.heap.update a (Obj.mapSeq fun _=>#[])).get? a=some (seqObj "list" #[] e1):=⟨_,get?_update_seq ho (fun _=>#[])⟩
 refine wpAny_bind (seqEpoch_at ho1 rfl ?_);refine wpAny_bind (wpAny_newTuple ?_);refine wpAny_bind (wpAny_newList ?_);refine wpAny_holding ?_;have ho6:(((s.heap.update a (Obj.mapSeq fun _=>#[])).push (seqObj "tuple" vs.toArray 0)).push (seqObj "list" #[] 0)).get? a=some (seqObj "list" #[] e1):=by
  rw [S4 _ _ _ (by rw [size_push',RR]; exact Qv (QK ha)),S4 _ _ _ (by rw [RR]; exact Qv ha)];exact ho1
 show wpAny (model prog w) A _ P E { s with heap:=((s.heap.update a (Obj.mapSeq fun _=>#[])).push (seqObj "tuple" vs.toArray 0)).push (seqObj "list" #[] 0) }
 dsimp only;have hsz:vs.toArray.size < 2:=by simpa using h2
 rw [if_pos hsz,if_pos hsz];refine wpAny_bind (wpAny_pure ?_);rw [StateT.run_pure];refine wpAny_bind (wpAny_pure ?_);dsimp only;refine wpAny_bind (seqEpoch_at ho6 rfl ?_);have hm:(vs.toArray.zip vs.toArray).map (·.2)=vs.toArray:=by
  apply Array.ext';simp only [Array.toList_map,Array.toList_zip];exact List.map_snd_zip (Qo _)
 refine wpAny_bind (listUpdate_at ho6 rfl ?_ (hsz2:=by
  show ((vs.toArray.zip vs.toArray).map (·.2)).size<=_
  rw [hm,sizeLine_eq,Q9];lia))
 simp only [bne_self_eq_false,Rv,if_false];refine wpAny_pure ?_;have e:P (.done (.ret .none)) { s with heap:=sortedHeap s.heap a vs ((vs.toArray.zip vs.toArray).map (·.2)) }:=by rw [hm]; exact h
 exact e
theorem Hd {l:Addr} {vs:List Value} {Q:Value->Shared->Prop} (hl:s.heap.IsList l vs.toArray) (h2:vs.length < 2)
  (h:Q (.ref (s.heap.objs.size + 1)) { s with heap:=sortedAll s.heap vs vs.toArray }):wpAny (model prog w) A (call (.builtin "sorted") [.ref l]) Q E s:=by
 refine Calls.call_function_entry kind_sorted plain_sorted entry_sorted (args_sorted1 _) ?_;unfold Builtin.«sorted»;refine wpAny_bind (m:=checkCount "sorted" 1 1 _) (wpAny_pure ?_);refine wpAny_bind (collect_list hl ?_ (by rw [sizeLine_eq]; lia));refine wpAny_bind (wpAny_newList ?_ (by rw [sizeLine_eq]; lia));have hsz:((s.heap.push (seqObj "list" #[] 0)).update s.heap.objs.size (Obj.mapSeq (· ++ vs.toArray))).objs.size=s.heap.objs.size + 1:=by
  rw [RR,size_push']
 have hoL:(((s.heap.push (seqObj "list" #[] 0)).update s.heap.objs.size (Obj.mapSeq (· ++ vs.toArray))).push (seqObj "list" vs.toArray 0)).get? (s.heap.objs.size + 1)=some (seqObj "list" vs.toArray 0):=by
  rw [<-hsz]; exact Q4 _ rfl
 show wpAny _ _ _ _ _ { s with heap:=((s.heap.push (seqObj "list" #[] 0)).update s.heap.objs.size (Obj.mapSeq (· ++ vs.toArray))).push (seqObj "list" vs.toArray 0) }
 rw [hsz];refine wpAny_bind (wpAny_holding (wpAny_call_entry slot_list_sort ⟨_,hoL,rfl⟩ entry_list_sort (JR hoL h2 ⟨_,rfl,?_⟩) (args_list_sort _)));exact wpAny_pure ⟨_,rfl,h⟩
end
theorem En {X:Cx}:Bp X (.builtin "sorted") (fun xs H Q=>∃ (a:Addr) (vs:List V),xs=[.ref a]/\A6 X.K H a vs/\vs.length < 2/\∀ (l:Addr),H l=none->Q (.ref l) (upd H l (.lst vs))):=by
 intro pins s σ H xs us Q I r h;obtain ⟨a,vs,rfl,ha,h2,q⟩:=h;obtain ⟨u,rfl,ru⟩:=Ce r;cases ru
 obtain ⟨Ar,rv,pl,hz⟩:=I.list ha;refine Hd pl.isList (by rw [<-rv.length]; exact h2) ?_;obtain ⟨e,he⟩:=sortedAll_at s.heap Ar Ar.toArray;exact ⟨.ref (s.heap.objs.size + 1),_,I.laid (o:=.lst vs) (t':=s.toks) (fun b o z=>sortedAll_old z) (QN _) ⟨hz,Ar,e,rv,he⟩,rfl,q _ (I.hok.fresh (QN _))⟩
def DE (u:Az):Az:=(Hl u.1 u.2.1,Hm u.1 u.2.1,u.2.2)
theorem Jq {H:Hp} {vs Dd:List V} (p:Dd.Perm vs):∀ {ws:List Az},A7 H vs (ws.map B2)->∃ C8:List Az,A7 H Dd (C8.map B2)/\C8.Perm ws:=by
 induction p with
 | nil=>intro ws h; exact ⟨ws,h,.refl _⟩
 | cons x p ih=>
  intro ws h;cases ws with
  | nil=>cases h
  | cons u ws=>
   cases h with
   | cons h1 h2=>
    obtain ⟨C8,a,b⟩:=ih h2;exact ⟨u :: C8,.cons h1 a,b.cons u⟩
 | swap x y l=>
  intro ws h;cases ws with
  | nil=>cases h
  | cons u ws=>
   cases h with
   | cons h1 h2=>
    cases ws with
    | nil=>cases h2
    | cons v ws=>
     cases h2 with
     | cons h3 h4=>exact ⟨v :: u :: ws,.cons h3 (.cons h1 h4),.swap u v ws⟩
 | trans p1 p2 ih1 ih2=>
  intro ws h;obtain ⟨ws1,a1,b1⟩:=ih2 h;obtain ⟨ws2,a2,b2⟩:=ih1 a1;exact ⟨ws2,a2,b2.trans b1⟩
def JP (K:Qj):Sp:=fun vs H Q _=>∃ (D E:Addr) (xs:List Str) (us:List V) (ws:List Az),vs=[.ref D,.ref E]/\H D=some (.lst (xs.map V.str))/\xs.length < 64/\H E=some (.lst us)/\A7 H us (ws.map B2)/\ws.length < 64 /\
 ∀ (H':Hp) (q tp tw:Addr) (ps:List Str) (OG:List V) (C8:List Az),Aw H H'->H' q=some (.tup [.ref tp,.ref tw])->H' tp=some (.tup (ps.map V.str))->ps.Perm xs->sortedS ps=true->H' tw=some (.tup OG)->A7 H' OG (C8.map B2)->C8.Perm (ws.map DE)->Q (.ref q) H'
theorem IY {xs:List Str} {us:List Az} {n:Nat} (hn:xs.Nodup) (hl:xs.length=n + 1) (ul:us.length=n)
  (hu:∀ (q:Nat) (u:Az),us[q]? = some u->xs[q]? = some u.1/\xs[q + 1]? = some u.2.1/\1<=u.2.2):CL xs us:=by
 refine ⟨fun u hm=>?_,?_,fun j h1 h2=>?_⟩
 ·obtain ⟨q,hq,e⟩:=Q5 hm;obtain ⟨a,b,c⟩:=hu q u (by rw [Qi hq,e]);refine ⟨Qm a,Qm b,fun z=>?_,c⟩;rw [z] at a;have:=By hn a b;lia
 ·rw [RY];intro q r hq hr hqr al;have a1:=hu q us[q] (Qi hq);have a2:=hu r us[r] (Qi hr);rcases al with ⟨e1,_⟩ | ⟨e1,_⟩
  ·have a3:=a1.1;rw [e1] at a3;have:=By hn a3 a2.1;lia
  ·have a3:=a1.1;rw [e1] at a3;have:=By hn a3 a2.2.1;lia
 ·have hq:j - 1 < us.length:=by lia
  obtain ⟨a,b,c⟩:=hu (j - 1) us[j - 1] (Qi hq);exact ⟨_,QX hq,j - 1,by lia,a,by rw [show j - 1 + 1=j by lia] at b; exact b⟩
theorem IZ {xs:List Str} {us:List Az} {n j:Nat} {x y:Str} {k:Int} (hn:xs.Nodup) (hl:xs.length=n + 1) (ul:us.length=n)
  (hu:∀ (q:Nat) (u:Az),us[q]? = some u->xs[q]? = some u.1/\xs[q + 1]? = some u.2.1/\1<=u.2.2) (hx:xs[0]? = some x) (hy:xs[j]? = some y) (hj:2<=j) (hk:1<=k):CL xs (us ++ [(x,y,k)]):=by
 refine (IY hn hl ul hu).snoc (Qm hx) (Qm hy) (fun z=>?_) hk fun u hm al=>?_
 ·rw [z] at hx;have:=By hn hx hy;lia
 ·obtain ⟨q,hq,e⟩:=Q5 hm;obtain ⟨a,b,c⟩:=hu q u (by rw [Qi hq,e]);obtain ⟨e1,e2⟩:=al;rcases e1 with e1 | e1
  ·rw [<-e1] at a;have q0:=By hn a hx;rcases e2 with e2 | e2
   ·rw [e1,<-e2] at hx;have:=By hn hx hy;lia
   ·rw [<-e2] at b;have:=By hn b hy;lia
  ·rw [<-e1] at b;have:=By hn b hx;lia
theorem HV {X:Cx} {ix:Nat} {x:Str} {px spos:Pos} {tg iter elt:Expr} {ifs:List Expr} {scope:Scope} {cl:List (Str × Addr)} {N:List Str} {pos:Pos} {wi:TI} {g:TG} {tt:TT} {te:TE} {σ0:St->St} (hN:X.N.Nodup) (hix:X.N[ix]? = some x) (hlx:Og X.env.scope x) (hc:X.calm=true) (co:AV X scope cl)
  (hσ:∀ σ,σ.length=X.N.length->Bu X cl scope N σ (σ0 σ)) (hi:PI X tg iter wi)
  (hb:∀ s2 H C fp,PG (Al X scope cl N s2 H C fp) tg g/\Of (Al X scope cl N s2 H C fp) ifs tt/\PE (Al X scope cl N s2 H C fp) elt te)
  (hsw:swapsWith (.ListComp elt [⟨tg,iter,ifs,0⟩] scope pos) (some (.Name x px)) spos.line X.env=pure true:=by rfl)
  (hs:∀ x,foldedSetIterable iter X.env x=pure x:=by intro _; rfl) (hf:X.fn x=true\/X.env.scope.names.lookup x=some .local:=by first | exact .inl rfl | exact .inr rfl | assumption) :
  PS X (.Assign [.Name x px] (.ListComp elt [⟨tg,iter,ifs,0⟩] scope pos) spos) (Lm (Mn wi g tt te σ0) (Ip ix)):=by
 intro pins s σ H DD I h;rw [exec_Assign_Name_used _ _ _ _ hsw];refine wpAny_bind (wpAny_standAt (wpAny_bind ?_));show wpAny _ X.A (do let _ <- comprehension (.ListComp elt [⟨tg,iter,ifs,0⟩] scope pos) scope X.env _ (newList []) false (eval iter X.env) (some (assign (.Name x px) X.env))) _ _ s
 refine wpAny_bind (wpAny_mono (wpAny_comprehension_free (use:=some (assign (.Name x px) X.env)) (Q:=fun _ s'=>SP X pins DD .next s') rfl hs co.clos co.kind co.names
  (wpAny_mono (hi (pins:=pins) s σ H _ I h) (fun xv s1 h1=>wpAny_mono h1 (fun itv s2 h2=>?_) fun _ _ e=>e) fun _ _ e=>e)) (fun _ s' hq=>wpAny_pure (wpAny_pure hq)) fun _ _ e=>e)
 obtain ⟨it,fp,tn,J,H2,rfl,I2,T,EZ,f2,hW⟩:=h2;refine wpAny_newObj_type (wpAny_newFunctionEnv co.cell (by intro y hy; cases hy) (fun Bb Bz Bf=>?_) co.kind);dsimp only at Bz Bf ⊢;generalize Hw:s2.heap.push { cls:=.type "list",dict:=none,data:=.seq ([]:List Value).toArray } = HH at Bz Bf ⊢;have BE:HH.objs.size=s2.heap.objs.size + 1:=by rw [<-Hw,QV]
 have old:∀ b o,s2.heap.get? b=some o->Bb.get? b=some o:=fun b o e=>
  Bf.extBut b o (Qv (by rw [BE]; exact QK (Qp e))) (Ql _ (Hw ▸ Ql _ e))
 have newD:∃ n,Bb.get? s2.heap.objs.size=some { cls:=.type "list",data:=.seq ([]:List Value).toArray n }:=
  ⟨_,Bf.extBut _ _ (Qv (by rw [BE]; exact QC _)) (Ql _ (Hw ▸ Q4 _ rfl))⟩
 obtain ⟨W,⟨m0,w0⟩,turn⟩:=hW s2.heap.objs.size I2.fresh;have hfo:∀ b ∈ fp,∃ o,s2.heap.get? b=some o:=fun b hb=>let ⟨o,e,_⟩:=T.obj _ _ EZ b hb; ⟨o,e⟩
 have I3:Ak (Al X scope cl N s2 H2 HH.objs.size fp) [] (σ0 σ) (upd H2 s2.heap.objs.size (.lst [])) { s2 with heap:=Bb,toks:=s2.toks + ([]:List (Str × Value)).length }:=
  ES I2 f2 hfo co (hσ σ I.len) old (Qo _) (by rw [BE]; exact QN _) (Rr (by rw [BE]; exact QC _)) (.inr newD) Bz
 have fC:s2.heap.objs.size<=HH.objs.size:=by rw [BE]; exact QN _
 obtain ⟨hg,ht,he⟩:=hb s2 H2 HH.objs.size fp;have loop:∀ BG:Shared,BG = { s2 with heap:=Bb,toks:=s2.toks + ([]:List (Str × Value)).length } ->
   codeAny (model X.prog X.w) X.A (.compLoop (.ListComp elt [⟨tg,iter,ifs,0⟩] scope pos) 0 (.ref it) (.ref s2.heap.objs.size) (compEnvC scope cl HH.objs.size X.env))
    (compPost (model X.prog X.w) X.A X.xe (some (assign (.Name x px) X.env)) (fun _ s'=>SP X pins DD .next s') (.ref s2.heap.objs.size) HH.objs.size) BG:=by
  rintro BG rfl;have stat:∀ {H':Hp} ,(∀ b ∈ fp,H' b=none)->∀ b ∈ fp,DS (Al X scope cl N s2 H2 HH.objs.size fp) [] H' b:=fun hn b hb=>by
   refine ⟨hn b hb,?_,?_,.inl hb,?_,fun p hp=>by cases hp⟩
   ·obtain ⟨o,e⟩:=hfo b hb;exact Qv (show b < HH.objs.size by rw [BE]; exact QK (Qp e))
   ·intro hz;obtain ⟨_,q1,q2,_⟩:=f2 b hb;rcases Qn.mp (I2.stkSub b hz) with e | e
    ·exact q1 e
    ·exact q2 e
   ·exact fun x c e=>(f2 b hb).2.2.2.2.1 x c (co.sub x c e)
  refine BK (fun n s'=>∃ i Ap H',Ak (Al X scope cl N s2 H2 HH.objs.size fp) [] Ap H' s'/\tn i s'.heap/\(∀ b ∈ fp,H' b=none)/\W i n Ap H') ?_ m0
   ⟨0,σ0 σ,_,I3,T.keep _ _ _ EZ fun b hb o e=>old b o e,fun b hb=>?_,w0⟩
  ·rintro n s4 ⟨i,F9,H4,I4,JJ,KH,w4⟩;rcases turn i n F9 H4 w4 with ⟨stop,qn⟩ | ⟨go,step⟩
   ·refine wpAny_mono (T.done (Al X scope cl N s2 H2 HH.objs.size fp) rfl rfl rfl hc i [] s4 F9 H4 (fun _ _=>False) I4 (stat KH) JJ stop) (fun r s5 ⟨hr,I5⟩=>?_) fun _ _ z=>z.elim
    subst hr;obtain ⟨m5,Nq,_⟩:=id I5.loc;have I6:Ak X pins σ H4 s5:=D1 (h':=s5.heap) I2 f2 fC I5 (Heap.SameBut.refl _ _);have cC:∀ y c,X.env.cells.lookup y=some c->c ≠ HH.objs.size:=fun y c e=>by
     obtain ⟨v,q⟩:=I2.cell y c e;exact Qv (Qu q.lt fC)
    have lC:X.env.locals ≠ HH.objs.size:=Qv (Qu I2.lt fC);show wpAny _ X.A (assign (.Name x px) X.env (.ref s2.heap.objs.size)) _ X.xe s5
    refine wpAny_assign_Name (D6 I6 hN hix hlx (v:=.ref s2.heap.objs.size) rfl (fun s7 I7 ⟨a,sb,ha⟩=>?_) hf);have aC:a ≠ HH.objs.size:=by
     rcases ha with rfl | ha
     ·exact lC
     ·exact cC _ _ ha
    refine ⟨m5,Nq.sameBut sb (Ne.symm aC),fun h' LQ=>⟨_,H4,?_,qn⟩⟩;exact I7.turned (t':=s7.toks) (it:=HH.objs.size) (fun b o hb e=>(LQ.2 b hb).trans e) I5.free (Ne.symm lC) (.inr (QE I2.sz fC)) cC fun p hp z=>by
     have e:=(I2.pin p hp).1;exact absurd (Qu (Qp e) fC) (by rw [z]; exact QL _)
   ·refine wpAny_mono (T.item (Al X scope cl N s2 H2 HH.objs.size fp) rfl rfl rfl hc i [] s4 F9 H4 (fun _ _=>False) I4 (stat KH) JJ go) (fun r s5 ⟨u,hr,h5⟩=>?_) fun _ _ z=>z.elim
    subst hr;refine wpAny_mono h5 (fun _ s6 ⟨x,H6,I6,r6,y6,Hb,N1⟩=>?_) fun _ _ z=>z.elim
    have NO:=I6.pinned (stat N1) (T.obj _ _ Hb);refine wpAny_mono (hg s6 F9 H6 x u _ NO r6 (step x H6 y6)) (fun _ s7 ⟨Dl,H7,I7,q7⟩=>?_) fun _ _ z=>z.elim
    refine wpAny_mono (ht s7 Dl H7 _ I7 q7) (fun ok s8 ⟨H8,I8,q8⟩=>?_) fun _ _ z=>z.elim
    have again:∀ {s9:Shared} {F8:St} {H9:Hp} ,Ak (Al X scope cl N s2 H2 HH.objs.size fp) ([] ++ CG fp s6.heap) F8 H9 s9->(∃ m',m' < n/\W (i + 1) m' F8 H9)->∃ m,m < n/\∃ i Ap H',Ak (Al X scope cl N s2 H2 HH.objs.size fp) [] Ap H' s9/\tn i s9.heap/\(∀ b ∈ fp,H' b=none)/\W i m Ap H':=fun {s9 F8 H9} I9 n9=>by
     obtain ⟨m',hm,w9⟩:=n9;refine ⟨m',hm,i + 1,F8,H9,I9.unpinned,T.keep _ _ _ Hb fun b hb o e=>(I9.pin (b,o) (Qq _ (Qq _ (AU hb e)))).1,fun b hb=>?_,w9⟩;obtain ⟨o,e,d⟩:=T.obj _ _ Hb b hb;exact (I9.pin (b,o) (Qq _ (Qq _ (AU hb e)))).2.1
    cases ok with
    | false=>
     rw [if_neg Qr] at q8 ⊢;exact again I8 q8
    | true=>
     rw [if_pos rfl] at q8 ⊢;refine wpAny_mono (he s8 Dl H8 _ I8 q8) (fun y s9 ⟨v,H9,I9,r9,acc,hacc,hsz,q9⟩=>?_) fun _ _ z=>z.elim
     refine wpAny_mono (Bi (X:=Al X scope cl N s2 H2 HH.objs.size fp) s9 Dl H9 (.ref s2.heap.objs.size) [v] (.ref s2.heap.objs.size) [y] (fun _ Mi=>∃ m',m' < n/\W (i + 1) m' Dl Mi) I9 rfl (.cons r9 .nil) ⟨_,acc,v,rfl,rfl,hacc,hsz,q9⟩) (fun _ Ls ⟨_,Mi,NP,_,MS⟩=>?_) fun _ _ z=>z.elim
     exact again NP MS
  ·have z:=(f2 b hb).1;obtain ⟨o,e⟩:=hfo b hb;rw [Af (Qv (Qp e))];exact z
 exact codeAny_compStart_list (loop _ rfl) (T.self _ 0 _ _ _ (T.keep _ _ _ EZ fun b hb o e=>old b o e) (loop _ rfl))
theorem Paired.at {α β:Type} {F:α->β->Prop}:∀ {Kv:List α} {l₂:List β},Paired F Kv l₂->∀ {i:Nat} {a:α},Kv[i]? = some a->∃ b,l₂[i]? = some b/\F a b
 | _,_,.nil,i,a,h=>by simp at h
 | _,_,.cons r t,0,a,h=>by
  simp only [Rx,QB.injEq] at h;subst h;exact ⟨_,rfl,r⟩
 | _,_,.cons r t,i + 1,a,h=>by
  simp only [List.getElem?_cons_succ] at h;obtain ⟨b,h1,h2⟩:=Paired.at t h;exact ⟨b,by simpa using h1,h2⟩
theorem II {P:Program} {w:World} {k:A5} {u:Value} (h:(AD P w).is k u=true):As (kV k) u:=by
 rcases AH (show EH k u=true from h) with ⟨i,t,rfl,rfl⟩ | ⟨x,t,rfl,rfl⟩
 ·exact ⟨t,rfl⟩
 ·exact ⟨t,rfl⟩
def Mh (a:Addr) (kvs:List (A5 × V)) (o:Obj):It:=
 ⟨fun i H=>H a=some (.frz o (.dK kvs))/\i < kvs.length,fun i H x H'=>H'=H/\∃ k v,kvs[i]? = some (k,v)/\x=kV k,fun i H=>H a=some (.frz o (.dK kvs))/\kvs.length<=i⟩
theorem Hy {X:Cx} {pins:List (Addr × Obj)} {σ:St} {H:Hp} {s:Shared} {a:Addr} {o:Obj} {kvs:List (A5 × V)} {es:Array DictEntry} {ep:Nat} (I:Ak X pins σ H s) (e:H a=some (.frz o (.dK kvs))) (he:o.data=.dict es ep) :
  (a == sysModules)=false/\∃ vs,KV kvs vs/\s.heap.DictAt (AD X.prog X.w) a vs ep:=by
 obtain ⟨ho,z,hd,vs,rel,o',Pa,Pb,h1,h2,h3,h4⟩:=(show Ax X.prog X.w H s.heap a (.frz o (.dK kvs)) from I.hok a _ e)
 rw [ho] at h1;cases h1
 rw [he] at h3;injection h3 with h5 h6;subst h5 h6;exact ⟨hd,vs,rel,o,es,ho,h2,he,h4⟩
theorem IE {P:Program} {w:World} {K:Qj} {tg:Expr} (a it:Addr) {kvs:List (A5 × V)} {o:Obj} {es:Array DictEntry} {ep:Nat} (he:o.data=.dict es ep) :
  KY P w K tg (Mh a kvs o) [it] it (fun i h=>h.IsKeyIter it a i kvs.length ep) where
 mem:=by simp
 obj:=fun i h st b hb=>by
  have e:b=it:=by simpa using hb
  subst e;obtain ⟨o,e,c,d⟩:=st;exact ⟨o,e,fun v z=>by rw [d] at z; cases z⟩
 keep:=fun i h h' st k=>st.at fun o e=>k it (by simp) o e
 item:=by
  intro X hP hw hK hc i pins s σ H E I hf st hg;subst hP hw hK;obtain ⟨hq,Bc⟩:=hg;obtain ⟨hd,vs,rel,da⟩:=Hy I hq he;have hx:kvs[i]? = some kvs[i]:=by simp [Bc]
  obtain ⟨⟨k,v⟩,hv,e1,e2⟩:=Paired.at rel hx;have hl:kvs.length=vs.length:=rel.length;obtain ⟨f0,f1,f2,f3,f4,f5⟩:=hf it (by simp);rw [hl] at st;refine wpAny_pyNext_dict_item st da hv fun key h' hkey Jy sb=>?_
  have I1:Ak X pins σ H { s with heap:=h' }:=I.turned (t':=s.toks) (fun b o hb e=>(sb.2 b hb).trans e) f0 f1 f3 f4 f5;rw [<-hl] at Jy;obtain ⟨o',e,c,d⟩:=id Jy;refine ⟨key,rfl,Io (s:={ s with heap:=h' }) e c d (by decide) ⟨kV k,H,I1,II hkey,⟨rfl,k,kvs[i].2,?_,rfl⟩,Jy,fun b hb=>(hf b hb).1⟩⟩;have NA:kvs[i].1=k:=e1;rw [hx,<-NA]
 done:=by
  intro X hP hw hK hc i pins s σ H E I hf st hg;subst hP hw hK;obtain ⟨hq,hle⟩:=hg;obtain ⟨hd,vs,rel,da⟩:=Hy I hq he;have hl:kvs.length=vs.length:=rel.length;obtain ⟨f0,f1,f2,f3,f4,f5⟩:=hf it (by simp);rw [hl] at st;exact wpAny_pyNext_dict_end (I.ok.hd hc) st da (by simp; lia) fun h' eb=>⟨rfl,I.turned (t':=s.toks) (fun b o hb e=>eb b o hb e) f0 f1 f3 f4 f5⟩
 self:=fun _ _ _ _ _ st h=>wpAny_pyIter_keyiter st h
def C7 (H:Hp) (a:Addr) (kvs:List (A5 × V)) (o:Obj) (H':Hp):Prop:=(H a=some (.dK kvs)/\H'=upd H a (.frz o (.dK kvs)))\/(H a=some (.frz o (.dK kvs))/\H'=H)
theorem C7.at {H H':Hp} {a:Addr} {kvs:List (A5 × V)} {o:Obj} (f:C7 H a kvs o H'):H' a=some (.frz o (.dK kvs)):=by
 rcases f with ⟨_,rfl⟩ | ⟨e,rfl⟩
 ·exact Ab
 ·exact e
theorem C7.ne {H H':Hp} {a b:Addr} {kvs:List (A5 × V)} {o:Obj} (f:C7 H a kvs o H') (h:b ≠ a):H' b=H b:=by
 rcases f with ⟨_,rfl⟩ | ⟨e,rfl⟩
 ·exact Af h
 ·rfl
theorem Ak.freeze {X:Cx} {pins:List (Addr × Obj)} {σ:St} {H:Hp} {s:Shared} {a:Addr} {kvs:List (A5 × V)} (I:Ak X pins σ H s) (e:Rd H a (.dK kvs)) :
  ∃ o es ep H',o.data=.dict es ep/\C7 H a kvs o H'/\Ak X pins σ H' s:=by
 rcases e with e | ⟨o,e⟩
 ·obtain ⟨z,hd,vs,rel,o,es,ep,h1,h2,h3,h4⟩:=(show Ax X.prog X.w H s.heap a (.dK kvs) from I.hok a _ e)
  refine ⟨o,es,ep,upd H a (.frz o (.dK kvs)),h3,.inl ⟨e,rfl⟩,?_⟩;exact I.write (x:=a) (e:=a) (h':=s.heap) (t':=s.toks) (by rw [e]; exact True.intro) (.inl rfl) (fun b u _ q=>q) ⟨o,h1⟩ ⟨h1,z,hd,vs,rel,o,es,ep,h1,h2,h3,h4⟩
 ·obtain ⟨ho,z,hd,vs,rel,o',es,ep,h1,h2,h3,h4⟩:=(show Ax X.prog X.w H s.heap a (.frz o (.dK kvs)) from I.hok a _ e)
  rw [ho] at h1;cases h1
  exact ⟨o,es,ep,H,h3,.inr ⟨e,rfl⟩,I⟩
def iDict (tl:TE):TI:=fun σ H R=>tl σ H fun x H1=>∃ a kvs,x=.ref a/\Rd H1 a (.dK kvs)/\∀ o H2,C7 H1 a kvs o H2->R (Mh a kvs o) H2
theorem FR {X:Cx} {tg l:Expr} {tl:TE} (hl:PE X l tl):PI X tg l (iDict tl):=by
 intro pins s σ H R I h;refine Bj (hl (pins:=pins) s σ H _ I h) fun v s1 ⟨x,H1,I1,r1,q1⟩=>?_
 obtain ⟨a,kvs,e,hr,q⟩:=q1;subst e;cases r1
 obtain ⟨o,es,ep,H2,he,fz,I2⟩:=I1.freeze hr;obtain ⟨hd,vs,rel,da⟩:=Hy I2 fz.at he;refine wpAny_pyIter_dict hd da ?_;refine ⟨s1.heap.objs.size,[s1.heap.objs.size],_,_,H2,rfl,I2.kept (t':=s1.toks) fun b o e=>Ql _ e,IE a _ he,⟨_,Q4 _ rfl,rfl,?_⟩,fun b hb=>?_,q o H2 fz⟩
 ·rw [rel.length]; rfl
 ·have e:b=s1.heap.objs.size:=by simpa using hb
  subst e;exact I2.fpOk (Qo _) (I2.hok.fresh (Qo _))
theorem KJ {a:Addr} {kvs:List (A5 × V)} {o:Obj} {g:TG} {tb:TS} {D:CB} {σ:St} {H:Hp} (Pv:Nat->St->Hp->Prop) (h0:Pv 0 σ H) (hl:∀ i σ H,i<=kvs.length->Pv i σ H->H a=some (.frz o (.dK kvs)))
  (hs:∀ i k v σ H,kvs[i]? = some (k,v)->Pv i σ H->g (kV k) σ H fun AW H2=>tb { D with nx:=Pv (i + 1),ct:=Pv (i + 1),bk:=D.nx } AW H2) (hd:∀ σ H,Pv kvs.length σ H->D.nx σ H) :
  ∃ W:Nat->Nat->St->Hp->Prop,(∃ m,W 0 m σ H)/\∀ i m σ H,W i m σ H ->
   ((Mh a kvs o).stop i H/\D.nx σ H)\/((Mh a kvs o).go i H/\∃ N:St->Hp->Prop,(∀ Ap H',N Ap H'->∃ m',m' < m/\W (i + 1) m' Ap H')/\∀ x H',(Mh a kvs o).yld i H x H'->g x σ H' fun AW H2=>tb { D with nx:=N,ct:=N,bk:=D.nx } AW H2):=by
 refine ⟨fun i m σ H=>m=kvs.length - i/\i<=kvs.length/\Pv i σ H,⟨kvs.length,by simp,QH _,h0⟩,?_⟩;rintro i m σ H ⟨rfl,hi,p⟩;have q:=hl i σ H hi p;by_cases Bc:i < kvs.length
 ·refine .inr ⟨⟨q,Bc⟩,Pv (i + 1),fun Ap H' p'=>⟨kvs.length - (i + 1),by lia,rfl,Bc,p'⟩,fun x H' y=>?_⟩;obtain ⟨e,k,v,e1,e2⟩:=y;subst e e2;exact hs i k v σ _ e1 p
 ·have e:i=kvs.length:=by lia
  subst e;exact .inl ⟨⟨q,Qo _⟩,hd σ H p⟩
section
variable {prog:Program} {w:World} {A:Around} {E:Value->Shared->Prop} {s:Shared}
end
theorem FZ (a:List Nat):¬ a < a:=RD a
theorem Ec (f:Nat->List Nat):∀ k,argBest (fun i j=>decide (f i < f j)) k<=k/\∀ j,j<=k->¬ f j < f (argBest (fun i j=>decide (f i < f j)) k)
 | 0=>⟨Qo _,fun j hj=>by
  have:j=0:=by lia
  subst this; exact FZ _⟩
 | k + 1=>by
  obtain ⟨h1,h2⟩:=Ec f k;simp only [argBest];by_cases hc:f (k + 1) < f (argBest (fun i j=>decide (f i < f j)) k)
  ·rw [if_pos (by simpa using hc)];refine ⟨Qo _,fun j hj=>?_⟩;by_cases K5:j<=k
   ·exact fun z=>h2 j K5 (List.lt_trans z hc)
   ·have:j=k + 1:=by lia
    subst this; exact FZ _
  ·rw [if_neg (by simpa using hc)];refine ⟨RP h1,fun j hj=>?_⟩;by_cases K5:j<=k
   ·exact h2 j K5
   ·have:j=k + 1:=by lia
    subst this; exact hc
theorem KR {prog:Program} {w:World} {A:Around} {vs:List Value} {ss:List Str} (hS:StrsAre vs ss):CmpOf prog w A .Lt (fun i v=>vs.toArray[i]? = some v) (fun i j=>decide ((ss.getD i ⟨#[]⟩).cps.toList < (ss.getD j ⟨#[]⟩).cps.toList)):=by
 have at':∀ {vs:List Value} {ss:List Str},StrsAre vs ss->∀ (i:Nat) (v:Value),vs[i]? = some v->∃ x t,ss[i]? = some x/\v=Value.str x t:=by
  intro vs ss h;induction h with
  | nil=>intro i v e; simp at e
  | cons x t r ih=>
   intro i v e;cases i with
   | zero=>simp only [Rx,QB.injEq] at e; exact ⟨x,t,rfl,e.symm⟩
   | succ i=>simpa using ih i v (by simpa using e)
 intro i j vi vj s Q E hi hj hQ;obtain ⟨x,t,e1,rfl⟩:=at' hS i vi (by simpa using hi);obtain ⟨y,u,e2,rfl⟩:=at' hS j vj (by simpa using hj);dsimp only at hQ;rw [Q6,Q6,e1,e2] at hQ;exact PySem.P.lt_str hQ
theorem Lo {vs:List Value} {ss:List Str} (h:StrsAre vs ss):∀ (i:Nat) (v:Value),vs[i]? = some v->∃ x t,ss[i]? = some x/\v=Value.str x t:=by
 induction h with
 | nil=>intro i v e; simp at e
 | cons x t r ih=>
  intro i v e;cases i with
  | zero=>simp only [Rx,QB.injEq] at e; exact ⟨x,t,rfl,e.symm⟩
  | succ i=>simpa using ih i v (by simpa using e)
theorem Fi {X:Cx} (hc:X.calm=true):Bp X (.builtin "min") (fun xs H Q=>∃ (a:Addr) (ss:List Str),xs=[.ref a]/\A6 X.K H a (ss.map V.str)/\ss ≠ [] /\
  ∀ m,m ∈ ss->(∀ x ∈ ss,¬ x.cps.toList < m.cps.toList)->Q (.str m) H):=by
 intro pins s σ H xs us Q I r h;obtain ⟨a,ss,rfl,ha,hne,q⟩:=h;obtain ⟨u,rfl,ru⟩:=Ce r;cases ru
 obtain ⟨Ar,rv,pl,hz⟩:=I.list ha;have hS:=HK rv;have hl:Ar.length=ss.length:=by rw [<-rv.length,Qk]
 have hpos:0 < ss.length:=by cases ss with
  | nil=>exact absurd rfl hne
  | cons=>simp
 refine call_min_walk (wpAny_pyIter_list pl.isList ?_);have hai:a < s.heap.objs.size:=by obtain ⟨o,ho,_⟩:=pl.isList; exact Qp ho
 refine ⟨_,[s.heap.objs.size,a],[s.heap.objs.size],_,_,_,_,rfl,Walks.list (A:=X.A.in1) (I.ok.hd hc) _ a (Qv hai) Ar.toArray,⟨⟨_,Q4 _ rfl,rfl,rfl⟩,pl.isList.push _⟩,fun c hc=>?_,by simpa [hl] using hpos,KR hS,fun v h' tk hP hk=>?_⟩
 ·show c < (s.heap.push _).objs.size
  rw [QV];rcases Qn.mp hc with rfl | hc
  ·exact QC _
  ·rcases Qn.mp hc with rfl | hc
   ·exact QK hai
   ·cases hc
 ·have hold:∀ c o,s.heap.get? c=some o->h'.get? c=some o:=fun c o e=>by
   refine hk c o (fun hm=>?_) (Ql _ e);rcases Qn.mp hm with e1 | hm
   ·have:=Qp e; rw [e1] at this; exact QL _ this
   ·cases hm
  have KA:Ar[argBest (fun i j=>decide ((ss.getD i ⟨#[]⟩).cps.toList < (ss.getD j ⟨#[]⟩).cps.toList)) (Ar.toArray.size - 1)]? = some v:=by rw [<-List.getElem?_toArray]; exact hP
  obtain ⟨x,t,e1,rfl⟩:=Lo hS _ v KA;obtain ⟨b1,b2⟩:=Ec (fun i=>(ss.getD i ⟨#[]⟩).cps.toList) (Ar.toArray.size - 1);refine ⟨.str x,H,I.kept hold,⟨t,rfl⟩,q x (Qm e1) fun y hy=>?_⟩;obtain ⟨j,hj,rfl⟩:=Q5 hy;have:=b2 j (by simp only [Q9]; lia);have e2:ss.getD j ⟨#[]⟩=ss[j]:=by simp [hj]
  have e3:ss.getD (argBest (fun i j=>decide ((ss.getD i ⟨#[]⟩).cps.toList < (ss.getD j ⟨#[]⟩).cps.toList)) (Ar.toArray.size - 1)) ⟨#[]⟩=x:=by
   rw [Q6,e1]; rfl
  rw [e2,e3] at this;exact this
section
variable {X:Cx} {pins:List (Addr × Obj)} {σ Ap:St} {H H':Hp} {s2 s':Shared} {scope:Scope} {cl:List (Str × Addr)} {N:List Str} {fp:List Addr} {C D:Addr} {Bb h':Heap} {t':Nat}
theorem Eb {ob:HO} (I:Ak X pins σ H s2) (hf:∀ b ∈ fp,DS X pins H b) (hfo:∀ b ∈ fp,∃ o,s2.heap.get? b=some o) (co:AV X scope cl) (hσ:Bu X cl scope N σ Ap)
  (k:∀ b o,s2.heap.get? b=some o->Bb.get? b=some o) (hD:s2.heap.objs.size<=D) (hC:s2.heap.objs.size<=C) (hDC:C ≠ D)
  (newO:Ax X.prog X.w (upd H D ob) Bb D ob) {m:Str->Option Value} (hn:Bb.Ns C m) :
  Ak (Al X scope cl N s2 H C fp) [] Ap (upd H D ob) { s2 with heap:=Bb,toks:=t' }:=by
 have fD:H D=none:=I.hok.fresh hD;have fC:H C=none:=I.hok.fresh hC;have lts:∀ b ∈ fp,b < s2.heap.objs.size:=fun b hb=>let ⟨_,e⟩:=hfo b hb; Qp e
 have cells_lt:∀ x c,cl.lookup x=some c->c < s2.heap.objs.size:=fun x c e=>by
  obtain ⟨v,q⟩:=I.cell x c (co.sub x c e);exact q.lt
 have ok:Cx.Ok (Al X scope cl N s2 H C fp):=by
  refine ⟨I.ok.mod,?_,I.ok.glob,I.ok.blt,hC,?_,?_,?_,I.ok.hd,I.ok.frames,.inl rfl,?_,I.bs,QE I.ok.bsz I.sz,?_,?_,I.stack,I.stkFree⟩
  ·exact co.kind
  ·exact fun x y c e1 e2=>I.ok.inj x y c (co.sub x c e1) (co.sub y c e2)
  ·exact fun x h=>co.has x h
  ·exact fun x c h _=>by cases h
  ·intro b hb;refine ⟨fun e=>?_,fun x c e=>(hf b hb).2.2.2.2.1 x c (co.sub x c e)⟩;have z:=lts b hb;exact absurd (Qu z hC) (by rw [show b=C from e]; exact QL _)
  ·intro b o e hb;have K9:b ∈ fp:=hb;rcases (hf b K9).2.2.2.1 with z | z
   ·exact I.ok.noex b o e z
   ·exact absurd (Qu (Qp e) (QE I.ok.bsz z)) (QL _)
  ·intro b hb hz;have K9:b ∈ fp:=hb;obtain ⟨_,f1,f2,_⟩:=hf b K9;rcases Qn.mp (I.stkSub b hz) with e | e
   ·exact f1 e
   ·exact f2 e
 refine ⟨ok,rfl,I.bare,Un.laid k hD fD,?_,?_,?_,?_,?_,I.hok.laid k hD newO,hσ.1⟩
 ·refine ⟨m,hn,fun i x v e1 e2 _=>?_⟩;obtain ⟨⟨j,j1,j2⟩,kk,kr⟩:=hσ.2 i x v e1 e2;obtain ⟨mo,_,hl⟩:=I.loc;obtain ⟨u,r,l⟩:=hl j x v j1 j2 (by
   rcases kk with z | z
   ·exact .inr (.inl z)
   ·exact .inr (.inr z))
  refine ⟨u,r,.inr ⟨kr,?_⟩⟩;obtain ⟨c,hc⟩:=co.has x kr;rcases l with ⟨z,_⟩ | ⟨_,c',K8,hcell⟩
  ·rcases kk with q | q
   ·rw [z] at q; cases q
   ·rw [z] at q; cases q
  ·have e3:=co.sub x c hc;rw [K8] at e3;have e4:c'=c:=QB.inj e3;subst e4;obtain ⟨o,ho,hd⟩:=hcell;exact ⟨c',hc,o,k _ o ho,hd⟩
 ·intro x c e;obtain ⟨v,o,ho,hd⟩:=I.cell x c (co.sub x c e);exact ⟨v,o,k _ o ho,hd⟩
 ·show upd H D ob C=none
  rw [Af hDC];exact fC
 ·intro x c e;rw [Af (Qv (Qu (cells_lt x c e) hD))];exact I.freeC x c (co.sub x c e)
 ·intro p hp;cases hp
end
section
variable {prog:Program} {w:World} {A:Around} {R:Result->Shared->Prop} {s:Shared}
theorem B9 {kx vx target iter:Expr} {ifs:List Expr} {scope:Scope} {pos:Pos} {it:Value} {D:Addr} {env:Env} (I:Nat->Shared->Prop)
  (turn:∀ n s,I n s->wpAny (model prog w) A (pyNext it) (fun r AB=>match r with
   | none=>R (.ok .next) AB
   | some v=>wpAny (model prog w) A (letOwnedTupleGo target it v) (fun _ Gr=>wpAny (model prog w) A (assign target env v) (fun _ Dn=>
     wpAny (model prog w) A (forIn ifs true fun c r=>if r=true then do let ok <- isTrue c env (eval c env); pure (ForInStep.yield ok) else pure (ForInStep.yield r)) (fun ok BG=>
      if ok=true then wpAny (model prog w) A (eval kx env) (fun kv JG=>wpAny (model prog w) A (eval vx env) (fun vv JF=>
       wpAny (model prog w) A (dictSet D kv vv) (fun _ Om=>∃ m,m < n/\I m Om) (notedBy (model prog w) A env fun e s'=>R (.error e) s') JF) (notedBy (model prog w) A env fun e s'=>R (.error e) s') JG) (notedBy (model prog w) A env fun e s'=>R (.error e) s') BG
      else ∃ m,m < n/\I m BG) (notedBy (model prog w) A env fun e s'=>R (.error e) s') Dn) (notedBy (model prog w) A env fun e s'=>R (.error e) s') Gr) (notedBy (model prog w) A env fun e s'=>R (.error e) s') AB) (notedBy (model prog w) A env fun e s'=>R (.error e) s') s)
  (n:Nat) (h:I n s) :
  codeAny (model prog w) A (.compLoop (.DictComp kx vx [⟨target,iter,ifs,0⟩] scope pos) 0 it (.ref D) env) R s:=by
 refine codeAny_loop rfl I (fun n s hI=>?_) n h;show wpAny _ A ((compTurn (.DictComp kx vx [⟨target,iter,ifs,0⟩] scope pos) 0 it (.ref D) env).onRaise (fun x=>do noteFrame x env; theTreesLotGoes x)) _ _ s
 refine wpAny_noted ?_;rw [compTurn_dict];refine wpAny_bind (wpAny_standAt (wpAny_bind (wpAny_mono (turn n s hI) (fun r AB Bb=>?_) fun _ _ h'=>h')));cases r with
 | none=>exact wpAny_pure Bb
 | some v=>
  refine wpAny_bind (wpAny_mono Bb (fun _ Gr K2=>?_) fun _ _ h'=>h');refine wpAny_bind (wpAny_mono K2 (fun _ Dn Hs=>wpAny_bind (wpAny_mono Hs (fun ok BG Hr=>?_) fun _ _ h'=>h')) fun _ _ h'=>h');cases ok with
  | false=>exact wpAny_pure ⟨rfl,Hr⟩
  | true=>
   exact wpAny_bind (wpAny_bind (wpAny_mono Hr (fun kv JG Nm=>wpAny_bind (wpAny_holding (wpAny_mono Nm (fun vv JF Nl=>wpAny_bind (wpAny_standAt (wpAny_holding (wpAny_mono Nl (fun _ Om Py=>wpAny_pure ⟨rfl,Py⟩) fun _ _ h'=>h')))) fun _ _ h'=>h'))) fun _ _ h'=>h'))
end
theorem Fy {X:Cx} {pins:List (Addr × Obj)} {σ:St} {H:Hp} {s:Shared} {a:Addr} {k:A5} {v:V} {u r:Value} {kvs:List (A5 × V)} {A:Around} {E:Value->Shared->Prop} {Q:Unit->Shared->Prop} (I:Ak X pins σ H s) (e:H a=some (.dK kvs)) (l:kvs.length < sizeLine) (ry:As (kV k) u) (rv:As v r)
  (h:∀ s',Ak X pins σ (upd H a (.dK (Be kvs k v))) s'->Q () s'):wpAny (model X.prog X.w) A (dictSet a u r) Q E s:=by
 obtain ⟨z,hd,vs,rel,dd⟩:=Iv I.hok e;have hz:vs.length<=sizeLine:=by rw [<-rel.length]; exact z
 have hl:(Be kvs k v).length<=sizeLine:=by have:=BI kvs k v; lia
 refine wpAny_dictSet_pairs (hsz:=hz) (Dw ry) dd fun h' Jp hs=>h _ ?_
 have he:∃ q,h'.get? a=some q:=let ⟨q,_,_,hq,_⟩:=Jp; ⟨q,hq⟩;exact Dz I (by rw [e]; exact True.intro) hs he (Gf hl hd (rel.put k rv) Jp)
def JE (wi:TI) (g:TG) (tt:TT) (tk tv:TE) (σ0:St->St):TE:=fun σ H Q=>wi σ H fun J H1=>∀ D,H1 D=none->∃ W:Nat->Nat->St->Hp->Prop,(∃ m,W 0 m (σ0 σ) (upd H1 D (.dK []))) /\
 ∀ i m Ap H',W i m Ap H'->(J.stop i H'/\Q (.ref D) H')\/(J.go i H'/\∀ x H2,J.yld i H' x H2->g x Ap H2 fun AW H3=>tt AW H3 fun b H4=>
  if b=true then tk AW H4 (fun y H5=>tv AW H5 fun v H6=>∃ kvs k,y=kV k/\H6 D=some (.dK kvs)/\kvs.length < sizeLine/\∃ m',m' < m/\W (i + 1) m' AW (upd H6 D (.dK (Be kvs k v)))) else ∃ m',m' < m/\W (i + 1) m' AW H4)
theorem Gz {X:Cx} {tg iter kx vx:Expr} {ifs:List Expr} {scope:Scope} {cl:List (Str × Addr)} {N:List Str} {pos:Pos} {wi:TI} {g:TG} {tt:TT} {tk tv:TE} {σ0:St->St} (hc:X.calm=true) (co:AV X scope cl)
  (hσ:∀ σ,σ.length=X.N.length->Bu X cl scope N σ (σ0 σ)) (hi:PI X tg iter wi)
  (hb:∀ s2 H C fp,PG (Al X scope cl N s2 H C fp) tg g/\Of (Al X scope cl N s2 H C fp) ifs tt/\PE (Al X scope cl N s2 H C fp) kx tk/\PE (Al X scope cl N s2 H C fp) vx tv)
  (hs:∀ x,foldedSetIterable iter X.env x=pure x:=by intro _; rfl):PE X (.DictComp kx vx [⟨tg,iter,ifs,0⟩] scope pos) (JE wi g tt tk tv σ0):=by
 intro pins s σ H Q I h;rw [arm_eval_DictComp];refine wpAny_comprehension_free (use:=none) rfl hs co.clos co.kind co.names (wpAny_mono (hi (pins:=pins) s σ H _ I h) (fun xv s1 h1=>wpAny_mono h1 (fun itv s2 h2=>?_) fun _ _ e=>e) fun _ _ e=>e);obtain ⟨it,fp,tn,J,H2,rfl,I2,T,EZ,f2,hW⟩:=h2;refine wpAny_newObj_type (wpAny_newFunctionEnv co.cell (by intro y hy; cases hy) (fun Bb Bz Bf=>?_) co.kind);dsimp only at Bz Bf ⊢;generalize Hw:s2.heap.push { cls:=.type "dict",dict:=none,data:=.dict #[] } = HH at Bz Bf ⊢;have BE:HH.objs.size=s2.heap.objs.size + 1:=by rw [<-Hw,QV]
 have old:∀ b o,s2.heap.get? b=some o->Bb.get? b=some o:=fun b o e=>
  Bf.extBut b o (Qv (by rw [BE]; exact QK (Qp e))) (Ql _ (Hw ▸ Ql _ e))
 have newD:Ax X.prog X.w (upd H2 s2.heap.objs.size (.dK [])) Bb s2.heap.objs.size (.dK []):=
  let ⟨z,hd,vs,rel,o,es,ep,ho,r⟩:=Dy (P:=X.prog) (w:=X.w) (H:=upd H2 s2.heap.objs.size (.dK [])) s2.heap I2.big
  ⟨z,hd,vs,rel,o,es,ep,Bf.extBut _ _ (Qv (by rw [BE]; exact QC _)) (Ql _ (Hw ▸ ho)),r⟩
 obtain ⟨W,⟨m0,w0⟩,turn⟩:=hW s2.heap.objs.size I2.fresh;have hfo:∀ b ∈ fp,∃ o,s2.heap.get? b=some o:=fun b hb=>let ⟨o,e,_⟩:=T.obj _ _ EZ b hb; ⟨o,e⟩
 have I3:Ak (Al X scope cl N s2 H2 HH.objs.size fp) [] (σ0 σ) (upd H2 s2.heap.objs.size (.dK [])) { s2 with heap:=Bb,toks:=s2.toks + ([]:List (Str × Value)).length }:=
  Eb I2 f2 hfo co (hσ σ I.len) old (Qo _) (by rw [BE]; exact QN _) (Rr (by rw [BE]; exact QC _)) newD Bz
 have fC:s2.heap.objs.size<=HH.objs.size:=by rw [BE]; exact QN _
 obtain ⟨hg,ht,hk,hv⟩:=hb s2 H2 HH.objs.size fp;have loop:∀ BG:Shared,BG = { s2 with heap:=Bb,toks:=s2.toks + ([]:List (Str × Value)).length } ->
   codeAny (model X.prog X.w) X.A (.compLoop (.DictComp kx vx [⟨tg,iter,ifs,0⟩] scope pos) 0 (.ref it) (.ref s2.heap.objs.size) (compEnvC scope cl HH.objs.size X.env))
    (compPost (model X.prog X.w) X.A X.xe none (EP X pins σ Q) (.ref s2.heap.objs.size) HH.objs.size) BG:=by
  rintro BG rfl;have stat:∀ {H':Hp} ,(∀ b ∈ fp,H' b=none)->∀ b ∈ fp,DS (Al X scope cl N s2 H2 HH.objs.size fp) [] H' b:=fun hn b hb=>by
   refine ⟨hn b hb,?_,?_,.inl hb,?_,fun p hp=>by cases hp⟩
   ·obtain ⟨o,e⟩:=hfo b hb;exact Qv (show b < HH.objs.size by rw [BE]; exact QK (Qp e))
   ·intro hz;obtain ⟨_,q1,q2,_⟩:=f2 b hb;rcases Qn.mp (I2.stkSub b hz) with e | e
    ·exact q1 e
    ·exact q2 e
   ·exact fun x c e=>(f2 b hb).2.2.2.2.1 x c (co.sub x c e)
  refine B9 (fun n s'=>∃ i Ap H',Ak (Al X scope cl N s2 H2 HH.objs.size fp) [] Ap H' s'/\tn i s'.heap/\(∀ b ∈ fp,H' b=none)/\W i n Ap H') ?_ m0
   ⟨0,σ0 σ,_,I3,T.keep _ _ _ EZ fun b hb o e=>old b o e,fun b hb=>?_,w0⟩
  ·rintro n s4 ⟨i,F9,H4,I4,JJ,KH,w4⟩;rcases turn i n F9 H4 w4 with ⟨stop,qn⟩ | ⟨go,step⟩
   ·refine wpAny_mono (T.done (Al X scope cl N s2 H2 HH.objs.size fp) rfl rfl rfl hc i [] s4 F9 H4 (fun _ _=>False) I4 (stat KH) JJ stop) (fun r s5 ⟨hr,I5⟩=>?_) fun _ _ z=>z.elim
    subst hr;obtain ⟨m5,Nq,_⟩:=id I5.loc;exact ⟨m5,Nq,fun h' LQ=>⟨.ref _,H4,D1 I2 f2 fC I5 LQ,rfl,qn⟩⟩
   ·refine wpAny_mono (T.item (Al X scope cl N s2 H2 HH.objs.size fp) rfl rfl rfl hc i [] s4 F9 H4 (fun _ _=>False) I4 (stat KH) JJ go) (fun r s5 ⟨u,hr,h5⟩=>?_) fun _ _ z=>z.elim
    subst hr;refine wpAny_mono h5 (fun _ s6 ⟨x,H6,I6,r6,y6,Hb,N1⟩=>?_) fun _ _ z=>z.elim
    have NO:=I6.pinned (stat N1) (T.obj _ _ Hb);refine wpAny_mono (hg s6 F9 H6 x u _ NO r6 (step x H6 y6)) (fun _ s7 ⟨Dl,H7,I7,q7⟩=>?_) fun _ _ z=>z.elim
    refine wpAny_mono (ht s7 Dl H7 _ I7 q7) (fun ok s8 ⟨H8,I8,q8⟩=>?_) fun _ _ z=>z.elim
    have again:∀ {s9:Shared} {F8:St} {H9:Hp} ,Ak (Al X scope cl N s2 H2 HH.objs.size fp) ([] ++ CG fp s6.heap) F8 H9 s9->(∃ m',m' < n/\W (i + 1) m' F8 H9)->∃ m,m < n/\∃ i Ap H',Ak (Al X scope cl N s2 H2 HH.objs.size fp) [] Ap H' s9/\tn i s9.heap/\(∀ b ∈ fp,H' b=none)/\W i m Ap H':=fun {s9 F8 H9} I9 n9=>by
     obtain ⟨m',hm,w9⟩:=n9;refine ⟨m',hm,i + 1,F8,H9,I9.unpinned,T.keep _ _ _ Hb fun b hb o e=>(I9.pin (b,o) (Qq _ (Qq _ (AU hb e)))).1,fun b hb=>?_,w9⟩;obtain ⟨o,e,d⟩:=T.obj _ _ Hb b hb;exact (I9.pin (b,o) (Qq _ (Qq _ (AU hb e)))).2.1
    cases ok with
    | false=>
     rw [if_neg Qr] at q8 ⊢;exact again I8 q8
    | true=>
     rw [if_pos rfl] at q8 ⊢;refine wpAny_mono (hk s8 Dl H8 _ I8 q8) (fun yk s9 ⟨k,H9,I9,r9,q9⟩=>?_) fun _ _ z=>z.elim
     refine wpAny_mono (hv s9 Dl H9 _ I9 q9) (fun yv Ls ⟨v,Mi,NP,Pp,kvs,key,ek,hacc,hsz,MS⟩=>?_) fun _ _ z=>z.elim
     subst ek;exact Fy (X:=Al X scope cl N s2 H2 HH.objs.size fp) NP hacc hsz r9 Pp fun Pm Qh=>again Qh MS
  ·have z:=(f2 b hb).1;obtain ⟨o,e⟩:=hfo b hb;rw [Af (Qv (Qp e))];exact z
 exact codeAny_compStart_dict (loop _ rfl) (T.self _ 0 _ _ _ (T.keep _ _ _ EZ fun b hb o e=>old b o e) (loop _ rfl))
theorem Kc {X:Cx} {ix:Nat} {x:Str} {px spos:Pos} {tg iter kx vx:Expr} {ifs:List Expr} {scope:Scope} {cl:List (Str × Addr)} {N:List Str} {pos:Pos} {wi:TI} {g:TG} {tt:TT} {tk tv:TE} {σ0:St->St} (hN:X.N.Nodup) (hix:X.N[ix]? = some x) (hlx:Og X.env.scope x) (hc:X.calm=true) (co:AV X scope cl)
  (hσ:∀ σ,σ.length=X.N.length->Bu X cl scope N σ (σ0 σ)) (hi:PI X tg iter wi)
  (hb:∀ s2 H C fp,PG (Al X scope cl N s2 H C fp) tg g/\Of (Al X scope cl N s2 H C fp) ifs tt/\PE (Al X scope cl N s2 H C fp) kx tk/\PE (Al X scope cl N s2 H C fp) vx tv)
  (hsw:swapsWith (.DictComp kx vx [⟨tg,iter,ifs,0⟩] scope pos) (some (.Name x px)) spos.line X.env=pure true:=by rfl)
  (hs:∀ x,foldedSetIterable iter X.env x=pure x:=by intro _; rfl) (hf:X.fn x=true\/X.env.scope.names.lookup x=some .local:=by first | exact .inl rfl | exact .inr rfl | assumption) :
  PS X (.Assign [.Name x px] (.DictComp kx vx [⟨tg,iter,ifs,0⟩] scope pos) spos) (Lm (JE wi g tt tk tv σ0) (Ip ix)):=by
 intro pins s σ H DD I h;rw [exec_Assign_Name_used _ _ _ _ hsw];refine wpAny_bind (wpAny_standAt (wpAny_bind ?_));show wpAny _ X.A (do let _ <- comprehension (.DictComp kx vx [⟨tg,iter,ifs,0⟩] scope pos) scope X.env _ newDict false (eval iter X.env) (some (assign (.Name x px) X.env))) _ _ s
 refine wpAny_bind (wpAny_mono (wpAny_comprehension_free (use:=some (assign (.Name x px) X.env)) (Q:=fun _ s'=>SP X pins DD .next s') rfl hs co.clos co.kind co.names
  (wpAny_mono (hi (pins:=pins) s σ H _ I h) (fun xv s1 h1=>wpAny_mono h1 (fun itv s2 h2=>?_) fun _ _ e=>e) fun _ _ e=>e)) (fun _ s' hq=>wpAny_pure (wpAny_pure hq)) fun _ _ e=>e)
 obtain ⟨it,fp,tn,J,H2,rfl,I2,T,EZ,f2,hW⟩:=h2;refine wpAny_newObj_type (wpAny_newFunctionEnv co.cell (by intro y hy; cases hy) (fun Bb Bz Bf=>?_) co.kind);dsimp only at Bz Bf ⊢;generalize Hw:s2.heap.push { cls:=.type "dict",dict:=none,data:=.dict #[] } = HH at Bz Bf ⊢;have BE:HH.objs.size=s2.heap.objs.size + 1:=by rw [<-Hw,QV]
 have old:∀ b o,s2.heap.get? b=some o->Bb.get? b=some o:=fun b o e=>
  Bf.extBut b o (Qv (by rw [BE]; exact QK (Qp e))) (Ql _ (Hw ▸ Ql _ e))
 have newD:Ax X.prog X.w (upd H2 s2.heap.objs.size (.dK [])) Bb s2.heap.objs.size (.dK []):=
  let ⟨z,hd,vs,rel,o,es,ep,ho,r⟩:=Dy (P:=X.prog) (w:=X.w) (H:=upd H2 s2.heap.objs.size (.dK [])) s2.heap I2.big
  ⟨z,hd,vs,rel,o,es,ep,Bf.extBut _ _ (Qv (by rw [BE]; exact QC _)) (Ql _ (Hw ▸ ho)),r⟩
 obtain ⟨W,⟨m0,w0⟩,turn⟩:=hW s2.heap.objs.size I2.fresh;have hfo:∀ b ∈ fp,∃ o,s2.heap.get? b=some o:=fun b hb=>let ⟨o,e,_⟩:=T.obj _ _ EZ b hb; ⟨o,e⟩
 have I3:Ak (Al X scope cl N s2 H2 HH.objs.size fp) [] (σ0 σ) (upd H2 s2.heap.objs.size (.dK [])) { s2 with heap:=Bb,toks:=s2.toks + ([]:List (Str × Value)).length }:=
  Eb I2 f2 hfo co (hσ σ I.len) old (Qo _) (by rw [BE]; exact QN _) (Rr (by rw [BE]; exact QC _)) newD Bz
 have fC:s2.heap.objs.size<=HH.objs.size:=by rw [BE]; exact QN _
 obtain ⟨hg,ht,hk,hv⟩:=hb s2 H2 HH.objs.size fp;have loop:∀ BG:Shared,BG = { s2 with heap:=Bb,toks:=s2.toks + ([]:List (Str × Value)).length } ->
   codeAny (model X.prog X.w) X.A (.compLoop (.DictComp kx vx [⟨tg,iter,ifs,0⟩] scope pos) 0 (.ref it) (.ref s2.heap.objs.size) (compEnvC scope cl HH.objs.size X.env))
    (compPost (model X.prog X.w) X.A X.xe (some (assign (.Name x px) X.env)) (fun _ s'=>SP X pins DD .next s') (.ref s2.heap.objs.size) HH.objs.size) BG:=by
  rintro BG rfl;have stat:∀ {H':Hp} ,(∀ b ∈ fp,H' b=none)->∀ b ∈ fp,DS (Al X scope cl N s2 H2 HH.objs.size fp) [] H' b:=fun hn b hb=>by
   refine ⟨hn b hb,?_,?_,.inl hb,?_,fun p hp=>by cases hp⟩
   ·obtain ⟨o,e⟩:=hfo b hb;exact Qv (show b < HH.objs.size by rw [BE]; exact QK (Qp e))
   ·intro hz;obtain ⟨_,q1,q2,_⟩:=f2 b hb;rcases Qn.mp (I2.stkSub b hz) with e | e
    ·exact q1 e
    ·exact q2 e
   ·exact fun x c e=>(f2 b hb).2.2.2.2.1 x c (co.sub x c e)
  refine B9 (fun n s'=>∃ i Ap H',Ak (Al X scope cl N s2 H2 HH.objs.size fp) [] Ap H' s'/\tn i s'.heap/\(∀ b ∈ fp,H' b=none)/\W i n Ap H') ?_ m0
   ⟨0,σ0 σ,_,I3,T.keep _ _ _ EZ fun b hb o e=>old b o e,fun b hb=>?_,w0⟩
  ·rintro n s4 ⟨i,F9,H4,I4,JJ,KH,w4⟩;rcases turn i n F9 H4 w4 with ⟨stop,qn⟩ | ⟨go,step⟩
   ·refine wpAny_mono (T.done (Al X scope cl N s2 H2 HH.objs.size fp) rfl rfl rfl hc i [] s4 F9 H4 (fun _ _=>False) I4 (stat KH) JJ stop) (fun r s5 ⟨hr,I5⟩=>?_) fun _ _ z=>z.elim
    subst hr;obtain ⟨m5,Nq,_⟩:=id I5.loc;have I6:Ak X pins σ H4 s5:=D1 (h':=s5.heap) I2 f2 fC I5 (Heap.SameBut.refl _ _);have cC:∀ y c,X.env.cells.lookup y=some c->c ≠ HH.objs.size:=fun y c e=>by
     obtain ⟨v,q⟩:=I2.cell y c e;exact Qv (Qu q.lt fC)
    have lC:X.env.locals ≠ HH.objs.size:=Qv (Qu I2.lt fC);show wpAny _ X.A (assign (.Name x px) X.env (.ref s2.heap.objs.size)) _ X.xe s5
    refine wpAny_assign_Name (D6 I6 hN hix hlx (v:=.ref s2.heap.objs.size) rfl (fun s7 I7 ⟨a,sb,ha⟩=>?_) hf);have aC:a ≠ HH.objs.size:=by
     rcases ha with rfl | ha
     ·exact lC
     ·exact cC _ _ ha
    refine ⟨m5,Nq.sameBut sb (Ne.symm aC),fun h' LQ=>⟨_,H4,?_,qn⟩⟩;exact I7.turned (t':=s7.toks) (it:=HH.objs.size) (fun b o hb e=>(LQ.2 b hb).trans e) I5.free (Ne.symm lC) (.inr (QE I2.sz fC)) cC fun p hp z=>by
     have e:=(I2.pin p hp).1;exact absurd (Qu (Qp e) fC) (by rw [z]; exact QL _)
   ·refine wpAny_mono (T.item (Al X scope cl N s2 H2 HH.objs.size fp) rfl rfl rfl hc i [] s4 F9 H4 (fun _ _=>False) I4 (stat KH) JJ go) (fun r s5 ⟨u,hr,h5⟩=>?_) fun _ _ z=>z.elim
    subst hr;refine wpAny_mono h5 (fun _ s6 ⟨x,H6,I6,r6,y6,Hb,N1⟩=>?_) fun _ _ z=>z.elim
    have NO:=I6.pinned (stat N1) (T.obj _ _ Hb);refine wpAny_mono (hg s6 F9 H6 x u _ NO r6 (step x H6 y6)) (fun _ s7 ⟨Dl,H7,I7,q7⟩=>?_) fun _ _ z=>z.elim
    refine wpAny_mono (ht s7 Dl H7 _ I7 q7) (fun ok s8 ⟨H8,I8,q8⟩=>?_) fun _ _ z=>z.elim
    have again:∀ {s9:Shared} {F8:St} {H9:Hp} ,Ak (Al X scope cl N s2 H2 HH.objs.size fp) ([] ++ CG fp s6.heap) F8 H9 s9->(∃ m',m' < n/\W (i + 1) m' F8 H9)->∃ m,m < n/\∃ i Ap H',Ak (Al X scope cl N s2 H2 HH.objs.size fp) [] Ap H' s9/\tn i s9.heap/\(∀ b ∈ fp,H' b=none)/\W i m Ap H':=fun {s9 F8 H9} I9 n9=>by
     obtain ⟨m',hm,w9⟩:=n9;refine ⟨m',hm,i + 1,F8,H9,I9.unpinned,T.keep _ _ _ Hb fun b hb o e=>(I9.pin (b,o) (Qq _ (Qq _ (AU hb e)))).1,fun b hb=>?_,w9⟩;obtain ⟨o,e,d⟩:=T.obj _ _ Hb b hb;exact (I9.pin (b,o) (Qq _ (Qq _ (AU hb e)))).2.1
    cases ok with
    | false=>
     rw [if_neg Qr] at q8 ⊢;exact again I8 q8
    | true=>
     rw [if_pos rfl] at q8 ⊢;refine wpAny_mono (hk s8 Dl H8 _ I8 q8) (fun yk s9 ⟨k,H9,I9,r9,q9⟩=>?_) fun _ _ z=>z.elim
     refine wpAny_mono (hv s9 Dl H9 _ I9 q9) (fun yv Ls ⟨v,Mi,NP,Pp,kvs,key,ek,hacc,hsz,MS⟩=>?_) fun _ _ z=>z.elim
     subst ek;exact Fy (X:=Al X scope cl N s2 H2 HH.objs.size fp) NP hacc hsz r9 Pp fun Pm Qh=>again Qh MS
  ·have z:=(f2 b hb).1;obtain ⟨o,e⟩:=hfo b hb;rw [Af (Qv (Qp e))];exact z
 exact codeAny_compStart_dict (loop _ rfl) (T.self _ 0 _ _ _ (T.keep _ _ _ EZ fun b hb o e=>old b o e) (loop _ rfl))
theorem JH {a b:Str} (h1:¬ b.cps.toList < a.cps.toList) (h2:¬ a.cps.toList < b.cps.toList):a=b:=by
 have e:a.cps.toList=b.cps.toList:=List.le_antisymm (RE.mp h1) (RE.mp h2);cases a; cases b
 simp only [Str.mk.injEq];exact S3.mp e
def Gm (ws:List Az) (x y:Str):Prop:=∃ u ∈ ws,(u.1=x/\u.2.1=y)\/(u.1=y/\u.2.1=x)
theorem Gm.symm {ws:List Az} {x y:Str} (h:Gm ws x y):Gm ws y x:=let ⟨u,hu,h⟩:=h; ⟨u,hu,h.symm⟩
theorem Cp (u:Az):(DE u).1=u.1/\(DE u).2.1=u.2.1\/(DE u).1=u.2.1/\(DE u).2.1=u.1:=by
 unfold DE Hl Hm;by_cases h:u.2.1.cps.toList < u.1.cps.toList
 ·have h':¬ u.1.cps.toList < u.2.1.cps.toList:=SJ h;rw [if_pos h,if_neg h'];exact .inr ⟨rfl,rfl⟩
 ·rw [if_neg h];by_cases h':u.1.cps.toList < u.2.1.cps.toList
  ·rw [if_pos h']; exact .inl ⟨rfl,rfl⟩
  ·rw [if_neg h'];have e:u.1=u.2.1:=JH h h';exact .inl ⟨rfl,e⟩
theorem KU {ws C8:List Az} (p:C8.Perm (ws.map DE)) (x y:Str):Gm C8 x y ↔ Gm ws x y:=by
 constructor
 ·rintro ⟨u,hu,h⟩;obtain ⟨v,hv,rfl⟩:=Q0.mp (p.mem_iff.mp hu);refine ⟨v,hv,?_⟩;rcases Cp v with ⟨e1,e2⟩ | ⟨e1,e2⟩
  ·rw [e1,e2] at h; exact h
  ·rw [e1,e2] at h;rcases h with ⟨a,b⟩ | ⟨a,b⟩
   ·exact .inr ⟨b,a⟩
   ·exact .inl ⟨b,a⟩
 ·rintro ⟨v,hv,h⟩;refine ⟨DE v,p.mem_iff.mpr (Q0.mpr ⟨v,hv,rfl⟩),?_⟩;rcases Cp v with ⟨e1,e2⟩ | ⟨e1,e2⟩
  ·rw [e1,e2]; exact h
  ·rw [e1,e2];rcases h with ⟨a,b⟩ | ⟨a,b⟩
   ·exact .inr ⟨b,a⟩
   ·exact .inl ⟨b,a⟩
theorem Jm {xs:List Str} {ws C8:List Az} (p:C8.Perm (ws.map DE)) (h:∀ u ∈ ws,u.1 ∈ xs/\u.2.1 ∈ xs):∀ u ∈ C8,u.1 ∈ xs/\u.2.1 ∈ xs:=fun u hu=>by
 obtain ⟨v,hv,rfl⟩:=Q0.mp (p.mem_iff.mp hu);obtain ⟨a,b⟩:=h v hv;rcases Cp v with ⟨e1,e2⟩ | ⟨e1,e2⟩ <;> rw [e1,e2]
 ·exact ⟨a,b⟩
 ·exact ⟨b,a⟩
def Gj (xs:List Str) (ws:List Az):Prop:=∀ j,0 < j->j < xs.length->∃ u ∈ ws,∃ i:Nat,i < j/\xs[i]? = some u.1/\xs[j]? = some u.2.1
theorem Gj.all {xs:List Str} {ws:List Az} (h:Gj xs ws) (S:Str->Prop) (cl:∀ x y,Gm ws x y->S x->S y) {r:Str} (hr:r ∈ xs) (sr:S r):∀ x ∈ xs,S x:=by
 have down:∀ n (i:Nat),i<=n->∀ x,xs[i]? = some x->S x->∀ x0,xs[0]? = some x0->S x0:=by
  intro n;induction n with
  | zero=>
   intro i hi x e s x0 e0;have:i=0:=by lia
   subst this;rw [e] at e0; cases e0; exact s
  | succ n ih=>
   intro i hi x e s x0 e0;by_cases hz:i=0
   ·subst hz;rw [e] at e0; cases e0; exact s
   ·obtain ⟨u,hu,k,hk,e1,e2⟩:=h i (by lia) (Qx.mp e).1;rw [e] at e2; cases e2;exact ih k (by lia) u.1 e1 (cl _ _ ⟨u,hu,.inr ⟨rfl,rfl⟩⟩ s) x0 e0
 have up:∀ x0,xs[0]? = some x0->S x0->∀ n (i:Nat),i<=n->∀ x,xs[i]? = some x->S x:=by
  intro x0 e0 s0 n;induction n with
  | zero=>
   intro i hi x e;have:i=0:=by lia
   subst this;rw [e0] at e; cases e; exact s0
  | succ n ih=>
   intro i hi x e;by_cases hz:i=0
   ·subst hz;rw [e0] at e; cases e; exact s0
   ·obtain ⟨u,hu,k,hk,e1,e2⟩:=h i (by lia) (Qx.mp e).1;rw [e] at e2; cases e2;exact cl _ _ ⟨u,hu,.inl ⟨rfl,rfl⟩⟩ (ih k (by lia) u.1 e1)
 intro x hx;obtain ⟨i,hi,e⟩:=Q5 hr;obtain ⟨j,hj,e'⟩:=Q5 hx;have h0:xs[0]? = some xs[0]:=Qi (by lia);have s0:S xs[0]:=down i i (Qo _) r (by rw [Qi hi,e]) sr _ h0;exact up _ h0 s0 j j (Qo _) x (by rw [Qi hj,e'])
section
variable {ws:List Az} {r:Str} {bs cs:List (Str × Option Str)}
theorem Gp {α β:Type} {l:List (α × β)} (h:(l.map (·.1)).Nodup) {x:α} {a b:β} (ha:(x,a) ∈ l) (hb:(x,b) ∈ l):a=b:=by
 induction l with
 | nil=>cases ha
 | cons p l ih=>
  rw [Qt] at h;obtain ⟨h1,h2⟩:=QI.mp h;have key:∀ c,(x,c) ∈ l->p.1 ≠ x:=fun c hc z=>h1 (by rw [z]; exact Q0.mpr ⟨(x,c),hc,rfl⟩)
  rcases Qn.mp ha with e | ha1
  ·rcases Qn.mp hb with e' | PQ
   ·rw [<-e] at e'; cases e'; rfl
   ·exact absurd (by rw [<-e]) (key b PQ)
  ·rcases Qn.mp hb with e' | PQ
   ·exact absurd (by rw [<-e']) (key a ha1)
   ·exact ih h2 ha1 PQ
end
section
variable {ws:List Az} {r:Str} {wk:List (Str × List Str)}
end
theorem BZ {H2 H3:Hp} {vs:List V} {ws:List Az} (h:A7 H2 vs (ws.map B2)) (ht:∀ b xs,H2 b=some (.tup xs)->H3 b=some (.tup xs)):A7 H3 vs (ws.map B2):=by
 induction ws generalizing vs with
 | nil=>cases h; exact .nil
 | cons u ws ih=>
  cases h with
  | cons h1 r=>
   refine .cons ?_ (ih r);cases h1 with
   | tup ha hd=>
    refine .tup (ht _ _ ha) ?_;cases hd with
    | cons h1 r1=>
     cases r1 with
     | cons h2 r2=>
      cases r2 with
      | cons h3 r3=>
       cases r3
       cases h1
       cases h2
       cases h3
       exact .cons (.str _) (.cons (.str _) (.cons (.int _) .nil))
theorem E9 {α:Type} {l:List α} (h:l.Nodup) {i j:Nat} {x:α} (a:l[i]? = some x) (b:l[j]? = some x):i=j:=
 (List.getElem?_inj (Qx.mp a).1 h).mp (a.trans b.symm)
def sK (nv:List (Str × V)):List (A5 × V):=nv.map fun q=>(Sum.inr q.1,q.2)
theorem BB (nv:List (Str × V)):(sK nv).length=nv.length:=Qk ..
theorem FI (nv:List (Str × V)):(sK nv).map (·.1)=(nv.map (·.1)).map Sum.inr:=by unfold sK; rw [Rc,Rc]; rfl
theorem ML (a b:List (Str × V)):sK (a ++ b)=sK a ++ sK b:=Qw ..
theorem FH:∀ {nv:List (Str × V)} {y:Str},y ∉ nv.map (·.1)->AX (sK nv) (Sum.inr y:A5)=none
 | [],y,_=>rfl
 | q :: nv,y,h=>by
  rw [Qt,Qn,not_or] at h;show AX ((Sum.inr q.1,q.2) :: sK nv) (Sum.inr y:A5)=none
  rw [AZ (fun z=>h.1 (Sum.inr.inj z).symm)];exact FH h.2
theorem Ci:∀ {nv:List (Str × V)} {y:Str} {v:V},(nv.map (·.1)).Nodup->(y,v) ∈ nv->AX (sK nv) (Sum.inr y:A5)=some v
 | [],y,v,_,h=>nomatch h
 | q :: nv,y,v,hn,h=>by
  rw [Qt] at hn;obtain ⟨h1,h2⟩:=QI.mp hn;show AX ((Sum.inr q.1,q.2) :: sK nv) (Sum.inr y:A5)=some v
  rcases Qn.mp h with e | h'
  ·subst e;exact Bh rfl
  ·rw [AZ (fun z=>h1 (by rw [Sum.inr.inj z]; exact Q0.mpr ⟨(y,v),h',rfl⟩))];exact Ci h2 h'
theorem DX {nv:List (Str × V)} {y:Str}:(AX (sK nv) (Sum.inr y:A5)).isSome=decide (y ∈ nv.map (·.1)):=by
 by_cases h:y ∈ nv.map (·.1)
 ·rw [decide_eq_true h];cases e:AX (sK nv) (Sum.inr y:A5) with
  | some v=>rfl
  | none=>
   have:=JB e;rw [FI] at this;exact absurd (Q0.mpr ⟨y,h,rfl⟩) this
 ·rw [decide_eq_false h,FH h]; rfl
theorem Cz {nv:List (Str × V)} {y:Str} {v:V} (h:y ∉ nv.map (·.1)):Be (sK nv) (Sum.inr y:A5) v=sK (nv ++ [(y,v)]):=by
 rw [Ka v (FH h),ML]; rfl
theorem Hf (nv:List (Str × V)) (y:Str) (v:V):∃ CA,Be (sK nv) (Sum.inr y:A5) v=sK CA/\CA.length<=nv.length + 1/\∀ z,z ∈ CA.map (·.1) ↔ z ∈ nv.map (·.1)\/z=y:=by
 by_cases h:y ∈ nv.map (·.1)
 ·refine ⟨nv.map fun q=>if q.1=y then (q.1,v) else q,?_,by rw [Qk]; lia,fun z=>?_⟩
  ·unfold Be;have:((sK nv).any fun kv=>decide (kv.1=(Sum.inr y:A5)))=true:=by
    rw [B3,DX,decide_eq_true h]
   rw [if_pos this];unfold sK;rw [Rc,Rc];refine Rk fun q _=>?_
   by_cases e:q.1=y
   ·simp [e]
   ·have e':¬ (Sum.inr q.1:A5)=Sum.inr y:=fun z=>e (Sum.inr.inj z)
    simp [e,e']
  ·have e:(nv.map fun q=>if q.1=y then (q.1,v) else q).map (·.1)=nv.map (·.1):=by
    rw [Rc];refine Rk fun q _=>?_
    by_cases e:q.1=y <;> simp [e]
   rw [e];constructor
   ·exact .inl
   ·rintro (q | rfl)
    ·exact q
    ·exact h
 ·refine ⟨nv ++ [(y,v)],Cz h,by simp,fun z=>by simp⟩
theorem JV {nv:List (Str × V)} {i:Nat} {k:A5} {v:V} (h:(sK nv)[i]? = some (k,v)):∃ y,nv[i]? = some (y,v)/\k=.inr y:=by
 unfold sK at h;rw [Q7] at h;cases e:nv[i]? with
 | none=>rw [e] at h; cases h
 | some q=>
  rw [e] at h;simp only [Rt,QB.injEq,Prod.mk.injEq] at h;exact ⟨q.1,by rw [<-h.2],h.1.symm⟩
structure Web (H:Hp) (q:Addr) (ps:List Str) (ws:List Az):Prop where
 ex:∃ tp tw us,H q=some (.tup [.ref tp,.ref tw])/\H tp=some (.tup (ps.map V.str))/\H tw=some (.tup us)/\A7 H us (ws.map B2)
theorem Web.same {H H':Hp} {q:Addr} {ps:List Str} {ws:List Az} (h:Web H q ps ws) (s:∀ b xs,H b=some (.tup xs)->H' b=some (.tup xs)):Web H' q ps ws:=by
 obtain ⟨tp,tw,us,h1,h2,h3,h4⟩:=h.ex;exact ⟨tp,tw,us,s _ _ h1,s _ _ h2,s _ _ h3,BZ h4 s⟩
def Hk (ps:List Str) (ds:List Addr):List (Str × V):=(ps.zip ds).map fun q=>(q.1,V.ref q.2)
theorem EB {ps:List Str} {ds:List Addr} (h:ps.length<=ds.length):(Hk ps ds).map (·.1)=ps:=by
 unfold Hk;rw [Rc];have:((fun (x:Str × V)=>x.1) ∘ fun (q:Str × Addr)=>(q.1,V.ref q.2))=Prod.fst:=rfl;rw [this,List.map_fst_zip h]
theorem Ie {ps:List Str} {ds:List Addr} {i:Nat} {p:Str} {d:Addr} (h1:ps[i]? = some p) (h2:ds[i]? = some d):(p,V.ref d) ∈ Hk ps ds:=by
 unfold Hk;refine Q0.mpr ⟨(p,d),Qm (i:=i) ?_,rfl⟩;rw [List.getElem?_zip_eq_some];exact ⟨h1,h2⟩
structure NB (H:Hp) (B:Addr) (ps:List Str) (ds:List Addr) (P:Str->Str->Prop) (n:Nat):Prop where
 top:H B=some (.dK (sK (Hk ps ds)))
 len:ds.length=ps.length
 nd:ds.Nodup
 nB:B ∉ ds
 inner:∀ (i:Nat) (p:Str) (d:Addr),ps[i]? = some p->ds[i]? = some d->∃ nv:List (Str × V),H d=some (.dK (sK nv))/\nv.length<=n/\∀ y,y ∈ nv.map (·.1) ↔ P p y
theorem NB.get {H:Hp} {B:Addr} {ps:List Str} {ds:List Addr} {P:Str->Str->Prop} {n:Nat} (h:NB H B ps ds P n) (hn:ps.Nodup) {p:Str} (hp:p ∈ ps) :
  ∃ (i:Nat) (d:Addr) (nv:List (Str × V)),ps[i]? = some p/\ds[i]? = some d/\AX (sK (Hk ps ds)) (Sum.inr p:A5)=some (.ref d)/\H d=some (.dK (sK nv))/\nv.length<=n/\∀ y,y ∈ nv.map (·.1) ↔ P p y:=by
 obtain ⟨i,hi,e⟩:=Q5 hp;have e1:ps[i]? = some p:=by rw [Qi hi,e]
 have NZ:i < ds.length:=by rw [h.len]; exact hi
 have e2:ds[i]? = some ds[i]:=Qi NZ;obtain ⟨nv,a1,a2,a3⟩:=h.inner i p _ e1 e2;refine ⟨i,_,nv,e1,e2,Ci ?_ (Ie e1 e2),a1,a2,a3⟩;rw [EB (by rw [h.len]; exact Qo _)];exact hn
theorem NB.put {H:Hp} {B:Addr} {ps:List Str} {ds:List Addr} {P:Str->Str->Prop} {n:Nat} (h:NB H B ps ds P n) {i:Nat} {p y:Str} {d:Addr} (hn:ps.Nodup) (e1:ps[i]? = some p) (e2:ds[i]? = some d) {nv CA:List (Str × V)} (hd:H d=some (.dK (sK nv)))
  (hl:CA.length<=nv.length + 1) (hk:∀ z,z ∈ CA.map (·.1) ↔ z ∈ nv.map (·.1)\/z=y) (hP:∀ z,z ∈ nv.map (·.1) ↔ P p z) (hln:nv.length<=n):NB (upd H d (.dK (sK CA))) B ps ds (fun a b=>P a b\/(a=p/\b=y)) (n + 1):=by
 have dm:d ∈ ds:=Qm e2;refine ⟨by rw [Af (fun z=>h.nB (by rw [z]; exact dm))]; exact h.top,h.len,h.nd,h.nB,fun j q c f1 f2=>?_⟩;by_cases z:c=d
 ·subst z;have ij:i=j:=E9 h.nd e2 f2;subst ij;rw [e1] at f1; cases f1;refine ⟨CA,Ab,by lia,fun z=>?_⟩;rw [hk,hP];simp
 ·obtain ⟨nw,b1,b2,b3⟩:=h.inner j q c f1 f2;refine ⟨nw,by rw [Af z]; exact b1,by lia,fun y'=>?_⟩;rw [b3];have:q ≠ p:=by
   rintro rfl;have ij:=E9 hn e1 f1;subst ij;rw [e2] at f2; cases f2;exact z rfl
  simp [this]
theorem NB.mono {H:Hp} {B:Addr} {ps:List Str} {ds:List Addr} {P P':Str->Str->Prop} {n m:Nat} (h:NB H B ps ds P n) (hP:∀ a b,P a b ↔ P' a b) (hn:n<=m):NB H B ps ds P' m:=
 ⟨h.top,h.len,h.nd,h.nB,fun i p d e1 e2=>let ⟨nv,a1,a2,a3⟩:=h.inner i p d e1 e2; ⟨nv,a1,by lia,fun y=>(a3 y).trans (hP p y)⟩⟩
theorem NB.same {H H':Hp} {B:Addr} {ps:List Str} {ds:List Addr} {P:Str->Str->Prop} {n:Nat} (h:NB H B ps ds P n) (s:Aw H H'):NB H' B ps ds P n:=
 ⟨s _ _ h.top,h.len,h.nd,h.nB,fun i p d e1 e2=>let ⟨nv,a1,a2,a3⟩:=h.inner i p d e1 e2; ⟨nv,s _ _ a1,a2,a3⟩⟩
structure Eg (H:Hp) (q:Addr) (ps:List Str) (ws:List Az) (r:Str):Prop where
 web:Web H q ps ws
 nd:ps.Nodup
 l30:ps.length<=30
 l64:ws.length < 64
 ends:∀ u ∈ ws,u.1 ∈ ps/\u.2.1 ∈ ps
 first:ps[0]? = some r
 con:∀ S:Str->Prop,S r->(∀ x y,Gm ws x y->S x->S y)->∀ x ∈ ps,S x
theorem Eg.same {H H':Hp} {q:Addr} {ps:List Str} {ws:List Az} {r:Str} (h:Eg H q ps ws r) (s:Aw H H'):Eg H' q ps ws r:=
 ⟨h.web.same fun b xs z=>s _ _ z,h.nd,h.l30,h.l64,h.ends,h.first,h.con⟩
theorem KS {ws:List Az} {i:Nat} {u:Az} (h:ws[i]? = some u) (a b:Str):Gm (ws.take (i + 1)) a b ↔ (Gm (ws.take i) a b\/(a=u.1/\b=u.2.1))\/(a=u.2.1/\b=u.1):=by
 rw [QJ,h];constructor
 ·rintro ⟨v,hv,e⟩;rcases QA.mp hv with hv | hv
  ·exact .inl (.inl ⟨v,hv,e⟩)
  ·have:v=u:=by simpa using hv
   subst this;rcases e with ⟨e1,e2⟩ | ⟨e1,e2⟩
   ·exact .inl (.inr ⟨e1.symm,e2.symm⟩)
   ·exact .inr ⟨e2.symm,e1.symm⟩
 ·rintro ((⟨v,hv,e⟩ | ⟨rfl,rfl⟩) | ⟨rfl,rfl⟩)
  ·exact ⟨v,QD _ hv,e⟩
  ·exact ⟨u,Qq _ (by simp),.inl ⟨rfl,rfl⟩⟩
  ·exact ⟨u,Qq _ (by simp),.inr ⟨rfl,rfl⟩⟩
structure NR (H:Hp) (B:Addr) (ps:List Str) (ds:List Addr) (P:Str->Str->Prop):Prop where
 top:H B=some (.dK (sK (Hk ps ds)))
 len:ds.length=ps.length
 nd:ds.Nodup
 nB:B ∉ ds
 inner:∀ (i:Nat) (p:Str) (d:Addr),ps[i]? = some p->ds[i]? = some d->∃ nv:List (Str × V),Rd H d (.dK (sK nv))/\∀ y,y ∈ nv.map (·.1) ↔ P p y
theorem NB.r {H:Hp} {B:Addr} {ps:List Str} {ds:List Addr} {P:Str->Str->Prop} {n:Nat} (h:NB H B ps ds P n):NR H B ps ds P:=
 ⟨h.top,h.len,h.nd,h.nB,fun i p d e1 e2=>let ⟨nv,a1,_,a3⟩:=h.inner i p d e1 e2; ⟨nv,.inl a1,a3⟩⟩
theorem NR.get {H:Hp} {B:Addr} {ps:List Str} {ds:List Addr} {P:Str->Str->Prop} (h:NR H B ps ds P) (hn:ps.Nodup) {p:Str} (hp:p ∈ ps) :
  ∃ (i:Nat) (d:Addr) (nv:List (Str × V)),ps[i]? = some p/\ds[i]? = some d/\AX (sK (Hk ps ds)) (Sum.inr p:A5)=some (.ref d)/\Rd H d (.dK (sK nv))/\∀ y,y ∈ nv.map (·.1) ↔ P p y:=by
 obtain ⟨i,hi,e⟩:=Q5 hp;have e1:ps[i]? = some p:=by rw [Qi hi,e]
 have NZ:i < ds.length:=by rw [h.len]; exact hi
 have e2:ds[i]? = some ds[i]:=Qi NZ;obtain ⟨nv,a1,a3⟩:=h.inner i p _ e1 e2;refine ⟨i,_,nv,e1,e2,Ci ?_ (Ie e1 e2),a1,a3⟩;rw [EB (by rw [h.len]; exact Qo _)];exact hn
theorem Rd.ne {H:Hp} {a b:Addr} {u o:HO} (h:Rd H a u) (hb:a ≠ b):Rd (upd H b o) a u:=by
 rcases h with h | ⟨ob,h⟩
 ·exact .inl (by rw [Af hb]; exact h)
 ·exact .inr ⟨ob,by rw [Af hb]; exact h⟩
theorem Rd.fz {H H':Hp} {a b:Addr} {u:HO} {kvs:List (A5 × V)} {o:Obj} (h:Rd H a u) (f:C7 H b kvs o H') (hb:a ≠ b):Rd H' a u:=by
 rcases h with h | ⟨ob,h⟩
 ·exact .inl (by rw [f.ne hb]; exact h)
 ·exact .inr ⟨ob,by rw [f.ne hb]; exact h⟩
theorem NR.other {H:Hp} {B a:Addr} {ps:List Str} {ds:List Addr} {P:Str->Str->Prop} {o:HO} (h:NR H B ps ds P) (ha:a ∉ ds) (hB:a ≠ B):NR (upd H a o) B ps ds P:=
 ⟨by rw [Af (Ne.symm hB)]; exact h.top,h.len,h.nd,h.nB,fun i p d e1 e2=>let ⟨nv,a1,a3⟩:=h.inner i p d e1 e2
  ⟨nv,a1.ne (fun z=>ha (by rw [<-z]; exact Qm e2)),a3⟩⟩
theorem NR.freeze {H H':Hp} {B:Addr} {ps:List Str} {ds:List Addr} {P:Str->Str->Prop} (h:NR H B ps ds P) {i:Nat} {p:Str} {d:Addr} (e1:ps[i]? = some p) (e2:ds[i]? = some d) {nv:List (Str × V)} {o:Obj} (f:C7 H d (sK nv) o H') (hP:∀ y,y ∈ nv.map (·.1) ↔ P p y):NR H' B ps ds P:=by
 have dm:d ∈ ds:=Qm e2;refine ⟨by rw [f.ne (fun z=>h.nB (by rw [z]; exact dm))]; exact h.top,h.len,h.nd,h.nB,fun j q c f1 f2=>?_⟩;by_cases z:c=d
 ·subst z;have ij:i=j:=E9 h.nd e2 f2;subst ij;rw [e1] at f1; cases f1;exact ⟨nv,.inr ⟨o,f.at⟩,hP⟩
 ·obtain ⟨nw,b1,b3⟩:=h.inner j q c f1 f2;exact ⟨nw,b1.fz f z,b3⟩
theorem Lq {nv CA:List (Str × V)} {y:Str} {v:V} (e:Be (sK nv) (Sum.inr y:A5) v=sK CA) (hn:(nv.map (·.1)).Nodup):(CA.map (·.1)).Nodup:=by
 have inj:∀ {a b:List (Str × V)},(sK a).map (·.1)=(sK b).map (·.1)->a.map (·.1)=b.map (·.1):=fun {a b} h=>by
  rw [FI,FI] at h;exact Sx (fun x y z=>Sum.inr.inj z) |>.mp h
 by_cases h:y ∈ nv.map (·.1)
 ·have e2:(Be (sK nv) (Sum.inr y:A5) v).map (·.1)=(sK nv).map (·.1):=by
   unfold Be;have:((sK nv).any fun kv=>decide (kv.1=(Sum.inr y:A5)))=true:=by rw [B3,DX,decide_eq_true h]
   rw [if_pos this,Rc];refine Rk fun q _=>?_
   by_cases e:q.1=(Sum.inr y:A5) <;> simp [e]
  rw [e] at e2;rw [inj e2];exact hn
 ·rw [Cz h] at e;have e2:(nv ++ [(y,v)]).map (·.1)=CA.map (·.1):=inj (by rw [e]);rw [<-e2,Qw];refine RL.mpr ⟨hn,QI.mpr ⟨by simp,.nil⟩,fun a ha b hb=>?_⟩;have e3:b=y:=by simpa using hb
  subst e3;rintro rfl;exact h ha
section
variable {ws:List Az} {r:Str} {bs:List (Str × Option Str)} {wk:List (Str × List Str)} {ps:List Str}
end
theorem DF {α:Type} {l:List (Str × α)} (h:(l.map (·.1)).Nodup) (f:Str × α->Bool):((l.filter f).map (·.1)).Nodup:=by
 have s:List.Sublist ((l.filter f).map (·.1)) (l.map (·.1)):=List.Sublist.map _ Su;exact s.nodup h
theorem Ak.thaw {X:Cx} {pins:List (Addr × Obj)} {σ:St} {H:Hp} {s:Shared} {a:Addr} {o:Obj} {u:HO} (I:Ak X pins σ H s) (e:H a=some (.frz o u)) (h0:∀ ob w,X.H₀ a ≠ some (.frz ob w)) (hu:u ≠ .own a/\∀ xs,u ≠ .tup xs):Ak X pins σ (upd H a u) s:=by
 obtain ⟨ho,hok⟩:=(show Ax X.prog X.w H s.heap a (.frz o u) from I.hok a _ e)
 have nn:∀ b,H b=none->b ≠ a:=fun b hb z=>by rw [z,e] at hb; cases hb
 have own:∀ b y,H b=some (.own y)->b ≠ a:=fun b y hb z=>by rw [z,e] at hb; cases hb
 have tup:∀ b xs,H b=some (.tup xs)->b ≠ a:=fun b xs hb z=>by rw [z,e] at hb; cases hb
 refine ⟨I.ok,I.os,I.bare,⟨I.base.keep,I.base.slot,fun b ob q n hx=>?_,I.base.there,fun b xs q=>?_,fun b ob w q=>?_,fun b ps q=>?_⟩,I.loc,I.cell,?_,fun x c q=>?_,fun p hp=>?_,fun b w q=>?_,I.len⟩
 ·have z:=I.base.free b ob q n hx;rw [Af (nn b z)]; exact z
 ·have z:=I.base.tups b xs q;rw [Af (tup b xs z)]; exact z
 ·have z:=I.base.frzs b ob w q;by_cases hb:b=a
  ·subst hb; exact absurd q (h0 ob w)
  ·rw [Af hb]; exact z
 ·obtain ⟨more,z⟩:=I.base.tbls b ps q;refine ⟨more,?_⟩;rw [Af (fun hb=>by rw [hb,e] at z; cases z)]; exact z
 ·rw [Af (nn _ I.free)]; exact I.free
 ·rw [Af (nn _ (I.freeC x c q))]; exact I.freeC x c q
 ·obtain ⟨z1,z2,z3⟩:=I.pin p hp;exact ⟨z1,by rw [Af (nn _ z2)]; exact z2,z3⟩
 ·by_cases hb:b=a
  ·subst hb;rw [Ab] at q;cases q
   exact hok.stay (fun c v _ z=>z) (fun c z=>by rw [Af (own c _ z)]; exact z) fun c xs z=>by rw [Af (tup c xs z)]; exact z
  ·rw [Af hb] at q;exact (I.hok b w q).stay (fun c v _ z=>z) (fun c z=>by rw [Af (own c _ z)]; exact z) fun c xs z=>by rw [Af (tup c xs z)]; exact z
theorem HX {X:Cx} {e:Expr} {t:TE} (h:PE X e t):PE X e (fun σ H Q=>t σ H fun x H1=>∃ a o kvs,H1 a=some (.frz o (.dK kvs))/\(∀ ob w,X.H₀ a ≠ some (.frz ob w))/\Q x (upd H1 a (.dK kvs))):=by
 intro pins s σ H Q I q;refine Bj (h (pins:=pins) s σ H _ I q) fun v s1 ⟨x,H1,I1,r1,a,o,kvs,e1,h0,q1⟩=>?_
 exact ⟨x,_,I1.thaw e1 h0 ⟨(by intro z; cases z),(by intro xs z; cases z)⟩,r1,q1⟩
def BU (A:Around) (s:Shared) (x y:Value) (b:Bool):Prop:=∀ (prog:Program) (w:World) (E Q:Value->Shared->Prop),Q (.bool b) s->wpAny (model prog w) A (richCompare .Lt x y) Q E s
theorem BU.int (A:Around) (s:Shared) (a:Int) (t:Tok) (c:Int) (u:Tok):BU A s (.int a t) (.int c u) (decide (a < c)):=fun prog w E Q h=>
 (PyProof.Rows.lt_int h:wpAny (model prog w) A (compareOp .Lt (.int a t) (.int c u)) Q E s)
theorem BU.str (A:Around) (s:Shared) (a:Str) (t:Tok) (c:Str) (u:Tok):BU A s (.str a t) (.str c u) (decide (a.cps.toList < c.cps.toList)):=fun prog w E Q h=>
 (PySem.P.lt_str h:wpAny (model prog w) A (compareOp .Lt (.str a t) (.str c u)) Q E s)
section
open PySem.SeqAt
open PySem.AutoSeq1 (wpAny_loadPart')
open PySem.MeetsSeq PySem.MeetsSeq2 PySem.MeetsSeq3
theorem IF (l b:Addr) (x1 x2 y1 y2:Value) (n n2:Nat) (dd J3:Option Addr) (sl Le:Array (Option Value)) (e1 b1 e2 b2:Bool) :
  Meets (Builtin.«tuple.__lt__» ⟨[.ref l,.ref b],[]⟩)
   (fun A R s=>s.heap.get? l=some { cls:=.type "tuple",dict:=dd,data:=.seq #[x1,x2] n,slots:=sl }/\s.heap.get? b=some { cls:=.type "tuple",dict:=J3,data:=.seq #[y1,y2] n2,slots:=Le } /\
    EqAt A.in1 s x1 y1 e1/\(e1=false->BU A.in1 s x1 y1 b1)/\(e1=true->EqAt A.in1 s x2 y2 e2/\(e2=false->BU A.in1 s x2 y2 b2)) /\
    R (.ok (.ret (.bool (if e1=true then (if e2=true then false else b2) else b1)))) s):=
 .of_wp fun prog w A R s h=>by
  obtain ⟨hp,g,d,tk,os⟩:=s; obtain ⟨hl,hb,he1,LR,h2,h⟩:=h;have f2:=AutoSeq1.sub_tuple_tuple;wp_walk using wpAny_loadPart' hl,wpAny_loadPart' hb,wpAny_forIn_list _ (fun C0 b s'=>b.1=none/\s'=⟨hp,g,d,tk,os⟩/\(C0=[(x1,y1),(x2,y2)]\/(C0=[(x2,y2)]/\e1=true)\/(C0=[]/\e1=true/\e2=true))) _
  case turn=>
   rintro ⟨y,x⟩ C0 b s' ⟨K9,rfl,hz | ⟨hz,h1⟩ | ⟨hz,_⟩⟩
   ·cases hz
    refine wpAny_bind (he1 prog w _ _ ?_);cases ee:e1 with
    | true=>
     wp_walk
     exact ⟨rfl,rfl,.inr (.inl ⟨rfl,rfl⟩)⟩
    | false=>
     rw [ee,if_neg Qr] at h;have hri:=LR ee prog w;wp_walk using hri;exact ⟨_,rfl,by simpa using h⟩
   ·cases hz
    obtain ⟨he2,J0⟩:=h2 h1;rw [if_pos h1] at h;refine wpAny_bind (he2 prog w _ _ ?_);cases ee:e2 with
    | true=>
     wp_walk
     exact ⟨rfl,rfl,.inr (.inr ⟨rfl,h1,rfl⟩)⟩
    | false=>
     rw [ee,if_neg Qr] at h;have hri:=J0 ee prog w;wp_walk using hri;exact ⟨_,rfl,by simpa using h⟩
   ·cases hz
  case fin=>
   rintro ⟨b1',b2'⟩ s' ⟨K9,rfl,hz | ⟨hz,h1⟩ | ⟨hz,h1,h2'⟩⟩
   ·cases hz
   ·cases hz
   ·simp only at K9;subst K9;rw [if_pos h1,if_pos h2'] at h;wp_walk;exact ⟨_,rfl,by simpa [Builtin.Tuple.tupleCompareSizes] using h⟩
  case h=>
   exact ⟨rfl,rfl,.inl rfl⟩
end
theorem BU.tup2 {A:Around} {s:Shared} {l b:Addr} {x1 x2 y1 y2:Value} {e1 b1 e2 b2:Bool} (hl:IsTup s.heap l #[x1,x2]) (hb:IsTup s.heap b #[y1,y2]) (hu:A.units < cLine) (h1:SeqAt.EqAt A.in1 s x1 y1 e1) (l1:e1=false->BU A.in1 s x1 y1 b1)
  (h2:e1=true->SeqAt.EqAt A.in1 s x2 y2 e2/\(e2=false->BU A.in1 s x2 y2 b2)):BU A s (.ref l) (.ref b) (if e1=true then (if e2=true then false else b2) else b1):=fun prog w E Q h=>by
 obtain ⟨⟨cls,dd,data,sl⟩,ho,hc,n,hd⟩:=id hl;obtain ⟨⟨Qf,J3,data2,Le⟩,O3,Nt,n2,hd2⟩:=id hb;simp only at hc hd Nt hd2;subst hc hd Nt hd2;exact richCompare_meets_room (op:=.Lt) ⟨_,ho,rfl⟩ ⟨_,O3,rfl⟩ PySem.F.slot_tuple_lt PySem.F.entry_tuple_lt (PySem.F.args_tuple_lt_2 _ _) (IF l b x1 x2 y1 y2 n n2 dd J3 sl Le e1 b1 e2 b2)
  ⟨ho,O3,h1,l1,h2,show Value.bool _ ≠ Value.notImplemented/\Q (.bool _) s from ⟨(fun x=>nomatch x),h⟩⟩ hu
def Lf (p q:Int × Str):Bool:=if (p.1 == q.1)=true then (if (p.2 == q.2)=true then false else decide (p.2.cps.toList < q.2.cps.toList)) else decide (p.1 < q.1)
def Cn (h:Heap) (v:Value) (p:Int × Str):Prop:=∃ a t u,v=.ref a/\IsTup h a #[.int p.1 t,.str p.2 u]
theorem Cn.keep {h h':Heap} {v:Value} {p:Int × Str} (x:Cn h v p) (k:∀ b o,h.get? b=some o->h'.get? b=some o):Cn h' v p:=by
 obtain ⟨a,t,u,rfl,o,ho,r⟩:=x;exact ⟨a,t,u,rfl,o,k _ _ ho,r⟩
theorem Ig {A:Around} {s:Shared} {v w:Value} {p q:Int × Str} (hv:Cn s.heap v p) (hw:Cn s.heap w q) (hu:A.units < cLine):BU A s v w (Lf p q):=by
 obtain ⟨a,t,u,rfl,hl⟩:=hv;obtain ⟨b,t',u',rfl,hb⟩:=hw;exact BU.tup2 hl hb hu (SeqAt.EqAt.int_int _ _ _ _) (fun _=>BU.int _ _ _ _ _ _) fun _=>⟨SeqAt.EqAt.str_str _ _ _ _,fun _=>BU.str _ _ _ _ _ _⟩
theorem LW {A:Around} {s:Shared} {v w:Value} {p q:Int × Str} (hv:Cn s.heap v p) (hw:Cn s.heap w q) (hu:A.units < cLine):SeqAt.EqAt A s v w (decide (p=q)):=by
 obtain ⟨a,t,u,rfl,hl⟩:=hv;obtain ⟨b,t',u',rfl,hb⟩:=hw;by_cases hab:a=b
 ·subst hab;have e:p=q:=by
   obtain ⟨o,ho,hc,n,hd⟩:=hl;obtain ⟨o',Im,K8,n',M3⟩:=hb;rw [ho] at Im;cases Im
   rw [hd] at M3;injection M3 with e1 e2;have e3:=congrArg Sd e1;simp only [SE.injEq,Value.int.injEq,Value.str.injEq] at e3;exact Prod.ext e3.1.1 e3.2.1.1
  rw [decide_eq_true e];intro prog w E Q h;unfold eqBool;refine wpAny_holding ?_;exact wpAny_ite_split (fun _=>wpAny_bind (wpAny_rule (wpAny_pure h))) (fun hn=>absurd (by simp) hn)
 ·have key:=SeqAt.RcAt.tuples (A:=A) (s:=s) (e:=fun j=>if j=0 then p.1 == q.1 else p.2 == q.2) (show s.heap.IsTuple a #[.int p.1 t,.str p.2 u] from hl) (show s.heap.IsTuple b #[.int q.1 t',.str q.2 u'] from hb) hu (fun j h1 h2=>by
   match j,h1,h2 with
   | 0,_,_=>exact SeqAt.EqAt.int_int _ _ _ _
   | 1,_,_=>exact SeqAt.EqAt.str_str _ _ _ _
   | j + 2,h1,_=>exact absurd (show j + 2 < 2 from h1) (by lia))
  have e:((QO (min (#[Value.int p.1 t,.str p.2 u]:Array Value).size (#[Value.int q.1 t',.str q.2 u']:Array Value).size)).all (fun j=>if j=0 then p.1 == q.1 else p.2 == q.2) && (#[Value.int p.1 t,.str p.2 u]:Array Value).size == (#[Value.int q.1 t',.str q.2 u']:Array Value).size)=decide (p=q):=by
   show ((QO 2).all (fun j=>if j=0 then p.1 == q.1 else p.2 == q.2) && (2 == 2))=decide (p=q)
   have:(QO 2)=[0,1]:=rfl;rw [this];simp only [Sa,List.all_nil,SI,beq_self_eq_true];rw [Rz];simp [Prod.ext_iff]
  rw [e] at key;exact SeqAt.EqAt.of_refs hab key
def EY (h:Heap) (v:Value) (k:(Int × Str) × Str):Prop:=∃ a l u,v=.ref a/\IsTup h a #[.ref l,.str k.2 u]/\Cn h (.ref l) k.1
theorem EY.keep {h h':Heap} {v:Value} {p:(Int × Str) × Str} (x:EY h v p) (k:∀ b o,h.get? b=some o->h'.get? b=some o):EY h' v p:=by
 obtain ⟨a,l,u,rfl,⟨o,ho,r⟩,z⟩:=x;exact ⟨a,l,u,rfl,⟨o,k _ _ ho,r⟩,z.keep k⟩
def Mv (p q:(Int × Str) × Str):Bool:=if decide (p.1=q.1)=true then (if (p.2 == q.2)=true then false else decide (p.2.cps.toList < q.2.cps.toList)) else Lf p.1 q.1
theorem Nf {A:Around} {s:Shared} {v w:Value} {p q:(Int × Str) × Str} (hv:EY s.heap v p) (hw:EY s.heap w q) (hu:A.units + 1 < cLine):BU A s v w (Mv p q):=by
 obtain ⟨a,l,u,rfl,hl,hp⟩:=hv;obtain ⟨b,l',u',rfl,hb,hq⟩:=hw;exact BU.tup2 hl hb (by lia) (LW hp hq (by rw [PySem.Around.in1_units]; exact hu)) (fun _=>Ig hp hq (by rw [PySem.Around.in1_units]; exact hu)) fun _=>⟨SeqAt.EqAt.str_str _ _ _ _,fun _=>BU.str _ _ _ _ _ _⟩
def Ml (prog:Program) (w:World) (A:Around) (g0:Heap) (P:Nat->Value->Prop) (bt:Nat->Nat->Bool):Prop:=
 ∀ i j vi vj (s:Shared) (Q:Value->Shared->Prop) (E:Value->Shared->Prop),(∀ b o,g0.get? b=some o->s.heap.get? b=some o)->P i vi->P j vj->Q (.bool (bt i j)) s->wpAny (model prog w) A (richCompare .Lt vi vj) Q E s
section
variable {prog:Program} {w:World} {A:Around} {R:Result->Shared->Prop} {I:Addr} {fp wr:List Addr} {n:Nat} {P:Nat->Value->Prop} {St:Nat->Heap->Prop} {g0:Heap}
theorem IV (W:Walks prog w A.in1 I fp wr n P St) (bt:Nat->Nat->Bool) (cm:Ml prog w A.in1 g0 P bt) (S:Addr) (nS:S ∉ fp) (gw:∀ b o,g0.get? b=some o->b ∉ wr/\b ≠ S) :
  ∀ (m j:Nat) (s:Shared) (bv:Value) (c:Nat),n - (j + 1)=m->j + 1<=n->St (j + 1) s.heap->P (argBest bt j) bv->(∀ b o,g0.get? b=some o->s.heap.get? b=some o) ->
  s.heap.get? S=some { cls:=.type "list",dict:=none,data:=.seq #[bv,bv] c,slots:=#[] } ->
  (∀ v h2 tk,P (argBest bt (n - 1)) v->(∀ b o,b ∉ wr->b ≠ S->s.heap.get? b=some o->h2.get? b=some o)->R (.ok (.ret v)) { s with heap:=h2,toks:=tk }) ->
  codeAny (model prog w) A (.builtin "min.loop" ⟨[.ref I,.none,.ref S],[]⟩) R s:=by
 have Sw:S ∉ wr:=fun z=>nS (W.sub _ z)
 have nm:(toString "min" ++ toString ".loop":String)="min.loop":=by decide
 intro m;induction m with
 | zero=>
  intro j s bv c hm hj st pb g1 aS r;have jn:j + 1=n:=by lia
  refine codeAny_builtin F.entry_min_loop ?_;rw [Around.under_plainId F.plain_min_loop _];refine wpAny_bind (m:=seqItems? (.ref S)) (wpAny_seqItems aS rfl ?_);refine wpAny_bind (wpAny_tryCatch (W.done s _ _ (jn ▸ st) fun h2 tk k2=>?_));have M7:=k2 S _ Sw aS;refine wpAny_bind (m:=updateSeq S (fun _=>#[])) ?_;refine wpAny_updateSeq M7 rfl (wpAny_bind (wpAny_letGo (wpAny_pure ?_)));exact r bv _ tk (by rw [<-jn]; exact pb) fun b o bw bS e=>(QS _ _ (Ne.symm bS)).trans (k2 b o bw e)
 | succ m ih=>
  intro j s bv c hm hj st pb g1 aS r;have lt:j + 1 < n:=by lia
  refine codeAny_builtin F.entry_min_loop ?_;rw [Around.under_plainId F.plain_min_loop _];refine wpAny_bind (m:=seqItems? (.ref S)) (wpAny_seqItems aS rfl ?_);refine wpAny_bind (wpAny_tryCatch (W.item (j + 1) s _ _ lt st fun v h2 tk pv EZ k2=>?_));have M7:=k2 S _ Sw aS;have g2:∀ b o,g0.get? b=some o->h2.get? b=some o:=fun b o e=>k2 b o (gw b o e).1 (g1 b o e)
  show wpAny _ A.in1 (tryCatch (holding [v,v] (richCompare .Lt v bv >>= _)) _ >>= _) _ _ _
  refine wpAny_bind (wpAny_tryCatch (wpAny_holding (wpAny_bind (cm (j + 1) (argBest bt j) v bv _ _ _ g2 pv pb ?_))));refine wpAny_bind (wpAny_holding (wpAny_truthy_bool ?_));refine wpAny_bind (wpAny_letGo (wpAny_pure ?_));cases hb:bt (j + 1) (argBest bt j) with
  | true=>
   simp only [if_true];refine wpAny_bind ?_;refine wpAny_updateSeq M7 rfl (wpAny_bind (wpAny_letGo ?_));rw [nm];refine wpAny_pure ⟨plainId_quiet F.plain_min_loop _,ih (j + 1) _ v _ (by lia) lt (W.frame _ _ _ EZ fun b bf o e=>?_) (by simp only [argBest,hb,if_true]; exact pv) (fun b o e=>?_) (Si _ M7 rfl) fun v' h3 Ol Mr k3=>?_⟩
   ·exact (QS _ _ (fun z:S=b=>nS (by rw [z]; exact bf))).trans e
   ·exact (QS _ _ (Ne.symm (gw b o e).2)).trans (g2 b o e)
   ·exact r v' h3 Ol Mr fun b o bw bS e=>k3 b o bw bS ((QS _ _ (Ne.symm bS)).trans (k2 b o bw e))
  | false=>
   simp only [Rv,if_false];refine wpAny_bind (wpAny_letGo ?_);rw [nm];refine wpAny_pure ⟨plainId_quiet F.plain_min_loop _,ih (j + 1) _ bv c (by lia) lt EZ (by simp only [argBest,hb,Rv,if_false]; exact pb) g2 M7 fun v' h3 Ol Mr k3=>?_⟩;exact r v' h3 Ol Mr fun b o bw bS e=>k3 b o bw bS (k2 b o bw e)
theorem EC (W:Walks prog w A.in1 I fp wr n P St) (bt:Nat->Nat->Bool) (cm:Ml prog w A.in1 g0 P bt) (S:Addr) (nS:S ∉ fp) (gw:∀ b o,g0.get? b=some o->b ∉ wr/\b ≠ S) (hn:0 < n) {s:Shared} {c:Nat} (st:St 0 s.heap)
  (g1:∀ b o,g0.get? b=some o->s.heap.get? b=some o) (aS:s.heap.get? S=some { cls:=.type "list",dict:=none,data:=.seq #[] c,slots:=#[] })
  (r:∀ v h2 tk,P (argBest bt (n - 1)) v->(∀ b o,b ∉ wr->b ≠ S->s.heap.get? b=some o->h2.get? b=some o)->R (.ok (.ret v)) { s with heap:=h2,toks:=tk }) :
  codeAny (model prog w) A (.builtin "min.loop" ⟨[.ref I,.none,.ref S],[]⟩) R s:=by
 have Sw:S ∉ wr:=fun z=>nS (W.sub _ z)
 have nm:(toString "min" ++ toString ".loop":String)="min.loop":=by decide
 refine codeAny_builtin F.entry_min_loop ?_;rw [Around.under_plainId F.plain_min_loop _];refine wpAny_bind (m:=seqItems? (.ref S)) (wpAny_seqItems aS rfl ?_);refine wpAny_bind (wpAny_tryCatch (W.item 0 s _ _ hn st fun v h2 tk pv EZ k2=>?_));have M7:=k2 S _ Sw aS;refine wpAny_bind (m:=updateSeq S (fun _=>#[v,v])) ?_;refine wpAny_updateSeq M7 rfl ?_;rw [nm];refine wpAny_pure ⟨plainId_quiet F.plain_min_loop _,IV W bt cm S nS gw _ 0 _ v _ rfl hn (W.frame _ _ _ EZ fun b bf o e=>?_) pv (fun b o e=>?_) (Si _ M7 rfl) fun v' h3 Ol Mr k3=>?_⟩
 ·exact (QS _ _ (fun z:S=b=>nS (by rw [z]; exact bf))).trans e
 ·exact (QS _ _ (Ne.symm (gw b o e).2)).trans (k2 b o (gw b o e).1 (g1 b o e))
 ·exact r v' h3 Ol Mr fun b o bw bS e=>k3 b o bw bS ((QS _ _ (Ne.symm bS)).trans (k2 b o bw e))
end
section
variable {prog:Program} {w:World} {A:Around} {E:Value->Shared->Prop} {s:Shared}
theorem Fu {l:Addr} {vs:List Value} {bt:Nat->Nat->Bool} {Q:Value->Shared->Prop} (hh:A.handled=none) (hl:s.heap.IsList l vs.toArray) (hn:0 < vs.length) (cm:Ml prog w A.in1 s.heap (fun i v=>vs[i]? = some v) bt)
  (h:∀ v h2 tk,vs[argBest bt (vs.length - 1)]? = some v->(∀ b o,s.heap.get? b=some o->h2.get? b=some o)->Q v { s with heap:=h2,toks:=tk }):wpAny (model prog w) A (call (.builtin "min") [.ref l]) Q E s:=by
 have nm:(toString "min" ++ toString ".loop":String)="min.loop":=by decide
 have Bc:l < s.heap.objs.size:=by obtain ⟨o,ho,_⟩:=id hl; exact Qp ho
 refine call_function_tree F.kind_min F.plain_min F.entry_min (F.args_min1 _) ?_;refine wpAny_bind (wpAny_of_eq (show Builtin.Builtins.bindParams "min" ["key","default"] 0 ⟨[],[]⟩=pure [none,none] from rfl) ?_);refine wpAny_bind (wpAny_pure ?_);refine wpAny_bind (wpAny_pyIter_list hl ?_);refine wpAny_bind (wpAny_newObj_type ?_);rw [nm];have sz:(s.heap.push { cls:=.type "list_iterator",data:=.fields #[.ref l,.int 0 0] }).objs.size=s.heap.objs.size + 1:=QV ..;have W:=(Walks.list (prog:=prog) (w:=w) (A:=A.in1) hh s.heap.objs.size l (Qv Bc) vs.toArray).weaken (P':=fun i v=>vs[i]? = some v) (fun i v e=>by simpa using e);refine wpAny_pure ⟨plainId_quiet F.plain_min_loop _,EC (g0:=s.heap) W bt cm (s.heap.push { cls:=.type "list_iterator",data:=.fields #[.ref l,.int 0 0] }).objs.size (fun hm=>?_) (fun b o e=>⟨fun hm=>?_,fun z=>?_⟩) (by simpa using hn) ?_ (fun b o e=>Ql _ (Ql _ e)) (Q4 _ rfl) fun v h2 tk pv k2=>?_⟩
 ·rw [sz] at hm;rcases Qn.mp hm with z | hm
  ·exact absurd z (Nat.succ_ne_self _)
  ·rcases Qn.mp hm with z | hm
   ·exact absurd z (Rr (QK Bc))
   ·cases hm
 ·have:=Qp e;rw [Qs.mp hm] at this;exact absurd this (QL _)
 ·have:=Qp e;rw [z,sz] at this;exact absurd this (RB.mpr (QN _))
 ·exact ⟨⟨_,Ql _ (Q4 _ rfl),rfl,rfl⟩,(hl.push _).push _⟩
 ·refine h v h2 tk (by simpa using pv) fun b o e=>k2 b o (fun hm=>?_) (fun z=>?_) (Ql _ (Ql _ e))
  ·have:=Qp e;rw [Qs.mp hm] at this;exact absurd this (QL _)
  ·have:=Qp e;rw [z,sz] at this;exact absurd this (RB.mpr (QN _))
end
section
variable {prog:Program} {w:World} {A:Around} {E:Value->Shared->Prop} {s:Shared}
theorem Ku {a b:Value} {bt:Nat->Nat->Bool} {Q:Value->Shared->Prop} (hh:A.handled=none) (cm:Ml prog w A.in1 s.heap (fun i v=>[a,b][i]? = some v) bt)
  (h:∀ v h2 tk,[a,b][argBest bt 1]? = some v->(∀ c o,s.heap.get? c=some o->h2.get? c=some o)->Q v { s with heap:=h2,toks:=tk }):wpAny (model prog w) A (call (.builtin "min") [a,b]) Q E s:=by
 have nm:(toString "min" ++ toString ".loop":String)="min.loop":=by decide
 have hT:(s.heap.push { cls:=.type "tuple",data:=.seq #[a,b] }).IsTuple s.heap.objs.size #[a,b]:=⟨_,Q4 _ rfl,rfl,0,rfl⟩
 refine call_function_tree F.kind_min F.plain_min F.entry_min (F.args_min2 _ _) ?_;refine wpAny_bind (wpAny_of_eq (show Builtin.Builtins.bindParams "min" ["key","default"] 0 ⟨[],[]⟩=pure [none,none] from rfl) ?_);show wpAny _ A.in1 (newTuple [a,b] >>= _) _ _ s
 refine wpAny_bind (wpAny_newObj_type ?_);refine wpAny_bind (wpAny_pyIter_tuple hT ?_);refine wpAny_bind (wpAny_newObj_type ?_);rw [nm];have s1:(s.heap.push { cls:=.type "tuple",data:=.seq #[a,b] }).objs.size=s.heap.objs.size + 1:=QV ..;have s2:((s.heap.push { cls:=.type "tuple",data:=.seq #[a,b] }).push { cls:=.type "tuple_iterator",data:=.fields #[.ref s.heap.objs.size,.int 0 0] }).objs.size=s.heap.objs.size + 2:=by rw [QV,s1]
 have W:=(Walks.tuple (prog:=prog) (w:=w) (A:=A.in1) hh (s.heap.push { cls:=.type "tuple",data:=.seq #[a,b] }).objs.size s.heap.objs.size (by rw [s1]; exact Qv (QC _)) #[a,b]).weaken (P':=fun i v=>[a,b][i]? = some v) (fun i v e=>by simpa using e);refine wpAny_pure ⟨plainId_quiet F.plain_min_loop _,EC (g0:=s.heap) W bt cm ((s.heap.push { cls:=.type "tuple",data:=.seq #[a,b] }).push { cls:=.type "tuple_iterator",data:=.fields #[.ref s.heap.objs.size,.int 0 0] }).objs.size (fun hm=>?_) (fun b o e=>⟨fun hm=>?_,fun z=>?_⟩) (by simp) ?_ (fun b o e=>Ql _ (Ql _ (Ql _ e))) (Q4 _ rfl) fun v h2 tk pv k2=>?_⟩
 ·rw [s2] at hm;rcases Qn.mp hm with z | hm
  ·rw [s1] at z; exact absurd z (Rr (QC _))
  ·rcases Qn.mp hm with z | hm
   ·exact absurd z (Rr (QK (QC _)))
   ·cases hm
 ·have:=Qp e;rw [Qs.mp hm,s1] at this;exact absurd this (RB.mpr (QN _))
 ·have:=Qp e;rw [z,s2] at this;exact absurd this (RB.mpr (QE (QN _) (QN _)))
 ·exact ⟨⟨_,Ql _ (Q4 _ rfl),rfl,rfl⟩,(hT.push _).push _⟩
 ·refine h v h2 tk (by simpa using pv) fun b o e=>k2 b o (fun hm=>?_) (fun z=>?_) (Ql _ (Ql _ (Ql _ e)))
  ·have:=Qp e;rw [Qs.mp hm,s1] at this;exact absurd this (RB.mpr (QN _))
  ·have:=Qp e;rw [z,s2] at this;exact absurd this (RB.mpr (QE (QN _) (QN _)))
end
def F4 (H:Hp) (v:V) (p:Int × Str):Prop:=∃ t,v=.ref t/\H t=some (.tup [.int p.1,.str p.2])
def MA (H:Hp) (v:V) (k:(Int × Str) × Str):Prop:=∃ t t2,v=.ref t/\H t=some (.tup [.ref t2,.str k.2])/\F4 H (.ref t2) k.1
theorem F4.same {H H':Hp} {v:V} {p:Int × Str} (h:F4 H v p) (s:∀ b xs,H b=some (.tup xs)->H' b=some (.tup xs)):F4 H' v p:=let ⟨t,e,z⟩:=h; ⟨t,e,s _ _ z⟩
theorem MA.same {H H':Hp} {v:V} {p:(Int × Str) × Str} (h:MA H v p) (s:∀ b xs,H b=some (.tup xs)->H' b=some (.tup xs)):MA H' v p:=let ⟨t,t2,e,z,q⟩:=h; ⟨t,t2,e,s _ _ z,q.same s⟩
theorem F4.at {X:Cx} {pins:List (Addr × Obj)} {σ:St} {H:Hp} {s:Shared} {v:V} {u:Value} {p:Int × Str} (I:Ak X pins σ H s) (r:As v u) (h:F4 H v p):Cn s.heap u p:=by
 obtain ⟨t,rfl,ht⟩:=h;cases r
 obtain ⟨Ar,rv,pl,hz⟩:=I.tuple (BY.of ht);cases rv with
 | cons a1 b1=>
  cases b1 with
  | cons a2 b2=>
   cases b2
   obtain ⟨t1,rfl⟩:=a1;obtain ⟨t2,rfl⟩:=a2;exact ⟨t,t1,t2,rfl,pl⟩
theorem MA.at {X:Cx} {pins:List (Addr × Obj)} {σ:St} {H:Hp} {s:Shared} {v:V} {u:Value} {k:(Int × Str) × Str} (I:Ak X pins σ H s) (r:As v u) (h:MA H v k):EY s.heap u k:=by
 obtain ⟨t,l,rfl,ht,hp⟩:=h;cases r
 obtain ⟨Ar,rv,pl,hz⟩:=I.tuple (BY.of ht);cases rv with
 | cons a1 b1=>
  cases b1 with
  | cons a2 b2=>
   cases b2
   cases a1
   obtain ⟨t2,rfl⟩:=a2;exact ⟨t,l,t2,rfl,pl,hp.at I (show As (V.ref l) (Value.ref l) from rfl)⟩
def Cm (p q:Int × Str):Prop:=p.1 < q.1\/(p.1=q.1/\¬ q.2.cps.toList < p.2.cps.toList)
theorem Cm.refl (p:Int × Str):Cm p p:=.inr ⟨rfl,RD _⟩
theorem Cm.trans {p q r:Int × Str} (h1:Cm p q) (h2:Cm q r):Cm p r:=by
 rcases h1 with a | ⟨a,b⟩ <;> rcases h2 with c | ⟨c,d⟩
 ·exact .inl (by lia)
 ·exact .inl (by lia)
 ·exact .inl (by lia)
 ·exact .inr ⟨by lia,RE.mpr (List.le_trans (RE.mp b) (RE.mp d))⟩
theorem Cm.add {d d' l:Int} {s s':Str} (h:Cm (d,s) (d',s')):Cm (d + l,s) (d' + l,s'):=by
 rcases h with a | ⟨a,b⟩
 ·have a':d < d':=a;exact .inl (show d + l < d' + l by lia)
 ·have a':d=d':=a;exact .inr ⟨show d + l=d' + l by lia,b⟩
theorem Cm.up {d d':Int} {s:Str} (h:d<=d'):Cm (d,s) (d',s):=by
 by_cases e:d=d'
 ·exact .inr ⟨e,RD _⟩
 ·exact .inl (show d < d' by lia)
theorem Cm.fst {p q:Int × Str} (h:Cm p q):p.1<=q.1:=by
 rcases h with a | ⟨a,_⟩ <;> lia
theorem Ih {p q:Int × Str} (h:Lf p q=true):Cm p q:=by
 unfold Lf at h;by_cases e:(p.1 == q.1)=true
 ·have e':p.1=q.1:=by simpa using e
  rw [if_pos e] at h;by_cases e2:(p.2 == q.2)=true
  ·rw [if_pos e2] at h; cases h
  ·rw [if_neg e2] at h;exact .inr ⟨e',SJ (by simpa using h)⟩
 ·rw [if_neg e] at h;exact .inl (by simpa using h)
theorem Ii {p q:Int × Str} (h:Lf p q=false):Cm q p:=by
 unfold Lf at h;by_cases e:(p.1 == q.1)=true
 ·have e':p.1=q.1:=by simpa using e
  rw [if_pos e] at h;by_cases e2:(p.2 == q.2)=true
  ·have Pc:p.2=q.2:=by simpa using e2
   exact .inr ⟨e'.symm,by rw [Pc]; exact RD _⟩
  ·rw [if_neg e2] at h;exact .inr ⟨e'.symm,by simpa using h⟩
 ·rw [if_neg e] at h;have e':¬ p.1=q.1:=by simpa using e
  have:¬ p.1 < q.1:=by simpa using h
  exact .inl (by lia)
theorem LG {p q:(Int × Str) × Str} (h:Mv p q=true):Cm p.1 q.1:=by
 unfold Mv at h;by_cases e:decide (p.1=q.1)=true
 ·have:p.1=q.1:=by simpa using e
  rw [this]; exact Cm.refl _
 ·rw [if_neg e] at h;exact Ih h
theorem LH {p q:(Int × Str) × Str} (h:Mv p q=false):Cm q.1 p.1:=by
 unfold Mv at h;by_cases e:decide (p.1=q.1)=true
 ·have:p.1=q.1:=by simpa using e
  rw [this]; exact Cm.refl _
 ·rw [if_neg e] at h;exact Ii h
theorem Ef (bt:Nat->Nat->Bool) (num:Nat->Int × Str) (h1:∀ i j,bt i j=true->Cm (num i) (num j)) (h2:∀ i j,bt i j=false->Cm (num j) (num i)):∀ k,argBest bt k<=k/\∀ j,j<=k->Cm (num (argBest bt k)) (num j)
 | 0=>⟨Qo _,fun j hj=>by
  have:j=0:=by lia
  subst this; exact Cm.refl _⟩
 | k + 1=>by
  obtain ⟨a1,a2⟩:=Ef bt num h1 h2 k;simp only [argBest];cases hc:bt (k + 1) (argBest bt k) with
  | true=>
   simp only [if_true];refine ⟨Qo _,fun j hj=>?_⟩;by_cases K5:j<=k
   ·exact (h1 _ _ hc).trans (a2 j K5)
   ·have:j=k + 1:=by lia
    subst this; exact Cm.refl _
  | false=>
   simp only [Rv,if_false];refine ⟨RP a1,fun j hj=>?_⟩;by_cases K5:j<=k
   ·exact a2 j K5
   ·have:j=k + 1:=by lia
    subst this; exact h2 _ _ hc
theorem EV {X:Cx} (hc:X.calm=true) (hu:X.A.units + 64 < cLine):Bp X (.builtin "min") (fun xs H Q=>∃ (a:Addr) (vs:List V) (ks:List ((Int × Str) × Str)),xs=[.ref a]/\H a=some (.lst vs)/\vs.length=ks.length/\ks ≠ []/\(∀ (i:Nat) v k,vs[i]? = some v->ks[i]? = some k->MA H v k) /\
  ∀ v k,k ∈ ks->MA H v k->(∀ k' ∈ ks,Cm k.1 k'.1)->Q v H):=by
 intro pins s σ H xs us Q I r h;obtain ⟨a,vs,ks,rfl,ha,hl,hne,hk,q⟩:=h;obtain ⟨u,rfl,ru⟩:=Ce r;cases ru
 obtain ⟨Ar,rv,pl,hz⟩:=I.list (A6.of ha);have il:Ar.length=ks.length:=by rw [<-rv.length,hl]
 have pos:0 < ks.length:=RG.mpr hne;have kat:∀ (i:Nat) (v:Value),Ar[i]? = some v->∃ k,ks[i]? = some k/\EY s.heap v k/\∃ x,vs[i]? = some x/\As x v:=fun i v e=>by
  have hi:i < Ar.length:=(Qx.mp e).1;have e1:vs[i]? = some vs[i]:=Qi (by lia);have e2:ks[i]? = some ks[i]:=Qi (by lia);obtain ⟨v',e3,r3⟩:=rv.get e1;rw [e] at e3;cases e3
  exact ⟨_,e2,(hk i _ _ e1 e2).at I r3,_,e1,r3⟩
 refine Fu (bt:=fun i j=>Mv (ks.getD i default) (ks.getD j default)) (I.ok.hd hc) pl.isList (by lia) (fun i j vi vj s' Q' E' g hi hj hQ=>?_) fun v h2 tk hv k2=>?_
 ·obtain ⟨ki,e1,a1,_⟩:=kat i vi hi;obtain ⟨kj,e2,a2,_⟩:=kat j vj hj;have d1:ks.getD i default=ki:=by rw [Q6,e1]; rfl
  have d2:ks.getD j default=kj:=by rw [Q6,e2]; rfl
  dsimp only at hQ;rw [d1,d2] at hQ;exact Nf (a1.keep g) (a2.keep g) (by rw [PySem.Around.in1_units]; lia) _ _ _ _ hQ
 ·obtain ⟨k,e1,a1,x,e3,r3⟩:=kat _ v hv;obtain ⟨b1,b2⟩:=Ef (fun i j=>Mv (ks.getD i default) (ks.getD j default)) (fun i=>(ks.getD i default).1) (fun _ _=>LG) (fun _ _=>LH) (Ar.length - 1);refine ⟨x,H,I.kept k2,r3,q x k (Qm e1) (hk _ x k e3 e1) fun k' PN=>?_⟩;obtain ⟨j,hj,ej⟩:=Q5 PN;have:=b2 j (by lia);have d1:ks.getD (argBest (fun i j=>Mv (ks.getD i default) (ks.getD j default)) (Ar.length - 1)) default=k:=by rw [Q6,e1]; rfl
  have d2:ks.getD j default=k':=by rw [Q6,Qi hj,ej]; rfl
  rw [d1,d2] at this;exact this
theorem Fj {X:Cx} (hc:X.calm=true) (hu:X.A.units + 64 < cLine):Bp X (.builtin "min") (fun xs H Q=>∃ (x y:V) (p q:Int × Str),xs=[x,y]/\F4 H x p/\F4 H y q/\((Cm q p->Q y H)/\(Cm p q->Q x H))):=by
 intro pins s σ H xs us Q I r h;obtain ⟨x,y,p,q,rfl,hx,hy,q1,q2⟩:=h;obtain ⟨u,v,rfl,ru,rv⟩:=HI r;have pu:=hx.at I ru;have pv:=hy.at I rv;refine Ku (bt:=fun i j=>Lf ([p,q].getD i default) ([p,q].getD j default)) (I.ok.hd hc) (fun i j vi vj s' Q' E' g hi hj hQ=>?_) fun z h2 tk hz k2=>?_
 ·have at':∀ (i:Nat) (vi:Value),[u,v][i]? = some vi->Cn s.heap vi ([p,q].getD i default):=fun i vi e=>by
   match i,e with
   | 0,e=>cases e; exact pu
   | 1,e=>cases e; exact pv
   | i + 2,e=>cases e
  exact Ig ((at' i vi hi).keep g) ((at' j vj hj).keep g) (by rw [PySem.Around.in1_units]; lia) _ _ _ _ hQ
 ·have e:argBest (fun i j=>Lf ([p,q].getD i default) ([p,q].getD j default)) 1=if Lf q p=true then 1 else 0:=rfl
  rw [e] at hz;cases hl:Lf q p with
  | true=>
   rw [hl,if_pos rfl] at hz;cases hz
   exact ⟨y,H,I.kept k2,rv,q1 (Ih hl)⟩
  | false=>
   rw [hl,if_neg Qr] at hz;cases hz
   exact ⟨x,H,I.kept k2,ru,q2 (Ii hl)⟩
def AG (ws:List Az) (x y:Str) (l:Int):Prop:=∃ u ∈ ws,((u.1=x/\u.2.1=y)\/(u.1=y/\u.2.1=x))/\u.2.2=l
theorem AG.adj {ws:List Az} {x y:Str} {l:Int} (h:AG ws x y l):Gm ws x y:=let ⟨u,hu,e,_⟩:=h; ⟨u,hu,e⟩
theorem AG.symm {ws:List Az} {x y:Str} {l:Int} (h:AG ws x y l):AG ws y x l:=let ⟨u,hu,e,z⟩:=h; ⟨u,hu,e.symm,z⟩
inductive Bg (ws:List Az):Str->Str->Int->Prop
 | nil (x:Str):Bg ws x x 0
 | cons {x y z:Str} {l m:Int}:AG ws x y l->Bg ws y z m->Bg ws x z (l + m)
theorem Bg.app {ws:List Az} {x y z:Str} {m n:Int} (h:Bg ws x y m) (g:Bg ws y z n):Bg ws x z (m + n):=by
 induction h with
 | nil x=>rw [SQ]; exact g
 | cons e _ ih=>rw [SK]; exact .cons e (ih g)
theorem Bg.snoc {ws:List Az} {x y z:Str} {m l:Int} (h:Bg ws x y m) (e:AG ws y z l):Bg ws x z (m + l):=by
 have:=h.app (.cons e (.nil z));rwa [Sj] at this
theorem Bg.symm {ws:List Az} {x y:Str} {m:Int} (h:Bg ws x y m):Bg ws y x m:=by
 induction h with
 | nil x=>exact .nil x
 | @cons x y z l m e _ ih=>rw [Int.add_comm]; exact ih.snoc e.symm
theorem Bg.pos {ws:List Az} (hp:∀ u ∈ ws,1<=u.2.2) {x y:Str} {m:Int} (h:Bg ws x y m):0<=m:=by
 induction h with
 | nil x=>exact Ry _
 | cons e _ ih=>
  obtain ⟨u,hu,_,rfl⟩:=e;have:=hp u hu;lia
def HG (ws:List Az) (ss:List Str) (y:Str) (p:Int × Str):Prop:=(p.2 ∈ ss/\Bg ws p.2 y p.1)/\∀ s ∈ ss,∀ m,Bg ws s y m->Cm p (m,s)
structure Mk (ws:List Az) (ss:List Str) (S R:Str->Int × Str->Prop):Prop where
 near:∀ y p,S y p->HG ws ss y p
 reach:∀ y p,R y p->p.2 ∈ ss/\Bg ws p.2 y p.1
 relax:∀ x p y l,S x p->AG ws x y l->(∃ q,S y q)\/∃ q,R y q/\Cm q (p.1 + l,p.2)
 start:∀ s ∈ ss,(∃ q,S s q)\/∃ q,R s q/\Cm q (0,s)
theorem Mk.out {ws:List Az} {ss:List Str} {S R:Str->Int × Str->Prop} (h:Mk ws ss S R) (hp:∀ u ∈ ws,1<=u.2.2) {x z:Str} {m:Int} (g:Bg ws x z m) (hz:∀ q,¬ S z q):∀ p,S x p->∃ y q,R y q/\Cm q (p.1 + m,p.2):=by
 induction g with
 | nil x=>intro p hp'; exact absurd hp' (hz p)
 | @cons x y z l m e g ih=>
  intro p hx;rcases h.relax x p y l hx e with ⟨q,hq⟩ | ⟨q,hq,le⟩
  ·obtain ⟨y',q',h1,h2⟩:=ih hz q hq;refine ⟨y',q',h1,h2.trans ?_⟩;have n1:=(h.near y q hq).2 p.2 (h.near x p hx).1.1 (p.1 + l) ((h.near x p hx).1.2.snoc e);have:=n1.add (l:=m);rw [SK] at this;exact this
  ·exact ⟨y,q,hq,le.trans (Cm.up (by have:=g.pos hp; lia))⟩
theorem Mk.pick {ws:List Az} {ss:List Str} {S R:Str->Int × Str->Prop} (h:Mk ws ss S R) (hp:∀ u ∈ ws,1<=u.2.2) {y:Str} {p:Int × Str} (hy:R y p) (ny:∀ q,¬ S y q) (least:∀ z q,R z q->Cm p q):HG ws ss y p:=by
 refine ⟨h.reach y p hy,fun s hs m g=>?_⟩;rcases h.start s hs with ⟨q,hq⟩ | ⟨q,hq,le⟩
 ·obtain ⟨z,q',h1,h2⟩:=h.out hp g ny q hq;refine (least z q' h1).trans (h2.trans ?_);have n1:=(h.near s q hq).2 s hs 0 (.nil s);have:=(show Cm (q.1,q.2) (0,s) from n1).add (l:=m);rw [SQ] at this;exact this
 ·exact (least s q hq).trans (le.trans (Cm.up (g.pos hp)))
theorem Mk.done {ws:List Az} {ss:List Str} {S R:Str->Int × Str->Prop} (h:Mk ws ss S R) (hR:∀ y p,¬ R y p) {r:Str} (hss:ss ≠ []) {ps:List Str} (con:∀ T:Str->Prop,T r->(∀ x y,Gm ws x y->T x->T y)->∀ x ∈ ps,T x)
  (Qe:∀ T:Str->Prop,∀ x ∈ ps,T x->(∀ x y,Gm ws x y->T x->T y)->T r) (sub:∀ s ∈ ss,s ∈ ps):∀ x ∈ ps,∃ q,S x q:=by
 have cl:∀ x y,Gm ws x y->(∃ q,S x q)->∃ q,S y q:=fun x y ⟨u,hu,e⟩ ⟨q,hq⟩=>by
  rcases h.relax x q y u.2.2 hq ⟨u,hu,e,rfl⟩ with z | ⟨q',hq',_⟩
  ·exact z
  ·exact absurd hq' (hR _ _)
 obtain ⟨s,hs⟩:=RZ ss hss;have s0:∃ q,S s q:=by
  rcases h.start s hs with z | ⟨q,hq,_⟩
  ·exact z
  ·exact absurd hq (hR _ _)
 exact con (fun x=>∃ q,S x q) (Qe (fun x=>∃ q,S x q) s (sub s hs) s0 cl) cl
theorem FJ {a b:List (Str × V)} (h:sK a=sK b):a=b:=by
 unfold sK at h;exact Sx (fun x y z=>by
  simp only [Prod.mk.injEq,Sum.inr.injEq] at z;exact Prod.ext z.1 z.2) |>.mp h
theorem Ep {nv CA:List (Str × V)} {y:Str} {v:V} (e:Be (sK nv) (Sum.inr y:A5) v=sK CA):∀ z x,(z,x) ∈ CA ↔ (z=y/\x=v)\/(z ≠ y/\(z,x) ∈ nv):=by
 intro z x;by_cases h:y ∈ nv.map (·.1)
 ·have e2:Be (sK nv) (Sum.inr y:A5) v=sK (nv.map fun q=>if q.1=y then (q.1,v) else q):=by
   unfold Be;have:((sK nv).any fun kv=>decide (kv.1=(Sum.inr y:A5)))=true:=by rw [B3,DX,decide_eq_true h]
   rw [if_pos this];unfold sK;rw [Rc,Rc];refine Rk fun q _=>?_
   by_cases e:q.1=y
   ·simp [e]
   ·have e':¬ (Sum.inr q.1:A5)=Sum.inr y:=fun z=>e (Sum.inr.inj z)
    simp [e,e']
  rw [e2] at e;rw [<-FJ e,Q0];constructor
  ·rintro ⟨q,hq,e⟩;by_cases eq:q.1=y
   ·rw [if_pos eq] at e;have e1:q.1=z:=congrArg Prod.fst e;have e3:v=x:=congrArg Prod.snd e;exact .inl ⟨by rw [<-e1,eq],e3.symm⟩
   ·rw [if_neg eq] at e;refine .inr ⟨?_,by rw [<-e]; exact hq⟩;rw [show z=q.1 from (congrArg Prod.fst e).symm]; exact eq
  ·rintro (⟨rfl,rfl⟩ | ⟨h1,h2⟩)
   ·obtain ⟨q,hq,e1⟩:=Q0.mp h;have NA:q.1=z:=e1;exact ⟨q,hq,by rw [if_pos NA,NA]⟩
   ·exact ⟨(z,x),h2,by rw [if_neg h1]⟩
 ·rw [Cz h] at e;rw [<-FJ e,QA];constructor
  ·rintro (h1 | h1)
   ·refine .inr ⟨?_,h1⟩;rintro rfl;exact h (Q0.mpr ⟨_,h1,rfl⟩)
   ·simp only [Qs,Prod.mk.injEq] at h1;exact .inl h1
  ·rintro (⟨rfl,rfl⟩ | ⟨_,h2⟩)
   ·exact .inr (by simp)
   ·exact .inl h2
theorem Lr (nv:List (Str × V)) (y:Str):EN (sK nv) (Sum.inr y:A5)=sK (nv.filter fun q=>decide (q.1 ≠ y)):=by
 unfold EN sK;rw [List.filter_map];congr 1;refine List.filter_congr fun q _=>?_
 by_cases e:q.1=y
 ·simp [e]
 ·have e':¬ (Sum.inr q.1:A5)=Sum.inr y:=fun z=>e (Sum.inr.inj z)
  simp [e,e']
def La (H:Hp) (ps:List Str) (ds:List Addr) (Ed:Str->Str->Int->Prop):Prop:=∀ (i:Nat) (p:Str) (d:Addr) (nv:List (Str × V)),ps[i]? = some p->ds[i]? = some d->Rd H d (.dK (sK nv))->∀ y v,(y,v) ∈ nv->∃ l,v=.int l/\Ed p y l
theorem Rd.inj {H:Hp} {d:Addr} {a b:List (Str × V)} (h:Rd H d (.dK (sK a))) (g:Rd H d (.dK (sK b))):a=b:=by
 rcases h with h | ⟨o,h⟩ <;> rcases g with g | ⟨o',g⟩ <;> have e:=QB.inj (h.symm.trans g)
 ·injection e with e; exact FJ e
 ·exact nomatch e
 ·exact nomatch e
 ·injection e with _ e;injection e with e; exact FJ e
theorem La.put {H:Hp} {ps:List Str} {ds:List Addr} {Ed Ed':Str->Str->Int->Prop} (h:La H ps ds Ed) (hn:ps.Nodup) (dn:ds.Nodup) {i:Nat} {p y:Str} {d:Addr} {l:Int} (e1:ps[i]? = some p) (e2:ds[i]? = some d) {nv CA:List (Str × V)} (hd:H d=some (.dK (sK nv)))
  (ep:Be (sK nv) (Sum.inr y:A5) (.int l)=sK CA) (mono:∀ a b m,Ed a b m->Ed' a b m) (new:Ed' p y l):La (upd H d (.dK (sK CA))) ps ds Ed':=by
 intro j q c nw f1 f2 hr z v hz;by_cases hc:c=d
 ·subst hc;have ij:i=j:=E9 dn e2 f2;subst ij;rw [e1] at f1; cases f1;have:nw=CA:=Rd.inj hr (.inl Ab);subst this;rcases (Ep ep z v).mp hz with ⟨rfl,rfl⟩ | ⟨_,Jz⟩
  ·exact ⟨l,rfl,new⟩
  ·obtain ⟨l',e,ed⟩:=h i _ c nv e1 e2 (.inl hd) z v Jz;exact ⟨l',e,mono _ _ _ ed⟩
 ·have hr':Rd H c (.dK (sK nw)):=by
   rcases hr with g | ⟨o,g⟩
   ·exact .inl (by rw [Af hc] at g; exact g)
   ·exact .inr ⟨o,by rw [Af hc] at g; exact g⟩
  obtain ⟨l',e,ed⟩:=h j q c nw f1 f2 hr' z v hz;exact ⟨l',e,mono _ _ _ ed⟩
def Hc (K:Qj):Sp:=fun vs H Q _=>∃ (q:Addr) (ps:List Str) (ws:List Az) (r:Str),vs=[.ref q]/\Eg H q ps ws r /\
 ∀ (H':Hp) (B:Addr) (ds:List Addr),Aw H H'->NB H' B ps ds (Gm ws) 128->La H' ps ds (AG ws)->H B=none->(∀ d ∈ ds,H d=none)->Q (.ref B) H'
theorem PI.or {X:Cx} {tg l:Expr} {w1 w2:TI} (h1:PI X tg l w1) (h2:PI X tg l w2):PI X tg l (fun σ H R=>w1 σ H R\/w2 σ H R):=by
 intro pins s σ H R I h;rcases h with h | h
 ·exact h1 (pins:=pins) s σ H R I h
 ·exact h2 (pins:=pins) s σ H R I h
def HE (H:Hp) (nv:List (Str × V)) (S:Str->Int × Str->Prop):Prop:=(nv.map (·.1)).Nodup/\(∀ y v,(y,v) ∈ nv->∃ p,F4 H v p/\S y p)/\∀ y p,S y p->∃ v,(y,v) ∈ nv/\F4 H v p
def JN (K:Qj):Sp:=fun vs H Q _=>∃ (q st:Addr) (ps ss:List Str) (ws:List Az) (r:Str),vs=[.ref q,.ref st]/\Eg H q ps ws r/\(∀ u ∈ ws,1<=u.2.2)/\(∀ x y l l',AG ws x y l->AG ws x y l'->l=l')/\(H st=some (.lst (ss.map V.str))\/H st=some (.tup (ss.map V.str)))/\ss ≠ []/\ss.Nodup/\(∀ s ∈ ss,s ∈ ps) /\
 ∀ (H':Hp) (B:Addr) (nv:List (Str × V)),Aw H H'->H B=none->H' B=some (.dK (sK nv))->(nv.map (·.1)).Nodup->(∀ x,x ∈ nv.map (·.1) ↔ x ∈ ps)->(∀ y v,(y,v) ∈ nv->∃ p,F4 H' v p/\HG ws ss y p)->Q (.ref B) H'
theorem D8 {nv:List (Str × V)} {y:Str} {v:V} (h:AX (sK nv) (Sum.inr y:A5)=some v):(y,v) ∈ nv:=by
 unfold AX at h;cases e:(sK nv).find? (fun kv=>decide (kv.1=(Sum.inr y:A5))) with
 | none=>rw [e] at h; cases h
 | some kv=>
  rw [e] at h;have h1:=List.find?_some e;have h2:=List.mem_of_find?_eq_some e;obtain ⟨q,hq,rfl⟩:=Q0.mp h2;have e1:q.1=y:=by
   have:(Sum.inr q.1:A5)=Sum.inr y:=by simpa using h1
   exact Sum.inr.inj this
  have e2:q.2=v:=QB.inj h;rw [<-e1,<-e2];exact hq
theorem Jo {ws:List Az} {i:Nat} {a b:Str} {m:Int} (h:AG (ws.take i) a b m):AG (ws.take (i + 1)) a b m:=by
 obtain ⟨u,hu,e⟩:=h;rw [QJ];exact ⟨u,QD _ hu,e⟩
theorem GF {ws:List Az} {i:Nat} {u:Az} (h:ws[i]? = some u):AG (ws.take (i + 1)) u.1 u.2.1 u.2.2:=by
 rw [QJ,h];exact ⟨u,Qq _ (by simp),.inl ⟨rfl,rfl⟩,rfl⟩
theorem F4.fn {H:Hp} {v:V} {p q:Int × Str} (h:F4 H v p) (g:F4 H v q):p=q:=by
 obtain ⟨t,rfl,e⟩:=h;obtain ⟨t',e',g⟩:=g;have:t=t':=by injection e'
 subst this;have z:=QB.inj (e.symm.trans g);injection z with z;simp only [SE.injEq,V.int.injEq,V.str.injEq] at z;exact Prod.ext z.1 z.2.1
theorem NR.same {H H':Hp} {B:Addr} {ps:List Str} {ds:List Addr} {P:Str->Str->Prop} (h:NR H B ps ds P) (s:Aw H H'):NR H' B ps ds P:=
 ⟨s _ _ h.top,h.len,h.nd,h.nB,fun i p d e1 e2=>let ⟨nv,a1,a3⟩:=h.inner i p d e1 e2
  ⟨nv,(by rcases a1 with a | ⟨o,a⟩; exact .inl (s _ _ a); exact .inr ⟨o,s _ _ a⟩),a3⟩⟩
theorem La.of {H H':Hp} {B:Addr} {ps:List Str} {ds:List Addr} {P:Str->Str->Prop} {Ed:Str->Str->Int->Prop} (h:La H ps ds Ed) (nr:NR H B ps ds P) (k:∀ d ∈ ds,∀ nv:List (Str × V),Rd H d (.dK (sK nv))->Rd H' d (.dK (sK nv))):La H' ps ds Ed:=by
 intro i p d nv e1 e2 hr y v hy;obtain ⟨nw,a1,_⟩:=nr.inner i p d e1 e2;have:=Rd.inj hr (k d (Qm e2) nw a1);subst this;exact h i p d nv e1 e2 a1 y v hy
theorem HE.same {H H':Hp} {nv:List (Str × V)} {S:Str->Int × Str->Prop} (h:HE H nv S) (s:∀ b xs,H b=some (.tup xs)->H' b=some (.tup xs)):HE H' nv S:=
 ⟨h.1,fun y v hv=>let ⟨p,a,b⟩:=h.2.1 y v hv; ⟨p,a.same s,b⟩,fun y p hp=>let ⟨v,a,b⟩:=h.2.2 y p hp; ⟨v,a,b.same s⟩⟩
theorem HE.fn {H:Hp} {nv:List (Str × V)} {S:Str->Int × Str->Prop} (h:HE H nv S) {y:Str} {p q:Int × Str} (hp:S y p) (hq:S y q):p=q:=by
 obtain ⟨v,a,b⟩:=h.2.2 y p hp;obtain ⟨w,c,d⟩:=h.2.2 y q hq;have:=Gp h.1 a c;subst this;exact b.fn d
theorem HE.put {H:Hp} {nv CA:List (Str × V)} {S:Str->Int × Str->Prop} {y:Str} {v:V} {p:Int × Str} (h:HE H nv S) (e:Be (sK nv) (Sum.inr y:A5) v=sK CA) (hv:F4 H v p):HE H CA (fun z q=>(z=y/\q=p)\/(z ≠ y/\S z q)):=by
 refine ⟨Lq e h.1,fun z x hz=>?_,fun z q hq=>?_⟩
 ·rcases (Ep e z x).mp hz with ⟨rfl,rfl⟩ | ⟨n,Jz⟩
  ·exact ⟨p,hv,.inl ⟨rfl,rfl⟩⟩
  ·obtain ⟨q,a,b⟩:=h.2.1 z x Jz;exact ⟨q,a,.inr ⟨n,b⟩⟩
 ·rcases hq with ⟨rfl,rfl⟩ | ⟨n,hq⟩
  ·exact ⟨v,(Ep e _ _).mpr (.inl ⟨rfl,rfl⟩),hv⟩
  ·obtain ⟨x,a,b⟩:=h.2.2 z q hq;exact ⟨x,(Ep e _ _).mpr (.inr ⟨n,a⟩),b⟩
theorem HE.drop {H:Hp} {nv:List (Str × V)} {S:Str->Int × Str->Prop} (h:HE H nv S) (y:Str):HE H (nv.filter fun q=>decide (q.1 ≠ y)) (fun z q=>z ≠ y/\S z q):=by
 refine ⟨DF h.1 _,fun z x hz=>?_,fun z q hq=>?_⟩
 ·obtain ⟨a,b⟩:=QQ.mp hz;obtain ⟨q,c,d⟩:=h.2.1 z x a;exact ⟨q,c,by simpa using b,d⟩
 ·obtain ⟨n,hq⟩:=hq;obtain ⟨x,a,b⟩:=h.2.2 z q hq;exact ⟨x,QQ.mpr ⟨a,by simpa using n⟩,b⟩
structure NI (H H2:Hp) (ps:List Str) (ws:List Az) (B RA SA:Addr) (ds:List Addr) (nvR nvS:List (Str × V)) (S R:Str->Int × Str->Prop):Prop where
 same:Aw H H2
 nr:NR H2 B ps ds (Gm ws)
 nbv:La H2 ps ds (AG ws)
 dR:H2 RA=some (.dK (sK nvR))
 dS:H2 SA=some (.dK (sK nvS))
 pR:HE H2 nvR R
 pS:HE H2 nvS S
 subR:∀ y ∈ nvR.map (·.1),y ∈ ps
 subS:∀ y ∈ nvS.map (·.1),y ∈ ps
section
variable {H H2 H3:Hp} {ps:List Str} {ws:List Az} {B RA SA:Addr} {ds:List Addr} {nvR nvS:List (Str × V)} {S R:Str->Int × Str->Prop}
theorem NI.grow (h:NI H H2 ps ws B RA SA ds nvR nvS S R) (s:Aw H2 H3):NI H H3 ps ws B RA SA ds nvR nvS S R:=
 ⟨h.same.trans s,h.nr.same s,h.nbv.of h.nr fun d _ nv z=>by rcases z with a | ⟨o,a⟩; exact .inl (s _ _ a); exact .inr ⟨o,s _ _ a⟩,s _ _ h.dR,s _ _ h.dS,h.pR.same fun b xs z=>s _ _ z,h.pS.same fun b xs z=>s _ _ z,h.subR,h.subS⟩
theorem NI.lenS (h:NI H H2 ps ws B RA SA ds nvR nvS S R):nvS.length<=ps.length:=by
 have:=AE h.pS.1 h.subS;rwa [Qk] at this
theorem NI.lenR (h:NI H H2 ps ws B RA SA ds nvR nvS S R):nvR.length<=ps.length:=by
 have:=AE h.pR.1 h.subR;rwa [Qk] at this
theorem NI.inS (h:NI H H2 ps ws B RA SA ds nvR nvS S R) {y:Str}:y ∈ nvS.map (·.1) ↔ ∃ q,S y q:=by
 constructor
 ·intro hy;obtain ⟨⟨z,v⟩,a,b⟩:=Q0.mp hy;have b':z=y:=b;subst b';obtain ⟨p,_,c⟩:=h.pS.2.1 z v a;exact ⟨p,c⟩
 ·rintro ⟨q,hq⟩;obtain ⟨v,a,_⟩:=h.pS.2.2 y q hq;exact Q0.mpr ⟨_,a,rfl⟩
theorem NI.inR (h:NI H H2 ps ws B RA SA ds nvR nvS S R) {y:Str}:y ∈ nvR.map (·.1) ↔ ∃ q,R y q:=by
 constructor
 ·intro hy;obtain ⟨⟨z,v⟩,a,b⟩:=Q0.mp hy;have b':z=y:=b;subst b';obtain ⟨p,_,c⟩:=h.pR.2.1 z v a;exact ⟨p,c⟩
 ·rintro ⟨q,hq⟩;obtain ⟨v,a,_⟩:=h.pR.2.2 y q hq;exact Q0.mpr ⟨_,a,rfl⟩
theorem NI.setR (h:NI H H2 ps ws B RA SA ds nvR nvS S R) (aR:RA ∉ ds/\RA ≠ B/\RA ≠ SA/\H RA=none) {CA:List (Str × V)} {R':Str->Int × Str->Prop} (p':HE H2 CA R') (sub:∀ y ∈ CA.map (·.1),y ∈ ps):NI H (upd H2 RA (.dK (sK CA))) ps ws B RA SA ds CA nvS S R':=by
 have tu:∀ b xs,H2 b=some (.tup xs)->(upd H2 RA (.dK (sK CA))) b=some (.tup xs):=fun b xs z=>by
  rw [Af (Bn z h.dR (by intro z; cases z))]; exact z
 exact ⟨fun b o z=>by rw [Af (Ai z aR.2.2.2)]; exact h.same _ _ z,h.nr.other aR.1 aR.2.1,h.nbv.of h.nr fun d hd nv z=>z.ne (fun e=>aR.1 (by rw [<-e]; exact hd)),Ab,by rw [Af (Ne.symm aR.2.2.1)]; exact h.dS,p'.same tu,h.pS.same tu,sub,h.subS⟩
theorem NI.setS (h:NI H H2 ps ws B RA SA ds nvR nvS S R) (aS:SA ∉ ds/\SA ≠ B/\SA ≠ RA/\H SA=none) {CA:List (Str × V)} {S':Str->Int × Str->Prop} (p':HE H2 CA S') (sub:∀ y ∈ CA.map (·.1),y ∈ ps):NI H (upd H2 SA (.dK (sK CA))) ps ws B RA SA ds nvR CA S' R:=by
 have tu:∀ b xs,H2 b=some (.tup xs)->(upd H2 SA (.dK (sK CA))) b=some (.tup xs):=fun b xs z=>by
  rw [Af (Bn z h.dS (by intro z; cases z))]; exact z
 exact ⟨fun b o z=>by rw [Af (Ai z aS.2.2.2)]; exact h.same _ _ z,h.nr.other aS.1 aS.2.1,h.nbv.of h.nr fun d hd nv z=>z.ne (fun e=>aS.1 (by rw [<-e]; exact hd)),by rw [Af (Ne.symm aS.2.2.1)]; exact h.dR,Ab,h.pR.same tu,p'.same tu,h.subR,sub⟩
theorem NI.frz (h:NI H H2 ps ws B RA SA ds nvR nvS S R) (aR:RA ∉ ds) (aS:SA ∉ ds) (fr:∀ d ∈ ds,H d=none) {i:Nat} {p:Str} {d:Addr} (e1:ps[i]? = some p) (e2:ds[i]? = some d) {nv:List (Str × V)} {o:Obj} (f:C7 H2 d (sK nv) o H3) (hP:∀ y,y ∈ nv.map (·.1) ↔ Gm ws p y):NI H H3 ps ws B RA SA ds nvR nvS S R:=by
 have dm:d ∈ ds:=Qm e2;have tu:∀ b xs,H2 b=some (.tup xs)->H3 b=some (.tup xs):=fun b xs z=>by
  rw [f.ne (by
   rintro rfl;rcases f with ⟨g,_⟩ | ⟨g,_⟩ <;> (rw [z] at g; cases g))]
  exact z
 refine ⟨fun b u z=>by rw [f.ne (Ai z (fr d dm))]; exact h.same _ _ z,h.nr.freeze e1 e2 f hP,h.nbv.of h.nr fun c hc nw z=>?_,by rw [f.ne (fun z=>aR (by rw [z]; exact dm))]; exact h.dR,by rw [f.ne (fun z=>aS (by rw [z]; exact dm))]; exact h.dS,h.pR.same tu,h.pS.same tu,h.subR,h.subS⟩;by_cases hcd:c=d
 ·subst hcd;rcases f with ⟨g,e⟩ | ⟨g,e⟩
  ·have:=Rd.inj z (.inl g);subst this;exact .inr ⟨o,by rw [e]; exact Ab⟩
  ·rw [e]; exact z
 ·exact z.fz f hcd
end
section
variable {prog:Program} {w:World} {A:Around} {R:Result->Shared->Prop} {g0:Heap} {D it l:Addr} {vs:List Value} {ps:List (Str × V)}
end
section
variable {prog:Program} {w:World} {A:Around} {E:Value->Shared->Prop} {s:Shared}
end
theorem JS:∀ {ws:List Az},(ws.Pairwise fun u v=>¬ Ei u v)->∀ {u v:Az},u ∈ ws->v ∈ ws->Ei u v->u=v
 | [],_,u,v,hu,_,_=>nomatch hu
 | a :: ws,h,u,v,hu,hv,al=>by
  obtain ⟨h1,h2⟩:=Sy.mp h;rcases Qn.mp hu with e1 | OL
  ·rcases Qn.mp hv with e2 | P7
   ·rw [e1,e2]
   ·exact absurd (by rw [<-e1]; exact al) (h1 v P7)
  ·rcases Qn.mp hv with e2 | P7
   ·refine absurd ?_ (h1 u OL);rw [<-e2];rcases al with ⟨a1,a2⟩ | ⟨a1,a2⟩
    ·exact .inl ⟨a1.symm,a2.symm⟩
    ·exact .inr ⟨a2.symm,a1.symm⟩
   ·exact JS h2 OL P7 al
theorem DJ {ws:List Az} (h:ws.Pairwise fun u v=>¬ Ei u v) {x y:Str} {l l':Int} (e:AG ws x y l) (e':AG ws x y l'):l=l':=by
 obtain ⟨u,hu,a,rfl⟩:=e;obtain ⟨v,hv,b,rfl⟩:=e';have:u=v:=JS h hu hv (by
  rcases a with ⟨a1,a2⟩ | ⟨a1,a2⟩ <;> rcases b with ⟨b1,b2⟩ | ⟨b1,b2⟩
  ·exact .inl ⟨a1.trans b1.symm,a2.trans b2.symm⟩
  ·exact .inr ⟨a1.trans b2.symm,a2.trans b1.symm⟩
  ·exact .inr ⟨a1.trans b2.symm,a2.trans b1.symm⟩
  ·exact .inl ⟨a1.trans b1.symm,a2.trans b2.symm⟩)
 rw [this]
theorem Jn {ws C8:List Az} (p:C8.Perm (ws.map DE)) (x y:Str) (l:Int):AG C8 x y l ↔ AG ws x y l:=by
 constructor
 ·rintro ⟨u,hu,h,e⟩;obtain ⟨v,hv,rfl⟩:=Q0.mp (p.mem_iff.mp hu);refine ⟨v,hv,?_,e⟩;rcases Cp v with ⟨e1,e2⟩ | ⟨e1,e2⟩
  ·rw [e1,e2] at h; exact h
  ·rw [e1,e2] at h;rcases h with ⟨a,b⟩ | ⟨a,b⟩
   ·exact .inr ⟨b,a⟩
   ·exact .inl ⟨b,a⟩
 ·rintro ⟨v,hv,h,e⟩;refine ⟨DE v,p.mem_iff.mpr (Q0.mpr ⟨v,hv,rfl⟩),?_,e⟩;rcases Cp v with ⟨e1,e2⟩ | ⟨e1,e2⟩
  ·rw [e1,e2]; exact h
  ·rw [e1,e2];rcases h with ⟨a,b⟩ | ⟨a,b⟩
   ·exact .inr ⟨b,a⟩
   ·exact .inl ⟨b,a⟩
theorem Dm {ws C8:List Az} (h:∀ x y l,AG C8 x y l ↔ AG ws x y l) {x y:Str} {m:Int}:Bg C8 x y m ↔ Bg ws x y m:=by
 constructor
 ·intro g;induction g with
  | nil x=>exact .nil x
  | cons e _ ih=>exact .cons ((h _ _ _).mp e) ih
 ·intro g;induction g with
  | nil x=>exact .nil x
  | cons e _ ih=>exact .cons ((h _ _ _).mpr e) ih
def F7 (ws:List Az) (x y:Str) (n:Int):Prop:=Bg ws x y n/\∀ m,Bg ws x y m->n<=m
theorem HG.dst {ws:List Az} {x y:Str} {p:Int × Str} (h:HG ws [x] y p):p.2=x/\F7 ws x y p.1:=by
 have e:p.2=x:=by simpa using h.1.1
 refine ⟨e,by rw [<-e]; exact h.1.2,fun m g=>(h.2 x (by simp) m g).fst⟩
theorem F7.uniq {ws:List Az} {x y:Str} {n m:Int} (h:F7 ws x y n) (g:F7 ws x y m):n=m:=Int.le_antisymm (h.2 m g.1) (g.2 n h.1)
theorem F7.symm {ws:List Az} {x y:Str} {n:Int} (h:F7 ws x y n):F7 ws y x n:=⟨h.1.symm,fun m g=>h.2 m g.symm⟩
theorem F7.iff {ws C8:List Az} (h:∀ x y l,AG C8 x y l ↔ AG ws x y l) {x y:Str} {n:Int}:F7 C8 x y n ↔ F7 ws x y n:=
 ⟨fun ⟨a,b⟩=>⟨(Dm h).mp a,fun m g=>b m ((Dm h).mpr g)⟩,fun ⟨a,b⟩=>⟨(Dm h).mpr a,fun m g=>b m ((Dm h).mp g)⟩⟩
inductive WI (ws:List Az) (I:Str->Prop):Str->Str->Int->Prop
 | edge {x y:Str} {l:Int}:AG ws x y l->WI ws I x y l
 | cons {x y z:Str} {l m:Int}:AG ws x y l->I y->WI ws I y z m->WI ws I x z (l + m)
theorem WI.pos {ws:List Az} (hp:∀ u ∈ ws,1<=u.2.2) {I:Str->Prop} {x y:Str} {m:Int} (h:WI ws I x y m):0<=m:=by
 induction h with
 | edge e=>obtain ⟨u,hu,_,rfl⟩:=e; have:=hp u hu; lia
 | cons e _ _ ih=>obtain ⟨u,hu,_,rfl⟩:=e; have:=hp u hu; lia
theorem WI.ends {ws:List Az} {xs:List Str} (he:∀ u ∈ ws,u.1 ∈ xs/\u.2.1 ∈ xs) {x y:Str} {l:Int} (e:AG ws x y l):x ∈ xs/\y ∈ xs:=by
 obtain ⟨u,hu,h,_⟩:=e;obtain ⟨a,b⟩:=he u hu;rcases h with ⟨rfl,rfl⟩ | ⟨rfl,rfl⟩
 ·exact ⟨a,b⟩
 ·exact ⟨b,a⟩
theorem WI.split {ws:List Az} (hp:∀ u ∈ ws,1<=u.2.2) {I J:Str->Prop} {k:Str} (hJ:∀ z,J z->I z\/z=k) {x y:Str} {m:Int} (h:WI ws J x y m):WI ws I x y m\/∃ m1 m2,WI ws I x k m1/\WI ws I k y m2/\m1 + m2<=m:=by
 induction h with
 | edge e=>exact .inl (.edge e)
 | @cons x a y l m e ha g ih=>
  by_cases hk:a=k
  ·subst hk;rcases ih with h | ⟨m1,m2,h1,h2,h3⟩
   ·exact .inr ⟨l,m,.edge e,h,Ry _⟩
   ·have:=h1.pos hp;exact .inr ⟨l,m2,.edge e,h2,by lia⟩
  ·have hI:I a:=(hJ a ha).resolve_right hk;rcases ih with h | ⟨m1,m2,h1,h2,h3⟩
   ·exact .inl (.cons e hI h)
   ·exact .inr ⟨l + m1,m2,.cons e hI h1,h2,by lia⟩
theorem Bg.wi {ws:List Az} {xs:List Str} (he:∀ u ∈ ws,u.1 ∈ xs/\u.2.1 ∈ xs) {x y:Str} {m:Int} (h:Bg ws x y m):(x=y/\m=0)\/WI ws (· ∈ xs) x y m:=by
 induction h with
 | nil x=>exact .inl ⟨rfl,rfl⟩
 | @cons x a y l m e g ih=>
  rcases ih with ⟨rfl,rfl⟩ | h
  ·exact .inr (by rw [Sj]; exact .edge e)
  ·exact .inr (.cons e (WI.ends he e).2 h)
structure FW (ws:List Az) (xs:List Str) (t:Nat) (M:Str->Str->Option Int):Prop where
 sound:∀ x y n,M x y=some n->Bg ws x y n
 comp:∀ x y m,WI ws (· ∈ xs.take t) x y m->∃ n,M x y=some n/\n<=m
 diag:∀ x ∈ xs,∃ n,M x x=some n/\n<=0
def D3 (M0 M:Str->Str->Option Int):Prop:=∀ x y n,M0 x y=some n->∃ n',M x y=some n'/\n'<=n
theorem D3.refl (M:Str->Str->Option Int):D3 M M:=fun _ _ n h=>⟨n,h,Ry _⟩
theorem D3.trans {M0 M1 M2:Str->Str->Option Int} (h:D3 M0 M1) (g:D3 M1 M2):D3 M0 M2:=fun x y n e=>by
 obtain ⟨n1,e1,l1⟩:=h x y n e;obtain ⟨n2,e2,l2⟩:=g x y n1 e1;exact ⟨n2,e2,by lia⟩
theorem FW.next {ws:List Az} (hp:∀ u ∈ ws,1<=u.2.2) {xs:List Str} (he:∀ u ∈ ws,u.1 ∈ xs/\u.2.1 ∈ xs) {t:Nat} {k:Str} (hk:xs[t]? = some k) {M0 M:Str->Str->Option Int} (h:FW ws xs t M0) (mo:D3 M0 M) (so:∀ x y n,M x y=some n->Bg ws x y n)
  (via:∀ x ∈ xs,∀ y ∈ xs,∀ n1 n2,M0 x k=some n1->M0 k y=some n2->∃ n,M x y=some n/\n<=n1 + n2):FW ws xs (t + 1) M:=by
 refine ⟨so,fun x y m g=>?_,fun x hx=>?_⟩
 ·have ex:x ∈ xs/\y ∈ xs:=by
   clear mo so via h;induction g with
   | edge e=>exact WI.ends he e
   | cons e _ _ ih=>exact ⟨(WI.ends he e).1,ih.2⟩
  rcases g.split hp (I:=(· ∈ xs.take t)) (k:=k) (fun z hz=>by
   rw [QJ,hk] at hz;rcases QA.mp hz with hz | hz
   ·exact .inl hz
   ·exact .inr (by simpa using hz)) with g | ⟨m1,m2,g1,g2,le⟩
  ·obtain ⟨n,e,l⟩:=h.comp x y m g;obtain ⟨n',e',l'⟩:=mo x y n e;exact ⟨n',e',by lia⟩
  ·obtain ⟨n1,e1,l1⟩:=h.comp x k m1 g1;obtain ⟨n2,e2,l2⟩:=h.comp k y m2 g2;obtain ⟨n,e,l⟩:=via x ex.1 y ex.2 n1 n2 e1 e2;exact ⟨n,e,by lia⟩
 ·obtain ⟨n,e,l⟩:=h.diag x hx;obtain ⟨n',e',l'⟩:=mo x x n e;exact ⟨n',e',by lia⟩
theorem FW.done {ws:List Az} {xs:List Str} (he:∀ u ∈ ws,u.1 ∈ xs/\u.2.1 ∈ xs) (jn:Gj xs ws) {M:Str->Str->Option Int} (h:FW ws xs xs.length M):∀ x ∈ xs,∀ y ∈ xs,∃ n,M x y=some n/\F7 ws x y n:=by
 intro x hx y hy;obtain ⟨m,hm⟩:∃ m,Bg ws x y m:=jn.all (fun y=>∃ m,Bg ws x y m) (fun a b ⟨u,hu,e⟩ ⟨m,g⟩=>⟨m + u.2.2,g.snoc ⟨u,hu,e,rfl⟩⟩) hx ⟨0,.nil x⟩ y hy;have low:∀ m,Bg ws x y m->∃ n,M x y=some n/\n<=m:=fun m g=>by
  rcases g.wi he with ⟨rfl,rfl⟩ | g
  ·exact h.diag x hx
  ·refine h.comp x y m ?_;rw [QT];exact g
 obtain ⟨n,e,_⟩:=low m hm;refine ⟨n,e,h.sound x y n e,fun m' g=>?_⟩;obtain ⟨n',e',l⟩:=low m' g;rw [e] at e';cases e'
 exact l
def MD (H:Hp) (A:Addr) (M:Str->Str->Option Int) (c:Nat):Prop:=∃ kvs:List (List A5 × V),H A=some (.dT kvs)/\kvs.length<=c/\∀ x y,AX kvs [Sum.inr x,Sum.inr y]=(M x y).map V.int
theorem MD.same {H H':Hp} {A:Addr} {M:Str->Str->Option Int} {c:Nat} (h:MD H A M c) (s:Aw H H'):MD H' A M c:=let ⟨kvs,a,b,d⟩:=h; ⟨kvs,s _ _ a,b,d⟩
theorem MD.get {H:Hp} {A t:Addr} {M:Str->Str->Option Int} {c:Nat} (h:MD H A M c) {x y:Str} (ht:H t=some (.tup [.str x,.str y])):Bo H A (.ref t) ((M x y).map V.int):=by
 obtain ⟨kvs,a,_,d⟩:=h;rw [<-d x y];exact Bo.t (k:=[Sum.inr x,Sum.inr y]) a ht
def Ez (M:Str->Str->Option Int) (x y:Str) (n:Int):Str->Str->Option Int:=fun a b=>if a=x/\b=y then some n else M a b
theorem MD.put {H:Hp} {A t:Addr} {M:Str->Str->Option Int} {c:Nat} (h:MD H A M c) (hc:c < sizeLine) {x y:Str} {n:Int} (ht:H t=some (.tup [.str x,.str y])):∃ H',CC H A (.ref t) (.int n) H'/\MD H' A (Ez M x y n) (c + 1)/\∃ kvs,H'=upd H A (.dT kvs):=by
 obtain ⟨kvs,a,b,d⟩:=h;refine ⟨_,CC.t (k:=[Sum.inr x,Sum.inr y]) a ht (by lia),⟨_,Ab,?_,fun p q=>?_⟩,_,rfl⟩
 ·have:=BI kvs [Sum.inr x,Sum.inr y] (V.int n);lia
 ·rw [JA];unfold Ez;by_cases e:p=x/\q=y
  ·obtain ⟨rfl,rfl⟩:=e;simp
  ·have e':¬ ([Sum.inr p,Sum.inr q]:List A5)=[Sum.inr x,Sum.inr y]:=fun z=>by
    simp only [SE.injEq,Sum.inr.injEq,and_true] at z;exact e z
   rw [if_neg e',if_neg e,d]
def JO (K:Qj):Sp:=fun vs H Q _=>∃ (D E:Addr) (xs:List Str) (us:List V) (ws:List Az),vs=[.ref D,.ref E]/\H D=some (.lst (xs.map V.str))/\xs.length<=30/\H E=some (.lst us)/\A7 H us (ws.map B2)/\ws.length < 64/\CL xs ws /\
 ∀ (H':Hp) (A:Addr) (M:Str->Str->Option Int) (c:Nat),Aw H H'->H A=none->MD H' A M c->(∀ x ∈ xs,∀ y ∈ xs,∃ n,M x y=some n/\F7 ws x y n)->Q (.ref A) H'
def JQ (K:Qj):Sp:=fun vs H Q _=>∃ (q:Addr) (ps:List Str) (ws:List Az) (r x:Str),vs=[.ref q,.str x]/\Eg H q ps ws r/\(∀ u ∈ ws,1<=u.2.2)/\(∀ x y l l',AG ws x y l->AG ws x y l'->l=l')/\x ∈ ps /\
 ∀ (H':Hp) (B:Addr) (nv:List (Str × V)),Aw H H'->H B=none->H' B=some (.dK (sK nv))->nv.map (·.1)=ps->(∀ y v,(y,v) ∈ nv->∃ n,v=.int n/\F7 ws x y n)->Q (.ref B) H'
end L2
namespace L2
open PySem PySem.Spec PySem.W PyProof.Rows
end L2
namespace L2
open PySem PySem.Spec PyProof.Rows
theorem len1 {α:Type} {l:List α} (h:l.length=1):∃ a,l=[a]:=List.length_eq_one_iff.mp h
theorem lenS {α:Type} {n:Nat} {l:List α} (h:l.length=n + 1):∃ a r,l=a :: r/\r.length=n:=by
 cases l with
 | nil=>cases h
 | cons a r=>exact ⟨a,r,rfl,SR.inj h⟩
theorem len2 {α:Type} {l:List α} (h:l.length=2):∃ a b,l=[a,b]:=by
 obtain ⟨a,r,rfl,hr⟩:=lenS h;obtain ⟨b,rfl⟩:=len1 hr;exact ⟨a,b,rfl⟩
theorem len3 {α:Type} {l:List α} (h:l.length=3):∃ a b c,l=[a,b,c]:=by
 obtain ⟨a,r,rfl,hr⟩:=lenS h;obtain ⟨b,c,rfl⟩:=len2 hr;exact ⟨a,b,c,rfl⟩
theorem len4 {α:Type} {l:List α} (h:l.length=4):∃ a b c d,l=[a,b,c,d]:=by
 obtain ⟨a,r,rfl,hr⟩:=lenS h;obtain ⟨b,c,d,rfl⟩:=len3 hr;exact ⟨a,b,c,d,rfl⟩
section
variable {K:Type} [DecidableEq K] [BEq K] [LawfulBEq K]
end
section
variable {prog:Program} {w:World} {A:Around} {R:Result->Shared->Prop} {I:Addr} {fp wr:List Addr} {G:Array GenState->Array GenState->Prop} {n:Nat} {P:Nat->Value->Prop} {St:Nat->Shared->Prop}
variable {K:Type} [DecidableEq K] [BEq K] [LawfulBEq K] {knd:KeyKind prog w K}
end
section
variable {prog:Program} {w:World} {A:Around} {E:Value->Shared->Prop} {s:Shared}
variable {K:Type} [DecidableEq K] [BEq K] [LawfulBEq K] {knd:KeyKind prog w K}
end
section
variable {prog:Program} {w:World} {A:Around} {E:Value->Shared->Prop} {s:Shared}
end
section
variable {prog:Program} {w:World} {A:Around} {R:Result->Shared->Prop} {I:Addr} {fp wr:List Addr} {G:Array GenState->Array GenState->Prop} {n:Nat} {P:Nat->Value->Prop} {St:Nat->Shared->Prop}
end
section
variable {prog:Program} {w:World} {A:Around} {E:Value->Shared->Prop} {s:Shared}
end
section
variable {prog:Program} {w:World} {A:Around} {E:Value->Shared->Prop} {s:Shared}
end
section
variable {prog:Program} {w:World} {A:Around} {E:Value->Shared->Prop} {s:Shared}
end
section
variable {prog:Program} {w:World} {A:Around} {E:Value->Shared->Prop} {s:Shared}
end
section
variable {prog:Program} {w:World} {A:Around} {E:Value->Shared->Prop} {s:Shared}
end
end L2
namespace L2
open PySem PySem.W PyProof.Rows
section
variable {prog:Program} {w:World} {A:Around} {E:Value->Shared->Prop} {s:Shared} {κ:SortKind} {lt:Keyed->Keyed->Bool} {a0:Array Keyed}
end
end L2
namespace L2
open PySem PySem.Spec PyProof.Rows
section
variable {prog:Program} {w:World} {A:Around} {E:Value->Shared->Prop} {s:Shared}
end
structure Fn (K:Qj) (mg:Str->Option Value) (nm:Str) (st:Stmt) (ps:List Str) (f:Addr) (fd:FuncData):Prop where
 F:D4 K nm nm st f fd
 mg:mg nm=some (.ref f)
 b:C9 K fd ps []
structure Me (J:It) (xs:List V) (S:Hp->Prop):Prop where
 go:∀ i H,S H->i < xs.length->J.go i H
 yld:∀ i H x H',S H->J.yld i H x H'->H'=H/\xs[i]? = some x
 stop:∀ H,S H->J.stop xs.length H
theorem Fs {K:Qj} {a:Addr} {xs:List V}:Me (Oi K a) xs (fun H=>A6 K H a xs):=
 ⟨fun i H q Bc=>⟨xs,xs[i],q,by simp [Bc]⟩,fun i H x H' q y=>⟨y.1,y.2 xs q⟩,fun H q=>⟨xs,q,Qo _⟩⟩
theorem JY {J:It} {xs:List V} {S:Hp->Prop} {g:TG} {te:TE} {H:Hp} {σ0:St} {R:Addr->Hp->Prop} (ov:Me J xs S) (I:Addr->Nat->St->Hp->List V->Prop) (big:xs.length < sizeLine)
  (h0:∀ D,H D=none->I D 0 σ0 (upd H D (.lst [])) [])
  (hs:∀ D i σ H' acc,H D=none->I D i σ H' acc->S H'/\H' D=some (.lst acc)/\acc.length=i)
  (turn:∀ D i σ H' acc x (B:St->V->Hp->Prop),H D=none->xs[i]? = some x->I D i σ H' acc->(∀ AW v H5,H5 D=some (.lst acc)->I D (i + 1) AW (upd H5 D (.lst (acc ++ [v]))) (acc ++ [v])->B AW v H5)->g x σ H' fun AW H3=>te AW H3 (B AW))
  (fin:∀ D σ H' acc,H D=none->I D xs.length σ H' acc->R D H') :
  ∀ D,H D=none->∃ W:Nat->Nat->St->Hp->Prop,(∃ m,W 0 m σ0 (upd H D (.lst []))) /\
   ∀ i m Ap H',W i m Ap H'->(J.stop i H'/\R D H')\/(J.go i H'/\∀ x H2,J.yld i H' x H2->g x Ap H2 fun AW H3=>MG AW H3 fun b H4=>
    if b=true then te AW H4 (fun v H5=>∃ acc,H5 D=some (.lst acc)/\acc.length < sizeLine/\∃ m',m' < m/\W (i + 1) m' AW (upd H5 D (.lst (acc ++ [v])))) else ∃ m',m' < m/\W (i + 1) m' AW H4):=by
 intro D hD;refine ⟨fun i m σ H'=>m=xs.length - i/\i<=xs.length/\∃ acc,I D i σ H' acc,⟨xs.length,rfl,QH _,[],h0 D hD⟩,?_⟩;rintro i m σ H' ⟨rfl,hi,acc,p⟩;obtain ⟨s1,s2,s3⟩:=hs D i σ H' acc hD p;by_cases Bc:i < xs.length
 ·refine .inr ⟨ov.go i H' s1 Bc,fun x H2 y=>?_⟩;obtain ⟨rfl,ex⟩:=ov.yld i H' x H2 s1 y;have e:∀ (F:St->V->Hp->Prop) (G:St->Hp->Prop),(fun (AW:St) (H3:Hp)=>MG AW H3 fun b H4=>if b=true then te AW H4 (F AW) else G AW H4)=fun AW H3=>te AW H3 (F AW):=by
   intro F G;funext AW H3;show (if true=true then te AW H3 (F AW) else G AW H3)=_
   rw [if_pos rfl]
  rw [e (fun AW v H5=>∃ acc,H5 D=some (.lst acc)/\acc.length < sizeLine/\∃ m',m' < xs.length - i/\(m'=xs.length - (i + 1)/\i + 1<=xs.length/\∃ DO,I D (i + 1) AW (upd H5 D (.lst (acc ++ [v]))) DO)) (fun AW H4=>∃ m',m' < xs.length - i/\(m'=xs.length - (i + 1)/\i + 1<=xs.length/\∃ DO,I D (i + 1) AW H4 DO))];refine turn D i σ H2 acc x _ hD ex p fun AW v H5 d5 p5=>?_
  exact ⟨acc,d5,by lia,xs.length - (i + 1),by lia,rfl,Bc,_,p5⟩
 ·have e:i=xs.length:=by lia
  subst e;exact .inl ⟨ov.stop H' s1,fin D σ H' acc hD p⟩
abbrev J5:=Str × Int
def FK (u:J5):PyData:=.tuple [.str u.1,.int u.2]
theorem JX {H:Hp} {v:V} {u:J5} (h:Gk H v (FK u)):∃ t,v=.ref t/\H t=some (.tup [.str u.1,.int u.2]):=by
 unfold FK at h;cases h with
 | tup ha hd=>
  cases hd with
  | cons h1 r1=>
   cases r1 with
   | cons h2 r2=>
    cases r2
    cases h1
    cases h2
    exact ⟨_,rfl,ha⟩
theorem HU {H:Hp} {t:Addr} {u:J5} (h:H t=some (.tup [.str u.1,.int u.2])):Gk H (.ref t) (FK u):=.tup h (.cons (.str _) (.cons (.int _) .nil))
theorem Gv {H2 H3:Hp} {vs:List V} {rs:List J5} (h:A7 H2 vs (rs.map FK)) (ht:∀ b xs,H2 b=some (.tup xs)->H3 b=some (.tup xs)):A7 H3 vs (rs.map FK):=by
 induction rs generalizing vs with
 | nil=>cases h; exact .nil
 | cons u rs ih=>
  cases h with
  | cons h1 r=>
   obtain ⟨t,rfl,e⟩:=JX h1;exact .cons (HU (ht _ _ e)) (ih r)
theorem GH {H:Hp}:∀ {vs:List V} {rs:List J5} {i:Nat} {x:V},A7 H vs (rs.map FK)->vs[i]? = some x->∃ u t,rs[i]? = some u/\x=.ref t/\H t=some (.tup [.str u.1,.int u.2])
 | _,[],i,x,.nil,e=>by simp at e
 | _,u :: rs,0,x,.cons h r,e=>by
  simp only [Rx,QB.injEq] at e;subst e;obtain ⟨t,rfl,q⟩:=JX h;exact ⟨u,t,rfl,rfl,q⟩
 | _,u :: rs,i + 1,x,.cons h r,e=>by
  obtain ⟨u',t,a,b,c⟩:=GH r (by simpa using e);exact ⟨u',t,by simpa using a,b,c⟩
end L2
namespace L2
open PySem PySem.Spec PySem.W PyProof.Rows
end L2
namespace L2
open PySem PySem.Spec PyProof.Rows
theorem Iu (d:PyData) (h:d.canLay0=true):(!PyData.eqv d d)=false:=by rw [SeqAt.eqv_refl d h]; rfl
section
variable {prog:Program} {w:World} {A:Around} {R:Result->Shared->Prop} {g0:Heap} {D it l:Addr} {vs:List Value} {ps:List (Str × V)}
end
section
variable {prog:Program} {w:World} {A:Around} {E:Value->Shared->Prop} {s:Shared}
end
section
variable {prog:Program} {w:World} {A:Around} {E:Value->Shared->Prop} {s:Shared}
end
section
variable {prog:Program} {w:World} {A:Around} {E:Value->Shared->Prop} {s:Shared}
end
theorem DY {J:It} {xs:List V} {S:Hp->Prop} {g:TG} {tt:TT} {te:TE} {H:Hp} {σ0:St} {R:Addr->Hp->Prop} (ov:Me J xs S) (I:Addr->Nat->St->Hp->List V->Prop) (big:xs.length < sizeLine)
  (h0:∀ D,H D=none->I D 0 σ0 (upd H D (.lst [])) [])
  (hs:∀ D i σ H' acc,H D=none->I D i σ H' acc->S H'/\H' D=some (.lst acc)/\acc.length<=i)
  (turn:∀ D i σ H' acc x (B:St->V->Hp->Prop) (N:St->Hp->Prop),H D=none->xs[i]? = some x->I D i σ H' acc->(∀ AW v H5,H5 D=some (.lst acc)->I D (i + 1) AW (upd H5 D (.lst (acc ++ [v]))) (acc ++ [v])->B AW v H5) ->
   (∀ AW H4,I D (i + 1) AW H4 acc->N AW H4)->g x σ H' fun AW H3=>tt AW H3 fun b H4=>if b=true then te AW H4 (B AW) else N AW H4)
  (fin:∀ D σ H' acc,H D=none->I D xs.length σ H' acc->R D H') :
  ∀ D,H D=none->∃ W:Nat->Nat->St->Hp->Prop,(∃ m,W 0 m σ0 (upd H D (.lst []))) /\
   ∀ i m Ap H',W i m Ap H'->(J.stop i H'/\R D H')\/(J.go i H'/\∀ x H2,J.yld i H' x H2->g x Ap H2 fun AW H3=>tt AW H3 fun b H4=>
    if b=true then te AW H4 (fun v H5=>∃ acc,H5 D=some (.lst acc)/\acc.length < sizeLine/\∃ m',m' < m/\W (i + 1) m' AW (upd H5 D (.lst (acc ++ [v])))) else ∃ m',m' < m/\W (i + 1) m' AW H4):=by
 intro D hD;refine ⟨fun i m σ H'=>m=xs.length - i/\i<=xs.length/\∃ acc,I D i σ H' acc,⟨xs.length,rfl,QH _,[],h0 D hD⟩,?_⟩;rintro i m σ H' ⟨rfl,hi,acc,p⟩;obtain ⟨s1,s2,s3⟩:=hs D i σ H' acc hD p;by_cases Bc:i < xs.length
 ·refine .inr ⟨ov.go i H' s1 Bc,fun x H2 y=>?_⟩;obtain ⟨rfl,ex⟩:=ov.yld i H' x H2 s1 y;refine turn D i σ H2 acc x (fun AW v H5=>∃ acc,H5 D=some (.lst acc)/\acc.length < sizeLine/\∃ m',m' < xs.length - i/\(m'=xs.length - (i + 1)/\i + 1<=xs.length/\∃ DO,I D (i + 1) AW (upd H5 D (.lst (acc ++ [v]))) DO)) (fun AW H4=>∃ m',m' < xs.length - i/\(m'=xs.length - (i + 1)/\i + 1<=xs.length/\∃ DO,I D (i + 1) AW H4 DO)) hD ex p (fun AW v H5 d5 p5=>?_) fun AW H4 p4=>?_
  ·exact ⟨acc,d5,by lia,xs.length - (i + 1),by lia,rfl,Bc,_,p5⟩
  ·exact ⟨xs.length - (i + 1),by lia,rfl,Bc,_,p4⟩
 ·have e:i=xs.length:=by lia
  subst e;exact .inl ⟨ov.stop H' s1,fin D σ H' acc hD p⟩
end L2
namespace L2
open PySem
theorem KI {K:Qj} {a:Addr} {xs:List V} {g:TG} {tb:TS} {D:CB} {σ:St} {H:Hp} (Pv:Nat->St->Hp->Prop) (h0:Pv 0 σ H) (hl:∀ i σ H,i<=xs.length->Pv i σ H->BY K H a xs)
  (hs:∀ i x σ H,xs[i]? = some x->Pv i σ H->∀ (rt:VK) (bk:St->Hp->Prop),g x σ H fun AW H2=>tb ⟨Pv (i + 1),rt,bk,Pv (i + 1)⟩ AW H2) (hd:∀ σ H,Pv xs.length σ H->D.nx σ H) :
  ∃ W:Nat->Nat->St->Hp->Prop,(∃ m,W 0 m σ H)/\∀ i m σ H,W i m σ H ->
   ((MB K a).stop i H/\D.nx σ H)\/((MB K a).go i H/\∃ N:St->Hp->Prop,(∀ Ap H',N Ap H'->∃ m',m' < m/\W (i + 1) m' Ap H')/\∀ x H',(MB K a).yld i H x H'->g x σ H' fun AW H2=>tb { D with nx:=N,ct:=N,bk:=D.nx } AW H2):=
 LU Pv h0 hl (fun i x σ H hx hp=>hs i x σ H hx hp D.rt D.nx) hd
theorem Jk {a:Addr} {kvs:List (A5 × V)} {o:Obj} {g:TG} {tb:TS} {D:CB} {σ:St} {H:Hp} (Pv:Nat->St->Hp->Prop) (h0:Pv 0 σ H) (hl:∀ i σ H,i<=kvs.length->Pv i σ H->H a=some (.frz o (.dK kvs)))
  (hs:∀ i k v σ H,kvs[i]? = some (k,v)->Pv i σ H->∀ (rt:VK) (bk:St->Hp->Prop),g (kV k) σ H fun AW H2=>tb ⟨Pv (i + 1),rt,bk,Pv (i + 1)⟩ AW H2) (hd:∀ σ H,Pv kvs.length σ H->D.nx σ H) :
  ∃ W:Nat->Nat->St->Hp->Prop,(∃ m,W 0 m σ H)/\∀ i m σ H,W i m σ H ->
   ((Mh a kvs o).stop i H/\D.nx σ H)\/((Mh a kvs o).go i H/\∃ N:St->Hp->Prop,(∀ Ap H',N Ap H'->∃ m',m' < m/\W (i + 1) m' Ap H')/\∀ x H',(Mh a kvs o).yld i H x H'->g x σ H' fun AW H2=>tb { D with nx:=N,ct:=N,bk:=D.nx } AW H2):=
 KJ Pv h0 hl (fun i k v σ H hx hp=>hs i k v σ H hx hp D.rt D.nx) hd
end L2
namespace L2
open PySem PySem.Spec PyProof.Rows
section
variable {X:Cx} {pins:List (Addr × Obj)} {σ Ap:St} {H H':Hp} {s2 s':Shared} {scope:Scope} {cl:List (Str × Addr)} {N:List Str} {fp:List Addr} {C D:Addr} {Bb h':Heap} {t':Nat}
end
end L2
namespace L2
open PySem PySem.Spec PySem.W PyProof.Rows
end L2
namespace L2
open PySem PySem.Spec PyProof.Rows
theorem Ca (K:Qj) {X:Cx} {tg l:Expr} {tl:TE} (h:X.K=K) (hl:PE X l tl):PI X tg l (My K tl):=by subst h; exact BR hl
theorem FQ (K:Qj) {X:Cx} {tg l:Expr} {tl:TE} (h:X.K=K) (hl:PE X l tl):PI X tg l (iTup K tl):=by subst h; exact Ke hl
def GtAt (A:Around) (s:Shared) (x y:Value) (b:Bool):Prop:=∀ (prog:Program) (w:World) (E Q:Value->Shared->Prop),Q (.bool b) s->wpAny (model prog w) A (richCompare .Gt x y) Q E s
def CmpsG (A:Around) (s:Shared) (z:Bool):List (Value × Value)->Bool->Prop
 | [],r=>r=z
 | p :: C0,r=>∃ e,SeqAt.EqAt A s p.1 p.2 e/\(e=false->GtAt A s p.1 p.2 r)/\(e=true->CmpsG A s z C0 r)
section
open PySem.SeqAt
open PySem.AutoSeq1 (wpAny_loadPart')
open PySem.MeetsSeq PySem.MeetsSeq2 PySem.MeetsSeq3
end
def GS (A:Around) (s:Shared) (z:Bool):List (Value × Value)->Bool->Prop
 | [],r=>r=z
 | p :: C0,r=>∃ e,SeqAt.EqAt A s p.1 p.2 e/\(e=false->BU A s p.1 p.2 r)/\(e=true->GS A s z C0 r)
section
open PySem.SeqAt
open PySem.AutoSeq1 (wpAny_loadPart')
open PySem.MeetsSeq PySem.MeetsSeq2 PySem.MeetsSeq3
end
theorem ET {A:Around} {s:Shared}:∀ (xs ys:List Str) {us vs:List Value},A4 (xs.map V.str) us->A4 (ys.map V.str) vs->GS A s (decide (xs.length < ys.length)) (us.zip vs) (Bd (xs.map CD.s) (ys.map CD.s))
 | [],[],_,_,r1,r2=>by cases r1; cases r2; rfl
 | [],y :: ys,_,_,r1,r2=>by cases r1; cases r2; rfl
 | x :: xs,[],_,_,r1,r2=>by cases r1; cases r2; rfl
 | x :: xs,y :: ys,_,_,r1,r2=>by
  cases r1 with
  | cons a1 b1=>
   cases r2 with
   | cons a2 b2=>
    obtain ⟨t,rfl⟩:=a1;obtain ⟨t',rfl⟩:=a2;refine ⟨x == y,SeqAt.EqAt.str_str _ _ _ _,fun e=>?_,fun e=>?_⟩
    ·have e:¬ x=y:=by simpa using e
     have:=BU.str A s x t y t';rw [Qt,Qt];unfold Bd;rw [if_neg (by intro z; injection z with z; exact e z)];exact this
    ·have e:x=y:=by simpa using e
     rw [Qt,Qt];unfold Bd;rw [if_pos (by rw [e])];have:=ET xs ys b1 b2 (A:=A) (s:=s);rw [QF,QF];simp only [Nat.add_lt_add_iff_right];exact this
section
variable {prog:Program} {w:World} {A:Around} {R:Result->Shared->Prop} {I:Addr} {fp wr:List Addr} {n:Nat} {P:Nat->Value->Prop} {St:Nat->Heap->Prop} {g0:Heap}
end
section
variable {prog:Program} {w:World} {A:Around} {E:Value->Shared->Prop} {s:Shared}
end
theorem Ee (bt:Nat->Nat->Bool) (f:Nat->List CD) (h1:∀ i j,bt i j=Bd (f i) (f j)):∀ k,argBest bt k<=k/\∀ j,j<=k->Bd (f j) (f (argBest bt k))=false
 | 0=>⟨Qo _,fun j hj=>by
  have:j=0:=by lia
  subst this; exact Et _⟩
 | k + 1=>by
  obtain ⟨a1,a2⟩:=Ee bt f h1 k;simp only [argBest];cases hc:bt (k + 1) (argBest bt k) with
  | true=>
   simp only [if_true];refine ⟨Qo _,fun j hj=>?_⟩;by_cases K5:j<=k
   ·have a3:=a2 j K5;rw [h1] at hc;cases e:Bd (f j) (f (k + 1)) with
    | false=>rfl
    | true=>rw [Ij _ _ _ e hc] at a3; cases a3
   ·have:j=k + 1:=by lia
    subst this; exact Et _
  | false=>
   simp only [Rv,if_false];refine ⟨RP a1,fun j hj=>?_⟩;by_cases K5:j<=k
   ·exact a2 j K5
   ·have:j=k + 1:=by lia
    subst this; rw [<-h1]; exact hc
section
variable {X:Cx} {pins:List (Addr × Obj)} {σ:St} {H:Hp} {s:Shared}
end
section
variable {prog:Program} {w:World} {A:Around} {E:Value->Shared->Prop} {s:Shared}
end
end L2
namespace L2
open PySem PySem.Spec PySem.W PyProof.Rows
end L2
namespace L2
open PySem PySem.Spec PyProof.Rows
end L2
namespace HT
open PySem PySem.Spec PyProof.Rows
section
variable {prog:Program} {w:World} {A:Around} {E:Value->Shared->Prop} {s:Shared}
end
end HT
namespace L2
open PySem PySem.Spec PyProof.Rows
section
variable {X:Cx} {Φ:St->Hp->Prop} {a b:Expr} {pos:Pos} {n m:Nat}
end
section
variable {Φ:St->Hp->Prop} {n:Nat}
end
end L2
namespace L2
open PySem PySem.Builtin.Str PySem.StrLaws
end L2
namespace L2
open PySem PySem.Spec PyProof.Rows PySem.NumText
end L2
namespace L2
open PySem PySem.Spec PyProof.Rows
section
variable {prog:Program} {w:World} {A:Around} {E:Value->Shared->Prop} {s:Shared}
end
section
variable {prog:Program} {w:World} {A:Around} {E:Value->Shared->Prop} {s:Shared}
end
end L2
namespace HT
open PySem PySem.Spec PyProof.Rows
section
variable {prog:Program} {w:World} {A:Around} {E:Value->Shared->Prop} {s:Shared}
end
end HT
namespace L2
open PySem PySem.Spec PyProof.Rows
end L2
namespace L2
open PySem PySem.Spec PySem.W PyProof.Rows
section
variable {prog:Program} {w:World} {A:Around} {E:Value->Shared->Prop} {s:Shared} {κ:SortKind} {lt:Keyed->Keyed->Bool} {a0:Array Keyed}
end
end L2
namespace L2
open PySem PySem.Spec PyProof.Rows
theorem IM {X:Cx} (hu:X.A.units < cLine):Ex X (compareOp .NotEq) (fun x y H Q=>∃ a b xs,x=.ref a/\y=.ref b/\A6 X.K H a xs/\A6 X.K H b []/\Q (.bl (!xs.isEmpty)) H):=by
 intro pins s σ H x y v u Q I rx ry h;obtain ⟨a,b,xs,rfl,rfl,ha,hb,q⟩:=h;cases rx
 cases ry
 obtain ⟨Ar,r,p,hz⟩:=I.list ha;obtain ⟨Ga,r2,p2,Ox⟩:=I.list hb;cases r2
 cases xs with
 | nil=>
  cases r
  exact PySem.SeqAt.RcNeAt.lists (e:=fun _=>true) p.isList p2.isList rfl hu (fun j h1 h2=>absurd h1 (Ro _)) _ _ _ _ ⟨.bl false,H,I,rfl,q⟩
 | cons x xs=>
  cases r with
  | cons r1 r2=>exact PySem.SeqAt.RcNeAt.lists_lengths p.isList p2.isList (by simp) hu _ _ _ _ ⟨.bl true,H,I,rfl,q⟩
section
variable {H:Hp} {c m o t T:Addr} {n:Nat} {xs:List Str} {ws:List Az} {rs1 rs2:List J5} {x:V} {d:PyData} {ss:List Str} {zs:List (Str × Str)} {qs:List J5} {lv:Int}
end
section
open PySem.SeqAt
open PySem.AutoSeq1 (wpAny_loadPart')
open PySem.MeetsSeq PySem.MeetsSeq2 PySem.MeetsSeq3
theorem G8 (l b:Addr) (xs ys:Array Value) (n n2:Nat) (dd J3:Option Addr) (sl Le:Array (Option Value)) (r:Bool) (k:Nat) :
  ∀ i:Nat,(xs.toList.zip ys.toList).length - i=k->Meets (Builtin.«list.__eq__.loop» ⟨[.ref l,.ref b,rawInt i,rawInt 0],[]⟩)
   (fun A R s=>s.heap.get? l=some { cls:=.type "list",dict:=dd,data:=.seq xs n,slots:=sl }/\s.heap.get? b=some { cls:=.type "list",dict:=J3,data:=.seq ys n2,slots:=Le } /\
    GS A.in1 s (decide (xs.size < ys.size)) ((xs.toList.zip ys.toList).drop i) r/\R (.ok (.ret (.bool r))) s):=by
 induction k with
 | zero=>
  intro i hk prog w A R s h;obtain ⟨hp,g,d,tk,os⟩:=s; obtain ⟨hl,hb,hc,h⟩:=h;rw [List.drop_eq_nil_of_le (by lia)] at hc;have hz:r=decide (xs.size < ys.size):=hc;subst hz;wp_walk using wpAny_loadPart' hl,wpAny_loadPart' hb;rw [RV,Rg,Rg] at hk;have fin:∀ (a b:Option Value),xs[((i:Nat):Int).toNat]? = a->ys[((i:Nat):Int).toNat]? = b->a=none\/b=none:=fun a b ea eb=>by
   rcases Nat.le_total xs.size ys.size with z | z
   ·left;rw [<-ea];simp;lia
   ·right;rw [<-eb];simp;lia
  cases ea:xs[((i:Nat):Int).toNat]? with
  | none=>
   cases eb:ys[((i:Nat):Int).toNat]? with
   | none=>
    wp_walk using wpAny_loadPart' hl,wpAny_loadPart' hb
    exact h
   | some y=>
    wp_walk using wpAny_loadPart' hl,wpAny_loadPart' hb
    exact h
  | some x=>
   cases eb:ys[((i:Nat):Int).toNat]? with
   | none=>
    wp_walk using wpAny_loadPart' hl,wpAny_loadPart' hb
    exact h
   | some y=>rcases fin _ _ ea eb with z | z <;> cases z
 | succ k ih=>
  intro i hk prog w A R s h;obtain ⟨hp,g,d,tk,os⟩:=s; obtain ⟨hl,hb,hc,h⟩:=h;have hi:i < (xs.toList.zip ys.toList).length:=by lia
  rw [List.drop_eq_getElem_cons hi] at hc;rw [RV,Rg,Rg] at hi;obtain ⟨e,he,h1,h2⟩:=hc;rw [List.getElem_zip] at he h1;have Bc:i < xs.size:=by lia
  have PM:i < ys.size:=by lia
  have OY:e=false->BU A.in1 ⟨hp,g,d,tk,os⟩ xs[i] ys[i] r:=h1;wp_walk using wpAny_loadPart' hl,wpAny_loadPart' hb;have hi1:xs[((i:Nat):Int).toNat]? = some xs[i]:=by simp [Bc]
  have O4:ys[((i:Nat):Int).toNat]? = some ys[i]:=by simp [PM]
  have hcc:((i:Int) + 1)=((i + 1:Nat):Int):=by push_cast; rfl
  rw [hi1,O4];refine wpAny_bind (he prog w _ _ ?_);cases ee:e with
  | true=>
   wp_walk
   rw [hcc];exact ⟨plainId_quiet plain_eq_loop _,codeAny_builtin entry_eq_loop (by
    rw [Around.under_plainId plain_eq_loop _];exact ih (i + 1) (by lia) prog w A R _ ⟨hl,hb,h2 ee,h⟩)⟩
  | false=>
   have hri:=OY ee prog w;wp_walk using wpAny_loadPart' hl,wpAny_loadPart' hb;rw [hi1,O4];wp_walk using hri;exact h
theorem Ky (l b:Addr) (xs ys:Array Value) (n n2:Nat) (dd J3:Option Addr) (sl Le:Array (Option Value)) (r:Bool) :
  Meets (Builtin.«list.__lt__» ⟨[.ref l,.ref b],[]⟩)
   (fun A R s=>s.heap.get? l=some { cls:=.type "list",dict:=dd,data:=.seq xs n,slots:=sl }/\s.heap.get? b=some { cls:=.type "list",dict:=J3,data:=.seq ys n2,slots:=Le } /\
    GS A.in1 s (decide (xs.size < ys.size)) (xs.toList.zip ys.toList) r/\R (.ok (.ret (.bool r))) s):=by
 intro prog w A R s h;obtain ⟨hp,g,d,tk,os⟩:=s; obtain ⟨hl,hb,hc,h⟩:=h;have f3:=AutoSeq1.sub_list_list;wp_walk using wpAny_loadPart' hl,wpAny_loadPart' hb;exact ⟨plainId_quiet plain_eq_loop _,codeAny_builtin entry_eq_loop (by
  rw [Around.under_plainId plain_eq_loop _];exact G8 l b xs ys n n2 dd J3 sl Le r _ 0 rfl prog w A R _ ⟨hl,hb,by simpa using hc,h⟩)⟩
end
theorem BU.lstN {A:Around} {s:Shared} {l b:Addr} {xs ys:Array Value} {r:Bool} (hl:s.heap.IsList l xs) (hb:s.heap.IsList b ys) (hu:A.units < cLine) (hc:GS A.in1 s (decide (xs.size < ys.size)) (xs.toList.zip ys.toList) r):BU A s (.ref l) (.ref b) r:=fun prog w E Q h=>by
 obtain ⟨⟨cls,dd,data,sl⟩,ho,K8,n,hd⟩:=id hl;obtain ⟨⟨Qf,J3,data2,Le⟩,O3,Nt,n2,hd2⟩:=id hb;simp only at K8 hd Nt hd2;subst K8 hd Nt hd2;exact richCompare_meets_room (op:=.Lt) ⟨_,ho,rfl⟩ ⟨_,O3,rfl⟩ PySem.F.slot_list_lt PySem.F.entry_list_lt (PySem.F.args_list_lt_2 _ _) (Ky l b xs ys n n2 dd J3 sl Le r)
  ⟨ho,O3,hc,show Value.bool _ ≠ Value.notImplemented/\Q (.bool _) s from ⟨(fun x=>nomatch x),h⟩⟩ hu
def HD (h:Heap) (v:Value) (ss:List Str):Prop:=∃ a us,v=.ref a/\h.IsList a us.toArray/\A4 (ss.map V.str) us
theorem HD.keep {h h':Heap} {v:Value} {p:List Str} (x:HD h v p) (k:∀ b o,h.get? b=some o->h'.get? b=some o):HD h' v p:=by
 obtain ⟨a,us,rfl,⟨o,ho,r⟩,z⟩:=x;exact ⟨a,us,rfl,⟨o,k _ _ ho,r⟩,z⟩
theorem Kw {A:Around} {s:Shared} {v w:Value} {xs ys:List Str} (hv:HD s.heap v xs) (hw:HD s.heap w ys) (hu:A.units < cLine):BU A s v w (Bd (xs.map CD.s) (ys.map CD.s)):=by
 obtain ⟨a,us,rfl,ha,r1⟩:=hv;obtain ⟨b,vs,rfl,hb,r2⟩:=hw;refine BU.lstN ha hb hu ?_;have l1:=r1.length;have l2:=r2.length;rw [Qk] at l1 l2;have:=ET (A:=A.in1) (s:=s) xs ys r1 r2;rw [l1,l2] at this;simpa using this
section
variable {X:Cx} {pins:List (Addr × Obj)} {σ:St} {H:Hp} {s:Shared}
end
theorem Cs {α:Type} {f:α->Nat} {c:Nat}:∀ {l:List α},(∀ y ∈ l,f y<=c)->(l.map f).sum<=l.length * c
 | [],_=>QH _
 | y :: l,h=>by
  have h1:=h y Qy;have h2:=Cs (l:=l) fun z hz=>h z (Q3 _ hz)
  rw [Qt,QG,QF,SO];lia
theorem D5 {α:Type} {f g h:α->Nat}:∀ {l:List α},(∀ y ∈ l,f y + g y<=h y)->(l.map f).sum + (l.map g).sum<=(l.map h).sum
 | [],_=>Qo _
 | y :: l,hh=>by
  have h1:=hh y Qy;have h2:=D5 (l:=l) fun z hz=>hh z (Q3 _ hz)
  rw [Qt,Qt,Qt,QG,QG,QG];lia
theorem HJ {α:Type} {f:α->Nat} {x:α}:∀ {l:List α},x ∈ l->f x<=(l.map f).sum
 | y :: l,h=>by
  rw [Qt,QG];rcases Qn.mp h with rfl | h
  ·lia
  ·have:=HJ (f:=f) h;lia
theorem FD {x:Str}:∀ {l:List Str},l.Nodup->(l.map fun z=>if z=x then 1 else 0).sum<=1
 | [],_=>QH _
 | y :: l,h=>by
  have h':=QI.mp h;rw [Qt,QG];by_cases e:y=x
  ·subst e;have z:(l.map fun z=>if z=y then 1 else 0)=l.map fun _=>0:=Rk fun a ha=>if_neg fun q=>h'.1 (by rw [<-q]; exact ha)
   have z2:∀ m:List Str,(m.map fun _=>0).sum=0:=fun m=>by
    induction m with
    | nil=>rfl
    | cons a m ih=>rw [Qt,QG,ih]
   rw [z,z2,if_pos rfl];lia
  ·rw [if_neg e];have:=FD (x:=x) h'.2;lia
def BH (ws:List Az) (x:Str):List J5:=ws.filterMap fun u=>if u.1=x then some (u.2.1,u.2.2) else if u.2.1=x then some (u.1,u.2.2) else none
def Bq (ws:List Az) (δ:Str->Int) (x:Str):List Str:=((BH ws x).filter fun p=>decide (p.2 + δ p.1=δ x)).map (·.1)
structure CF (ws:List Az) (xs:List Str) (o:Str) (δ:Str->Int):Prop where
 wc:CL xs ws
 xnd:xs.Nodup
 oin:o ∈ xs
 ds:∀ x ∈ xs,F7 ws x o (δ x)
theorem Dv {ws:List Az} (ne:∀ u ∈ ws,u.1 ≠ u.2.1) {x y:Str} {l:Int}:(y,l) ∈ BH ws x ↔ AG ws x y l:=by
 unfold BH AG;rw [Rn];constructor
 ·rintro ⟨u,hu,e⟩;refine ⟨u,hu,?_⟩;by_cases h1:u.1=x
  ·rw [if_pos h1] at e;cases e
   exact ⟨.inl ⟨h1,rfl⟩,rfl⟩
  ·rw [if_neg h1] at e;by_cases h2:u.2.1=x
   ·rw [if_pos h2] at e;cases e
    exact ⟨.inr ⟨rfl,h2⟩,rfl⟩
   ·rw [if_neg h2] at e;cases e
 ·rintro ⟨u,hu,h | h,rfl⟩
  ·exact ⟨u,hu,by rw [if_pos h.1,h.2]⟩
  ·exact ⟨u,hu,by rw [if_neg (fun z=>ne u hu (z.trans h.2.symm)),if_pos h.2,h.1]⟩
theorem EA {x:Str}:∀ {ws:List Az},(∀ u ∈ ws,u.1 ≠ u.2.1)->(ws.Pairwise fun u v=>¬ Ei u v)->((BH ws x).map (·.1)).Nodup
 | [],_,_=>RC
 | u :: ws,ne,sp=>by
  have sp':=Sy.mp sp;have ih:=EA (x:=x) (ws:=ws) (fun v hv=>ne v (Q3 _ hv)) sp'.2;have key:∀ y l,((u.1=x/\u.2.1=y)\/(u.1=y/\u.2.1=x))->((((y,l):J5) :: BH ws x).map (·.1)).Nodup:=fun y l h=>by
   rw [Qt,QI];refine ⟨fun hm=>?_,ih⟩;obtain ⟨⟨y',l'⟩,hp,e⟩:=Q0.mp hm;have e':y'=y:=e;subst e';obtain ⟨v,hv,Pz,_⟩:=(Dv fun v hv=>ne v (Q3 _ hv)).mp hp;refine sp'.1 v hv ?_;unfold Ei;rcases h with ⟨a,b⟩ | ⟨a,b⟩ <;> rcases Pz with ⟨c,d⟩ | ⟨c,d⟩
   ·exact .inl ⟨a.trans c.symm,b.trans d.symm⟩
   ·exact .inr ⟨a.trans d.symm,b.trans c.symm⟩
   ·exact .inr ⟨a.trans d.symm,b.trans c.symm⟩
   ·exact .inl ⟨a.trans c.symm,b.trans d.symm⟩
  unfold BH;rw [Rj];by_cases h1:u.1=x
  ·rw [if_pos h1];exact key _ _ (.inl ⟨h1,rfl⟩)
  ·rw [if_neg h1];by_cases h2:u.2.1=x
   ·rw [if_pos h2];exact key _ _ (.inr ⟨rfl,h2⟩)
   ·rw [if_neg h2];exact ih
section
variable {ws:List Az} {xs:List Str} {o:Str} {δ:Str->Int}
theorem CF.ne (h:CF ws xs o δ):∀ u ∈ ws,u.1 ≠ u.2.1:=fun u hu=>(h.wc.1 u hu).2.2.1
theorem CF.pos (h:CF ws xs o δ):∀ u ∈ ws,1<=u.2.2:=fun u hu=>(h.wc.1 u hu).2.2.2
theorem CF.ends (h:CF ws xs o δ) {x y:Str} {l:Int} (e:AG ws x y l):x ∈ xs/\y ∈ xs/\1<=l:=by
 obtain ⟨u,hu,e,rfl⟩:=e;obtain ⟨a,b,_,c⟩:=h.wc.1 u hu;rcases e with ⟨rfl,rfl⟩ | ⟨rfl,rfl⟩
 ·exact ⟨a,b,c⟩
 ·exact ⟨b,a,c⟩
theorem CF.mem (h:CF ws xs o δ) {x y:Str}:y ∈ Bq ws δ x ↔ ∃ l,AG ws x y l/\l + δ y=δ x:=by
 unfold Bq;rw [Q0];constructor
 ·rintro ⟨⟨y',l⟩,hp,rfl⟩;obtain ⟨h1,h2⟩:=QQ.mp hp;exact ⟨l,(Dv h.ne).mp h1,of_decide_eq_true h2⟩
 ·rintro ⟨l,e,q⟩;exact ⟨(y,l),QQ.mpr ⟨(Dv h.ne).mpr e,decide_eq_true q⟩,rfl⟩
def Ib (ws:List Az) (δ:Str->Int) (x y:Str):Prop:=∃ l,AG ws x y l/\l + δ y=δ x
theorem CF.sub (h:CF ws xs o δ) {x y:Str} (hy:y ∈ Bq ws δ x):y ∈ xs/\δ y < δ x:=by
 obtain ⟨l,e,q⟩:=h.mem.mp hy;obtain ⟨_,a,b⟩:=h.ends e;exact ⟨a,by lia⟩
theorem CF.nd (h:CF ws xs o δ) (x:Str):(Bq ws δ x).Nodup:=by
 have:=EA (x:=x) h.ne h.wc.2.1;unfold Bq;exact List.Nodup.sublist ((Su).map _) this
theorem CF.some (h:CF ws xs o δ) {x:Str} (hx:x ∈ xs) (ne:x ≠ o):Bq ws δ x ≠ []:=by
 have d:=h.ds x hx;have w:=d.1;intro z;generalize hm:δ x=m at w;cases w with
 | nil=>exact ne rfl
 | @cons _ y _ l m e w=>
  obtain ⟨_,hy,_⟩:=h.ends e;have d2:=h.ds y hy;have h1:=d2.2 m w;have h2:=d.2 (l + δ y) (.cons e d2.1);have:y ∈ Bq ws δ x:=h.mem.mpr ⟨l,e,by lia⟩;rw [z] at this;exact nomatch this
def Ds (xs:List Str) (δ:Str->Int) (x:Str):Nat:=(xs.filter fun z=>decide (δ z < δ x)).length
theorem rkd_lt (xnd:xs.Nodup) {x y:Str} (yx:y ∈ xs) (lt:δ y < δ x):Ds xs δ y < Ds xs δ x:=by
 unfold Ds;have sub:∀ z ∈ y :: xs.filter (fun z=>decide (δ z < δ y)),z ∈ xs.filter fun z=>decide (δ z < δ x):=fun z hz=>by
  rcases Qn.mp hz with rfl | hz
  ·exact QQ.mpr ⟨yx,decide_eq_true lt⟩
  ·obtain ⟨a,b⟩:=QQ.mp hz;have b:=of_decide_eq_true b;exact QQ.mpr ⟨a,decide_eq_true (by lia)⟩
 have nd:(y :: xs.filter fun z=>decide (δ z < δ y)).Nodup:=by
  rw [QI];refine ⟨fun hm=>?_,xnd.filter _⟩;have:=of_decide_eq_true (QQ.mp hm).2;lia
 have:=AE nd sub;rw [QF] at this;lia
theorem CF.rkd_lt (h:CF ws xs o δ) {x y:Str} (hy:y ∈ Bq ws δ x):Ds xs δ y < Ds xs δ x:=L2.rkd_lt h.xnd (h.sub hy).1 (h.sub hy).2
theorem CF.few (h:CF ws xs o δ) (x:Str):(Bq ws δ x).length<=Ds xs δ x:=AE (h.nd x) fun y hy=>by
 obtain ⟨a,b⟩:=h.sub hy;exact QQ.mpr ⟨a,decide_eq_true b⟩
theorem MQ {x:Str}:Ds xs δ x<=xs.length:=Rh _ _
theorem Gw {x:Str} (hx:x ∈ xs):Ds xs δ x < xs.length:=by
 unfold Ds;refine Nat.lt_of_le_of_ne (Rh _ _) fun e=>?_
 have:=List.length_filter_eq_length_iff.mp e x hx;have:=of_decide_eq_true this;lia
def J2:Nat->Nat
 | 0=>1
 | n + 1=>(n + 1) * J2 n
theorem Ir:∀ n,1<=J2 n
 | 0=>Qo _
 | n + 1=>Rp (Nat.succ_le_succ (QH n)) (Ir n)
theorem GB {n m:Nat} (h:n<=m):J2 n<=J2 m:=by
 induction h with
 | refl=>exact Qo _
 | @step m _ ih=>
  show J2 n<=(m + 1) * J2 m
  have:=Rp (show 1<=m + 1 by lia) (Qo (J2 m));lia
theorem CF.w1 (h:CF ws xs o δ) (x:Str):((Bq ws δ x).map fun y=>J2 (Ds xs δ y)).sum<=J2 (Ds xs δ x):=by
 cases e:Ds xs δ x with
 | zero=>
  have:=h.few x;have z:Bq ws δ x=[]:=Rl.mp (by lia);rw [z];exact QH _
 | succ n=>
  refine QE (Cs (c:=J2 n) fun y hy=>GB (by have:=h.rkd_lt hy; lia)) ?_;have:=h.few x;show _<=(n + 1) * J2 n
  exact Rp (by lia) (Qo _)
def J4 (ws:List Az) (δ:Str->Int) (z:Str):Nat:=(Bq ws δ z).length - 1
def Ma (ws:List Az) (xs:List Str) (δ:Str->Int) (x:Str):Nat:=(xs.map fun z=>if δ z<=δ x then J4 ws δ z else 0).sum
theorem CF.brS_lt (h:CF ws xs o δ) {x y:Str} (hx:x ∈ xs) (hy:y ∈ Bq ws δ x):Ma ws xs δ y + J4 ws δ x<=Ma ws xs δ x:=by
 obtain ⟨_,lt⟩:=h.sub hy;have h1:=D5 (l:=xs) (f:=fun z=>if δ z<=δ y then J4 ws δ z else 0) (g:=fun z=>if z=x then J4 ws δ x else 0) (h:=fun z=>if δ z<=δ x then J4 ws δ z else 0) fun z _=>by
  by_cases e:z=x
  ·subst e;rw [if_neg (by lia),if_pos rfl,if_pos (by lia)];lia
  ·rw [if_neg e];by_cases q:δ z<=δ y
   ·rw [if_pos q,if_pos (by lia)];lia
   ·rw [if_neg q];lia
 have h2:=HJ (f:=fun z=>if z=x then J4 ws δ x else 0) hx;rw [if_pos rfl] at h2;unfold Ma;lia
theorem DT:∀ k:Nat,k<=2 ^ (k - 1)
 | 0=>QH _
 | 1=>Qo _
 | k + 2=>by
  have:=DT (k + 1);rw [show k + 2 - 1=k + 1 from rfl,Nat.pow_succ];rw [show k + 1 - 1=k from rfl] at this;lia
theorem CF.w2 (h:CF ws xs o δ) {x:Str} (hx:x ∈ xs):((Bq ws δ x).map fun y=>2 ^ Ma ws xs δ y).sum<=2 ^ Ma ws xs δ x:=by
 by_cases e:Bq ws δ x=[]
 ·rw [e];exact QH _
 obtain ⟨y0,LP⟩:=RZ _ e;have q0:=h.brS_lt hx LP;refine QE (Cs (c:=2 ^ (Ma ws xs δ x - J4 ws δ x)) fun y hy=>RF (by decide) (by have:=h.brS_lt hx hy; lia)) ?_;refine QE (Rp (DT _) (Qo _)) ?_;rw [<-Nat.pow_add];refine RF (by decide) ?_;show J4 ws δ x + _<=_
 lia
theorem JI {u:Az} {z:Str}:(Bq (u :: ws) δ z).length=(Bq [u] δ z).length + (Bq ws δ z).length:=by
 unfold Bq BH;rw [Qk,Qk,Qk,show u :: ws=[u] ++ ws from rfl,Sk,RJ,Qz]
theorem L5 (nd:xs.Nodup) {u:Az} (hu:1<=u.2.2) (ne:u.1 ≠ u.2.1):(xs.map fun z=>(Bq [u] δ z).length).sum<=1:=by
 have one:∀ z,(Bq [u] δ z).length<=if u.1=z then (if u.2.2 + δ u.2.1=δ z then 1 else 0) else if u.2.1=z then (if u.2.2 + δ u.1=δ z then 1 else 0) else 0:=fun z=>by
  unfold Bq BH;rw [Qk];by_cases h1:u.1=z
  ·rw [if_pos h1,Rj,if_pos h1];by_cases q:u.2.2 + δ u.2.1=δ z
   ·rw [if_pos q];exact Rh _ _
   ·rw [if_neg q];simp [q]
  ·rw [if_neg h1,Rj,if_neg h1];by_cases h2:u.2.1=z
   ·rw [if_pos h2,if_pos h2];by_cases q:u.2.2 + δ u.1=δ z
    ·rw [if_pos q];exact Rh _ _
    ·rw [if_neg q];simp [q]
   ·rw [if_neg h2,if_neg h2];simp
 have le:∀ (a:Str),(∀ z,(Bq [u] δ z).length<=if z=a then 1 else 0)->(xs.map fun z=>(Bq [u] δ z).length).sum<=1:=fun a ha=>by
  have h1:=D5 (l:=xs) (f:=fun z=>(Bq [u] δ z).length) (g:=fun _=>0) (h:=fun z=>if z=a then 1 else 0) fun z _=>ha z
  have h2:=FD (x:=a) nd;lia
 by_cases q:u.2.2 + δ u.2.1=δ u.1
 ·refine le u.1 fun z=>QE (one z) ?_
  by_cases h1:u.1=z
  ·subst h1;rw [if_pos rfl,if_pos q,if_pos rfl];exact Qo _
  ·rw [if_neg h1];by_cases h2:u.2.1=z
   ·subst h2;rw [if_pos rfl,if_neg (by lia)];lia
   ·rw [if_neg h2];lia
 ·refine le u.2.1 fun z=>QE (one z) ?_
  by_cases h1:u.1=z
  ·subst h1;rw [if_pos rfl,if_neg q];lia
  ·rw [if_neg h1];by_cases h2:u.2.1=z
   ·subst h2;rw [if_pos rfl,if_pos rfl];split <;> lia
   ·rw [if_neg h2];lia
theorem HY (nd:xs.Nodup):∀ {ws:List Az},(∀ u ∈ ws,u.1 ≠ u.2.1/\1<=u.2.2)->(xs.map fun z=>(Bq ws δ z).length).sum<=ws.length
 | [],_=>by
  have:=Cs (l:=xs) (f:=fun z=>(Bq [] δ z).length) (c:=0) fun z _=>Qo 0
  lia
 | u :: ws,h=>by
  have h1:=L5 (δ:=δ) nd (h u Qy).2 (h u Qy).1;have h2:=HY nd (ws:=ws) fun v hv=>h v (Q3 _ hv)
  have e:(xs.map fun z=>(Bq (u :: ws) δ z).length)=xs.map fun z=>(Bq [u] δ z).length + (Bq ws δ z).length:=Rk fun z _=>JI
  have s:∀ l:List Str,(l.map fun z=>(Bq [u] δ z).length + (Bq ws δ z).length).sum=(l.map fun z=>(Bq [u] δ z).length).sum + (l.map fun z=>(Bq ws δ z).length).sum:=fun l=>by
   induction l with
   | nil=>rfl
   | cons a l ih=>
    rw [Qt,Qt,Qt,QG,QG,QG,ih];lia
  rw [e,s,QF];lia
theorem CF.brS_le (h:CF ws xs o δ) (few:ws.length<=xs.length) (x:Str):Ma ws xs δ x<=1:=by
 have h0:=HY (δ:=δ) h.xnd (ws:=ws) fun u hu=>⟨h.ne u hu,h.pos u hu⟩
 have h1:=D5 (l:=xs) (f:=fun z=>J4 ws δ z) (g:=fun z=>if z=o then 0 else 1) (h:=fun z=>(Bq ws δ z).length) fun z hz=>by
  unfold J4;by_cases e:z=o
  ·rw [if_pos e];lia
  ·rw [if_neg e];have:=RG.mpr (h.some hz e);lia
 have h2:=D5 (l:=xs) (f:=fun _:Str=>1) (g:=fun _=>0) (h:=fun z=>(if z=o then 0 else 1) + (if z=o then 1 else 0)) fun z _=>by split <;> lia
 have s:∀ l:List Str,(l.map fun z=>(if z=o then 0 else 1) + (if z=o then 1 else 0)).sum=(l.map fun z=>if z=o then 0 else 1).sum + (l.map fun z=>if z=o then 1 else 0).sum:=fun l=>by
  induction l with
  | nil=>rfl
  | cons a l ih=>
   rw [Qt,Qt,Qt,QG,QG,QG,ih];lia
 have c:∀ l:List Str,(l.map fun _=>1).sum=l.length:=fun l=>by
  induction l with
  | nil=>rfl
  | cons a l ih=>rw [Qt,QG,ih,QF]; lia
 have h3:=FD (x:=o) h.xnd;have h4:=D5 (l:=xs) (f:=fun z=>if δ z<=δ x then J4 ws δ z else 0) (g:=fun _=>0) (h:=fun z=>J4 ws δ z) fun z _=>by split <;> lia
 rw [s,c] at h2;unfold Ma;lia
theorem CF.weights (h:CF ws xs o δ) (sh:xs.length<=9\/ws.length<=xs.length):∃ f:Str->Nat,∀ x ∈ xs,1<=f x/\f x<=50000/\((Bq ws δ x).map f).sum<=f x:=by
 rcases sh with n9 | few
 ·refine ⟨fun x=>J2 (Ds xs δ x),fun x hx=>⟨Ir _,?_,h.w1 x⟩⟩;have:=Gw (δ:=δ) hx;exact QE (GB (show Ds xs δ x<=8 by lia)) (by decide)
 ·refine ⟨fun x=>2 ^ Ma ws xs δ x,fun x hx=>⟨Nat.one_le_two_pow,?_,h.w2 hx⟩⟩;exact QE (RF (by decide) (h.brS_le few x)) (by decide)
def Ft (st:Str->List Str):Nat->Str->Nat
 | 0,_=>1
 | n + 1,x=>1 + ((st x).map (Ft st n)).sum
theorem Ey {α:Type} {f g:α->Nat}:∀ {l:List α},(∀ y ∈ l,f y<=g y)->(l.map f).sum<=(l.map g).sum
 | [],_=>Qo _
 | y :: l,h=>by
  have h1:=h y Qy;have h2:=Ey (l:=l) fun z hz=>h z (Q3 _ hz)
  rw [Qt,Qt,QG,QG];lia
theorem G4 (st:Str->List Str):∀ (n:Nat) (x:Str),Ft st n x<=Ft st (n + 1) x
 | 0,x=>by show 1<=1 + _; lia
 | n + 1,x=>by
  show 1 + ((st x).map (Ft st n)).sum<=1 + ((st x).map (Ft st (n + 1))).sum
  have:=Ey (l:=st x) (f:=Ft st n) (g:=Ft st (n + 1)) fun y _=>G4 st n y
  lia
theorem Kt (st:Str->List Str) {n m:Nat} (h:n<=m) (x:Str):Ft st n x<=Ft st m x:=by
 induction h with
 | refl=>exact Qo _
 | step _ ih=>exact QE ih (G4 st _ x)
theorem CF.measure (h:CF ws xs o δ) (x:Str):((Bq ws δ x).map fun y=>Ft (Bq ws δ) (Ds xs δ y) y).sum < Ft (Bq ws δ) (Ds xs δ x) x:=by
 cases e:Ds xs δ x with
 | zero=>
  have:=h.few x;have z:Bq ws δ x=[]:=Rl.mp (by lia);rw [z];exact Nat.zero_lt_one
 | succ n=>
  have:=Ey (l:=Bq ws δ x) (f:=fun y=>Ft (Bq ws δ) (Ds xs δ y) y) (g:=Ft (Bq ws δ) n) fun y hy=>Kt _ (by have:=h.rkd_lt hy; lia) y
  show _ < 1 + _
  lia
end
inductive Wk (R:Str->Str->Prop) (o:Str):Str->List Str->Prop
 | one:Wk R o o [o]
 | cons {x y:Str} {p:List Str}:x ≠ o->R x y->Wk R o y p->Wk R o x (x :: p)
inductive Fc (R:Str->Str->Prop) (o:Str):Str->List Str->Prop
 | one:Fc R o o [o]
 | cons {x y:Str} {p:List Str}:x ≠ o->R x y->(∀ z,R x z->¬ z.cps.toList < y.cps.toList)->Fc R o y p->Fc R o x (x :: p)
theorem Fc.iff {R R':Str->Str->Prop} {o x:Str} {p:List Str} (h:Fc R o x p) (e:∀ x y,R x y ↔ R' x y):Fc R' o x p:=by
 induction h with
 | one=>exact .one
 | cons a b c _ ih=>exact .cons a ((e _ _).mp b) (fun z hz=>c z ((e _ _).mpr hz)) ih
theorem Fc.wk {R:Str->Str->Prop} {o x:Str} {p:List Str} (h:Fc R o x p):Wk R o x p:=by
 induction h with
 | one=>exact .one
 | cons a b _ _ ih=>exact .cons a b ih
theorem Lp {a b:Str} (h1:¬ a.cps.toList < b.cps.toList) (h2:¬ b.cps.toList < a.cps.toList):a=b:=by
 by_cases e:a=b
 ·exact e
 ·have:CD.s a ≠ CD.s b:=fun z=>e (by injection z)
  rcases IA this with z | z
  ·exact absurd (by simpa [B7] using z) h1
  ·exact absurd (by simpa [B7] using z) h2
theorem Fc.uniq {R:Str->Str->Prop} {o x:Str} {p q:List Str} (h:Fc R o x p) (g:Fc R o x q):p=q:=by
 induction h generalizing q with
 | one=>
  cases g with
  | one=>rfl
  | cons a=>exact absurd rfl a
 | cons a b c _ ih=>
  cases g with
  | one=>exact absurd rfl a
  | cons a' b' c' g'=>
   have e:=Lp (c' _ b) (c _ b');subst e;rw [ih g']
theorem Wk.head {R:Str->Str->Prop} {o x:Str} {p:List Str} (h:Wk R o x p):∃ q,p=x :: q:=by
 cases h with
 | one=>exact ⟨[],rfl⟩
 | cons=>exact ⟨_,rfl⟩
theorem Ff (a:CD) (p q:List CD):Bd (a :: p) (a :: q)=Bd p q:=by
 rw [Bd,if_pos rfl]
theorem Fc.le {R:Str->Str->Prop} {o x:Str} {g p:List Str} (h:Fc R o x g) (w:Wk R o x p):Bd (p.map CD.s) (g.map CD.s)=false:=by
 induction h generalizing p with
 | one=>
  cases w with
  | one=>exact Et _
  | cons a=>exact absurd rfl a
 | @cons x y g a b c hg ih=>
  cases w with
  | one=>exact absurd rfl a
  | @cons _ y' p _ b' w'=>
   rw [Qt,Qt,Ff];by_cases e:y'=y
   ·subst e;exact ih w'
   ·obtain ⟨q1,rfl⟩:=w'.head;obtain ⟨q2,rfl⟩:=hg.wk.head;rw [Qt,Qt,Bd,if_neg (fun z=>e (by injection z))];have:=c y' b';cases z:B7 (CD.s y') (CD.s y) with
    | false=>rfl
    | true=>exact absurd (by simpa [B7] using z) this
theorem G7:∀ {l:List Str},l ≠ []->∃ m ∈ l,∀ z ∈ l,¬ z.cps.toList < m.cps.toList
 | [a],_=>⟨a,Qy,fun z hz=>by rw [Qs.mp hz]; exact FZ _⟩
 | a :: b :: l,_=>by
  obtain ⟨m,hm,h⟩:=G7 (l:=b :: l) (by intro z; cases z);by_cases e:a.cps.toList < m.cps.toList
  ·refine ⟨a,Qy,fun z hz=>?_⟩;rcases Qn.mp hz with rfl | hz
   ·exact FZ _
   ·intro q;have t:B7 (CD.s z) (CD.s m)=true:=I0 (b:=CD.s a) (by simpa [B7] using q) (by simpa [B7] using e);exact h z hz (by simpa [B7] using t)
  ·refine ⟨m,Q3 _ hm,fun z hz=>?_⟩;rcases Qn.mp hz with rfl | hz
   ·exact e
   ·exact h z hz
theorem CF.grd {ws:List Az} {xs:List Str} {o:Str} {δ:Str->Int} (h:CF ws xs o δ):∀ (n:Nat) (x:Str),x ∈ xs->Ds xs δ x<=n->∃ g,Fc (fun x y=>y ∈ Bq ws δ x) o x g:=by
 intro n;induction n with
 | zero=>
  intro x hx hr;by_cases e:x=o
  ·subst e; exact ⟨_,.one⟩
  ·have:=h.few x;exact absurd (Rl.mp (by lia)) (h.some hx e)
 | succ n ih=>
  intro x hx hr;by_cases e:x=o
  ·subst e; exact ⟨_,.one⟩
  ·obtain ⟨m,hm,hl⟩:=G7 (h.some hx e);obtain ⟨g,hg⟩:=ih m (h.sub hm).1 (by have:=h.rkd_lt hm; lia);exact ⟨_,.cons e hm hl hg⟩
section
variable {prog:Program} {w:World} {A:Around} {R:Result->Shared->Prop} {I:Addr} {fp wr:List Addr} {n:Nat} {P:Nat->Value->Prop} {St:Nat->Heap->Prop} {g0:Heap} {kw:List (Str × Value)}
end
section
variable {prog:Program} {w:World} {A:Around} {E:Value->Shared->Prop} {s:Shared}
end
theorem Aw.free0 {H H':Hp} {a:Addr} (s:Aw H H') (h:H' a=none):H a=none:=by
 cases z:H a with
 | none=>rfl
 | some o=>rw [s _ _ z] at h; cases h
section
variable {X:Cx} {pins:List (Addr × Obj)} {σ Ap:St} {H H':Hp} {s2 s':Shared} {scope:Scope} {cl:List (Str × Addr)} {N:List Str} {fp:List Addr} {C D:Addr} {Bb h':Heap} {t':Nat}
end
theorem IL {a:Addr} {kvs:List (A5 × V)} {o:Obj}:Me (Mh a kvs o) (kvs.map fun p=>kV p.1) (fun H=>H a=some (.frz o (.dK kvs))):=
 ⟨fun i H q Bc=>⟨q,by rwa [Qk] at Bc⟩,fun i H x H' q ⟨e,k,v,e1,e2⟩=>⟨e,by rw [Q7,e1,e2]; rfl⟩,fun H q=>⟨q,by rw [Qk]; exact Qo _⟩⟩
theorem Dg {α β:Type} {R:α->β->Prop} {a c:List α} {b d:List β} (h:Paired R a b) (h2:Paired R c d):Paired R (a ++ c) (b ++ d):=by
 induction h with
 | nil=>exact h2
 | cons x _ ih=>exact .cons x ih
theorem IK {α β:Type} {R S:α->β->Prop} {a:List α} {b:List β} (h:Paired R a b) (f:∀ x y,R x y->S x y):Paired S a b:=by
 induction h with
 | nil=>exact .nil
 | cons x _ ih=>exact .cons (f _ _ x) ih
theorem Bt {A B:Hp} {a:Addr} {o:HO} (s:Aw A B) (n:A a=none):Aw A (upd B a o):=fun b u e=>by rw [Af (Ai e n)]; exact s _ _ e
def F6 (H:Hp) (v:V) (w:List Str):Prop:=∃ l,v=.ref l/\H l=some (.lst (w.map V.str))
theorem F6.same {H H':Hp} {v:V} {w:List Str} (h:F6 H v w) (s:Aw H H'):F6 H' v w:=let ⟨l,a,b⟩:=h; ⟨l,a,s _ _ b⟩
theorem F6.at {X:Cx} {pins:List (Addr × Obj)} {σ:St} {H:Hp} {s:Shared} {v:V} {u:Value} {k:List Str} (I:Ak X pins σ H s) (r:As v u) (h:F6 H v k):HD s.heap u k:=by
 obtain ⟨l,rfl,hl⟩:=h;cases r
 obtain ⟨Ar,rv,pl,hz⟩:=I.list (A6.of hl);exact ⟨l,Ar,rfl,pl.isList,rv⟩
theorem LJ {X:Cx} {pins:List (Addr × Obj)} {σ:St} {H:Hp} {s:Shared} (I:Ak X pins σ H s) {vs:List V} {Ar:List Value} {ks:List (List Str)} (rv:A4 vs Ar) (hl:vs.length=ks.length) (hk:∀ (i:Nat) v k,vs[i]? = some v->ks[i]? = some k->F6 H v k) :
  ∀ (i:Nat) (v:Value),Ar[i]? = some v->∃ k,ks[i]? = some k/\HD s.heap v k/\∃ x,vs[i]? = some x/\As x v:=fun i v e=>by
 have il:Ar.length=ks.length:=by rw [<-rv.length,hl]
 have hi:i < Ar.length:=(Qx.mp e).1;have e1:vs[i]? = some vs[i]:=Qi (by lia);have e2:ks[i]? = some ks[i]:=Qi (by lia);obtain ⟨v',e3,r3⟩:=rv.get e1;rw [e] at e3;cases e3
 exact ⟨_,e2,(hk i _ _ e1 e2).at I r3,_,e1,r3⟩
theorem GK {X:Cx} (hc:X.calm=true) (hu:X.A.units + 64 < cLine):Bp X (.builtin "min") (fun xs H Q=>∃ (a:Addr) (vs:List V) (ks:List (List Str)),xs=[.ref a]/\H a=some (.lst vs)/\vs.length=ks.length/\ks ≠ []/\(∀ (i:Nat) v k,vs[i]? = some v->ks[i]? = some k->F6 H v k) /\
  ∀ (i:Nat) v k,vs[i]? = some v->ks[i]? = some k->(∀ k' ∈ ks,Bd (k'.map CD.s) (k.map CD.s)=false)->Q v H):=by
 intro pins s σ H xs us Q I r h;obtain ⟨a,vs,ks,rfl,ha,hl,hne,hk,q⟩:=h;obtain ⟨u,rfl,ru⟩:=Ce r;cases ru
 obtain ⟨Ar,rv,pl,hz⟩:=I.list (A6.of ha);have il:Ar.length=ks.length:=by rw [<-rv.length,hl]
 have pos:0 < ks.length:=RG.mpr hne;have kat:=LJ I rv hl hk;refine Fu (bt:=fun i j=>Bd ((ks.getD i []).map CD.s) ((ks.getD j []).map CD.s)) (I.ok.hd hc) pl.isList (by lia) (fun i j vi vj s' Q' E' g hi hj hQ=>?_) fun v h2 tk hv k2=>?_
 ·obtain ⟨ki,e1,a1,_⟩:=kat i vi hi;obtain ⟨kj,e2,a2,_⟩:=kat j vj hj;have d1:ks.getD i []=ki:=by rw [Q6,e1]; rfl
  have d2:ks.getD j []=kj:=by rw [Q6,e2]; rfl
  dsimp only at hQ;rw [d1,d2] at hQ;exact Kw (a1.keep g) (a2.keep g) (by rw [PySem.Around.in1_units]; lia) _ _ _ _ hQ
 ·obtain ⟨k,e1,a1,x,e3,r3⟩:=kat _ v hv;obtain ⟨b1,b2⟩:=Ee (fun i j=>Bd ((ks.getD i []).map CD.s) ((ks.getD j []).map CD.s)) (fun i=>(ks.getD i []).map CD.s) (fun _ _=>rfl) (Ar.length - 1);refine ⟨x,H,I.kept k2,r3,q _ x k e3 e1 fun k' PN=>?_⟩;obtain ⟨j,hj,ej⟩:=Q5 PN;have:=b2 j (by lia);have d1:ks.getD (argBest (fun i j=>Bd ((ks.getD i []).map CD.s) ((ks.getD j []).map CD.s)) (Ar.length - 1)) []=k:=by rw [Q6,e1]; rfl
  have d2:ks.getD j []=k':=by rw [Q6,Qi hj,ej]; rfl
  rw [d1,d2] at this;exact this
def Gu (K:Qj):Sp:=fun vs H Q _=>∃ (p a:Addr) (ns:List Int) (i l:Int),vs=[.ref p]/\A8 K H p a ns i l/\ns.length<=63 /\
 ∀ (H':Hp) (q D E B:Addr) (xs bs:List Str) (us:List V) (ws:List Az) (i' l':Int),A8 K H' p a ns i' l'->AK p H H'->H' q=some (.tup [.ref D,.ref E,.ref B])->H' D=some (.lst (xs.map V.str))->H' E=some (.lst us)->A7 H' us (ws.map B2) ->
  CL xs ws->ws.length < 64->H' B=some (.lst (bs.map V.str))->(∀ x ∈ bs,x ∈ xs)->1<=xs.length->xs.length<=30->xs.Nodup->(∀ x ∈ xs,Cc x=true)->(xs.length<=9\/ws.length<=xs.length)->Q (.ref q) H'
def CM (H:Hp) (N:Addr) (xs:List Str) (ws:List Az):Prop:=∃ nv:List (Str × V),H N=some (.dK (sK nv))/\nv.map (·.1)=xs/\∀ x v,(x,v) ∈ nv->∃ l vs,v=.ref l/\H l=some (.lst vs)/\A7 H vs ((BH ws x).map FK)
theorem CM.same {H H':Hp} {N:Addr} {xs:List Str} {ws:List Az} (h:CM H N xs ws) (s:Aw H H'):CM H' N xs ws:=by
 obtain ⟨nv,a,b,c⟩:=h;exact ⟨nv,s _ _ a,b,fun x v hm=>let ⟨l,vs,e1,e2,e3⟩:=c x v hm; ⟨l,vs,e1,s _ _ e2,e3.mono fun b o z _=>s _ _ z⟩⟩
def HL (K:Qj):Sp:=fun vs H Q _=>∃ (D E:Addr) (xs:List Str) (us:List V) (ws:List Az),vs=[.ref D,.ref E]/\H D=some (.lst (xs.map V.str))/\xs.Nodup/\xs.length<=30/\H E=some (.lst us)/\A7 H us (ws.map B2)/\ws.length < 64/\CL xs ws /\
 ∀ (H':Hp) (N:Addr),Aw H H'->H N=none->CM H' N xs ws->Q (.ref N) H'
def HQ (K:Qj):Sp:=fun vs H Q _=>∃ (N A:Addr) (x o:Str) (xs:List Str) (ws:List Az) (M:Str->Str->Option Int) (δ:Str->Int) (c:Nat),vs=[.ref N,.ref A,.str x,.str o]/\CM H N xs ws/\ws.length < 64/\MD H A M c/\CF ws xs o δ/\(∀ y ∈ xs,M y o=some (δ y))/\xs.length<=30/\(xs.length<=9\/ws.length<=xs.length)/\x ∈ xs /\
 ∀ (H':Hp) (L:Addr) (g:List Str),Aw H H'->H' L=some (.lst (g.map V.str))->Fc (Ib ws δ) o x g->g.length<=31->Q (.ref L) H'
def JM (K:Qj):Sp:=fun vs H Q _=>∃ (B F:Addr) (x:Str) (ps:List Str) (ds:List Addr) (ws:List Az) (nvF:List (Str × V)) (δ:Str->Int),vs=[.ref B,.ref F,.str x]/\ps.Nodup/\ps.length<=30/\NB H B ps ds (Gm ws) 128/\La H ps ds (AG ws)/\(∀ u ∈ ws,u.1 ∈ ps/\u.2.1 ∈ ps)/\F ∉ ds /\
 H F=some (.dK (sK nvF))/\nvF.map (·.1)=ps/\(∀ y v,(y,v) ∈ nvF->v=.int (δ y))/\x ∈ ps/\(∀ x y l l',AG ws x y l->AG ws x y l'->l=l')/\(∃ y,Ib ws δ x y) /\
 ∀ (H':Hp) (y:Str),Aw H H'->Ib ws δ x y->(∀ z,Ib ws δ x z->¬ z.cps.toList < y.cps.toList)->Q (.str y) H'
def JL (K:Qj):Sp:=fun vs H Q _=>∃ (q:Addr) (ps:List Str) (ws:List Az) (r x o:Str) (δ:Str->Int),vs=[.ref q,.str x,.str o]/\Eg H q ps ws r/\(∀ u ∈ ws,1<=u.2.2)/\(∀ x y l l',AG ws x y l->AG ws x y l'->l=l')/\x ∈ ps/\o ∈ ps/\(∀ y ∈ ps,F7 ws o y (δ y)) /\
 ∀ (H':Hp) (L:Addr) (g:List Str),Aw H H'->H L=none->H' L=some (.lst (g.map V.str))->Fc (Ib ws δ) o x g->g.length<=31->Q (.ref L) H'
theorem DK {ws:List Az} {ps:List Str} (he:∀ u ∈ ws,u.1 ∈ ps/\u.2.1 ∈ ps) {x y:Str} {l:Int} (e:AG ws x y l):x ∈ ps/\y ∈ ps:=by
 obtain ⟨u,hu,e,_⟩:=e;obtain ⟨a,b⟩:=he u hu;rcases e with ⟨rfl,rfl⟩ | ⟨rfl,rfl⟩
 ·exact ⟨a,b⟩
 ·exact ⟨b,a⟩
theorem Kp {ws:List Az} {ps:List Str} {o x:Str} {δ:Str->Int} (he:∀ u ∈ ws,u.1 ∈ ps/\u.2.1 ∈ ps) (ds:∀ y ∈ ps,F7 ws o y (δ y)) (hx:x ∈ ps) (ne:x ≠ o):∃ y,Ib ws δ x y:=by
 have d:=(ds x hx).symm;have w:=d.1;generalize hm:δ x=m at w;cases w with
 | nil=>exact absurd rfl ne
 | @cons _ y _ l m e w=>
  obtain ⟨_,hy⟩:=DK he e;have d2:=(ds y hy).symm;have h1:=d2.2 m w;have h2:=d.2 (l + δ y) (.cons e d2.1);exact ⟨y,l,e,by lia⟩
theorem Kq {ws:List Az} {δ:Str->Int} (hp:∀ u ∈ ws,1<=u.2.2) {x y:Str} (h:Ib ws δ x y):δ y < δ x:=by
 obtain ⟨l,⟨u,hu,_,rfl⟩,e⟩:=h;have:=hp u hu;lia
def IC:Stmt->List Stmt
 | .While _ b _ _=>b
 | _=>[]
def GR (H:Hp) (nv:List (Str × V)) (f:Str->List J5):Prop:=∀ x v,(x,v) ∈ nv->∃ l vs,v=.ref l/\H l=some (.lst vs)/\A7 H vs ((f x).map FK)
theorem GR.add {H:Hp} {nv:List (Str × V)} {f:Str->List J5} (h:GR H nv f) (nk:(nv.map (·.1)).Nodup) (nn:(nv.map (·.2)).Nodup) {a:Str} {l T:Addr} {vs:List V} {r:J5} (ha:(a,.ref l) ∈ nv) (hl:H l=some (.lst vs)) (hT:H T=none) :
  GR (upd (upd H T (.tup [.str r.1,.int r.2])) l (.lst (vs ++ [.ref T]))) nv (fun x=>if x=a then f x ++ [r] else f x):=by
 intro x v hm;have sT:=Ac (o:=.tup [.str r.1,.int r.2]) hT;have hlT:=sT _ _ hl;have tk:∀ b ys,H b=some (.tup ys)->(upd (upd H T (.tup [.str r.1,.int r.2])) l (.lst (vs ++ [.ref T]))) b=some (.tup ys):=fun b ys z=>by
  rw [Af (Bn (sT _ _ z) hlT (fun q=>by cases q))];exact sT _ _ z
 obtain ⟨l',Dd,rfl,e2,e3⟩:=h x v hm;by_cases e:x=a
 ·subst e;have q:=Gp nk hm ha;cases q
  rw [hl] at e2;cases e2
  refine ⟨l,_,rfl,Ab,?_⟩;dsimp only;rw [if_pos rfl,Qw];refine ER (Gv e3 tk) (.cons (HU ?_) .nil);rw [Af (Bn (Ab (H:=H) (a:=T) (o:=.tup [.str r.1,.int r.2])) hlT (fun q=>by cases q))];exact Ab
 ·have nl:l' ≠ l:=fun q=>by
   subst q;have:∀ {m:List (Str × V)} {x a:Str} {w:V},(m.map (·.2)).Nodup->(x,w) ∈ m->(a,w) ∈ m->x=a:=fun {m}=>by
    induction m with
    | nil=>intro x a w _ h; cases h
    | cons p m ih=>
     intro x a w nd h1 h2;rw [Qt,QI] at nd;rcases Qn.mp h1 with h1 | h1 <;> rcases Qn.mp h2 with h2 | h2
     ·rw [<-h1] at h2; cases h2; rfl
     ·exact absurd (Q0.mpr ⟨_,h2,by rw [<-h1]⟩) nd.1
     ·exact absurd (Q0.mpr ⟨_,h1,by rw [<-h2]⟩) nd.1
     ·exact ih nd.2 h1 h2
   exact e (this nn hm ha)
  exact ⟨l',Dd,rfl,by rw [Af nl]; exact sT _ _ e2,by dsimp only; rw [if_neg e]; exact Gv e3 tk⟩
theorem IT {ws:List Az} {u:Az} {x:Str} (ne:u.1 ≠ u.2.1):BH (ws ++ [u]) x=if x=u.2.1 then (if x=u.1 then BH ws x ++ [(u.2.1,u.2.2)] else BH ws x) ++ [(u.1,u.2.2)] else if x=u.1 then BH ws x ++ [(u.2.1,u.2.2)] else BH ws x:=by
 unfold BH;rw [Sk];by_cases h1:u.1=x
 ·have h2:¬ x=u.2.1:=fun z=>ne (h1.trans z)
  rw [if_neg h2,if_pos h1.symm];simp [h1]
 ·have OY:¬ x=u.1:=fun z=>h1 z.symm
  by_cases h2:u.2.1=x
  ·rw [if_pos h2.symm,if_neg OY];simp [h1,h2]
  ·rw [if_neg (fun z=>h2 z.symm),if_neg OY];simp [h1,h2]
theorem CM.get {H:Hp} {N:Addr} {xs:List Str} {ws:List Az} (h:CM H N xs ws) (nd:xs.Nodup) {x:Str} (hx:x ∈ xs):∃ l vs,Bo H N (.str x) (some (.ref l))/\H l=some (.lst vs)/\A7 H vs ((BH ws x).map FK):=by
 obtain ⟨nv,a,b,c⟩:=h;rw [<-b] at hx nd;obtain ⟨⟨y,v⟩,hm,e⟩:=Q0.mp hx;have e':y=x:=e;subst e';obtain ⟨l,vs,rfl,e2,e3⟩:=c y v hm;refine ⟨l,vs,?_,e2,e3⟩;rw [<-Ci nd hm];exact Bo.k (k:=Sum.inr y) a
theorem Hg {H:Hp} {F:Addr} {nv:List (Str × V)} {x:Str} (h:Rd H F (.dK (sK nv))) (hx:x ∈ nv.map (·.1)):∃ v,Bo H F (.str x) (some v)/\(x,v) ∈ nv:=by
 have e:=DX (nv:=nv) (y:=x);rw [decide_eq_true hx] at e;cases z:AX (sK nv) (Sum.inr x:A5) with
 | none=>rw [z] at e; cases e
 | some v=>exact ⟨v,.inl ⟨_,Sum.inr x,h,rfl,z.symm⟩,D8 z⟩
def C1 (o:Str) (w:List Str):Str:=w.getLast?.getD o
theorem BD (o:Str) (pre:List Str) (l:Str):C1 o (pre ++ [l])=l:=by
 unfold C1;rw [List.getLast?_append];rfl
structure IB (ws:List Az) (xs:List Str) (o x:Str) (δ:Str->Int) (f:Str->Nat) (g:List Str) (wl whl:List (List Str)):Prop where
 go:∀ w ∈ wl,∃ pre last,w=pre ++ [last]/\last ∈ xs/\(∀ p,Wk (fun x y=>y ∈ Bq ws δ x) o last p->Wk (fun x y=>y ∈ Bq ws δ x) o x (pre ++ p))/\pre.length + Ds xs δ last<=30
 whole:∀ w ∈ whl,Wk (fun x y=>y ∈ Bq ws δ x) o x w/\w.length<=31
 first:g ∈ whl\/∃ w ∈ wl,∃ pre last p,w=pre ++ [last]/\g=pre ++ p/\Fc (fun x y=>y ∈ Bq ws δ x) o last p
 few:(wl.map fun w=>f (C1 o w)).sum + whl.length<=50000
theorem Dp (a b:List Nat):(a ++ b).sum=a.sum + b.sum:=by
 induction a with
 | nil=>simp
 | cons x a ih=>rw [S6,QG,QG,ih]; lia
theorem IB.lens {ws:List Az} {xs:List Str} {o x:Str} {δ:Str->Int} {f:Str->Nat} {g:List Str} {wl whl:List (List Str)} (h:IB ws xs o x δ f g wl whl) (hf:∀ x ∈ xs,1<=f x):wl.length + whl.length<=50000:=by
 have h1:∀ l:List (List Str),(∀ w ∈ l,1<=f (C1 o w))->l.length<=(l.map fun w=>f (C1 o w)).sum:=fun l=>by
  induction l with
  | nil=>intro _; exact Qo _
  | cons w l ih=>
   intro hl;have:=hl w Qy;have:=ih fun v hv=>hl v (Q3 _ hv)
   rw [Qt,QG,QF];lia
 have h2:=h1 wl fun w hw=>by
  obtain ⟨pre,last,rfl,hl,_⟩:=h.go w hw;rw [BD];exact hf last hl
 have:=h.few;lia
theorem IB.done {ws:List Az} {xs:List Str} {o x:Str} {δ:Str->Int} {f:Str->Nat} {g pre:List Str} {wl whl:List (List Str)} (h:IB ws xs o x δ f g (wl ++ [pre ++ [o]]) whl) (hf:1<=f o):IB ws xs o x δ f g wl (whl ++ [pre ++ [o]]):=by
 refine ⟨fun w hw=>h.go w (QD _ hw),fun w hw=>?_,?_,?_⟩
 ·rcases QA.mp hw with hw | hw
  ·exact h.whole w hw
  ·rw [Qs.mp hw];obtain ⟨Kd,last,e,_,c,d⟩:=h.go _ (Qq _ (Qs.mpr rfl));obtain ⟨e1,e2⟩:=R6 e rfl;subst e1;injection e2 with e2;subst e2;exact ⟨c _ .one,by rw [Qz]; show pre.length + 1<=31; lia⟩
 ·rcases h.first with hg | ⟨w,hw,Kd,last,p,e1,e2,e3⟩
  ·exact .inl (QD _ hg)
  ·rcases QA.mp hw with hw | hw
   ·exact .inr ⟨w,hw,Kd,last,p,e1,e2,e3⟩
   ·rw [Qs.mp hw] at e1;obtain ⟨e4,e5⟩:=R6 e1 rfl;injection e5 with e5;subst e4 e5;cases e3 with
    | one=>exact .inl (by rw [e2]; exact Qq _ (Qs.mpr rfl))
    | cons a=>exact absurd rfl a
 ·have:=h.few;rw [Qw,Dp,Qt,R7,QG,SM,BD] at this;rw [Qz,Ra];lia
theorem IB.on {ws:List Az} {xs:List Str} {o x last:Str} {δ:Str->Int} {f:Str->Nat} {g pre:List Str} {wl whl:List (List Str)} (pt:CF ws xs o δ) (hf:∀ x ∈ xs,((Bq ws δ x).map f).sum<=f x) (h:IB ws xs o x δ f g (wl ++ [pre ++ [last]]) whl) (ne:last ≠ o) :
  IB ws xs o x δ f g (wl ++ (Bq ws δ last).map fun y=>(pre ++ [last]) ++ [y]) whl:=by
 obtain ⟨Kd,Mw,e,hl,c,d⟩:=h.go _ (Qq _ (Qs.mpr rfl));obtain ⟨e1,e2⟩:=R6 e rfl;injection e2 with e2;subst e1 e2;refine ⟨fun w hw=>?_,h.whole,?_,?_⟩
 ·rcases QA.mp hw with hw | hw
  ·exact h.go w (QD _ hw)
  ·obtain ⟨y,hy,rfl⟩:=Q0.mp hw;refine ⟨_,y,rfl,(pt.sub hy).1,fun p hp=>?_,?_⟩
   ·rw [RM];exact c _ (.cons ne hy hp)
   ·have:=pt.rkd_lt hy;rw [Qz,Ra];lia
 ·rcases h.first with hg | ⟨w,hw,Kd,Mw,p,e1,e2,e3⟩
  ·exact .inl hg
  ·rcases QA.mp hw with hw | hw
   ·exact .inr ⟨w,QD _ hw,Kd,Mw,p,e1,e2,e3⟩
   ·rw [Qs.mp hw] at e1;obtain ⟨e4,e5⟩:=R6 e1 rfl;injection e5 with e5;subst e4 e5;cases e3 with
    | one=>exact absurd rfl ne
    | @cons _ y p a b c' d'=>
     refine .inr ⟨(pre ++ [last]) ++ [y],Qq _ (Q0.mpr ⟨y,b,rfl⟩),_,y,p,rfl,?_,d'⟩;rw [e2,RM];rfl
 ·have:=h.few;rw [Qw,Dp,Qt,R7,QG,SM,BD] at this;rw [Qw,Dp,Rc];have e:((fun w=>f (C1 o w)) ∘ fun y=>(pre ++ [last]) ++ [y])=f:=by
   funext y;show f (C1 o ((pre ++ [last]) ++ [y]))=f y
   rw [BD]
  rw [e];have:=hf last hl;lia
theorem DZ {α β:Type} {R:α->β->Prop}:∀ {a:List α} {b:List β},Paired R a b->a ≠ []->∃ a' x b' y,a=a' ++ [x]/\b=b' ++ [y]/\Paired R a' b'/\R x y
 | [x],[y],.cons r .nil,_=>⟨[],x,[],y,rfl,rfl,.nil,r⟩
 | x :: x2 :: a,y :: b,.cons r t,_=>by
  obtain ⟨a',u,b',v,e1,e2,e3,e4⟩:=DZ t (by intro z; cases z);exact ⟨x :: a',u,y :: b',v,by rw [e1]; rfl,by rw [e2]; rfl,.cons r e3,e4⟩
theorem Df {α β:Type} {R:α->β->Prop} {a:List α} {b:List β} (h:Paired R a b):a.length=b.length:=by
 induction h with
 | nil=>rfl
 | cons _ _ ih=>rw [QF,QF,ih]
theorem E4 {α β:Type} {R:α->β->Prop} {a:List α} {b:List β} (h:Paired R a b):∀ (i:Nat) x y,a[i]? = some x->b[i]? = some y->R x y:=by
 induction h with
 | nil=>intro i x y e; cases e
 | cons r _ ih=>
  intro i x y e1 e2;cases i with
  | zero=>cases e1; cases e2; exact r
  | succ i=>exact ih i x y e1 e2
theorem Eo {H:Hp} {l W0:Addr} {w:List Str} {vs:List V} (h:H l=some (.lst (w.map V.str))) (ne:w ≠ []) (hW:H W0=some (.lst vs)) (rf:∀ v ∈ vs,∃ a,v=.ref a):l ≠ W0:=by
 rintro rfl;rw [hW] at h;injection h with h;injection h with h;cases w with
 | nil=>exact ne rfl
 | cons y w=>
  obtain ⟨a,e⟩:=rf (.str y) (by rw [h]; exact Qy);cases e
theorem Cb {H:Hp} {W0:Addr} {vs:List V} {o:HO} (hW:H W0=some (.lst vs)) (rf:∀ v ∈ vs,∃ a,v=.ref a) {a:List V} {b:List (List Str)} (h:Paired (F6 H) a b):(∀ q ∈ b,q ≠ [])->Paired (F6 (upd H W0 o)) a b:=by
 induction h with
 | nil=>intro _; exact .nil
 | cons r _ ih=>
  intro hn;obtain ⟨l',e1,e2⟩:=r;exact .cons ⟨l',e1,by rw [Af (Eo e2 (hn _ Qy) hW rf)]; exact e2⟩ (ih fun u hu=>hn u (Q3 _ hu))
theorem B1 {H H':Hp} {a:List V} {b:List (List Str)} (h:Paired (F6 H) a b) (s:Aw H H'):Paired (F6 H') a b:=IK h fun _ _ z=>z.same s
theorem Ea {H:Hp} {a:List V} {b:List (List Str)} (h:Paired (F6 H) a b):∀ v ∈ a,∃ x,v=.ref x:=by
 induction h with
 | nil=>exact fun v hv=>nomatch hv
 | cons r _ ih=>exact fun v hv=>(Qn.mp hv).elim (fun e=>let ⟨l,z,_⟩:=r; ⟨l,e.trans z⟩) (ih v)
theorem IB.ne1 {ws:List Az} {xs:List Str} {o x:Str} {δ:Str->Int} {f:Str->Nat} {g:List Str} {wl whl:List (List Str)} (h:IB ws xs o x δ f g wl whl):∀ w ∈ wl,w ≠ []:=fun w hw=>by
 obtain ⟨pre,last,rfl,_⟩:=h.go w hw;simp
theorem IB.ne2 {ws:List Az} {xs:List Str} {o x:Str} {δ:Str->Int} {f:Str->Nat} {g:List Str} {wl whl:List (List Str)} (h:IB ws xs o x δ f g wl whl):∀ w ∈ whl,w ≠ []:=fun w hw=>by
 obtain ⟨q,rfl⟩:=(h.whole w hw).1.head;simp
def At (K:Qj) (n:Str) (st:Stmt) (f:Addr) (fd:FuncData):Prop:=Rb K mainGlobals n=some (some (.ref f))/\D4 K n n st f fd
section
variable {K:Qj} {h:Heap} {mg:Str->Option Value} {n p q r t u:Str} {st:Stmt} {f:Addr} {fd:FuncData}
theorem at_mk {oc:Value} {od an:Option Addr} {osl:Array (Option Value)} {kV doc pm cdv ct:Value} (a:Rb K mainGlobals n=some (some (.ref f))) (l:K.lookup f=some ⟨oc,od,.func (Rm n n (C5 st) (Bx st) (Am st) .none kV doc pm an cdv ct),osl⟩)
  (c:R9 K cdv n=true) (k:R8 K (.ref f)=true):At K n st f (Rm n n (C5 st) (Bx st) (Am st) .none kV doc pm an cdv ct):=⟨a,Nz l c k⟩
abbrev BA (n:Str) (st:Stmt) (us:List Value) (ps:List (Str × Value)):Prop:=∀ (kV doc pm:Value) (an:Option Addr) (cdv ct:Value),bindArgs (Rm n n (C5 st) (Bx st) (Am st) .none kV doc pm an cdv ct) ⟨us,[]⟩=pure ps
theorem fa1 (X:K.In h) (G:h.Ns mainGlobals mg) (A:At K n st f fd) (hb:∀ x,BA n st [x] [(p,x)]):Fn K mg n st [p] f fd:=⟨A.2,R0 X G A.1,A.2.binds fun _ _ _ _ _ _ us hl=>by obtain ⟨x,rfl⟩:=len1 hl; exact hb ..⟩
theorem M5 (X:K.In h) (G:h.Ns mainGlobals mg) (A:At K n st f fd) (hb:∀ x y,BA n st [x,y] [(p,x),(q,y)]):Fn K mg n st [p,q] f fd:=⟨A.2,R0 X G A.1,A.2.binds fun _ _ _ _ _ _ us hl=>by obtain ⟨x,y,rfl⟩:=len2 hl; exact hb ..⟩
theorem fa3 (X:K.In h) (G:h.Ns mainGlobals mg) (A:At K n st f fd) (hb:∀ x y z,BA n st [x,y,z] [(p,x),(q,y),(r,z)]):Fn K mg n st [p,q,r] f fd:=⟨A.2,R0 X G A.1,A.2.binds fun _ _ _ _ _ _ us hl=>by obtain ⟨x,y,z,rfl⟩:=len3 hl; exact hb ..⟩
theorem fa4 (X:K.In h) (G:h.Ns mainGlobals mg) (A:At K n st f fd) (hb:∀ x y z w,BA n st [x,y,z,w] [(p,x),(q,y),(r,z),(t,w)]):Fn K mg n st [p,q,r,t] f fd:=⟨A.2,R0 X G A.1,A.2.binds fun _ _ _ _ _ _ us hl=>by obtain ⟨x,y,z,w,rfl⟩:=len4 hl; exact hb ..⟩
end
end L2
namespace K05
open PySem L2
def top (i:Nat):Stmt:=PySem.Challenge.pw_openhouses_k05_first_paths.main.body.getD i (.Pass ⟨0,0,0,0⟩)
abbrev B4:Stmt:=top 1
theorem CV:AF ["web","places","ways","beside","one","other","length"] ["web"] (Am B4):=⟨rfl,rfl,rfl,by decide +kernel,rfl,by decide +kernel,by decide +kernel⟩
abbrev FG:Stmt:=top 3
theorem HS:AF ["web","place","told"] ["web","place"] (Am FG):=⟨rfl,rfl,rfl,by decide +kernel,rfl,by decide +kernel,by decide +kernel⟩
abbrev CN:Stmt:=top 4
theorem E1:AF ["web","starts","beside","reached","settled","so_far","start","here","name","by_here"] ["web","starts"] (Am CN):=⟨rfl,rfl,rfl,by decide +kernel,rfl,by decide +kernel,by decide +kernel⟩
abbrev FF:Stmt:=top 5
theorem HR:AF ["web","one","other","beside","left","places"] ["web","one","other"] (Am FF):=⟨rfl,rfl,rfl,by decide +kernel,rfl,by decide +kernel,by decide +kernel⟩
abbrev BO:Stmt:=top 6
theorem CU:AF ["beside","left","here"] ["beside","left","here"] (Am BO):=⟨rfl,rfl,rfl,by decide +kernel,rfl,by decide +kernel,by decide +kernel⟩
abbrev CO:Stmt:=top 8
theorem He:AF ["_law_script"] ["_law_script"] (Am CO):=⟨rfl,rfl,rfl,by decide +kernel,rfl,by decide +kernel,by decide +kernel⟩
abbrev Cu:Stmt:=top 9
theorem AN:AF ["_law_pen_here","_law_many","_law_digit","_law_script","_law_at","_law_cell","_law_number"] ["_law_pen_here","_law_many"] (Am Cu):=⟨rfl,rfl,rfl,by decide +kernel,rfl,by decide +kernel,by decide +kernel⟩
abbrev B0:Stmt:=top 10
theorem Dq:AF ["_law_pen_here","_law_many","_law_letters","_law_names_here","_law_k","_law_name","_law_j","_law_spare"] ["_law_pen_here","_law_many"] (Am B0):=⟨rfl,rfl,rfl,by decide +kernel,rfl,by decide +kernel,by decide +kernel⟩
abbrev BP:Stmt:=top 11
theorem CW:AF ["_law_pen_here","_law_kind"] ["_law_pen_here"] (Am BP):=⟨rfl,rfl,rfl,by decide +kernel,rfl,by decide +kernel,by decide +kernel⟩
abbrev AS:Stmt:=top 12
theorem Cf:AF ["_law_pen_here","_law_names_here","_law_shape","_law_ways_here","_law_k","_law_there","_law_j","_law_other"] ["_law_pen_here","_law_names_here"] (Am AS):=⟨rfl,rfl,rfl,by decide +kernel,rfl,by decide +kernel,by decide +kernel⟩
abbrev Cy:Stmt:=top 13
theorem DW:AF ["_law_names_here","_law_ways_here","_law_put"] ["_law_names_here","_law_ways_here"] (Am Cy):=⟨rfl,rfl,rfl,by decide +kernel,rfl,by decide +kernel,by decide +kernel⟩
abbrev Cw:Stmt:=top 14
theorem DV:AF ["_law_names_here","_law_ways_here","_law_much_here","_law_name","_law_one","_law_other","_law_length_here","_law_middle","_law_found"] ["_law_names_here","_law_ways_here"] (Am Cw):=⟨rfl,rfl,rfl,by decide +kernel,rfl,by decide +kernel,by decide +kernel⟩
abbrev Cv:Stmt:=top 15
theorem DU:AF ["_law_names_here","_law_ways_here","_law_near_here","_law_name","_law_one","_law_other","_law_length_here"] ["_law_names_here","_law_ways_here"] (Am Cv):=⟨rfl,rfl,rfl,by decide +kernel,rfl,by decide +kernel,by decide +kernel⟩
abbrev Bl:Stmt:=top 16
theorem Ct:AF ["_law_near_here","_law_much_here","_law_one","_law_other","_law_walks","_law_whole","_law_walk","_law_here","_law_steps"] ["_law_near_here","_law_much_here","_law_one","_law_other"] (Am Bl):=⟨rfl,rfl,rfl,by decide +kernel,rfl,by decide +kernel,by decide +kernel⟩
abbrev Cg:Stmt:=top 17
theorem Dr:AF ["_law_pen_here","_law_names_here","_law_ways_here"] ["_law_pen_here"] (Am Cg):=⟨rfl,rfl,rfl,by decide +kernel,rfl,by decide +kernel,by decide +kernel⟩
abbrev JU:Stmt:=top 18
theorem JT:AF ["_law_script","_law_pen_here","_law_turn","_law_names_here","_law_ways_here","_law_asked","_law_chart_here","_law_near_here","_law_much_here","_law_one","_law_other","_law_due","_law_told"] ["_law_script"] (Am JU):=⟨rfl,rfl,rfl,by decide +kernel,rfl,by decide +kernel,by decide +kernel⟩
def HP (K:Qj):Sp:=fun vs H Q _=>∃ (a:Addr) (ns:List Int),vs=[.ref a]/\Jx K H a (ns.map V.int)/\ns.length<=63/\∀ H',Q (.bl true) H'
theorem Fc.sub {R:Str->Str->Prop} {o x:Str} {g xs:List Str} (h:Fc R o x g) (hR:∀ x y,R x y->y ∈ xs):x ∈ xs->∀ y ∈ g,y ∈ xs:=by
 induction h with
 | one=>intro ho y hy; rw [Qs.mp hy]; exact ho
 | cons _ b _ _ ih=>
  intro hx y hy;rcases Qn.mp hy with rfl | hy
  ·exact hx
  ·exact ih (hR _ _ b) y hy
section
variable {P:Program} {w:World} {K:Qj} {mg:Str->Option Value} {base:Heap}
theorem Na (h_isinstance:mg "isinstance"=none) (h_list:mg "list"=none) (h_range:mg "range"=none) {fE:Addr} {fdE:FuncData} (XE:Fn K mg "_law_pen" CO ["_law_script"] fE fdE) (GE:AJ P w K mg base BV 1 fE fdE ["_law_script"] (Mo K)) {fC:Addr} {fdC:FuncData} (XC:Fn K mg "_law_chart" Cg ["_law_pen_here"] fC fdC) (GC:AJ P w K mg base BV 4 fC fdC ["_law_pen_here"] (Gu K)) {fD:Addr} {fdD:FuncData} (XD:Fn K mg "_law_laid" Cy ["_law_names_here","_law_ways_here"] fD fdD) (GD:AJ P w K mg base BV 1 fD fdD ["_law_names_here","_law_ways_here"] (JP K)) {fN:Addr} {fdN:FuncData} (XN:Fn K mg "_law_near" Cv ["_law_names_here","_law_ways_here"] fN fdN) (GN:AJ P w K mg base BV 1 fN fdN ["_law_names_here","_law_ways_here"] (HL K)) {fU:Addr} {fdU:FuncData} (XU:Fn K mg "_law_much" Cw ["_law_names_here","_law_ways_here"] fU fdU) (GU:AJ P w K mg base BV 1 fU fdU ["_law_names_here","_law_ways_here"] (JO K)) {fFI:Addr} {fdFI:FuncData} (XFI:Fn K mg "_law_first" Bl ["_law_near_here","_law_much_here","_law_one","_law_other"] fFI fdFI) (GFI:AJ P w K mg base BV 1 fFI fdFI ["_law_near_here","_law_much_here","_law_one","_law_other"] (HQ K)) {fPA:Addr} {fdPA:FuncData} (XPA:Fn K mg "path" FF ["web","one","other"] fPA fdPA) (GPA:AJ P w K mg base BV 4 fPA fdPA ["web","one","other"] (JL K)) {f:Addr} {fd:FuncData}
  (F:D4 K "law" "law" JU f fd):AJ P w K mg base BV 5 f fd ["_law_script"] (HP K):=by
 refine F.ok JT (fun vs H Q E h=>?_) (fun cdv A outer s H vs Q E hr h=>?_)
 ·obtain ⟨a,ns,rfl,_⟩:=h;rfl
 ·obtain ⟨a,ns,rfl,hS,hlen,k⟩:=h;have nd:=JT.nd;have hu:=CJ hr;have Gb:=hr.units;have big:100000 < sizeLine:=by decide
  refine ⟨_,(Ad (An (i:=1) nd rfl (Or.inl rfl) (Ao GE (hr.mono (by decide)) (by rfl) XE.mg XE.F.kp XE.b .nil AA (Aa (pv 0) Ae)))
  (Ad (Br PassesOwn.never rfl (CP (by rfl) h_range (Aa Ag Ae)) (Aj (i:=2) nd rfl (Or.inl rfl))
  (Ad (Hh (Ao GC (hr.mono (by decide)) (by rfl) XC.mg XC.F.kp XC.b .nil AA (Aa (pv 1) Ae)) (Ck K rfl rfl (Au (Aj (i:=3) nd rfl (Or.inl rfl)) (Au (Aj (i:=4) nd rfl (Or.inl rfl)) (Au (Aj (i:=5) nd rfl (Or.inl rfl)) BS)))))
  (Ad (An (i:=6) nd rfl (Or.inl rfl) (Ao GD (hr.mono (by decide)) (by rfl) XD.mg XD.F.kp XD.b .nil AA (Aa (pv 3) (Aa (pv 4) Ae))))
  (Ad (An (i:=7) nd rfl (Or.inl rfl) (Ao GN (hr.mono (by decide)) (by rfl) XN.mg XN.F.kp XN.b .nil AA (Aa (pv 3) (Aa (pv 4) Ae))))
  (Ad (An (i:=8) nd rfl (Or.inl rfl) (Ao GU (hr.mono (by decide)) (by rfl) XU.mg XU.F.kp XU.b .nil AA (Aa (pv 3) (Aa (pv 4) Ae))))
  (Ah (Br PassesOwn.never rfl (Ca K rfl (pv 5)) (Aj (i:=9) nd rfl (Or.inl rfl))
  (Ah (Br PassesOwn.never rfl (Ca K rfl (pv 3)) (Aj (i:=10) nd rfl (Or.inl rfl))
  (Ad (An (i:=11) nd rfl (Or.inl rfl) (Ao GFI (hr.mono (by decide)) (by rfl) XFI.mg XFI.F.kp XFI.b .nil AA (Aa (pv 7) (Aa (pv 8) (Aa (pv 9) (Aa (pv 10) Ae))))))
  (Ad (An (i:=12) nd rfl (Or.inl rfl) (Ao GPA (hr.mono (by decide)) (by rfl) XPA.mg XPA.F.kp XPA.b .nil AA (Aa (pv 6) (Aa (pv 9) (Aa (pv 10) Ae)))))
  (Ad (B8 (Mq (MV (MU (Ay GO (by rfl) h_isinstance PyProof.Rows.boot_isinstance (Aa (pv 12) (Aa (L4 (v:=.ty "list") (by rfl) h_list PyProof.Rows.boot_list rfl) Ae))))) (JZ (A1 (DA Gb) (pv 12) (pv 11) (AL _)))).pt
  (Ah (AI Ki))
  AO)
  (Ad (BQ (Du PySem.F.plainAttrs_list PySem.F.slot_list_append PySem.F.type_list_append Bi (pv 12) (Aa (pv 9) Ae)))
  (Ah (B8 (A1 (DA Gb) (Ao GPA (hr.mono (by decide)) (by rfl) XPA.mg XPA.F.kp XPA.b .nil AA (Aa (pv 6) (Aa (pv 9) (Aa (pv 10) Ae)))) (pv 11) (AL _))
  (Ah (AI Ki))
  AO)))))))))))))))
  (Ah (AI Ki)))),?_⟩
  refine ⟨_,rfl,a,rfl,fun p hp=>?_⟩;have P0:A8 K (upd H p (.dK (AY a 0 0))) p a ns 0 0:=⟨Ab,hS.same (Ac hp),Ry _⟩
  refine ⟨3,rfl,by decide,by decide,Cq (n:=3) (fun _ σ H'=>∃ (v2 v3 v4 v5 v6 v7 v8 v9 v10 v11 Lc:Option V) (i l:Int),σ=[some (.ref a),some (.ref p),v2,v3,v4,v5,v6,v7,v8,v9,v10,v11,Lc]/\A8 K H' p a ns i l) ⟨_,_,_,_,_,_,_,_,_,_,_,0,0,rfl,P0⟩ ?_ (fun σ H' _=>k H')⟩;rintro j σ H1 hj ⟨v2,v3,v4,v5,v6,v7,v8,v9,v10,v11,Lc,i,l,rfl,P1⟩;refine ⟨_,rfl,p,a,ns,i,l,rfl,P1,hlen,fun H2 q D e B xs bs us ws i' l' P2 k2 hq hD hE hW wc Mm hB bsub x1 Pd xnd xnm shp=>?_⟩;refine ⟨q,_,rfl,BY.of hq,rfl,_,_,rfl,_,_,rfl,_,_,rfl,rfl,?_⟩;obtain ⟨wof,sep,jn⟩:=id wc;have ends:∀ u ∈ ws,u.1 ∈ xs/\u.2.1 ∈ xs:=fun u hu=>⟨(wof u hu).1,(wof u hu).2.1⟩
  refine ⟨_,rfl,_,rfl,D,e,xs,us,ws,rfl,hD,by lia,hE,hW,Mm,fun H7 qw tp tw ps OG C8 s7 hq7 PF pperm so PD hd7 wperm=>?_⟩;have en:=fun x y l=>Jn wperm x y l
  refine ⟨_,rfl,_,rfl,D,e,xs,us,ws,rfl,s7 _ _ hD,xnd,Pd,s7 _ _ hE,hW.mono (fun b o z _=>s7 _ _ z),Mm,wc,fun H75 N s75 fN na=>?_⟩;have MO:=s7.trans s75;refine ⟨_,rfl,_,rfl,D,e,xs,us,ws,rfl,MO _ _ hD,by lia,MO _ _ hE,hW.mono (fun b o z _=>MO _ _ z),Mm,wc,fun H8 AM M c s8 hA hM hdst=>?_⟩;have wl':C8.length=ws.length:=by rw [wperm.length_eq,Qk]
  have pl:0 < ps.length:=by rw [pperm.length_eq]; lia
  have hr0:ps[0] ∈ xs:=pperm.mem_iff.mp (QX pl);have Oq:=s75.trans s8;have okw:Eg H8 qw ps C8 ps[0]:=by
   refine ⟨⟨tp,tw,OG,Oq _ _ hq7,Oq _ _ PF,Oq _ _ PD,hd7.mono fun b o z _=>Oq _ _ z⟩,pperm.nodup_iff.mpr xnd,by rw [pperm.length_eq]; lia,by lia,fun u hu=>?_,Qi pl,fun Sp hs hcl z hz=>?_⟩
   ·obtain ⟨q1,q2⟩:=Jm wperm ends u hu;exact ⟨pperm.mem_iff.mpr q1,pperm.mem_iff.mpr q2⟩
   ·exact Gj.all jn Sp (fun b c hbc=>hcl b c ((KU wperm b c).mpr hbc)) hr0 hs z (pperm.mem_iff.mp hz)
  have pos':∀ u ∈ C8,1<=u.2.2:=fun u hu=>by
   obtain ⟨v,hv,rfl⟩:=Q0.mp (wperm.mem_iff.mp hu);exact (wof v hv).2.2.2
  have uq':∀ x y l l',AG C8 x y l->AG C8 x y l'->l=l':=fun x y l l' e1 e2=>DJ sep ((en x y l).mp e1) ((en x y l').mp e2)
  have Pj:=s7.trans Oq;have P8:=P2.same Pj;have O9:=Pj _ _ hD;have hB8:=Pj _ _ hB;have na8:=na.same s8;refine ⟨_,rfl,B,rfl,⟨_,A6.of hB8⟩,?_⟩;refine B6 (xs:=bs.map V.str) (fun i σ H'=>∃ v9 v10 v11 Lc:Option V,σ=[some (.ref a),some (.ref p),some (.int (0 + (j:Int))),some (.ref D),some (.ref e),some (.ref B),some (.ref qw),some (.ref N),some (.ref AM),v9,v10,v11,Lc]/\Aw H8 H')
   ⟨_,_,_,_,rfl,Aw.refl _⟩ (fun i σ H' _ ⟨_,_,_,_,_,sa⟩=>A6.of (sa _ _ hB8)) ?_ ?_
  ·rintro i1 v σ H9 hv ⟨v9,v10,v11,Lc,rfl,s9⟩;obtain ⟨x,ex,rfl⟩:∃ x,bs[i1]? = some x/\v=.str x:=by
    rw [Q7] at hv;cases z:bs[i1]? with
    | none=>rw [z] at hv; cases hv
    | some x=>rw [z] at hv; exact ⟨x,rfl,(QB.inj hv).symm⟩
   have hx:x ∈ xs:=bsub x (Qm ex);refine ⟨_,rfl,D,rfl,⟨_,A6.of (s9 _ _ O9)⟩,?_⟩;refine B6 (xs:=xs.map V.str) (fun i σ H'=>∃ v10 v11 Lc:Option V,σ=[some (.ref a),some (.ref p),some (.int (0 + (j:Int))),some (.ref D),some (.ref e),some (.ref B),some (.ref qw),some (.ref N),some (.ref AM),some (.str x),v10,v11,Lc]/\Aw H8 H')
    ⟨_,_,_,rfl,s9⟩ (fun i σ H' _ ⟨_,_,_,_,sa⟩=>A6.of (sa _ _ O9)) ?_ ?_
   ·rintro i2 v σ Mi hv ⟨v10,v11,Lc,rfl,Ls⟩;obtain ⟨o,eo,rfl⟩:∃ o,xs[i2]? = some o/\v=.str o:=by
     rw [Q7] at hv;cases z:xs[i2]? with
     | none=>rw [z] at hv; cases hv
     | some o=>rw [z] at hv; exact ⟨o,rfl,(QB.inj hv).symm⟩
    have ho:o ∈ xs:=Qm eo;have dsd:∀ y ∈ xs,M y o=some ((M y o).getD 0)/\F7 ws y o ((M y o).getD 0):=fun y hy=>by
     obtain ⟨n,e1,e2⟩:=hdst y hy o ho;rw [e1];exact ⟨rfl,e2⟩
    have pt:CF ws xs o (fun y=>(M y o).getD 0):=⟨wc,xnd,ho,fun y hy=>(dsd y hy).2⟩
    refine ⟨_,rfl,_,rfl,_,rfl,_,rfl,N,AM,x,o,xs,ws,M,(fun y=>(M y o).getD 0),c,rfl,na8.same Ls,Mm,hM.same Ls,pt,fun y hy=>(dsd y hy).1,Pd,shp,hx,fun MC Ld g Pm hLd gg gl=>?_⟩;have MN:=Ls.trans Pm;have dps:∀ y ∈ ps,F7 C8 o y ((M y o).getD 0):=fun y hy=>(F7.iff en).mpr (dsd y (pperm.mem_iff.mp hy)).2.symm
    have nxe:∀ x y,Ib C8 (fun y=>(M y o).getD 0) x y ↔ Ib ws (fun y=>(M y o).getD 0) x y:=fun x y=>⟨fun ⟨l,z,q⟩=>⟨l,(en x y l).mp z,q⟩,fun ⟨l,z,q⟩=>⟨l,(en x y l).mpr z,q⟩⟩
    have gnm:∀ y ∈ g,Cc y=true:=fun y hy=>xnm y (Fc.sub gg (fun x y ⟨l,z,_⟩=>(pt.ends z).2.1) hx y hy)
    have lay:(PyData.list (g.map PyData.str)).canLay0=true:=by simp only [PyData.canLay0]; exact EG gnm
    have dpt:(PyData.list (g.map PyData.str)).depth<=60:=by
     simp only [PyData.depth,Di];decide
    refine ⟨_,rfl,_,rfl,_,rfl,qw,ps,C8,ps[0],x,o,(fun y=>(M y o).getD 0),rfl,okw.same MN,pos',uq',pperm.mem_iff.mpr hx,pperm.mem_iff.mpr ho,dps,fun H12 Lt g2 Pl fLt hLt gg2 _=>?_⟩;have eg:=(gg2.iff nxe).uniq gg;subst eg;have s812:=MN.trans Pl;refine ⟨_,rfl,_,"list",_,_,rfl,.lst hLt,rfl,_,rfl,?_⟩;refine DI ?_;refine ⟨_,rfl,_,rfl,_,_,.lst hLt (BW _ g2),.lst (Pl _ _ hLd) (BW _ g2),lay,lay,dpt,_,rfl,?_⟩;rw [Iu _ lay];refine DI ?_;refine ⟨_,rfl,.inl ⟨rfl,_,A6.of hLt⟩,_,rfl,Lt,_,_,rfl,rfl,hLt,by rw [Qk]; lia,?_⟩;have Pk:Aw MC (upd H12 Lt (.lst (g2.map V.str ++ [.str x]))):=Bt Pl fLt;generalize upd H12 Lt (.lst (g2.map V.str ++ [.str x]))=H13 at Pk ⊢;have Oo:=MN.trans Pk;refine ⟨_,rfl,_,rfl,_,rfl,qw,ps,C8,ps[0],x,o,(fun y=>(M y o).getD 0),rfl,okw.same Oo,pos',uq',pperm.mem_iff.mpr hx,pperm.mem_iff.mpr ho,dps,fun H14 Lt2 g3 s14 fLt2 PX gg3 _=>?_⟩;have eg:=(gg3.iff nxe).uniq gg;subst eg;refine ⟨_,rfl,_,_,.lst PX (BW _ g3),.lst (s14 _ _ (Pk _ _ hLd)) (BW _ g3),lay,lay,dpt,_,rfl,?_⟩;rw [Iu _ lay];refine DI ?_;exact ⟨_,_,_,rfl,Oo.trans s14⟩
   ·rintro σ Mi ⟨v10,v11,Lc,rfl,Ls⟩;exact ⟨_,_,_,_,rfl,Ls⟩
  ·rintro σ H9 ⟨v9,v10,v11,Lc,rfl,s9⟩;exact ⟨_,_,_,_,_,_,_,_,_,_,_,i',l',rfl,P8.same s9⟩
end
section
variable {P:Program} {w:World} {K:Qj} {mg:Str->Option Value} {base:Heap}
theorem N3 {f:Addr} {cdv:Value} {A:Around} {outer:List Env} {s:Shared} {H:Hp} {E:XK} (hr:BM 0 (A.deeper (PyProof.Rows.envOfC "_law_first" (Am Bl) s.heap.objs.size f cdv))) :
  ∃ tl,GQ (Fh BV P w K mg base ["_law_near_here","_law_much_here","_law_one","_law_other","_law_walks","_law_whole","_law_walk","_law_here","_law_steps"] "_law_first" (Am Bl) f cdv A outer s H E).nox ((IC ((Bx Bl).getD 2 (.Pass ⟨0,0,0,0⟩))).drop 3) tl /\
   ∀ (W:CB) (H6:Hp) (N A0 W0 Wh l:Addr) (x o last:Str) (xs:List Str) (ws:List Az) (M:Str->Str->Option Int) (δ:Str->Int) (c:Nat) (w:List Str) (vs:List V) (v8:Option V),CM H6 N xs ws->ws.length < 64->MD H6 A0 M c->CF ws xs o δ->(∀ y ∈ xs,M y o=some (δ y))->last ∈ xs->H6 l=some (.lst (w.map V.str))->w.length<=31->H6 W0=some (.lst vs)->(∀ v ∈ vs,∃ a,v=.ref a)->vs.length<=50000 ->
    (last=o->∀ (H':Hp) (v8:Option V),Aw H6 H'->W.nx [some (.ref N),some (.ref A0),some (.str x),some (.str o),some (.ref W0),some (.ref Wh),some (.ref l),some (.str last),v8] H') ->
    (last ≠ o->∀ (H':Hp) (v8:Option V) (us:List V),(∀ b u,b ≠ W0->H6 b=some u->H' b=some u)->H' W0=some (.lst (vs ++ us))->Paired (F6 H') us ((Bq ws δ last).map fun y=>w ++ [y])->W.nx [some (.ref N),some (.ref A0),some (.str x),some (.str o),some (.ref W0),some (.ref Wh),some (.ref l),some (.str last),v8] H')->tl W [some (.ref N),some (.ref A0),some (.str x),some (.str o),some (.ref W0),some (.ref Wh),some (.ref l),some (.str last),v8] H6:=by
 have nd:=Ct.nd;have hu:=CJ hr;have big:100000 < sizeLine:=by decide
 refine ⟨_,(Ad (HV (ix:=8) (N:=["_law_there","_law_length_here","_law_much_here","_law_other","_law_here"]) (σ0:=fun σ=>[none,none,some 1,some 3,some 7].map fun j=>j.bind fun j=>(σ[j]?).join) nd rfl (Or.inl rfl) rfl (AV.caught (by rfl) (by decide +kernel) rfl (by decide +kernel) (by intro y hy; simp only [Qn,Q8,or_false] at hy; rcases hy with rfl | rfl | rfl <;> rfl)
   (by intro y hy e; simp only [Qn,Q8,or_false] at hy; rcases hy with rfl | rfl | rfl | rfl | rfl | rfl <;> first | exact ⟨_,rfl⟩ | cases e)) (fun σ _=>Bu.of [none,none,some 1,some 3,some 7] rfl (by
   intro i j x h1 h2;match i,h1,h2 with
   | 0,_,h2=>cases h2
   | 1,_,h2=>cases h2
   | 2,h1,h2=>cases h1; cases h2; exact ⟨rfl,.inl rfl,.inl rfl⟩
   | 3,h1,h2=>cases h1; cases h2; exact ⟨rfl,.inl rfl,.inl rfl⟩
   | 4,h1,h2=>cases h1; cases h2; exact ⟨rfl,.inl rfl,.inl rfl⟩
   | n + 5,h1,_=>cases h1)) (Ca K rfl (A2 hu (pv 0) (pv 7) (fun _ _=>rfl)))
   (fun s2 H C fp=>⟨(Ck K rfl (n:=2) rfl (Au (Aj (i:=0) (show (["_law_there","_law_length_here","_law_much_here","_law_other","_law_here"]:List Str).Nodup by decide +kernel) rfl (Or.inl rfl)) (Au (Aj (i:=1) (show (["_law_there","_law_length_here","_law_much_here","_law_other","_law_here"]:List Str).Nodup by decide +kernel) rfl (Or.inl rfl)) BS))),(FO (A1 G1 (Aq Ba (pv 1) (A2 hu (pv 2) (A9 (Aa (pv 0) (Aa (pv 3) Ae))) (fun _ _=>rfl))) (A2 hu (pv 2) (A9 (Aa (pv 4) (Aa (pv 3) Ae))) (fun _ _=>rfl)) (AL _))),(pv 0)⟩))
  (Ah (B8 (A1 Mt (pv 7) (pv 3) (AL _))
  (Ah (BQ (Du PySem.F.plainAttrs_list PySem.F.slot_list_extend PySem.F.type_list_extend IU (pv 4) (Aa (CQ (N:=["_law_there","_law_walk"]) (σ0:=fun σ=>[none,some 6].map fun j=>j.bind fun j=>(σ[j]?).join) rfl (AV.caught (by rfl) (by decide +kernel) rfl (by decide +kernel) (by intro y hy; simp only [Qn,Q8,or_false] at hy; rcases hy with rfl <;> rfl)
   (by intro y hy e; simp only [Qn,Q8,or_false] at hy; rcases hy with rfl | rfl | rfl <;> first | exact ⟨_,rfl⟩ | cases e)) (fun σ _=>Bu.of [none,some 6] rfl (by
   intro i j x h1 h2;match i,h1,h2 with
   | 0,_,h2=>cases h2
   | 1,h1,h2=>cases h1; cases h2; exact ⟨rfl,.inl rfl,.inl rfl⟩
   | n + 2,h1,_=>cases h1)) (Ca K rfl (pv 8))
   (fun s2 H C fp=>⟨(Aj (i:=0) (show (["_law_there","_law_walk"]:List Str).Nodup by decide +kernel) rfl (Or.inl rfl)),Cj,(Aq Km (pv 1) (Bs (Aa (pv 0) Ae)))⟩)) Ae))))
  AO))),?_⟩
 intro W H6 N A0 W0 Wh l x o last xs ws M δ c w vs v8 na wl md pt mo lx hl wlen hW vrf vlen k1 k2;obtain ⟨ln,nvs,dg,hln,dn⟩:=na.get pt.xnd lx;have nlen:nvs.length=(BH ws last).length:=by rw [AQ dn,Qk]
 have nl64:(BH ws last).length<=ws.length:=Sb _ _;refine ⟨_,rfl,_,rfl,N,_,rfl,dg,ln,rfl,⟨_,A6.of hln⟩,?_⟩;refine DY Fs (xs:=nvs) (fun D j Ap H2 acc=>∃ v0 v1:Option V,Ap=[v0,v1,some (.ref A0),some (.str o),some (.str last)]/\Aw H6 H2/\H2 D=some (.lst acc)/\acc=((((BH ws last).take j).filter fun p=>decide (p.2 + δ p.1=δ last)).map (·.1)).map V.str/\acc.length<=j)
  (by lia) (fun D hD=>⟨_,_,rfl,Ac hD,Ab,rfl,Qo _⟩) (fun D j Ap H2 acc hD ⟨v0,v1,_,sa,Nx,_,al⟩=>⟨A6.of (sa _ _ hln),Nx,al⟩) ?_ ?_
 ·rintro D j Ap H2 acc x' B Nn hD ex ⟨v0,v1,rfl,sa,Nx,ea,al⟩ hB hN;obtain ⟨r,t,er,rfl,ht⟩:=GH dn ex;have rx:r.1 ∈ xs:=(pt.ends ((Dv pt.ne).mp (show (r.1,r.2) ∈ BH ws last from Qm er))).2.1;refine ⟨t,_,rfl,BY.of (sa _ _ ht),rfl,_,_,rfl,_,_,rfl,rfl,?_⟩;refine ⟨_,rfl,_,rfl,_,rfl,_,rfl,(by show 2<=sizeLine; lia),fun T1 J1=>?_⟩;have s1:=sa.trans (Ac (o:=.tup [.str r.1,.str o]) J1);have g1:=(md.same s1).get (x:=r.1) (y:=o) (t:=T1) Ab;rw [mo _ rx] at g1;have Jh:=Ac (o:=.tup [.str r.1,.str o]) J1 _ _ Nx;generalize upd H2 T1 (.tup [.str r.1,.str o])=H3 at s1 g1 Jh ⊢;refine ⟨A0,_,rfl,g1,_,_,rfl,rfl,_,rfl,_,rfl,_,rfl,(by show 2<=sizeLine; lia),fun T2 Jg=>?_⟩;have s2:=s1.trans (Ac (o:=.tup [.str last,.str o]) Jg);have g2:=(md.same s2).get (x:=last) (y:=o) (t:=T2) Ab;rw [mo _ lx] at g2;have Ge:=Ac (o:=.tup [.str last,.str o]) Jg _ _ Jh;generalize upd H3 T2 (.tup [.str last,.str o])=H4 at s2 g2 Ge ⊢;refine ⟨A0,_,rfl,g2,rfl,_,rfl,?_⟩;refine C4 (fun hz=>?_) (fun hz=>?_)
  ·have Jz:r.2 + δ r.1=δ last:=by have:=of_decide_eq_true hz; injection this
   refine ⟨_,rfl,hB _ _ _ Ge ⟨_,_,rfl,Bt s2 hD,Ab,?_,by rw [Qz]; simp; lia⟩⟩;rw [ea,QJ,er,RJ,Qw,Qw];simp [Jz]
  ·have Jz:¬ r.2 + δ r.1=δ last:=fun q=>hz (decide_eq_true (show V.int (r.2 + δ r.1)=V.int (δ last) by rw [q]))
   refine hN _ _ ⟨_,_,rfl,s2,Ge,?_,by lia⟩;rw [ea,QJ,er,RJ,Qw,Qw];simp [Jz]
 ·rintro D Ap H2 acc hD ⟨v0,v1,rfl,sa,Nx,ea,al⟩;rw [nlen,QT] at ea;have ea':acc=(Bq ws δ last).map V.str:=ea;rw [ea'] at Nx;have stl:(Bq ws δ last).length<=64:=by
   have:=pt.few last;have h1:(Bq ws δ last).length<=(BH ws last).length:=by
    unfold Bq;rw [Qk];exact Rh _ _
   lia
  refine ⟨_,rfl,_,rfl,rfl,_,rfl,?_⟩;by_cases e:last=o
  ·rw [show (!decide (V.str last=V.str o))=false by simp [e]];refine DI ?_;exact k1 e _ _ sa
  ·rw [show (!decide (V.str last=V.str o))=true by simp [e]];refine Fg ?_;have Lg:=sa _ _ hW;refine ⟨_,rfl,.inl ⟨rfl,_,A6.of Lg⟩,_,rfl,D,rfl,⟨_,A6.of Nx⟩,?_⟩;refine JY Fs (xs:=(Bq ws δ last).map V.str) (fun D2 j Ap H3 acc=>∃ v0:Option V,Ap=[v0,some (.ref l)]/\Aw H2 H3/\H3 D2=some (.lst acc)/\(∀ u ∈ acc,u ≠ .ref D2)/\Paired (F6 H3) acc (((Bq ws δ last).take j).map fun y=>w ++ [y])/\acc.length=j)
    (by rw [Qk]; lia) (fun D2 Ge=>⟨_,rfl,Ac Ge,Ab,(fun u hu=>nomatch hu),.nil,rfl⟩) (fun D2 j Ap H3 acc Ge ⟨v0,_,sb,h2,_,_,al⟩=>⟨A6.of (sb _ _ Nx),h2,al⟩) ?_ ?_
   ·rintro D2 j Ap H3 acc x' B Ge ex ⟨v0,rfl,sb,h2,nD,pa,al⟩ hB;obtain ⟨y,ey,rfl⟩:∃ y,(Bq ws δ last)[j]? = some y/\x'=.str y:=by
     rw [Q7] at ex;cases z:(Bq ws δ last)[j]? with
     | none=>rw [z] at ex; cases ex
     | some y=>rw [z] at ex; exact ⟨y,rfl,(QB.inj ex).symm⟩
    have hl3:=sb _ _ (sa _ _ hl);refine ⟨_,rfl,_,rfl,(by show 1<=sizeLine; lia),fun T hT=>⟨l,T,_,_,rfl,rfl,Ac hT _ _ hl3,Ab,by rw [Qk]; show w.length + 1<=sizeLine; lia,fun Q2 OR=>?_⟩⟩;have sN:=(Ac (o:=.lst [.str y]) hT).trans (Ac (o:=.lst (w.map V.str ++ [.str y])) OR);have hNN:(upd (upd H3 T (.lst [.str y])) Q2 (.lst (w.map V.str ++ [.str y]))) Q2=some (.lst ((w ++ [y]).map V.str)):=by rw [Qw]; exact Ab
    have h3:=sN _ _ h2;have nQD:Q2 ≠ D2:=fun z=>by
     rw [z] at OR;rw [Ac hT _ _ h2] at OR;cases OR
    show B _ _ (upd (upd H3 T (.lst [.str y])) Q2 (.lst (w.map V.str ++ [.str y])))
    generalize upd (upd H3 T (.lst [.str y])) Q2 (.lst (w.map V.str ++ [.str y]))=H4 at sN hNN h3;refine hB _ _ _ h3 ⟨_,rfl,Bt (sb.trans sN) Ge,Ab,fun u hu=>?_,?_,by rw [Qz,al]; rfl⟩
    ·rcases QA.mp hu with hu | hu
     ·exact nD u hu
     ·rw [Qs.mp hu];intro z;cases z
      exact nQD rfl
    ·rw [QJ,ey,Qw];refine Dg ?_ (.cons ⟨Q2,rfl,by rw [Af nQD]; exact hNN⟩ .nil);have key:∀ {a:List V} {b:List (List Str)},Paired (F6 H3) a b->(∀ u ∈ a,u ≠ .ref D2)->Paired (F6 (upd H4 D2 (.lst (acc ++ [.ref Q2])))) a b:=fun {a b} h=>by
      induction h with
      | nil=>intro _; exact .nil
      | cons r _ ih=>
       intro hn;obtain ⟨l',e1,e2⟩:=r;refine .cons ⟨l',e1,?_⟩ (ih fun u hu=>hn u (Q3 _ hu));rw [Af (fun z=>hn _ Qy (by rw [e1,z]))];exact sN _ _ e2
     exact key pa nD
   ·rintro D2 Ap H3 acc Ge ⟨v0,rfl,sb,h2,nD,pa,al⟩;rw [Qk] at al;rw [Qk,QT] at pa;have OQ:=sb _ _ Lg;refine ⟨W0,D2,_,_,rfl,rfl,OQ,h2,by lia,?_⟩;refine k2 e _ _ acc (fun b u hb z=>by rw [Af hb]; exact sb _ _ (sa _ _ z)) Ab ?_;exact Cb OQ vrf pa fun q hq=>by
     obtain ⟨y,_,rfl⟩:=Q0.mp hq;simp
theorem FV (h_min:mg "min"=none) {f:Addr} {fd:FuncData} (F:D4 K "_law_first" "_law_first" Bl f fd):AJ P w K mg base BV 1 f fd ["_law_near_here","_law_much_here","_law_one","_law_other"] (HQ K):=by
 refine F.ok Ct (fun vs H Q E h=>?_) (fun cdv A outer s H vs Q E hr h=>?_)
 ·obtain ⟨N,A0,x,o,xs,ws,M,δ,c,rfl,_⟩:=h;rfl
 ·obtain ⟨N,A0,x,o,xs,ws,M,δ,c,rfl,na,Mm,md,pt,mo,xl,sh,hx,k⟩:=h;have nd:=Ct.nd;have hu:=CJ hr;have Gb:=hr.units;have big:100000 < sizeLine:=by decide
  obtain ⟨tlB,htB,rdB⟩:=N3 (P:=P) (w:=w) (K:=K) (mg:=mg) (base:=base) (f:=f) (cdv:=cdv) (A:=A) (outer:=outer) (s:=s) (H:=H) (E:=E) hr;obtain ⟨fw,hfw⟩:=pt.weights sh;obtain ⟨g,hg⟩:=pt.grd _ x hx (Qo _);refine ⟨_,(Ad (An (i:=4) nd rfl (Or.inl rfl) (Bs (Aa (Bs (Aa (pv 2) Ae)) Ae)))
  (Ad (An (i:=5) nd rfl (Or.inl rfl) (Bs Ae))
  (Ad (Dt PassesOwn.never (A1 (IM (R5 hu)) (pv 4) (Bs Ae) (AL _))
  (Ad (An (i:=6) nd rfl (Or.inr rfl) (MX PySem.F.plainAttrs_list PySem.F.slot_list_pop PySem.F.type_list_pop Nc (pv 4)))
  (Ad (An (i:=7) nd rfl (Or.inr rfl) (Bm (BJ K rfl) (pv 6) (HW FA Ag) (fun _ _=>rfl)))
  (Ad (B8 (A1 G1 (pv 7) (pv 3) (AL _))
  (Ah (BQ (Du PySem.F.plainAttrs_list PySem.F.slot_list_append PySem.F.type_list_append Bi (pv 5) (Aa (pv 6) Ae))))
  AO)
  htB))))
  (Ah (AI (Ay (GK rfl Gb) (by rfl) h_min PyProof.Rows.boot_min (Aa (pv 5) Ae))))))),?_⟩
  refine ⟨_,rfl,(by show 1<=sizeLine; lia),fun L0 hL0=>⟨(by show 1<=sizeLine; lia),fun W0 hW0=>⟨(by show 0<=sizeLine; lia),fun Wh hWh=>?_⟩⟩⟩;have s1:=Ac (o:=.lst [.str x]) hL0;have s2:=Ac (o:=.lst [.ref L0]) hW0;have s3:=Ac (o:=.lst []) hWh;have nW:W0 ≠ Wh:=fun z=>by rw [<-z,Ab] at hWh; cases hWh
  have fW:H W0=none:=s1.free0 hW0;have fWh:H Wh=none:=(s1.trans s2).free0 hWh;have f0:IB ws xs o x δ fw g [[x]] []:=by
   have r1:=Gw (xs:=xs) (δ:=δ) hx;refine ⟨fun w hw=>?_,(fun w hw=>nomatch hw),.inr ⟨[x],Qs.mpr rfl,[],x,g,rfl,rfl,hg⟩,?_⟩
   ·rw [Qs.mp hw];exact ⟨[],x,rfl,hx,fun p hp=>hp,by show 0 + _<=30; lia⟩
   ·have:=(hfw x hx).2.1;show fw x + 0 + 0<=50000
    lia
  refine ⟨fun m σ H'=>∃ (wl whl:List (List Str)) (vs us:List V) (v6 v7 v8:Option V),m=(wl.map fun w=>Ft (Bq ws δ) (Ds xs δ (C1 o w)) (C1 o w)).sum/\σ=[some (.ref N),some (.ref A0),some (.str x),some (.str o),some (.ref W0),some (.ref Wh),v6,v7,v8]/\Aw H H'/\H' W0=some (.lst vs)/\H' Wh=some (.lst us)/\Paired (F6 H') vs wl/\Paired (F6 H') us whl/\IB ws xs o x δ fw g wl whl,
   ⟨_,[[x]],[],[.ref L0],[],_,_,_,rfl,rfl,(s1.trans s2).trans s3,s3 _ _ Ab,Ab,.cons ⟨L0,rfl,s3 _ _ (s2 _ _ Ab)⟩ .nil,.nil,f0⟩,?_⟩
  rintro m σ H' ⟨wl,whl,vs,us,v6,v7,v8,rfl,rfl,sa,hW,PR,pv,pu,fs⟩;have lens:=fs.lens fun y hy=>(hfw y hy).1
  have vl:=Df pv;have ul:=Df pu;refine ⟨_,rfl,(by show 0<=sizeLine; lia),fun E0 hE0=>?_⟩;have sE:=Ac (o:=.lst []) hE0;have hE:(upd H' E0 (.lst [])) E0=some (.lst []):=Ab;generalize upd H' E0 (.lst [])=H1 at sE hE ⊢;have Oa:=sE _ _ hW;have Nv:=sE _ _ PR;refine ⟨W0,E0,vs,rfl,rfl,A6.of Oa,A6.of hE,_,rfl,?_⟩;by_cases vne:vs=[]
  ·subst vne;have wle:wl=[]:=Rl.mp vl.symm;subst wle;refine DI ?_;have gw:g ∈ whl:=by
    rcases fs.first with z | ⟨w,hw,_⟩
    ·exact z
    ·exact nomatch hw
   refine ⟨_,rfl,Wh,us,whl,rfl,Nv,ul,(fun z=>by rw [z] at gw; exact nomatch gw),E4 (B1 pu sE),fun i v k' h1 h2 hmin=>?_⟩;obtain ⟨L,rfl,hL⟩:=E4 (B1 pu sE) i v k' h1 h2;have km:=Qm h2;have ek:k'=g:=by
    have e:=Ik _ _ (hg.le (fs.whole k' km).1) (hmin g gw);have inj:∀ {a b:List Str},a.map CD.s=b.map CD.s->a=b:=fun {a}=>by
     induction a with
     | nil=>intro b e; cases b with
      | nil=>rfl
      | cons=>cases e
     | cons x a ih=>intro b e; cases b with
      | nil=>cases e
      | cons y b=>
       rw [Qt,Qt] at e;injection e with e1 e2;injection e1 with e1;rw [e1,ih e2]
    exact inj e
   subst ek;exact k _ L k' (sa.trans sE) hL (hg.iff fun x y=>pt.mem) (fs.whole k' km).2
  ·rw [show (!vs.isEmpty)=true by cases vs with
    | nil=>exact absurd rfl vne
    | cons=>rfl]
   refine Fg ⟨_,fun _ _ z=>z,?_⟩;have vrf:=Ea pv;have urf:=Ea pu;have pv1:=B1 pv sE;have pu1:=B1 pu sE;have ne1:=fs.ne1;have ne2:=fs.ne2;obtain ⟨Gn,v,OD,w,rfl,rfl,pv0,pw⟩:=DZ pv1 vne;obtain ⟨l,rfl,hl⟩:=pw;obtain ⟨pre,last,rfl,lx,wc,wlen⟩:=fs.go w (Qq _ (Qs.mpr rfl));rw [Qz,Ra] at lens;refine ⟨_,rfl,.inl ⟨rfl,_,A6.of Oa⟩,W0,_,_,rfl,rfl,Oa,(by simp:(Gn ++ [V.ref l])[(Gn ++ [V.ref l]).length - 1]? = some (.ref l)),?_⟩;rw [List.dropLast_concat];have Po:∀ v ∈ Gn,∃ a,v=.ref a:=fun v hv=>vrf v (QD _ hv)
   have nlW:l ≠ W0:=Eo hl (by simp) Oa vrf;have nlWh:l ≠ Wh:=Eo hl (by simp) Nv urf;have OX:(upd H1 W0 (.lst Gn)) W0=some (.lst Gn):=Ab;have Ji:(upd H1 W0 (.lst Gn)) Wh=some (.lst us):=by rw [Af nW.symm]; exact Nv
   have OW:(upd H1 W0 (.lst Gn)) l=some (.lst ((pre ++ [last]).map V.str)):=by rw [Af nlW]; exact hl
   have Ot:Aw H (upd H1 W0 (.lst Gn)):=Bt (sa.trans sE) fW;have Pq:=Cb (o:=.lst Gn) Oa vrf pv0 fun q hq=>ne1 q (QD _ hq)
   have Pr:=Cb (o:=.lst Gn) Oa vrf pu1 ne2;generalize upd H1 W0 (.lst Gn)=H2 at OX Ji OW Ot Pq Pr ⊢;have atL:GV ((pre ++ [last]).map V.str) (-1)=some (.str last):=by rw [Qw]; exact EX _ _
   refine ⟨_,rfl,_,rfl,l,_,_,.str last,rfl,rfl,A6.of OW,atL,?_⟩;refine ⟨_,rfl,_,rfl,rfl,_,rfl,?_⟩;have v0l:Gn.length<=50000:=by
    have:=Df pv0;lia
   have Oj:(pre ++ [last]).length<=31:=by rw [Qz]; show pre.length + 1<=31; lia
   have msum:∀ w:List Str,((OD ++ [w]).map fun w=>Ft (Bq ws δ) (Ds xs δ (C1 o w)) (C1 o w)).sum=(OD.map fun w=>Ft (Bq ws δ) (Ds xs δ (C1 o w)) (C1 o w)).sum + Ft (Bq ws δ) (Ds xs δ (C1 o w)) (C1 o w):=fun w=>by
    rw [Qw,Dp];simp
   have hms:=pt.measure last;by_cases e:last=o
   ·subst e;rw [show (decide (V.str last=V.str last))=true by simp];refine Fg ?_;refine ⟨_,rfl,.inl ⟨rfl,_,A6.of Ji⟩,_,rfl,Wh,_,_,rfl,rfl,Ji,by lia,?_⟩;have OJ:Aw H (upd H2 Wh (.lst (us ++ [.ref l]))):=Bt Ot fWh;have Qa:(upd H2 Wh (.lst (us ++ [.ref l]))) W0=some (.lst Gn):=by rw [Af nW]; exact OX
    have PZ:(upd H2 Wh (.lst (us ++ [.ref l]))) l=some (.lst ((pre ++ [last]).map V.str)):=by rw [Af nlWh]; exact OW
    have pv3:=Cb (o:=.lst (us ++ [.ref l])) Ji urf Pq fun q hq=>ne1 q (QD _ hq)
    have pu3:=Dg (Cb (o:=.lst (us ++ [.ref l])) Ji urf Pr ne2) (.cons ⟨l,rfl,PZ⟩ .nil);have OA:(upd H2 Wh (.lst (us ++ [.ref l]))) Wh=some (.lst (us ++ [.ref l])):=Ab;generalize upd H2 Wh (.lst (us ++ [.ref l]))=H3 at OJ Qa PZ pv3 pu3 OA ⊢;refine rdB _ H3 N A0 W0 Wh l x last last xs ws M δ c (pre ++ [last]) Gn v8 (na.same OJ) Mm (md.same OJ) pt mo lx PZ Oj Qa Po v0l (fun _ H4 OF s4=>?_) fun z=>absurd rfl z
    refine ⟨_,?_,OD,whl ++ [pre ++ [last]],Gn,us ++ [.ref l],_,_,_,rfl,rfl,OJ.trans s4,s4 _ _ Qa,s4 _ _ OA,B1 pv3 s4,B1 pu3 s4,fs.done (hfw last lx).1⟩;rw [msum,BD];lia
   ·rw [show (decide (V.str last=V.str o))=false by simp [e]];refine DI ?_;refine rdB _ H2 N A0 W0 Wh l x o last xs ws M δ c (pre ++ [last]) Gn v8 (na.same Ot) Mm (md.same Ot) pt mo lx OW Oj OX Po v0l (fun z=>absurd z e) fun _ H4 OF us4 k4 h4W pa4=>?_
    have p4:∀ {a:List V} {b:List (List Str)},Paired (F6 H2) a b->(∀ q ∈ b,q ≠ [])->Paired (F6 H4) a b:=fun {a b} h=>by
     induction h with
     | nil=>intro _; exact .nil
     | cons r _ ih=>
      intro hn;obtain ⟨l',e1,e2⟩:=r;exact .cons ⟨l',e1,k4 _ _ (Eo e2 (hn _ Qy) OX Po) e2⟩ (ih fun u hu=>hn u (Q3 _ hu))
    refine ⟨_,?_,OD ++ (Bq ws δ last).map (fun y=>(pre ++ [last]) ++ [y]),whl,Gn ++ us4,us,_,_,_,rfl,rfl,fun b u z=>k4 b u (Ai z fW) (Ot _ _ z),h4W,k4 _ _ nW.symm Ji,Dg (p4 Pq fun q hq=>ne1 q (QD _ hq)) pa4,p4 Pr ne2,fs.on pt (fun y hy=>(hfw y hy).2.2) e⟩;rw [msum,BD,Qw,Dp,Rc];have ee:((fun w=>Ft (Bq ws δ) (Ds xs δ (C1 o w)) (C1 o w)) ∘ fun y=>(pre ++ [last]) ++ [y])=fun y=>Ft (Bq ws δ) (Ds xs δ y) y:=by
     funext y;show Ft (Bq ws δ) (Ds xs δ (C1 o ((pre ++ [last]) ++ [y]))) (C1 o ((pre ++ [last]) ++ [y]))=_
     rw [BD]
    rw [ee];lia
end
section
variable {P:Program} {w:World} {K:Qj} {mg:Str->Option Value} {base:Heap}
theorem G2   {f:Addr} {fd:FuncData} (F:D4 K "_law_near" "_law_near" Cv f fd):AJ P w K mg base BV 1 f fd ["_law_names_here","_law_ways_here"] (HL K):=by
 refine F.ok DU (fun vs H Q E h=>?_) (fun cdv A outer s H vs Q E hr h=>?_)
 ·obtain ⟨D,E0,xs,us,ws,rfl,_⟩:=h;rfl
 ·obtain ⟨D,E0,xs,us,ws,rfl,hD,xnd,xl,hE,hW,wl,wc,k⟩:=h;have nd:=DU.nd;have hu:=CJ hr;have big:100000 < sizeLine:=by decide
  refine ⟨_,(Ad (An (i:=2) nd rfl (Or.inl rfl) E3)
  (Ad (Br PassesOwn.never rfl (Ca K rfl (pv 0)) (Aj (i:=3) nd rfl (Or.inl rfl))
  (Ah (Bv hu (pv 2) (pv 3) (Bs Ae) rfl)))
  (Ad (Br PassesOwn.never rfl (Ca K rfl (pv 1)) (Ck K rfl rfl (Au (Aj (i:=4) nd rfl (Or.inl rfl)) (Au (Aj (i:=5) nd rfl (Or.inl rfl)) (Au (Aj (i:=6) nd rfl (Or.inl rfl)) BS))))
  (Ad (BQ (Du PySem.F.plainAttrs_list PySem.F.slot_list_append PySem.F.type_list_append Bi (A2 hu (pv 2) (pv 4) (fun _ _=>rfl)) (Aa (A9 (Aa (pv 5) (Aa (pv 6) Ae))) Ae)))
  (Ah (BQ (Du PySem.F.plainAttrs_list PySem.F.slot_list_append PySem.F.type_list_append Bi (A2 hu (pv 2) (pv 5) (fun _ _=>rfl)) (Aa (A9 (Aa (pv 4) (Aa (pv 6) Ae))) Ae))))))
  (Ah (AI (pv 2)))))),?_⟩
  have ul:us.length=ws.length:=by rw [AQ hW,Qk]
  intro N hN;have s0:=Ac (o:=.dK []) hN;have hN0:(upd H N (.dK [])) N=some (.dK (sK [])):=Ab;generalize upd H N (.dK [])=H1 at s0 hN0;refine ⟨_,rfl,D,rfl,⟨_,A6.of (s0 _ _ hD)⟩,?_⟩;refine B6 (xs:=xs.map V.str) (fun i σ H'=>∃ (v3:Option V) (nv:List (Str × V)),σ=[some (.ref D),some (.ref E0),some (.ref N),v3,none,none,none]/\Aw H H'/\H' N=some (.dK (sK nv))/\nv.map (·.1)=xs.take i/\(nv.map (·.2)).Nodup/\∀ x v,(x,v) ∈ nv->∃ l,v=.ref l/\H' l=some (.lst [])/\H l=none)
   ⟨_,[],rfl,s0,hN0,rfl,RC,fun x v hm=>nomatch hm⟩ (fun i σ H' _ ⟨_,_,_,sa,_⟩=>A6.of (sa _ _ hD)) ?_ ?_
  ·rintro i v σ H' hv ⟨v3,nv,rfl,sa,hNN,nk,nn,nl⟩;obtain ⟨x,ex,rfl⟩:∃ x,xs[i]? = some x/\v=.str x:=by
    rw [Q7] at hv;cases z:xs[i]? with
    | none=>rw [z] at hv; cases hv
    | some x=>rw [z] at hv; exact ⟨x,rfl,(QB.inj hv).symm⟩
   have hi:=(Qx.mp ex).1;have new:x ∉ nv.map (·.1):=by
    rw [nk];intro z;obtain ⟨j,hj,ej⟩:=Q5 z;rw [QW] at hj;rw [R4] at ej;have e1:xs[j]? = some x:=by rw [Qi (by lia),ej]
    have:=By xnd e1 ex;lia
   have nvl:nv.length=i:=by
    have:=congrArg RT nk;rw [Qk,QW] at this;lia
   refine ⟨(by show 0<=sizeLine; lia),fun l hl=>?_⟩;have sl:=Ac (o:=.lst []) hl;refine ⟨_,rfl,_,rfl,N,_,rfl,CC.k (k:=Sum.inr x) (sl _ _ hNN) (by rw [BB]; lia),?_⟩;rw [Cz new];have nlN:l ≠ N:=fun z=>by rw [z,hNN] at hl; cases hl
   refine ⟨_,nv ++ [(x,.ref l)],rfl,Bt (sa.trans sl) hN,Ab,?_,?_,fun y v hm=>?_⟩
   ·rw [Qw,nk,QJ,ex];rfl
   ·rw [Qw,RL];refine ⟨nn,Rw _ _,fun a ha b hb=>?_⟩;rw [Qs.mp hb];rintro rfl;obtain ⟨⟨y,v⟩,hm,e⟩:=Q0.mp ha;obtain ⟨l',e1,e2,_⟩:=nl y v hm;have e':v=.ref l:=e;rw [e'] at e1;cases e1
    rw [hl] at e2;cases e2
   ·rcases QA.mp hm with hm | hm
    ·obtain ⟨l',e1,e2,e3⟩:=nl y v hm;refine ⟨l',e1,?_,e3⟩;rw [Af (Bn (sl _ _ e2) (sl _ _ hNN) (fun z=>by cases z))];exact sl _ _ e2
    ·rw [Qs] at hm;cases hm
     exact ⟨l,rfl,by rw [Af nlN]; exact Ab,sa.free0 hl⟩
  ·rintro σ H2 ⟨v3,nv,rfl,sa,hNN,nk,nn,nl⟩;rw [Qk,QT] at nk;have nkd:(nv.map (·.1)).Nodup:=by rw [nk]; exact xnd
   have LS:=sa _ _ hE;refine ⟨_,rfl,E0,rfl,⟨_,A6.of LS⟩,?_⟩;refine B6 (xs:=us) (fun i σ H'=>∃ (v3 v4 v5 v6:Option V),σ=[some (.ref D),some (.ref E0),some (.ref N),v3,v4,v5,v6]/\Aw H H'/\H' N=some (.dK (sK nv))/\(∀ x v,(x,v) ∈ nv->∃ l,v=.ref l/\H l=none)/\GR H' nv (BH (ws.take i)))
    ⟨_,_,_,_,rfl,sa,hNN,?_,fun x v hm=>?_⟩ (fun i σ H' _ ⟨_,_,_,_,_,sb,_⟩=>A6.of (sb _ _ hE)) ?_ ?_
   ·exact fun x v hm=>let ⟨l,e1,_,e3⟩:=nl x v hm; ⟨l,e1,e3⟩
   ·obtain ⟨l,e1,e2,_⟩:=nl x v hm;exact ⟨l,[],e1,e2,.nil⟩
   ·rintro i v σ H' hv ⟨v3,v4,v5,v6,rfl,sb,OS,fr,nf⟩;obtain ⟨u,t,eu,rfl,ht⟩:=Cd hW hv;obtain ⟨u1x,u2x,une,_⟩:=wc.1 u (Qm eu);have hi:=(Qx.mp eu).1;have grab:∀ {y:Str},y ∈ xs->∃ v,(y,v) ∈ nv:=fun {y} hy=>by
     rw [<-nk] at hy;obtain ⟨⟨z,v⟩,hm,e⟩:=Q0.mp hy;have e':z=y:=e;subst e';exact ⟨v,hm⟩
    have flen:∀ y,(BH (ws.take i) y).length<=64:=fun y=>by
     have h1:(BH (ws.take i) y).length<=(ws.take i).length:=Sb _ _;rw [QW] at h1;lia
    refine ⟨t,_,rfl,BY.of (sb _ _ ht),rfl,_,_,rfl,_,_,rfl,_,_,rfl,rfl,?_⟩;obtain ⟨w1,NY⟩:=grab u1x;obtain ⟨l1,OE,rfl,LR,dd1⟩:=nf _ _ NY;obtain ⟨l1',q1,fr1⟩:=fr _ _ NY;cases q1
    have vl1:OE.length<=64:=by rw [AQ dd1,Qk]; exact flen _
    have Qd:Bo H' N (.str u.1) (some (.ref l1)):=by rw [<-Ci nkd NY]; exact Bo.k (k:=Sum.inr u.1) OS
    refine ⟨_,rfl,_,rfl,N,_,rfl,Qd,.inl ⟨rfl,_,A6.of LR⟩,_,rfl,_,rfl,(by show 2<=sizeLine; lia),fun T1 J1=>⟨l1,_,_,rfl,rfl,Ac J1 _ _ LR,by lia,?_⟩⟩;have Pt:=nf.add nkd nn NY LR J1 (r:=(u.2.1,u.2.2));have sc:Aw H (upd (upd H' T1 (.tup [.str u.2.1,.int u.2.2])) l1 (.lst (OE ++ [.ref T1]))):=Bt (sb.trans (Ac J1)) fr1;have PV:(upd (upd H' T1 (.tup [.str u.2.1,.int u.2.2])) l1 (.lst (OE ++ [.ref T1]))) N=some (.dK (sK nv)):=by
     have z:=Ac (o:=.tup [.str u.2.1,.int u.2.2]) J1 _ _ OS;rw [Af (Bn z (Ac J1 _ _ LR) (fun q=>by cases q))];exact z
    generalize upd (upd H' T1 (.tup [.str u.2.1,.int u.2.2])) l1 (.lst (OE ++ [.ref T1]))=H3 at Pt sc PV ⊢;obtain ⟨w2,Je⟩:=grab u2x;obtain ⟨l2,vs2,rfl,J0,J3⟩:=Pt _ _ Je;obtain ⟨l2',q2,fr2⟩:=fr _ _ Je;cases q2
    have vl2:vs2.length<=65:=by
     rw [AQ J3,Qk];have:=flen u.2.1;dsimp only;split
     ·rw [Qz];show _ + 1<=65
      lia
     ·lia
    have Qc:Bo H3 N (.str u.2.1) (some (.ref l2)):=by rw [<-Ci nkd Je]; exact Bo.k (k:=Sum.inr u.2.1) PV
    refine ⟨_,rfl,_,rfl,N,_,rfl,Qc,.inl ⟨rfl,_,A6.of J0⟩,_,rfl,_,rfl,(by show 2<=sizeLine; lia),fun T2 Jg=>⟨l2,_,_,rfl,rfl,Ac Jg _ _ J0,by lia,?_⟩⟩;have nf3:=Pt.add nkd nn Je J0 Jg (r:=(u.1,u.2.2));refine ⟨_,_,_,_,rfl,Bt (sc.trans (Ac Jg)) fr2,?_,fr,?_⟩
    ·have z:=Ac (o:=.tup [.str u.1,.int u.2.2]) Jg _ _ PV;rw [Af (Bn z (Ac Jg _ _ J0) (fun q=>by cases q))];exact z
    ·rw [QJ,eu];show GR _ nv (BH (ws.take i ++ [u]))
     rw [show BH (ws.take i ++ [u])=_ from funext fun x=>IT une];exact nf3
   ·rintro σ H' ⟨v3,v4,v5,v6,rfl,sb,OS,fr,nf⟩;rw [ul,QT] at nf;exact ⟨_,rfl,k H' N sb hN ⟨nv,OS,nk,nf⟩⟩
end
section
variable {P:Program} {w:World} {K:Qj} {mg:Str->Option Value} {base:Heap}
theorem L8  {fNB:Addr} {fdNB:FuncData} (XNB:Fn K mg "neighbours" B4 ["web"] fNB fdNB) (GNB:AJ P w K mg base BV 1 fNB fdNB ["web"] (Hc K)) {fFA:Addr} {fdFA:FuncData} (XFA:Fn K mg "fars" FG ["web","place"] fFA fdFA) (GFA:AJ P w K mg base BV 3 fFA fdFA ["web","place"] (JQ K)) {fNX:Addr} {fdNX:FuncData} (XNX:Fn K mg "next_place" BO ["beside","left","here"] fNX fdNX) (GNX:AJ P w K mg base BV 1 fNX fdNX ["beside","left","here"] (JM K)) {f:Addr} {fd:FuncData} (F:D4 K "path" "path" FF f fd):AJ P w K mg base BV 4 f fd ["web","one","other"] (JL K):=by
 refine F.ok HR (fun vs H Q E h=>?_) (fun cdv A outer s H vs Q E hr h=>?_)
 ·obtain ⟨q,ps,ws,r,x,o,δ,rfl,_⟩:=h;rfl
 ·obtain ⟨q,ps,ws,r,x,o,δ,rfl,ok,pos,uq,hx,ho,ds,k⟩:=h;have nd:=HR.nd;have big:100000 < sizeLine:=by decide
  refine ⟨_,(Ad (An (i:=3) nd rfl (Or.inl rfl) (Ao GNB (hr.mono (by decide)) (by rfl) XNB.mg XNB.F.kp XNB.b .nil AA (Aa (pv 0) Ae)))
  (Ad (An (i:=4) nd rfl (Or.inl rfl) (Ao GFA (hr.mono (by decide)) (by rfl) XFA.mg XFA.F.kp XFA.b .nil AA (Aa (pv 0) (Aa (pv 2) Ae))))
  (Ad (An (i:=5) nd rfl (Or.inl rfl) (Bs (Aa (pv 1) Ae)))
  (Ad (Dt PassesOwn.never (A1 Mt (Bm (BJ K rfl) (pv 5) (HW FA Ag) (fun _ _=>rfl)) (pv 2) (AL _))
  (Ah (BQ (Du PySem.F.plainAttrs_list PySem.F.slot_list_append PySem.F.type_list_append Bi (pv 5) (Aa (Ao GNX (hr.mono (by decide)) (by rfl) XNX.mg XNX.F.kp XNX.b .nil AA (Aa (pv 3) (Aa (pv 4) (Aa (Bm (BJ K rfl) (pv 5) (HW FA Ag) (fun _ _=>rfl)) Ae)))) Ae)))))
  (Ah (AI (pv 5))))))),?_⟩
  refine ⟨_,rfl,q,ps,ws,r,rfl,ok,fun H1 B dd s1 nb nbv fB fd=>?_⟩;refine ⟨_,rfl,_,rfl,q,ps,ws,r,o,rfl,ok.same s1,pos,uq,ho,fun H2 F nvF s2 fF hF fk fv=>?_⟩;have fv':∀ y v,(y,v) ∈ nvF->v=.int (δ y):=fun y v hm=>by
   obtain ⟨n,rfl,e⟩:=fv y v hm;rw [e.uniq (ds y (by rw [<-fk]; exact Q0.mpr ⟨_,hm,rfl⟩))]
  have Mu:=nb.same s2;have nFd:F ∉ dd:=fun hm=>by
   obtain ⟨j,hj,e⟩:=Q5 hm;obtain ⟨nv,a1,_⟩:=nb.inner j (ps[j]'(by rw [<-nb.len]; exact hj)) F (Qi (by rw [<-nb.len]; exact hj)) (by rw [Qi hj,e]);rw [fF] at a1;cases a1
  have sv:∀ {H' H'':Hp},Aw H' H''->∀ d nv,Rd H' d (.dK (sK nv))->Rd H'' d (.dK (sK nv)):=fun s d nv z=>by
   rcases z with a | ⟨o,a⟩
   ·exact .inl (s _ _ a)
   ·exact .inr ⟨o,s _ _ a⟩
  have LD:=nbv.of nb.r (H':=H2) fun d _ nv z=>sv s2 d nv z
  refine ⟨_,rfl,(by show 1<=sizeLine; lia),fun L hL=>?_⟩;have rkx:=MQ (xs:=ps) (δ:=δ) (x:=x);have p30:=ok.l30;refine ⟨fun m σ H'=>∃ pre last,m=Ds ps δ last/\σ=[some (.ref q),some (.str x),some (.str o),some (.ref B),some (.ref F),some (.ref L)]/\Aw H2 H'/\H' L=some (.lst ((pre ++ [last]).map V.str))/\last ∈ ps/\(∀ p,Fc (Ib ws δ) o last p->Fc (Ib ws δ) o x (pre ++ p))/\pre.length + Ds ps δ last<=30,
   ⟨_,[],x,rfl,rfl,Ac hL,Ab,hx,fun p hp=>hp,by show 0 + _<=30; lia⟩,?_⟩
  rintro m σ H' ⟨pre,last,rfl,rfl,sa,hLL,hl,gp,len⟩;have atL:GV ((pre ++ [last]).map V.str) (-1)=some (.str last):=by rw [Qw]; exact EX _ _
  refine ⟨_,rfl,_,rfl,L,_,_,.str last,rfl,rfl,A6.of hLL,atL,_,rfl,rfl,_,rfl,?_⟩;by_cases e:last=o
  ·subst e;rw [show (!decide (V.str last=V.str last))=false by simp];refine DI ?_;exact ⟨_,rfl,k H' L (pre ++ [last]) ((s1.trans s2).trans sa) ((s1.trans s2).free0 hL) hLL (gp _ .one) (by rw [Qz]; show pre.length + 1<=31; lia)⟩
  ·rw [show (!decide (V.str last=V.str o))=true by simp [e]];refine Fg ⟨_,fun _ _ z=>z,?_⟩;refine ⟨_,rfl,.inl ⟨rfl,_,A6.of hLL⟩,_,rfl,_,rfl,_,rfl,_,rfl,L,_,_,.str last,rfl,rfl,A6.of hLL,atL,?_⟩;refine ⟨B,F,last,ps,dd,ws,nvF,δ,rfl,ok.nd,p30,Mu.same sa,LD.of Mu.r (fun d _ nv z=>sv sa d nv z),ok.ends,nFd,sa _ _ hF,fk,fv',hl,uq,Kp ok.ends ds hl e,fun H4 y s4 hy hmin=>?_⟩;have hy2:y ∈ ps:=let ⟨l,z,_⟩:=hy; (DK ok.ends z).2;have lt:=rkd_lt ok.nd hy2 (Kq pos hy);refine ⟨L,_,_,rfl,rfl,s4 _ _ hLL,by rw [Qk,Qz]; show pre.length + 1 < sizeLine; lia,?_⟩;refine ⟨_,lt,pre ++ [last],y,rfl,rfl,Bt (sa.trans s4) hL,by rw [Ab,Qw (l₂:=[y])]; rfl,hy2,fun p hp=>?_,by rw [Qz]; show pre.length + 1 + _<=30; lia⟩;rw [RM];exact gp _ (.cons e hy (fun z hz=>hmin z hz) hp)
end
section
variable {P:Program} {w:World} {K:Qj} {mg:Str->Option Value} {base:Heap}
theorem Fe (h_min:mg "min"=none)  {f:Addr} {fd:FuncData} (F:D4 K "next_place" "next_place" BO f fd):AJ P w K mg base BV 1 f fd ["beside","left","here"] (JM K):=by
 refine F.ok CU (fun vs H Q E h=>?_) (fun cdv A outer s H vs Q E hr h=>?_)
 ·obtain ⟨B,F,x,ps,ds,ws,nvF,δ,rfl,_⟩:=h;rfl
 ·obtain ⟨B,F,x,ps,ds,ws,nvF,δ,rfl,pnd,pl,nb,nbv,he,nFd,hF,fk,fv,hx,uq,hex,k⟩:=h;have nd:=CU.nd;have hu:=CJ hr;have big:100000 < sizeLine:=by decide
  refine ⟨_,(Ah (AI (HX (Ay (Fi rfl) (by rfl) h_min PyProof.Rows.boot_min (Aa (CQ (N:=["name","beside","left","here"]) (σ0:=fun σ=>[none,some 0,some 1,some 2].map fun j=>j.bind fun j=>(σ[j]?).join) rfl (AV.caught (by rfl) (by decide +kernel) rfl (by decide +kernel) (by intro y hy; simp only [Qn,Q8,or_false] at hy; rcases hy with rfl | rfl | rfl <;> rfl)
   (by intro y hy e; simp only [Qn,Q8,or_false] at hy; rcases hy with rfl | rfl | rfl | rfl | rfl <;> first | exact ⟨_,rfl⟩ | cases e)) (fun σ _=>Bu.of [none,some 0,some 1,some 2] rfl (by
   intro i j x h1 h2;match i,h1,h2 with
   | 0,_,h2=>cases h2
   | 1,h1,h2=>cases h1; cases h2; exact ⟨rfl,.inl rfl,.inl rfl⟩
   | 2,h1,h2=>cases h1; cases h2; exact ⟨rfl,.inl rfl,.inl rfl⟩
   | 3,h1,h2=>cases h1; cases h2; exact ⟨rfl,.inl rfl,.inl rfl⟩
   | n + 4,h1,_=>cases h1)) (FR (A2 hu (pv 0) (pv 2) (fun _ _=>rfl)))
   (fun s2 H C fp=>⟨(Aj (i:=0) (show (["name","beside","left","here"]:List Str).Nodup by decide +kernel) rfl (Or.inl rfl)),(FO (A1 G1 (Aq Ba (A2 hu (A2 hu (pv 1) (pv 3) (fun _ _=>rfl)) (pv 0) (fun _ _=>rfl)) (A2 hu (pv 2) (pv 0) (fun _ _=>rfl))) (A2 hu (pv 2) (pv 3) (fun _ _=>rfl)) (AL _))),(pv 0)⟩)) Ae))))),?_⟩
  obtain ⟨i,d,nv,e1,e2,e3,hd,nvl,nvm⟩:=nb.get pnd hx;have dgB:∀ {H':Hp},H' B=some (.dK (sK (Hk ps ds)))->Bo H' B (.str x) (some (.ref d)):=fun {H'} z=>by
   have:=Bo.k (k:=Sum.inr x) z;rw [e3] at this;exact this
  have dB:d ≠ B:=fun z=>nb.nB (z ▸ Qm e2)
  have dF:F ≠ d:=fun z=>nFd (by rw [z]; exact Qm e2)
  refine ⟨_,rfl,_,rfl,B,_,rfl,dgB nb.top,d,_,rfl,.inl hd,fun ob H1 fz=>?_⟩;have K7:=fz.at;have kp:∀ b u,b ≠ d->H b=some u->H1 b=some u:=fun b u hb z=>by rw [fz.ne hb]; exact z
  have Oe:=kp _ _ dB.symm nb.top;have hF1:=kp _ _ dF hF;have ed:∀ y v,(y,v) ∈ nv->∃ l,v=.int l/\AG ws x y l:=fun y v hm=>nbv i x d nv e1 e2 (.inl hd) y v hm
  refine DY IL (xs:=(sK nv).map fun p=>kV p.1) (fun D j Ap H2 acc=>∃ (v0:Option V) (ss:List Str),Ap=[v0,some (.ref B),some (.ref F),some (.str x)]/\Aw H1 H2/\H2 D=some (.lst acc)/\acc=ss.map V.str/\(∀ y,y ∈ ss ↔ y ∈ (nv.map (·.1)).take j/\Ib ws δ x y)/\acc.length<=j)
   (by rw [Qk,BB]; lia) (fun D hD=>⟨_,[],rfl,Ac hD,Ab,rfl,(fun y=>⟨(fun z=>nomatch z),fun z=>nomatch z.1⟩),Qo _⟩)
   (fun D j Ap H2 acc hD ⟨v0,ss,_,sb,h2,_,_,al⟩=>⟨sb _ _ K7,h2,al⟩) ?_ ?_
  ·rintro D j Ap H2 acc x2 Bk N hD OB ⟨v0,ss,rfl,sb,h2,ea,sm,al⟩ hB hN;obtain ⟨y,v,ey,rfl⟩:∃ s v,nv[j]? = some (s,v)/\x2=.str s:=by
    rw [Q7] at OB;cases z:(sK nv)[j]? with
    | none=>rw [z] at OB; cases OB
    | some p=>
     rw [z] at OB;obtain ⟨ky,v⟩:=p;obtain ⟨y,e1,rfl⟩:=JV z;exact ⟨y,v,e1,(QB.inj OB).symm⟩
   have ym:y ∈ nv.map (·.1):=Q0.mpr ⟨_,Qm ey,rfl⟩;have eyk:(nv.map (·.1))[j]? = some y:=by rw [Q7,ey]; rfl
   obtain ⟨v',Qd,NY⟩:=Hg (H:=H2) (F:=d) (.inr ⟨ob,sb _ _ K7⟩) ym;obtain ⟨l,rfl,el⟩:=ed y v' NY;have yps:=(DK he el).2;obtain ⟨v2,Qc,Je⟩:=Hg (H:=H2) (F:=F) (.inl (sb _ _ hF1)) (by rw [fk]; exact yps);obtain ⟨v3,dg3,hm3⟩:=Hg (H:=H2) (F:=F) (.inl (sb _ _ hF1)) (by rw [fk]; exact hx);have q2:=fv y v2 Je;have q3:=fv x v3 hm3;subst q2 q3;refine ⟨_,rfl,_,rfl,B,_,rfl,dgB (sb _ _ Oe),_,rfl,d,_,rfl,Qd,_,rfl,_,rfl,F,_,rfl,Qc,_,_,rfl,rfl,_,rfl,_,rfl,F,_,rfl,dg3,rfl,_,rfl,?_⟩;have tk:∀ z,z ∈ (nv.map (·.1)).take (j + 1) ↔ z ∈ (nv.map (·.1)).take j\/z=y:=fun z=>by
    rw [QJ,eyk,QA];simp
   refine C4 (fun hz=>?_) (fun hz=>?_)
   ·have Jz:Ib ws δ x y:=⟨l,el,by have:=of_decide_eq_true hz; injection this⟩
    refine ⟨_,rfl,?_⟩;refine hB _ _ _ h2 ⟨_,ss ++ [y],rfl,Bt sb hD,Ab,by rw [ea,Qw]; rfl,fun z=>?_,by rw [Qz]; simp; lia⟩;rw [QA,tk,sm];simp only [Qs];constructor
    ·rintro (⟨a,b⟩ | rfl)
     ·exact ⟨.inl a,b⟩
     ·exact ⟨.inr rfl,Jz⟩
    ·rintro ⟨a | rfl,b⟩
     ·exact .inl ⟨a,b⟩
     ·exact .inr rfl
   ·refine hN _ _ ⟨_,ss,rfl,sb,h2,ea,fun z=>?_,by lia⟩;rw [tk,sm];constructor
    ·rintro ⟨a,b⟩;exact ⟨.inl a,b⟩
    ·rintro ⟨a | rfl,b⟩
     ·exact ⟨a,b⟩
     ·obtain ⟨l',e',q⟩:=b;have:=uq _ _ _ _ el e';subst this;exact absurd (decide_eq_true (congrArg V.int q)) hz
  ·rintro D Ap H2 acc hD ⟨v0,ss,rfl,sb,h2,ea,sm,al⟩;have eln:((sK nv).map fun p=>kV p.1).length=(nv.map (·.1)).length:=by rw [Qk,BB,Qk]
   rw [eln,QT] at sm;have Ph:∀ y,y ∈ ss ↔ Ib ws δ x y:=fun y=>(sm y).trans ⟨fun z=>z.2,fun z=>⟨(nvm y).mpr (let ⟨l,e,_⟩:=z; e.adj),z⟩⟩
   obtain ⟨y0,LP⟩:=hex;refine ⟨D,ss,rfl,A6.of (by rw [h2,ea]),(fun z=>by have:=(Ph y0).mpr LP; rw [z] at this; exact nomatch this),fun m hm hmin=>?_⟩;have nf:∀ (Nb:Obj) (w':HO),H d ≠ some (.frz Nb w'):=fun Nb w' z=>by rw [hd] at z; cases z
   refine ⟨d,ob,sK nv,sb _ _ K7,nf,?_⟩;refine k _ m (fun b u z=>?_) ((Ph m).mp hm) fun z hz=>hmin z ((Ph z).mpr hz)
   by_cases e:b=d
   ·subst e;rw [hd] at z;cases z
    exact Ab
   ·rw [Af e];exact sb _ _ (kp _ _ e z)
end
structure TxtP (K:Qj) (mg:Str->Option Value):Prop where
 len:mg "len"=none
 abs:mg "abs"=none
section
variable {P:Program} {w:World} {K:Qj} {mg:Str->Option Value} {base:Heap}
theorem MZ {f:Addr} {fd:FuncData} (F:D4 K "_law_pen" "_law_pen" CO f fd):AJ P w K mg base BV 1 f fd ["_law_script"] (Mo K):=by
 refine F.ok He (fun vs H Q E h=>?_) (fun cdv A outer s H vs Q E hr h=>?_)
 ·obtain ⟨a,rfl,_⟩:=h;rfl
 ·obtain ⟨a,rfl,k⟩:=h;refine ⟨_,Ah (AI (L1 (E2 BC (pv 0) (E2 BC Ag (E2 BC Ag Lx))) rfl rfl (by intro z; cases z) (by decide))),?_⟩;intro p hp;refine ⟨_,rfl,Ab,[(.inr "script",.ref a),(.inr "at",.int 0),(.inr "left",.int 0)],rfl,(by show 3<=15; decide),?_⟩;rw [BF];exact k p hp
theorem L7 {f:Addr} {fd:FuncData} (T:TxtP K mg) (F:D4 K "_law_take" "_law_take" Cu f fd):AJ P w K mg base BV 1 f fd ["_law_pen_here","_law_many"] (De K):=by
 refine F.ok AN (fun vs H Q E h=>?_) (fun cdv A outer s H vs Q E hr h=>?_)
 ·obtain ⟨p,a,ns,i,l,m,rfl,_⟩:=h;rfl
 ·obtain ⟨p,a,ns,i,l,m,rfl,⟨hd,hS,hi⟩,hm,Je,hlen,k⟩:=h;have hu:=CJ hr;refine ⟨_,Ad (B8 (A1 G0 (A2 hu (pv 0) BC (fun _ _=>rfl)) Ag (AL _))
    (Ad (An (i:=2) AN.nd rfl (Or.inl rfl) (Aq BL (A2 hu (pv 0) BC (fun _ _=>rfl)) (pv 1)))
     (Ad (Bv hu (pv 0) BC (Aq Es (A2 hu (pv 0) BC (fun _ _=>rfl)) (pv 1)) rfl) (Ah (AI (pv 2))))) AO)
   (Ad (An (i:=3) AN.nd rfl (Or.inl rfl) (A2 hu (pv 0) BC (fun _ _=>rfl)))
   (Ad (An (i:=4) AN.nd rfl (Or.inl rfl) (A2 hu (pv 0) BC (fun _ _=>rfl)))
   (Ad (Bv hu (pv 0) BC (Aq Ba (pv 4) Ag) rfl)
   (Ad (An (i:=5) AN.nd rfl (Or.inl rfl) (Aq Ba (Aq E5 Ag (pv 4)) Ag))
   (Ad (B8 (A1 HZ (pv 4) (Ay AR (by rfl) T.len PySem.boot_len (Aa (pv 3) Ae)) (AL _))
     (Ad (An (i:=5) AN.nd rfl (Or.inl rfl) (Bm B5 (pv 3) (pv 4) (fun _ _=>rfl)))
     (Ah (B8 (A1 op_ge (Ay EW (by rfl) T.abs PyProof.Rows.boot_abs (Aa (pv 5) Ae)) (Aq Hi Ag Ag) (AL _))
      (Ad (Bv hu (pv 0) BC (Aq Es (Ay EW (by rfl) T.abs PyProof.Rows.boot_abs (Aa (pv 5) Ae)) (pv 1)) rfl)
       (Ah (AI (Aq BL (Ay EW (by rfl) T.abs PyProof.Rows.boot_abs (Aa (pv 5) Ae)) (pv 1))))) AO)))
     (Ah (B8 (A1 G0 (Ay AR (by rfl) T.len PySem.boot_len (Aa (pv 3) Ae)) Ag (AL _))
      (Ah (An (i:=5) AN.nd rfl (Or.inl rfl) (Aq Ba (Aq BL (Bm B5 (pv 3) (Aq BL (pv 4) (Ay AR (by rfl) T.len PySem.boot_len (Aa (pv 3) Ae))) (fun _ _=>rfl)) (Aq Hi Ag Ag)) (Aq E5 Ag (pv 4))))) AO)))
   (Ad (An (i:=6) AN.nd rfl (Or.inl rfl) (Aq BL (Aq E5 (Aq Ba (Aq Ba (Aq BL (pv 5) Ag) (Aq E5 Ag (pv 4))) Ag) Ag) Ag))
   (Ad (An (i:=6) AN.nd rfl (Or.inl rfl) (Aq BL (Aq Ba (Aq E5 (pv 6) (Aq Ba (Aq BL (pv 6) Ag) Ag)) Ag) Ag))
   (Ah (AI (Aq BL (Aq Es (pv 6) Ag) (pv 1))))))))))),?_⟩
  have dg:∀ {H':Hp} {i' l':Int},H' p=some (.dK (AY a i' l'))->Bo H' p (.str "left") (some (.int l')):=fun h=>Bo.k (k:=Sum.inr "left") h
  refine ⟨_,rfl,p,_,rfl,dg hd,_,_,rfl,rfl,_,rfl,?_⟩;refine C4 (fun _=>?_) (fun _=>?_)
  ·refine ⟨_,rfl,p,_,rfl,dg hd,_,rfl,_,_,rfl,rfl,hm,?_⟩;refine ⟨_,rfl,p,_,rfl,dg hd,_,rfl,_,_,rfl,rfl,⟨hm,Je⟩,_,rfl,p,_,rfl,CC.k (k:=Sum.inr "left") hd FT,_,rfl,?_⟩;rw [Gy];exact k _ _ _ (QR _ (by lia)) (QM _ hm) ⟨Ab,FE hd hS,hi⟩
  ·
   refine ⟨_,rfl,p,_,rfl,Bo.k (k:=Sum.inr "script") hd,?_⟩;refine ⟨_,rfl,p,_,rfl,Bo.k (k:=Sum.inr "at") hd,?_⟩;refine ⟨_,rfl,_,_,rfl,rfl,_,rfl,p,_,rfl,CC.k (k:=Sum.inr "at") hd FT,?_⟩;rw [MT];have K7:(upd H p (.dK (AY a (i + 1) l))) p=some (.dK (AY a (i + 1) l)):=Ab;have hS0:=FE (o:=.dK (AY a (i + 1) l)) hd hS;have O6:A6 K (upd H p (.dK (AY a (i + 1) l))) a (ns.map V.int):=hS0.sq;refine ⟨_,rfl,_,_,rfl,rfl,.inl ⟨by decide,by decide⟩,_,_,rfl,rfl,?_⟩;refine ⟨_,rfl,_,rfl,a,_,rfl,.inl O6,_,_,rfl,rfl,_,rfl,?_⟩;have last:∀ (d:Int),0<=d->d < m->Q (.int d) (upd H p (.dK (AY a (i + 1) l))):=fun d h0 h1=>k d _ _ h0 h1 ⟨Ab,hS0,by lia⟩
   refine C4 (fun Bc=>?_) (fun hge=>?_)
   ·rw [decide_eq_true_eq,Qk] at Bc;obtain ⟨c,hc⟩:=M6 hi Bc;refine ⟨_,rfl,_,rfl,a,_,_,_,rfl,rfl,O6,hc,?_⟩;refine ⟨_,rfl,_,rfl,_,_,rfl,rfl,⟨by decide,by decide,by decide⟩,_,_,rfl,rfl,_,rfl,?_⟩;refine C4 (fun _=>?_) (fun _=>?_)
    ·refine ⟨_,rfl,_,rfl,_,rfl,_,_,rfl,rfl,⟨hm,Je⟩,_,rfl,p,_,rfl,CC.k (k:=Sum.inr "left") K7 FT,?_⟩;rw [Gy,BF];refine ⟨_,rfl,_,rfl,_,rfl,_,_,rfl,rfl,hm,?_⟩;exact k _ _ _ (QR _ (by lia)) (QM _ hm) ⟨Ab,FE hd hS,by lia⟩
    ·refine ⟨_,rfl,_,_,rfl,rfl,(by show (0:Int) < 2147483629; decide),_,rfl,_,_,rfl,rfl,.inl ⟨by decide,by decide⟩,_,_,rfl,rfl,_,_,rfl,rfl,_,_,rfl,rfl,.inr ⟨by decide,by decide⟩,_,_,rfl,rfl,(by show (0:Int) < 2147483587; decide),?_⟩;refine ⟨_,rfl,_,rfl,_,_,rfl,rfl,(by show (0:Int) < 65521; decide),_,_,rfl,rfl,_,_,rfl,rfl,.inl ⟨RK (by decide) (QR _ (by decide)),Sl (QM _ (by decide)) (by decide)⟩,_,_,rfl,rfl,_,_,rfl,rfl,(by show (0:Int) < 2147483563; decide),?_⟩;refine ⟨_,rfl,_,_,rfl,rfl,⟨by decide,by decide⟩,_,rfl,_,_,rfl,rfl,hm,?_⟩;exact last _ (QR _ (by lia)) (QM _ hm)
   ·rw [decide_eq_true_eq,Qk] at hge;refine ⟨_,rfl,a,_,rfl,.inl O6,_,_,rfl,rfl,_,rfl,?_⟩;refine C4 (fun hpos=>?_) (fun _=>?_)
    ·rw [decide_eq_true_eq,Qk] at hpos;have hl0:(0:Int) < ((ns.map V.int).length:Int):=by rw [Qk]; exact hpos
     obtain ⟨c,hc⟩:=M6 (ns:=ns) (i:=i % ((ns.map V.int).length:Int)) (QR _ (by lia)) (by rw [Qk]; exact QM _ hpos);refine ⟨_,rfl,_,rfl,_,rfl,a,_,rfl,.inl O6,_,_,rfl,rfl,hl0,a,_,_,_,rfl,rfl,O6,hc,?_⟩;refine ⟨_,_,rfl,rfl,⟨by decide,by decide,by decide⟩,_,_,rfl,rfl,(by show (0:Int) < 10 ^ 17; decide),_,rfl,_,_,rfl,rfl,.inl ⟨by decide,by decide⟩,_,_,rfl,rfl,?_⟩;refine ⟨_,rfl,_,_,rfl,rfl,(by show (0:Int) < 2147483629; decide),_,rfl,_,_,rfl,rfl,.inl ⟨by decide,by decide⟩,_,_,rfl,rfl,_,_,rfl,rfl,_,_,rfl,rfl,.inr ⟨by decide,by decide⟩,_,_,rfl,rfl,(by show (0:Int) < 2147483587; decide),?_⟩;refine ⟨_,rfl,_,rfl,_,_,rfl,rfl,(by show (0:Int) < 65521; decide),_,_,rfl,rfl,_,_,rfl,rfl,.inl ⟨RK (by decide) (QR _ (by decide)),Sl (QM _ (by decide)) (by decide)⟩,_,_,rfl,rfl,_,_,rfl,rfl,(by show (0:Int) < 2147483563; decide),?_⟩;refine ⟨_,rfl,_,_,rfl,rfl,⟨by decide,by decide⟩,_,rfl,_,_,rfl,rfl,hm,?_⟩;exact last _ (QR _ (by lia)) (QM _ hm)
    ·refine ⟨_,rfl,_,_,rfl,rfl,(by show (0:Int) < 2147483629; decide),_,rfl,_,_,rfl,rfl,.inl ⟨by decide,by decide⟩,_,_,rfl,rfl,_,_,rfl,rfl,_,_,rfl,rfl,.inr ⟨by decide,by decide⟩,_,_,rfl,rfl,(by show (0:Int) < 2147483587; decide),?_⟩;refine ⟨_,rfl,_,rfl,_,_,rfl,rfl,(by show (0:Int) < 65521; decide),_,_,rfl,rfl,_,_,rfl,rfl,.inl ⟨RK (by decide) (QR _ (by decide)),Sl (QM _ (by decide)) (by decide)⟩,_,_,rfl,rfl,_,_,rfl,rfl,(by show (0:Int) < 2147483563; decide),?_⟩;refine ⟨_,rfl,_,_,rfl,rfl,⟨by decide,by decide⟩,_,rfl,_,_,rfl,rfl,hm,?_⟩;exact last _ (QR _ (by lia)) (QM _ hm)
structure Eh (K:Qj) (mg:Str->Option Value) (fT:Addr) (fdT:FuncData):Prop where
 T:TxtP K mg
 F:D4 K "_law_take" "_law_take" Cu fT fdT
 mg:mg "_law_take"=some (.ref fT)
 b:C9 K fdT ["_law_pen_here","_law_many"] []
theorem Eh.ok {fT:Addr} {fdT:FuncData} (h:Eh K mg fT fdT):AJ P w K mg base BV 1 fT fdT ["_law_pen_here","_law_many"] (De K):=L7 h.T h.F
end
section
variable {P:Program} {w:World} {K:Qj} {mg:Str->Option Value} {base:Heap}
theorem Kn {f fT:Addr} {fd fdT:FuncData} (TK:Eh K mg fT fdT) (hrg:mg "range"=none) (F:D4 K "_law_names" "_law_names" B0 f fd):AJ P w K mg base BV 2 f fd ["_law_pen_here","_law_many"] (HM K):=by
 have GT:AJ P w K mg base BV 1 fT fdT ["_law_pen_here","_law_many"] (De K):=TK.ok;refine F.ok Dq (fun vs H Q E h=>?_) (fun cdv A outer s H vs Q E hr h=>?_)
 ·obtain ⟨p,a,ns,i,l,n,rfl,_⟩:=h;rfl
 ·obtain ⟨p,a,ns,i,l,n,rfl,hP,hlen,hn,k⟩:=h;have Gb:=hr.units;have big:1000 < sizeLine:=by decide
  have nd:=Dq.nd;have C0:∃ t,GQ (Fh BV P w K mg base ["_law_pen_here","_law_many","_law_letters","_law_names_here","_law_k","_law_name","_law_j","_law_spare"] "_law_names" (Am B0) f cdv A outer s H E).nox
    ((Iq ((Bx B0).getD 2 (.Pass ⟨0,0,0,0⟩))).drop 2) t /\
    ∀ (D:CB) (d:Addr) (xs:List Str) (z:Str) (v4 v6 v7:Option V) (H3:Hp) (i3 l3:Int),M9 z->z.length<=5->A8 K H3 p a ns i3 l3->H3 d=some (.lst (xs.map V.str))->xs.length<=29->(∀ x ∈ xs,Cc x=true) ->
     (∀ (z':Str) (v6 v7:Option V) (H4:Hp) (i4 l4:Int),Cc z'=true->¬ z' ∈ xs->A8 K H4 p a ns i4 l4->(∀ b o,b ≠ p->b ≠ d->H3 b=some o->H4 b=some o)->H4 d=some (.lst ((xs ++ [z']).map V.str)) ->
      D.nx [some (.ref p),some (.int n),some (.str Bw),some (.ref d),v4,some (.str z'),v6,v7] H4) ->
     t D [some (.ref p),some (.int n),some (.str Bw),some (.ref d),v4,some (.str z),v6,v7] H3:=by
   refine ⟨_,Ad (Br PassesOwn.never rfl (CP rfl hrg (Aa (Aq Ba Ag (Ao GT hr (by rfl) TK.mg TK.F.kp TK.b .nil AA (Aa (pv 0) (Aa (Aq D9 Ag (Ay Gh (by rfl) TK.T.len PySem.boot_len (Aa (pv 5) Ae))) Ae)))) Ae)) (Aj (i:=6) nd rfl (Or.inl rfl))
     (Ah (An (i:=5) nd rfl (Or.inl rfl) (Aq E6 (pv 5) (Bm Ho (pv 2) (Ao GT hr (by rfl) TK.mg TK.F.kp TK.b .nil AA (Aa (pv 0) (Aa Ag Ae))) (fun _ _=>rfl))))))
    (Ad (An (i:=7) nd rfl (Or.inl rfl) Ag)
    (Ad (Dt PassesOwn.never (A1 DB (pv 5) (pv 3) (by rfl))
     (Ad (An (i:=5) nd rfl (Or.inl rfl) (Aq E6 (Bm Ho (pv 2) (Aq BL (Aq Es (pv 7) Ag) Ag) (fun _ _=>rfl)) (Bm Ho (pv 2) (Aq BL (pv 7) Ag) (fun _ _=>rfl))))
     (Ah (An (i:=7) nd rfl (Or.inl rfl) (Aq Ba (pv 7) Ag)))))
    (Ah (BQ (Du PySem.F.plainAttrs_list PySem.F.slot_list_append PySem.F.type_list_append Bi (pv 3) (Aa (pv 5) Ae)))))),?_⟩
   intro D d xs z v4 v6 v7 H3 i3 l3 hz hz5 P3 hd hxs hnm kk;refine ⟨_,rfl,_,rfl,z,rfl,by lia,_,_,rfl,rfl,p,a,ns,i3,l3,_,rfl,P3,by lia,by lia,hlen,fun e0 i4 l4 e0a e0b P4=>⟨_,_,rfl,rfl,_,rfl,by lia,by lia,?_⟩⟩;refine Cq (lo:=0) (fun j σ H'=>∃ (z2:Str) (v6:Option V) (i' l':Int),σ=[some (.ref p),some (.int n),some (.str Bw),some (.ref d),v4,some (.str z2),v6,v7]/\M9 z2/\z2.length=z.length + j/\H'=upd H3 p (.dK (AY a i' l'))/\A8 K H' p a ns i' l')
    ⟨z,v6,i4,l4,rfl,hz,rfl,rfl,P4⟩ ?_ ?_
   ·rintro j σ H' hj ⟨z2,v6,i5,l5,rfl,Ox,J0,rfl,P5⟩;refine ⟨_,rfl,_,rfl,_,rfl,p,a,ns,i5,l5,26,rfl,P5,by decide,by decide,hlen,fun e i6 l6 ea eb P6=>?_⟩;obtain ⟨c,hc⟩:=Mc (l:=Bw.cps.toList) ea eb;refine ⟨_,_,c,rfl,rfl,by decide,hc,_,_,rfl,rfl,?_,?_⟩
    ·show z2.length + 1<=sizeLine
     lia
    ·rw [BF] at P6 ⊢;refine ⟨_,_,i6,l6,rfl,LI Ox (G9 c (NJ hc)),?_,rfl,P6⟩;rw [Str.length_append];show z2.length + 1=z.length + (j + 1)
     lia
   ·rintro σ H' ⟨z2,v6,i5,l5,rfl,Ox,J0,rfl,P5⟩;have OP:=Av (i':=i5) (l':=l5) P3.dc hd (by intro z; cases z);have nm2:Cc z2=true:=G3 (by lia) (by lia) Ox;refine J8 (fun σ H6=>∃ (z3:Str) (m:Nat),σ=[some (.ref p),some (.int n),some (.str Bw),some (.ref d),v4,some (.str z3),v6,some (.int m)]/\H6=upd H3 p (.dK (AY a i5 l5))/\Cc z3=true/\(∀ q,q + 1 < m->Cr q ∈ xs)/\(∀ q,m=q + 1->z3=Cr q))
     (fun σ _=>match σ with | [_,_,_,_,_,_,_,some (.int m)]=>100 - m.toNat | _=>0) ⟨z2,0,rfl,rfl,nm2,fun q hq=>(by lia),fun q hq=>(by lia)⟩ ?_ ?_
    ·rintro σ H6 ⟨z3,m,rfl,rfl,nm3,h1,h2⟩;refine ⟨_,rfl,_,rfl,d,_,rfl,.inl (A6.of OP),rfl,Jl xs,_,rfl,?_⟩;rw [if_neg Qr,K1];refine C4 (fun hin=>?_) (fun hout=>?_)
     ·rw [decide_eq_true_eq] at hin;have hm:m<=30:=by
       refine GI (xs:=xs) (fun q hq=>?_) (by lia);by_cases e:m=q + 1
       ·rw [<-h2 q e]; exact hin
       ·exact h1 q (by lia)
      have d1:0<=(m:Int) / 26 % 26:=QR _ (by decide);have d2:(m:Int) / 26 % 26 < 26:=QM _ (by decide);have d3:0<=(m:Int) % 26:=QR _ (by decide);have d4:(m:Int) % 26 < 26:=QM _ (by decide);refine ⟨_,rfl,_,rfl,_,_,rfl,rfl,⟨by decide,by decide⟩,_,_,rfl,rfl,(by show (0:Int) < 26; decide),_,_,_,rfl,rfl,by decide,Fv d1 d2,_,rfl,_,rfl,_,_,rfl,rfl,(by show (0:Int) < 26; decide),_,_,_,rfl,rfl,by decide,Fv d3 d4,_,_,rfl,rfl,?_,_,rfl,_,_,rfl,rfl,?_⟩
      ·show 1 + 1<=sizeLine
       lia
      ·have e:(⟨#[97 + ((m:Int) / 26 % 26).toNat]⟩:Str) ++ ⟨#[97 + ((m:Int) % 26).toNat]⟩=Cr m:=by
        unfold Cr;rw [show ((m:Int) / 26 % 26).toNat=m / 26 % 26 by lia,show ((m:Int) % 26).toNat=m % 26 by lia]
       refine ⟨⟨_,m + 1,rfl,rfl,?_,fun q hq=>?_,fun q hq=>?_⟩,?_⟩
       ·rw [e]; exact H0 m
       ·by_cases e2:m=q + 1
        ·rw [<-h2 q e2]; exact hin
        ·exact h1 q (by lia)
       ·rw [e];congr 1;lia
       ·show 100 - ((m:Int) + 1).toNat < 100 - (m:Int).toNat
        lia
     ·rw [decide_eq_true_eq] at hout;refine ⟨_,rfl,.inl ⟨rfl,_,A6.of OP⟩,_,rfl,d,_,_,rfl,rfl,OP,?_,?_⟩
      ·rw [Qk];lia
      ·have pd:d ≠ p:=Bn hd P3.dc (by intro z; cases z);refine kk z3 v6 _ _ i5 l5 nm3 hout (P5.other OP (by intro _ _ z; cases z) (by intro _ z; cases z)) (fun b o hb hbd e=>?_) ?_
       ·rw [Af hbd,Af hb]; exact e
       ·rw [Qw]; exact Ab
    ·rintro σ H6 Q1 Q2 hq ⟨v,e1,u,e2,pp,ys,h1,h2,h3,h4,b,h5,h6⟩;exact ⟨v,e1,u,e2,pp,ys,h1,h2,h3,h4,b,h5,hq _ _ h6⟩
  obtain ⟨trest,hrest,krest⟩:=C0;refine ⟨_,Ad (An (i:=2) nd rfl (Or.inl rfl) BC) (Ad (An (i:=3) nd rfl (Or.inl rfl) (Bs Ae))
   (Ad (Br PassesOwn.never rfl (CP rfl hrg (Aa (pv 1) Ae)) (Aj (i:=4) nd rfl (Or.inl rfl))
    (Ad (An (i:=5) nd rfl (Or.inl rfl) BC)
    (Ad (B8 (FL (A1 (DA Gb) (pv 3) (Bs Ae) (AL _)) (Er (A1 G1 (Ao GT hr (by rfl) TK.mg TK.F.kp TK.b .nil AA (Aa (pv 0) (Aa Ag Ae))) Ag (AL _)))).pt
     (Ah (An (i:=5) nd rfl (Or.inl rfl) (FU (Bm B5 (pv 3) (HW FA Ag) (fun _ _=>rfl)) Lz (Ly Ag)))) AO)
    hrest)))
   (Ah (AI (pv 3))))),?_⟩
  refine ⟨(by show 0<=sizeLine; lia),fun D hD=>?_⟩;have sD:=Ac (o:=.lst []) hD;refine ⟨_,rfl,_,rfl,by lia,by lia,Cq (lo:=0) (fun j σ H'=>∃ (xs:List Str) (v4 v5 v6 v7:Option V) (i' l':Int),σ=[some (.ref p),some (.int n),some (.str Bw),some (.ref D),v4,v5,v6,v7]/\xs.length=j/\xs.Nodup/\(∀ x ∈ xs,Cc x=true)/\A8 K H' p a ns i' l'/\AK p H H'/\H' D=some (.lst (xs.map V.str)))
   ⟨[],_,_,_,_,i,l,rfl,rfl,RC,(fun x hx=>nomatch hx),hP.same sD,AK.of_same sD,Ab⟩ ?_ ?_⟩
  ·rintro j σ H1 hj ⟨xs,v4,v5,v6,v7,i1,l1,rfl,LR,Pu,NU,P1,k1,K7⟩;have go:∀ (z:Str) (H3:Hp) (i3 l3:Int) (v4 v6 v7:Option V),M9 z->z.length<=5->A8 K H3 p a ns i3 l3->AK p H1 H3->H3 D=some (.lst (xs.map V.str))->∀ (W:CB),
     W.nx=(fun σ H'=>∃ (xs:List Str) (v4 v5 v6 v7:Option V) (i' l':Int),σ=[some (.ref p),some (.int n),some (.str Bw),some (.ref D),v4,v5,v6,v7]/\xs.length=j + 1/\xs.Nodup/\(∀ x ∈ xs,Cc x=true)/\A8 K H' p a ns i' l'/\AK p H H'/\H' D=some (.lst (xs.map V.str))) ->
     trest W [some (.ref p),some (.int n),some (.str Bw),some (.ref D),v4,some (.str z),v6,v7] H3:=by
    intro z H3 i3 l3 v4 v6 v7 hz hz5 P3 k3 hd3 W hW;refine krest W D xs z v4 v6 v7 H3 i3 l3 hz hz5 P3 hd3 (by lia) NU fun z' v6 v7 H4 i4 l4 nm' nin P4 k4 hd4=>?_
    rw [hW];refine ⟨xs ++ [z'],v4,_,v6,v7,i4,l4,rfl,by rw [Qz,LR]; rfl,?_,?_,P4,fun b o hb e=>?_,hd4⟩
    ·exact Ic Pu nin
    ·intro x hx;rcases QA.mp hx with h | h
     ·exact NU x h
     ·rw [Qs.mp h]; exact nm'
    ·exact k4 b o hb (Ai e hD) (k3 b o hb (k1 b o hb e))
   have Ow:M9 (Str.ofString ""):=fun c hc=>nomatch hc
   refine ⟨_,rfl,(by show 0<=sizeLine; lia),fun E hE=>⟨.list (xs.map .str),.list [],?_,?_,?_,rfl,?_,_,rfl,?_⟩⟩
   ·exact .lst (Ac hE _ _ K7) (BW _ xs)
   ·exact .lst Ab .nil
   ·exact EG NU
   ·show PyData.depthAll (xs.map .str) + 1<=60
    rw [Di];decide
   ·have sE:=Ac (o:=.lst []) hE;rw [LV];refine C4 (fun hne=>?_) (fun _=>?_)
    ·refine ⟨_,rfl,p,a,ns,i1,l1,4,rfl,P1.same sE,by decide,by decide,hlen,fun e i2 l2 ea eb P2=>⟨rfl,_,rfl,?_⟩⟩;have hd2:=Av (i':=i2) (l':=l2) (P1.same sE).dc (sE _ _ K7) (by intro z; cases z);have k2:AK p H1 (upd (upd H1 E (.lst [])) p (.dK (AY a i2 l2))):=(AK.of_same sE).trans AK.upd;refine C4 (fun _=>?_) (fun _=>?_)
     ·
      obtain ⟨ys,y,rfl⟩:∃ ys y,xs=ys ++ [y]:=by
       cases xs with
       | nil=>cases hne
       | cons x xs=>exact ⟨_,_,(List.dropLast_concat_getLast (List.cons_ne_nil x xs)).symm⟩
      have hy:=Kx (NU y (Qq _ Qy));refine ⟨_,rfl,_,rfl,D,_,_,V.str y,rfl,rfl,A6.of hd2,?_,_,rfl,y,rfl,by lia,?_⟩
      ·rw [Qw];exact EX _ _
      ·refine go _ _ i2 l2 _ _ _ (fun c hc=>hy.2.2 c (IG hc)) ?_ P2 k2 hd2 _ rfl;have f5:=PyProof.Rows.fact_slice_ns y 5;by_cases h5:(5:Int)<=y.length
       ·have:=f5.1 (by decide) h5;lia
       ·have:=f5.2 (by lia);lia
     ·exact go _ _ i2 l2 _ _ _ Ow (by decide) P2 k2 hd2 _ rfl
    ·exact go _ _ i1 l1 _ _ _ Ow (by decide) (P1.same sE) (AK.of_same sE) (sE _ _ K7) _ rfl
  ·rintro σ H1 ⟨xs,v4,v5,v6,v7,i1,l1,rfl,LR,Pu,NU,P1,k1,K7⟩;exact ⟨_,rfl,k H1 D xs i1 l1 P1 k1 hD K7 (by lia) Pu NU⟩
end
section
variable {P:Program} {w:World} {K:Qj} {mg:Str->Option Value} {base:Heap}
theorem DC {f fT:Addr} {fd fdT:FuncData} (TK:Eh K mg fT fdT) (F:D4 K "_law_length" "_law_length" BP f fd):AJ P w K mg base BV 2 f fd ["_law_pen_here"] (HN K):=by
 have GT:AJ P w K mg base BV 1 fT fdT ["_law_pen_here","_law_many"] (De K):=TK.ok;refine F.ok CW (fun vs H Q E h=>?_) (fun cdv A outer s H vs Q E hr h=>?_)
 ·obtain ⟨p,a,ns,i,l,rfl,_⟩:=h;rfl
 ·obtain ⟨p,a,ns,i,l,rfl,hP,hlen,k⟩:=h;have nd:=CW.nd;refine ⟨_,Ad (An (i:=1) nd rfl (Or.inl rfl) (Ao GT hr (by rfl) TK.mg TK.F.kp TK.b .nil AA (Aa (pv 0) (Aa Ag Ae))))
   (Ad (B8 (A1 HZ (pv 1) Ag (AL _)) (Ah (AI (Aq Ba Ag (Ao GT hr (by rfl) TK.mg TK.F.kp TK.b .nil AA (Aa (pv 0) (Aa Ag Ae)))))) AO)
   (Ad (B8 (A1 HZ (pv 1) Ag (AL _)) (Ah (AI (Aq Ba Ag (Ao GT hr (by rfl) TK.mg TK.F.kp TK.b .nil AA (Aa (pv 0) (Aa Ag Ae)))))) AO)
   (Ah (AI (Aq D9 (Aq D9 (Aq Hi Ag Ag) Ag) (Ao GT hr (by rfl) TK.mg TK.F.kp TK.b .nil AA (Aa (pv 0) (Aa Ag Ae)))))))),?_⟩
  refine ⟨_,rfl,p,a,ns,i,l,9,rfl,hP,by decide,by decide,hlen,fun d i1 l1 da db P1=>?_⟩;refine ⟨_,rfl,_,_,rfl,rfl,_,rfl,?_⟩;refine C4 (fun _=>?_) (fun _=>?_)
  ·refine ⟨_,rfl,p,a,ns,i1,l1,2,rfl,P1,by decide,by decide,hlen,fun e i2 l2 ea eb P2=>⟨_,_,rfl,rfl,?_⟩⟩;rw [BF] at P2 ⊢;exact k _ i2 l2 (by lia) P2
  ·refine ⟨_,rfl,_,_,rfl,rfl,_,rfl,?_⟩;refine C4 (fun _=>?_) (fun _=>?_)
   ·refine ⟨_,rfl,p,a,ns,i1,l1,9,rfl,P1,by decide,by decide,hlen,fun e i2 l2 ea eb P2=>⟨_,_,rfl,rfl,?_⟩⟩;rw [BF] at P2 ⊢;exact k _ i2 l2 (by lia) P2
   ·refine ⟨_,_,rfl,rfl,⟨by decide,by decide,by decide⟩,_,_,rfl,rfl,_,rfl,p,a,ns,i1,l1,3,rfl,P1,by decide,by decide,hlen,fun e i2 l2 ea eb P2=>⟨_,_,rfl,rfl,?_⟩⟩;rw [BF] at P2 ⊢;refine k _ i2 l2 ?_ P2;have:(1000:Int)<=10 ^ (30:Int).toNat:=by decide
    lia
end
structure Mg (K:Qj) (mg:Str->Option Value) (f:Addr) (fd:FuncData):Prop where
 F:D4 K "_law_length" "_law_length" BP f fd
 mg:mg "_law_length"=some (.ref f)
 b:C9 K fd ["_law_pen_here"] []
section
variable {P:Program} {w:World} {K:Qj} {mg:Str->Option Value} {base:Heap}
theorem waysB {f fT fL:Addr} {fd fdT fdL:FuncData} (TK:Eh K mg fT fdT) (LK:Mg K mg fL fdL) (hrg:mg "range"=none)
  {cdv:Value} {A:Around} {outer:List Env} {s:Shared} {H:Hp} {Q:VK} {E:XK} (hr:BM 2 (A.deeper (PyProof.Rows.envOfC "_law_ways" (Am AS) s.heap.objs.size f cdv)))
  {p a D:Addr} {ns:List Int} {xs:List Str} (hlen:ns.length<=63) (hn1:1<=xs.length) (K4:xs.length<=30) (hnd:xs.Nodup) :
  ∃ t,GQ (Fh BV P w K mg base ["_law_pen_here","_law_names_here","_law_shape","_law_ways_here","_law_k","_law_there","_law_j","_law_other"] "_law_ways" (Am AS) f cdv A outer s H E).nox
    ((Bx AS).drop 3) t /\
   ∀ (W:CB) (H1:Hp) (e:Addr) (vs:List V) (ws:List Az) (sh:Int) (v4 v5 v6 v7:Option V) (i1 l1:Int),A8 K H1 p a ns i1 l1->H1 D=some (.lst (xs.map V.str))->e ≠ D->H1 e=some (.lst vs)->A7 H1 vs (ws.map B2)->DQ xs xs.length ws ->
    (∀ (H2:Hp) (vs:List V) (ws:List Az) (i2 l2:Int),A8 K H2 p a ns i2 l2->(∀ b o,b ≠ p->b ≠ e->H1 b=some o->H2 b=some o)->H2 e=some (.lst vs)->A7 H2 vs (ws.map B2)->KW xs ws->W.rt (.ref e) H2) ->
    t W [some (.ref p),some (.ref D),some (.int sh),some (.ref e),v4,v5,v6,v7] H1:=by
 have GT:AJ P w K mg base BV 1 fT fdT ["_law_pen_here","_law_many"] (De K):=TK.ok;have GL:AJ P w K mg base BV 2 fL fdL ["_law_pen_here"] (HN K):=DC TK LK.F;have K3:BM 1 _:=hr.mono (by decide);have hu:=CJ hr;have big:1000 < sizeLine:=by decide
 have nd:=Cf.nd;refine ⟨_,Ad (B8 (FL (A1 DB (pv 2) (A9 (Aa Ag (Aa Ag Ae))) (by rfl)) (Er (A1 G0 (Ay AR (by rfl) TK.T.len PySem.boot_len (Aa (pv 1) Ae)) Ag (AL _)))).pt
   (Ah (Br PassesOwn.never rfl (CP rfl hrg (Aa (Aq Ba Ag (Ao GT K3 (by rfl) TK.mg TK.F.kp TK.b .nil AA (Aa (pv 0) (Aa Ag Ae)))) Ae)) (Aj (i:=4) nd rfl (Or.inr rfl))
    (Ad (An (i:=6) nd rfl (Or.inr rfl) (Ao GT K3 (by rfl) TK.mg TK.F.kp TK.b .nil AA (Aa (pv 0) (Aa (Ay AR (by rfl) TK.T.len PySem.boot_len (Aa (pv 1) Ae)) Ae))))
    (Ad (An (i:=7) nd rfl (Or.inr rfl) (Bm B5 (pv 1) (Aq BL (Aq Ba (Aq Ba (pv 6) Ag) (Ao GT K3 (by rfl) TK.mg TK.F.kp TK.b .nil AA (Aa (pv 0) (Aa (Aq D9 (Ay AR (by rfl) TK.T.len PySem.boot_len (Aa (pv 1) Ae)) Ag) Ae)))) (Ay AR (by rfl) TK.T.len PySem.boot_len (Aa (pv 1) Ae))) (fun _ _=>rfl)))
    (Ah (B8 (A1 (IP (R5 hu))
      (CQ (N:=["_law_way","_law_names_here","_law_j","_law_other"]) (σ0:=fun σ=>[none,some 1,some 6,some 7].map fun j=>j.bind fun j=>(σ[j]?).join) rfl
       (AV.caught (by rfl) (by decide +kernel) rfl (by decide +kernel) (by intro y hy; simp only [Qn,Q8,or_false] at hy; rcases hy with rfl | rfl | rfl <;> rfl)
        (by intro y hy e; simp only [Qn,Q8,or_false] at hy; rcases hy with rfl | rfl | rfl | rfl | rfl <;> first | exact ⟨_,rfl⟩ | cases e))
       (fun σ _=>Bu.of [none,some 1,some 6,some 7] rfl (by
        intro i j x h1 h2;match i,h1,h2 with
        | 0,_,h2=>cases h2
        | 1,h1,h2=>cases h1; cases h2; exact ⟨rfl,.inl rfl,.inl rfl⟩
        | 2,h1,h2=>cases h1; cases h2; exact ⟨rfl,.inl rfl,.inl rfl⟩
        | 3,h1,h2=>cases h1; cases h2; exact ⟨rfl,.inl rfl,.inl rfl⟩
        | n + 4,h1,_=>cases h1)) (BR (pv 3))
       (fun s2 H C fp=>⟨Aj (i:=0) (show (["_law_way","_law_names_here","_law_j","_law_other"]:List Str).Nodup by decide +kernel) rfl (Or.inl rfl),
        FO (FL (A1 (Kl K rfl) (Bm (BJ K rfl) (pv 1) (pv 2) (fun _ _=>rfl)) (pv 0) (by rfl)) (Er (A1 (Kl K rfl) (pv 3) (pv 0) (by rfl)))).pt,pv 0⟩))
      (Bs Ae) (AL _))
     (Ah (BQ (Du PySem.F.plainAttrs_list PySem.F.slot_list_append PySem.F.type_list_append Bi (pv 3) (Aa (A9 (Aa (Bm B5 (pv 1) (pv 6) (fun _ _=>rfl)) (Aa (pv 7) (Aa (Ao GL hr (by rfl) LK.mg LK.F.kp LK.b .nil AA (Aa (pv 0) Ae)) Ae)))) Ae)))) AO)))))) AO)
  (Ah (AI (pv 3))),?_⟩
 intro W H1 e vs ws sh v4 v5 v6 v7 i1 l1 P1 hD he hE hW hT kk;have hll:(xs.map V.str).length=xs.length:=Qk _;refine ⟨_,rfl,(by show 2<=sizeLine; lia),fun q hq=>⟨q,_,rfl,.inr (BY.of Ab),rfl,rfl,_,rfl,?_⟩⟩;have sq:=Ac (o:=.tup [.int 2,.int 3]) hq;have stop:∃ v,[some (V.ref p),some (.ref D),some (.int sh),some (.ref e),v4,v5,v6,v7][3]? = some (some v)/\W.rt v (upd H1 q (.tup [.int 2,.int 3])):=
  ⟨_,rfl,kk _ vs ws i1 l1 (P1.same sq) (fun b o _ _ z=>sq b o z) (sq _ _ hE) (hW.mono fun a o z _=>sq a o z) (hT.ways hnd)⟩
 refine C4 (fun _=>?_) (fun _=>stop);refine ⟨_,rfl,D,_,rfl,.inl (A6.of (sq _ _ hD)),_,_,rfl,rfl,_,rfl,?_⟩;refine C4 (fun h2=>?_) (fun _=>stop);rw [decide_eq_true_eq,hll] at h2;refine ⟨_,rfl,p,a,ns,i1,l1,5,rfl,P1.same sq,by decide,by decide,hlen,fun d0 i2 l2 d0a d0b P2=>⟨_,_,rfl,rfl,_,rfl,by lia,by lia,?_⟩⟩;have pe:e ≠ p:=Bn hE P1.dc (by intro z; cases z);have pD:D ≠ p:=Bn hD P1.dc (by intro z; cases z);have keepW:∀ {H2 H3:Hp} {vs:List V} {ws:List Az},A7 H2 vs (ws.map B2)->(∀ b xs,H2 b=some (.tup xs)->H3 b=some (.tup xs))->A7 H3 vs (ws.map B2):=by
  intro H2 H3 vs ws;induction ws generalizing vs with
  | nil=>intro h _; cases h; exact .nil
  | cons u ws ih=>
   intro h ht;cases h with
   | cons h1 r=>
    refine .cons ?_ (ih r ht);cases h1 with
    | tup ha hd=>
     refine .tup (ht _ _ ha) ?_;cases hd with
     | cons h1 r1=>
      cases r1 with
      | cons h2 r2=>
       cases r2 with
       | cons h3 r3=>
        cases r3
        cases h1
        cases h2
        cases h3
        exact .cons (.str _) (.cons (.str _) (.cons (.int _) .nil))
 refine Cq (lo:=0) (fun j σ H2=>∃ (vs:List V) (ws:List Az) (v4 v6 v7:Option V) (i2 l2:Int),σ=[some (.ref p),some (.ref D),some (.int sh),some (.ref e),v4,v5,v6,v7]/\A8 K H2 p a ns i2 l2/\(∀ b o,b ≠ p->b ≠ e->H1 b=some o->H2 b=some o)/\H2 e=some (.lst vs)/\A7 H2 vs (ws.map B2)/\CL xs ws/\2 * ws.length<=xs.length * (xs.length - 1) + 2 * j)
  ⟨vs,ws,v4,v6,v7,i2,l2,rfl,P2,fun b o hb _ z=>?_,?_,?_,(hT.ways hnd).c,by have:=hT.len; lia⟩ ?_ ?_
 ·rw [Af hb]; exact sq b o z
 ·rw [Af pe]; exact sq _ _ hE
 ·refine keepW (H2:=H1) hW fun b ys z=>?_
  exact Av (P1.same sq).dc (sq _ _ z) (by intro z; cases z)
 ·rintro j σ H2 hj ⟨vs,ws,v4,v6,v7,i2,l2,rfl,P2,k2,LS,Lg,Fx,J0⟩;have Ge:=k2 D _ pD (Ne.symm he) hD;refine ⟨_,rfl,_,rfl,D,_,rfl,.inl (A6.of Ge),p,a,ns,i2,l2,_,rfl,P2,by lia,by lia,hlen,fun dj i3 l3 dja djb P3=>?_⟩;have OV:=Av (i':=i3) (l':=l3) P2.dc Ge (by intro z; cases z);refine ⟨_,rfl,_,rfl,_,_,rfl,rfl,_,rfl,_,rfl,D,_,rfl,.inl (A6.of OV),_,_,rfl,rfl,p,a,ns,i3,l3,_,rfl,P3,by lia,by lia,hlen,fun dt i4 l4 dta dtb P4=>?_⟩;rw [BF] at P4 ⊢;have KD:=Av (i':=i4) (l':=l4) P2.dc Ge (by intro z; cases z);have Od:=Av (i':=i4) (l':=l4) P2.dc LS (by intro z; cases z);rw [hll] at djb dtb;obtain ⟨m1,m2,m3⟩:=Nd dja djb dta dtb;obtain ⟨x0,NX,M4⟩:=C6 (xs:=xs) dja djb;obtain ⟨y0,LP,Ny⟩:=C6 (xs:=xs) m2 m3;have nexy:x0 ≠ y0:=by
   intro z;rw [z] at M4;have:=By hnd M4 Ny;lia
  have W4:A7 (upd H2 p (.dK (AY a i4 l4))) vs (ws.map B2):=keepW Lg fun b ys z=>Av P2.dc z (by intro z; cases z)
  have hvl:vs.length=ws.length:=by rw [AQ W4,Qk]
  have hvb:vs.length < 1000:=by
   have:xs.length * (xs.length - 1)<=30 * 30:=Rp K4 (by lia);lia
  refine ⟨_,_,rfl,rfl,_,rfl,D,_,rfl,.inl (A6.of KD),_,_,rfl,rfl,by rw [hll]; lia,D,_,_,.str y0,rfl,rfl,A6.of KD,by rw [hll]; exact LP,?_⟩;refine ⟨_,rfl,e,rfl,⟨_,A6.of Od⟩,fun C hC=>⟨fun i m Ap H'=>m=vs.length - i/\i<=vs.length/\(∃ v,Ap=[v,some (.ref D),some (.int dj),some (.str y0)])/\∃ acc:List V,H'=upd (upd H2 p (.dK (AY a i4 l4))) C (.lst acc)/\acc.length<=i/\(acc=[]->∀ (q:Nat) (u:Az),q < i->ws[q]? = some u->¬ ((x0=u.1\/x0=u.2.1)/\(y0=u.1\/y0=u.2.1))),
   ⟨_,rfl,QH _,⟨_,rfl⟩,[],rfl,Qo _,fun _ q u h=>by lia⟩,?_⟩⟩
  ·rintro i m Ap H' ⟨rfl,hi,⟨v,rfl⟩,acc,rfl,hacc,hno⟩;have sC:=Ac (o:=.lst acc) hC;have Oc:=sC _ _ Od;have OU:=sC _ _ KD;by_cases Bc:i < vs.length
   ·refine .inr ⟨⟨vs,vs[i],A6.of Oc,Qi Bc⟩,?_⟩;rintro x H6 ⟨rfl,hx⟩;have Ht:=hx vs (A6.of Oc);obtain ⟨u,tt,gu,rfl,htt⟩:=Cd W4 Ht;have Oy:=sC _ _ htt;have next:∀ (c:Bool),c=(decide (x0=u.1\/x0=u.2.1) && decide (y0=u.1\/y0=u.2.1))->(if c=true then
      (∃ v,[some (V.ref tt),some (.ref D),some (.int dj),some (.str y0)][0]? = some (some v)/\∃ DO,(upd (upd H2 p (.dK (AY a i4 l4))) C (.lst acc)) C=some (.lst DO)/\DO.length < sizeLine/\∃ m',m' < vs.length - i/\(m'=vs.length - (i + 1)/\i + 1<=vs.length/\(∃ v,[some (V.ref tt),some (.ref D),some (.int dj),some (.str y0)]=[v,some (.ref D),some (.int dj),some (.str y0)])/\∃ HC:List V,upd (upd (upd H2 p (.dK (AY a i4 l4))) C (.lst acc)) C (.lst (DO ++ [v]))=upd (upd H2 p (.dK (AY a i4 l4))) C (.lst HC)/\HC.length<=i + 1/\(HC=[]->∀ (q:Nat) (u:Az),q < i + 1->ws[q]? = some u->¬ ((x0=u.1\/x0=u.2.1)/\(y0=u.1\/y0=u.2.1)))))
      else ∃ m',m' < vs.length - i/\(m'=vs.length - (i + 1)/\i + 1<=vs.length/\(∃ v,[some (V.ref tt),some (.ref D),some (.int dj),some (.str y0)]=[v,some (.ref D),some (.int dj),some (.str y0)])/\∃ HC:List V,upd (upd H2 p (.dK (AY a i4 l4))) C (.lst acc)=upd (upd H2 p (.dK (AY a i4 l4))) C (.lst HC)/\HC.length<=i + 1/\(HC=[]->∀ (q:Nat) (u:Az),q < i + 1->ws[q]? = some u->¬ ((x0=u.1\/x0=u.2.1)/\(y0=u.1\/y0=u.2.1))))):=by
     rintro c rfl;refine C4 (fun hc=>?_) (fun hc=>?_)
     ·refine ⟨_,rfl,acc,Ab,by lia,_,by lia,rfl,Bc,⟨_,rfl⟩,acc ++ [.ref tt],by rw [BF],by rw [Qz]; show acc.length + 1<=i + 1; lia,fun z=>?_⟩;exact absurd z (by simp)
     ·refine ⟨_,by lia,rfl,Bc,⟨_,rfl⟩,acc,rfl,by lia,fun z q u' hq PB=>?_⟩;by_cases e:q=i
      ·subst e;rw [gu] at PB;cases PB
       intro ⟨z1,z2⟩;exact hc (by rw [decide_eq_true z1,decide_eq_true z2]; rfl)
      ·exact hno z q u' (by lia) PB
    refine ⟨_,rfl,_,rfl,D,_,_,.str x0,rfl,rfl,A6.of OU,NX,_,rfl,tt,_,rfl,.inr (BY.of Oy),rfl,rfl,_,rfl,?_⟩;rw [if_neg Qr,Il];refine C4 (fun Nu=>?_) (fun Nu=>?_)
    ·refine ⟨_,rfl,_,rfl,tt,_,rfl,.inr (BY.of Oy),rfl,rfl,_,rfl,?_⟩;rw [if_neg Qr,Il];refine next _ ?_;rw [SG,decide_eq_true_eq,decide_eq_true_eq] at Nu;rw [decide_eq_true Nu,Bool.true_and,Bool.decide_or]
    ·refine next _ ?_;rw [SG,decide_eq_true_eq,decide_eq_true_eq] at Nu;rw [decide_eq_false Nu,SH]
   ·have e0:i=vs.length:=by lia
    subst e0;refine .inl ⟨⟨vs,A6.of Oc,Qo _⟩,(by show 0<=sizeLine; lia),fun C2 hCC=>⟨C,C2,acc,rfl,rfl,A6.of (Ac hCC _ _ Ab),A6.of Ab,_,rfl,?_⟩⟩;have MM:=Ac (o:=.lst []) hCC;have P5:=(P4.same sC).same MM;have k5:∀ b o,b ≠ p->b ≠ e->H1 b=some o->(upd (upd (upd H2 p (.dK (AY a i4 l4))) C (.lst acc)) C2 (.lst [])) b=some o:=fun b o hb hbe z=>MM _ _ (sC _ _ (by rw [Af hb]; exact k2 b o hb hbe z))
    have W5:A7 (upd (upd (upd H2 p (.dK (AY a i4 l4))) C (.lst acc)) C2 (.lst [])) vs (ws.map B2):=W4.mono fun b o z _=>MM _ _ (sC _ _ z)
    refine C4 (fun hemp=>?_) (fun _=>?_)
    ·
     have no:∀ u ∈ ws,¬ ((x0=u.1\/x0=u.2.1)/\(y0=u.1\/y0=u.2.1)):=fun u hu=>by
      obtain ⟨q,hq,eq⟩:=Q5 hu;exact hno (by cases acc with | nil=>rfl | cons _ _=>cases hemp) q u (by lia) (by rw [Qi hq,eq])
     refine ⟨_,rfl,.inl ⟨rfl,_,A6.of (MM _ _ Oc)⟩,_,rfl,_,rfl,D,_,_,.str x0,rfl,rfl,A6.of (MM _ _ OU),NX,_,rfl,_,rfl,p,a,ns,i4,l4,rfl,P5,hlen,fun n i6 l6 hn P6=>⟨(by show 3<=sizeLine; lia),fun t ht=>?_⟩⟩;have st:=Ac (o:=.tup [.str x0,.str y0,.int n]) ht;have OT:=st _ _ (Av (i':=i6) (l':=l6) P5.dc (MM _ _ Oc) (by intro z; cases z));refine ⟨e,_,_,rfl,rfl,OT,by lia,?_⟩;refine ⟨vs ++ [.ref t],ws ++ [(x0,y0,n)],_,_,_,i6,l6,rfl,(P6.same st).other OT (by intro _ _ z; cases z) (by intro _ z; cases z),fun b o hb hbe z=>?_,Ab,?_,?_,?_⟩
     ·rw [Af hbe];refine st _ _ ?_;rw [Af hb];exact k5 b o hb hbe z
     ·rw [Qw];refine BX (keepW W5 fun b ys z=>?_) (.tup ?_ (.cons (.str _) (.cons (.str _) (.cons (.int _) .nil))))
      ·have z2:=st _ _ (Av (i':=i6) (l':=l6) P5.dc z (by intro z; cases z));rw [Af (Bn z2 OT (by intro z; cases z))];exact z2
      ·rw [Af (fun z=>by subst z; rw [ht] at *; exact absurd OT (by rw [Ab]; intro z; cases z))];exact Ab
     ·exact Fx.snoc (Qm M4) (Qm Ny) nexy hn no
     ·rw [Qz,Ra];lia
    ·exact ⟨vs,ws,_,_,_,i4,l4,rfl,P5,k5,MM _ _ Oc,W5,Fx,by lia⟩
 ·rintro σ H2 ⟨vs,ws,v4,v6,v7,i2,l2,rfl,P2,k2,LS,Lg,Fx,J0⟩;refine ⟨_,rfl,kk H2 vs ws i2 l2 P2 k2 LS Lg ⟨Fx.1,Fx.2.1,Fx.2.2,by lia⟩⟩
end
section
variable {P:Program} {w:World} {K:Qj} {mg:Str->Option Value} {base:Heap}
theorem waysA {f fT fL:Addr} {fdT fdL:FuncData} (TK:Eh K mg fT fdT) (LK:Mg K mg fL fdL)
  {cdv:Value} {A:Around} {outer:List Env} {s:Shared} {H:Hp} {E:XK} (hr:BM 2 (A.deeper (PyProof.Rows.envOfC "_law_ways" (Am AS) s.heap.objs.size f cdv)))
  {p a D:Addr} {ns:List Int} {xs:List Str} (hlen:ns.length<=63) (K4:xs.length<=30) (hnd:xs.Nodup) :
  ∃ t,GQ (Fh BV P w K mg base ["_law_pen_here","_law_names_here","_law_shape","_law_ways_here","_law_k","_law_there","_law_j","_law_other"] "_law_ways" (Am AS) f cdv A outer s H E).nox
    ((Iq ((Bx AS).getD 2 (.Pass ⟨0,0,0,0⟩))).drop 2) t /\
   ∀ (W:CB) (H3:Hp) (e T:Addr) (vs:List V) (ws:List Az) (js:List Nat) (sh:Int) (k:Nat) (v6 v7:Option V) (i3 l3:Int),A8 K H3 p a ns i3 l3->H3 D=some (.lst (xs.map V.str))->H3 e=some (.lst vs)->A7 H3 vs (ws.map B2)->DQ xs k ws->k < xs.length ->
    H3 T=some (.lst (js.map fun (q:Nat)=>V.int (q:Int)))->js.Nodup->(∀ j ∈ js,j < k)->js ≠ [] ->
    (∀ (H4:Hp) (e':Addr) (vs:List V) (ws:List Az) (i4 l4:Int),A8 K H4 p a ns i4 l4->AK p H3 H4->H3 e'=none->H4 e'=some (.lst vs)->A7 H4 vs (ws.map B2)->DQ xs (k + 1) ws ->
     W.nx [some (.ref p),some (.ref D),some (.int sh),some (.ref e'),some (.int (k:Int)),some (.ref T),v6,v7] H4) ->
    t W [some (.ref p),some (.ref D),some (.int sh),some (.ref e),some (.int (k:Int)),some (.ref T),v6,v7] H3:=by
 have GL:AJ P w K mg base BV 2 fL fdL ["_law_pen_here"] (HN K):=DC TK LK.F;have big:1000 < sizeLine:=by decide
 have nd:=Cf.nd;refine ⟨_,Ah (An (i:=3) nd rfl (Or.inl rfl) (Aq Km (pv 3)
     (CQ (N:=["_law_j","_law_pen_here","_law_names_here","_law_k"]) (σ0:=fun σ=>[none,some 0,some 1,some 4].map fun j=>j.bind fun j=>(σ[j]?).join) rfl
      (AV.caught (by rfl) (by decide +kernel) rfl (by decide +kernel) (by intro y hy; simp only [Qn,Q8,or_false] at hy; rcases hy with rfl | rfl | rfl <;> rfl)
       (by intro y hy e; simp only [Qn,Q8,or_false] at hy; rcases hy with rfl | rfl | rfl | rfl | rfl | rfl <;> first | exact ⟨_,rfl⟩ | cases e))
      (fun σ _=>Bu.of [none,some 0,some 1,some 4] rfl (by
       intro i j x h1 h2;match i,h1,h2 with
       | 0,_,h2=>cases h2
       | 1,h1,h2=>cases h1; cases h2; exact ⟨rfl,.inl rfl,.inl rfl⟩
       | 2,h1,h2=>cases h1; cases h2; exact ⟨rfl,.inl rfl,.inl rfl⟩
       | 3,h1,h2=>cases h1; cases h2; exact ⟨rfl,.inl rfl,.inl rfl⟩
       | n + 4,h1,_=>cases h1)) (BR (pv 5))
      (fun s2 H C fp=>⟨Aj (i:=0) (show (["_law_j","_law_pen_here","_law_names_here","_law_k"]:List Str).Nodup by decide +kernel) rfl (Or.inl rfl),Cj,
       A9 (Aa (Bm (BJ K rfl) (pv 2) (pv 0) (fun _ _=>rfl)) (Aa (Bm (BJ K rfl) (pv 2) (pv 3) (fun _ _=>rfl)) (Aa (Ao GL hr (by rfl) LK.mg LK.F.kp LK.b .nil AA (Aa (pv 1) Ae)) Ae)))⟩)))),?_⟩
 intro W H3 e T vs ws js sh k v6 v7 i3 l3 P3 hD hE hW hT hk hTs jnd jlt jne kk;have jl:js.length<=30:=by
  have:=AE (l:=js) (xs:=QO k) jnd fun j hm=>Rf.mpr (jlt j hm)
  rw [R3] at this;lia
 refine ⟨_,rfl,_,rfl,T,rfl,⟨_,A6.of hTs⟩,fun C hC=>⟨fun i m Ap H'=>m=js.length - i/\i<=js.length/\(∃ v,Ap=[v,some (.ref p),some (.ref D),some (.int (k:Int))])/\∃ (acc:List V) (us:List Az) (i' l':Int),A8 K H' p a ns i' l'/\AK p H3 H'/\H' C=some (.lst acc)/\A7 H' acc (us.map B2)/\us.length=i /\
   (∀ (q:Nat) (u:Az) (j:Nat),us[q]? = some u->js[q]? = some j->xs[j]? = some u.1/\xs[k]? = some u.2.1/\1<=u.2.2),
  ⟨_,rfl,QH _,⟨_,rfl⟩,[],[],i3,l3,P3.same (Ac hC),AK.of_same (Ac hC),Ab,.nil,rfl,fun q u j h=>by cases h⟩,?_⟩⟩
 rintro i m Ap H' ⟨rfl,hi,⟨v,rfl⟩,acc,us,i1,l1,P1,k1,Em,hU,hul,hus⟩;have OI:∀ {b:Addr} {o:HO},H3 b=some o->(∀ kvs,o ≠ .dK kvs)->H' b=some o:=fun e ne=>P3.stay k1 e ne
 have Jh:=OI hD (by intro _ z; cases z);have J1:=OI hTs (by intro _ z; cases z);have O8:=OI hE (by intro _ z; cases z);have hacc:acc.length=i:=by rw [AQ hU,Qk,hul]
 by_cases Bc:i < js.length
 ·refine .inr ⟨⟨_,V.int (js[i]:Nat),A6.of J1,by rw [Q7,Qi Bc]; rfl⟩,?_⟩;rintro x H6 ⟨rfl,hx⟩;have Ht:=hx _ (A6.of J1);rw [Q7,Qi Bc] at Ht;cases Ht
  have hjk:=jlt _ (QX Bc);obtain ⟨x0,NX,M4⟩:=C6 (xs:=xs) (i:=((js[i]:Nat):Int)) (by lia) (by lia);obtain ⟨y0,LP,Ny⟩:=C6 (xs:=xs) (i:=(k:Int)) (by lia) (by lia);refine ⟨_,rfl,_,rfl,D,_,_,.str x0,rfl,rfl,A6.of Jh,NX,_,rfl,_,rfl,D,_,_,.str y0,rfl,rfl,A6.of Jh,LP,_,rfl,p,a,ns,i1,l1,rfl,P1,hlen,fun n i2 l2 hn P2=>⟨(by show 3<=sizeLine; lia),fun t ht=>?_⟩⟩;have st:=Ac (o:=.tup [.str x0,.str y0,.int n]) ht;have Fx:=st _ _ (Av (i':=i2) (l':=l2) P1.dc Em (by intro z; cases z));refine ⟨acc,Fx,by lia,_,by lia,rfl,Bc,⟨_,rfl⟩,acc ++ [.ref t],us ++ [(x0,y0,n)],i2,l2,(P2.same st).other Fx (by intro _ _ z; cases z) (by intro _ z; cases z),fun b o hb z=>?_,Ab,?_,by rw [Qz,hul]; rfl,fun q u j hq hj=>?_⟩
  ·have nC:b ≠ C:=Ai z hC;rw [Af nC];refine st _ _ ?_;rw [Af hb];exact k1 b o hb z
  ·rw [Qw];have tC:∀ {b ys},(upd (upd H6 p (.dK (AY a i2 l2))) t (.tup [.str x0,.str y0,.int n])) b=some (.tup ys)->(upd (upd (upd H6 p (.dK (AY a i2 l2))) t (.tup [.str x0,.str y0,.int n])) C (.lst (acc ++ [.ref t]))) b=some (.tup ys):=fun {b ys} z=>by
    rw [Af (Bn z Fx (by intro z; cases z))];exact z
   refine BX (BZ hU fun b ys z=>tC (st _ _ (Av P1.dc z (by intro z; cases z)))) (.tup (tC Ab) (.cons (.str _) (.cons (.str _) (.cons (.int _) .nil))))
  ·by_cases e:q < us.length
   ·rw [QZ e] at hq;exact hus q u j hq hj
   ·rw [QY (by lia)] at hq;have e2:q=i:=by
     have:=(Qx.mp hq).1;rw [Ra] at this;lia
    subst e2;rw [hul,Sm] at hq;cases hq
    rw [Qi Bc] at hj;cases hj
    exact ⟨by simpa using M4,by simpa using Ny,hn⟩
 ·have e0:i=js.length:=by lia
  subst e0;have hvl:vs.length=ws.length:=by rw [AQ hW,Qk]
  have hwb:ws.length<=900:=by
   have h1:=hT.len;have:k * (k - 1)<=30 * 30:=Rp (by lia) (by lia);lia
  refine .inl ⟨⟨_,A6.of J1,by rw [Qk]; exact Qo _⟩,e,C,vs,acc,rfl,rfl,O8,Em,by lia,fun e' Nr=>?_⟩;have se:=Ac (o:=.lst (vs ++ acc)) Nr;have W1:A7 H' vs (ws.map B2):=BZ hW fun b ys z=>OI z (by intro _ z; cases z)
  refine kk _ e' (vs ++ acc) (ws ++ us) i1 l1 (P1.same se) (k1.trans (AK.of_same se)) ?_ Ab ?_ (hT.more hnd hk js jnd jlt jne hul hus)
  ·cases z:H3 e' with
   | none=>rfl
   | some o=>
    by_cases ep:e'=p
    ·subst ep;rw [P1.dc] at Nr;cases Nr
    ·rw [k1 e' o ep z] at Nr;cases Nr
  ·rw [Qw];exact ER (W1.mono fun b o z _=>se _ _ z) (hU.mono fun b o z _=>se _ _ z)
end
section
variable {P:Program} {w:World} {K:Qj} {mg:Str->Option Value} {base:Heap}
theorem L6 {f fT fL:Addr} {fd fdT fdL:FuncData} (TK:Eh K mg fT fdT) (LK:Mg K mg fL fdL) (hrg:mg "range"=none) (hli:mg "list"=none) (hin:mg "int"=none) (F:D4 K "_law_ways" "_law_ways" AS f fd):AJ P w K mg base BV 3 f fd ["_law_pen_here","_law_names_here"] (JK K):=by
 have GT:AJ P w K mg base BV 1 fT fdT ["_law_pen_here","_law_many"] (De K):=TK.ok;refine F.ok Cf (fun vs H Q E h=>?_) (fun cdv A outer s H vs Q E hr h=>?_)
 ·obtain ⟨p,a,ns,i,l,D,xs,rfl,_⟩:=h;rfl
 ·obtain ⟨p,a,ns,i,l,D,xs,rfl,hP,hlen,hD,hn1,K4,hnd,k⟩:=h;have K3:BM 1 _:=hr.mono (by decide);have big:1000 < sizeLine:=by decide
  have nd:=Cf.nd;have hll:(xs.map V.str).length=xs.length:=Qk _;obtain ⟨tA,hA,kA⟩:=waysA (P:=P) (w:=w) (base:=base) (outer:=outer) (H:=H) (E:=E) (D:=D) (a:=a) (p:=p) TK LK hr hlen K4 hnd;obtain ⟨tB,hB,kB⟩:=waysB (P:=P) (w:=w) (base:=base) (outer:=outer) (H:=H) (E:=E) (D:=D) (a:=a) (p:=p) (fd:=fd) (Q:=Q) TK LK hrg hr hlen hn1 K4 hnd;refine ⟨_,Ad (An (i:=2) nd rfl (Or.inl rfl) (Ao GT K3 (by rfl) TK.mg TK.F.kp TK.b .nil AA (Aa (pv 0) (Aa Ag Ae))))
   (Ad (An (i:=3) nd rfl (Or.inl rfl) (Bs Ae))
   (Ad (Br PassesOwn.never rfl (Fp rfl hrg (Aa Ag (Aa (Ay AR (by rfl) TK.T.len PySem.boot_len (Aa (pv 1) Ae)) Ae))) (Aj (i:=4) nd rfl (Or.inr rfl))
    (Ad (An (i:=5) nd rfl (Or.inl rfl) (Bm B5 (Bs (Aa (Bs (Aa (Aq D9 (pv 4) Ag) Ae)) (Aa (Bs (Aa (Ao GT K3 (by rfl) TK.mg TK.F.kp TK.b .nil AA (Aa (pv 0) (Aa (pv 4) Ae))) Ae)) Ae)))
      (Co Jw (by rfl) hin PyProof.Rows.boot_int (Aa (L3 G0 (pv 2) Ag (AL _)) Ae)) (fun _ _=>rfl)))
    (Ad (B8 (A1 G1 (pv 2) Ag (AL _)) (Ah (An (i:=5) nd rfl (Or.inl rfl) (Co (Fl rfl) (by rfl) hli PyProof.Rows.boot_list (Aa (Co Jv (by rfl) hrg PyProof.Rows.boot_range (Aa (pv 4) Ae)) Ae)))) AO)
    hA)))
   hB)),?_⟩
  refine ⟨_,rfl,p,a,ns,i,l,5,rfl,hP,by decide,by decide,hlen,fun sh i1 l1 sha shb P1=>⟨(by show 0<=sizeLine; lia),fun e0 he0=>?_⟩⟩;have s0:=Ac (o:=.lst []) he0;have Jh:=Av (i':=i1) (l':=l1) hP.dc hD (by intro z; cases z);have free:∀ {H':Hp} {i' l':Int} {e:Addr},A8 K H' p a ns i' l'->AK p H H'->H' e=none->H e=none:=fun {H' i' l' e} P' k' z=>by
   cases y:H e with
   | none=>rfl
   | some o=>
    by_cases ep:e=p
    ·subst ep;rw [P'.dc] at z;cases z
    ·rw [k' e o ep y] at z;cases z
  refine ⟨_,rfl,D,_,rfl,.inl (A6.of (s0 _ _ Jh)),_,_,rfl,⟨by decide,by decide,by lia,by lia⟩,?_⟩;refine Cq (lo:=1) (fun j σ H'=>∃ (e:Addr) (vs:List V) (ws:List Az) (v4 v5 v6 v7:Option V) (i' l':Int),σ=[some (.ref p),some (.ref D),some (.int sh),some (.ref e),v4,v5,v6,v7]/\A8 K H' p a ns i' l'/\AK p H H'/\H e=none/\H' e=some (.lst vs)/\A7 H' vs (ws.map B2)/\DQ xs (j + 1) ws)
   ⟨e0,[],[],_,_,_,_,i1,l1,rfl,P1.same s0,AK.upd.trans (AK.of_same s0),free P1 AK.upd he0,Ab,.nil,DQ.nil xs⟩ ?_ ?_
  ·rintro j σ H1 hj ⟨e,vs,ws,v4,v5,v6,v7,i2,l2,rfl,P2,k2,hef,LS,Lg,Jg⟩;have hjl:j + 1 < xs.length:=by lia
   have ek:(1:Int) + (j:Int)=((j + 1:Nat):Int):=by lia
   have Ge:H1 D=_:=hP.stay k2 hD (by intro _ z; cases z);have go:∀ (W:CB) (H3:Hp) (T:Addr) (js:List Nat) (i3 l3:Int),A8 K H3 p a ns i3 l3->AK p H1 H3->H3 T=some (.lst (js.map fun (q:Nat)=>V.int (q:Int)))->js.Nodup->(∀ q ∈ js,q < j + 1)->js ≠ [] ->
     W.nx=(fun σ H'=>∃ (e:Addr) (vs:List V) (ws:List Az) (v4 v5 v6 v7:Option V) (i' l':Int),σ=[some (.ref p),some (.ref D),some (.int sh),some (.ref e),v4,v5,v6,v7]/\A8 K H' p a ns i' l'/\AK p H H'/\H e=none/\H' e=some (.lst vs)/\A7 H' vs (ws.map B2)/\DQ xs (j + 1 + 1) ws) ->
     tA W [some (.ref p),some (.ref D),some (.int sh),some (.ref e),some (.int (1 + (j:Int))),some (.ref T),v6,v7] H3:=by
    intro W H3 T js i3 l3 P3 k3 hTs jnd jlt jne hWn;rw [ek];refine kA W H3 e T vs ws js sh (j + 1) v6 v7 i3 l3 P3 (P2.stay k3 Ge (by intro _ z; cases z)) (P2.stay k3 LS (by intro _ z; cases z)) (BZ Lg fun b ys z=>P2.stay k3 z (by intro _ z; cases z)) Jg hjl hTs jnd jlt jne fun H4 e' Dd C8 i4 l4 P4 k4 Nr Od PU hT4=>?_
    rw [hWn];exact ⟨e',Dd,C8,_,_,_,_,i4,l4,rfl,P4,(k2.trans k3).trans k4,free P3 (k2.trans k3) Nr,Od,PU,hT4⟩
   refine ⟨_,rfl,_,_,rfl,rfl,(by show 1<=sizeLine; lia),fun q1 h1=>⟨_,rfl,_,rfl,p,a,ns,i2,l2,_,rfl,P2.same (Ac h1),by lia,by lia,hlen,fun dt i3 l3 dta dtb P3=>⟨(by show 1<=sizeLine; lia),fun q2 h2=>⟨(by show 2<=sizeLine; lia),fun q3 h3=>?_⟩⟩⟩⟩;have s1:=Ac (o:=.lst [.int ((1:Int) + (j:Int) - 1)]) h1;have s2:=Ac (o:=.lst [.int dt]) h2;have s3:=Ac (o:=.lst [.ref q1,.ref q2]) h3;have f1:=s3 _ _ (s2 _ _ (Av (i':=i3) (l':=l3) (P2.same s1).dc (@Ab H1 q1 (.lst [.int ((1:Int) + (j:Int) - 1)])) (by intro z; cases z)));have f2:=s3 _ _ (@Ab _ q2 (.lst [.int dt]));have P4:=(P3.same s2).same s3;have k4:AK p H1 _:=((AK.of_same s1).trans AK.upd).trans ((AK.of_same s2).trans (AK.of_same s3));refine ⟨_,rfl,_,_,rfl,rfl,.inr ⟨_,rfl,q3,_,_,.ref (if decide (0 < sh)=true then q2 else q1),rfl,rfl,A6.of Ab,?_,?_⟩⟩
   ·by_cases hs:0 < sh
    ·rw [decide_eq_true hs]; rfl
    ·rw [decide_eq_false hs]; rfl
   ·refine ⟨_,rfl,rfl,_,rfl,?_⟩;refine C4 (fun _=>?_) (fun _=>?_)
    ·
     refine ⟨_,rfl,_,rfl,fun r hrr=>⟨r,j + 1,rfl,?_,by lia,fun t ht=>?_⟩⟩
     ·rw [Ab,ek]
     ·have s5:=Ac (o:=.rng 0 (1 + (j:Int))) hrr;have s6:=Ac (o:=.lst ((QO (j + 1)).map fun (q:Nat)=>V.int (q:Int))) ht;exact go _ _ t (QO (j + 1)) i3 l3 ((P4.same s5).same s6) ((k4.trans (AK.of_same s5)).trans (AK.of_same s6)) Ab S9 (fun q hq=>Rf.mp hq) (by rw [List.range_succ]; simp) rfl
    ·by_cases hs:0 < sh
     ·rw [decide_eq_true hs,if_pos rfl];refine go _ _ q2 [dt.toNat] i3 l3 P4 k4 ?_ (Rw _ _) (fun q hq=>by rw [Qs.mp hq]; lia) (by simp) rfl;rw [f2];show _=some (HO.lst [V.int ((dt.toNat:Nat):Int)])
      rw [Sz dta]
     ·rw [decide_eq_false hs,if_neg Qr];refine go _ _ q1 [j] i3 l3 P4 k4 ?_ (Rw _ _) (fun q hq=>by rw [Qs.mp hq]; lia) (by simp) rfl;rw [f1];show _=some (HO.lst [V.int ((j:Nat):Int)])
      rw [show (1:Int) + (j:Int) - 1=(j:Int) by lia]
  ·rintro σ H1 ⟨e,vs,ws,v4,v5,v6,v7,i2,l2,rfl,P2,k2,hef,LS,Lg,Jg⟩;have Ge:H1 D=_:=hP.stay k2 hD (by intro _ z; cases z);have en:((((xs.map V.str).length:Int) - 1).toNat) + 1=xs.length:=by rw [hll]; lia
   refine kB _ H1 e vs ws sh v4 v5 v6 v7 i2 l2 P2 Ge (fun z=>by rw [z,hD] at hef; cases hef) LS Lg (by rw [en] at Jg; exact Jg) fun H2 Dd C8 i3 l3 P3 k3 hE3 OQ hWy=>?_
   exact k H2 e Dd C8 i3 l3 P3 (fun b o hb z=>k3 b o hb (fun y=>by rw [y] at z; rw [hef] at z; cases z) (k2 b o hb z)) hef hE3 OQ hWy
end
section
variable {P:Program} {w:World} {K:Qj} {mg:Str->Option Value} {base:Heap}
theorem LA {f:Addr} {fd:FuncData} (hso:mg "sorted"=none) (htu:mg "tuple"=none) (hmi:mg "min"=none) (hma:mg "max"=none) (F:D4 K "_law_laid" "_law_laid" Cy f fd):AJ P w K mg base BV 1 f fd ["_law_names_here","_law_ways_here"] (JP K):=by
 refine F.ok DW (fun vs H Q E h=>?_) (fun cdv A outer s H vs Q E hr h=>?_)
 ·obtain ⟨D,E',xs,us,ws,rfl,_⟩:=h;rfl
 ·obtain ⟨D,e,xs,vs,ws,rfl,hD,Np,hE,hW,hw64,k⟩:=h;have nd:=DW.nd;have big:1000 < sizeLine:=by decide
  refine ⟨_,Ad (An (i:=2) nd rfl (Or.inl rfl) (Ay (En.or DM) (by rfl) hso PyProof.Rows.boot_sorted (Aa
    (CQ (N:=["_law_one","_law_other","_law_length_here"]) (σ0:=fun _=>[none,none,none]) rfl (AV.plain (by decide +kernel) (by decide +kernel) rfl (by decide +kernel)) (fun σ _=>Bu.none _ _ _ ["_law_one","_law_other","_law_length_here"] σ) (BR (pv 1))
     (fun s2 H C fp=>⟨Ck K rfl (n:=3) rfl (Au (Aj (i:=0) (show (["_law_one","_law_other","_law_length_here"]:List Str).Nodup by decide +kernel) rfl (Or.inl rfl)) (Au (Aj (i:=1) (show (["_law_one","_law_other","_law_length_here"]:List Str).Nodup by decide +kernel) rfl (Or.inl rfl)) (Au (Aj (i:=2) (show (["_law_one","_law_other","_law_length_here"]:List Str).Nodup by decide +kernel) rfl (Or.inl rfl)) BS))),Cj,
      A9 (Aa (Ay (HA rfl) (by rfl) hmi PyProof.Rows.boot_min (Aa (pv 0) (Aa (pv 1) Ae))) (Aa (Ay (HB rfl) (by rfl) hma PyProof.Rows.boot_max (Aa (pv 0) (Aa (pv 1) Ae))) (Aa (pv 2) Ae)))⟩)) Ae)))
   (Ah (AI (A9 (Aa (Co Dc (by rfl) htu PyProof.Rows.boot_tuple (Aa (Ay DN (by rfl) hso PyProof.Rows.boot_sorted (Aa (pv 0) Ae)) Ae)) (Aa (Co Dc (by rfl) htu PyProof.Rows.boot_tuple (Aa (pv 2) Ae)) Ae))))),?_⟩
  have hvl:vs.length=ws.length:=by rw [AQ hW,Qk]
  refine ⟨_,rfl,e,rfl,⟨_,A6.of hE⟩,fun C hC=>⟨fun i m Ap H'=>m=vs.length - i/\i<=vs.length/\(∃ v1 v2 v3,Ap=[v1,v2,v3])/\∃ acc:List V,Aw H H'/\H' C=some (.lst acc)/\A7 H' acc (((ws.take i).map DE).map B2),
   ⟨_,rfl,QH _,⟨_,_,_,rfl⟩,[],Ac hC,Ab,.nil⟩,?_⟩⟩
  rintro i m Ap H' ⟨rfl,hi,⟨v1,v2,v3,rfl⟩,acc,s1,Em,hU⟩;have O8:=s1 _ _ hE;have hacc:acc.length=i:=by
   rw [AQ hU,Qk,Qk,QW];lia
  by_cases Bc:i < vs.length
  ·refine .inr ⟨⟨vs,vs[i],A6.of O8,Qi Bc⟩,?_⟩;rintro x H6 ⟨rfl,hx⟩;obtain ⟨u,t,gu,rfl,ht⟩:=Cd hW (hx vs (A6.of O8));refine ⟨t,_,rfl,BY.of (s1 _ _ ht),rfl,_,_,rfl,_,_,rfl,_,_,rfl,rfl,?_⟩;refine ⟨_,rfl,_,rfl,_,_,rfl,_,rfl,_,rfl,_,_,rfl,_,rfl,(by show 3<=sizeLine; lia),fun q hq=>?_⟩;have sq:=Ac (o:=.tup [.str (Hl u.1 u.2.1),.str (Hm u.1 u.2.1),.int u.2.2]) hq;have Fx:=sq _ _ Em;refine ⟨acc,Fx,by lia,_,by lia,rfl,Bc,⟨_,_,_,rfl⟩,acc ++ [.ref q],fun b o z=>?_,Ab,?_⟩
   ·rw [Af (Ai z hC)];exact sq _ _ (s1 _ _ z)
   ·have tC:∀ {b ys},(upd H6 q (.tup [.str (Hl u.1 u.2.1),.str (Hm u.1 u.2.1),.int u.2.2])) b=some (.tup ys)->(upd (upd H6 q (.tup [.str (Hl u.1 u.2.1),.str (Hm u.1 u.2.1),.int u.2.2])) C (.lst (acc ++ [.ref q]))) b=some (.tup ys):=fun {b ys} z=>by
     rw [Af (Bn z Fx (by intro z; cases z))];exact z
    rw [Fd _ _ _ _ gu,Qw];exact BX (BZ hU fun b ys z=>tC (sq _ _ z)) (.tup (tC Ab) (.cons (.str _) (.cons (.str _) (.cons (.int _) .nil))))
  ·have e0:i=vs.length:=by lia
   subst e0;rw [List.take_of_length_le (by lia)] at hU;have fin:∀ (L:Addr) (Dd:List V),H' L=none->Dd.Perm acc->∃ v,[some (V.ref D),some (.ref e),some (.ref L)][0]? = some (some v)/\(∃ (a:Addr) (ss:List Str),[v]=[V.ref a]/\A6 K (upd H' L (.lst Dd)) a (ss.map V.str)/\ss.length < 64/\∀ (l:Addr) (D7:List Str),(upd H' L (.lst Dd)) l=none->D7.Perm ss->PyProof.Rows.sortedS D7=true->True):=fun L Dd hL pp=>⟨_,rfl,D,xs,rfl,A6.of (Ac hL _ _ (s1 _ _ hD)),Np,fun _ _ _ _ _=>trivial⟩
   have go:∀ (L:Addr) (Dd:List V),H' L=none->Dd.Perm acc->∀ (l:Addr) (D7:List Str),(upd H' L (.lst Dd)) l=none->D7.Perm xs->PyProof.Rows.sortedS D7=true->∀ tp,(upd (upd H' L (.lst Dd)) l (.lst (D7.map V.str))) tp=none->∀ tw,(upd (upd (upd H' L (.lst Dd)) l (.lst (D7.map V.str))) tp (.tup (D7.map V.str))) tw=none->∀ q,(upd (upd (upd (upd H' L (.lst Dd)) l (.lst (D7.map V.str))) tp (.tup (D7.map V.str))) tw (.tup Dd)) q=none ->
     Q (.ref q) (upd (upd (upd (upd (upd H' L (.lst Dd)) l (.lst (D7.map V.str))) tp (.tup (D7.map V.str))) tw (.tup Dd)) q (.tup [.ref tp,.ref tw])):=by
    intro L Dd hL pp l D7 hl ps so tp htp tw htw q hq;obtain ⟨C8,d1,p1⟩:=Jq pp hU;have a1:=Ac (o:=.lst Dd) hL;have a2:=Ac (o:=.lst (D7.map V.str)) hl;have a3:=Ac (o:=.tup (D7.map V.str)) htp;have a4:=Ac (o:=.tup Dd) htw;have a5:=Ac (o:=.tup [.ref tp,.ref tw]) hq;have all:=(((a1.trans a2).trans a3).trans a4).trans a5;exact k _ q tp tw D7 Dd C8 (s1.trans all) Ab ((a4.trans a5) _ _ Ab) ps so (a5 _ _ Ab) (d1.mono fun b o z _=>all _ _ z) p1
   clear fin;refine .inl ⟨⟨vs,A6.of O8,Qo _⟩,?_⟩;by_cases h2:acc.length < 2
   ·refine .inl ⟨C,acc,rfl,A6.of Em,h2,fun L hL=>?_⟩;refine ⟨_,rfl,D,xs,rfl,A6.of (Ac hL _ _ (s1 _ _ hD)),Np,fun l D7 hl ps so=>⟨l,_,rfl,.inl ⟨A6.of Ab,fun tp htp=>⟨_,rfl,L,_,rfl,.inl ⟨A6.of (Ac htp _ _ (Ac hl _ _ Ab)),fun tw htw=>⟨(by show 2<=sizeLine; lia),fun q hq=>?_⟩⟩⟩⟩⟩⟩;exact go L acc hL (.refl _) l D7 hl ps so tp htp tw htw q hq
   ·refine .inr ⟨C,acc,ws.map DE,rfl,Em,hU,by rw [Qk]; lia,by rw [Qk]; lia,fun L Dd hL pp=>?_⟩;refine ⟨_,rfl,D,xs,rfl,A6.of (Ac hL _ _ (s1 _ _ hD)),Np,fun l D7 hl ps so=>⟨l,_,rfl,.inl ⟨A6.of Ab,fun tp htp=>⟨_,rfl,L,_,rfl,.inl ⟨A6.of (Ac htp _ _ (Ac hl _ _ Ab)),fun tw htw=>⟨(by show 2<=sizeLine; lia),fun q hq=>?_⟩⟩⟩⟩⟩⟩;exact go L Dd hL pp l D7 hl ps so tp htp tw htw q hq
end
section
variable {P:Program} {w:World} {K:Qj} {mg:Str->Option Value} {base:Heap}
theorem Ko {f fT fL fN fW:Addr} {fd fdT fdL fdN fdW:FuncData} (TK:Eh K mg fT fdT) (LK:Mg K mg fL fdL) (hrg:mg "range"=none) (hli:mg "list"=none) (hin:mg "int"=none)
  (FN:D4 K "_law_names" "_law_names" B0 fN fdN) (mN:mg "_law_names"=some (.ref fN)) (bN:C9 K fdN ["_law_pen_here","_law_many"] [])
  (FW:D4 K "_law_ways" "_law_ways" AS fW fdW) (mW:mg "_law_ways"=some (.ref fW)) (bW:C9 K fdW ["_law_pen_here","_law_names_here"] [])
  (F:D4 K "_law_chart" "_law_chart" Cg f fd):AJ P w K mg base BV 4 f fd ["_law_pen_here"] (Gu K):=by
 have GT:AJ P w K mg base BV 1 fT fdT ["_law_pen_here","_law_many"] (De K):=TK.ok;have GL:AJ P w K mg base BV 2 fL fdL ["_law_pen_here"] (HN K):=DC TK LK.F;have GN:AJ P w K mg base BV 2 fN fdN ["_law_pen_here","_law_many"] (HM K):=Kn TK hrg FN;have GW:AJ P w K mg base BV 3 fW fdW ["_law_pen_here","_law_names_here"] (JK K):=L6 TK LK hrg hli hin FW;refine F.ok Dr (fun vs H Q E h=>?_) (fun cdv A outer s H vs Q E hr h=>?_)
 ·obtain ⟨p,a,ns,i,l,rfl,_⟩:=h;rfl
 ·obtain ⟨p,a,ns,i,l,rfl,hP,hlen,k⟩:=h;have K3:BM 1 _:=hr.mono (by decide);have ON:BM 2 _:=hr.mono (by decide);have big:1000 < sizeLine:=by decide
  have nd:=Dr.nd;refine ⟨_,Ad (An (i:=1) nd rfl (Or.inr rfl) (Ao GN ON (by rfl) mN FN.kp bN .nil AA (Aa (pv 0) (Aa (Aq Ba Ag (Ao GT K3 (by rfl) TK.mg TK.F.kp TK.b .nil AA (Aa (pv 0) (Aa Ag Ae)))) Ae))))
   (Ad (B8 (A1 G0 (Ao GT K3 (by rfl) TK.mg TK.F.kp TK.b .nil AA (Aa (pv 0) (Aa Ag Ae))) Ag (AL _))
    (Ah (AI (A9 (Aa (pv 1) (Aa (Ao GW hr (by rfl) mW FW.kp bW .nil AA (Aa (pv 0) (Aa (pv 1) Ae))) (Aa (pv 1) Ae)))))) AO)
   (Ad (An (i:=1) nd rfl (Or.inr rfl) (Ao GN ON (by rfl) mN FN.kp bN .nil AA (Aa (pv 0) (Aa Ag Ae))))
   (Ad (HV (ix:=2) (N:=["_law_k","_law_pen_here","_law_names_here"]) (σ0:=fun σ=>[none,some 0,some 1].map fun j=>j.bind fun j=>(σ[j]?).join) nd rfl (Or.inl rfl) rfl
     (AV.caught (by rfl) (by decide +kernel) rfl (by decide +kernel) (by intro y hy; simp only [Qn,Q8,or_false] at hy; rcases hy with rfl | rfl <;> rfl)
      (by intro y hy e; simp only [Qn,Q8,or_false] at hy; rcases hy with rfl | rfl | rfl | rfl | rfl <;> first | exact ⟨_,rfl⟩ | cases e))
     (fun σ _=>Bu.of [none,some 0,some 1] rfl (by
      intro i j x h1 h2;match i,h1,h2 with
      | 0,_,h2=>cases h2
      | 1,h1,h2=>cases h1; cases h2; exact ⟨rfl,.inl rfl,.inl rfl⟩
      | 2,h1,h2=>cases h1; cases h2; exact ⟨rfl,.inl rfl,.inl rfl⟩
      | n + 3,h1,_=>cases h1)) (Fp (by rfl) hrg (Aa Ag (Aa Ag Ae)))
     (fun s2 H C fp=>⟨Aj (i:=0) (show (["_law_k","_law_pen_here","_law_names_here"]:List Str).Nodup by decide +kernel) rfl (Or.inl rfl),Cj,
      A9 (Aa (Bm (BJ K rfl) (pv 2) (Aq D9 (pv 0) Ag) (fun _ _=>rfl)) (Aa (Bm (BJ K rfl) (pv 2) (pv 0) (fun _ _=>rfl)) (Aa (Ao GL ON (by rfl) LK.mg LK.F.kp LK.b .nil AA (Aa (pv 1) Ae)) Ae)))⟩))
   (Ad (BQ (Du PySem.F.plainAttrs_list PySem.F.slot_list_append PySem.F.type_list_append Bi (pv 2) (Aa (A9 (Aa (Bm B5 (pv 1) Ag (fun _ _=>rfl)) (Aa (Bm B5 (pv 1) (Aq Ba Ag (Ao GT K3 (by rfl) TK.mg TK.F.kp TK.b .nil AA (Aa (pv 0) (Aa Ag Ae)))) (fun _ _=>rfl)) (Aa (Ao GL ON (by rfl) LK.mg LK.F.kp LK.b .nil AA (Aa (pv 0) Ae)) Ae)))) Ae)))
   (Ah (AI (A9 (Aa (pv 1) (Aa (pv 2) (Aa (Bs (Aa (Bm B5 (pv 1) Ag (fun _ _=>rfl)) (Aa (Bm B5 (pv 1) (Ao GT K3 (by rfl) TK.mg TK.F.kp TK.b .nil AA (Aa (pv 0) (Aa Ag Ae))) (fun _ _=>rfl)) Ae))) Ae)))))))))),?_⟩
  refine ⟨_,rfl,_,rfl,p,a,ns,i,l,9,rfl,hP,by decide,by decide,hlen,fun d i1 l1 da db P1=>⟨_,_,rfl,rfl,p,a,ns,i1,l1,(1 + d).toNat,?_,P1,hlen,by lia,fun H2 D xs i2 l2 P2 k2 hDn Ge xl xnd xnm=>?_⟩⟩
  ·rw [Sz (by lia)];rfl
  have k02:AK p H H2:=AK.upd.trans k2;refine ⟨_,rfl,p,a,ns,i2,l2,16,rfl,P2,by decide,by decide,hlen,fun d2 i3 l3 d2a d2b P3=>⟨_,_,rfl,rfl,_,rfl,?_⟩⟩;have k03:AK p H (upd H2 p (.dK (AY a i3 l3))):=k02.trans AK.upd;refine C4 (fun _=>?_) (fun _=>?_)
  ·have OV:=Av (i':=i3) (l':=l3) P2.dc Ge (by intro z; cases z);refine ⟨_,rfl,_,rfl,_,rfl,p,a,ns,i3,l3,D,xs,rfl,P3,hlen,OV,by lia,by lia,xnd,fun H4 E us ws i4 l4 P4 k4 hEn Od PU hWy=>⟨_,rfl,(by show 3<=sizeLine; lia),fun q hq=>?_⟩⟩;have sq:=Ac (o:=.tup [.ref D,.ref E,.ref D]) hq;have KD:=P3.stay k4 OV (by intro _ z; cases z);refine k _ q D E D xs xs us ws i4 l4 (P4.same sq) ((k03.trans k4).trans (AK.of_same sq)) Ab (sq _ _ KD) (sq _ _ Od) (PU.mono fun b o z _=>sq _ _ z) hWy.c ?_ (sq _ _ KD) (fun x h=>h) (by lia) (by lia) xnd xnm (.inl (by lia));have h1:=hWy.len;have h2:xs.length * (xs.length - 1)<=9 * 8:=Rp (by lia) (by lia);lia
  ·refine ⟨_,rfl,p,a,ns,i3,l3,30,rfl,P3,hlen,by decide,fun H4 D ys i4 l4 P4 k4 hDn4 KD yl ynd ynm=>?_⟩;have k04:AK p H H4:=k03.trans k4;refine ⟨1,30,rfl,⟨by decide,by decide,by decide,by decide⟩,fun C hC=>⟨fun i m Ap H'=>m=29 - i/\i<=29/\(∃ v,Ap=[v,some (.ref p),some (.ref D)])/\∃ (acc:List V) (us:List Az) (i' l':Int),A8 K H' p a ns i' l'/\AK p H4 H'/\H' C=some (.lst acc)/\A7 H' acc (us.map B2)/\us.length=i /\
     (∀ (q:Nat) (u:Az),us[q]? = some u->ys[q]? = some u.1/\ys[q + 1]? = some u.2.1/\1<=u.2.2),
    ⟨_,rfl,QH _,⟨_,rfl⟩,[],[],i4,l4,P4.same (Ac hC),AK.of_same (Ac hC),Ab,.nil,rfl,fun q u h=>by cases h⟩,?_⟩⟩
   rintro j m Ap H' ⟨rfl,hj,⟨v,rfl⟩,acc,us,i1,l1,P1,k1,Em,hU,hul,hus⟩;have Jh:=P4.stay k1 KD (by intro _ z; cases z);have hacc:acc.length=j:=by rw [AQ hU,Qk,hul]
   by_cases Bc:j < 29
   ·refine .inr ⟨Bc,?_⟩;rintro x H6 ⟨rfl,rfl⟩;obtain ⟨x0,NX,M4⟩:=C6 (xs:=ys) (i:=(1:Int) + (j:Int) - 1) (by lia) (by lia);obtain ⟨y0,LP,Ny⟩:=C6 (xs:=ys) (i:=(1:Int) + (j:Int)) (by lia) (by lia);refine ⟨_,rfl,_,rfl,_,_,rfl,rfl,D,_,_,.str x0,rfl,rfl,A6.of Jh,NX,_,rfl,_,rfl,D,_,_,.str y0,rfl,rfl,A6.of Jh,LP,_,rfl,p,a,ns,i1,l1,rfl,P1,hlen,fun n i2 l2 hn P2=>⟨(by show 3<=sizeLine; lia),fun t ht=>?_⟩⟩;have st:=Ac (o:=.tup [.str x0,.str y0,.int n]) ht;have Fx:=st _ _ (Av (i':=i2) (l':=l2) P1.dc Em (by intro z; cases z));refine ⟨acc,Fx,by lia,_,(show 29 - (j + 1) < 29 - j by lia),rfl,Bc,⟨_,rfl⟩,acc ++ [.ref t],us ++ [(x0,y0,n)],i2,l2,(P2.same st).other Fx (by intro _ _ z; cases z) (by intro _ z; cases z),fun b o hb z=>?_,Ab,?_,by rw [Qz,hul]; rfl,fun q u hq=>?_⟩
    ·rw [Af (Ai z hC)];refine st _ _ ?_;rw [Af hb];exact k1 b o hb z
    ·rw [Qw];have tC:∀ {b ys},(upd (upd H6 p (.dK (AY a i2 l2))) t (.tup [.str x0,.str y0,.int n])) b=some (.tup ys)->(upd (upd (upd H6 p (.dK (AY a i2 l2))) t (.tup [.str x0,.str y0,.int n])) C (.lst (acc ++ [.ref t]))) b=some (.tup ys):=fun {b ys} z=>by
      rw [Af (Bn z Fx (by intro z; cases z))];exact z
     exact BX (BZ hU fun b ys z=>tC (st _ _ (Av P1.dc z (by intro z; cases z)))) (.tup (tC Ab) (.cons (.str _) (.cons (.str _) (.cons (.int _) .nil))))
    ·by_cases e:q < us.length
     ·rw [QZ e] at hq;exact hus q u hq
     ·rw [QY (by lia)] at hq;have e2:q=j:=by
       have:=(Qx.mp hq).1;rw [Ra] at this;lia
      subst e2;rw [hul,Sm] at hq;cases hq
      refine ⟨?_,?_,hn⟩
      ·rw [show ((1:Int) + (q:Int) - 1).toNat=q by lia] at M4; exact M4
      ·rw [show ((1:Int) + (q:Int)).toNat=q + 1 by lia] at Ny; exact Ny
   ·have e0:j=29:=by lia
    subst e0;refine .inl ⟨Qo _,?_⟩;obtain ⟨x,hx,gx⟩:=C6 (xs:=ys) (i:=0) (by decide) (by lia);refine ⟨_,rfl,.inl ⟨rfl,_,A6.of Em⟩,_,rfl,D,_,_,.str x,rfl,rfl,A6.of Jh,hx,_,rfl,_,rfl,p,a,ns,i1,l1,28,rfl,P1,by decide,by decide,hlen,fun d5 i5 l5 d5a d5b P5=>?_⟩;have OU:=Av (i':=i5) (l':=l5) P1.dc Jh (by intro z; cases z);obtain ⟨y,hy,gy⟩:=C6 (xs:=ys) (i:=2 + d5) (by lia) (by lia);refine ⟨_,_,rfl,rfl,D,_,_,.str y,rfl,rfl,A6.of OU,hy,_,rfl,p,a,ns,i5,l5,rfl,P5,hlen,fun n i6 l6 hn P6=>⟨(by show 3<=sizeLine; lia),fun t ht=>?_⟩⟩;rw [BF] at P6 ht ⊢;have st:=Ac (o:=.tup [.str x,.str y,.int n]) ht;have PY:=st _ _ (Av (i':=i6) (l':=l6) P1.dc Em (by intro z; cases z));have hD7:=st _ _ (Av (i':=i6) (l':=l6) P1.dc Jh (by intro z; cases z));have cD:D ≠ C:=fun z=>by rw [z] at KD; rw [hC] at KD; cases KD
    refine ⟨C,_,_,rfl,rfl,PY,by lia,?_⟩;have P8:=(P6.same st).other (o:=.lst (acc ++ [.ref t])) PY (by intro _ _ z; cases z) (by intro _ z; cases z);have O9:(upd (upd (upd H' p (.dK (AY a i6 l6))) t (.tup [.str x,.str y,.int n])) C (.lst (acc ++ [.ref t]))) D=some (.lst (ys.map V.str)):=by rw [Af cD]; exact hD7
    refine ⟨_,rfl,_,rfl,_,rfl,D,_,_,.str x,rfl,rfl,A6.of O9,hx,_,rfl,_,rfl,p,a,ns,i6,l6,30,rfl,P8,by decide,by decide,hlen,fun d9 i9 l9 d9a d9b P9=>?_⟩;have hD9:=Av (i':=i9) (l':=l9) P8.dc O9 (by intro z; cases z);obtain ⟨z,hz,gz⟩:=C6 (xs:=ys) (i:=d9) (by lia) (by lia);refine ⟨D,_,_,.str z,rfl,rfl,A6.of hD9,hz,(by show 2<=sizeLine; lia),fun B hB=>⟨(by show 3<=sizeLine; lia),fun q hq=>?_⟩⟩;have sB:=Ac (o:=.lst [.str x,.str z]) hB;have sq:=Ac (o:=.tup [.ref D,.ref C,.ref B]) hq;have hC9:=Av (i':=i9) (l':=l9) P8.dc (@Ab _ C (.lst (acc ++ [.ref t]))) (by intro z; cases z);refine k _ q D C B ys [x,z] (acc ++ [.ref t]) (us ++ [(x,y,n)]) i9 l9 ((P9.same sB).same sq) (fun b o hb e=>?_) Ab (sq _ _ (sB _ _ hD9)) (sq _ _ (sB _ _ hC9)) ?_ (IZ (n:=29) ynd (by lia) hul hus (by simpa using gx) gy (by lia) hn) ?_ (sq _ _ Ab) (fun w hw=>?_) (by lia) (by lia) ynd ynm (.inr (by rw [Qz]; show us.length + 1<=_; lia))
    ·have e4:=k04 b o hb e;refine sq _ _ (sB _ _ ?_);rw [Af hb,Af (Ai e4 hC)];refine st _ _ ?_;rw [Af hb];exact k1 b o hb e4
    ·rw [Qw];have up:∀ {b ys},(upd (upd H' p (.dK (AY a i6 l6))) t (.tup [.str x,.str y,.int n])) b=some (.tup ys)->(upd (upd (upd (upd (upd (upd H' p (.dK (AY a i6 l6))) t (.tup [.str x,.str y,.int n])) C (.lst (acc ++ [.ref t]))) p (.dK (AY a i9 l9))) B (.lst [.str x,.str z])) q (.tup [.ref D,.ref C,.ref B])) b=some (.tup ys):=fun {b ys} w=>by
      refine sq _ _ (sB _ _ (Av P8.dc ?_ (by intro z; cases z)));rw [Af (Bn w PY (by intro z; cases z))];exact w
     exact BX (BZ hU fun b ys w=>up (st _ _ (Av P1.dc w (by intro z; cases z)))) (.tup (up Ab) (.cons (.str _) (.cons (.str _) (.cons (.int _) .nil))))
    ·rw [Qz,hul];show 29 + 1 < 64
     decide
    ·rcases Qn.mp hw with rfl | hw
     ·exact Qm gx
     ·rw [Qs.mp hw];exact Qm gz
end
section
variable {P:Program} {w:World} {K:Qj} {mg:Str->Option Value} {base:Heap}
theorem CH {f:Addr} {fd:FuncData} (F:D4 K "neighbours" "neighbours" B4 f fd):AJ P w K mg base BV 1 f fd ["web"] (Hc K):=by
 refine F.ok CV (fun vs H Q E h=>?_) (fun cdv A outer s H vs Q E hr h=>?_)
 ·obtain ⟨q,ps,ws,r,rfl,_⟩:=h;rfl
 ·obtain ⟨q,ps,ws,r,rfl,ok,k⟩:=h;obtain ⟨tp,tw,us,hq,htp,htw,hD⟩:=ok.web.ex;have nd:=CV.nd;have hu:=CJ hr;have big:1000 < sizeLine:=by decide
  have l30:=ok.l30;have l64:=ok.l64;refine ⟨_,Ad (Hh (pv 0) (Ck K rfl rfl (Au (Aj (i:=1) nd rfl (Or.inl rfl)) (Au (Aj (i:=2) nd rfl (Or.inl rfl)) BS))))
   (Ad (Kc (ix:=3) (N:=["place"]) (σ0:=fun _=>[none]) nd rfl (Or.inl rfl) rfl (AV.plain (by decide +kernel) (by decide +kernel) rfl (by decide +kernel)) (fun σ _=>Bu.none _ _ _ ["place"] σ) (FQ K rfl (pv 1))
    (fun s2 H C fp=>⟨Aj (i:=0) (show (["place"]:List Str).Nodup by decide +kernel) rfl (Or.inl rfl),Cj,pv 0,E3⟩))
   (Ad (Br PassesOwn.never rfl (FQ K rfl (pv 2)) (Ck K rfl rfl (Au (Aj (i:=4) nd rfl (Or.inl rfl)) (Au (Aj (i:=5) nd rfl (Or.inl rfl)) (Au (Aj (i:=6) nd rfl (Or.inl rfl)) BS))))
    (Ad (Bv hu (A2 hu (pv 3) (pv 4) (fun _ _=>rfl)) (pv 5) (pv 6) rfl) (Ah (Bv hu (A2 hu (pv 3) (pv 5) (fun _ _=>rfl)) (pv 4) (pv 6) rfl))))
   (Ah (AI (pv 3))))),?_⟩
  refine ⟨_,rfl,q,_,rfl,BY.of hq,rfl,_,_,rfl,_,_,rfl,rfl,?_⟩;refine ⟨_,rfl,tp,rfl,⟨_,BY.of htp⟩,fun C hC=>⟨fun i m Ap H'=>m=ps.length - i/\i<=ps.length/\(∃ v,Ap=[v])/\∃ ds:List Addr,Aw H H'/\ds.length=i/\ds.Nodup/\C ∉ ds/\(∀ d ∈ ds,H d=none/\H' d=some (.dK []))/\H' C=some (.dK (sK (Hk (ps.take i) ds))),
   ⟨_,rfl,QH _,⟨_,rfl⟩,[],Ac hC,rfl,.nil,by simp,by simp,Ab⟩,?_⟩⟩
  rintro i m Ap H' ⟨rfl,hi,⟨v,rfl⟩,ds,s1,dl,dn,dC,dH,Em⟩;have Hu:=s1 _ _ htp;by_cases Bc:i < ps.length
  ·refine .inr ⟨⟨_,V.str ps[i],BY.of Hu,by rw [Q7,Qi Bc]; rfl⟩,?_⟩;rintro x H6 ⟨rfl,hx⟩;have Ht:=hx _ (BY.of Hu);rw [Q7,Qi Bc] at Ht;cases Ht
   have tl:(ps.take i).length=i:=by rw [QW]; lia
   have np:ps[i] ∉ (Hk (ps.take i) ds).map (·.1):=by
    rw [EB (by lia)];intro hm;obtain ⟨j,hj,e⟩:=Q5 hm;rw [R4] at e;have:=E9 ok.nd (Qi (show j < ps.length by lia)) (by rw [Qi Bc,e]);lia
   refine ⟨_,rfl,fun d hd=>⟨_,Sum.inr ps[i],rfl,Ac hd _ _ Em,?_,_,by lia,rfl,Bc,⟨_,rfl⟩,ds ++ [d],fun b o z=>?_,by simp [dl],?_,?_,fun c hc=>?_,?_⟩⟩
   ·rw [BB];unfold Hk;rw [Qk,RV];lia
   ·rw [Af (Ai z hC)];exact Ac hd _ _ (s1 _ _ z)
   ·refine RL.mpr ⟨dn,QI.mpr ⟨by simp,.nil⟩,fun a ha b hb=>?_⟩;have e:b=d:=by simpa using hb
    subst e;rintro rfl;rw [(dH _ ha).2] at hd;cases hd
   ·rw [QA,not_or];refine ⟨dC,fun hm=>?_⟩;have e:C=d:=by simpa using hm
    rw [<-e,Em] at hd;cases hd
   ·rcases QA.mp hc with hc | hc
    ·refine ⟨(dH c hc).1,?_⟩;rw [Af (fun z=>dC (by rw [<-z]; exact hc))];exact Ac hd _ _ (dH c hc).2
    ·have e:c=d:=by simpa using hc
     subst e;refine ⟨s1.free hd,?_⟩;rw [Af (fun z=>by rw [z,Em] at hd; cases hd)];exact Ab
   ·rw [Ab,Cz np];have e1:ps.take (i + 1)=ps.take i ++ [ps[i]]:=by rw [QJ,Qi Bc]; rfl
    have e2:Hk (ps.take (i + 1)) (ds ++ [d])=Hk (ps.take i) ds ++ [(ps[i],.ref d)]:=by
     unfold Hk;rw [e1,List.zip_append (by lia),Qw];rfl
    rw [e2]
  ·have e0:i=ps.length:=by lia
   subst e0;rw [QT] at Em;refine .inl ⟨⟨_,BY.of Hu,by rw [Qk]; exact Qo _⟩,?_⟩;have NB0:NB H' C ps ds (Gm (ws.take 0)) 0:=⟨Em,dl,dn,dC,fun j p d e1 e2=>⟨[],(dH d (Qm e2)).2,Qo _,fun y=>⟨fun z=>absurd z Q8,fun ⟨u,hu,_⟩=>absurd hu Q8⟩⟩⟩
   have Qg:La H' ps ds (AG (ws.take 0)):=fun j p d nv e1 e2 hr y v hy=>by
    have:nv=[]:=Rd.inj hr (.inl (dH d (Qm e2)).2);subst this;cases hy
   have hwl:us.length=ws.length:=by rw [AQ hD,Qk]
   refine ⟨_,rfl,tw,rfl,⟨_,BY.of (s1 _ _ htw)⟩,KI (xs:=us) (fun i σ H2=>(∃ v4 v5 v6,σ=[some (.ref q),some (.ref tp),some (.ref tw),some (.ref C),v4,v5,v6])/\Aw H H2/\NB H2 C ps ds (Gm (ws.take i)) (2 * i)/\La H2 ps ds (AG (ws.take i))) ⟨⟨_,_,_,rfl⟩,s1,NB0,Qg⟩ (fun i σ H2 _ hP=>BY.of (hP.2.1 _ _ htw)) (fun i x σ H2 hx hP rt bk=>?_) (fun σ H2 hP=>?_)⟩
   ·obtain ⟨⟨v4,v5,v6,rfl⟩,s2,nb,nbv⟩:=hP;obtain ⟨u,t,gu,rfl,ht⟩:=Cd hD hx;have O4:i < ws.length:=(Qx.mp gu).1;have hu2:=ok.ends u (Qm gu);refine ⟨t,_,rfl,BY.of (s2 _ _ ht),rfl,_,_,rfl,_,_,rfl,_,_,rfl,rfl,?_⟩;obtain ⟨j,d,nv,a1,a2,a3,a4,a5,a6⟩:=nb.get ok.nd hu2.1;obtain ⟨CA,b1,b2,b3⟩:=Hf nv u.2.1 (.int u.2.2);have dH1:∀ c ∈ ds,H c=none:=fun c hc=>(dH c hc).1
    refine ⟨_,rfl,_,rfl,_,rfl,C,_,rfl,?_,_,rfl,d,_,rfl,CC.k (k:=Sum.inr u.2.1) a4 (by rw [BB]; lia),?_⟩
    ·have:=Bo.k (k:=Sum.inr u.1) nb.top;rw [a3] at this;exact this
    rw [b1];have Mu:=nb.put ok.nd a1 a2 a4 b2 b3 a6 a5;have LD:=nbv.put ok.nd nb.nd a1 a2 a4 b1 (fun _ _ _=>Jo) (GF gu);have s3:Aw H (upd H2 d (.dK (sK CA))):=fun b o z=>by
     rw [Af (Ai z (dH1 d (Qm a2)))];exact s2 _ _ z
    generalize upd H2 d (.dK (sK CA))=H3 at Mu LD s3 ⊢;obtain ⟨j',d',mv,c1,c2,c3,c4,c5,c6⟩:=Mu.get ok.nd hu2.2;obtain ⟨mv',e1,e2,e3⟩:=Hf mv u.1 (.int u.2.2);refine ⟨_,rfl,_,rfl,_,rfl,C,_,rfl,?_,_,rfl,d',_,rfl,CC.k (k:=Sum.inr u.1) c4 (by rw [BB]; lia),?_⟩
    ·have:=Bo.k (k:=Sum.inr u.2.1) Mu.top;rw [c3] at this;exact this
    rw [e1];have nb3:=Mu.put ok.nd c1 c2 c4 e2 e3 c6 c5;have Pw:=LD.put (Ed':=AG (ws.take (i + 1))) ok.nd Mu.nd c1 c2 c4 e1 (fun _ _ _ h=>h) (GF gu).symm;refine ⟨⟨_,_,_,rfl⟩,fun b o z=>?_,nb3.mono (fun a b=>(KS gu a b).symm) (by lia),Pw⟩;rw [Af (Ai z (dH1 d' (Qm c2)))];exact s3 _ _ z
   ·obtain ⟨⟨v4,v5,v6,rfl⟩,s2,nb,nbv⟩:=hP;rw [hwl,QT] at nb nbv;exact ⟨_,rfl,k H2 C ds s2 (nb.mono (fun _ _=>Iff.rfl) (by lia)) nbv hC fun d hd=>(dH d hd).1⟩
end
section
variable {P:Program} {w:World} {K:Qj} {mg:Str->Option Value} {base:Heap}
structure NbF (K:Qj) (mg:Str->Option Value) (f:Addr) (fd:FuncData):Prop where
 F:D4 K "neighbours" "neighbours" B4 f fd
 mg:mg "neighbours"=some (.ref f)
 b:C9 K fd ["web"] []
theorem Hj {f fN:Addr} {fd fdN:FuncData} (NK:NbF K mg fN fdN) (hmi:mg "min"=none) (F:D4 K "nearest" "nearest" CN f fd):AJ P w K mg base BV 2 f fd ["web","starts"] (JN K):=by
 have GN:AJ P w K mg base BV 1 fN fdN ["web"] (Hc K):=CH NK.F;refine F.ok E1 (fun vs H Q E h=>?_) (fun cdv A outer s H vs Q E hr h=>?_)
 ·obtain ⟨q,st,ps,ss,ws,r,rfl,_⟩:=h;rfl
 ·obtain ⟨q,st,ps,ss,ws,r,rfl,ok,pos,uniq,hst,ssne,ssn,sssub,k⟩:=h;have nd:=E1.nd;have hu:=CJ hr;have Gb:=hr.units;have big:1000 < sizeLine:=by decide
  have l30:=ok.l30;have ssl:ss.length<=30:=by
   have:=AE ssn sssub;lia
  refine ⟨_,Ad (An (i:=2) nd rfl (Or.inl rfl) (Ao GN hr (by rfl) NK.mg NK.F.kp NK.b .nil AA (Aa (pv 0) Ae)))
   (Ad (An (i:=3) nd rfl (Or.inr rfl) (Gz (N:=["start"]) (σ0:=fun _=>[none]) rfl (AV.plain (by decide +kernel) (by decide +kernel) rfl (by decide +kernel)) (fun σ _=>Bu.none _ _ _ ["start"] σ) (PI.or (Ca K rfl (pv 1)) (FQ K rfl (pv 1)))
    (fun s2 H C fp=>⟨Aj (i:=0) (show (["start"]:List Str).Nodup by decide +kernel) rfl (Or.inl rfl),Cj,pv 0,A9 (Aa Ag (Aa (pv 0) Ae))⟩)))
   (Ad (An (i:=4) nd rfl (Or.inl rfl) E3)
   (Ad (Dt PassesOwn.never (Kb (pv 3) (fun _=>rfl))
    (Ad (Hh (HX (Ay (EV rfl Gb) (by rfl) hmi PyProof.Rows.boot_min (Aa
      (CQ (N:=["name","reached"]) (σ0:=fun σ=>[none,some 3].map fun j=>j.bind fun j=>(σ[j]?).join) rfl
       (AV.caught (by rfl) (by decide +kernel) rfl (by decide +kernel) (by intro y hy; simp only [Qn,Q8,or_false] at hy; rcases hy with rfl <;> rfl)
        (by intro y hy e; simp only [Qn,Q8,or_false] at hy; rcases hy with rfl | rfl | rfl <;> first | exact ⟨_,rfl⟩ | cases e))
       (fun σ _=>Bu.of [none,some 3] rfl (by
        intro i j x h1 h2;match i,h1,h2 with
        | 0,_,h2=>cases h2
        | 1,h1,h2=>cases h1; cases h2; exact ⟨rfl,.inl rfl,.inl rfl⟩
        | n + 2,h1,_=>cases h1)) (FR (pv 3))
       (fun s2 H C fp=>⟨Aj (i:=0) (show (["name","reached"]:List Str).Nodup by decide +kernel) rfl (Or.inl rfl),Cj,A9 (Aa (A2 hu (pv 1) (pv 0) (fun _ _=>rfl)) (Aa (pv 0) Ae))⟩)) Ae)))
      (Ck K rfl rfl (Au (Ck K rfl rfl (Au (Aj (i:=5) nd rfl (Or.inl rfl)) (Au (Aj (i:=6) nd rfl (Or.inl rfl)) BS))) (Au (Aj (i:=7) nd rfl (Or.inl rfl)) BS))))
    (Ad (Lw (pv 3) (pv 7))
    (Ad (Bv hu (pv 4) (pv 7) (A9 (Aa (pv 5) (Aa (pv 6) Ae))) rfl)
    (Ah (Br PassesOwn.never rfl (FR (A2 hu (pv 2) (pv 7) (fun _ _=>rfl))) (Aj (i:=8) nd rfl (Or.inl rfl))
     (Ah (B8 (FP (Fq hu (pv 8) (pv 4)))
      (Ad (An (i:=9) nd rfl (Or.inl rfl) (A9 (Aa (Aq Ba (pv 5) (A2 hu (A2 hu (pv 2) (pv 7) (fun _ _=>rfl)) (pv 8) (fun _ _=>rfl))) (Aa (pv 6) Ae))))
      (Ah (Bv hu (pv 3) (pv 8) (Ay (Fj rfl Gb) (by rfl) hmi PyProof.Rows.boot_min (Aa (pv 9) (Aa (Kh hu (pv 3) (pv 8) (pv 9) ⟨rfl,rfl,rfl,rfl⟩) Ae))) rfl))) AO))))))))
   (Ah (AI (pv 4)))))),?_⟩
  refine ⟨_,rfl,q,ps,ws,r,rfl,ok,fun H1 B ds s1 nb nbv hB hds=>?_⟩;have nbAt:∀ a,a ∈ ds->∃ u,H1 a=some u:=fun a hm=>by
   obtain ⟨i,hi,e⟩:=Q5 hm;have O4:i < ps.length:=by rw [<-nb.len]; exact hi
   obtain ⟨nv,a1,_⟩:=nb.inner i ps[i] a (Qi O4) (by rw [Qi hi,e]);exact ⟨_,a1⟩
  have Oe:=nb.top;rcases hst with hst | hst
  case' inl=>
   refine .inl ⟨_,rfl,st,rfl,⟨_,A6.of (s1 _ _ hst)⟩,fun RA hRA=>?_⟩
  case' inr=>
   refine .inr ⟨_,rfl,st,rfl,⟨_,BY.of (s1 _ _ hst)⟩,fun RA hRA=>?_⟩
  all_goals
   refine ⟨fun i m Ap H'=>m=ss.length - i/\i<=ss.length/\(∃ v,Ap=[v])/\∃ nv:List (Str × V),Aw H1 H'/\H' RA=some (.dK (sK nv))/\nv.map (·.1)=ss.take i/\∀ y v,(y,v) ∈ nv->F4 H' v (0,y),
    ⟨_,rfl,QH _,⟨_,rfl⟩,[],Ac hRA,Ab,rfl,fun y v hy=>absurd hy Q8⟩,?_⟩
   rintro i m Ap H' ⟨rfl,hi,⟨v,rfl⟩,nv,s2,Em,nk,np⟩;have Hv:=s2 _ _ (s1 _ _ hst);by_cases Bc:i < ss.length
   ·refine .inr ⟨⟨_,V.str ss[i],by first | exact A6.of Hv | exact BY.of Hv,by rw [Q7,Qi Bc]; rfl⟩,?_⟩;rintro x H6 ⟨rfl,hx⟩;have Ht:=hx _ (by first | exact A6.of Hv | exact BY.of Hv);rw [Q7,Qi Bc] at Ht;cases Ht
    have nn:ss[i] ∉ nv.map (·.1):=by
     rw [nk];intro hm;obtain ⟨j,hj,e⟩:=Q5 hm;rw [QW] at hj;rw [R4] at e;have:=E9 ssn (Qi (show j < ss.length by lia)) (by rw [Qi Bc,e]);lia
    have nl:nv.length=i:=by
     have:=congrArg RT nk;rw [Qk,QW] at this;lia
    refine ⟨_,rfl,_,rfl,(by show 2<=sizeLine; lia),fun t ht=>⟨_,Sum.inr ss[i],rfl,Ac ht _ _ Em,by rw [BB]; lia,_,by lia,rfl,Bc,⟨_,rfl⟩,nv ++ [(ss[i],.ref t)],fun b o z=>?_,by rw [Ab,Cz nn],?_,fun y v hy=>?_⟩⟩
    ·rw [Af (Ai z hRA)];exact Ac ht _ _ (s2 _ _ z)
    ·rw [Qw,nk,QJ,Qi Bc]; rfl
    ·have tk:∀ b xs,(upd H6 t (.tup [.int 0,.str ss[i]])) b=some (.tup xs)->(upd (upd H6 t (.tup [.int 0,.str ss[i]])) RA (.dK (Be (sK nv) (Sum.inr ss[i]:A5) (.ref t)))) b=some (.tup xs):=fun b xs z=>by
      rw [Af (Bn z (Ac ht _ _ Em) (by intro z; cases z))]; exact z
     rcases QA.mp hy with hy | hy
     ·exact (np y v hy).same fun b xs z=>tk b xs (Ac ht _ _ z)
     ·simp only [Qs,Prod.mk.injEq] at hy;obtain ⟨rfl,rfl⟩:=hy;exact ⟨t,rfl,tk _ _ Ab⟩
   ·have e0:i=ss.length:=by lia
    subst e0;rw [QT] at nk;refine .inl ⟨⟨_,by first | exact A6.of Hv | exact BY.of Hv,by rw [Qk]; exact Qo _⟩,fun SA hSA=>?_⟩;have sS:=Ac (o:=.dK []) hSA;have aR:RA ∉ ds/\RA ≠ B/\RA ≠ SA/\H RA=none:=⟨(fun hm=>by obtain ⟨u,e⟩:=nbAt RA hm; rw [hRA] at e; cases e),(fun z=>by rw [z,Oe] at hRA; cases hRA),(fun z=>by rw [<-z,Em] at hSA; cases hSA),s1.free hRA⟩
    have aS:SA ∉ ds/\SA ≠ B/\SA ≠ RA/\H SA=none:=⟨(fun hm=>by obtain ⟨u,e⟩:=nbAt SA hm; rw [s2 _ _ e] at hSA; cases hSA),(fun z=>by rw [z,s2 _ _ Oe] at hSA; cases hSA),(fun z=>aR.2.2.1 z.symm),(s1.trans s2).free hSA⟩
    have s3:Aw H1 (upd H' SA (.dK [])):=s2.trans sS;have N0:NI H (upd H' SA (.dK [])) ps ws B RA SA ds nv [] (fun _ _=>False) (fun y p=>y ∈ ss/\p=(0,y)):=by
     refine ⟨s1.trans s3,nb.r.same s3,nbv.of nb.r (fun d _ nv z=>by rcases z with a | ⟨o,a⟩; exact .inl (s3 _ _ a); exact .inr ⟨o,s3 _ _ a⟩),sS _ _ Em,Ab,⟨by rw [nk]; exact ssn,fun y v hy=>⟨(0,y),(np y v hy).same fun b xs z=>sS _ _ z,by rw [<-nk]; exact Q0.mpr ⟨_,hy,rfl⟩,rfl⟩,fun y p hp=>?_⟩,⟨.nil,fun y v hy=>absurd hy Q8,fun y p hp=>hp.elim⟩,fun y hy=>sssub y (by rw [<-nk]; exact hy),fun y hy=>absurd hy Q8⟩;obtain ⟨hy,rfl⟩:=hp;rw [<-nk] at hy;obtain ⟨⟨z,v⟩,a,b⟩:=Q0.mp hy;have b':z=y:=b;subst b';exact ⟨v,a,(np z v a).same fun b xs z=>sS _ _ z⟩
    have D0:Mk ws ss (fun _ _=>False) (fun y p=>y ∈ ss/\p=(0,y)):=⟨fun _ _ h=>h.elim,fun y p ⟨h1,h2⟩=>by subst h2; exact ⟨h1,.nil y⟩,fun _ _ _ _ h=>h.elim,fun s hs=>.inr ⟨(0,s),⟨hs,rfl⟩,Cm.refl _⟩⟩
    clear Em Hv np;generalize upd H' SA (.dK [])=H5 at N0 ⊢;refine ⟨fun m σ H2=>∃ nvR nvS S R v5 v6 v7 v8 v9,m=ps.length - nvS.length/\σ=[some (.ref q),some (.ref st),some (.ref B),some (.ref RA),some (.ref SA),v5,v6,v7,v8,v9]/\NI H H2 ps ws B RA SA ds nvR nvS S R/\Mk ws ss S R/\∀ y p,R y p->∀ q,¬ S y q,
     ⟨_,nv,[],_,_,_,_,_,_,_,rfl,rfl,N0,D0,fun _ _ _ _ h=>h⟩,?_⟩
    clear N0 D0 hSA sS s3 s2 nk;rintro m σ H2 ⟨nvR,nvS,S,R,v5,v6,v7,v8,v9,rfl,rfl,N,Dj,dis⟩;refine ⟨_,rfl,_,.inr (.inr ⟨_,N.dR,rfl⟩),?_⟩;by_cases hne:nvR=[]
    ·subst hne;refine DI ?_;have all:∀ x ∈ ps,∃ q,S x q:=Dj.done (fun y p h=>by obtain ⟨v,a,_⟩:=N.pR.2.2 y p h; cases a) ssne ok.con (fun T x hx tx cl=>ok.con (fun z=>T z->T r) (fun h=>h) (fun a b hab h tb=>h (cl b a hab.symm tb)) x hx tx) sssub;refine ⟨_,rfl,k H2 SA nvS N.same aS.2.2.2 N.dS N.pS.1 (fun x=>⟨N.subS x,fun hx=>N.inS.mpr (all x hx)⟩) fun y v hy=>?_⟩;obtain ⟨p,h1,h2⟩:=N.pS.2.1 y v hy;exact ⟨p,h1,Dj.near y p h2⟩
    ·have PL:(!(sK nvR).isEmpty)=true:=by cases nvR with
      | nil=>exact absurd rfl hne
      | cons=>rfl
     rw [PL];refine Fg ?_;obtain ⟨NN,hNN⟩:∃ NN:St->Hp->Prop,NN=fun Ap H'=>∃ m',m' < ps.length - nvS.length/\∃ nvR nvS S R v5 v6 v7 v8 v9,m'=ps.length - nvS.length/\Ap=[some (.ref q),some (.ref st),some (.ref B),some (.ref RA),some (.ref SA),v5,v6,v7,v8,v9]/\NI H H' ps ws B RA SA ds nvR nvS S R/\Mk ws ss S R/\∀ y p,R y p->∀ q,¬ S y q:=⟨_,rfl⟩
     refine ⟨NN,fun Ap H' z=>by rw [hNN] at z; exact z,?_⟩;have lR:=N.lenR;have lS:=N.lenS;refine ⟨_,rfl,RA,_,rfl,.inl N.dR,fun o H3 fz C hC=>?_⟩;have fz':H3=upd H2 RA (.frz o (.dK (sK nvR))):=by
      rcases fz with ⟨_,e⟩ | ⟨e,_⟩
      ·exact e
      ·rw [N.dR] at e; cases e
     have hR3:=fz.at;have Pe:∀ b xs,H2 b=some (.tup xs)->H3 b=some (.tup xs):=fun b xs z=>by
      rw [fz.ne (Bn z N.dR (by intro z; cases z))]; exact z
     refine ⟨fun i m Ap H'=>m=nvR.length - i/\i<=nvR.length/\(∃ v,Ap=[v,some (.ref RA)])/\∃ (acc:List V) (ks:List ((Int × Str) × Str)),Aw H3 H'/\H' C=some (.lst acc)/\acc.length=i/\ks.length=i/\(∀ (j:Nat) v k,acc[j]? = some v->ks[j]? = some k->MA H' v k)/\(∀ (j:Nat) y v,j < i->nvR[j]? = some (y,v)->∃ p,F4 H3 v p/\ks[j]? = some (p,y)),
      ⟨_,rfl,QH _,⟨_,rfl⟩,[],[],Ac hC,Ab,rfl,rfl,fun j v k h=>(by simp at h),fun j y v hj=>absurd hj (Ro _)⟩,?_⟩
     rintro i m Ap H' ⟨rfl,hi,⟨v,rfl⟩,acc,ks,s4,Em,al,kl,hky,hks⟩;have O7:=s4 _ _ hR3;have nCR:RA ≠ C:=Ai hR3 hC;by_cases Bc:i < nvR.length
     ·refine .inr ⟨⟨O7,by rw [BB]; exact Bc⟩,?_⟩;rintro z H6 ⟨rfl,key,v2,ek,rfl⟩;obtain ⟨y,ey,rfl⟩:=JV ek;have hm:=Qm ey;obtain ⟨p,hp,hRp⟩:=N.pR.2.1 y v2 hm;have hp3:=hp.same Pe;refine ⟨_,rfl,_,rfl,RA,v2,rfl,.inl ⟨_,Sum.inr y,.inr ⟨o,O7⟩,rfl,(Ci N.pR.1 hm).symm⟩,_,rfl,(by show 2<=sizeLine; lia),fun t ht=>?_⟩;have st:=Ac (o:=.tup [v2,.str y]) ht;have Fx:=st _ _ Em;have tC:∀ b xs,(upd H6 t (.tup [v2,.str y])) b=some (.tup xs)->(upd (upd H6 t (.tup [v2,.str y])) C (.lst (acc ++ [.ref t]))) b=some (.tup xs):=fun b xs z=>by
       rw [Af (Bn z Fx (by intro z; cases z))]; exact z
      refine ⟨acc,Fx,by lia,_,by lia,rfl,Bc,⟨_,rfl⟩,acc ++ [.ref t],ks ++ [(p,y)],fun b u z=>?_,Ab,by simp [al],by simp [kl],fun j v k h1 h2=>?_,fun j y' v' hj h=>?_⟩
      ·rw [Af (Ai z hC)];exact st _ _ (s4 _ _ z)
      ·by_cases hj:j < acc.length
       ·rw [QZ hj] at h1;rw [QZ (by lia)] at h2;exact (hky j v k h1 h2).same fun b xs z=>tC b xs (st _ _ z)
       ·rw [QY (by lia)] at h1;rw [QY (by lia)] at h2;have j0:j - acc.length=0:=by
         have:=(Qx.mp h1).1;simp at this;lia
        have j1:j - ks.length=0:=by lia
        rw [j0] at h1;rw [j1] at h2;cases h1
        cases h2
        obtain ⟨t2,e2,g2⟩:=hp3;subst e2;exact ⟨t,t2,rfl,tC _ _ Ab,t2,rfl,tC _ _ (st _ _ (s4 _ _ g2))⟩
      ·by_cases ej:j=i
       ·subst ej;rw [ey] at h;cases h
        exact ⟨p,hp3,by rw [QY (by lia),kl,Sm]; rfl⟩
       ·obtain ⟨p',a1,a2⟩:=hks j y' v' (by lia) h;exact ⟨p',a1,by rw [QZ (by lia)]; exact a2⟩
     ·have e0:i=nvR.length:=by lia
      subst e0;have ksne:ks ≠ []:=by
       intro z;rw [z] at kl;exact hne (Rl.mp kl.symm)
      refine .inl ⟨⟨O7,by rw [BB]; exact Qo _⟩,C,acc,ks,rfl,Em,by lia,ksne,hky,fun v kk hk hKy hmin=>?_⟩;refine ⟨RA,o,sK nvR,O7,fun ob w z=>?_,?_⟩
      ·have z':H RA=some (.frz ob w):=z;rw [aR.2.2.2] at z';cases z'
      obtain ⟨⟨d0,Fb⟩,here⟩:=kk;obtain ⟨t,t2,rfl,ht,t2',e2,Mz⟩:=hKy;cases e2
      have t45:∀ b xs,H' b=some (.tup xs)->(upd H' RA (.dK (sK nvR))) b=some (.tup xs):=fun b xs z=>by
       rw [Af (Bn z O7 (by intro z; cases z))]; exact z
      have s25:Aw H2 (upd H' RA (.dK (sK nvR))):=fun b u z=>by
       by_cases eb:b=RA
       ·subst eb;rw [N.dR] at z;cases z
        exact Ab
       ·rw [Af eb];refine s4 _ _ ?_;rw [fz.ne eb]; exact z
      have N5:=N.grow s25;have OM:=t45 _ _ ht;have O2:=t45 _ _ Mz;have inR:∀ j y p,ks[j]? = some (p,y)->R y p:=fun j y p h=>by
       have hj:j < nvR.length:=by
        have:=(Qx.mp h).1;lia
       obtain ⟨p',a1,a2⟩:=hks j nvR[j].1 nvR[j].2 hj (Qi hj);rw [h] at a2;cases a2
       obtain ⟨p'',b1,b2⟩:=N.pR.2.1 _ _ (QX hj);rw [a1.fn (b1.same Pe)];exact b2
      have hRh:R here (d0,Fb):=by
       obtain ⟨j,hj,ej⟩:=Q5 hk;exact inR j here (d0,Fb) (by rw [Qi hj,ej])
      have least:∀ z p,R z p->Cm (d0,Fb) p:=fun z p hz=>by
       obtain ⟨v,a,b⟩:=N.pR.2.2 z p hz;obtain ⟨j,hj,ej⟩:=Q5 a;obtain ⟨p',a1,a2⟩:=hks j z v hj (by rw [Qi hj,ej]);have:=a1.fn (b.same Pe);subst this;exact hmin _ (Qm a2)
      have nSh:∀ q,¬ S here q:=dis here _ hRh;have nearH:HG ws ss here (d0,Fb):=Dj.pick pos hRh nSh least;refine ⟨t,_,rfl,BY.of OM,rfl,_,_,rfl,t2,_,rfl,BY.of O2,rfl,_,_,rfl,_,_,rfl,rfl,_,_,rfl,rfl,?_⟩;generalize upd H' RA (.dK (sK nvR))=H5 at N5 OM O2 s25 ⊢;have hin:here ∈ nvR.map (·.1):=N5.inR.mpr ⟨_,hRh⟩;have hps:here ∈ ps:=N5.subR here hin;refine ⟨_,rfl,_,rfl,RA,_,Sum.inr here,rfl,N5.dR,rfl,by rw [DX,decide_eq_true hin],?_⟩;rw [Lr];have N6:=N5.setR aR (N5.pR.drop here) (fun y hy=>by
       obtain ⟨e,he,ee⟩:=Q0.mp hy;exact N5.subR y (Q0.mpr ⟨e,(QQ.mp he).1,ee⟩))
      generalize upd H5 RA (.dK (sK (nvR.filter fun q=>decide (q.1 ≠ here))))=H6 at N6 ⊢;have nhS:here ∉ nvS.map (·.1):=fun h=>by
       obtain ⟨q,hq⟩:=N6.inS.mp h;exact nSh q hq
      refine ⟨_,rfl,_,rfl,(by show 2<=sizeLine; lia),fun t3 PJ=>?_⟩;have N7:=N6.grow (Ac (o:=.tup [.int d0,.str Fb]) PJ);have O1:(upd H6 t3 (.tup [.int d0,.str Fb])) t3=some (.tup [.int d0,.str Fb]):=Ab;generalize upd H6 t3 (.tup [.int d0,.str Fb])=H7 at N7 O1 ⊢;refine ⟨_,rfl,_,rfl,SA,_,rfl,CC.k (k:=Sum.inr here) N7.dS (by rw [BB]; have:=N7.lenS; lia),?_⟩;rw [Cz nhS];have N8:=N7.setS aS (N7.pS.put (Cz nhS) (p:=(d0,Fb)) ⟨t3,rfl,O1⟩) (fun y hy=>by
       rw [Qw] at hy;rcases QA.mp hy with hy | hy
       ·exact N7.subS y hy
       ·have:y=here:=by simpa using hy
        rw [this]; exact hps)
      generalize upd H7 SA (.dK (sK (nvS ++ [(here,.ref t3)])))=H8 at N8 ⊢;obtain ⟨S',Ob⟩:∃ S':Str->Int × Str->Prop,S'=fun z q=>(z=here/\q=(d0,Fb))\/(z ≠ here/\S z q):=⟨_,rfl⟩
      obtain ⟨IS,hnvS⟩:∃ IS:List (Str × V),IS=nvS ++ [(here,.ref t3)]:=⟨_,rfl⟩
      rw [<-Ob,<-hnvS] at N8;have nSl:IS.length=nvS.length + 1:=by rw [hnvS]; simp
      have nearS:∀ y q,S' y q->HG ws ss y q:=fun y q h=>by
       rw [Ob] at h;rcases h with ⟨rfl,rfl⟩ | ⟨_,h⟩
       ·exact nearH
       ·exact Dj.near y q h
      have hSh:S' here (d0,Fb):=by rw [Ob]; exact .inl ⟨rfl,rfl⟩
      have toS:∀ y q,S y q->∃ q',S' y q':=fun y q h=>by
       by_cases e:y=here
       ·rw [e]; exact ⟨_,hSh⟩
       ·exact ⟨q,by rw [Ob]; exact .inr ⟨e,h⟩⟩
      obtain ⟨i0,d,LF,a1,a2,a3,a4,a5⟩:=N8.nr.get ok.nd hps;have dm:=Qm a2;refine ⟨_,rfl,_,rfl,B,.ref d,rfl,?_,d,sK LF,rfl,a4,fun o9 H9 fz9=>?_⟩
      ·have:=Bo.k (k:=Sum.inr here) N8.nr.top;rw [a3] at this;exact this
      have N9:=N8.frz aR.1 aS.1 hds a1 a2 fz9 a5;obtain ⟨Pv,hPv⟩:∃ Pv:Nat->St->Hp->Prop,Pv=fun i σ H'=>∃ Ej R' v8 v9,σ=[some (.ref q),some (.ref st),some (.ref B),some (.ref RA),some (.ref SA),some (.int d0),some (.str Fb),some (.str here),v8,v9]/\NI H H' ps ws B RA SA ds Ej IS S' R'/\H' d=some (.frz o9 (.dK (sK LF))) /\
        (∀ y p,R' y p->p.2 ∈ ss/\Bg ws p.2 y p.1)/\(∀ s ∈ ss,(∃ q,S' s q)\/∃ q,R' s q/\Cm q (0,s)) /\
        (∀ x q y l,S' x q->AG ws x y l->(∃ q',S' y q')\/(∃ q',R' y q'/\Cm q' (q.1 + l,q.2))\/(x=here/\∀ (j:Nat) (v:V),j < i->LF[j]? ≠ some (y,v)))/\(∀ y p,R' y p->∀ q,¬ S' y q):=⟨_,rfl⟩
      refine Jk (a:=d) (o:=o9) (kvs:=sK LF) Pv ?_ (fun i σ H' _ hP=>by rw [hPv] at hP; obtain ⟨_,_,_,_,_,_,z,_⟩:=hP; exact z) (fun i key v σ H' hx hP rt bk=>?_) (fun σ H' hP=>?_)
      ·rw [hPv];refine ⟨_,_,_,_,rfl,N9,fz9.at,fun y p h=>Dj.reach y p h.2,fun s hs=>?_,fun x qq y l hx he=>?_,fun y p h qq hq=>?_⟩
       ·rcases Dj.start s hs with ⟨qq,h⟩ | ⟨qq,h,le⟩
        ·exact .inl (toS s qq h)
        ·by_cases e:s=here
         ·rw [e]; exact .inl ⟨_,hSh⟩
         ·exact .inr ⟨qq,⟨e,h⟩,le⟩
       ·by_cases ex:x=here
        ·exact .inr (.inr ⟨ex,fun j v hj=>absurd hj (Ro _)⟩)
        ·rw [Ob] at hx;rcases hx with ⟨h,_⟩ | ⟨_,hx⟩
         ·exact absurd h ex
         ·rcases Dj.relax x qq y l hx he with ⟨q',h⟩ | ⟨q',h,le⟩
          ·exact .inl (toS y q' h)
          ·by_cases e:y=here
           ·rw [e]; exact .inl ⟨_,hSh⟩
           ·exact .inr (.inl ⟨q',⟨e,h⟩,le⟩)
       ·rw [Ob] at hq;rcases hq with ⟨h2,_⟩ | ⟨_,h2⟩
        ·exact h.1 h2
        ·exact dis y p h.2 qq h2
      ·rw [hPv] at hP;obtain ⟨Ej,R',v8,v9,rfl,Lh,hf,rch,sta,rel,LY⟩:=hP;obtain ⟨y,e1,rfl⟩:=JV hx;have hym:=Qm e1;obtain ⟨w0,hw0⟩:∃ w0,AX (sK LF) (Sum.inr y:A5)=some w0:=by
        have:(AX (sK LF) (Sum.inr y:A5)).isSome=true:=by rw [DX,decide_eq_true (Q0.mpr ⟨_,hym,rfl⟩)]
        exact R1.mp this
       obtain ⟨l,rfl,ed⟩:=Lh.nbv i0 here d LF a1 a2 (.inr ⟨o9,hf⟩) y w0 (D8 hw0);have hyp:y ∈ ps:=by
        obtain ⟨u,hu,e⟩:=ed.adj;obtain ⟨q1,q2⟩:=ok.ends u hu;rcases e with ⟨_,e⟩ | ⟨e,_⟩
        ·rw [<-e]; exact q2
        ·rw [<-e]; exact q1
       refine ⟨_,rfl,_,rfl,SA,_,rfl,Bo.k (k:=Sum.inr y) Lh.dS,_,rfl,?_⟩;rw [DX];have step:∀ {z:Str},(∀ (j:Nat) (v:V),j < i->LF[j]? ≠ some (z,v))->z ≠ y->∀ (j:Nat) (v:V),j < i + 1->LF[j]? ≠ some (z,v):=fun h2 hz j v hj e=>by
        by_cases ej:j=i
        ·subst ej;rw [e1] at e;cases e
         exact hz rfl
        ·exact h2 j v (by lia) e
       by_cases hy:y ∈ IS.map (·.1)
       ·rw [decide_eq_true hy];refine DI ?_;show Pv (i + 1) _ _
        rw [hPv];refine ⟨Ej,R',_,_,rfl,Lh,hf,rch,sta,fun x qq z l' Ht he=>?_,LY⟩;rcases rel x qq z l' Ht he with h | h | ⟨h1,h2⟩
        ·exact .inl h
        ·exact .inr (.inl h)
        ·by_cases ez:z=y
         ·rw [ez]; exact .inl (Lh.inS.mp hy)
         ·exact .inr (.inr ⟨h1,step h2 ez⟩)
       ·rw [decide_eq_false hy];refine Fg ?_;have nSy:∀ qq,¬ S' y qq:=fun qq h=>hy (Lh.inS.mpr ⟨qq,h⟩)
        have dgT:Bo H' B (.str here) (some (.ref d)):=by
         have:=Bo.k (k:=Sum.inr here) Lh.nr.top;rw [a3] at this;exact this
        refine ⟨_,rfl,_,rfl,_,rfl,B,.ref d,rfl,dgT,_,rfl,d,.int l,rfl,.inl ⟨_,Sum.inr y,.inr ⟨o9,hf⟩,rfl,hw0.symm⟩,_,_,rfl,rfl,_,rfl,(by show 2<=sizeLine; lia),fun t4 PH=>?_⟩;have s4':=Ac (o:=.tup [.int (d0 + l),.str Fb]) PH;have J6:=Lh.grow s4';have O5:=s4' _ _ hf;have O0:(upd H' t4 (.tup [.int (d0 + l),.str Fb])) t4=some (.tup [.int (d0 + l),.str Fb]):=Ab;generalize upd H' t4 (.tup [.int (d0 + l),.str Fb])=MC at J6 O5 O0 ⊢;have cand:F4 MC (.ref t4) (d0 + l,Fb):=⟨t4,rfl,O0⟩
        have candW:Fb ∈ ss/\Bg ws Fb y (d0 + l):=⟨nearH.1.1,nearH.1.2.snoc ed⟩
        have lR':=J6.lenR;have fin:∀ (x:V) (pn:Int × Str),F4 MC x pn->Cm pn (d0 + l,Fb)->(∀ old,R' y old->Cm pn old)->(pn.2 ∈ ss/\Bg ws pn.2 y pn.1) ->
          Pv (i + 1) [some (.ref q),some (.ref st),some (.ref B),some (.ref RA),some (.ref SA),some (.int d0),some (.str Fb),some (.str here),some (.str y),some (.ref t4)] (upd MC RA (.dK (Be (sK Ej) (Sum.inr y:A5) x))):=by
         intro x pn hx1 hle hold hW;obtain ⟨nv2,p1,p2,p3⟩:=Hf Ej y x;rw [p1,hPv];have N12:=J6.setR aR (J6.pR.put p1 hx1) (fun z hz=>by
          rcases (p3 z).mp hz with hz | rfl
          ·exact J6.subR z hz
          ·exact hyp)
         refine ⟨nv2,_,_,_,rfl,N12,?_,fun z p hz=>?_,fun s hs=>?_,fun x' qq z l' Ht he=>?_,fun z p hz qq hq=>?_⟩
         ·rw [Af (fun z=>aR.1 (by rw [<-z]; exact dm))]; exact O5
         ·rcases hz with ⟨rfl,rfl⟩ | ⟨_,hz⟩
          ·exact hW
          ·exact rch z p hz
         ·rcases sta s hs with h | ⟨qq,h,le⟩
          ·exact .inl h
          ·by_cases e:s=y
           ·subst e;exact .inr ⟨pn,.inl ⟨rfl,rfl⟩,(hold qq h).trans le⟩
           ·exact .inr ⟨qq,.inr ⟨e,h⟩,le⟩
         ·rcases rel x' qq z l' Ht he with h | ⟨q',h,le⟩ | ⟨h1,h2⟩
          ·exact .inl h
          ·by_cases e:z=y
           ·subst e;exact .inr (.inl ⟨pn,.inl ⟨rfl,rfl⟩,(hold q' h).trans le⟩)
           ·exact .inr (.inl ⟨q',.inr ⟨e,h⟩,le⟩)
          ·by_cases e:z=y
           ·subst e;subst h1;have e2:=uniq _ _ _ _ he ed;subst e2;have e3:=J6.pS.fn Ht hSh;subst e3;exact .inr (.inl ⟨pn,.inl ⟨rfl,rfl⟩,hle⟩)
           ·exact .inr (.inr ⟨h1,step h2 e⟩)
         ·rcases hz with ⟨rfl,rfl⟩ | ⟨_,hz⟩
          ·exact nSy qq hq
          ·exact LY z p hz qq hq
        have put:∀ {x:V},CC MC RA (.str y) x (upd MC RA (.dK (Be (sK Ej) (Sum.inr y:A5) x))):=fun {x}=>CC.k (k:=Sum.inr y) J6.dR (by rw [BB]; lia)
        obtain ⟨w1,pq,ew,hw1,hold,hWq⟩:∃ w1 pq,(AX (sK Ej) (Sum.inr y:A5)).getD (.ref t4)=w1/\F4 MC w1 pq/\(∀ old,R' y old->Cm pq old)/\(pq.2 ∈ ss/\Bg ws pq.2 y pq.1):=by
         cases hv:AX (sK Ej) (Sum.inr y:A5) with
         | none=>
          refine ⟨_,_,rfl,cand,fun old h=>?_,candW⟩;have h1:y ∈ Ej.map (·.1):=J6.inR.mpr ⟨old,h⟩;have h2:(AX (sK Ej) (Sum.inr y:A5)).isSome=true:=by rw [DX,decide_eq_true h1]
          rw [hv] at h2;cases h2
         | some w1=>
          obtain ⟨pq,h1,h2⟩:=J6.pR.2.1 y w1 (D8 hv);exact ⟨w1,pq,rfl,h1,fun old h=>by rw [J6.pR.fn h2 h]; exact Cm.refl _,rch y pq h2⟩
        refine ⟨_,rfl,_,rfl,RA,rfl,.inl ⟨_,.inl J6.dR⟩,_,rfl,_,rfl,_,Bo.k (k:=Sum.inr y) J6.dR,_,_,(d0 + l,Fb),pq,rfl,cand,(by rw [ew]; exact hw1),fun le=>⟨_,rfl,_,rfl,RA,_,rfl,put,?_⟩,fun le=>⟨_,rfl,_,rfl,RA,_,rfl,put,?_⟩⟩
        ·rw [ew];exact fin w1 pq hw1 le hold hWq
        ·exact fin (.ref t4) _ cand (Cm.refl _) (fun old h=>le.trans (hold old h)) candW
      ·rw [hPv] at hP;obtain ⟨Ej,R',v8,v9,rfl,Lh,hf,rch,sta,rel,LY⟩:=hP;show NN _ _
       rw [hNN];refine ⟨_,?_,Ej,IS,S',R',_,_,_,_,_,rfl,rfl,Lh,⟨nearS,rch,fun x qq y l hx he=>?_,sta⟩,LY⟩
       ·have:=Lh.lenS;lia
       ·rcases rel x qq y l hx he with h | h | ⟨rfl,h2⟩
        ·exact .inl h
        ·exact .inr h
        ·exfalso
         obtain ⟨⟨z,v⟩,Je,e⟩:=Q0.mp ((a5 y).mpr he.adj);have e':z=y:=e;subst e';obtain ⟨j,hj,e2⟩:=Q5 Je;exact h2 j v (by rw [BB]; exact hj) (by rw [Qi hj,e2])
end
section
variable {P:Program} {w:World} {K:Qj} {mg:Str->Option Value} {base:Heap}
structure NeF (K:Qj) (mg:Str->Option Value) (fN:Addr) (fdN:FuncData) (f:Addr) (fd:FuncData):Prop where
 N:NbF K mg fN fdN
 mi:mg "min"=none
 F:D4 K "nearest" "nearest" CN f fd
 mg:mg "nearest"=some (.ref f)
 b:C9 K fd ["web","starts"] []
theorem LB {f fN fE:Addr} {fd fdN fdE:FuncData} (EK:NeF K mg fN fdN fE fdE) (F:D4 K "fars" "fars" FG f fd):AJ P w K mg base BV 3 f fd ["web","place"] (JQ K):=by
 have GE:AJ P w K mg base BV 2 fE fdE ["web","starts"] (JN K):=Hj EK.N EK.mi EK.F;refine F.ok HS (fun vs H Q E h=>?_) (fun cdv A outer s H vs Q E hr h=>?_)
 ·obtain ⟨q,ps,ws,r,x,rfl,_⟩:=h;rfl
 ·obtain ⟨q,ps,ws,r,x,rfl,ok,pos,uniq,hx,k⟩:=h;have hu:=CJ hr;have nd:=HS.nd;have big:1000 < sizeLine:=by decide
  have l30:=ok.l30;refine ⟨_,Ad (An (i:=2) nd rfl (Or.inr rfl) (Ao GE hr (by rfl) EK.mg EK.F.kp EK.b .nil AA (Aa (pv 0) (Aa (Bs (Aa (pv 1) Ae)) Ae))))
   (Ah (AI (Gz (N:=["name","told"]) (σ0:=fun σ=>[none,some 2].map fun j=>j.bind fun j=>(σ[j]?).join) rfl
      (AV.caught (by rfl) (by decide +kernel) rfl (by decide +kernel) (by intro y hy; simp only [Qn,Q8,or_false] at hy; rcases hy with rfl <;> rfl)
       (by intro y hy e; simp only [Qn,Q8,or_false] at hy; rcases hy with rfl | rfl | rfl <;> first | exact ⟨_,rfl⟩ | cases e))
      (fun σ _=>Bu.of [none,some 2] rfl (by
       intro i j x h1 h2;match i,h1,h2 with
       | 0,_,h2=>cases h2
       | 1,h1,h2=>cases h1; cases h2; exact ⟨rfl,.inl rfl,.inl rfl⟩
       | n + 2,h1,_=>cases h1)) (Ke (Bm K0 (pv 0) Ag (fun _ _=>rfl)))
      (fun s2 H C fp=>⟨Aj (i:=0) (show (["name","told"]:List Str).Nodup by decide +kernel) rfl (Or.inl rfl),Cj,pv 0,Bm (LM K rfl) (A2 hu (pv 1) (pv 0) (fun _ _=>rfl)) Ag (fun _ _=>rfl)⟩)))),?_⟩
  refine ⟨_,rfl,_,rfl,(by show 1<=sizeLine; lia),fun st hst=>?_⟩;have s0:=Ac (o:=.lst [.str x]) hst;refine ⟨q,st,ps,[x],ws,r,rfl,ok.same s0,pos,uniq,.inl Ab,by simp,QI.mpr ⟨by simp,.nil⟩,by simpa using hx,fun H1 B nv s1 hB Oe nn nk nr=>?_⟩;have Ou:=s0.trans s1;obtain ⟨tp,tw,us,hq,htp,htw,hD⟩:=ok.web.ex;refine ⟨_,rfl,q,_,0,.ref tp,rfl,rfl,BY.of (Ou _ _ hq),CT (j:=0) rfl,tp,rfl,⟨_,BY.of (Ou _ _ htp)⟩,fun C hC=>?_⟩;refine ⟨fun i m Ap H2=>m=ps.length - i/\i<=ps.length/\(∃ v,Ap=[v,some (.ref B)])/\∃ nc:List (Str × V),H2=upd H1 C (.dK (sK nc))/\nc.map (·.1)=ps.take i/\∀ y v,(y,v) ∈ nc->∃ n,v=.int n/\F7 ws x y n,⟨_,rfl,QH _,⟨_,rfl⟩,[],rfl,rfl,fun y v hy=>absurd hy Q8⟩,?_⟩;rintro i m Ap H2 ⟨rfl,hi,⟨v,rfl⟩,nc,rfl,ncK,ncV⟩;have sC:=Ac (o:=.dK (sK nc)) hC;have Hu:=sC _ _ (Ou _ _ htp);by_cases Bc:i < ps.length
  ·refine .inr ⟨⟨_,V.str ps[i],BY.of Hu,by rw [Q7,Qi Bc]; rfl⟩,?_⟩;rintro z H6 ⟨rfl,hz⟩;have Jz:=hz _ (BY.of Hu);rw [Q7,Qi Bc] at Jz;cases Jz
   obtain ⟨⟨y,v2⟩,hm,e⟩:=Q0.mp ((nk ps[i]).mpr (QX Bc));have e':y=ps[i]:=e;subst e';obtain ⟨p,⟨t,e2,ht⟩,hnr⟩:=nr ps[i] v2 hm;subst e2;have hB2:=sC _ _ Oe;have Mz:=sC _ _ ht;have nn':ps[i] ∉ nc.map (·.1):=by
    rw [ncK];intro Je;obtain ⟨j,hj,e⟩:=Q5 Je;rw [QW] at hj;rw [R4] at e;have:=E9 ok.nd (Qi (show j < ps.length by lia)) (by rw [Qi Bc,e]);lia
   have ncl:nc.length=i:=by
    have:=congrArg RT ncK;rw [Qk,QW] at this;lia
   refine ⟨_,rfl,_,rfl,_,rfl,B,.ref t,rfl,.inl ⟨_,Sum.inr ps[i],.inl hB2,rfl,(Ci nn hm).symm⟩,t,_,0,.int p.1,rfl,rfl,BY.of Mz,CT (j:=0) rfl,_,Sum.inr ps[i],rfl,Ab,by rw [BB]; lia,_,by lia,rfl,Bc,⟨_,rfl⟩,nc ++ [(ps[i],.int p.1)],by rw [BF,Cz nn'],?_,fun y v hy=>?_⟩
   ·rw [Qw,ncK,QJ,Qi Bc]; rfl
   ·rcases QA.mp hy with hy | hy
    ·exact ncV y v hy
    ·simp only [Qs,Prod.mk.injEq] at hy;obtain ⟨rfl,rfl⟩:=hy;exact ⟨p.1,rfl,hnr.dst.2⟩
  ·have e0:i=ps.length:=by lia
   subst e0;rw [QT] at ncK;exact .inl ⟨⟨_,BY.of Hu,by rw [Qk]; exact Qo _⟩,k _ C nc (Ou.trans sC) (Ou.free hC) Ab ncK ncV⟩
end
section
variable {P:Program} {w:World} {K:Qj} {mg:Str->Option Value} {base:Heap}
theorem L9 {f:Addr} {fd:FuncData} (F:D4 K "_law_much" "_law_much" Cw f fd):AJ P w K mg base BV 1 f fd ["_law_names_here","_law_ways_here"] (JO K):=by
 refine F.ok DV (fun vs H Q E h=>?_) (fun cdv A outer s H vs Q E hr h=>?_)
 ·obtain ⟨D,e,xs,us,ws,rfl,_⟩:=h;rfl
 ·obtain ⟨D,e,xs,us,ws,rfl,hD,Pd,hE,hW,Mm,⟨wof,sep,jn⟩,k⟩:=h;have hu:=CJ hr;have nd:=DV.nd;have big:16000000 < sizeLine:=by decide
  have two:2<=sizeLine:=by decide
  have pos:∀ u ∈ ws,1<=u.2.2:=fun u hu=>(wof u hu).2.2.2
  have ends:∀ u ∈ ws,u.1 ∈ xs/\u.2.1 ∈ xs:=fun u hu=>⟨(wof u hu).1,(wof u hu).2.1⟩
  have hwl:us.length=ws.length:=by rw [AQ hW,Qk]
  refine ⟨_,Ad (An (i:=2) nd rfl (Or.inl rfl) Kg)
   (Ad (Br PassesOwn.never rfl (BR (pv 0)) (Aj (i:=3) nd rfl (Or.inl rfl)) (Ah (Bv hu (pv 2) (A9 (Aa (pv 3) (Aa (pv 3) Ae))) Ag rfl)))
   (Ad (Br PassesOwn.never rfl (BR (pv 1)) (Kf rfl (Au (Aj (i:=4) nd rfl (Or.inl rfl)) (Au (Aj (i:=5) nd rfl (Or.inl rfl)) (Au (Aj (i:=6) nd rfl (Or.inl rfl)) BS))))
    (Ad (Bv hu (pv 2) (A9 (Aa (pv 4) (Aa (pv 5) Ae))) (pv 6) rfl) (Ah (Bv hu (pv 2) (A9 (Aa (pv 5) (Aa (pv 4) Ae))) (pv 6) rfl))))
   (Ad (Br PassesOwn.never rfl (BR (pv 0)) (Aj (i:=7) nd rfl (Or.inl rfl))
    (Ah (Br PassesOwn.never rfl (BR (pv 0)) (Aj (i:=4) nd rfl (Or.inl rfl))
     (Ah (Br PassesOwn.never rfl (BR (pv 0)) (Aj (i:=5) nd rfl (Or.inl rfl))
      (Ah (B8 (FL (FP (Kj hu (A9 (Aa (pv 4) (Aa (pv 7) Ae))) (pv 2))) (Er (FP (Kj hu (A9 (Aa (pv 7) (Aa (pv 5) Ae))) (pv 2))))).pt
       (Ad (An (i:=8) nd rfl (Or.inl rfl) (Aq Ba (A2 hu (pv 2) (A9 (Aa (pv 4) (Aa (pv 7) Ae))) (fun _ _=>rfl)) (A2 hu (pv 2) (A9 (Aa (pv 7) (Aa (pv 5) Ae))) (fun _ _=>rfl))))
       (Ah (B8 (Mq (FP (Fq hu (A9 (Aa (pv 4) (Aa (pv 5) Ae))) (pv 2))) (JZ (A1 HZ (pv 8) (A2 hu (pv 2) (A9 (Aa (pv 4) (Aa (pv 5) Ae))) (fun _ _=>rfl)) (AL _)))).pt
        (Ah (Bv hu (pv 2) (A9 (Aa (pv 4) (Aa (pv 5) Ae))) (pv 8) rfl)) AO))) AO))))))) 
   (Ah (AI (pv 2)))))),?_⟩
  intro A hA;have M0:MD (upd H A (.dT [])) A (fun _ _=>none) 0:=⟨[],Ab,Qo _,fun x y=>rfl⟩
  have nAD:∀ {b:Addr} {u:HO},H b=some u->b ≠ A:=fun z=>Ai z hA
  refine ⟨_,rfl,D,rfl,⟨_,A6.of (Ac hA _ _ hD)⟩,B6 (xs:=xs.map V.str) (fun i σ H2=>(∃ v3 v4 v5 v6 v7 v8,σ=[some (.ref D),some (.ref e),some (.ref A),v3,v4,v5,v6,v7,v8])/\Aw H H2/\∃ M,MD H2 A M i/\(∀ x y n,M x y=some n->x=y/\n=0)/\∀ (j:Nat) x,j < i->xs[j]? = some x->M x x=some 0)
   ⟨⟨_,_,_,_,_,_,rfl⟩,Ac hA,_,M0,fun x y n h=>(by cases h),fun j x hj=>absurd hj (Ro _)⟩ (fun i σ H2 _ hP=>A6.of (hP.2.1 _ _ hD)) (fun i v σ H2 hv hP=>?_) (fun σ H2 hP=>?_)⟩
  ·obtain ⟨⟨v3,v4,v5,v6,v7,v8,rfl⟩,s2,M,hM,m1,m2⟩:=hP;obtain ⟨x,ex,rfl⟩:∃ x,xs[i]? = some x/\v=.str x:=by
    rw [Q7] at hv;cases ex:xs[i]? with
    | none=>rw [ex] at hv; cases hv
    | some x=>rw [ex] at hv; exact ⟨x,rfl,(QB.inj hv).symm⟩
   have hi:i < xs.length:=(Qx.mp ex).1;refine ⟨_,rfl,_,rfl,_,rfl,two,fun t ht=>?_⟩;obtain ⟨H3,dp,hM3,kvs,e3⟩:=(hM.same (Ac (o:=.tup [.str x,.str x]) ht)).put (by lia) (n:=0) (t:=t) (x:=x) (y:=x) Ab;refine ⟨A,H3,rfl,dp,⟨_,_,_,_,_,_,rfl⟩,fun b u z=>?_,_,hM3,fun a b n h=>?_,fun j y hj ey=>?_⟩
   ·rw [e3,Af (nAD z)];exact Ac ht _ _ (s2 _ _ z)
   ·unfold Ez at h;split at h
    ·rename_i hc
     cases h
     exact ⟨hc.1.trans hc.2.symm,rfl⟩
    ·exact m1 a b n h
   ·unfold Ez;by_cases OZ:y=x
    ·rw [if_pos ⟨OZ,OZ⟩]
    ·rw [if_neg (fun z=>OZ z.1)];refine m2 j y ?_ ey;have:j ≠ i:=by
      rintro rfl;rw [ex] at ey;exact OZ (QB.inj ey).symm
     lia
  obtain ⟨⟨v3,v4,v5,v6,v7,v8,rfl⟩,s2,M,hM,m1,m2⟩:=hP;rw [Qk] at hM m2;have OC:∀ x ∈ xs,M x x=some 0:=fun x hx=>by
   obtain ⟨j,hj,ej⟩:=Q5 hx;exact m2 j x hj (by rw [Qi hj,ej])
  refine ⟨_,rfl,e,rfl,⟨_,A6.of (s2 _ _ hE)⟩,B6 (xs:=us) (fun i σ H3=>(∃ v3 v4 v5 v6 v7 v8,σ=[some (.ref D),some (.ref e),some (.ref A),v3,v4,v5,v6,v7,v8])/\Aw H H3/\∃ M,MD H3 A M (30 + 2 * i)/\(∀ x y n,M x y=some n->(x=y/\n=0)\/AG ws x y n)/\(∀ x ∈ xs,M x x=some 0)/\∀ x y n,AG (ws.take i) x y n->M x y=some n)
   ⟨⟨_,_,_,_,_,_,rfl⟩,s2,M,(let ⟨kvs,a,b,c⟩:=hM; ⟨kvs,a,by lia,c⟩),fun x y n h=>.inl (m1 x y n h),OC,fun x y n h=>(by obtain ⟨u,hu,_⟩:=h; exact absurd hu Q8)⟩ (fun i σ H3 _ hP=>A6.of (hP.2.1 _ _ hE)) (fun i v σ H3 hv hP=>?_) (fun σ H3 hP=>?_)⟩
  ·obtain ⟨⟨v3,v4,v5,v6,v7,v8,rfl⟩,s3,M,hM,n1,n2,n3⟩:=hP;obtain ⟨u,tt,gu,rfl,htt⟩:=Cd hW hv;have um:=Qm gu;have une:u.1 ≠ u.2.1:=(wof u um).2.2.1;have hi:i < ws.length:=(Qx.mp gu).1;refine ⟨tt,_,rfl,BY.of (s3 _ _ htt),rfl,_,_,rfl,_,_,rfl,_,_,rfl,rfl,?_⟩;refine ⟨_,rfl,_,rfl,_,rfl,_,rfl,two,fun t ht=>?_⟩;obtain ⟨H4,dp,hM4,kvs,e4⟩:=(hM.same (Ac (o:=.tup [.str u.1,.str u.2.1]) ht)).put (by lia) (n:=u.2.2) (t:=t) (x:=u.1) (y:=u.2.1) Ab;have s4:Aw H H4:=fun b o z=>by
    rw [e4,Af (nAD z)];exact Ac ht _ _ (s3 _ _ z)
   refine ⟨A,H4,rfl,dp,?_⟩;refine ⟨_,rfl,_,rfl,_,rfl,_,rfl,two,fun t2 Mz=>?_⟩;obtain ⟨H5,dp2,hM5,kvs2,e5⟩:=(hM4.same (Ac (o:=.tup [.str u.2.1,.str u.1]) Mz)).put (by lia) (n:=u.2.2) (t:=t2) (x:=u.2.1) (y:=u.1) Ab;refine ⟨A,H5,rfl,dp2,⟨_,_,_,_,_,_,rfl⟩,fun b o z=>?_,_,(let ⟨kvs,a,b,c⟩:=hM5; ⟨kvs,a,by lia,c⟩),fun a b n h=>?_,fun x hx=>?_,fun a b n h=>?_⟩
   ·rw [e5,Af (nAD z)];exact Ac Mz _ _ (s4 _ _ z)
   ·unfold Ez at h;split at h
    ·rename_i hc
     cases h
     exact .inr ⟨u,um,.inr ⟨hc.2.symm,hc.1.symm⟩,rfl⟩
    ·split at h
     ·rename_i hc
      cases h
      exact .inr ⟨u,um,.inl ⟨hc.1.symm,hc.2.symm⟩,rfl⟩
     ·exact n1 a b n h
   ·unfold Ez;rw [if_neg (fun z=>une (z.2.symm.trans z.1)),if_neg (fun z=>une (z.1.symm.trans z.2))];exact n2 x hx
   ·have hE':AG ws a b n:=by
     obtain ⟨v,hv,r⟩:=h;exact ⟨v,List.mem_of_mem_take hv,r⟩
    unfold Ez;split
    ·rename_i hc
     have:=DJ sep hE' ⟨u,um,.inr ⟨hc.2.symm,hc.1.symm⟩,rfl⟩;rw [this]
    ·rename_i Nu
     split
     ·rename_i hc
      have:=DJ sep hE' ⟨u,um,.inl ⟨hc.1.symm,hc.2.symm⟩,rfl⟩;rw [this]
     ·rename_i Nt
      refine n3 a b n ?_;obtain ⟨v,hv,ev,el⟩:=h;rw [QJ,gu] at hv;rcases QA.mp hv with hv | hv
      ·exact ⟨v,hv,ev,el⟩
      ·have:v=u:=by simpa using hv
       subst this;rcases ev with ⟨x1,x2⟩ | ⟨x1,x2⟩
       ·exact absurd ⟨x1.symm,x2.symm⟩ Nt
       ·exact absurd ⟨x2.symm,x1.symm⟩ Nu
  obtain ⟨⟨v3,v4,v5,v6,v7,v8,rfl⟩,s3,M,hM,n1,n2,n3⟩:=hP;rw [hwl,QT] at n3;have FW0:FW ws xs 0 M:=by
   refine ⟨fun x y n h=>?_,fun x y m g=>?_,fun x hx=>⟨0,n2 x hx,Ry _⟩⟩
   ·rcases n1 x y n h with ⟨rfl,rfl⟩ | h
    ·exact .nil x
    ·have:=Bg.cons h (.nil y);rwa [Sj] at this
   ·cases g with
    | edge e=>exact ⟨m,n3 x y m e,Ry _⟩
    | cons _ h _=>exact absurd h Q8
  refine ⟨_,rfl,D,rfl,⟨_,A6.of (s3 _ _ hD)⟩,B6 (xs:=xs.map V.str) (fun t σ H4=>(∃ v3 v4 v5 v6 v7 v8,σ=[some (.ref D),some (.ref e),some (.ref A),v3,v4,v5,v6,v7,v8])/\Aw H H4/\∃ M,MD H4 A M (200 + t * 1000)/\FW ws xs t M)
   ⟨⟨_,_,_,_,_,_,rfl⟩,s3,M,(let ⟨kvs,a,b,c⟩:=hM; ⟨kvs,a,by lia,c⟩),FW0⟩ (fun i σ H4 _ hP=>A6.of (hP.2.1 _ _ hD)) (fun t v σ H4 hv hP=>?_) (fun σ H4 hP=>?_)⟩
  ·obtain ⟨⟨v3,v4,v5,v6,v7,v8,rfl⟩,s4,M0,hM0,fw⟩:=hP;have strAt:∀ {i:Nat} {v:V},(xs.map V.str)[i]? = some v->∃ x,xs[i]? = some x/\v=.str x/\i < xs.length:=fun {i v} h=>by
    rw [Q7] at h;cases ex:xs[i]? with
    | none=>rw [ex] at h; cases h
    | some x=>rw [ex] at h; exact ⟨x,rfl,(QB.inj h).symm,(Qx.mp ex).1⟩
   obtain ⟨mid,emid,rfl,tlt⟩:=strAt hv;refine ⟨_,rfl,D,rfl,⟨_,A6.of (s4 _ _ hD)⟩,B6 (xs:=xs.map V.str) (fun i σ H5=>(∃ v3 v4 v5 v6 v8,σ=[some (.ref D),some (.ref e),some (.ref A),v3,v4,v5,v6,some (.str mid),v8])/\Aw H H5/\∃ M,MD H5 A M (200 + t * 1000 + i * 30)/\D3 M0 M/\(∀ x y n,M x y=some n->Bg ws x y n)/\∀ (a:Nat) x,a < i->xs[a]? = some x->∀ y ∈ xs,∀ p1 p2,M0 x mid=some p1->M0 mid y=some p2->∃ n,M x y=some n/\n<=p1 + p2)
    ⟨⟨_,_,_,_,_,rfl⟩,s4,M0,(by simpa using hM0),D3.refl _,fw.sound,fun a x ha=>absurd ha (Ro _)⟩ (fun i σ H5 _ hP=>A6.of (hP.2.1 _ _ hD)) (fun i v σ H5 hv hP=>?_) (fun σ H5 hP=>?_)⟩
   ·obtain ⟨⟨v3,v4,v5,v6,v8,rfl⟩,s5,M1,Nw,OK,Pg,Lj⟩:=hP;obtain ⟨one,eone,rfl,ilt⟩:=strAt hv;refine ⟨_,rfl,D,rfl,⟨_,A6.of (s5 _ _ hD)⟩,B6 (xs:=xs.map V.str) (fun j σ H6=>(∃ v3 v5 v6 v8,σ=[some (.ref D),some (.ref e),some (.ref A),v3,some (.str one),v5,v6,some (.str mid),v8])/\Aw H H6/\∃ M,MD H6 A M (200 + t * 1000 + i * 30 + j)/\D3 M1 M/\(∀ x y n,M x y=some n->Bg ws x y n)/\∀ (b:Nat) y,b < j->xs[b]? = some y->∀ p1 p2,M0 one mid=some p1->M0 mid y=some p2->∃ n,M one y=some n/\n<=p1 + p2)
     ⟨⟨_,_,_,_,rfl⟩,s5,M1,(by simpa using Nw),D3.refl _,Pg,fun b y hb=>absurd hb (Ro _)⟩ (fun i σ H6 _ hP=>A6.of (hP.2.1 _ _ hD)) (fun j v σ H6 hv hP=>?_) (fun σ H6 hP=>?_)⟩
    ·obtain ⟨⟨v3,v5,v6,v8,rfl⟩,s6,M2,KC,NV,NT,J9⟩:=hP;obtain ⟨oth,eoth,rfl,jlt⟩:=strAt hv;have cb:200 + t * 1000 + i * 30 + j < 16000000:=by
      have:t * 1000<=30 * 1000:=Sv _ (by lia);have:i * 30<=30 * 30:=Sv _ (by lia);lia
     have moAll:=OK.trans NV;have keepM:∀ {H7:Hp} {OF:Option V},Aw H6 H7->(∀ p1 p2,M0 one mid=some p1->M0 mid oth=some p2->∃ n,M2 one oth=some n/\n<=p1 + p2) ->
       (∃ w3 w5 w6 w8,([some (.ref D),some (.ref e),some (.ref A),v3,some (.str one),some (.str oth),v6,some (.str mid),OF]:St)=[some (.ref D),some (.ref e),some (.ref A),w3,some (.str one),w5,w6,some (.str mid),w8])/\Aw H H7/\∃ M,MD H7 A M (200 + t * 1000 + i * 30 + (j + 1))/\D3 M1 M/\(∀ x y n,M x y=some n->Bg ws x y n)/\∀ (b:Nat) y,b < j + 1->xs[b]? = some y->∀ p1 p2,M0 one mid=some p1->M0 mid y=some p2->∃ n,M one y=some n/\n<=p1 + p2:=by
      intro H7 OF s7 Pz;refine ⟨⟨_,_,_,_,rfl⟩,s6.trans s7,M2,(let ⟨kvs,a,b,c⟩:=KC.same s7; ⟨kvs,a,by lia,c⟩),NV,NT,fun b y hb ey p1 p2 q1 q2=>?_⟩;by_cases eb:b=j
      ·subst eb;rw [eoth] at ey;cases ey
       exact Pz p1 p2 q1 q2
      ·exact J9 b y (by lia) ey p1 p2 q1 q2
     refine ⟨_,rfl,_,rfl,two,fun t1 ht1=>?_⟩;have z1:=Ac (o:=.tup [.str one,.str mid]) ht1;refine ⟨_,rfl,A,_,rfl,(KC.same z1).get Ab,_,rfl,?_⟩;cases eo:M2 one mid with
     | none=>
      refine DI ?_;refine DI ?_;refine keepM z1 fun p1 p2 q1 _=>?_
      obtain ⟨n',e',_⟩:=moAll one mid p1 q1;rw [eo] at e';cases e'
     | some a1=>
      refine Fg ?_;refine ⟨_,rfl,_,rfl,two,fun t2 Mz=>?_⟩;have z2:=z1.trans (Ac (o:=.tup [.str mid,.str oth]) Mz);refine ⟨_,rfl,A,_,rfl,(KC.same z2).get Ab,_,rfl,?_⟩;cases em:M2 mid oth with
      | none=>
       refine DI ?_;refine keepM z2 fun p1 p2 _ q2=>?_
       obtain ⟨n',e',_⟩:=moAll mid oth p2 q2;rw [em] at e';cases e'
      | some a2=>
       refine Fg ?_;refine ⟨_,rfl,_,rfl,_,rfl,two,fun t3 PJ=>?_⟩;have z3:=z2.trans (Ac (o:=.tup [.str one,.str mid]) PJ);have g3:=(KC.same z3).get (x:=one) (y:=mid) (t:=t3) Ab;rw [eo] at g3;refine ⟨A,.int a1,rfl,g3,_,rfl,_,rfl,_,rfl,two,fun t4 PH=>?_⟩;have z4:=z3.trans (Ac (o:=.tup [.str mid,.str oth]) PH);have g4:=(KC.same z4).get (x:=mid) (y:=oth) (t:=t4) Ab;rw [em] at g4;refine ⟨A,.int a2,rfl,g4,_,_,rfl,rfl,?_⟩;refine ⟨_,rfl,_,rfl,two,fun t5 OM=>?_⟩;have z5:=z4.trans (Ac (o:=.tup [.str one,.str oth]) OM);refine ⟨_,rfl,A,_,rfl,(KC.same z5).get Ab,_,rfl,?_⟩;have low:∀ p1 p2,M0 one mid=some p1->M0 mid oth=some p2->a1 + a2<=p1 + p2:=fun p1 p2 q1 q2=>by
        obtain ⟨n1',NA,l1'⟩:=moAll one mid p1 q1;obtain ⟨n2',Pc,l2'⟩:=moAll mid oth p2 q2;rw [eo] at NA;rw [em] at Pc;cases NA
        cases Pc
        lia
       have putM:∀ {H7:Hp},Aw H6 H7->(∀ n,M2 one oth=some n->a1 + a2<=n)->∀ t6,H7 t6=none->∃ a H8,V.ref A=.ref a/\CC (upd H7 t6 (.tup [.str one,.str oth])) a (.ref t6) (.int (a1 + a2)) H8 /\
         ((∃ w3 w5 w6 w8,([some (.ref D),some (.ref e),some (.ref A),v3,some (.str one),some (.str oth),v6,some (.str mid),some (.int (a1 + a2))]:St)=[some (.ref D),some (.ref e),some (.ref A),w3,some (.str one),w5,w6,some (.str mid),w8])/\Aw H H8/\∃ M,MD H8 A M (200 + t * 1000 + i * 30 + (j + 1))/\D3 M1 M/\(∀ x y n,M x y=some n->Bg ws x y n)/\∀ (b:Nat) y,b < j + 1->xs[b]? = some y->∀ p1 p2,M0 one mid=some p1->M0 mid y=some p2->∃ n,M one y=some n/\n<=p1 + p2):=by
        intro H7 s7 hle t6 Oz;have z6:=s7.trans (Ac (o:=.tup [.str one,.str oth]) Oz);obtain ⟨H8,dp,hM8,kvs,e8⟩:=(KC.same z6).put (by lia) (n:=a1 + a2) (t:=t6) (x:=one) (y:=oth) Ab;have mo8:D3 M2 (Ez M2 one oth (a1 + a2)):=fun x y n h=>by
         unfold Ez;split
         ·rename_i hc
          obtain ⟨rfl,rfl⟩:=hc;exact ⟨_,rfl,hle n h⟩
         ·exact ⟨n,h,Ry _⟩
        refine ⟨A,H8,rfl,dp,⟨_,_,_,_,rfl⟩,fun b o z=>?_,_,hM8,NV.trans mo8,fun x y n h=>?_,fun b y hb ey p1 p2 q1 q2=>?_⟩
        ·rw [e8,Af (nAD z)];exact z6 _ _ (s6 _ _ z)
        ·unfold Ez at h;split at h
         ·rename_i hc
          obtain ⟨rfl,rfl⟩:=hc;cases h
          exact (NT _ _ _ eo).app (NT _ _ _ em)
         ·exact NT x y n h
        ·by_cases eb:b=j
         ·subst eb;rw [eoth] at ey;cases ey
          refine ⟨a1 + a2,?_,low p1 p2 q1 q2⟩;unfold Ez;rw [if_pos ⟨rfl,rfl⟩]
         ·obtain ⟨n,en,ln⟩:=J9 b y (by lia) ey p1 p2 q1 q2;obtain ⟨n',Qb,ln'⟩:=mo8 one y n en;exact ⟨n',Qb,by lia⟩
       cases ez:M2 one oth with
       | none=>
        refine Fg ?_;refine Fg ?_;refine ⟨_,rfl,_,rfl,_,rfl,_,rfl,two,fun t6 Oz=>?_⟩;exact putM z5 (fun n h=>by rw [ez] at h; cases h) t6 Oz
       | some a3=>
        refine DI ?_;refine ⟨_,rfl,_,rfl,_,rfl,_,rfl,two,fun t6 Oz=>?_⟩;have z6:=z5.trans (Ac (o:=.tup [.str one,.str oth]) Oz);have g6:=(KC.same z6).get (x:=one) (y:=oth) (t:=t6) Ab;rw [ez] at g6;refine ⟨A,.int a3,rfl,g6,_,_,rfl,rfl,_,rfl,?_⟩;refine C4 (fun Bc=>?_) (fun Bc=>?_)
        ·rw [decide_eq_true_eq] at Bc;refine ⟨_,rfl,_,rfl,_,rfl,_,rfl,two,fun t7 ht7=>?_⟩;exact putM z6 (fun n h=>by rw [ez] at h; cases h; lia) t7 ht7
        ·rw [decide_eq_true_eq] at Bc;refine keepM z6 fun p1 p2 q1 q2=>⟨a3,ez,?_⟩
         have:=low p1 p2 q1 q2;lia
    ·obtain ⟨⟨v3,v5,v6,v8,rfl⟩,s6,M2,KC,NV,NT,J9⟩:=hP;rw [Qk] at KC J9;refine ⟨⟨_,_,_,_,_,rfl⟩,s6,M2,(let ⟨kvs,a,b,c⟩:=KC; ⟨kvs,a,by lia,c⟩),OK.trans NV,NT,fun a x ha ex y hy p1 p2 q1 q2=>?_⟩;by_cases ea:a=i
     ·subst ea;rw [eone] at ex;cases ex
      obtain ⟨b,hb,eb⟩:=Q5 hy;exact J9 b y hb (by rw [Qi hb,eb]) p1 p2 q1 q2
     ·obtain ⟨n,en,ln⟩:=Lj a x (by lia) ex y hy p1 p2 q1 q2;obtain ⟨n',Qb,ln'⟩:=NV x y n en;exact ⟨n',Qb,by lia⟩
   ·obtain ⟨⟨v3,v4,v5,v6,v8,rfl⟩,s5,M1,Nw,OK,Pg,Lj⟩:=hP;rw [Qk] at Nw Lj;refine ⟨⟨_,_,_,_,_,_,rfl⟩,s5,M1,(let ⟨kvs,a,b,c⟩:=Nw; ⟨kvs,a,by lia,c⟩),fw.next pos ends emid OK Pg fun x hx y hy p1 p2 q1 q2=>?_⟩;obtain ⟨a,ha,ea⟩:=Q5 hx;exact Lj a x ha (by rw [Qi ha,ea]) y hy p1 p2 q1 q2
  ·obtain ⟨⟨v3,v4,v5,v6,v7,v8,rfl⟩,s4,M1,Nw,fw⟩:=hP;rw [Qk] at Nw fw;exact ⟨_,rfl,k H4 A M1 _ s4 hA Nw (fw.done ends jn)⟩
end
theorem all_mk {l:RO} {w:World} {K:Qj} {h:Heap} {mg:Str->Option Value} {fa f1 f2 f3 f4 f5 f6 f7 f8 f9 f10 f11 f12 f13 f14 f15 f16:Addr} {d1 d2 d3 d4 d5 d6 d7 d8 d9 d10 d11 d12 d13 d14 d15 d16:FuncData} (X:K.In h) (G:h.Ns mainGlobals mg) (hfa:mg "law"=some (.ref fa))
  (a1:At K "neighbours" B4 f1 d1) (a2:At K "fars" FG f2 d2) (a3:At K "nearest" CN f3 d3) (a4:At K "path" FF f4 d4) (a5:At K "next_place" BO f5 d5) (a6:At K "_law_pen" CO f6 d6) (a7:At K "_law_take" Cu f7 d7) (a8:At K "_law_names" B0 f8 d8) (a9:At K "_law_length" BP f9 d9) (a10:At K "_law_ways" AS f10 d10) (a11:At K "_law_laid" Cy f11 d11) (a12:At K "_law_much" Cw f12 d12) (a13:At K "_law_near" Cv f13 d13) (a14:At K "_law_first" Bl f14 d14) (a15:At K "_law_chart" Cg f15 d15) (a16:At K "law" JU f16 d16)
  (z1:Rb K mainGlobals "isinstance"=some none) (z2:Rb K mainGlobals "list"=some none) (z3:Rb K mainGlobals "range"=some none) (z4:Rb K mainGlobals "len"=some none) (z5:Rb K mainGlobals "abs"=some none) (z6:Rb K mainGlobals "int"=some none) (z7:Rb K mainGlobals "sorted"=some none) (z8:Rb K mainGlobals "tuple"=some none) (z9:Rb K mainGlobals "min"=some none) (z10:Rb K mainGlobals "max"=some none)  :
  ∃ fd:FuncData,(∀ (s:Shared) (v:Value),BindsTo s fd ⟨[v],[]⟩ [("_law_script",v)])/\∀ base:Heap,K.In base->base.Ns mainGlobals mg->AJ l.prog w K mg base BV 5 fa fd ["_law_script"] (HP K):=by
 cases hfa.symm.trans (R0 X G a16.1)
 have y1:=QP X G z1;have y2:=QP X G z2;have y3:=QP X G z3;have y4:=QP X G z4;have y5:=QP X G z5;have y6:=QP X G z6;have y7:=QP X G z7;have y8:=QP X G z8;have y9:=QP X G z9;have y10:=QP X G z10;have n1:=fa1 X G a1 (p:="web") fun _ _ _ _ _ _ _=>rfl
 have n2:=M5 X G a2 (p:="web") (q:="place") fun _ _ _ _ _ _ _ _=>rfl
 have n3:=M5 X G a3 (p:="web") (q:="starts") fun _ _ _ _ _ _ _ _=>rfl
 have n4:=fa3 X G a4 (p:="web") (q:="one") (r:="other") fun _ _ _ _ _ _ _ _ _=>rfl
 have n5:=fa3 X G a5 (p:="beside") (q:="left") (r:="here") fun _ _ _ _ _ _ _ _ _=>rfl
 have n6:=fa1 X G a6 (p:="_law_script") fun _ _ _ _ _ _ _=>rfl
 have n7:=M5 X G a7 (p:="_law_pen_here") (q:="_law_many") fun _ _ _ _ _ _ _ _=>rfl
 have n8:=M5 X G a8 (p:="_law_pen_here") (q:="_law_many") fun _ _ _ _ _ _ _ _=>rfl
 have n9:=fa1 X G a9 (p:="_law_pen_here") fun _ _ _ _ _ _ _=>rfl
 have Px:=M5 X G a10 (p:="_law_pen_here") (q:="_law_names_here") fun _ _ _ _ _ _ _ _=>rfl
 have n11:=M5 X G a11 (p:="_law_names_here") (q:="_law_ways_here") fun _ _ _ _ _ _ _ _=>rfl
 have n12:=M5 X G a12 (p:="_law_names_here") (q:="_law_ways_here") fun _ _ _ _ _ _ _ _=>rfl
 have n13:=M5 X G a13 (p:="_law_names_here") (q:="_law_ways_here") fun _ _ _ _ _ _ _ _=>rfl
 have n14:=fa4 X G a14 (p:="_law_near_here") (q:="_law_much_here") (r:="_law_one") (t:="_law_other") fun _ _ _ _ _ _ _ _ _ _=>rfl
 have n15:=fa1 X G a15 (p:="_law_pen_here") fun _ _ _ _ _ _ _=>rfl
 obtain ⟨oc,od,kV,doc,pm,an,cdv,ct,osl,e,lk,hcd⟩:=a16.2.ex;exact ⟨d16,fun s v=>by subst e; exact .of_eq rfl,fun base _ _=>Na y1 y2 y3 n6 (MZ a6.2) n15 (Ko ⟨⟨y4,y5⟩,n7.F,n7.mg,n7.b⟩ ⟨n9.F,n9.mg,n9.b⟩ y3 y2 y6 n8.F n8.mg n8.b Px.F Px.mg Px.b a15.2) n11 (LA y7 y8 y9 y10 a11.2) n13 (G2 a13.2) n12 (L9 a12.2) n14 (FV y9 a14.2) n4 (L8 n1 (CH a1.2) n2 (LB ⟨⟨n1.F,n1.mg,n1.b⟩,y9,n3.F,n3.mg,n3.b⟩ a2.2) n5 (Fe y9 a5.2) a4.2) a16.2⟩
theorem MK {K:Qj} {H:Hp} {a:Addr} {xs:List V} (o:Mf H) (h:A6 K H a xs):Jx K H a xs:=by
 rcases h with (h | ⟨ob,h⟩) | h
 ·rcases o a with z | ⟨ob,ys,z⟩ <;> (rw [h] at z; cases z)
 ·exact .inl ⟨ob,h⟩
 ·exact .inr h
theorem walk {l:RO} {q:Program} {loose:List Str} {XP:(Str->Option Value)->Heap->Prop} {YP:World->Heap->Prop} {d:DefRec} {K:Params->Qj} (hn:l.most=some 63) (hdf:d.params.defaults=[])
  (hY:∀ (w:World) (h:Heap),YP w h->(K w.params).In h)
  (F:∀ (w:World) (mg:Str->Option Value) (fa:Addr) (h:Heap),(K w.params).In h->h.Ns mainGlobals mg->mg d.name=some (.ref fa) ->
   ∃ fd:FuncData,(∀ (s:Shared) (u:Value),BindsTo s fd ⟨[u],[]⟩ [("_law_script",u)])/\∀ base:Heap,(K w.params).In base->base.Ns mainGlobals mg->AJ l.prog w (K w.params) mg base BV 5 fa fd ["_law_script"] (HP (K w.params))) :
  S8 q loose XP YP l.row.toRowW d [] (fun f vs=>PySem.call f vs):=
 L2.walk_of (n:=63) (k:=5) (x:="_law_script") (CX:=fun _=>BV) (sp:=fun w=>HP (K w.params)) hn (by decide) hdf ⟨rfl,by decide,by decide,rfl⟩ hY F (fun _ _ a ns hl ho hS=>⟨a,ns,rfl,MK ho hS,hl,fun _=>rfl⟩) fun _ _ _ _ _ z=>z
end K05
structure PySem.W.Fast:Prop where
  (tw6867572489734810810 tw4954233919389744287 tw8224752800135041489 tw7679377201810189219 tw15460127943506596380 tw13881599956508581525 tw12671837363908802853 tw12069864818691183575 tw12638437165602323558 tw9751560661916864514 tw14199050516326891046 tw13031944239770421615 tw14523025683295299899 tw16877489696557305007 tw9585117123523012727 tw2346548205656176512 tw7908698637013322713 tw4994855826781008630 tw14080170668304784750 tw1717921449453637878 tw5886641253708852030 tw13791265049391388329 tw2687352197568149451 tw4521020497021331157 tw11954356782278262919 tw4522368550493467544 tw5640477486655609994 tw7827594261333404942 tw18381257548299073314 tw2037785797231253933 tw12060090460374689325 tw10587475323837551246 tw7459369799147854822 tw12922387422073164265 tw14805134731432496420 tw11961000165295088756 tw13254480085802627385 tw94043445330543069 tw8505851464878341690 tw16204117668887321719 tw16256980128565702569 tw2303724949063746850 tw15955489347006743249 tw6243379605639102882 tw8438255394154210585 tw1120764397834092487 tw14638259797222808759 tw3185663220194192140 tw2517344081748355687 tw4164645461852902610 tw440989627072925040 tw11799368396743604125:True)
open PySem PySem.W PyProof.Rows
set_option maxRecDepth 100000 in
set_option maxHeartbeats 0 in
theorem PySem.Challenge.cw_openhouses_k05_first_paths_holds : PySem.Challenge.rw_openhouses_k05_first_paths.Holds := by
 w_on; o_law; k_head; (case hw=>w_witness2)
 k_fill
 refine K05.walk (l:=PySem.Challenge.rw_openhouses_k05_first_paths) rfl rfl (fun w h Y=>PySem.W.kIn_of Y) ?F
 case F=>
  intro w mg fa h KX G hmg;refine' K05.all_mk KX G hmg (L2.at_mk ?a1 ?l1 ?c1 ?k1) (L2.at_mk ?a2 ?l2 ?c2 ?k2) (L2.at_mk ?a3 ?l3 ?c3 ?k3) (L2.at_mk ?a4 ?l4 ?c4 ?k4) (L2.at_mk ?a5 ?l5 ?c5 ?k5) (L2.at_mk ?a6 ?l6 ?c6 ?k6) (L2.at_mk ?a7 ?l7 ?c7 ?k7) (L2.at_mk ?a8 ?l8 ?c8 ?k8) (L2.at_mk ?a9 ?l9 ?c9 ?k9) (L2.at_mk ?a10 ?l10 ?c10 ?k10) (L2.at_mk ?a11 ?l11 ?c11 ?k11) (L2.at_mk ?a12 ?l12 ?c12 ?k12) (L2.at_mk ?a13 ?l13 ?c13 ?k13) (L2.at_mk ?a14 ?l14 ?c14 ?k14) (L2.at_mk ?a15 ?l15 ?c15 ?k15) (L2.at_mk ?a16 ?l16 ?c16 ?k16) ?z1 ?z2 ?z3 ?z4 ?z5 ?z6 ?z7 ?z8 ?z9 ?z10;any_goals k_is
