import PyProof.Rows.All
import Wide.All
import OpenK.AllK
import Wide.FinOn
import Lean
import PyProof.EqAt
import PyProof.EqKinds
import PyProof.TupleCall
import PyProof.P3Eq
import PyProof.NeData
import PyProof.P3In
import PyProof.StrLawsChain
import KE.KIntText
import KE.IntTextLaws
import PyProof.Rows.StrJoinMade
import PyProof.Rows.FStr
import PyProof.ListMulRoad
import PyProof.EnumStmt
import PySem.Challenge.RW_openhouses_k43_openings_bettered
open List renaming length_map→ZM,getElem?_eq_getElem→ZN,length_append→ZQ,mem_map→ZR,mem_of_getElem?→ZS,getElem?_eq_some_iff→ZT,getElem?_map→ZV,map_append→ZY,mem_cons→ZZ,mem_singleton→aa,mem_append_right→ae,map_cons→ag,getD_eq_getElem?_getD→ai,mem_cons_self→aj,mem_append→ak,getElem_of_mem→aq,size_toArray→au,take_length→aw,take_add_one→ax,mem_cons_of_mem→ay,length_cons→aB,nodup_cons→aD,map_map→aE,getElem?_append_right→aG,getElem?_append_left→aI,length_take→aM,length_filter_le→aN,mem_filter→aO,not_mem_nil→aQ,nodup_append→aW,append_assoc→aX,length_singleton→aZ,append_nil→bc,getElem_mem→bh,mem_range→bo,length_eq_zero_iff→bp,pairwise_map→bq,mem_append_left→bx,pairwise_iff_getElem→bz,getElem?_cons_zero→b0,pairwise_cons→bB,pairwise_singleton→bC,range→bD,nodup_nil→bE,length_range→bF,all_eq_true→bH,getElem_map→bI,filter_append→bJ,length→bK,getElem?_of_mem→bM,lt_trans→bN,filter_sublist→bO,length_pos_iff→bP,mem_map_of_mem→bQ,cons_append→bR,filter_cons→bT,getElem?_cons_succ→bU,find?_cons→bX,any_eq_true→bY,ext_getElem→bZ,map_congr_left→cj,not_lt→cA,getElem_take→cE,getElem_inj→cG,cons→cI,any_cons→cJ,lt_asymm→cK,length_zip→cN,filter_eq_self→cO,nodup_iff_pairwise_ne→cQ,take_zero→cR,flatMap_cons→cW,sum_cons→cY,lookup_cons→dc,nil_sublist→de,take_of_length_le→df,range_succ→dt,getElem?_eq_none→du,take_append_drop→dw,length_filter_lt_length_iff_exists→dy,pairwise_append→dA,lt_irrefl→dB,filterMap_cons→dG,all_cons→dM,mem_filterMap→dO,zip_cons_cons→dU,all_map→dY,sublist_nil→eB,mem_flatMap→eD,flatMap_nil→eE,of_mem_zip→eG,length_nil→eI,getElem?_eq_none_iff→eM,drop_eq_getElem_cons→eN,isEmpty_eq_false_iff→eO,length_filterMap_le→eP,getElem?_set_self→eR,getElem_cons_drop→eV,pairwise_lt_range→eW,getElem?_set_ne→fb,mem_erase_of_ne→fh,getElem_toArray→fj,length_eraseIdx→fk,flatMap_append→fH,map_eq_nil_iff→fI,map_inj_right→fJ,take_sublist→fQ,flatten_cons→fV,ext_getElem?→fY,getElem_zip→gc,nil_append→gf,foldl_cons→gg,zip_append→gh,filter_nil→gq,replicate→gr,filterMap→gz,map→g7,le_trans→g9,map_nil→gB
open PySem.Heap renaming get?_push_of_some→ZO,lt_size→ZW,get?_push_size→ZX,size_push→aT,get?_update_other→aU,get?_update_self→aY,get?_update_ne→dI,size_update→eC
open PySem.W renaming Frag→ZP,mg_none_of→aP,nsIn→bg,kia_one→bA,fnOf→bV,keepIn→cz,mg_of→cT,kitOne→di,codeIn→dj,callWith_K→dE,methodObj→dJ,instObj→dZ,OpenLaw→e6,lookIn→eF,cellsFrom_some→eK,kitx_list→fe,kitx_dict→ff,plainGet→fu,findIn→fP,KdlSrc→fW,WalkO→fZ
open Nat renaming le_refl→ZU,ne_of_lt→ab,lt_of_lt_of_le→af,le_trans→az,lt_succ_of_lt→aA,zero_le→aJ,lt_succ_self→aK,le_succ→aL,lt_irrefl→ba,ne_of_gt→bj,zero_add→cg,min_le_left→cu,not_lt_zero→cy,sub_self→cF,mul_le_mul_right→cL,pow_le_pow_right→cM,mod_lt→cS,le_succ_of_le→cX,le_of_lt→dh,not_lt→dk,lt_or_ge→dq,add_sub_cancel→fU,eq_zero_or_pos→fX,lt_trichotomy→gb,succ_mul→gC,pow_succ→gG,add_mul→gH
open Bool renaming false_ne_true→ah,false_eq_true→aF,and_eq_true→aV,eq_iff_iff→bG,not_eq_true'→cV,false_and→dz,and_true→dN,and_false→gy,or_false→g8,not_true→gA
open Option renaming some→ar,map_some→cq,none→cH,isSome_iff_exists→cU,isSome_map→dP,isSome_some→fg,toList_some→fq,mem_toList→fG,toList→gj
open Array renaming length_toList→aH,getElem?_eq_getElem→b6,getElem?_toList→b9,getElem?_eq_none→cD,perm_iff_toList_perm→cP,toList_append→dF,toList→dW,toList_inj→e7,getD_eq_getD_getElem?→eJ,ext→eQ,mem_of_getElem?→eU,mem_toList_iff→eX,toArray_toList→eY,toList_push→fK,getD→gD
open Int renaming le_refl→b5,mul_le_mul_of_nonneg_right→b7,emod_nonneg→bL,emod_lt_of_pos→bW,lt_of_lt_of_le→cB,toNat_natCast→cZ,add_assoc→dQ,lt_of_le_of_lt→dX,zero_add→e9,add_zero→eA,lt_trans→eZ,natAbs_dvd_natAbs→fi,toNat_of_nonneg→fO,le_trans→gE,ediv_one→gF,add_mul→gI
local macro_rules|`(tactic|exists $es,*)=>`(tactic|refine ⟨$es,*, ?_⟩)
set_option Elab.async false
set_option linter.all false
set_option maxRecDepth 100000
def A_(t:Lean.MacroM Lean.Term):Lean.MacroM Lean.Term:=do return⟨(<-t).raw.rewriteBottomUp fun|.ident i r n _=>.ident i r n.eraseMacroScopes []|x=>x⟩
set_option compiler.extract_closed false
local macro_rules
 |`(ac)=>A_ `(⟨rfl,rfl,rfl,by decide +kernel,rfl,by decide +kernel,by decide +kernel⟩)
 |`(ad)=>A_ `((by lia))
 |`(am)=>A_ `((Ak GT (hr.mono (by decide)) (by rfl) XT.mg XT.F.kp XT.b .nil Aw (Aa (pv 0) (Aa Ag Ad))))
 |`(ap)=>A_ `((model prog w))
 |`(be)=>A_ `((Ap X scope cl N s2 H2 HH.objs.size fp))
 |`(bi)=>A_ `((by decide))
 |`(ca)=>A_ `((fun cdv A outer s H vs Q E hr h=>?_))
 |`(ce)=>A_ `((fun _ _=>rfl))
 |`(ci)=>A_ `((by rfl))
 |`(cr)=>A_ `((Addr × Obj))
 |`(dL)=>A_ `((model X.prog X.w))
 |`(ga)=>A_ `((Or.inl rfl))
 |`(ge)=>A_ `((by show 2<=sizeLine; lia))
 |`(gl)=>A_ `((by simp))
 |`(gt)=>A_ `((i + 1))
 |`(gJ)=>A_ `((An.map (·.1)))
 |`(gK)=>A_ `((wpAny_pure ?_))
 |`(gL)=>A_ `((upd (upd (upd HD l5 (.lst [V.str (xs.getD 0 default),V.str (xs.getD 4 default)])) l6 (.lst [V.str (AY (xs.getD 0 default) (xs.getD 4 default)),V.str (AZ (xs.getD 0 default) (xs.getD 4 default))])) o (.tup [V.str (AY (xs.getD 0 default) (xs.getD 4 default)),V.str (AZ (xs.getD 0 default) (xs.getD 4 default))])))
 |`(gM)=>A_ `(⟨m',hm,i + 1,FU,H9,I9.unpinned,T.keep _ _ _ Im fun b hb o e=>(I9.pin (b,o) (ae _ (ae _ (Bg hb e)))).1,fun b hb=>?_,w9⟩)
 |`(gN)=>A_ `((Ap X scope cl N s2 H C fp))
 |`(gO)=>A_ `((by decide +kernel))
 |`(gP)=>A_ `((fun vs H Q E h=>?_))
 |`(gQ)=>A_ `((List AF × V))
 |`(gR)=>A_ `(((relabel scope X.env).names.lookup x=some .cell\/(relabel scope X.env).names.lookup x=some .free))
 |`(gT)=>A_ `((∀ b ∈ fp,H' b=none))
 |`(gU)=>A_ `((Str × V))
 |`(gW)=>A_ `((.ref s2.heap.objs.size))
 |`(gX)=>A_ `((.tup xs))
 |`(gY)=>A_ `((seqObj "list" vs.toArray 0))
 |`(gZ)=>A_ `((.ListComp elt [⟨tg,iter,ifs,0⟩] scope pos))
 |`(hU)=>A_ `((.ref s.heap.objs.size))
 |`(hV)=>A_ `((T.self _ 0 _ _ _ (T.keep _ _ _ Fs fun b hb o e=>old b o e) (loop _ rfl)))
 |`(hX)=>A_ `((upd H5 D (.lst (acc ++ [v]))))
 |`(hZ)=>A_ `((.lst [.int (1 + (j:Int) - 1),.int d,.int (if 1 + (j:Int) - 1 - d' > 0 then 1 + (j:Int) - 1 - d' else 0),.int 0]))
 |`(h7)=>A_ `((wpAny_newFunctionEnv co.cell (by intro y hy; cases hy) (fun h₁ B9 Bt=>?_) co.kind))
 |`(h8)=>A_ `((.DictComp kx vx [⟨tg,iter,ifs,0⟩] scope pos))
 |`(h9)=>A_ `((.lst acc))
 |`(ib)=>A_ `((Sum.inr y:AF))
 |`(ic)=>A_ `((ss.map V.str))
 |`(ie)=>A_ `((by show 1<=sizeLine; lia))
local macro_rules
 |`(ig)=>A_ `((.dT kvs))
 |`(ik)=>A_ `((xs.map V.str))
 |`(im)=>A_ `((fun xv s1 h1=>wpAny_mono h1 (fun itv s2 h2=>?_) fun _ _ e=>e))
 |`(io)=>A_ `((Str × Addr))
 |`(ip)=>A_ `((ha (pins:=pins) s σ H _ I h))
 |`(iq)=>A_ `((List Str))
 |`(ir)=>A_ `((Aa (pv 0) Ad))
 |`(iu)=>A_ `((fun z=>?_))
 |`(iw)=>A_ `((wpAny_isInstance (T:="StopIteration") (b:=true) ⟨_,ZX _ rfl,rfl⟩ isSubtype_stop ?_))
 |`(iy)=>A_ `((show false=true from hs))
 |`(iz)=>A_ `((.dK kvs))
 |`(iA)=>A_ `(⟨hn b hb,?_,?_,.inl hb,?_,fun p hp=>by cases hp⟩)
 |`(iB)=>A_ `((show (["_law_place","_law_amount","_law_opening"]:List Str).Nodup by decide +kernel))
 |`(iC)=>A_ `(⟨I.ok.mod,?_,I.ok.glob,I.ok.blt,hC,?_,?_,?_,I.ok.hd,I.ok.frames,.inl rfl,?_,I.bs,az I.ok.bsz I.sz,?_,?_,I.stack,I.stkFree⟩)
 |`(iD)=>A_ `((.lst (Cm.map V.str)))
 |`(iE)=>A_ `((show b < HH.objs.size by rw [B7]; exact aA (ZW e)))
 |`(iF)=>A_ `((.lst []))
 |`(iG)=>A_ `((I.ok.hd hc))
 |`(iH)=>A_ `((BR X scope K4 N s2 H2 HH.objs.size fp fn))
 |`(iI)=>A_ `(⟨by simp only [PyData.canLay0]; exact a1,by simp only [PyData.showable]; exact a2,by simp only [PyData.hasDict]; exact a3,by simp only [PyData.leavesShort]; exact a4,by simp only [PyData.depth]; lia,by simp only [PyData.bulk]; exact a6⟩)
 |`(iJ)=>A_ `((.builtin "sorted"))
 |`(iK)=>A_ `((A3 K rfl))
namespace L2
open PySem PySem.Spec PyProof.Rows
abbrev AF:=Sum Int Str
def IW:AF->Value->Bool
 | .inl k,v=>Value.isInt k v
 | .inr x,v=>Value.isStrOf x v
def keyH (w:World):AF->Int
 | .inl k=>hashInt k
 | .inr x=>hashStr w x
theorem Bu:∀ {k:AF} {v:Value},IW k v=true->(∃ i t,k=Sum.inl i/\v=Value.int i t)\/(∃ x t,k=Sum.inr x/\v=Value.str x t)
 | .inl i,v,h=>by
  obtain ⟨t,e⟩:=Value.isInt_shape (k:=i) (v:=v) h;exact .inl ⟨i,t,rfl,e⟩
 | .inr x,v,h=>by
  obtain ⟨t,e⟩:=Value.isStrOf_shape (x:=x) (v:=v) h;exact .inr ⟨x,t,rfl,e⟩
theorem Qk (i:Int) (t:Tok):IW (.inl i) (.int i t)=true:=by simp [IW,Value.isInt]
theorem Qj (x:Str) (t:Tok):IW (.inr x) (.str x t)=true:=by simp [IW,Value.isStrOf]
theorem VL (a b:Int):decide ((Sum.inl a:AF)=Sum.inl b)=(a == b):=by
 by_cases e:a=b
 ·subst e; simp
 ·have h:¬ (Sum.inl a:AF)=Sum.inl b:=fun q=>e (Sum.inl.inj q)
  rw [decide_eq_false h];exact (beq_eq_false_iff_ne.mpr e).symm
theorem VH (a b:Str):decide ((Sum.inr a:AF)=Sum.inr b)=decide (a=b):=by
 by_cases e:a=b
 ·subst e; simp
 ·have h:¬ (Sum.inr a:AF)=Sum.inr b:=fun q=>e (Sum.inr.inj q)
  rw [decide_eq_false h,decide_eq_false e]
theorem VJ (a:Int) (b:Str):decide ((Sum.inl a:AF)=Sum.inr b)=false:=decide_eq_false (fun q=>nomatch q)
theorem VI (a:Str) (b:Int):decide ((Sum.inr a:AF)=Sum.inl b)=false:=decide_eq_false (fun q=>nomatch q)
def AR (prog:Program) (w:World):PySem.KeyKind prog w AF where
 is:=IW
 hash:=keyH w
 inj:=fun v a b ha hb=>by
  rcases Bu ha with ⟨i,t,rfl,rfl⟩ | ⟨x,t,rfl,rfl⟩
  ·rcases Bu hb with ⟨j,u,rfl,e⟩ | ⟨y,u,rfl,e⟩
   ·injection e with e1 _; rw [e1]
   ·exact nomatch e
  ·rcases Bu hb with ⟨j,u,rfl,e⟩ | ⟨y,u,rfl,e⟩
   ·exact nomatch e
   ·injection e with e1 _; rw [e1]
 byValue:=fun k v h=>by
  rcases Bu h with ⟨i,t,rfl,rfl⟩ | ⟨x,t,rfl,rfl⟩ <;> rfl
 pyHash:=fun hv h=>by
  rcases Bu hv with ⟨i,t,rfl,rfl⟩ | ⟨x,t,rfl,rfl⟩
  ·exact wpAny_pyHash_int h
  ·exact wpAny_pyHash_str h
 eqBool:=fun hu hv h=>by
  rcases Bu hu with ⟨i,t,rfl,rfl⟩ | ⟨x,t,rfl,rfl⟩
  ·rcases Bu hv with ⟨j,u,rfl,rfl⟩ | ⟨y,u,rfl,rfl⟩
   ·rw [VL] at h; exact wpAny_eqBool_int h
   ·rw [VJ] at h; exact SeqAt.EqAt.int_str i t y u _ _ _ _ h
  ·rcases Bu hv with ⟨j,u,rfl,rfl⟩ | ⟨y,u,rfl,rfl⟩
   ·rw [VI] at h; exact SeqAt.EqAt.str_int x t j u _ _ _ _ h
   ·rw [VH] at h; exact wpAny_eqBool_str h
 «strs»:=fun k x t v h=>by
  rcases Bu h with ⟨i,u,rfl,e⟩ | ⟨y,u,rfl,e⟩
  ·exact nomatch e
  ·injection e with e1 _;subst e1;cases v <;> rfl
theorem Mj (prog:Program) (w:World) (i:Int) (t:Tok):(AR prog w).is (.inl i) (.int i t)=true:=Qk i t
theorem Hu (prog:Program) (w:World) (x:Str) (t:Tok):(AR prog w).is (.inr x) (.str x t)=true:=Qj x t
inductive V where
 | non | bl (b:Bool) | int (i:Int) | str (x:Str) | byt (b:Array UInt8) | flt (b:UInt64) | ref (a:Addr) | ty (n:String)
 deriving DecidableEq
def AA:V->Value->Prop
 | .non,u=>u=Value.none
 | .bl b,u=>u=Value.bool b
 | .int i,u=>∃ t,u=Value.int i t
 | .str x,u=>∃ t,u=Value.str x t
 | .byt b,u=>∃ t,u=Value.bytes b t
 | .flt b,u=>∃ t,u=Value.float b t
 | .ref a,u=>u=Value.ref a
 | .ty n,u=>u=Value.type n
abbrev A9:List V->List Value->Prop:=Paired AA
theorem A9.length {xs:List V} {us:List Value} (r:A9 xs us):xs.length=us.length:=Paired.length r
theorem A9.get:∀ {xs:List V} {us:List Value} {i:Nat} {x:V},A9 xs us->xs[i]? = some x->∃ u,us[i]? = some u/\AA x u
 | _,_,_,_,.nil,e=>by simp at e
 | _,_,0,_,.cons r _,e=>by simp at e; subst e; exact ⟨_,rfl,r⟩
 | _,_,i + 1,x,.cons _ t,e=>by
  obtain ⟨u,h1,h2⟩:=A9.get (i:=i) (x:=x) t (by simpa using e);exact ⟨u,by simpa using h1,h2⟩
theorem A9.set {x:V} {u:Value} (r:AA x u):∀ {xs:List V} {us:List Value} (i:Nat),A9 xs us->A9 (xs.set i x) (us.set i u)
 | _,_,_,.nil=>.nil
 | _,_,0,.cons _ t=>.cons r t
 | _,_,i + 1,.cons q t=>.cons q (A9.set r i t)
theorem A9.append:∀ {xs ys:List V} {us ws:List Value},A9 xs us->A9 ys ws->A9 (xs ++ ys) (us ++ ws)
 | _,_,_,_,.nil,s=>s
 | _,_,_,_,.cons r t,s=>.cons r (A9.append t s)
def GZ:Option V->Option Value->Prop
 | some v,some u=>AA v u
 | none,none=>True
 | _,_=>False
def KV {κ:Type}:List (κ × V)->List (κ × Value)->Prop:=Paired fun (p:κ × V) (q:κ × Value)=>p.1=q.1/\AA p.2 q.2
def kV:AF->V
 | .inl i=>.int i
 | .inr x=>.str x
inductive HO where
 /-- a list -/
 | lst (xs:List V)
 /-- a tuple (never changes) -/
 | tup (xs:List V)
 /-- a dict whose keys are ints and texts; one whose keys are tuples of ints and texts (the empty one is both) -/
 | dK (kvs:List (AF × V)) | dT (kvs:List gQ)
 /-- a set of ints: As members,As size -/
 | set (S:Int->Bool) (n:Nat)
 /-- an instance of the class at C,As dict at dx,As attributes -/
 | ins (C dx:Addr) (fs:List gU)
 /-- the dict of the instance at x -/
 | own (x:Addr)
 /-- the dict of an exception -/
 | xd (fs:List gU)
 /-- a bound method,f of x -/
 | met (f x:Addr)
 /-- a range object lo,lo + 1,.. below hi -/
 | rng (lo hi:Int)
 /-- a thing that is known to the object (the script; a dict while a loop walks it): read,never written while it is so -/
 | frz (o:Obj) (u:HO)
 /-- a code WR table -/
 | tbl (ps:Array Value)
 /-- any other thing,by what is true of As one object (a def of one's own: SetO a S n:=HO.ext fun h=>..) -/
 | ext (φ:Heap->Prop)
abbrev Hp:=Addr->Option HO
def upd (H:Hp) (a:Addr) (o:HO):Hp:=fun b=>if b=a then some o else H b
theorem Ab {H:Hp} {a:Addr} {o:HO}:upd H a o a=some o:=by unfold upd; rw [if_pos rfl]
theorem Af {H:Hp} {a b:Addr} {o:HO} (h:b ≠ a):upd H a o b=H b:=by unfold upd; rw [if_neg h]
theorem KN {H:Hp} {a:Addr} {o u:HO}:upd (upd H a o) a u=upd H a u:=by
 funext b; unfold upd; split <;> rfl
theorem BM {H:Hp} {a b:Addr} {o u:HO} (h:H a=some o) (h':H b=some u) (d:o ≠ u):a ≠ b:=by
 intro e; subst e; rw [h] at h'; exact d (ar.inj h')
theorem Ai {H:Hp} {a b:Addr} {o:HO} (h:H a=some o) (h':H b=none):a ≠ b:=by
 intro e; subst e; rw [h] at h'; cases h'
def N4 (h:Heap) (a:Addr):Prop:=∀ o,h.get? a=some o->o.dict=none
theorem N4.new {h:Heap} {o:Obj} (hd:o.dict=none) (hf:o.isFreed=false):N4 (h.push o) h.objs.size:=fun o' e=>by
 rw [ZX _ hf] at e;cases e
 exact hd
section
variable (P:Program) (w:World)
def AE (H:Hp) (h:Heap) (a:Addr):HO->Prop
 | .lst xs=>xs.length<=sizeLine/\∃ (As:List Value) (n:Nat),A9 xs As/\h.get? a=some { cls:=.type "list",data:=.seq As.toArray n }
 | .tup xs=>xs.length<=sizeLine/\∃ As:List Value,A9 xs As/\IsTup h a As.toArray/\N4 h a
 | .dK kvs=>kvs.length<=sizeLine/\(a == sysModules)=false/\∃ vs,KV kvs vs/\h.DictOf (AR P w) a vs
 | .dT kvs=>kvs.length<=sizeLine/\(a == sysModules)=false/\∃ xs:List (List AF × Addr × Value),
   Paired (fun (p:List AF × V) (q:List AF × Addr × Value)=>p.1=q.1/\H q.2.1=some (.tup (p.1.map kV))/\AA p.2 q.2.2) kvs xs /\
   ∃ o es ep,h.get? a=some o/\o.ExactDict/\o.data=.dict es ep/\es.toList=xs.map (entryOfKey (tupleKind (AR P w)))/\(xs.map (·.1)).Nodup
 | .set S n=>h.SetOf (intKind P w) a S n
 | .ins C dx fs=>H dx=some (.own a)/\fs.length<=1000/\dx ≠ a/\h.get? a=some (dZ C dx) /\
   ∃ mA,h.Ns1 dx mA/\(∀ f,GZ (fs.lookup f) (mA f))/\PySem.Within mA (fs.map (·.1))
 | .own _=>∃ o,h.get? a=some o
 | .xd fs=>∃ mA,h.Ns1 a mA/\∀ f,GZ (fs.lookup f) (mA f)
 | .rng lo hi=>∃ t u v,h.get? a=some { cls:=.type "range",data:=.fields #[.int lo t,.int hi u,.int 1 v] }
 | .frz o u=>h.get? a=some o/\AE H h a u
 | .tbl ps=>h.get? a=some { cls:=.none,data:=.fields ps }
 | .met f x=>h.get? a=some (dJ (.ref f) (.ref x))
 | .ext φ=>φ h/\(∃ o,h.get? a=some o)/\∀ h1 h2:Heap,φ h1->(∀ o,h1.get? a=some o->h2.get? a=some o)->φ h2
def FT (H:Hp) (h:Heap):Prop:=∀ a o,H a=some o->AE P w H h a o
end
section
variable {P:Program} {w:World} {H H':Hp} {h h':Heap} {a:Addr} {o:HO}
theorem AE.lt (x:AE P w H h a o):a < h.objs.size:=by
 cases o with
 | lst xs=>obtain ⟨_,_,_,_,e⟩:=x; exact ZW e
 | tup xs=>obtain ⟨_,_,_,p,_⟩:=x; exact p.lt
 | dK kvs=>obtain ⟨_,_,_,_,o,_,_,e,_⟩:=x; exact ZW e
 | dT kvs=>obtain ⟨_,_,_,_,o,_,_,e,_⟩:=x; exact ZW e
 | set S n=>obtain ⟨o,_,_,_,e,_⟩:=x; exact ZW e
 | ins C dx fs=>obtain ⟨_,_,_,e,_⟩:=x; exact ZW e
 | own y=>obtain ⟨_,e⟩:=x; exact ZW e
 | xd fs=>obtain ⟨_,⟨_,_,_,e,_⟩,_⟩:=x; exact ZW e
 | rng lo hi=>obtain ⟨_,_,_,e⟩:=x; exact ZW e
 | frz ob u=>obtain ⟨e,_⟩:=x; exact ZW e
 | tbl ps=>exact ZW (show h.get? a=some _ from x)
 | met f y=>exact ZW (show h.get? a=some _ from x)
 | ext φ=>obtain ⟨_,⟨_,e⟩,_⟩:=x; exact ZW e
theorem Paired.mapP {α β:Type} {F G:α->β->Prop}:∀ {Mn:List α} {Mm:List β},Paired F Mn Mm->(∀ a b,F a b->G a b)->Paired G Mn Mm
 | _,_,.nil,_=>.nil
 | _,_,.cons r t,f=>.cons (f _ _ r) (Paired.mapP t f)
theorem AE.stay (x:AE P w H h a o) (k:∀ b u,(b=a\/H b=some (.own a))->h.get? b=some u->h'.get? b=some u)
  (ho:∀ b,H b=some (.own a)->H' b=some (.own a)) (ht:∀ b xs,H b=some gX->H' b=some gX):AE P w H' h' a o:=by
 induction o with
 | lst xs=>obtain ⟨z,As,n,r,e⟩:=x; exact ⟨z,As,n,r,k _ _ (.inl rfl) e⟩
 | tup xs=>
  obtain ⟨z,As,r,⟨ob,e,c⟩,dn⟩:=x;have e':=k _ _ (.inl rfl) e;exact ⟨z,As,r,⟨ob,e',c⟩,fun o q=>by rw [e'] at q; cases q; exact dn _ e⟩
 | dK kvs=>obtain ⟨z,y,vs,r,ob,es,ep,e,c⟩:=x; exact ⟨z,y,vs,r,ob,es,ep,k _ _ (.inl rfl) e,c⟩
 | dT kvs=>
  obtain ⟨z,y,xs,r,ob,es,ep,e,c⟩:=x;exact ⟨z,y,xs,Paired.mapP r fun p q z=>⟨z.1,ht _ _ z.2.1,z.2.2⟩,ob,es,ep,k _ _ (.inl rfl) e,c⟩
 | set S n=>obtain ⟨ob,es,ep,t,e,c⟩:=x; exact ⟨ob,es,ep,t,k _ _ (.inl rfl) e,c⟩
 | ins C dx fs=>
  obtain ⟨d,z,ne,e,mA,⟨od,es,ep,e2,c⟩,r⟩:=x;exact ⟨ho _ d,z,ne,k _ _ (.inl rfl) e,mA,⟨od,es,ep,k _ _ (.inr d) e2,c⟩,r⟩
 | own y=>obtain ⟨ob,e⟩:=x; exact ⟨ob,k _ _ (.inl rfl) e⟩
 | xd fs=>obtain ⟨mA,⟨od,es,ep,e,c⟩,r⟩:=x; exact ⟨mA,⟨od,es,ep,k _ _ (.inl rfl) e,c⟩,r⟩
 | rng lo hi=>obtain ⟨t,u,v,e⟩:=x; exact ⟨t,u,v,k _ _ (.inl rfl) e⟩
 | frz ob u ih=>obtain ⟨e,q⟩:=x; exact ⟨k _ _ (.inl rfl) e,ih q⟩
 | tbl ps=>
  have e:h.get? a=some { cls:=.none,data:=.fields ps }:=x;show h'.get? a=some { cls:=.none,data:=.fields ps }
  exact k a _ (.inl rfl) e
 | met f y=>
  have e:h.get? a=some (dJ (.ref f) (.ref y)):=x;show h'.get? a=some (dJ (.ref f) (.ref y))
  exact k a _ (.inl rfl) e
 | ext φ=>obtain ⟨p,⟨o,e⟩,st⟩:=x; exact ⟨st _ _ p fun o q=>k _ _ (.inl rfl) q,⟨o,k _ _ (.inl rfl) e⟩,st⟩
theorem FT.lt (x:FT P w H h) (e:H a=some o):a < h.objs.size:=(x a o e).lt
theorem FT.fresh (x:FT P w H h) (e:h.objs.size<=a):H a=none:=by
 cases q:H a with
 | none=>rfl
 | some u=>exact absurd (af (x.lt q) e) (ba _)
theorem FT.kept (x:FT P w H h) (k:∀ b u,h.get? b=some u->h'.get? b=some u):FT P w H h':=fun a o e=>
 (x a o e).stay (fun b u _ q=>k b u q) (fun _ q=>q) fun _ _ q=>q
theorem FT.laid (x:FT P w H h) (k:∀ b u,h.get? b=some u->h'.get? b=some u) (hp:h.objs.size<=a) (new:AE P w (upd H a o) h' a o):FT P w (upd H a o) h':=fun b u e=>by
 have hn:=x.fresh hp;by_cases hb:b=a
 ·subst hb; rw [Ab] at e; cases e; exact new
 ·rw [Af hb] at e;exact (x b u e).stay (fun c v _ q=>k c v q) (fun c q=>by rw [Af (Ai q hn)]; exact q) fun c xs q=>by rw [Af (Ai q hn)]; exact q
end
def Rd (H:Hp) (a:Addr) (u:HO):Prop:=H a=some u\/∃ o,H a=some (.frz o u)
theorem Rd.ok {P:Program} {w:World} {H:Hp} {h:Heap} {a:Addr} {u:HO} (r:Rd H a u) (x:FT P w H h):AE P w H h a u:=by
 rcases r with r | ⟨o,r⟩
 ·exact x a u r
 ·obtain ⟨_,q⟩:=x a _ r;exact q
def Mut:Option HO->Prop
 | some (.lst _)=>True
 | some (.dK _)=>True
 | some (.dT _)=>True
 | some (.set _ _)=>True
 | some (.ins _ _ _)=>True
 | some (.ext _)=>True
 | _=>False
section
variable {P:Program} {w:World} {H:Hp} {h h':Heap} {x e:Addr} {o':HO}
theorem FT.write (ok:FT P w H h) (mu:Mut (H x)) (he:e=x\/H e=some (.own x)) (k:∀ b u,b ≠ e->h.get? b=some u->h'.get? b=some u) (heo:∃ u,h'.get? e=some u)
  (new:AE P w (upd H x o') h' x o'):FT P w (upd H x o') h':=fun b u q=>by
 have nown:∀ c y,H c=some (.own y)->c ≠ x:=fun c y r z=>by subst z; rw [r] at mu; exact mu
 have ntup:∀ c xs,H c=some gX->c ≠ x:=fun c xs r z=>by subst z; rw [r] at mu; exact mu
 by_cases hb:b=x
 ·subst hb; rw [Ab] at q; cases q; exact new
 ·rw [Af hb] at q;by_cases hbe:b=e
  ·have q':H b=some (.own x):=by
    rcases he with z | z
    ·exact absurd (hbe.trans z) hb
    ·rw [hbe]; exact z
   rw [q] at q'; cases q';obtain ⟨v,hv⟩:=heo;exact ⟨v,by rw [hbe]; exact hv⟩
  ·refine (ok b u q).stay (fun c v hc r=>k c v ?_ r) (fun c r=>by rw [Af (nown c b r)]; exact r) fun c xs r=>by rw [Af (ntup c xs r)]; exact r
   rcases hc with rfl | hc
   ·exact hbe
   ·rintro rfl;rcases he with z | z
    ·exact nown c b hc z
    ·rw [hc] at z; cases z; exact hb rfl
end
structure Un (fs ex:List Addr) (H H':Hp) (h h':Heap):Prop where
 keep:∀ b o,h.get? b=some o->H b=none->b ∉ fs->b ∉ ex->h'.get? b=some o
 slot:∀ b o,h.get? b=some o->H b=none->b ∈ fs->b ∉ ex->∃ sl,h'.get? b=some { o with slots:=sl }
 free:∀ b o,h.get? b=some o->H b=none->b ∉ ex->H' b=none
 there:∀ b o,h.get? b=some o->b ∉ ex->∃ o',h'.get? b=some o'
 tups:∀ b xs,H b=some gX->H' b=some gX
 frzs:∀ b o u,H b=some (.frz o u)->H' b=some (.frz o u)
 tbls:∀ b ps,H b=some (.tbl ps)->∃ more,H' b=some (.tbl (ps ++ more))
section
variable {fs W4 ex UU:List Addr} {H H1 H2:Hp} {h h1 h2 h':Heap} {a x e:Addr} {o:HO}
theorem Un.any (u:Un fs ex H H1 h h1) {b:Addr} {ob:Obj} (q:h.get? b=some ob) (n:H b=none) (hx:b ∉ ex):∃ sl,h1.get? b=some { ob with slots:=sl }:=by
 by_cases hb:b ∈ fs
 ·exact u.slot b ob q n hb hx
 ·exact ⟨ob.slots,u.keep b ob q n hb hx⟩
theorem Un.kept (k:∀ b u,h.get? b=some u->h'.get? b=some u):Un fs ex H H h h':=
 ⟨fun b ob q _ _ _=>k b ob q,fun b ob q _ _ _=>⟨ob.slots,k b ob q⟩,fun _ _ _ n _=>n,fun b ob q _=>⟨ob,k b ob q⟩,fun _ _ q=>q,fun _ _ _ q=>q,fun _ ps q=>⟨#[],by rw [q]; simp⟩⟩
theorem Un.refl:Un fs ex H H h h:=Un.kept fun _ _ q=>q
theorem Un.laid (k:∀ b u,h.get? b=some u->h'.get? b=some u) (hp:h.objs.size<=a) (hn:H a=none):Un fs ex H (upd H a o) h h' where
 keep:=fun b u q _ _ _=>k b u q
 slot:=fun b u q _ _ _=>⟨u.slots,k b u q⟩
 free:=fun b u q n _=>by rw [Af (ab (af (ZW q) hp))]; exact n
 there:=fun b u q _=>⟨u,k b u q⟩
 tups:=fun b xs q=>by rw [Af (Ai q hn)]; exact q
 frzs:=fun b u xs q=>by rw [Af (Ai q hn)]; exact q
 tbls:=fun b ps q=>⟨#[],by rw [Af (Ai q hn),q]; simp⟩
theorem Un.write (mu:Mut (H x)) (he:e=x\/H e=some (.own x)) (k:∀ b u,b ≠ e->h.get? b=some u->h'.get? b=some u) (heo:∃ u,h'.get? e=some u):Un fs ex H (upd H x o) h h':=by
 have hx:∀ b,H b=none->b ≠ x:=fun b n z=>by subst z; rw [n] at mu; exact mu
 have hb:∀ b,H b=none->b ≠ e:=fun b n z=>by
  subst z;rcases he with r | r
  ·exact hx b n r
  ·rw [n] at r; cases r
 have hm:∀ b u,H b=some u->¬ Mut (some u)->b ≠ x:=fun b u q nm z=>by subst z; rw [q] at mu; exact nm mu
 refine ⟨fun b u q n _ _=>k b u (hb b n) q,fun b u q n _ _=>⟨u.slots,k b u (hb b n) q⟩,fun b u q n _=>by rw [Af (hx b n)]; exact n,fun b u q _=>?_,
  fun b xs q=>by rw [Af (hm b _ q fun z=>z)]; exact q,fun b u xs q=>by rw [Af (hm b _ q fun z=>z)]; exact q,fun b ps q=>⟨#[],by rw [Af (hm b _ q fun z=>z),q]; simp⟩⟩
 by_cases hbe:b=e
 ·subst hbe; exact heo
 ·exact ⟨u,k b u hbe q⟩
end
def trk (h:Heap) (H:Hp):List Addr:=(bD h.objs.size).filter fun a=>(H a).isSome
def Lo (h:Heap) (H:Hp):Heap:=PySem.W.hideAll h (trk h H)
theorem Qp (h:Heap) (H:Hp):(Lo h H).objs.size=h.objs.size:=PySem.W.hideAll_size _ _
theorem So {h:Heap} {H:Hp} {b:Addr} {o:Obj} (e:h.get? b=some o) (n:H b=none):(Lo h H).get? b=some o:=
 PySem.W.hideAll_get _ e fun hm=>by
  have q:(H b).isSome=true:=(aO.mp hm).2;rw [n] at q; simp at q
theorem TF {h:Heap} {H:Hp} {b:Addr} {o:Obj} (e:(Lo h H).get? b=some o):h.get? b=some o/\H b=none:=by
 have e':h.get? b=some o:=PySem.W.of_hideAll (trk h H) e;exists e';cases q:H b with
 | none=>rfl
 | some x=>
  have hm:b ∈ trk h H:=aO.mpr ⟨bo.mpr (ZW e'),by simp [q]⟩;have z:(Lo h H).get? b=none:=PySem.W.hideAll_none (trk h H) hm;rw [z] at e; cases e
def Ut (g h:Heap) (L:Addr):List cr:=(bD h.objs.size).filterMap fun a=>if a=L\/(g.get? a).isSome=true then none else (h.get? a).map fun o=>(a,o)
def CC (g h:Heap) (L d:Addr):List cr:=(Ut g h L).filter fun p=>decide (p.1 ≠ d)
structure Mod (K:ZP) (mg:Str->Option Value) (base:Heap):Prop where
 kin:K.In base
 glob:base.Ns mainGlobals mg
 blt:∃ mb,base.Ns builtinsNs mb/\∀ x:Str,x ≠ "__name__"->mb x=bootBuiltins x
 nolimit:base.NoLimit
structure Cx where
 prog:Program
 w:World
 K:ZP
 mg:Str->Option Value
 base:Heap
 A:Around
 N:List Str
 s₀:Shared
 H₀:Hp
 env:Env
 outer:List Env
 stack:List Env
 ex:List Addr
 fn:Str->Bool
 calm:Bool
 pn:List cr
 xe:Value->Shared->Prop
def Sv (l:List Env):List Addr:=l.filterMap (·.frame)
abbrev Cx.fs (X:Cx):List Addr:=Sv X.outer
def Vis (sc:Scope) (x:Str):Prop:=sc.names.lookup x=some .local\/sc.names.lookup x=some .cell\/sc.names.lookup x=some .free
def Wo (sc:Scope) (x:Str):Prop:=sc.names.lookup x=some .local\/sc.names.lookup x=some .cell
def Look (env:Env) (h:Heap) (m:Str->Option Value) (x:Str) (u:Value):Prop:=
 (env.kindOf x=some .local/\m x=some u)\/((env.kindOf x=some .cell\/env.kindOf x=some .free)/\∃ c,env.cells.lookup x=some c/\h.IsCell c (some u))
structure Cx.Ok (X:Cx):Prop where
 mod:Mod X.K X.mg X.base
 kind:X.env.scope.kind=.function
 glob:X.env.globals=mainGlobals
 blt:X.env.builtins=builtinsNs
 above:X.s₀.heap.objs.size<=X.env.locals
 inj:∀ x y c,X.env.cells.lookup x=some c->X.env.cells.lookup y=some c->x=y
 has:∀ x,(X.env.kindOf x=some .cell\/X.env.kindOf x=some .free)->∃ c,X.env.cells.lookup x=some c
 cab:∀ x c,X.fn x=true->X.env.cells.lookup x=some c->X.s₀.heap.objs.size<=c
 hd:X.calm=true->X.A.handled=none
 frames:X.A.frames=some X.stack
 stk:X.stack=X.outer\/(X.stack=X.env :: X.outer/\X.env.frame=some X.env.locals)
 exf:∀ b ∈ X.ex,b ≠ X.env.locals/\∀ x c,X.env.cells.lookup x=some c->c ≠ b
 bs:∀ b o,X.base.get? b=some o->X.s₀.heap.get? b=some o/\X.H₀ b=none
 bsz:X.base.objs.size<=X.s₀.heap.objs.size
 noex:∀ b o,X.base.get? b=some o->b ∉ X.ex
 exfs:∀ b ∈ X.ex,b ∉ X.fs
 funs:X.s₀.heap.FunFrames X.base X.outer
 frf:∀ b ∈ X.fs,X.H₀ b=none
structure Aq (X:Cx) (pins:List cr) (σ:List (Option V)) (H:Hp) (s:Shared):Prop where
 ok:X.Ok
 os:s.os=X.s₀.os
 bare:AllBare s.gens
 base:Un X.fs X.ex X.H₀ H X.s₀.heap s.heap
 loc:∃ m,s.heap.Ns X.env.locals m/\∀ (i:Nat) (x:Str) (v:V),X.N[i]? = some x->σ[i]? = some (some v)->Vis X.env.scope x->∃ u,AA v u/\Look X.env s.heap m x u
 cell:∀ x c,X.env.cells.lookup x=some c->∃ v,s.heap.IsCell c v
 free:H X.env.locals=none
 freeC:∀ x c,X.env.cells.lookup x=some c->H c=none
 pin:∀ p ∈ X.pn ++ pins,s.heap.get? p.1=some p.2/\H p.1=none/\p.1 ≠ X.env.locals/\p.1 ∉ X.fs/\∀ v,p.2.data ≠ .cell v
 hok:FT X.prog X.w H s.heap
 len:σ.length=X.N.length
section
variable {X:Cx} {pins:List cr} {σ:List (Option V)} {H H':Hp} {s:Shared} {h':Heap}
theorem Cx.Ok.nofr (ok:X.Ok) {b:Addr} {o:Obj} (e:X.base.get? b=some o):b ∉ X.fs:=fun hb=>by
 have:=(ok.funs.mem hb).1;rw [e] at this; cases this
theorem Aq.bs (I:Aq X pins σ H s):∀ b o,X.base.get? b=some o->s.heap.get? b=some o/\H b=none:=fun b o e=>
 ⟨I.base.keep b o (I.ok.bs b o e).1 (I.ok.bs b o e).2 (I.ok.nofr e) (I.ok.noex b o e),I.base.free b o (I.ok.bs b o e).1 (I.ok.bs b o e).2 (I.ok.noex b o e)⟩
theorem Aq.bk (I:Aq X pins σ H s):∀ b o,X.base.get? b=some o->s.heap.get? b=some o:=fun b o e=>(I.bs b o e).1
theorem Aq.mod (I:Aq X pins σ H s):Mod X.K X.mg X.base:=I.ok.mod
theorem Aq.kIn (I:Aq X pins σ H s):X.K.In s.heap:=I.ok.mod.kin.keeps I.bk
theorem Aq.lt (I:Aq X pins σ H s):X.env.locals < s.heap.objs.size:=let ⟨_,hn,_⟩:=I.loc; hn.lt
theorem Aq.sz (I:Aq X pins σ H s):X.s₀.heap.objs.size<=s.heap.objs.size:=az I.ok.above (dh I.lt)
theorem Aq.nofs (I:Aq X pins σ H s) {a:Addr} (h:s.heap.objs.size<=a):a ∉ X.fs:=fun hb=>by
 obtain ⟨_,o,ho,_⟩:=I.ok.funs.mem hb;exact absurd (af (ZW ho) (az I.sz h)) (ba _)
theorem Aq.cne (I:Aq X pins σ H s):∀ x c,X.env.cells.lookup x=some c->c ≠ X.env.locals:=fun x c e z=>by
 obtain ⟨v,o,ho,hd⟩:=I.cell x c e;obtain ⟨m,⟨o',es,ep,JE,MB,_⟩,_⟩:=I.loc;rw [z,JE] at ho; cases ho; rw [MB] at hd; cases hd
theorem Aq.funs (I:Aq X pins σ H s):s.heap.FunFrames X.base X.outer:=by
 have all:∀ (l:List Env),(∀ b ∈ Sv l,b ∈ X.fs)->X.s₀.heap.FunFrames X.base l->s.heap.FunFrames X.base l:=by
  intro l;induction l with
  | nil=>intro _ _; trivial
  | cons env r ih=>
   intro hs hl;obtain ⟨hk,⟨L,o,hf,hn,ho,hd⟩,hr⟩:=hl;have hL:L ∈ X.fs:=hs L (by unfold Sv; rw [dG,hf]; exact aj);obtain ⟨sl,e⟩:=I.base.slot L o ho (I.ok.frf L hL) hL fun z=>I.ok.exfs L z hL
   exact ⟨hk,⟨L,_,hf,hn,e,hd⟩,ih (fun b hb=>hs b (by unfold Sv; rw [dG,hf]; exact ay _ hb)) hr⟩
 exact all X.outer (fun _ hb=>hb) I.ok.funs
theorem Aq.stack (I:Aq X pins σ H s):s.heap.FunFrames X.base X.stack:=by
 rcases I.ok.stk with e | ⟨e,hf⟩
 ·rw [e]; exact I.funs
 ·rw [e];obtain ⟨m,hn,_⟩:=I.loc;refine .cons (by rw [I.ok.kind]; decide) hf hn ?_ I.funs;exact Heap.get?_none_of_le (az I.ok.bsz I.ok.above)
theorem Aq.stkSub (I:Aq X pins σ H s):∀ b ∈ Sv X.stack,b ∈ X.env.locals :: X.fs:=fun b hb=>by
 rcases I.ok.stk with e | ⟨e,hf⟩
 ·rw [e] at hb; exact ay _ hb
 ·rw [e] at hb;unfold Sv at hb;rw [dG,hf] at hb;exact hb
theorem Aq.stkFree (I:Aq X pins σ H s):∀ b ∈ Sv X.stack,H b=none:=fun b hb=>by
 rcases ZZ.mp (I.stkSub b hb) with e | hb
 ·rw [e]; exact I.free
 ·obtain ⟨_,o,ho,_⟩:=I.ok.funs.mem hb;exact I.base.free b o ho (I.ok.frf b hb) fun z=>I.ok.exfs b z hb
theorem Aq.step {g':Array GenState} {t':Nat} {d':Drawn} {ch:List Addr} (I:Aq X pins σ H s)
  (hch:∀ b ∈ ch,(b ∈ X.ex\/X.s₀.heap.objs.size<=b)/\b ≠ X.env.locals/\(∀ x c,X.env.cells.lookup x=some c->c ≠ b)/\∀ p ∈ X.pn ++ pins,p.1 ≠ b)
  (keep:∀ b o,b ≠ X.env.locals->b ∉ X.fs->b ∉ ch->s.heap.get? b=some o->H b=none->h'.get? b=some o)
  (slot:∀ b o,b ≠ X.env.locals->b ∈ X.fs->b ∉ ch->s.heap.get? b=some o->H b=none->∃ sl,h'.get? b=some { o with slots:=sl }) (free:∀ b o,b ∉ ch->s.heap.get? b=some o->H b=none->H' b=none)
  (there:∀ b o,b ∉ ch->s.heap.get? b=some o->∃ o',h'.get? b=some o')
  (tups:∀ b xs,H b=some gX->H' b=some gX) (frzs:∀ b o u,H b=some (.frz o u)->H' b=some (.frz o u)) (tbls:∀ b ps,H b=some (.tbl ps)->∃ more,H' b=some (.tbl (ps ++ more)))
  (ns:∀ m,s.heap.Ns X.env.locals m->h'.Ns X.env.locals m) (hok:FT X.prog X.w H' h') (hg:AllBare g') :
  Aq X pins σ H' { s with heap:=h',gens:=g',drawn:=d',toks:=t' }:=by
 have neL:∀ b o,X.s₀.heap.get? b=some o->b ≠ X.env.locals:=fun b o e=>ab (af (ZW e) I.ok.above)
 have neC:∀ b o,X.s₀.heap.get? b=some o->b ∉ X.ex->b ∉ ch:=fun b o e hx hb=>by
  rcases (hch b hb).1 with z | z
  ·exact hx z
  ·exact absurd (af (ZW e) z) (ba _)
 have cellK:∀ x c,X.env.cells.lookup x=some c->∀ v,s.heap.IsCell c v->h'.IsCell c v:=fun x c e v ⟨o,ho,hd⟩=>by
  have nch:c ∉ ch:=fun z=>(hch c z).2.2.1 x c e rfl
  by_cases hc:c ∈ X.fs
  ·obtain ⟨sl,q⟩:=slot c o (I.cne x c e) hc nch ho (I.freeC x c e);exact ⟨_,q,hd⟩
  ·exact ⟨o,keep c o (I.cne x c e) hc nch ho (I.freeC x c e),hd⟩
 refine ⟨I.ok,I.os,hg,⟨fun b o e n hb hx=>?_,fun b o e n hb hx=>?_,fun b o e n hx=>?_,fun b o e hx=>?_,fun b xs e=>tups b xs (I.base.tups b xs e),fun b o xs e=>frzs b o xs (I.base.frzs b o xs e),fun b ps e=>?_⟩,?_,fun x c e=>?_,?_,fun x c e=>?_,fun p hp=>?_,hok,I.len⟩
 ·exact keep b o (neL b o e) hb (neC b o e hx) (I.base.keep b o e n hb hx) (I.base.free b o e n hx)
 ·obtain ⟨sl,e1⟩:=I.base.slot b o e n hb hx;obtain ⟨U9,e2⟩:=slot b _ (neL b o e) hb (neC b o e hx) e1 (I.base.free b o e n hx);exact ⟨U9,e2⟩
 ·obtain ⟨o',e1⟩:=I.base.there b o e hx;exact free b o' (neC b o e hx) e1 (I.base.free b o e n hx)
 ·obtain ⟨o',e1⟩:=I.base.there b o e hx;exact there b o' (neC b o e hx) e1
 ·obtain ⟨m1,e1⟩:=I.base.tbls b ps e;obtain ⟨m2,e2⟩:=tbls b _ e1;exact ⟨m1 ++ m2,by rw [e2,Array.append_assoc]⟩
 ·obtain ⟨m,hn,hl⟩:=I.loc;refine ⟨m,ns m hn,fun i x v e1 e2 e3=>?_⟩;obtain ⟨u,r,l⟩:=hl i x v e1 e2 e3;exists u,r;rcases l with l | ⟨k,c,e,z⟩
  ·exact .inl l
  ·exact .inr ⟨k,c,e,cellK x c e _ z⟩
 ·obtain ⟨v,z⟩:=I.cell x c e;exact ⟨v,cellK x c e v z⟩
 ·obtain ⟨m,⟨o,_,_,ho,_⟩,_⟩:=I.loc;exact free _ o (fun z=>(hch _ z).2.1 rfl) ho I.free
 ·obtain ⟨v,o,ho,hd⟩:=I.cell x c e;exact free c o (fun z=>(hch c z).2.2.1 x c e rfl) ho (I.freeC x c e)
 ·obtain ⟨e,n,ne,nf,d⟩:=I.pin p hp;have nch:p.1 ∉ ch:=fun z=>(hch p.1 z).2.2.2 p hp rfl
  exact ⟨keep p.1 p.2 ne nf nch e n,free p.1 p.2 nch e n,ne,nf,d⟩
theorem Aq.un {t':Nat} (I:Aq X pins σ H s) (u:Un X.fs [] H H' s.heap h') (hok:FT X.prog X.w H' h'):Aq X pins σ H' { s with heap:=h',toks:=t' }:=by
 obtain ⟨m,⟨o,es,ep,ho,r⟩,_⟩:=id I.loc;obtain ⟨sl,hL⟩:=u.any ho I.free gl;exact I.step (g':=s.gens) (d':=s.drawn) (ch:=[]) (fun _ z=>nomatch z) (fun b o _ hb _ e n=>u.keep b o e n hb gl) (fun b o _ hb _ e n=>u.slot b o e n hb gl) (fun b o _ e n=>u.free b o e n gl) (fun b o _ e=>u.there b o e gl) u.tups u.frzs u.tbls (fun m' hm=>by
  obtain ⟨o',Ui,Ul,JE,r'⟩:=hm;rw [ho] at JE; cases JE;exact ⟨_,Ui,Ul,hL,r'⟩) hok I.bare
theorem Aq.call {g':Array GenState} {t':Nat} {d':Drawn} {ch:List Addr} (I:Aq X pins σ H s) (u:Un (Sv X.stack) ch H H' s.heap h') (hok:FT X.prog X.w H' h') (hg:AllBare g')
  (hch:∀ b ∈ ch,(b ∈ X.ex\/X.s₀.heap.objs.size<=b)/\b ≠ X.env.locals/\(∀ x c,X.env.cells.lookup x=some c->c ≠ b)/\∀ p ∈ X.pn ++ pins,p.1 ≠ b) :
  Aq X pins σ H' { s with heap:=h',gens:=g',drawn:=d',toks:=t' }:=by
 obtain ⟨m,⟨o,es,ep,ho,r⟩,_⟩:=id I.loc;obtain ⟨sl,hL⟩:=u.any ho I.free fun z=>(hch _ z).2.1 rfl
 exact I.step (ch:=ch) hch (fun b o hL hb hc e n=>u.keep b o e n (fun z=>(ZZ.mp (I.stkSub b z)).elim hL hb) hc) (fun b o _ _ hc e n=>u.any e n hc) (fun b o hc e n=>u.free b o e n hc) (fun b o hc e=>u.there b o e hc) u.tups u.frzs u.tbls (fun m' hm=>by
  obtain ⟨o',Ui,Ul,JE,r'⟩:=hm;rw [ho] at JE; cases JE;exact ⟨_,Ui,Ul,hL,r'⟩) hok hg
theorem Aq.turned {t':Nat} {it:Addr} (I:Aq X pins σ H s) (k:∀ b o,b ≠ it->s.heap.get? b=some o->h'.get? b=some o) (hn:H it=none) (hL:it ≠ X.env.locals)
  (h1:it ∈ X.ex\/X.s₀.heap.objs.size<=it) (h2:∀ x c,X.env.cells.lookup x=some c->c ≠ it) (h3:∀ p ∈ X.pn ++ pins,p.1 ≠ it):Aq X pins σ H { s with heap:=h',toks:=t' }:=by
 have nit:∀ b u,H b=some u->b ≠ it:=fun b u e z=>by rw [z,hn] at e; cases e
 refine I.step (g':=s.gens) (d':=s.drawn) (ch:=[it]) (fun b hb=>?_) (fun b o _ _ hc e _=>k b o (fun z=>hc (by simp [z])) e) (fun b o _ _ hc e _=>⟨o.slots,k b o (fun z=>hc (by simp [z])) e⟩) (fun _ _ _ _ n=>n)
  (fun b o hc e=>⟨o,k b o (fun z=>hc (by simp [z])) e⟩) (fun _ _ e=>e) (fun _ _ _ e=>e) (fun b ps e=>⟨#[],by rw [e]; simp⟩) (fun m hm=>?_) (fun b u e=>?_) I.bare
 ·have e:b=it:=by simpa using hb
  subst e;exact ⟨h1,hL,h2,h3⟩
 ·obtain ⟨o,es,ep,ho,r⟩:=hm;exact ⟨o,es,ep,k _ o (Ne.symm hL) ho,r⟩
 ·refine (I.hok b u e).stay (fun c v hc q=>k c v ?_ q) (fun _ q=>q) fun _ _ q=>q
  rcases hc with z | z
  ·rw [z]; exact nit b u e
  ·exact nit c _ z
theorem Aq.tok (I:Aq X pins σ H s) (t:Nat):Aq X pins σ H { s with toks:=t }:=I.un (h':=s.heap) (t':=t) Un.refl I.hok
theorem Aq.kept {t':Nat} (I:Aq X pins σ H s) (k:∀ b u,s.heap.get? b=some u->h'.get? b=some u):Aq X pins σ H { s with heap:=h',toks:=t' }:=I.un (Un.kept k) (I.hok.kept k)
theorem Aq.laid {a:Addr} {o:HO} {t':Nat} (I:Aq X pins σ H s) (k:∀ b u,s.heap.get? b=some u->h'.get? b=some u) (hp:s.heap.objs.size<=a) (new:AE X.prog X.w (upd H a o) h' a o) :
  Aq X pins σ (upd H a o) { s with heap:=h',toks:=t' }:=I.un (Un.laid k hp (I.hok.fresh hp)) (I.hok.laid k hp new)
theorem Aq.write {x e:Addr} {o:HO} {t':Nat} (I:Aq X pins σ H s) (mu:Mut (H x)) (he:e=x\/H e=some (.own x)) (k:∀ b u,b ≠ e->s.heap.get? b=some u->h'.get? b=some u) (heo:∃ u,h'.get? e=some u)
  (new:AE X.prog X.w (upd H x o) h' x o):Aq X pins σ (upd H x o) { s with heap:=h',toks:=t' }:=I.un (Un.write mu he k heo) (I.hok.write mu he k heo new)
theorem Aq.pins_of {UG:List cr} (I:Aq X pins σ H s) (h:∀ p ∈ UG,s.heap.get? p.1=some p.2/\H p.1=none/\p.1 ≠ X.env.locals/\p.1 ∉ X.fs/\∀ v,p.2.data ≠ .cell v):Aq X UG σ H s:=
 ⟨I.ok,I.os,I.bare,I.base,I.loc,I.cell,I.free,I.freeC,fun p hp=>(ak.mp hp).elim (fun z=>I.pin p (bx _ z)) (h p),I.hok,I.len⟩
theorem IP {N:List Str} (hN:N.Nodup) {i j:Nat} {x:Str} (a:N[i]? = some x) (b:N[j]? = some x):i=j:=by
 obtain ⟨h1,e1⟩:=ZT.mp a;obtain ⟨h2,e2⟩:=ZT.mp b;exact (cG hN).mp (e1.trans e2.symm)
theorem Fg {M:Model} {A:Around} {E:Value->Shared->Prop} {i:Nat} {x:Str} {v:V} {u:Value} {Q:Unit->Shared->Prop} (I:Aq X pins σ H s) (hN:X.N.Nodup) (hi:X.N[i]? = some x) (hx:Wo X.env.scope x) (r:AA v u)
  (h:∀ s',Aq X pins (σ.set i (some v)) H s'->(∃ a,Heap.SameBut a s.heap s'.heap/\(a=X.env.locals\/X.env.cells.lookup x=some a))->Q () s') (hf:X.fn x=true\/X.env.scope.names.lookup x=some .local:=by first | exact .inl rfl | exact .inr rfl | assumption):wpAny M A (storeName X.env x u) Q E s:=by
 obtain ⟨m,hn,hl⟩:=id I.loc;have hcls:(X.env.scope.kind == .class || (X.env.scope.kind == .module && X.env.locals != X.env.globals))=false:=by rw [I.ok.kind]; rfl
 have hiσ:i < σ.length:=by rw [I.len]; exact (ZT.mp hi).1
 have cne:=I.cne;have tracked:∀ {a:Addr} {h':Heap},(∃ o,s.heap.get? a=some o/\H a=none)->Heap.SameBut a s.heap h'->FT X.prog X.w H h':=fun {a h'} ha hs b ob e=>by
  obtain ⟨_,_,hfree⟩:=ha;refine (I.hok b ob e).stay (fun c w' hc q=>(hs.2 c ?_).trans q) (fun _ q=>q) fun _ _ q=>q
  rintro rfl;rcases hc with rfl | hc
  ·rw [hfree] at e; cases e
  ·rw [hfree] at hc; cases hc
 rcases hx with hk | hk
 ·refine wpAny_storeName_local hk hn (fun h' Ye hs=>?_) hcls;obtain ⟨oL,_,_,hoL,_⟩:=id hn;refine h _ ⟨I.ok,I.os,I.bare,⟨fun b o e n hb hx=>?_,fun b o e n hb hx=>?_,I.base.free,fun b o e hx=>?_,I.base.tups,I.base.frzs,I.base.tbls⟩,⟨_,Ye,fun j y v' e1 e2 e3=>?_⟩,fun y c e=>?_,I.free,I.freeC,fun p hp=>?_,tracked ⟨oL,hoL,I.free⟩ hs,by simpa using I.len⟩ ⟨_,hs,.inl rfl⟩
  ·exact (hs.2 b (ab (af (ZW e) I.ok.above))).trans (I.base.keep b o e n hb hx)
  ·obtain ⟨sl,e1⟩:=I.base.slot b o e n hb hx;exact ⟨sl,(hs.2 b (ab (af (ZW e) I.ok.above))).trans e1⟩
  ·obtain ⟨o',e1⟩:=I.base.there b o e hx;exact ⟨o',(hs.2 b (ab (af (ZW e) I.ok.above))).trans e1⟩
  ·by_cases hj:j=i
   ·subst hj;rw [hi] at e1; cases e1;rw [eR hiσ] at e2;cases e2
    exact ⟨u,r,.inl ⟨hk,by simp⟩⟩
   ·rw [fb (Ne.symm hj)] at e2;obtain ⟨u',r',q⟩:=hl j y v' e1 e2 e3;exists u',r';rcases q with ⟨k,e⟩ | ⟨k,c,e,z⟩
    ·refine .inl ⟨k,?_⟩;have:y ≠ x:=fun e=>hj (IP hN e1 (e ▸ hi))
     simp [this,e]
    ·exact .inr ⟨k,c,e,z.sameBut hs (cne y c e)⟩
  ·obtain ⟨w',z⟩:=I.cell y c e;exact ⟨w',z.sameBut hs (cne y c e)⟩
  ·obtain ⟨e,n,ne,nf,d⟩:=I.pin p hp;exact ⟨(hs.2 p.1 ne).trans e,n,ne,nf,d⟩
 ·have hfn:X.fn x=true:=by
   rcases hf with z | z
   ·exact z
   ·rw [z] at hk; cases hk
  obtain ⟨c,hc⟩:=I.ok.has x (.inl hk);obtain ⟨w',z⟩:=I.cell x c hc;refine wpAny_storeName_cell I.ok.kind hk hc z (fun h' Ii hs=>?_);obtain ⟨oc,hoc,hocd⟩:=id z;refine h { s with heap:=h' } ⟨I.ok,I.os,I.bare,⟨fun b o e n hb hx=>?_,fun b o e n hb hx=>?_,I.base.free,fun b o e hx=>?_,I.base.tups,I.base.frzs,I.base.tbls⟩,⟨m,hn.sameBut hs (Ne.symm (cne x c hc)),fun j y v' e1 e2 e3=>?_⟩,fun y c' e=>?_,I.free,I.freeC,fun p hp=>?_,tracked ⟨oc,hoc,I.freeC x c hc⟩ hs,by simpa using I.len⟩ ⟨c,hs,.inr hc⟩
  ·exact (hs.2 b (ab (af (ZW e) (I.ok.cab x c hfn hc)))).trans (I.base.keep b o e n hb hx)
  ·obtain ⟨sl,e1⟩:=I.base.slot b o e n hb hx;exact ⟨sl,(hs.2 b (ab (af (ZW e) (I.ok.cab x c hfn hc)))).trans e1⟩
  ·obtain ⟨o',e1⟩:=I.base.there b o e hx;exact ⟨o',(hs.2 b (ab (af (ZW e) (I.ok.cab x c hfn hc)))).trans e1⟩
  ·by_cases hj:j=i
   ·subst hj;rw [hi] at e1; cases e1;rw [eR hiσ] at e2;cases e2
    exact ⟨u,r,.inr ⟨.inl hk,c,hc,Ii⟩⟩
   ·rw [fb (Ne.symm hj)] at e2;obtain ⟨u',r',q⟩:=hl j y v' e1 e2 e3;exists u',r';rcases q with q | ⟨k,c',e,z'⟩
    ·exact .inl q
    ·refine .inr ⟨k,c',e,z'.sameBut hs ?_⟩;rintro rfl;exact hj (IP hN e1 (I.ok.inj _ _ _ e hc ▸ hi))
  ·by_cases hcc:c'=c
   ·subst hcc; exact ⟨_,Ii⟩
   ·obtain ⟨w2,z2⟩:=I.cell y c' e;exact ⟨w2,z2.sameBut hs hcc⟩
  ·obtain ⟨e,n,ne,nf,d⟩:=I.pin p hp;refine ⟨(hs.2 p.1 ?_).trans e,n,ne,nf,d⟩;intro q;rw [q,hoc] at e;have q':oc=p.2:=ar.inj e;exact d w' (by rw [<-q']; exact hocd)
theorem LD {M:Model} {A:Around} {E:Value->Shared->Prop} {i:Nat} {x:Str} {v:V} {u:Value} {Q:Unit->Shared->Prop} (I:Aq X pins σ H s) (hN:X.N.Nodup) (hi:X.N[i]? = some x) (hx:Wo X.env.scope x) (r:AA v u)
  (h:∀ s',Aq X pins (σ.set i (some v)) H s'->Q () s') (hf:X.fn x=true\/X.env.scope.names.lookup x=some .local:=by first | exact .inl rfl | exact .inr rfl | assumption):wpAny M A (storeName X.env x u) Q E s:=
 Fg I hN hi hx r (fun s' I' _=>h s' I') hf
theorem Aq.call' {s':Shared} {ch:List Addr} (I:Aq X pins σ H s) (ho:s'.os=s.os) (u:Un (Sv X.stack) ch H H' s.heap s'.heap) (hok:FT X.prog X.w H' s'.heap) (hg:AllBare s'.gens)
  (hch:∀ b ∈ ch,(b ∈ X.ex\/X.s₀.heap.objs.size<=b)/\b ≠ X.env.locals/\(∀ x c,X.env.cells.lookup x=some c->c ≠ b)/\∀ p ∈ X.pn ++ pins,p.1 ≠ b):Aq X pins σ H' s':=by
 obtain ⟨h',g',d',t',o'⟩:=s';have e:o'=s.os:=ho;subst e;exact I.call (g':=g') (t':=t') (d':=d') u hok hg hch
end
abbrev XK:=Value->Option Addr->Hp->Prop
abbrev St:=List (Option V)
abbrev VK:=V->Hp->Prop
abbrev TE:=St->Hp->VK->Prop
abbrev TT:=St->Hp->(Bool->Hp->Prop)->Prop
abbrev TA:=St->Hp->(List V->Hp->Prop)->Prop
structure Fe where
 nx:St->Hp->Prop
 rt:VK
 bk:St->Hp->Prop:=fun _ _=>False
 ct:St->Hp->Prop:=fun _ _=>False
abbrev TS:=Fe->St->Hp->Prop
def EP (X:Cx) (pins:List cr) (σ:St) (Q:VK) (u:Value) (s':Shared):Prop:=∃ v H',Aq X pins σ H' s'/\AA v u/\Q v H'
def TP (X:Cx) (pins:List cr) (σ:St) (Q:Bool->Hp->Prop) (b:Bool) (s':Shared):Prop:=∃ H',Aq X pins σ H' s'/\Q b H'
def AP (X:Cx) (pins:List cr) (σ:St) (Q:List V->Hp->Prop) (us:List Value) (s':Shared):Prop:=∃ vs H',Aq X pins σ H' s'/\A9 vs us/\Q vs H'
def SP (X:Cx) (pins:List cr) (D:Fe) (f:Flow) (s':Shared):Prop:=
 match f with
 | .next=>∃ A2 H',Aq X pins A2 H' s'/\D.nx A2 H'
 | .brk=>∃ A2 H',Aq X pins A2 H' s'/\D.bk A2 H'
 | .cont=>∃ A2 H',Aq X pins A2 H' s'/\D.ct A2 H'
 | .ret u=>∃ v A2 H',Aq X pins A2 H' s'/\AA v u/\D.rt v H'
def PE (X:Cx) (e:Expr) (t:TE):Prop:=
 ∀ ⦃pins:List cr⦄ (s:Shared) (σ:St) (H:Hp) (Q:VK),Aq X pins σ H s->t σ H Q->wpAny dL X.A (eval e X.env) (EP X pins σ Q) X.xe s
def PT (X:Cx) (e:Expr) (t:TT):Prop:=
 ∀ ⦃pins:List cr⦄ (s:Shared) (σ:St) (H:Hp) (Q:Bool->Hp->Prop),Aq X pins σ H s->t σ H Q->wpAny dL X.A (isTrue e X.env (eval e X.env)) (TP X pins σ Q) X.xe s
def PW (X:Cx) (e:Expr) (t:TT):Prop:=
 ∀ ⦃whole:Sem Value⦄ (pins:List cr) (s:Shared) (σ:St) (H:Hp) (Q:Bool->Hp->Prop),Aq X pins σ H s->t σ H Q->wpAny dL X.A (isTrue e X.env whole) (TP X pins σ Q) X.xe s
theorem PW.pt {X:Cx} {e:Expr} {t:TT} (h:PW X e t):PT X e t:=@h _
def PA (X:Cx) (es:List Expr) (t:TA):Prop:=
 ∀ ⦃pos:Pos⦄ (pins:List cr) (s:Shared) (σ:St) (H:Hp) (Q:List V->Hp->Prop),Aq X pins σ H s->t σ H Q->wpAny dL X.A (spliced (backTo pos (starEach es X.env))) (AP X pins σ Q) X.xe s
def PS (X:Cx) (st:Stmt) (t:TS):Prop:=
 ∀ ⦃pins:List cr⦄ (s:Shared) (σ:St) (H:Hp) (D:Fe),Aq X pins σ H s->t D σ H->wpAny dL X.A (exec st X.env) (SP X pins D) X.xe s
def M8 (X:Cx) (st:List Stmt) (t:TS):Prop:=
 ∀ ⦃pins:List cr⦄ (s:Shared) (σ:St) (H:Hp) (D:Fe),Aq X pins σ H s->t D σ H->wpAny dL X.A (execs st X.env) (SP X pins D) X.xe s
theorem B5 {α:Type} {t:Sem α} {Q Q':α->Shared->Prop} {M:Model} {A:Around} {E:Value->Shared->Prop} {s:Shared} (h:wpAny M A t Q E s) (hQ:∀ a s,Q a s->Q' a s):wpAny M A t Q' E s:=wpAny_mono h hQ fun _ _ x=>x
section
variable {X:Cx}
def Tf (i:Nat):TE:=fun σ H Q=>∃ v,σ[i]? = some (some v)/\Q v H
def tC (v:V):TE:=fun _ H Q=>Q v H
theorem V6 {i:Nat} {x:Str} {pos:Pos} (hN:X.N[i]? = some x) (hv:Vis X.env.scope x) (hd:(x == ("__debug__":Str))=false:=by decide) (hcd:(x == ("__classdict__":Str))=false:=by decide):PE X (.Name x pos) (Tf i):=by
 intro pins s σ H Q I h;obtain ⟨v,e,h⟩:=h;obtain ⟨m,hn,hl⟩:=I.loc;obtain ⟨u,r,l⟩:=hl i x v hN e hv;have fin:EP X pins σ Q u s:=⟨v,H,I,r,h⟩
 rcases l with ⟨hk,hm⟩ | ⟨hk,c,hc,hcell⟩
 ·exact wpAny_Name (wpAny_loadName_local I.ok.kind hk hn hm fin) hd
 ·rcases hk with hk | hk
  ·exact wpAny_Name (wpAny_loadName_cell I.ok.kind hk hc hcell fin) hd
  ·exact wpAny_Name (wpAny_loadName_free I.ok.kind hk hc hcell fin hcd) hd
theorem Ag {i j pos}:PE X (.Constant (.int i) j pos) (tC (.int i)):=fun _ _ _ H _ I h=>wpAny_Constant_int ⟨.int i,H,I.tok _,⟨_,rfl⟩,h⟩
theorem LX {b j pos}:PE X (.Constant (.bool b) j pos) (tC (.bl b)):=fun _ _ _ H _ I h=>Constant_bool ⟨.bl b,H,I,rfl,h⟩
theorem FC {j pos}:PE X (.Constant .none j pos) (tC .non):=fun _ _ _ H _ I h=>Constant_none ⟨.non,H,I,rfl,h⟩
theorem CD {x j pos}:PE X (.Constant (.str x) j pos) (tC (.str x)):=fun _ _ _ H _ I h=>Calls.Constant_str ⟨.str x,H,I.tok _,⟨_,rfl⟩,h⟩
def Gl (X:Cx) (x:Str):Prop:=X.env.kindOf x=some .globalImplicit
theorem OA {E:Value->Shared->Prop} {pins:List cr} {s:Shared} {σ:St} {H:Hp} {x:Str} {u:Value} {pos:Pos} {Q:Value->Shared->Prop} (I:Aq X pins σ H s) (hg:Gl X x) (hm:X.mg x=some u) (h:Q u s)
  (hd:(x == ("__debug__":Str))=false:=by decide):wpAny dL X.A (eval (.Name x pos) X.env) Q E s:=
 Calls.Name_function_global I.ok.kind hg (Calls.loadGlobal_global (by rw [I.ok.glob]; exact I.mod.glob.keeps I.bk) hm h) hd
theorem GI {E:Value->Shared->Prop} {pins:List cr} {s:Shared} {σ:St} {H:Hp} {x:Str} {u:Value} {pos:Pos} {Q:Value->Shared->Prop} (I:Aq X pins σ H s) (hg:Gl X x) (hm:X.mg x=none) (hv:bootBuiltins x=some u) (h:Q u s)
  (hn:x ≠ "__name__":=by decide) (hd:(x == ("__debug__":Str))=false:=by decide):wpAny dL X.A (eval (.Name x pos) X.env) Q E s:=by
 obtain ⟨mb,h1,h2⟩:=I.mod.blt;exact Calls.Name_function_global I.ok.kind hg (Calls.loadGlobal_builtin (by rw [I.ok.glob]; exact I.mod.glob.keeps I.bk) hm (by rw [I.ok.blt]; exact h1.keeps I.bk) ((h2 x hn).trans hv) h) hd
theorem Ld {x:Str} {v:V} {u:Value} {pos:Pos} (hg:Gl X x) (hm:X.mg x=some u) (r:AA v u) (hd:(x == ("__debug__":Str))=false:=by decide):PE X (.Name x pos) (tC v):=
 fun _ _ _ H _ I h=>OA I hg hm ⟨v,H,I,r,h⟩ hd
theorem Oy {x:Str} {v:V} {u:Value} {pos:Pos} (hg:Gl X x) (hm:X.mg x=none) (hv:bootBuiltins x=some u) (r:AA v u) (hn:x ≠ "__name__":=by decide) (hd:(x == ("__debug__":Str))=false:=by decide):PE X (.Name x pos) (tC v):=
 fun _ _ _ H _ I h=>GI I hg hm hv ⟨v,H,I,r,h⟩ hn hd
variable {a b:Expr} {ta tb:TE} {pos:Pos}
def PC (X:Cx) (op:CmpOp) (a b:Expr) (t:TE):Prop:=
 ∀ ⦃pins:List cr⦄ (s:Shared) (σ:St) (H:Hp) (Q:VK),Aq X pins σ H s->t σ H Q ->
  wpAny dL X.A (eval a X.env) (fun v AQ=>wpAny dL X.A (eval b X.env) (fun u E6=>wpAny dL X.A (compareOp op v u) (EP X pins σ Q) X.xe E6) X.xe AQ) X.xe s
theorem Mg (b:Expr) {op:CmpOp} (h:op ≠ .In) (h2:op ≠ .NotIn):behindInMarks op b=false:=by
 have e1:(op == CmpOp.In)=false:=by cases op <;> first | rfl | exact absurd rfl h
 have e2:(op == CmpOp.NotIn)=false:=by cases op <;> first | rfl | exact absurd rfl h2
 cases b <;> simp [behindInMarks,e1,e2]
def tIsN (ta:TE):TE:=fun σ H Q=>ta σ H fun x H1=>Q (.bl (decide (x=.non))) H1
def tNotN (ta:TE):TE:=fun σ H Q=>ta σ H fun x H1=>Q (.bl (!decide (x=.non))) H1
theorem AA.none_iff {x:V} {v:Value} (r:AA x v):(v == Value.none)=decide (x=.non):=by
 cases x with
 | non=>cases r; rfl
 | bl _=>cases r; rfl
 | int _=>obtain ⟨t,rfl⟩:=r; rfl
 | str _=>obtain ⟨t,rfl⟩:=r; rfl
 | byt _=>obtain ⟨t,rfl⟩:=r; rfl
 | flt _=>obtain ⟨t,rfl⟩:=r; rfl
 | ref _=>cases r; rfl
 | ty _=>cases r; rfl
theorem IG {j pos'} (ha:PE X a ta):PC X .Is a (.Constant .none j pos') (tIsN ta):=by
 intro pins s σ H Q I h;refine B5 ip fun v s1 ⟨x,H1,I1,r1,q1⟩=>?_
 exact Constant_none (is_none_gen ⟨.bl _,H1,I1,by rw [r1.none_iff]; rfl,q1⟩)
theorem Ic {j pos'} (ha:PE X a ta):PC X .IsNot a (.Constant .none j pos') (tNotN ta):=by
 intro pins s σ H Q I h;refine B5 ip fun v s1 ⟨x,H1,I1,r1,q1⟩=>?_
 exact Constant_none (isnot_none_gen ⟨.bl _,H1,I1,by rw [r1.none_iff]; rfl,q1⟩)
def tB (t:TE):TT:=fun σ H Q=>t σ H fun x H1=>∃ c,x=.bl c/\Q c H1
theorem RI {op:CmpOp} {t:TE} (h:PC X op a b t) (h1:behindInMarks op b=false:=by first | exact Mg _ bi bi | rfl):PE X (.Compare a [op] [b] pos) t:=fun pins s σ H Q I hw=>wpAny_Compare1 (h (pins:=pins) s σ H Q I hw) h1
theorem DG {op:CmpOp} {t:TE} (h:PC X op a b t) (h1:behindInMarks op b=false:=by first | exact Mg _ bi bi | rfl):PT X (.Compare a [op] [b] pos) (tB t):=by
 intro pins s σ H Q I hw;refine wpAny_isTrue_Compare1 (B5 (h (pins:=pins) s σ H _ I hw) fun v s1 h1=>B5 h1 fun u s2 h2=>B5 h2 fun c s3 ⟨x,H1,I1,r1,q1⟩=>?_) h1;obtain ⟨d,rfl,q⟩:=q1;cases r1
 exact wpAny_truthy_bool ⟨H1,I1,q⟩
theorem La {e:Expr} {t:TE} (h:PE X e t) (he:∀ whole,isTrue e X.env whole=(do let v <- whole; standAt e.pos; holding [v] (truthy v)):=by intro _; rfl):PT X e (tB t):=by
 intro pins s σ H Q I hw;refine isTrue_plain (B5 (h (pins:=pins) s σ H _ I hw) fun v s1 ⟨x,H1,I1,r1,q1⟩=>?_) (he _);obtain ⟨d,rfl,q⟩:=q1;cases r1
 exact wpAny_truthy_bool ⟨H1,I1,q⟩
variable {tA XD:TT} {CC:List Expr}
def tAnd (t u:TT):TT:=fun σ H Q=>t σ H fun c H1=>if c=true then u σ H1 Q else Q false H1
def tOr (t u:TT):TT:=fun σ H Q=>t σ H fun c H1=>if c=true then Q true H1 else u σ H1 Q
def tNot (t:TT):TT:=fun σ H Q=>t σ H fun c H1=>Q (!c) H1
theorem Oo (ha:PT X a tA):PW X (.BoolOp .And [a] pos) tA:=by
 intro wh pins s σ H Q I h;refine isTrue_and (B5 (ha (pins:=pins) s σ H Q I h) fun c s1 e=>?_);cases c with
 | true=>exact isTrue_and_nil e
 | false=>exact e
theorem Iy (ha:PT X a tA):PW X (.BoolOp .Or [a] pos) tA:=by
 intro wh pins s σ H Q I h;refine isTrue_or (B5 (ha (pins:=pins) s σ H Q I h) fun c s1 e=>?_);cases c with
 | false=>exact isTrue_or_nil e
 | true=>exact e
theorem Nb (ha:PT X a tA) (hb:PW X (.BoolOp .And (b :: CC) pos) XD):PW X (.BoolOp .And (a :: b :: CC) pos) (tAnd tA XD):=by
 intro wh pins s σ H Q I h;refine isTrue_and (B5 ip fun c s1 ⟨H1,I1,q1⟩=>?_);cases c with
 | true=>exact hb (whole:=wh) (pins:=pins) s1 σ H1 Q I1 q1
 | false=>exact ⟨H1,I1,q1⟩
theorem LS (ha:PT X a tA) (hb:PW X (.BoolOp .Or (b :: CC) pos) XD):PW X (.BoolOp .Or (a :: b :: CC) pos) (tOr tA XD):=by
 intro wh pins s σ H Q I h;refine isTrue_or (B5 ip fun c s1 ⟨H1,I1,q1⟩=>?_);cases c with
 | true=>exact ⟨H1,I1,q1⟩
 | false=>exact hb (whole:=wh) (pins:=pins) s1 σ H1 Q I1 q1
theorem IA (ha:PT X a tA):PT X (.UnaryOp .Not a pos) (tNot tA):=by
 intro pins s σ H Q I h;exact isTrue_not (ha (pins:=pins) s σ H (fun c H1=>Q (!c) H1) I h)
def tAndV (ta tb:TE):TE:=fun σ H Q=>ta σ H fun x H1=>∃ c,x=.bl c/\if c=true then tb σ H1 Q else Q (.bl false) H1
theorem RG {op} {t:TE} (h:PE X a t):PE X (.BoolOp op [a] pos) t:=fun pins s σ H Q I hw=>BoolOp_one (h (pins:=pins) s σ H Q I hw)
theorem RM (ha:PE X a ta) (hb:PE X (.BoolOp .And (b :: CC) pos) tb):PE X (.BoolOp .And (a :: b :: CC) pos) (tAndV ta tb):=by
 intro pins s σ H Q I h;refine BoolOp_and (B5 ip fun v s1 ⟨x,H1,I1,r1,q1⟩=>?_);obtain ⟨c,rfl,q1⟩:=q1;cases r1
 refine wpAny_truthy_bool ?_;cases c with
 | true=>exact hb (pins:=pins) s1 σ H1 Q I1 q1
 | false=>exact ⟨.bl false,H1,I1,rfl,q1⟩
def tIf (t:TT) (ta tb:TE):TE:=fun σ H Q=>t σ H fun c H1=>if c=true then ta σ H1 Q else tb σ H1 Q
theorem ID {c:Expr} (hc:PT X c tA) (ha:PE X a ta) (hb:PE X b tb):PE X (.IfExp c a b pos) (tIf tA ta tb):=by
 intro pins s σ H Q I h;refine wpAny_IfExp (B5 (hc (pins:=pins) s σ H _ I h) fun d s1 ⟨H1,I1,q1⟩=>?_);cases d with
 | true=>exact ha (pins:=pins) s1 σ H1 Q I1 q1
 | false=>exact hb (pins:=pins) s1 σ H1 Q I1 q1
end
def AB (K:ZP) (H:Hp) (a:Addr) (xs:List V):Prop:=
 Rd H a (.lst xs) \/
  ∃ (o:Obj) (As:Array Value) (n:Nat),K.lookup a=some o/\o.cls=.type "list"/\o.dict=none/\o.data=.seq As n/\As.size<=sizeLine/\A9 xs As.toList
def AI (K:ZP) (H:Hp) (a:Addr) (xs:List V):Prop:=
 Rd H a gX \/
  ∃ (o:Obj) (As:Array Value) (n:Nat),K.lookup a=some o/\o.cls=.type "tuple"/\o.data=.seq As n/\As.size<=sizeLine/\A9 xs As.toList
def absV:Value->Option V
 | .none=>some .non
 | .bool b=>some (.bl b)
 | .int i _=>some (.int i)
 | .str x _=>some (.str x)
 | .bytes b _=>some (.byt b)
 | .float b _=>some (.flt b)
 | .ref a=>some (.ref a)
 | .type n=>some (.ty n)
 | _=>none
theorem AA.abs {x:V} {u:Value} (r:AA x u):absV u=some x:=by
 cases x with
 | non=>cases r; rfl
 | bl _=>cases r; rfl
 | int _=>obtain ⟨t,rfl⟩:=r; rfl
 | str _=>obtain ⟨t,rfl⟩:=r; rfl
 | byt _=>obtain ⟨t,rfl⟩:=r; rfl
 | flt _=>obtain ⟨t,rfl⟩:=r; rfl
 | ref _=>cases r; rfl
 | ty _=>cases r; rfl
theorem AA.inj {x y:V} {u:Value} (r:AA x u) (q:AA y u):x=y:=ar.inj (r.abs.symm.trans q.abs)
theorem A9.inj:∀ {xs ys:List V} {us:List Value},A9 xs us->A9 ys us->xs=ys
 | _,_,_,.nil,.nil=>rfl
 | _,_,_,.cons r t,.cons r' t'=>by rw [r.inj r',A9.inj t t']
section
variable {X:Cx} {pins:List cr} {σ:St} {H:Hp} {s:Shared} {a:Addr} {xs ys:List V}
theorem AB.of {K:ZP} (h:H a=some (.lst xs)):AB K H a xs:=.inl (.inl h)
theorem AI.of {K:ZP} (h:H a=some gX):AI K H a xs:=.inl (.inl h)
theorem Aq.list (I:Aq X pins σ H s) (h:AB X.K H a xs):∃ As:List Value,A9 xs As/\PlainL s.heap a As.toArray/\xs.length<=sizeLine:=by
 rcases h with h | ⟨o,As,n,hk,hc,hd,hs,hz,r⟩
 ·obtain ⟨z,As,n,r,e⟩:=h.ok I.hok;exact ⟨As,r,⟨_,n,e,rfl,rfl,rfl⟩,z⟩
 ·exists As.toList,r,⟨o,n,I.kIn a o hk,hc,hd,by simpa using hs⟩
  have e:=r.length;simp only [aH] at e;lia
theorem Aq.tuple (I:Aq X pins σ H s) (h:AI X.K H a xs):∃ As:List Value,A9 xs As/\IsTup s.heap a As.toArray/\xs.length<=sizeLine:=by
 rcases h with h | ⟨o,As,n,hk,hc,hs,hz,r⟩
 ·obtain ⟨z,As,r,p,_⟩:=h.ok I.hok;exact ⟨As,r,p,z⟩
 ·exists As.toList,r,⟨o,I.kIn a o hk,hc,n,by simpa using hs⟩
  have e:=r.length;simp only [aH] at e;lia
theorem Aq.list_inj (I:Aq X pins σ H s) (h:AB X.K H a xs) (h':AB X.K H a ys):xs=ys:=by
 obtain ⟨As,r,⟨o,n,e,_,_,d⟩,_⟩:=I.list h;obtain ⟨its',r',⟨o',n',e',_,_,d'⟩,_⟩:=I.list h';rw [e] at e'; cases e';rw [d] at d';injection d' with d1 _;have:As=its':=by simpa using congrArg dW d1
 subst this;exact r.inj r'
theorem Aq.tuple_inj (I:Aq X pins σ H s) (h:AI X.K H a xs) (h':AI X.K H a ys):xs=ys:=by
 obtain ⟨As,r,⟨o,e,_,n,d⟩,_⟩:=I.tuple h;obtain ⟨its',r',⟨o',e',_,n',d'⟩,_⟩:=I.tuple h';rw [e] at e'; cases e';rw [d] at d';injection d' with d1 _;have:As=its':=by simpa using congrArg dW d1
 subst this;exact r.inj r'
end
abbrev Cx.wish (X:Cx) (E:Value->Shared->Prop):Cx:={ X with xe:=E }
abbrev Cx.nox (X:Cx):Cx:=X.wish fun _ _=>False
theorem Cx.Ok.wish {X:Cx} (ok:X.Ok) (E:Value->Shared->Prop):(X.wish E).Ok:=
 ⟨ok.mod,ok.kind,ok.glob,ok.blt,ok.above,ok.inj,ok.has,ok.cab,ok.hd,ok.frames,ok.stk,ok.exf,ok.bs,ok.bsz,ok.noex,ok.exfs,ok.funs,ok.frf⟩
theorem Cx.Ok.unwish {X:Cx} {E:Value->Shared->Prop} (ok:(X.wish E).Ok):X.Ok:=
 ⟨ok.mod,ok.kind,ok.glob,ok.blt,ok.above,ok.inj,ok.has,ok.cab,ok.hd,ok.frames,ok.stk,ok.exf,ok.bs,ok.bsz,ok.noex,ok.exfs,ok.funs,ok.frf⟩
section
variable {X:Cx} {pins:List cr} {σ:St} {H:Hp} {s:Shared} {E:Value->Shared->Prop}
theorem Aq.wish (I:Aq X pins σ H s) (E:Value->Shared->Prop):Aq (X.wish E) pins σ H s:=⟨I.ok.wish E,I.os,I.bare,I.base,I.loc,I.cell,I.free,I.freeC,I.pin,I.hok,I.len⟩
theorem Aq.unwish (I:Aq (X.wish E) pins σ H s):Aq X pins σ H s:=⟨I.ok.unwish,I.os,I.bare,I.base,I.loc,I.cell,I.free,I.freeC,I.pin,I.hok,I.len⟩
theorem SP.unwish {D:Fe} {f:Flow} {s':Shared} (h:SP (X.wish E) pins D f s'):SP X pins D f s':=by
 cases f with
 | next=>obtain ⟨A2,H',I,q⟩:=h; exact ⟨A2,H',I.unwish,q⟩
 | brk=>obtain ⟨A2,H',I,q⟩:=h; exact ⟨A2,H',I.unwish,q⟩
 | cont=>obtain ⟨A2,H',I,q⟩:=h; exact ⟨A2,H',I.unwish,q⟩
 | ret u=>obtain ⟨v,A2,H',I,r,q⟩:=h; exact ⟨v,A2,H',I.unwish,r,q⟩
theorem M8.nox {st:List Stmt} {t:TS} (h:M8 X.nox st t):M8 X st t:=fun pins s σ H D I hw=>
 wpAny_mono (h (pins:=pins) s σ H D (I.wish _) hw) (fun _ _ q=>q.unwish) fun _ _ z=>False.elim z
end
section
variable {X:Cx} {st:Stmt} {CC:List Stmt} {t u:TS} {e:Expr} {te:TE} {pos:Pos}
def tNext:TS:=fun D σ H=>D.nx σ H
def tSeq (t u:TS):TS:=fun D σ H=>t { D with nx:=u D } σ H
theorem BH:M8 X [] tNext:=fun _ _ σ H _ I h=>wpAny_execs_nil ⟨σ,H,I,h⟩
theorem Ae (h1:PS X st t) (h2:M8 X CC u):M8 X (st :: CC) (tSeq t u):=by
 intro pins s σ H D I h;refine wpAny_execs_cons (B5 (h1 (pins:=pins) s σ H { D with nx:=u D } I h) fun f s1 q=>?_);cases f with
 | next=>
  obtain ⟨A2,H',I',q⟩:=q;exact h2 (pins:=pins) s1 A2 H' D I' q
 | ret v=>exact q
 | brk=>exact q
 | cont=>exact q
theorem Aj (h1:PS X st t):M8 X [st] t:=by
 intro pins s σ H D I h;refine wpAny_execs_cons (B5 (h1 (pins:=pins) s σ H D I h) fun f s1 q=>?_);cases f with
 | next=>exact wpAny_execs_nil q
 | ret v=>exact q
 | brk=>exact q
 | cont=>exact q
theorem Aq.quiet {pins:List cr} {σ:St} {H:Hp} {s:Shared} (I:Aq X pins σ H s):interactive X.env=false:=by simp [interactive,I.ok.kind]
def tDrop (te:TE):TS:=fun D σ H=>te σ H fun _ H1=>D.nx σ H1
theorem CP (he:PE X e te) (hs:swapsWith e none pos.line X.env=pure false:=by rfl):PS X (.Expr e pos) (tDrop te):=by
 intro pins s σ H D I h;exact wpAny_Expr_any (B5 (he (pins:=pins) s σ H _ I h) fun v s1 ⟨x,H1,I1,r1,q1⟩=>⟨σ,H1,I1,q1⟩) I.quiet hs
def tRet (te:TE):TS:=fun D σ H=>te σ H D.rt
theorem AJ (he:PE X e te):PS X (.Return (some e) pos) (tRet te):=by
 intro pins s σ H D I h;exact wpAny_Return_some (B5 (he (pins:=pins) s σ H _ I h) fun v s1 ⟨x,H1,I1,r1,q1⟩=>⟨x,σ,H1,I1,r1,q1⟩)
def tIfS (c:TT) (t u:TS):TS:=fun D σ H=>c σ H fun b H1=>if b=true then t D σ H1 else u D σ H1
theorem Dm {c:Expr} {a b:List Stmt} {tc:TT} (hc:PT X c tc) (ha:M8 X a t) (hb:M8 X b u):PS X (.If c a b pos) (tIfS tc t u):=by
 intro pins s σ H D I h;refine wpAny_If (B5 (hc (pins:=pins) s σ H _ I h) fun d s1 ⟨H1,I1,q1⟩=>?_);cases d with
 | true=>exact ha (pins:=pins) s1 σ H1 D I1 q1
 | false=>exact hb (pins:=pins) s1 σ H1 D I1 q1
end
abbrev TG:=V->St->Hp->(St->Hp->Prop)->Prop
abbrev Va:=List V->St->Hp->(St->Hp->Prop)->Prop
def PG (X:Cx) (target:Expr) (t:TG):Prop:=
 ∀ ⦃pins:List cr⦄ (s:Shared) (σ:St) (H:Hp) (v:V) (u:Value) (Q:St->Hp->Prop),Aq X pins σ H s->AA v u->t v σ H Q ->
  wpAny dL X.A (assign target X.env u) (fun _ s'=>∃ A2 H',Aq X pins A2 H' s'/\Q A2 H') X.xe s
def PGs (X:Cx) (ts:List Expr) (t:Va):Prop:=
 ∀ ⦃pins:List cr⦄ (s:Shared) (σ:St) (H:Hp) (vs:List V) (us:List Value) (Q:St->Hp->Prop),Aq X pins σ H s->A9 vs us->t vs σ H Q ->
  wpAny dL X.A (assignInOrder ((assignEach ts X.env).map (·.2)) us) (fun _ s'=>∃ A2 H',Aq X pins A2 H' s'/\Q A2 H') X.xe s
abbrev Wm:=V->V->V->Hp->(Hp->Prop)->Prop
def PSet (X:Cx) (t:Wm):Prop:=
 ∀ ⦃pins:List cr⦄ (s:Shared) (σ:St) (H:Hp) (o i v:V) (ov iv u:Value) (Q:Hp->Prop),Aq X pins σ H s->AA o ov->AA i iv->AA v u->t o i v H Q ->
  wpAny dL X.A (setItem ov iv u) (fun _ s'=>∃ H',Aq X pins σ H' s'/\Q H') X.xe s
section
variable {X:Cx} {pos:Pos}
def K0 (i:Nat):TG:=fun v σ H Q=>Q (σ.set i (some v)) H
theorem Ah {i:Nat} {x:Str} (hN:X.N.Nodup) (hi:X.N[i]? = some x) (hx:Wo X.env.scope x) (hf:X.fn x=true\/X.env.scope.names.lookup x=some .local:=by first | exact .inl rfl | exact .inr rfl | assumption):PG X (.Name x pos) (K0 i):=by
 intro pins s σ H v u Q I r h;exact wpAny_assign_Name (LD I hN hi hx r (fun s' I'=>⟨_,H,I',h⟩) hf)
def gNil:Va:=fun vs σ H Q=>vs=[]/\Q σ H
def gCons (t:TG) (u:Va):Va:=fun vs σ H Q=>∃ v r,vs=v :: r/\t v σ H fun A2 H'=>u r A2 H' Q
theorem BC:PGs X [] gNil:=by
 intro pins s σ H vs us Q I r h;obtain ⟨e,h⟩:=h;subst e;cases r
 exact assignInOrder_nil ⟨σ,H,I,h⟩
theorem Au {e:Expr} {es:List Expr} {t:TG} {u:Va} (h1:PG X e t) (h2:PGs X es u)
  (hs:(assignEach (e :: es) X.env).map (·.2)=assign e X.env :: (assignEach es X.env).map (·.2):=by rfl):PGs X (e :: es) (gCons t u):=by
 intro pins s σ H vs us Q I r h;obtain ⟨v,vr,e1,h⟩:=h;subst e1;cases r with
 | cons r rr=>
  rw [hs];refine assignInOrder_cons (B5 (h1 (pins:=pins) s σ H _ _ _ I r h) fun _ s1 ⟨Ws,H1,I1,q1⟩=>?_);exact h2 (pins:=pins) s1 Ws H1 _ _ Q I1 rr q1
def gTup (K:ZP) (n:Nat) (t:Va):TG:=fun v σ H Q=>∃ a xs,v=.ref a/\AI K H a xs/\xs.length=n/\t xs σ H Q
theorem V5 {es:List Expr} {k:Nat} {t:Va} {n:Nat} (hc:X.calm=true) (h:PGs X es t)
  (hn:(assignEach es X.env).length=n:=by rfl) (hst:(assignEach es X.env).findIdx? (·.1)=none:=by rfl):PG X (.Tuple es k pos) (gTup X.K n t):=by
 intro pins s σ H v u Q I r hw;obtain ⟨a,xs,e1,hq,hl,hw⟩:=hw;subst e1;cases r
 obtain ⟨As,rv,ht,hz⟩:=I.tuple hq;refine assign_Tuple_tuple iG ht (by simp [hn,<-hl,rv.length]) hst fun h' hx=>?_
 have I1:Aq X pins σ H { s with heap:=h' }:=I.kept (t':=s.toks) fun b o e=>hx b o (ab (ZW e)) e
 exact h (pins:=pins) _ σ H xs _ Q I1 (by simpa using rv) hw
def gSub (to ti:TE) (t:Wm):TG:=fun v σ H Q=>to σ H fun o H1=>ti σ H1 fun i H2=>t o i v H2 fun H3=>Q σ H3
theorem Nc {o i:Expr} {to ti:TE} {t:Wm} (ho:PE X o to) (hi:PE X i ti) (hs:PSet X t)
  (ha:∀ v,assign (.Subscript o i pos) X.env v=(do
   let ov <- holding [v] (eval o X.env)
   let iv <- holding [v,ov] (eval i X.env)
   standAt pos
   holding [v,ov,iv] (setItem ov iv v)
   release [v,ov,iv] []):=by intro _; rfl):PG X (.Subscript o i pos) (gSub to ti t):=by
 intro pins s σ H v u Q I r h;rw [ha];refine wpAny_bind (wpAny_holding (B5 (ho (pins:=pins) s σ H _ I h) fun ov s1 ⟨x,H1,I1,r1,q1⟩=>?_));refine wpAny_bind (wpAny_holding (B5 (hi (pins:=pins) s1 σ H1 _ I1 q1) fun iv s2 ⟨y,H2,I2,r2,q2⟩=>?_));refine wpAny_bind (wpAny_standAt (wpAny_bind (wpAny_holding (B5 (hs (pins:=pins) s2 σ H2 x y v ov iv u _ I2 r1 r2 r q2) fun _ s3 ⟨H3,I3,q3⟩=>?_))));exact wpAny_release ⟨σ,H3,I3,q3⟩
def QX (te:TE) (g:TG):TS:=fun D σ H=>te σ H fun x H1=>g x σ H1 D.nx
theorem EH {tg e:Expr} {te:TE} {g:TG} (he:PE X e te) (hg:PG X tg g) (hs:swapsWithSole [tg] e pos.line X.env=pure false:=by rfl) (hw:swappedStores [tg] e X.env=pure none:=by rfl)
  (h1:(assignEach [tg] X.env).map (·.2)=[assign tg X.env]:=by rfl):PS X (.Assign [tg] e pos) (QX te g):=by
 intro pins s σ H D I h;refine wpAny_Assign_stores (B5 (he (pins:=pins) s σ H _ I h) fun v s1 ⟨x,H1,I1,r1,q1⟩=>?_) hs hw;rw [h1];exact B5 (hg (pins:=pins) s1 σ H1 x v _ I1 r1 q1) fun _ s2 q=>q
theorem Am {i:Nat} {x:Str} {e:Expr} {te:TE} {pos':Pos} (hN:X.N.Nodup) (hi:X.N[i]? = some x) (hx:Wo X.env.scope x) (he:PE X e te) (hs:swapsWith e (some (.Name x pos')) pos.line X.env=pure false:=by rfl) (hf:X.fn x=true\/X.env.scope.names.lookup x=some .local:=by first | exact .inl rfl | exact .inr rfl | assumption) :
  PS X (.Assign [.Name x pos'] e pos) (QX te (K0 i)):=by
 intro pins s σ H D I h;refine wpAny_Assign_Name (B5 (he (pins:=pins) s σ H _ I h) fun v s1 ⟨y,H1,I1,r1,q1⟩=>?_) hs;exact LD I1 hN hi hx r1 (fun s2 I2=>⟨_,H1,I2,q1⟩) hf
end
section
variable {X:Cx} {pos:Pos}
def Vm (c:TT) (tb:TS):TS:=fun D σ H=>∃ W:Nat->St->Hp->Prop,(∃ m,W m σ H)/\∀ m σ H,W m σ H ->
 c σ H fun b H1=>if b=true then ∃ N:St->Hp->Prop,(∀ A2 H',N A2 H'->∃ m',m' < m/\W m' A2 H')/\tb { D with nx:=N,ct:=N,bk:=D.nx } σ H1 else D.nx σ H1
theorem IC {c:Expr} {body:List Stmt} {tc:TT} {tb:TS} (hp:PassesOwn dL X.A X.env X.xe) (hc:PT X c tc) (hb:M8 X body tb):PS X (.While c body [] pos) (Vm tc tb):=by
 intro pins s σ H D I h;obtain ⟨W,⟨m0,w0⟩,turn⟩:=h;refine wpAny_While (codeAny_whileLoop (fun n s'=>∃ A2 H',Aq X pins A2 H' s'/\W n A2 H') ?_ m0 ⟨σ,H,I,w0⟩);rintro n s1 ⟨Ws,H1,I1,w1⟩;refine wpAny_passesOwn hp (B5 (hc (pins:=pins) s1 Ws H1 _ I1 (turn n Ws H1 w1)) fun b s2 ⟨H2,I2,q2⟩=>?_);cases b with
 | true=>
  obtain ⟨N,hN,q2⟩:=q2;rw [if_pos rfl];refine wpAny_passesOwn hp (B5 (hb (pins:=pins) s2 Ws H2 _ I2 q2) fun f s3 q3=>?_);cases f with
  | next=>
   obtain ⟨QG,H3,I3,n3⟩:=q3;obtain ⟨m',hm,w3⟩:=hN QG H3 n3;exact ⟨m',hm,QG,H3,I3,w3⟩
  | cont=>
   obtain ⟨QG,H3,I3,n3⟩:=q3;obtain ⟨m',hm,w3⟩:=hN QG H3 n3;exact ⟨m',hm,QG,H3,I3,w3⟩
  | brk=>exact q3
  | ret v=>exact q3
 | false=>
  rw [if_neg ah];exact wpAny_execs_nil ⟨Ws,H2,I2,q2⟩
end
structure It where
 go:Nat->Hp->Prop
 yld:Nat->Hp->V->Hp->Prop
 stop:Nat->Hp->Prop
def Ew (X:Cx) (pins:List cr) (H:Hp) (b:Addr):Prop:=
 H b=none/\b ≠ X.env.locals/\b ∉ X.fs/\(b ∈ X.ex\/X.s₀.heap.objs.size<=b)/\(∀ x c,X.env.cells.lookup x=some c->c ≠ b)/\∀ p ∈ X.pn ++ pins,p.1 ≠ b
theorem Aq.fpOk {X:Cx} {pins:List cr} {σ:St} {H H':Hp} {s:Shared} {b:Addr} (I:Aq X pins σ H s) (hb:s.heap.objs.size<=b) (hn:H' b=none):Ew X pins H' b:=by
 refine ⟨hn,bj (af I.lt hb),I.nofs hb,.inr (az I.sz hb),fun x c e z=>?_,fun p hp z=>?_⟩
 ·obtain ⟨v,q⟩:=I.cell x c e;exact absurd (af q.lt (by rw [z]; exact hb)) (ba _)
 ·exact absurd (af (ZW (I.pin p hp).1) (by rw [z]; exact hb)) (ba _)
structure Lu (P:Program) (w:World) (K:ZP) (tg:Expr) (J:It) (fp:List Addr) (it:Addr) (tn:Nat->Heap->Prop):Prop where
 mem:it ∈ fp
 obj:∀ i h,tn i h->∀ b ∈ fp,∃ o,h.get? b=some o/\∀ v,o.data ≠ .cell v
 keep:∀ i h h',tn i h->(∀ b ∈ fp,∀ o,h.get? b=some o->h'.get? b=some o)->tn i h'
 item:∀ (X:Cx),X.prog=P->X.w=w->X.K=K->X.calm=true->∀ (i:Nat) (pins:List cr) (s:Shared) (σ:St) (H:Hp) (E:Value->Shared->Prop),Aq X pins σ H s->(∀ b ∈ fp,Ew X pins H b)->tn i s.heap->J.go i H ->
  wpAny (model P w) X.A (pyNext (.ref it)) (fun r s1=>∃ u,r=some u /\
   wpAny (model P w) X.A (letOwnedTupleGo tg (.ref it) u) (fun _ s2=>∃ x H',Aq X pins σ H' s2/\AA x u/\J.yld i H x H'/\tn gt s2.heap/\∀ b ∈ fp,H' b=none) E s1) E s
 done:∀ (X:Cx),X.prog=P->X.w=w->X.K=K->X.calm=true->∀ (i:Nat) (pins:List cr) (s:Shared) (σ:St) (H:Hp) (E:Value->Shared->Prop),Aq X pins σ H s->(∀ b ∈ fp,Ew X pins H b)->tn i s.heap->J.stop i H ->
  wpAny (model P w) X.A (pyNext (.ref it)) (fun r s1=>r=none/\Aq X pins σ H s1) E s
 self:∀ (A:Around) (i:Nat) (s:Shared) (Q:Value->Shared->Prop) (E:Value->Shared->Prop),tn i s.heap->Q (.ref it) s->wpAny (model P w) A (pyIter (.ref it)) Q E s
abbrev TI:=St->Hp->(It->Hp->Prop)->Prop
def PIE (X:Cx) (pins:List cr) (σ:St) (tg:Expr) (R:It->Hp->Prop) (itv:Value) (s2:Shared):Prop:=
 ∃ (it:Addr) (fp:List Addr) (tn:Nat->Heap->Prop) (J:It) (H':Hp),itv=.ref it/\Aq X pins σ H' s2/\Lu X.prog X.w X.K tg J fp it tn/\tn 0 s2.heap/\(∀ b ∈ fp,Ew X pins H' b)/\R J H'
def PI (X:Cx) (tg iter:Expr) (wi:TI):Prop:=
 ∀ ⦃pins:List cr⦄ (s:Shared) (σ:St) (H:Hp) (R:It->Hp->Prop),Aq X pins σ H s->wi σ H R ->
  wpAny dL X.A (eval iter X.env) (fun v s1=>wpAny dL X.A (pyIter v) (PIE X pins σ tg R) X.xe s1) X.xe s
theorem HC {M:Model} {A:Around} {E:Value->Shared->Prop} {s:Shared} {tg:Expr} {it:Addr} {u:Value} {o:Obj} {n:String} {vs:Array Value} {Q:Unit->Shared->Prop} (ho:s.heap.get? it=some o) (hc:o.cls=.type n) (hd:o.data=.fields vs)
  (hn:["enumerate","zip","dict_itemiterator","dict_reverseitemiterator","odict_iterator","itertools.zip_longest","itertools.pairwise"].contains n=false) (hQ:Q () s):wpAny M A (letOwnedTupleGo tg (.ref it) u) Q E s:=by
 unfold letOwnedTupleGo;cases tg <;> first
  | exact wpAny_pure hQ
  | (cases u <;> first
    | exact wpAny_pure hQ
    | (refine wpAny_bind (wpAny_load ho ?_)
       rw [hc,hd];show wpAny M A (if (["enumerate","zip","dict_itemiterator","dict_reverseitemiterator","odict_iterator","itertools.zip_longest","itertools.pairwise"].contains n && vs[0]? == some (rawInt _))=true then _ else _) Q E s
       rw [if_neg (by intro h; rw [hn,dz] at h; cases h)];exact wpAny_pure hQ))
def SW (K:ZP) (a:Addr):It:=
 ⟨fun i H=>∃ xs x,AB K H a xs/\xs[i]? = some x,fun i H x H'=>H'=H/\∀ xs,AB K H a xs->xs[i]? = some x,fun i H=>∃ xs,AB K H a xs/\xs.length<=i⟩
def Q8 (K:ZP) (a:Addr):It:=
 ⟨fun i H=>∃ xs x,AI K H a xs/\xs[i]? = some x,fun i H x H'=>H'=H/\∀ xs,AI K H a xs->xs[i]? = some x,fun i H=>∃ xs,AI K H a xs/\xs.length<=i⟩
def SV (lo:Int) (n:Nat):It:=⟨fun i _=>i < n,fun i H x H'=>H'=H/\x=.int (lo + i),fun i _=>n<=i⟩
theorem JW {P:Program} {w:World} {K:ZP} {tg:Expr} (a it:Addr):Lu P w K tg (SW K a) [it] it (fun i h=>h.IsListIter it a i) where
 mem:=by simp
 obj:=fun i h st b hb=>by
  have e:b=it:=by simpa using hb
  subst e;obtain ⟨o,e,c,d⟩:=st;exact ⟨o,e,fun v z=>by rw [d] at z; cases z⟩
 keep:=fun i h h' st k=>st.at fun o e=>k it gl o e
 item:=by
  intro X hP hw hK hc i pins s σ H E I hf st hg;subst hP hw hK;obtain ⟨xs,x,hq,hx⟩:=hg;obtain ⟨As,rv,p,hz⟩:=I.list hq;obtain ⟨u,hu,ru⟩:=rv.get hx;obtain ⟨f0,f1,f2,f3,f4,f5⟩:=hf it gl;refine wpAny_pyNext_list_item st p.isList (x:=u) (by simpa using hu) fun h' AN sb=>?_
  have I1:Aq X pins σ H { s with heap:=h' }:=I.turned (t':=s.toks) (fun b o hb e=>(sb.2 b hb).trans e) f0 f1 f3 f4 f5;obtain ⟨o,e,c,d⟩:=id AN;exact ⟨u,rfl,HC (s:={ s with heap:=h' }) e c d bi ⟨x,H,I1,ru,⟨rfl,fun ys hy=>by rw [I.list_inj hy hq]; exact hx⟩,AN,fun b hb=>(hf b hb).1⟩⟩
 done:=by
  intro X hP hw hK hc i pins s σ H E I hf st hg;subst hP hw hK;obtain ⟨xs,hq,hx⟩:=hg;obtain ⟨As,rv,p,hz⟩:=I.list hq;obtain ⟨f0,f1,f2,f3,f4,f5⟩:=hf it gl;have hl:=rv.length;exact wpAny_pyNext_list_end iG st p.isList (by simp; lia) fun h' eb=>⟨rfl,I.turned (t':=s.toks) (fun b o hb e=>eb b o hb e) f0 f1 f3 f4 f5⟩
 self:=fun _ _ _ _ _ st h=>wpAny_pyIter_listiter st h
theorem Il {P:Program} {w:World} {K:ZP} {tg:Expr} (a it:Addr):Lu P w K tg (Q8 K a) [it] it (fun i h=>h.IsTupleIter it a i) where
 mem:=by simp
 obj:=fun i h st b hb=>by
  have e:b=it:=by simpa using hb
  subst e;obtain ⟨o,e,c,d⟩:=st;exact ⟨o,e,fun v z=>by rw [d] at z; cases z⟩
 keep:=fun i h h' st k=>st.at fun o e=>k it gl o e
 item:=by
  intro X hP hw hK hc i pins s σ H E I hf st hg;subst hP hw hK;obtain ⟨xs,x,hq,hx⟩:=hg;obtain ⟨As,rv,p,hz⟩:=I.tuple hq;obtain ⟨u,hu,ru⟩:=rv.get hx;obtain ⟨f0,f1,f2,f3,f4,f5⟩:=hf it gl;refine wpAny_pyNext_tuple_item st (show s.heap.IsTuple a As.toArray from p) (x:=u) (by simpa using hu) fun h' AN sb=>?_
  have I1:Aq X pins σ H { s with heap:=h' }:=I.turned (t':=s.toks) (fun b o hb e=>(sb.2 b hb).trans e) f0 f1 f3 f4 f5;obtain ⟨o,e,c,d⟩:=id AN;exact ⟨u,rfl,HC (s:={ s with heap:=h' }) e c d bi ⟨x,H,I1,ru,⟨rfl,fun ys hy=>by rw [I.tuple_inj hy hq]; exact hx⟩,AN,fun b hb=>(hf b hb).1⟩⟩
 done:=by
  intro X hP hw hK hc i pins s σ H E I hf st hg;subst hP hw hK;obtain ⟨xs,hq,hx⟩:=hg;obtain ⟨As,rv,p,hz⟩:=I.tuple hq;obtain ⟨f0,f1,f2,f3,f4,f5⟩:=hf it gl;have hl:=rv.length;exact wpAny_pyNext_tuple_end iG st (show s.heap.IsTuple a As.toArray from p) (by simp; lia) fun h' eb=>⟨rfl,I.turned (t':=s.toks) (fun b o hb e=>eb b o hb e) f0 f1 f3 f4 f5⟩
 self:=fun _ _ _ _ _ st h=>wpAny_pyIter_tupleiter st h
theorem MI {P:Program} {w:World} {K:ZP} {tg:Expr} (it:Addr) (lo:Int) (n:Nat):Lu P w K tg (SV lo n) [it] it (fun i h=>IsRangeIter h it (lo + (i:Nat) * 1) ((n:Int) - (i:Nat)) 1) where
 mem:=by simp
 obj:=fun i h st b hb=>by
  have e:b=it:=by simpa using hb
  subst e;exact ⟨_,st,fun v z=>by
   have z':Data.fields _=Data.cell v:=z;cases z'⟩
 keep:=fun i h h' st k=>k it gl _ st
 item:=by
  intro X hP hw hK hc i pins s σ H E I hf st hg;subst hP hw hK;obtain ⟨f0,f1,f2,f3,f4,f5⟩:=hf it gl;have W:=Walks.range (prog:=X.prog) (w:=X.w) iG it lo 1 n;refine W.item i s _ _ hg st fun v h' tk hv AN kk=>?_
  obtain ⟨t,rfl⟩:=hv;have I1:Aq X pins σ H { s with heap:=h',toks:=tk }:=I.turned (fun b o hb e=>kk b o (by simpa using hb) e) f0 f1 f3 f4 f5;refine ⟨_,rfl,HC (s:={ s with heap:=h',toks:=tk }) (n:="range_iterator") AN rfl rfl (by decide) ⟨.int (lo + i),H,I1,⟨t,?_⟩,⟨rfl,rfl⟩,AN,fun b hb=>(hf b hb).1⟩⟩;rw [Int.mul_one]
 done:=by
  intro X hP hw hK hc i pins s σ H E I hf st hg;subst hP hw hK;obtain ⟨f0,f1,f2,f3,f4,f5⟩:=hf it gl;exact wpAny_pyNext_range_end iG st (by have:n<=i:=hg; lia) fun h' eb=>⟨rfl,I.turned (t':=s.toks) (fun b o hb e=>eb b o hb e) f0 f1 f3 f4 f5⟩
 self:=fun _ _ _ _ _ st h=>wpAny_pyIter_rangeiter st h
section
variable {X:Cx} {tg:Expr}
def UM (K:ZP) (tl:TE):TI:=fun σ H R=>tl σ H fun x H1=>∃ a,x=.ref a/\(∃ xs,AB K H1 a xs)/\R (SW K a) H1
def iTup (K:ZP) (tl:TE):TI:=fun σ H R=>tl σ H fun x H1=>∃ a,x=.ref a/\(∃ xs,AI K H1 a xs)/\R (Q8 K a) H1
theorem Lc {l:Expr} {tl:TE} (hl:PE X l tl):PI X tg l (UM X.K tl):=by
 intro pins s σ H R I h;refine B5 (hl (pins:=pins) s σ H _ I h) fun v s1 ⟨x,H1,I1,r1,q1⟩=>?_
 obtain ⟨a,e,⟨xs,hq⟩,q⟩:=q1;subst e;cases r1
 obtain ⟨As,rv,p,hz⟩:=I1.list hq;refine wpAny_pyIter_list p.isList ?_;refine ⟨s1.heap.objs.size,[s1.heap.objs.size],_,_,H1,rfl,I1.kept (t':=s1.toks) fun b o e=>ZO _ e,JW a _,⟨_,ZX _ rfl,rfl,rfl⟩,fun b hb=>?_,q⟩;have e:b=s1.heap.objs.size:=by simpa using hb
 subst e;exact I1.fpOk (ZU _) (I1.hok.fresh (ZU _))
theorem RE {l:Expr} {tl:TE} (hl:PE X l tl):PI X tg l (iTup X.K tl):=by
 intro pins s σ H R I h;refine B5 (hl (pins:=pins) s σ H _ I h) fun v s1 ⟨x,H1,I1,r1,q1⟩=>?_
 obtain ⟨a,e,⟨xs,hq⟩,q⟩:=q1;subst e;cases r1
 obtain ⟨As,rv,p,hz⟩:=I1.tuple hq;refine wpAny_pyIter_tuple (show s1.heap.IsTuple a As.toArray from p) ?_;refine ⟨s1.heap.objs.size,[s1.heap.objs.size],_,_,H1,rfl,I1.kept (t':=s1.toks) fun b o e=>ZO _ e,Il a _,⟨_,ZX _ rfl,rfl,rfl⟩,fun b hb=>?_,q⟩;have e:b=s1.heap.objs.size:=by simpa using hb
 subst e;exact I1.fpOk (ZU _) (I1.hok.fresh (ZU _))
theorem LR {pins:List cr} {σ:St} {H:Hp} {s:Shared} {R:It->Hp->Prop} {E:Value->Shared->Prop} {lo hi:Int} {t u v:Tok} {tk:Nat} (I:Aq X pins σ H s) (h1:-(2 ^ 62)<=lo) (h2:lo < 2 ^ 62) (h3:-(2 ^ 62)<=hi) (h4:hi < 2 ^ 62)
  (q:R (SV lo (hi - lo).toNat) H):wpAny dL X.A (pyIter hU) (PIE X pins σ tg R) E { s with heap:=s.heap.push { cls:=.type "range",data:=.fields #[.int lo t,.int hi u,.int 1 v] },toks:=tk }:=by
 refine wpAny_pyIter_range (IsRange.new ..) (small_one h1 h2 h3 h4) ?_;have I1:Aq X pins σ H { s with heap:=s.heap.push { cls:=.type "range",data:=.fields #[.int lo t,.int hi u,.int 1 v] },toks:=tk }:=I.kept fun b o e=>ZO _ e
 refine ⟨(s.heap.push { cls:=.type "range",data:=.fields #[.int lo t,.int hi u,.int 1 v] }).objs.size,[(s.heap.push { cls:=.type "range",data:=.fields #[.int lo t,.int hi u,.int 1 v] }).objs.size],_,_,H,rfl,
  I1.kept (t':=tk) fun b o e=>ZO _ e,MI _ lo (hi - lo).toNat,?_,fun b hb=>?_,q⟩
 ·have e1:lo + ((0:Nat):Int) * 1=lo:=by simp
  have e2:(((hi - lo).toNat:Nat):Int) - ((0:Nat):Int)=Builtin.Range.rangeSize lo hi 1:=by rw [rangeSize_one]; split <;> lia
  show IsRangeIter _ _ (lo + ((0:Nat):Int) * 1) ((((hi - lo).toNat:Nat):Int) - ((0:Nat):Int)) 1
  rw [e1,e2];exact ZX _ rfl
 ·have e:b=(s.heap.push { cls:=.type "range",data:=.fields #[.int lo t,.int hi u,.int 1 v] }).objs.size:=by simpa using hb
  subst e;exact I1.fpOk (ZU _) (I1.hok.fresh (ZU _))
def iRng1 (ta:TA):TI:=fun σ H R=>ta σ H fun vs H1=>∃ j:Int,vs=[.int j]/\-(2 ^ 62)<=j/\j < 2 ^ 62/\R (SV 0 j.toNat) H1
def iRng2 (ta:TA):TI:=fun σ H R=>ta σ H fun vs H1=>∃ i j:Int,vs=[.int i,.int j]/\(-(2 ^ 62)<=i/\i < 2 ^ 62/\-(2 ^ 62)<=j/\j < 2 ^ 62)/\R (SV i (j - i).toNat) H1
theorem C0 {a:Expr} {ta:TA} {p pos:Pos} (hg:Gl X "range") (hm:X.mg "range"=none) (ha:PA X [a] ta) (hs:starEach [a] X.env=[(false,eval a X.env)]:=by rfl):PI X tg (.Call (.Name "range" p) [a] [] pos) (iRng1 ta):=by
 intro pins s σ H R I h;refine Call_ (GI I hg hm boot_range (PyProof.Rows.callWith_type1 (B5 (ha (pos:=pos) (pins:=pins) s σ H _ I h) fun us s1 ⟨vs,H1,I1,r1,q1⟩=>?_) hs rfl));obtain ⟨j,e,q1,q2,q⟩:=q1;subst e;cases r1 with
 | cons r rr=>
  cases rr
  obtain ⟨t,rfl⟩:=r;exact call_range_1 (LR I1 ad ad q1 q2 (by simpa using q))
theorem PN {a b:Expr} {ta:TA} {p pos:Pos} (hg:Gl X "range") (hm:X.mg "range"=none) (ha:PA X [a,b] ta) (hs:starEach [a,b] X.env=[(false,eval a X.env),(false,eval b X.env)]:=by rfl) (VQ:starEach [b] X.env=[(false,eval b X.env)]:=by rfl) :
  PI X tg (.Call (.Name "range" p) [a,b] [] pos) (iRng2 ta):=by
 intro pins s σ H R I h;refine Call_ (GI I hg hm boot_range (PyProof.Rows.callWith_type1 (B5 (ha (pos:=pos) (pins:=pins) s σ H _ I h) fun us s1 ⟨vs,H1,I1,r1,q1⟩=>?_) (by rw [hs,VQ]) (by rw [VQ]; rfl)));obtain ⟨i,j,e,⟨q1,q2,q3,q4⟩,q⟩:=q1;subst e;cases r1 with
 | cons r rr=>
  cases rr with
  | cons r' rr=>
   cases rr
   obtain ⟨t,rfl⟩:=r;obtain ⟨t',rfl⟩:=r';exact call_range_2 (LR I1 q1 q2 q3 q4 q)
def tFor (wi:TI) (g:TG) (tb:TS):TS:=fun D σ H=>wi σ H fun J H1=>∃ W:Nat->Nat->St->Hp->Prop,(∃ m,W 0 m σ H1)/\∀ i m σ H,W i m σ H ->
 (J.stop i H/\D.nx σ H)\/(J.go i H/\∃ N:St->Hp->Prop,(∀ A2 H',N A2 H'->∃ m',m' < m/\W gt m' A2 H')/\∀ x H',J.yld i H x H'->g x σ H' fun Az H2=>tb { D with nx:=N,ct:=N,bk:=D.nx } Az H2)
def DH (fp:List Addr) (h:Heap):List cr:=fp.filterMap fun b=>(h.get? b).map fun o=>(b,o)
theorem Bg {fp:List Addr} {h:Heap} {b:Addr} {o:Obj} (hb:b ∈ fp) (e:h.get? b=some o):(b,o) ∈ DH fp h:=dO.mpr ⟨b,hb,by rw [e]; rfl⟩
theorem Qa {fp:List Addr} {h:Heap} {p:Addr × Obj} (hp:p ∈ DH fp h):p.1 ∈ fp/\h.get? p.1=some p.2:=by
 obtain ⟨b,hb,e⟩:=dO.mp hp;cases q:h.get? b with
 | none=>rw [q] at e; cases e
 | some o=>
  rw [q] at e;have e':(b,o)=p:=ar.inj e;subst e';exact ⟨hb,q⟩
theorem Aq.pinned {pins:List cr} {σ:St} {H:Hp} {s:Shared} {fp:List Addr} (I:Aq X pins σ H s) (hf:∀ b ∈ fp,Ew X pins H b) (ho:∀ b ∈ fp,∃ o,s.heap.get? b=some o/\∀ v,o.data ≠ .cell v):Aq X (pins ++ DH fp s.heap) σ H s:=
 I.pins_of fun p hp=>(ak.mp hp).elim (fun z=>I.pin p (ae _ z)) fun z=>by
  obtain ⟨hb,e⟩:=Qa z;obtain ⟨f0,f1,f2,_⟩:=hf p.1 hb;obtain ⟨o,e',d⟩:=ho p.1 hb;rw [e] at e'; cases e';exact ⟨e,f0,f1,f2,d⟩
theorem Aq.unpinned {pins pl:List cr} {σ:St} {H:Hp} {s:Shared} (I:Aq X (pins ++ pl) σ H s):Aq X pins σ H s:=I.pins_of fun p hp=>I.pin p (ae _ (bx _ hp))
theorem Bp {iter:Expr} {body:List Stmt} {wi:TI} {g:TG} {tb:TS} {pos:Pos} (hp:PassesOwn dL X.A X.env X.xe) (hc:X.calm=true) (hi:PI X tg iter wi) (hg:PG X tg g) (hb:M8 X body tb)
  (hs:∀ x,foldedSetIterable iter X.env x=pure x:=by intro _; rfl):PS X (.For tg iter body [] pos) (tFor wi g tb):=by
 intro pins s σ H D I h;refine wpAny_For (B5 (hi (pins:=pins) s σ H _ I h) fun v s1 h1=>B5 h1 fun itv s2 h2=>?_) hs;obtain ⟨it,fp,tn,J,H2,e,I2,T,Fs,f2,W,⟨m0,w0⟩,turn⟩:=h2;subst e;have stat:∀ {H':Hp},gT->∀ b ∈ fp,Ew X pins H' b:=fun hn b hb=>⟨hn b hb,(f2 b hb).2⟩
 refine codeAny_forLoop_any (fun n s'=>∃ i A2 H',Aq X pins A2 H' s'/\tn i s'.heap/\gT/\W i n A2 H') ?_ m0 ⟨0,σ,H2,I2,Fs,fun b hb=>(f2 b hb).1,w0⟩;rintro n s3 ⟨i,QG,H3,I3,Y1,fr3,w3⟩;rcases turn i n QG H3 w3 with ⟨stop,qn⟩ | ⟨go,N,hN,step⟩
 ·refine wpAny_passesOwn hp (B5 (T.done X rfl rfl rfl hc i (pins:=pins) s3 QG H3 X.xe I3 (stat fr3) Y1 stop) fun r s4 ⟨hr,I4⟩=>?_);subst hr;exact wpAny_execs_nil ⟨QG,H3,I4,qn⟩
 ·refine wpAny_passesOwn hp (B5 (T.item X rfl rfl rfl hc i (pins:=pins) s3 QG H3 X.xe I3 (stat fr3) Y1 go) fun r s4 ⟨u,hr,h4⟩=>?_);subst hr;refine wpAny_passesOwn hp (B5 h4 fun _ s5 ⟨x,H5,I5,r5,y5,Y0,fr5⟩=>?_);have I5':=I5.pinned (stat fr5) (T.obj _ _ Y0);refine wpAny_passesOwn hp (B5 (hg s5 QG H5 x u _ I5' r5 (step x H5 y5)) fun _ s6 ⟨σ6,H6,I6,q6⟩=>?_);refine wpAny_passesOwn hp (B5 (hb s6 σ6 H6 _ I6 q6) fun f s7 q7=>?_);have again:∀ {Ex:St} {H7:Hp},Aq X (pins ++ DH fp s5.heap) Ex H7 s7->N Ex H7->∃ m,m < n/\∃ i A2 H',Aq X pins A2 H' s7/\tn i s7.heap/\gT/\W i m A2 H':=fun {Ex H7} I7 n7=>by
   obtain ⟨m',hm,w7⟩:=hN Ex H7 n7;refine ⟨m',hm,i + 1,Ex,H7,I7.unpinned,T.keep _ _ _ Y0 fun b hb o e=>(I7.pin (b,o) (ae _ (ae _ (Bg hb e)))).1,fun b hb=>?_,w7⟩;obtain ⟨o,e,d⟩:=T.obj _ _ Y0 b hb;exact (I7.pin (b,o) (ae _ (ae _ (Bg hb e)))).2.1
  cases f with
  | next=>obtain ⟨Ex,H7,I7,n7⟩:=q7; exact again I7 n7
  | cont=>obtain ⟨Ex,H7,I7,n7⟩:=q7; exact again I7 n7
  | brk=>obtain ⟨Ex,H7,I7,q7⟩:=q7; exact ⟨Ex,H7,I7.unpinned,q7⟩
  | ret v=>obtain ⟨x7,Ex,H7,I7,r7,q7⟩:=q7; exact ⟨x7,Ex,H7,I7.unpinned,r7,q7⟩
end
theorem EL {K:ZP} {a:Addr} {xs:List V} {g:TG} {tb:TS} {D:Fe} {σ:St} {H:Hp} (Pv:Nat->St->Hp->Prop) (h0:Pv 0 σ H) (hl:∀ i σ H,i<=xs.length->Pv i σ H->AB K H a xs)
  (hs:∀ i x σ H,xs[i]? = some x->Pv i σ H->g x σ H fun Az H2=>tb { D with nx:=Pv gt,ct:=Pv gt,bk:=D.nx } Az H2) (hd:∀ σ H,Pv xs.length σ H->D.nx σ H) :
  ∃ W:Nat->Nat->St->Hp->Prop,(∃ m,W 0 m σ H)/\∀ i m σ H,W i m σ H ->
   ((SW K a).stop i H/\D.nx σ H)\/((SW K a).go i H/\∃ N:St->Hp->Prop,(∀ A2 H',N A2 H'->∃ m',m' < m/\W gt m' A2 H')/\∀ x H',(SW K a).yld i H x H'->g x σ H' fun Az H2=>tb { D with nx:=N,ct:=N,bk:=D.nx } Az H2):=by
 exists fun i m σ H=>m=xs.length - i/\i<=xs.length/\Pv i σ H,⟨xs.length,by simp,aJ _,h0⟩
 rintro i m σ H ⟨rfl,hi,p⟩;have q:=hl i σ H hi p;by_cases B0:i < xs.length
 ·refine .inr ⟨⟨xs,xs[i],q,by simp [B0]⟩,Pv gt,fun A2 H' p'=>⟨xs.length - gt,by lia,rfl,B0,p'⟩,fun x H' y=>?_⟩;obtain ⟨e,y⟩:=y;subst e;exact hs i x σ _ (y xs q) p
 ·have e:i=xs.length:=by lia
  subst e;exact .inl ⟨⟨xs,q,ZU _⟩,hd σ H p⟩
theorem OK {K:ZP} {a:Addr} {xs:List V} {g:TG} {tb:TS} {D:Fe} {σ:St} {H:Hp} (Pv:Nat->St->Hp->Prop) (h0:Pv 0 σ H) (hl:∀ i σ H,i<=xs.length->Pv i σ H->AI K H a xs)
  (hs:∀ i x σ H,xs[i]? = some x->Pv i σ H->g x σ H fun Az H2=>tb { D with nx:=Pv gt,ct:=Pv gt,bk:=D.nx } Az H2) (hd:∀ σ H,Pv xs.length σ H->D.nx σ H) :
  ∃ W:Nat->Nat->St->Hp->Prop,(∃ m,W 0 m σ H)/\∀ i m σ H,W i m σ H ->
   ((Q8 K a).stop i H/\D.nx σ H)\/((Q8 K a).go i H/\∃ N:St->Hp->Prop,(∀ A2 H',N A2 H'->∃ m',m' < m/\W gt m' A2 H')/\∀ x H',(Q8 K a).yld i H x H'->g x σ H' fun Az H2=>tb { D with nx:=N,ct:=N,bk:=D.nx } Az H2):=by
 exists fun i m σ H=>m=xs.length - i/\i<=xs.length/\Pv i σ H,⟨xs.length,by simp,aJ _,h0⟩
 rintro i m σ H ⟨rfl,hi,p⟩;have q:=hl i σ H hi p;by_cases B0:i < xs.length
 ·refine .inr ⟨⟨xs,xs[i],q,by simp [B0]⟩,Pv gt,fun A2 H' p'=>⟨xs.length - gt,by lia,rfl,B0,p'⟩,fun x H' y=>?_⟩;obtain ⟨e,y⟩:=y;subst e;exact hs i x σ _ (y xs q) p
 ·have e:i=xs.length:=by lia
  subst e;exact .inl ⟨⟨xs,q,ZU _⟩,hd σ H p⟩
theorem CG {lo:Int} {n:Nat} {g:TG} {tb:TS} {D:Fe} {σ:St} {H:Hp} (Pv:Nat->St->Hp->Prop) (h0:Pv 0 σ H)
  (hs:∀ i σ H,i < n->Pv i σ H->g (.int (lo + i)) σ H fun Az H2=>tb { D with nx:=Pv gt,ct:=Pv gt,bk:=D.nx } Az H2) (hd:∀ σ H,Pv n σ H->D.nx σ H) :
  ∃ W:Nat->Nat->St->Hp->Prop,(∃ m,W 0 m σ H)/\∀ i m σ H,W i m σ H ->
   ((SV lo n).stop i H/\D.nx σ H)\/((SV lo n).go i H/\∃ N:St->Hp->Prop,(∀ A2 H',N A2 H'->∃ m',m' < m/\W gt m' A2 H')/\∀ x H',(SV lo n).yld i H x H'->g x σ H' fun Az H2=>tb { D with nx:=N,ct:=N,bk:=D.nx } Az H2):=by
 exists fun i m σ H=>m=n - i/\i<=n/\Pv i σ H,⟨n,by simp,aJ _,h0⟩
 rintro i m σ H ⟨rfl,hi,p⟩;by_cases B0:i < n
 ·refine .inr ⟨B0,Pv gt,fun A2 H' p'=>⟨n - gt,by lia,rfl,B0,p'⟩,fun x H' y=>?_⟩;obtain ⟨e,y⟩:=y;subst e y;exact hs i σ _ B0 p
 ·have e:i=n:=by lia
  subst e;exact .inl ⟨ZU _,hd σ H p⟩
abbrev R2:=V->V->Hp->VK->Prop
def E9 (X:Cx) (f:Value->Value->Sem Value) (r:R2):Prop:=
 ∀ ⦃pins:List cr⦄ (s:Shared) (σ:St) (H:Hp) (x y:V) (v u:Value) (Q:VK),Aq X pins σ H s->AA x v->AA y u->r x y H Q ->
  wpAny dL X.A (f v u) (EP X pins σ Q) X.xe s
def Bo (X:Cx) (f:Value) (r:List V->Hp->VK->Prop):Prop:=
 ∀ ⦃pins:List cr⦄ (s:Shared) (σ:St) (H:Hp) (xs:List V) (us:List Value) (Q:VK),Aq X pins σ H s->A9 xs us->r xs H Q ->
  wpAny dL X.A (call f us) (EP X pins σ Q) X.xe s
def TruR (X:Cx) (r:V->Hp->(Bool->Hp->Prop)->Prop):Prop:=
 ∀ ⦃pins:List cr⦄ (s:Shared) (σ:St) (H:Hp) (x:V) (v:Value) (Q:Bool->Hp->Prop),Aq X pins σ H s->AA x v->r x H Q ->
  wpAny dL X.A (truthy v) (TP X pins σ Q) X.xe s
def tOp (r:R2) (ta tb:TE):TE:=fun σ H Q=>ta σ H fun x H1=>tb σ H1 fun y H2=>r x y H2 Q
def rI (C:Int->Int->Prop) (g:Int->Int->V):R2:=fun x y H Q=>∃ i j,x=.int i/\y=.int j/\C i j/\Q (g i j) H
def UD (g:Int->Int->V):R2:=fun x y H Q=>∃ i j,x=.int i/\y=.int j/\Q (g i j) H
section
variable {X:Cx} {a b c:Expr} {ta tb tc:TE} {pos:Pos}
theorem Wh (ha:PE X a ta) (hb:PE X b tb) {pins:List cr} {s:Shared} {σ:St} {H:Hp} {R:V->V->Hp->Prop} (I:Aq X pins σ H s)
  (h:ta σ H fun x H1=>tb σ H1 fun y H2=>R x y H2) {Q:Value->Shared->Prop} {f:Value->Value->Sem Value}
  (hf:∀ v u s2 x y H2,Aq X pins σ H2 s2->AA x v->AA y u->R x y H2->wpAny dL X.A (f v u) Q X.xe s2) :
  wpAny dL X.A (eval a X.env) (fun v AQ=>wpAny dL X.A (eval b X.env) (fun u E6=>wpAny dL X.A (f v u) Q X.xe E6) X.xe AQ) X.xe s:=by
 refine B5 ip fun v s1 ⟨x,H1,I1,r1,q1⟩=>?_
 refine B5 (hb (pins:=pins) s1 σ H1 _ I1 q1) fun u s2 ⟨y,H2,I2,r2,q2⟩=>?_
 exact hf v u s2 x y H2 I2 r1 r2 q2
theorem Ax {op:Operator} {r:R2} (ho:E9 X (binaryOp op) r) (ha:PE X a ta) (hb:PE X b tb):PE X (.BinOp a op b pos) (tOp r ta tb):=by
 intro pins s σ H Q I h;exact wpAny_BinOp (Wh ha hb I h fun v u s2 x y H2 I2 rx ry q=>ho (pins:=pins) s2 σ H2 x y v u Q I2 rx ry q)
theorem opI {f:Value->Value->Sem Value} {C:Int->Int->Prop} {g:Int->Int->Int}
  (rule:∀ (i j:Int) (t u:Tok) (s:Shared) (Q:Value->Shared->Prop) (E:Value->Shared->Prop),C i j->Q (.int (g i j) s.toks) { s with toks:=s.toks + 1 }->wpAny dL X.A (f (.int i t) (.int j u)) Q E s) :
  E9 X f (rI C fun i j=>.int (g i j)):=by
 intro pins s σ H x y v u Q I rx ry h;obtain ⟨i,j,rfl,rfl,hc,q⟩:=h;obtain ⟨t,rfl⟩:=rx;obtain ⟨t',rfl⟩:=ry;exact rule i j t t' s _ _ hc ⟨.int (g i j),H,I.tok _,⟨_,rfl⟩,q⟩
theorem opI0 {f:Value->Value->Sem Value} {g:Int->Int->Int}
  (rule:∀ (i j:Int) (t u:Tok) (s:Shared) (Q:Value->Shared->Prop) (E:Value->Shared->Prop),Q (.int (g i j) s.toks) { s with toks:=s.toks + 1 }->wpAny dL X.A (f (.int i t) (.int j u)) Q E s) :
  E9 X f (UD fun i j=>.int (g i j)):=by
 intro pins s σ H x y v u Q I rx ry h;obtain ⟨i,j,rfl,rfl,q⟩:=h;obtain ⟨t,rfl⟩:=rx;obtain ⟨t',rfl⟩:=ry;exact rule i j t t' s _ _ ⟨.int (g i j),H,I.tok _,⟨_,rfl⟩,q⟩
theorem T8 {f:Value->Value->Sem Value} {g:Int->Int->Bool}
  (rule:∀ (i j:Int) (t u:Tok) (s:Shared) (Q:Value->Shared->Prop) (E:Value->Shared->Prop),Q (.bool (g i j)) s->wpAny dL X.A (f (.int i t) (.int j u)) Q E s) :
  E9 X f (UD fun i j=>.bl (g i j)):=by
 intro pins s σ H x y v u Q I rx ry h;obtain ⟨i,j,rfl,rfl,q⟩:=h;obtain ⟨t,rfl⟩:=rx;obtain ⟨t',rfl⟩:=ry;exact rule i j t t' s _ _ ⟨.bl (g i j),H,I,rfl,q⟩
def CDiv (i j:Int):Prop:=0 < j/\j < 1073741824
def CPow (i j:Int):Prop:=0<=j/\j<=1000000/\i.natAbs < 2 ^ 64
def Wr (i j:Int):Prop:=(-(2 ^ 64) < i/\i < 2 ^ 64)\/(-(2 ^ 64) < j/\j < 2 ^ 64)
theorem Wr.ok {i j:Int} (h:Wr i j):IntMulOk i j:=by
 rcases h with ⟨h1,h2⟩ | ⟨h1,h2⟩
 ·exact .of_left (intBits_le_64 h1 h2)
 ·exact .of_right (intBits_le_64 h1 h2)
theorem Bj:E9 X (binaryOp .Add) (UD fun i j=>.int (i + j)):=opI0 fun _ _ _ _ _ _ _ q=>add_int q
theorem Le:E9 X (binaryOp .Sub) (UD fun i j=>.int (i - j)):=opI0 fun _ _ _ _ _ _ _ q=>sub_int q
theorem DI:E9 X (binaryOp .Mult) (rI Wr fun i j=>.int (i * j)):=opI fun _ _ _ _ _ _ _ hc q=>mul_int q hc.ok
theorem O2:E9 X (binaryOp .FloorDiv) (rI CDiv fun i j=>.int (i / j)):=opI fun i j _ _ _ _ _ hc q=>by
 have h1:(0:Int) < j:=hc.1;have h2:j < 1073741824:=hc.2;exact floordiv_int ad (by rw [Int.fdiv_eq_ediv_of_nonneg i ad]; exact q) (.inl (PyProof.noPylong_small ad))
theorem Dn:E9 X (binaryOp .Mod) (rI (fun _ j=>0 < j) fun i j=>.int (i % j)):=opI fun i j _ _ _ _ _ hc q=>by
 have h1:(0:Int) < j:=hc;exact mod_int' ad (by rw [Int.fmod_eq_emod_of_nonneg i ad]; exact q)
theorem Nf:E9 X (binaryOp .Pow) (rI CPow fun i j=>.int (i ^ j.toNat)):=opI fun _ _ _ _ _ _ _ hc q=>pow_int_small hc.1 hc.2.1 hc.2.2 q
end
def Vt:V->V->Bool
 | .non,.non=>true | .non,.int _=>true | .int _,.non=>true | .non,.bl _=>true | .bl _,.non=>true | .non,.str _=>true | .str _,.non=>true
 | .int _,.int _=>true | .bl _,.bl _=>true | .str _,.str _=>true | .byt _,.byt _=>true
 | .int _,.str _=>true | .str _,.int _=>true | .bl _,.str _=>true | .str _,.bl _=>true
 | _,_=>false
def rEq:R2:=fun x y H Q=>Vt x y=true/\Q (.bl (decide (x=y))) H
def rNe:R2:=fun x y H Q=>Vt x y=true/\Q (.bl (!decide (x=y))) H
theorem OM {i j:Int}:decide (V.int i=V.int j)=(i == j):=by
 rw [bG];simp
theorem S3 {i j:Bool}:decide (V.bl i=V.bl j)=(i == j):=by
 rw [bG];simp
theorem OL {i j:Str}:decide (V.str i=V.str j)=(i == j):=by
 rw [bG];simp
theorem ON {i j:Array UInt8}:decide (V.byt i=V.byt j)=(i.toList == j.toList):=by
 rw [bG];cases i
 cases j
 simp
section
variable {X:Cx} {a b c:Expr} {ta tb tc:TE} {pos:Pos}
theorem Ba {pins:List cr} {σ:St} {H:Hp} {s:Shared} {Q:VK} {k k':Bool} (I:Aq X pins σ H s) (q:Q (.bl k) H) (e:k=k'):EP X pins σ Q (.bool k') s:=by
 subst e;exact ⟨.bl k,H,I,rfl,q⟩
theorem RQ:E9 X (compareOp .Eq) rEq:=by
 intro pins s σ H x y v u Q I rx ry h;obtain ⟨hs,q⟩:=h;cases x with
 | non=>
  cases rx
  cases y with
  | non=>cases ry; exact PySem.EqNone.eq_none_none (Ba I q gl)
  | bl j=>cases ry; exact PySem.EqNone.eq_none_bool (Ba I q gl)
  | int j=>obtain ⟨t',rfl⟩:=ry; exact PySem.EqNone.eq_none_int (Ba I q gl)
  | str j=>obtain ⟨t',rfl⟩:=ry; exact PySem.EqNone.eq_none_str (Ba I q gl)
  | _=>exact absurd iy ah
 | bl i=>
  cases rx
  cases y with
  | non=>cases ry; exact PySem.EqNone.eq_bool_none (Ba I q gl)
  | bl j=>cases ry; exact eq_bool (Ba I q S3)
  | str j=>obtain ⟨t',rfl⟩:=ry; exact PySem.EqMixed.eq_bool_str (Ba I q gl)
  | _=>exact absurd iy ah
 | int i=>
  obtain ⟨t,rfl⟩:=rx;cases y with
  | non=>cases ry; exact PySem.EqNone.eq_int_none (Ba I q gl)
  | int j=>obtain ⟨t',rfl⟩:=ry; exact eq_int (Ba I q OM)
  | str j=>obtain ⟨t',rfl⟩:=ry; exact PySem.EqMixed.eq_int_str (Ba I q gl)
  | _=>exact absurd iy ah
 | str i=>
  obtain ⟨t,rfl⟩:=rx;cases y with
  | non=>cases ry; exact PySem.EqNone.eq_str_none (Ba I q gl)
  | bl j=>cases ry; exact PySem.EqMixed.eq_str_bool (Ba I q gl)
  | int j=>obtain ⟨t',rfl⟩:=ry; exact PySem.EqMixed.eq_str_int (Ba I q gl)
  | str j=>obtain ⟨t',rfl⟩:=ry; exact eq_str (Ba I q OL)
  | _=>exact absurd iy ah
 | byt i=>
  obtain ⟨t,rfl⟩:=rx;cases y with
  | byt j=>obtain ⟨t',rfl⟩:=ry; exact PySem.W.eq_bytes (Ba I q ON)
  | _=>exact absurd iy ah
 | _=>cases y <;> exact absurd iy ah
theorem O0:E9 X (compareOp .NotEq) rNe:=by
 intro pins s σ H x y v u Q I rx ry h;obtain ⟨hs,q⟩:=h;cases x with
 | non=>
  cases rx
  cases y with
  | non=>cases ry; exact PySem.EqNone.ne_none_none (Ba I q gl)
  | bl j=>cases ry; exact PySem.EqNone.ne_none_bool (Ba I q gl)
  | int j=>obtain ⟨t',rfl⟩:=ry; exact PySem.EqNone.ne_none_int (Ba I q gl)
  | str j=>obtain ⟨t',rfl⟩:=ry; exact PySem.EqNone.ne_none_str (Ba I q gl)
  | _=>exact absurd iy ah
 | bl i=>
  cases rx
  cases y with
  | non=>cases ry; exact PySem.EqNone.ne_bool_none (Ba I q gl)
  | bl j=>cases ry; exact ne_bool (Ba I q (congrArg not S3))
  | str j=>obtain ⟨t',rfl⟩:=ry; exact PySem.EqMixed.ne_bool_str (Ba I q gl)
  | _=>exact absurd iy ah
 | int i=>
  obtain ⟨t,rfl⟩:=rx;cases y with
  | non=>cases ry; exact PySem.EqNone.ne_int_none (Ba I q gl)
  | int j=>obtain ⟨t',rfl⟩:=ry; exact ne_int (Ba I q (congrArg not OM))
  | str j=>obtain ⟨t',rfl⟩:=ry; exact PySem.EqMixed.ne_int_str (Ba I q gl)
  | _=>exact absurd iy ah
 | str i=>
  obtain ⟨t,rfl⟩:=rx;cases y with
  | non=>cases ry; exact PySem.EqNone.ne_str_none (Ba I q gl)
  | bl j=>cases ry; exact PySem.EqMixed.ne_str_bool (Ba I q gl)
  | int j=>obtain ⟨t',rfl⟩:=ry; exact PySem.EqMixed.ne_str_int (Ba I q gl)
  | str j=>obtain ⟨t',rfl⟩:=ry; exact ne_str (Ba I q (congrArg not OL))
  | _=>exact absurd iy ah
 | byt i=>
  obtain ⟨t,rfl⟩:=rx;cases y with
  | byt j=>obtain ⟨t',rfl⟩:=ry; exact PySem.W.ne_bytes (Ba I q (congrArg not ON))
  | _=>exact absurd iy ah
 | _=>cases y <;> exact absurd iy ah
theorem Hs:E9 X (compareOp .Lt) (UD fun i j=>.bl (decide (i < j))):=T8 fun _ _ _ _ _ _ _ q=>lt_int q
theorem LY:E9 X (compareOp .LtE) (UD fun i j=>.bl (decide (i<=j))):=T8 fun _ _ _ _ _ _ _ q=>le_int q
theorem UI:E9 X (compareOp .Gt) (UD fun i j=>.bl (decide (j < i))):=T8 fun _ _ _ _ _ _ _ q=>gt_int q
theorem op_ge:E9 X (compareOp .GtE) (UD fun i j=>.bl (decide (j<=i))):=T8 fun _ _ _ _ _ _ _ q=>ge_int q
theorem BI (b:Expr) {op:CmpOp} (h:op ≠ .In:=by decide) (h2:op ≠ .NotIn:=by decide):behindInMarks op b=false:=by
 have e1:(op == CmpOp.In)=false:=by cases op <;> first | rfl | exact absurd rfl h
 have e2:(op == CmpOp.NotIn)=false:=by cases op <;> first | rfl | exact absurd rfl h2
 cases b <;> simp [behindInMarks,e1,e2]
theorem Ib {op:CmpOp} {r:R2} (ho:E9 X (compareOp op) r) (ha:PE X a ta) (hb:PE X b tb) (hm:behindInMarks op b=false):PE X (.Compare a [op] [b] pos) (tOp r ta tb):=by
 intro pins s σ H Q I h;exact wpAny_Compare1 (Wh ha hb I h fun v u s2 x y H2 I2 rx ry q=>ho (pins:=pins) s2 σ H2 x y v u Q I2 rx ry q) hm
def U7 (t:TE):TT:=fun σ H Q=>t σ H fun x H'=>∃ k,x=.bl k/\Q k H'
theorem By {op:CmpOp} {r:R2} (ho:E9 X (compareOp op) r) (ha:PE X a ta) (hb:PE X b tb) (hm:behindInMarks op b=false):PT X (.Compare a [op] [b] pos) (U7 (tOp r ta tb)):=by
 intro pins s σ H Q I h;refine wpAny_isTrue_Compare1 (B5 ip fun v s1 ⟨x,H1,I1,r1,q1⟩=>B5 (hb (pins:=pins) s1 σ H1 _ I1 q1) fun u s2 ⟨y,H2,I2,r2,q2⟩=>
  B5 (ho (pins:=pins) s2 σ H2 x y v u _ I2 r1 r2 q2) fun c s3 ⟨z,H3,I3,r3,k,e,q3⟩=>?_) hm
 subst e;cases r3
 exact wpAny_truthy_bool ⟨H3,I3,q3⟩
def MJ (r r':R2) (ta tb tc:TE):TE:=fun σ H Q=>ta σ H fun x H1=>tb σ H1 fun y H2=>r x y H2 fun z H3=>∃ k,z=.bl k /\
 (if k=true then tc σ H3 fun w' H4=>r' y w' H4 Q else Q (.bl false) H3)
theorem RJ {op VA:CmpOp} {r r':R2} (ho:E9 X (compareOp op) r) (JE:E9 X (compareOp VA) r') (ha:PE X a ta) (hb:PE X b tb) (hc:PE X c tc)
  (hm:lastMarks [op,VA] [b,c]=false:=by with_unfolding_all rfl):PE X (.Compare a [op,VA] [b,c] pos) (MJ r r' ta tb tc):=by
 intro pins s σ H Q I h;refine Compare_chain (B5 ip fun v s1 ⟨x,H1,I1,r1,q1⟩=>chain_link (B5 (hb (pins:=pins) s1 σ H1 _ I1 q1) fun u s2 ⟨y,H2,I2,r2,q2⟩=>
  B5 (ho (pins:=pins) s2 σ H2 x y v u _ I2 r1 r2 q2) fun d s3 ⟨z,H3,I3,r3,k,e,q3⟩=>?_)) hm
 subst e;cases r3
 refine wpAny_truthy_bool ?_;cases k with
 | false=>exact ite_ff ⟨.bl false,H3,I3,rfl,q3⟩
 | true=>exact ite_tt (chain_last (B5 (hc (pins:=pins) s3 σ H3 _ I3 q3) fun w' s4 ⟨z',H4,I4,r4,q4⟩=>JE (pins:=pins) s4 σ H4 y z' u w' Q I4 r2 r4 q4))
theorem IB {op VA:CmpOp} {r r':R2} (ho:E9 X (compareOp op) r) (JE:E9 X (compareOp VA) r') (ha:PE X a ta) (hb:PE X b tb) (hc:PE X c tc)
  (hm:lastMarks [op,VA] [b,c]=false:=by with_unfolding_all rfl):PT X (.Compare a [op,VA] [b,c] pos) (U7 (MJ r r' ta tb tc)):=by
 intro pins s σ H Q I h;refine isTrue_chain (B5 ip fun v s1 ⟨x,H1,I1,r1,q1⟩=>test_link (B5 (hb (pins:=pins) s1 σ H1 _ I1 q1) fun u s2 ⟨y,H2,I2,r2,q2⟩=>
  B5 (ho (pins:=pins) s2 σ H2 x y v u _ I2 r1 r2 q2) fun d s3 ⟨z,H3,I3,r3,k,e,q3⟩=>?_)) hm
 subst e;cases r3
 refine wpAny_truthy_bool ?_;cases k with
 | false=>
  obtain ⟨k',e',q'⟩:=q3;cases e'
  exact ite_ff ⟨H3,I3,q'⟩
 | true=>
  refine ite_tt (test_last (B5 (hc (pins:=pins) s3 σ H3 _ I3 q3) fun w' s4 ⟨z',H4,I4,r4,q4⟩=>B5 (JE (pins:=pins) s4 σ H4 y z' u w' _ I4 r2 r4 q4) fun d' s5 ⟨z2,H5,I5,r5,k2,e2,q5⟩=>?_));subst e2;cases r5
  exact wpAny_truthy_bool ⟨H5,I5,q5⟩
def TruV (K:ZP) (x:V) (H:Hp) (k:Bool):Prop:=
 match x with
 | .non=>k=false
 | .bl b=>k=b
 | .int i=>k=(i != 0)
 | .str y=>y.length<=sizeLine/\k=((y.length:Int) != 0)
 | .byt y=>y.size<=sizeLine/\k=((y.size:Int) != 0)
 | .ref p=>(∃ xs,AB K H p xs/\k = !xs.isEmpty)\/(∃ xs,AI K H p xs/\k = !xs.isEmpty)\/∃ kvs,H p=some iz/\k = !kvs.isEmpty
 | _=>False
theorem Nq {κ:Type} {kvs:List (κ × V)} {vs:List (κ × Value)} (r:KV kvs vs):(!vs.isEmpty) = !kvs.isEmpty:=by
 cases r <;> rfl
theorem Jb {xs:List V} {As:List Value} (r:A9 xs As):(!As.toArray.isEmpty) = !xs.isEmpty:=by
 cases r <;> simp
theorem FH:(sizeLine:Nat) < 2 ^ 63:=by rw [sizeLine_eq]; decide
theorem Vi:TruR X (fun x H Q=>∃ k,TruV X.K x H k/\Q k H):=by
 intro pins s σ H x v Q I rx h;obtain ⟨k,e,q⟩:=h;have hl:=FH;have hs:sizeLine=16777216:=sizeLine_eq;cases x with
 | non=>
  cases rx
  have e':k=false:=e;subst e';exact truthy_none ⟨H,I,q⟩
 | bl b=>
  cases rx
  have e':k=b:=e;subst e';exact wpAny_truthy_bool ⟨H,I,q⟩
 | int i=>
  obtain ⟨t,rfl⟩:=rx;have e':k=(i != 0):=e;subst e';exact PySem.P.truthy_int ⟨H,I,q⟩
 | str y=>
  obtain ⟨t,rfl⟩:=rx;obtain ⟨hy,e'⟩:y.length<=sizeLine/\k=((y.length:Int) != 0):=e;subst e';exact PySem.P.truthy_str ad ⟨H,I.tok _,q⟩
 | byt y=>
  obtain ⟨t,rfl⟩:=rx;obtain ⟨hy,e'⟩:y.size<=sizeLine/\k=((y.size:Int) != 0):=e;subst e';exact PySem.W.truthy_bytes ad ⟨H,I.tok _,q⟩
 | ref p=>
  cases rx
  have e':(∃ xs,AB X.K H p xs/\k = !xs.isEmpty)\/(∃ xs,AI X.K H p xs/\k = !xs.isEmpty)\/∃ kvs,H p=some iz/\k = !kvs.isEmpty:=e;rcases e' with ⟨xs,hx,e'⟩ | ⟨xs,hx,e'⟩ | ⟨kvs,hx,e'⟩
  ·subst e';obtain ⟨As,r,pl,hz⟩:=I.list hx;have hlen:=r.length;exact wpAny_truthy_list pl.isList (by simp only [au]; lia) ⟨H,I.tok _,by rw [Jb r]; exact q⟩
  ·subst e';obtain ⟨As,r,pl,hz⟩:=I.tuple hx;have hlen:=r.length;exact truthy_tuple pl (by simp only [au]; lia) ⟨H,I.tok _,by rw [Jb r]; exact q⟩
  ·subst e';obtain ⟨hz,hS,vs,r,m⟩:kvs.length<=sizeLine/\(p == sysModules)=false/\∃ vs,KV kvs vs/\s.heap.DictOf (AR X.prog X.w) p vs:=I.hok p _ hx;have hlen:kvs.length=vs.length:=Paired.length r;exact wpAny_truthy_dict hS m ad ⟨H,I.tok _,by rw [Nq r]; exact q⟩
 | _=>exact (show False from e).elim
theorem LU (ha:PE X a ta) (he:∀ whole,isTrue a X.env whole=(do let v <- whole; standAt a.pos; holding [v] (truthy v))) :
  PT X a (fun σ H Q=>ta σ H fun x H'=>∃ k,TruV X.K x H' k/\Q k H'):=by
 intro pins s σ H Q I h;exact isTrue_plain (B5 ip fun v s1 ⟨x,H1,I1,r1,q1⟩=>Vi (pins:=pins) s1 σ H1 x v Q I1 r1 q1) (he _)
theorem El:E9 X (binaryOp .Add) (fun x y H Q=>∃ i j,x=.str i/\y=.str j/\i.length + j.length<=sizeLine/\Q (.str (i ++ j)) H):=by
 intro pins s σ H x y v u Q I rx ry h;obtain ⟨i,j,rfl,rfl,hz,q⟩:=h;obtain ⟨t,rfl⟩:=rx;obtain ⟨t',rfl⟩:=ry;exact add_str (fun t' tk=>⟨.str (i ++ j),H,I.tok _,⟨_,rfl⟩,q⟩) hz
theorem BV {x:V} {us:List Value} (r:A9 [x] us):∃ u,us=[u]/\AA x u:=by
 cases r with
 | cons r1 r2=>cases r2; exact ⟨_,rfl,r1⟩
theorem NO {x y:V} {us:List Value} (r:A9 [x,y] us):∃ u w',us=[u,w']/\AA x u/\AA y w':=by
 cases r with
 | cons r1 r2=>
  cases r2 with
  | cons r3 r4=>cases r4; exact ⟨_,_,rfl,r1,r3⟩
theorem S4:Bo X (.builtin "abs") (fun xs H Q=>∃ i,xs=[.int i]/\Q (.int (if i < 0 then -i else i)) H):=by
 intro pins s σ H xs us Q I r h;obtain ⟨i,rfl,q⟩:=h;obtain ⟨u,rfl,t,rfl⟩:=BV r;exact call_abs_int fun u tk=>⟨.int (if i < 0 then -i else i),H,I.tok _,⟨_,rfl⟩,q⟩
theorem Q7 (hc:X.calm=true):Bo X (.builtin "max") (fun xs H Q=>∃ i j,xs=[.int i,.int j]/\Q (.int (if j > i then j else i)) H):=by
 intro pins s σ H xs us Q I r h;obtain ⟨i,j,rfl,q⟩:=h;obtain ⟨u,w',rfl,⟨t,rfl⟩,⟨t',rfl⟩⟩:=NO r;refine max_two_ints iG fun h' tk k=>⟨_,H,I.kept k,?_,q⟩
 by_cases hj:j > i
 ·rw [if_pos hj,if_pos hj]; exact ⟨_,rfl⟩
 ·rw [if_neg hj,if_neg hj]; exact ⟨_,rfl⟩
theorem GW (hc:X.calm=true):Bo X (.builtin "min") (fun xs H Q=>∃ i j,xs=[.int i,.int j]/\Q (.int (if j < i then j else i)) H):=by
 intro pins s σ H xs us Q I r h;obtain ⟨i,j,rfl,q⟩:=h;obtain ⟨u,w',rfl,⟨t,rfl⟩,⟨t',rfl⟩⟩:=NO r;refine min_two_ints iG fun h' tk k=>⟨_,H,I.kept k,?_,q⟩
 by_cases hj:j < i
 ·rw [if_pos hj,if_pos hj]; exact ⟨_,rfl⟩
 ·rw [if_neg hj,if_neg hj]; exact ⟨_,rfl⟩
theorem Fp:Bo X (.type "int") (fun xs H Q=>(∃ i,xs=[.int i]/\Q (.int i) H)\/∃ k,xs=[.bl k]/\Q (.int (if k then 1 else 0)) H):=by
 intro pins s σ H xs us Q I r h;rcases h with ⟨i,rfl,q⟩ | ⟨k,rfl,q⟩
 ·obtain ⟨u,rfl,t,rfl⟩:=BV r;exact call_int_int ⟨.int i,H,I,⟨_,rfl⟩,q⟩
 ·obtain ⟨u,rfl,r1⟩:=BV r;cases r1
  exact call_int_bool ⟨.int (if k then 1 else 0),H,I.tok _,⟨_,rfl⟩,q⟩
end
structure Wn (h:Heap) (x dx C:Addr) (mA:Str->Option Value):Prop where
 obj:h.get? x=some (dZ C dx)
 ns:h.Ns1 dx mA
 ne:dx ≠ x
theorem Qh {h:Heap} {dx:Addr} {mA:Str->Option Value} (n:h.Ns1 dx mA):∃ od,h.get? dx=some od/\∀ name,eF name od=some (mA name):=by
 obtain ⟨o,es,ep,ho,hd,hk,_,hm⟩:=n;refine ⟨o,ho,fun name=>?_⟩;have e:=hm name;unfold nsFind findBy at e;rw [<-Array.find?_toList] at e;unfold eF;rw [hd];dsimp only;split
 ·rename_i y q
  rw [q] at e;exact congrArg some e
 ·rename_i q
  rw [q] at e;have a:es.toList.any (·.refKey)=false:=by
   rw [List.any_eq_false];intro y hy;obtain ⟨z,t,hkey⟩:=hk y (eX.mp hy);simp [DictEntry.refKey,hkey]
  have a':¬ es.toList.any (·.refKey)=true:=by rw [a]; exact ah
  rw [if_neg a'];exact congrArg some e
theorem Wn.look {h:Heap} {x dx C:Addr} {mA:Str->Option Value} (I:Wn h x dx C mA):∃ od,PySem.W.InstAt h x (dZ C dx) C (some od)/\∀ name,eF name od=some (mA name):=
 let ⟨od,ho,hl⟩:=Qh I.ns
 ⟨od,⟨I.obj,rfl,rfl,ho⟩,hl⟩
section
variable {prog:Program} {w:World} {A:Around} {E:Value->Shared->Prop} {s:Shared} {K:ZP} {x dx C f:Addr} {mA:Str->Option Value} {name:Str} {v:Value}
end
theorem GZ.some_of {v:V} {o:Option Value} (r:GZ (some v) o):∃ u,o=some u/\AA v u:=by
 cases o with
 | none=>exact (show False from r).elim
 | some u=>exact ⟨u,rfl,r⟩
section
variable {P:Program} {w:World} {H H':Hp} {h h':Heap} {a C dx:Addr} {fs W4:List gU}
theorem Ub (hok:FT P w H h) (e:H a=some (.ins C dx fs)):∃ mA,Wn h a dx C mA/\(∀ f,GZ (fs.lookup f) (mA f))/\PySem.Within mA (fs.map (·.1))/\fs.length<=1000/\H dx=some (.own a):=by
 obtain ⟨d,z,ne,ob,mA,n,r,q⟩:=(show AE P w H h a (.ins C dx fs) from hok a _ e)
 exact ⟨mA,⟨ob,n,ne⟩,r,q,z,d⟩
end
structure Cls (K:ZP) (C:Addr):Prop where
 pg:fu K C Str.empty=true
 hd:PySem.W.hasDictIn K C=true
 po:PySem.W.plainOver K C=true
 sa:fP K (.ref C) "__setattr__"=some (some (.builtin "object.__setattr__"))
theorem Cls.get {K:ZP} {C:Addr} (c:Cls K C) (f:Str):fu K C f=true:=c.pg
section
variable {X:Cx} {pins:List cr} {σ:St} {H:Hp} {s:Shared} {a C dx:Addr} {fs:List gU} {f:Str} {v:V} {A:Around} {E:Value->Shared->Prop}
end
section
variable {X:Cx} {o e value:Expr} {f:Str} {pos pos' tpos:Pos} {ta tv:TE}
end
section
variable {X:Cx} {pins:List cr} {σ:St} {H:Hp} {s:Shared} {A:Around} {E:Value->Shared->Prop} {Q:Value->Shared->Prop} {c:Value} {b:Bool}
inductive Fc (K:ZP) (H:Hp):V->Value->Prop where
 | non:Fc K H .non (.type "NoneType")
 | bl (x:Bool):Fc K H (.bl x) (.type "bool")
 | int (i:Int):Fc K H (.int i) (.type "int")
 | str (x:Str):Fc K H (.str x) (.type "str")
 | flt (x:UInt64):Fc K H (.flt x) (.type "float")
 | lst {a:Addr} {xs:List V} (e:H a=some (.lst xs)):Fc K H (.ref a) (.type "list")
 | frz {a:Addr} {o:Obj} {xs:List V} (e:H a=some (.frz o (.lst xs))):Fc K H (.ref a) (.type "list")
 | tup {a:Addr} {xs:List V} (e:H a=some gX):Fc K H (.ref a) (.type "tuple")
 | dK {a:Addr} {kvs:List (AF × V)} (e:H a=some iz):Fc K H (.ref a) (.type "dict")
 | dT {a:Addr} {kvs:List gQ} (e:H a=some ig):Fc K H (.ref a) (.type "dict")
 | ins {a C dx:Addr} {fs:List gU} (e:H a=some (.ins C dx fs)) (cl:Cls K C) (ha:fP K (.ref C) "__class__"=some (some (.builtin "object.__class__")))
   (hn:PySem.W.specialIn K (.builtin "object.__class__") "__get__"=some (some (.builtin "getset_descriptor.__get__"))) (htk:PySem.W.takesIn K (.builtin "object.__class__")=some true)
   (hm:PySem.W.mroIn K C (.type "object")=some true):Fc K H (.ref a) (.ref C)
theorem Qm {x:V} {u t:Value} (I:Aq X pins σ H s) (rx:AA x u) (ty:Fc X.K H x t) (e:di X.K t c=some b) (h:∀ tk,Q (.bool b) { s with toks:=tk }) :
  wpAny dL A (call (.builtin "isinstance") [u,c]) Q E s:=by
 cases ty with
 | non=>cases (show u=Value.none from rx); exact bA PySem.W.kitx_none I.kIn True.intro e (fun z=>nomatch z) h
 | bl y=>cases (show u=Value.bool y from rx); exact bA PySem.W.kitx_bool I.kIn True.intro e (fun z=>nomatch z) h
 | int i=>obtain ⟨t,q⟩:=(show ∃ t,u=Value.int i t from rx); cases q; exact bA PySem.W.kitx_int I.kIn True.intro e (fun z=>nomatch z) h
 | str y=>obtain ⟨t,q⟩:=(show ∃ t,u=Value.str y t from rx); cases q; exact bA PySem.W.kitx_str I.kIn True.intro e (fun z=>nomatch z) h
 | flt y=>obtain ⟨t,q⟩:=(show ∃ t,u=Value.float y t from rx); cases q; exact bA PySem.W.kitx_float I.kIn True.intro e (fun z=>nomatch z) h
 | @lst a xs ea=>
  cases (show u=Value.ref a from rx)
  obtain ⟨_,_,n,_,h1⟩:=(show AE X.prog X.w H s.heap a (.lst xs) from I.hok a _ ea)
  exact bA fe I.kIn ⟨_,h1,rfl⟩ e (fun z=>nomatch z) h
 | @frz a ob xs ea=>
  cases (show u=Value.ref a from rx)
  obtain ⟨_,_,_,n,_,h1⟩:=(show AE X.prog X.w H s.heap a (.frz ob (.lst xs)) from I.hok a _ ea)
  exact bA fe I.kIn ⟨_,h1,rfl⟩ e (fun z=>nomatch z) h
 | @tup a xs ea=>
  cases (show u=Value.ref a from rx)
  obtain ⟨_,_,_,p,_⟩:=(show AE X.prog X.w H s.heap a gX from I.hok a _ ea)
  obtain ⟨o,h1,h2,_⟩:=p;exact bA PySem.W.kitx_tuple I.kIn ⟨o,h1,h2⟩ e (fun z=>nomatch z) h
 | @dK a kvs ea=>
  cases (show u=Value.ref a from rx)
  obtain ⟨_,_,vs,_,p⟩:=(show AE X.prog X.w H s.heap a iz from I.hok a _ ea)
  obtain ⟨o,es,ep,h1,h2,_⟩:=p;exact bA ff I.kIn ⟨o,h1,h2.1⟩ e (fun z=>nomatch z) h
 | @dT a kvs ea=>
  cases (show u=Value.ref a from rx)
  obtain ⟨_,_,xs,_,o,es,ep,h1,h2,_⟩:=(show AE X.prog X.w H s.heap a ig from I.hok a _ ea)
  exact bA ff I.kIn ⟨o,h1,h2.1⟩ e (fun z=>nomatch z) h
 | @ins a C dx fs ea cl ha hn htk hm=>
  cases (show u=Value.ref a from rx)
  obtain ⟨mA,O,_⟩:=Ub I.hok ea;obtain ⟨od,J,_⟩:=O.look;exact bA (PySem.W.kitx_own (cl.get _) cl.hd ha hn htk hm) I.kIn J e (fun z=>nomatch z) h
end
structure DN (k:Nat) (A:Around):Prop where
 hd:A.handled=none
 dp:A.depth + 3 * k + 5 < recursionLimit
 un:A.units + 16 * k + 200 < cLine
 gd:A.guards=some []:=by rfl
theorem DN.mono {j k:Nat} {A:Around} (r:DN k A) (h:j<=k):DN j A:=⟨r.hd,by have:=r.dp; lia,by have:=r.un; lia,r.gd⟩
theorem DN.deeper {k:Nat} {A:Around} (r:DN (k + 1) A) (env:Env):DN k (A.deeper env):=
 ⟨r.hd,by have:=r.dp; show A.depth + 1 + 3 * k + 5 < _; lia,by have:=r.un; show A.units + 3 + 16 * k + 200 < _; lia,r.gd⟩
theorem DN.depth {k:Nat} {A:Around} (r:DN k A):A.depth < recursionLimit:=by have:=r.dp; lia
theorem DN.units {k:Nat} {A:Around} (r:DN k A):A.units + 64 < cLine:=by have:=r.un; lia
def tNil:TA:=fun _ H Q=>Q [] H
def tCons (ta:TE) (tr:TA):TA:=fun σ H Q=>ta σ H fun x H1=>tr σ H1 fun xs H2=>Q (x :: xs) H2
section
variable {X:Cx} {e:Expr} {es:List Expr} {te:TE} {t:TA} {pos:Pos}
theorem Ad:PA X [] tNil:=fun _ _ _ _ H Q I h=>Calls.spliced_nil ⟨[],H,I,.nil,h⟩
theorem Aa (ha:PE X e te) (hr:PA X es t) (hs:starEach (e :: es) X.env=(false,eval e X.env) :: starEach es X.env:=by rfl):PA X (e :: es) (tCons te t):=by
 intro pos pins s σ H Q I h;rw [hs];show wpAny _ _ (spliced ((false,eval e X.env) :: backTo pos (starEach es X.env))) _ _ s
 refine Calls.spliced_cons (B5 ip fun u s1 ⟨x,H1,I1,r1,q1⟩=>?_);exact B5 (hr (pos:=pos) (pins:=pins) s1 σ H1 _ I1 q1) fun us s2 ⟨xs,H2,I2,r2,q2⟩=>⟨x :: xs,H2,I2,.cons r1 r2,q2⟩
def tTup (t:TA):TE:=fun σ H Q=>t σ H fun xs H1=>xs.length<=sizeLine/\∀ p,H1 p=none->Q (.ref p) (upd H1 p gX)
def tLst (t:TA):TE:=fun σ H Q=>t σ H fun xs H1=>xs.length<=sizeLine/\∀ p,H1 p=none->Q (.ref p) (upd H1 p (.lst xs))
theorem A7 {x1} (h:PA X es t):PE X (.Tuple es x1 pos) (tTup t):=by
 intro pins s σ H Q I hq;refine wpAny_Tuple_spliced (B5 (h (pos:=pos) (pins:=pins) s σ H _ I hq) fun us s1 ⟨xs,H1,I1,r,z,q⟩=>⟨by rw [<-r.length]; exact z,?_⟩);have hf:H1 s1.heap.objs.size=none:=I1.hok.fresh (ZU _);refine ⟨.ref s1.heap.objs.size,upd H1 s1.heap.objs.size gX,I1.laid (t':=s1.toks) (fun b u e=>ZO _ e) (ZU _) ?_,rfl,q _ hf⟩;exact ⟨z,us,r,⟨_,ZX _ rfl,rfl,_,rfl⟩,N4.new rfl rfl⟩
theorem Bi (h:PA X es t):PE X (.List es pos) (tLst t):=by
 intro pins s σ H Q I hq;refine wpAny_List_spliced (B5 (h (pos:=pos) (pins:=pins) s σ H _ I hq) fun us s1 ⟨xs,H1,I1,r,z,q⟩=>⟨by rw [<-r.length]; exact z,?_⟩);have hf:H1 s1.heap.objs.size=none:=I1.hok.fresh (ZU _);refine ⟨.ref s1.heap.objs.size,upd H1 s1.heap.objs.size (.lst xs),I1.laid (t':=s1.toks) (fun b u e=>ZO _ e) (ZU _) ?_,rfl,q _ hf⟩;exact ⟨z,us,0,r,ZX _ rfl⟩
end
abbrev Sp:=List V->Hp->VK->XK->Prop
abbrev QF:=List Env->Hp->Shared->XK->Value->Shared->Prop
structure U1 (P:Program) (w:World) (K:ZP) (mg:Str->Option Value) (base:Heap) (A:Around) (outer:List Env) (s:Shared) (H:Hp):Prop where
 frames:A.frames=some outer
 mod:Mod K mg base
 bs:∀ b o,base.get? b=some o->s.heap.get? b=some o/\H b=none
 bsz:base.objs.size<=s.heap.objs.size
 funs:s.heap.FunFrames base outer
 frf:∀ b ∈ Sv outer,H b=none
 hok:FT P w H s.heap
 bare:AllBare s.gens
def CE (outer:List Env) (P:Program) (w:World) (H:Hp) (s:Shared) (Q:VK) (u:Value) (s':Shared):Prop:=
 ∃ v H',s'.os=s.os/\AllBare s'.gens/\Un (Sv outer) [] H H' s.heap s'.heap/\FT P w H' s'.heap/\AA v u/\Q v H'
def CR (CX:QF) (outer:List Env) (P:Program) (w:World) (H:Hp) (s:Shared) (Q:VK) (E:XK) (r:Result) (s':Shared):Prop:=
 match r with
 | .ok (.ret u)=>CE outer P w H s Q u s'
 | .ok _=>False
 | .error e=>CX outer H s E e s'
structure AH (P:Program) (w:World) (K:ZP) (mg:Str->Option Value) (base:Heap) (CX:QF) (k:Nat) (f:Addr) (fd:FuncData) (ps:List Str) (sp:Sp):Prop where
 len:∀ vs H Q E,sp vs H Q E->vs.length=ps.length
 run:∀ (A:Around) (outer:List Env) (s:Shared) (H:Hp) (args:Args) (us:List Value) (vs:List V) (Q:VK) (E:XK),DN k A->U1 P w K mg base A outer s H->BindsTo s fd args (ps.zip us)->A9 vs us->sp vs H Q E ->
  codeAny (model P w) A (.call (.ref f) args) (CR CX outer P w H s Q E) s
section
variable {X:Cx} {pins:List cr} {σ:St} {H:Hp} {s s':Shared}
theorem Aq.env0 (I:Aq X pins σ H s):U1 X.prog X.w X.K X.mg X.base X.A X.stack s H:=
 ⟨I.ok.frames,I.ok.mod,I.bs,az I.ok.bsz I.sz,I.stack,I.stkFree,I.hok,I.bare⟩
theorem Aq.after {Q:VK} {u:Value} (I:Aq X pins σ H s) (h:CE X.stack X.prog X.w H s Q u s'):EP X pins σ Q u s':=by
 obtain ⟨v,H',os,bare,un,hok,r,q⟩:=h;obtain ⟨hh,g,d,t,YA⟩:=s';obtain rfl:YA=s.os:=os;exact ⟨v,H',I.call (h':=hh) (g':=g) (d':=d) (t':=t) (ch:=[]) un hok bare (fun b z=>absurd z gl),r,q⟩
end
def QW (sp:Sp) (dvs:List V) (E:XK) (t:TA):TE:=fun σ H Q=>t σ H fun vs H1=>sp (vs ++ dvs) H1 Q E
def F9 (K:ZP) (fd:FuncData) (ps:List Str) (ds:List Value):Prop:=
 ∀ (s:Shared) (us:List Value),K.In s.heap->(us ++ ds).length=ps.length->BindsTo s fd ⟨us,[]⟩ (ps.zip (us ++ ds))
theorem F9.all {K:ZP} {fd:FuncData} {ps:List Str} (h:∀ us:List Value,us.length=ps.length->bindArgs fd ⟨us,[]⟩=pure (ps.zip us)):F9 K fd ps []:=fun s us _ hl=>by
 rw [bc] at hl ⊢;exact .of_eq (h us hl)
def Jz (CX:QF) (X:Cx) (E:XK):Prop:=∀ (pins:List cr) (σ:St) (H:Hp) (s:Shared) (e:Value) (s':Shared),Aq X pins σ H s->CX X.stack H s E e s'->X.xe e s'
section
variable {X:Cx} {CX:QF} {k:Nat} {f C:Addr} {fd:FuncData} {ps:List Str} {sp:Sp} {dvs:List V} {ds:List Value} {E:XK} {x m:Str} {p pos apos:Pos} {e o:Expr} {es:List Expr} {ta:TE} {t:TA}
theorem MS {pins:List cr} {σ:St} {H:Hp} {s:Shared} {Q:VK} {us:List Value} {vs:List V} (F:AH X.prog X.w X.K X.mg X.base CX k f fd ps sp) (hr:DN k X.A) (hb:F9 X.K fd ps ds) (hd:A9 dvs ds) (hx:Jz CX X E)
  (I:Aq X pins σ H s) (r:A9 vs us) (h:sp (vs ++ dvs) H Q E):wpAny dL X.A (call (.ref f) us) (EP X pins σ Q) X.xe s:=by
 have r2:A9 (vs ++ dvs) (us ++ ds):=r.append hd;have hl:(us ++ ds).length=ps.length:=by rw [<-r2.length]; exact F.len _ _ _ _ h
 refine wpAny_call (codeAny_mono (F.run X.A X.stack s H ⟨us,[]⟩ (us ++ ds) (vs ++ dvs) Q E hr I.env0 (hb s us I.kIn hl) r2 h) fun r s' hq=>?_);cases r with
 | error e=>exact hx pins σ H s e s' I hq
 | ok fl=>
  cases fl with
  | ret u=>exact I.after hq
  | next=>exact False.elim hq
  | brk=>exact False.elim hq
  | cont=>exact False.elim hq
theorem Ak (F:AH X.prog X.w X.K X.mg X.base CX k f fd ps sp) (hr:DN k X.A) (hg:Gl X x) (hm:X.mg x=some (.ref f)) (hk:cz X.K (.ref f)=true) (hb:F9 X.K fd ps ds) (hd:A9 dvs ds) (hx:Jz CX X E)
  (ha:PA X (e :: es) t) (hdb:(x == ("__debug__":Str))=false:=by decide) (he:starEach (e :: es) X.env=(false,eval e X.env) :: starEach es X.env:=by rfl) (hpl:(backTo pos (starEach es X.env)).any (·.1)=false:=by rfl) :
  PE X (.Call (.Name x p) (e :: es) [] pos) (QW sp dvs E t):=by
 intro pins s σ H Q I h;refine wpAny_Call_Name_kw (OA I hg hm ?_ hdb);refine dE (h₀:=X.base) I.ok.mod.kin hk (B5 (ha (pos:=pos) (pins:=pins) s σ H _ I h) fun us s1 ⟨vs,H1,I1,r,q⟩=>⟨I1.kIn,?_⟩) he hpl;exact MS F hr hb hd hx I1 r q
end
section
variable {X:Cx} {CX:QF} {k:Nat} {f C:Addr} {fd:FuncData} {ps ks:List Str} {sp:Sp} {E:XK} {x m:Str} {p pos apos kpos:Pos} {e o:Expr} {es:List Expr} {kws:List Keyword} {te ta:TE} {t tk:TA} {nm:Option Str}
variable {g:List Value->List Value->List Value} {gV:List V->List V->List V}
end
structure AD (N P:List Str) (sc:Scope):Prop where
 kind:sc.kind=.function
 co:sc.isCoroutine=false
 gen:sc.isGenerator=false
 nd:N.Nodup
 pre:N.take P.length=P
 par:∀ x ∈ P,sc.names.lookup x=some .local\/sc.names.lookup x=some .cell
 nofree:∀ y ∈ sc.names,y.2 ≠ .free
theorem K6 {kindOf:Str->Option NameKind} {x:Str}:∀ {binds:List (Str × Value)} {m:Str->Option Value},(∀ v,(x,v) ∉ binds)->bindL kindOf binds m x=m x
 | [],_,_=>rfl
 | (n,v) :: r,m,h=>by
  unfold bindL;rw [K6 fun w hw=>h w (ay _ hw)];split
  ·have:x ≠ n:=by rintro rfl; exact h v aj
   simp [this]
  ·rfl
theorem K8 {kindOf:Str->Option NameKind} {x:Str}:∀ {binds:List (Str × Value)} {m:Str->Option Value},(∀ v,(x,v) ∉ binds)->bindC kindOf binds m x=m x
 | [],_,_=>rfl
 | (n,v) :: r,m,h=>by
  unfold bindC;rw [K8 fun w hw=>h w (ay _ hw)];split
  ·rfl
  ·have:x ≠ n:=by rintro rfl; exact h v aj
   simp [this]
theorem K7 {kindOf:Str->Option NameKind} {x:Str} {v:Value}:∀ {P:List Str} {vs:List Value} {i:Nat} {m:Str->Option Value},P.Nodup->P[i]? = some x->vs[i]? = some v->kindOf x=some .local ->
  bindL kindOf (P.zip vs) m x=some v
 | [],_,_,_,_,h,_,_=>by simp at h
 | _ :: _,[],_,_,_,_,h,_=>by simp at h
 | p :: P,w :: vs,0,m,nd,h1,h2,hk=>by
  simp at h1 h2; subst h1; subst h2;show bindL kindOf ((p,w) :: P.zip vs) m p=_
  unfold bindL;rw [K6 fun v hv=>(aD.mp nd).1 (eG hv).1,if_pos hk];simp
 | p :: P,w :: vs,i + 1,m,nd,h1,h2,hk=>by
  show bindL kindOf ((p,w) :: P.zip vs) m x=_
  unfold bindL;exact K7 (i:=i) (aD.mp nd).2 (by simpa using h1) (by simpa using h2) hk
theorem K9 {kindOf:Str->Option NameKind} {x:Str} {v:Value}:∀ {P:List Str} {vs:List Value} {i:Nat} {m:Str->Option Value},P.Nodup->P[i]? = some x->vs[i]? = some v->kindOf x ≠ some .local ->
  bindC kindOf (P.zip vs) m x=some v
 | [],_,_,_,_,h,_,_=>by simp at h
 | _ :: _,[],_,_,_,_,h,_=>by simp at h
 | p :: P,w :: vs,0,m,nd,h1,h2,hk=>by
  simp at h1 h2; subst h1; subst h2;show bindC kindOf ((p,w) :: P.zip vs) m p=_
  unfold bindC;rw [K8 fun v hv=>(aD.mp nd).1 (eG hv).1,if_neg hk];simp
 | p :: P,w :: vs,i + 1,m,nd,h1,h2,hk=>by
  show bindC kindOf ((p,w) :: P.zip vs) m x=_
  unfold bindC;exact K9 (i:=i) (aD.mp nd).2 (by simpa using h1) (by simpa using h2) hk
def start (N:List Str) (vs:List V):St:=vs.map some ++ gr (N.length - vs.length) none
def JH (CX:QF) (P:Program) (w:World) (K:ZP) (mg:Str->Option Value) (base:Heap) (N:List Str) (qual:Str) (scope:Scope) (f:Addr) (cd:Value) (A:Around) (outer:List Env) (s:Shared) (H:Hp) (E:XK):Cx where
 prog:=P
 w:=w
 K:=K
 mg:=mg
 base:=base
 A:=A.deeper (envOfC qual scope s.heap.objs.size f cd)
 N:=N
 s₀:=s
 H₀:=H
 env:=envOfC qual scope s.heap.objs.size f cd
 outer:=outer
 stack:=envOfC qual scope s.heap.objs.size f cd :: outer
 ex:=[]
 calm:=true
 fn:=fun _=>true
 pn:=[]
 xe:=fun e s'=>wpAny (model P w) (A.deeper (envOfC qual scope s.heap.objs.size f cd)) (leaving (envOfC qual scope s.heap.objs.size f cd) e) (fun _ Vx=>CX outer H s E e Vx) (fun e' Vx=>CX outer H s E e' Vx) s'
theorem Mz {sc:Scope} {n:Nat} {x:Str} (h:sc.names.lookup x=some .cell):∃ c,(cellsFrom n sc.names []).lookup x=some c:=by
 have q:=eK sc.names n [] (.inl h);exact cU.mp q
theorem Qn {CX:QF} {P:Program} {w:World} {K:ZP} {mg:Str->Option Value} {base:Heap} {N ps:List Str} {qual:Str} {scope:Scope} {f:Addr} {cd:Value} {A:Around} {outer:List Env} {s s1:Shared} {H:Hp} {E:XK} {us:List Value} {vs:List V}
  (S:AD N ps scope) (hd:A.handled=none) (e0:U1 P w K mg base A outer s H) (hl:vs.length=ps.length) (r:A9 vs us)
  (x:InCallC s s.heap.objs.size (bindL (envOfC qual scope s.heap.objs.size f cd).kindOf (ps.zip us) fun _=>none) (cellsFrom (s.heap.objs.size + 1) scope.names []) (bindC (envOfC qual scope s.heap.objs.size f cd).kindOf (ps.zip us) fun _=>none) s1) :
  Aq (JH CX P w K mg base N qual scope f cd A outer s H E) [] (start N vs) H s1:=by
 have hpl:ps.length<=N.length:=by have:=congrArg bK S.pre; rw [aM] at this; lia
 obtain ⟨h1,tk,rfl,hk⟩:=x.done;have noA:∀ b:Addr,b ∉ (JH CX P w K mg base N qual scope f cd A outer s H E).ex:=fun b z=>absurd (show b ∈ ([]:List Addr) from z) gl
 refine ⟨⟨e0.mod,S.kind,rfl,rfl,ZU _,fun y z c h1 h2=>?_,fun y hy=>?_,fun y c _ h=>?_,fun _=>hd,Around.frames_deeper e0.frames,.inr ⟨rfl,rfl⟩,fun b z=>absurd z (noA b),e0.bs,e0.bsz,fun b _ _=>noA b,fun b z=>absurd z (noA b),e0.funs,e0.frf⟩,
  rfl,e0.bare,Un.kept hk,⟨_,x.toInCall.ns,fun i y v h1 h2 h3=>?_⟩,fun y c h=>⟨_,x.cell y c h⟩,e0.hok.fresh (ZU _),fun y c h=>?_,fun p hp=>absurd (show p ∈ ([]:List cr) from hp) gl,e0.hok.kept hk,?_⟩
 ·exact name_of_addr x.apart (PySem.mem_of_lookup h1) (PySem.mem_of_lookup h2)
 ·have hy:scope.names.lookup y=some .cell\/scope.names.lookup y=some .free:=hy;rcases hy with hy | hy
  ·exact Mz hy
  ·exact absurd rfl (S.nofree _ (PySem.mem_of_lookup hy))
 ·exact dh (x.above y c (PySem.mem_of_lookup h))
 ·have hi:i < vs.length:=by
   unfold start at h2;by_cases hi:i < vs.length
   ·exact hi
   ·rw [aG (by simpa using hi)] at h2;rw [List.getElem?_replicate] at h2;split at h2 <;> cases h2
  have ha:vs[i]? = some v:=by
   unfold start at h2;rw [aI (by simpa using hi),ZV] at h2;cases e:vs[i]? with
   | none=>rw [e] at h2; cases h2
   | some a=>rw [e] at h2; cases h2; rfl
  obtain ⟨u,hu,rv⟩:=r.get ha;have hp:ps[i]? = some y:=by
   rw [<-S.pre,List.getElem?_take_of_lt ad]; exact h1
  have ndP:ps.Nodup:=by rw [<-S.pre]; exact S.nd.sublist (fQ _ _)
  exists u,rv;rcases S.par y (ZS hp) with k | k
  ·exact .inl ⟨k,K7 ndP hp hu k⟩
  ·obtain ⟨c,e⟩:=Mz (n:=s.heap.objs.size + 1) k;refine .inr ⟨.inl k,c,e,?_⟩;have q:=x.cell y c e;rw [K9 ndP hp hu (by show scope.names.lookup y ≠ _; rw [k]; decide)] at q;exact q
 ·exact e0.hok.fresh (dh (x.above y c (PySem.mem_of_lookup h)))
 ·unfold start;show _=N.length
  rw [ZQ,ZM,List.length_replicate];lia
theorem fn_of {CX:QF} {P:Program} {w:World} {K:ZP} {mg:Str->Option Value} {base:Heap} {k:Nat} {f:Addr} {name qual:Str} {params:Arguments} {body:List Stmt} {scope:Scope} {dV kV doc pm cdv ct oc:Value} {an od:Option Addr}
  {osl:Array (Option Value)} {N ps:List Str} {sp:Sp} (lk:K.lookup f=some ⟨oc,od,.func (bV name qual params body scope dV kV doc pm an cdv ct),osl⟩) (hcd:dj K cdv qual=true) (S:AD N ps scope)
  (len:∀ vs H Q E,sp vs H Q E->vs.length=ps.length)
  (hbody:∀ (A:Around) (outer:List Env) (s:Shared) (H:Hp) (vs:List V) (Q:VK) (E:XK),DN k (A.deeper (envOfC qual scope s.heap.objs.size f cdv))->sp vs H Q E ->
   ∃ t,M8 (JH CX P w K mg base N qual scope f cdv A outer s H E) body t/\t { nx:=fun _ H'=>Q .non H',rt:=Q } (start N vs) H) :
  AH P w K mg base CX (k + 1) f (bV name qual params body scope dV kV doc pm an cdv ct) ps sp:=by
 refine ⟨len,fun A outer s H args us vs Q E hr e0 hb r hsp=>?_⟩;have hl:=len _ _ _ _ hsp;have KX:K.In s.heap:=e0.mod.kin.keeps fun b o e=>(e0.bs b o e).1
 have lim:s.heap.NoLimit:=e0.mod.nolimit.keeps fun b o e=>(e0.bs b o e).1
 have hkind:∀ y ∈ ps.zip us,scope.names.lookup y.1=some .local\/(scope.names.lookup y.1=some .cell/\((cellsFrom (s.heap.objs.size + 1) scope.names []).lookup y.1).isSome=true):=fun ⟨n,v⟩ hy=>by
  rcases S.par n (eG hy).1 with q | q
  ·exact .inl q
  ·exact .inr ⟨q,eK _ _ _ (.inl q)⟩
 refine codeAny_call_function hr.depth (KX _ _ lk) rfl S.co S.gen rfl (PySem.W.codeRec_of KX hcd) (hb _ _ _ _ ?_);refine wpAny_newFunctionEnv_cells S.kind hkind fun env he s1 x=>?_
 subst he;refine ⟨lim.keeps x.toInCall.keep,codeAny_func ?_⟩;obtain ⟨t,ht,hq⟩:=hbody A outer s H vs Q E (hr.deeper _) hsp;have I:Aq (JH CX P w K mg base N qual scope f cdv A outer s H E) [] (start N vs) H s1:=Qn S hr.hd e0 hl r x;refine wpAny_mono (ht s1 (start N vs) H _ I hq) (fun fl s' hs=>?_) fun e s' hs=>hs
 have fin:∀ {A2:St} {H':Hp} {v:V} {u:Value},Aq (JH CX P w K mg base N qual scope f cdv A outer s H E) [] A2 H' s'->AA v u->Q v H'->CE outer P w H s Q u s':=
  fun {A2 H' v u} J rv q=>⟨v,H',J.os,J.bare,J.base,J.hok,rv,q⟩
 cases fl with
 | ret u=>
  obtain ⟨v,A2,H',J,rv,q⟩:=hs;exact fin J rv q
 | next=>
  obtain ⟨A2,H',J,q⟩:=hs;exact fin (v:=V.non) (u:=Value.none) J rfl q
 | brk=>
  obtain ⟨_,_,_,q⟩:=hs;exact False.elim q
 | cont=>
  obtain ⟨_,_,_,q⟩:=hs;exact False.elim q
section
variable {X:Cx} {x:Str} {p pos:Pos} {e:Expr} {es:List Expr} {t:TA} {id T:String} {r:List V->Hp->VK->Prop}
def tCB (r:List V->Hp->VK->Prop) (t:TA):TE:=fun σ H Q=>t σ H fun vs H1=>r vs H1 Q
theorem Al (hc:Bo X (.builtin id) r) (hg:Gl X x) (hm:X.mg x=none) (hv:bootBuiltins x=some (.builtin id)) (ha:PA X (e :: es) t) (hn:x ≠ "__name__":=by decide) (hdb:(x == ("__debug__":Str))=false:=by decide)
  (he:starEach (e :: es) X.env=(false,eval e X.env) :: starEach es X.env:=by rfl) (hpl:(backTo pos (starEach es X.env)).any (·.1)=false:=by rfl):PE X (.Call (.Name x p) (e :: es) [] pos) (tCB r t):=by
 intro pins s σ H Q I h;refine wpAny_Call_Name_kw (GI I hg hm hv ?_ hn hdb);exact PyProof.Rows.callWith_builtin1 (B5 (ha (pos:=pos) (pins:=pins) s σ H _ I h) fun us s1 ⟨vs,H1,I1,r1,q1⟩=>hc (pins:=pins) s1 σ H1 vs us Q I1 r1 q1) he hpl
theorem Ay (hc:Bo X (.type T) r) (hg:Gl X x) (hm:X.mg x=none) (hv:bootBuiltins x=some (.type T)) (ha:PA X (e :: es) t) (hn:x ≠ "__name__":=by decide) (hdb:(x == ("__debug__":Str))=false:=by decide)
  (he:starEach (e :: es) X.env=(false,eval e X.env) :: starEach es X.env:=by rfl) (hpl:(backTo pos (starEach es X.env)).any (·.1)=false:=by rfl):PE X (.Call (.Name x p) (e :: es) [] pos) (tCB r t):=by
 intro pins s σ H Q I h;refine wpAny_Call_Name_kw (GI I hg hm hv ?_ hn hdb);exact PyProof.Rows.callWith_type1 (B5 (ha (pos:=pos) (pins:=pins) s σ H _ I h) fun us s1 ⟨vs,H1,I1,r1,q1⟩=>hc (pins:=pins) s1 σ H1 vs us Q I1 r1 q1) he hpl
end
end L2
namespace HT
open PySem PyProof.Rows
section
open PySem.SeqAt
open PySem.AutoSeq1 (wpAny_loadPart')
open PySem.MeetsSeq PySem.MeetsSeq2 PySem.MeetsSeq3
end
section
variable {prog:Program} {w:World} {A:Around} {E:Value->Shared->Prop} {s:Shared}
theorem cat_tup {t b:Addr} {vs ws:List Value} {Q:Value->Shared->Prop} (ht:IsTup s.heap t vs.toArray) (hb:IsTup s.heap b ws.toArray) (hv:vs ≠ [])
  (h1:ws=[]->Q (.ref t) s) (h2:ws ≠ []->Q hU { s with heap:=s.heap.push { cls:=.type "tuple",data:=.seq (vs ++ ws).toArray } })
  (hsz:vs.length + ws.length<=sizeLine):wpAny ap A (binaryOp .Add (.ref t) (.ref b)) Q E s:=by
 obtain ⟨⟨cls,dd,data,sl⟩,ho,hc,n,hd⟩:=id ht;obtain ⟨⟨Wf,MC,data2,Of⟩,Qo,Qq,n2,hd2⟩:=id hb;simp only at hc hd Qq hd2;subst hc hd Qq hd2;have e:vs.toArray ++ ws.toArray=(vs ++ ws).toArray:=by simp
 by_cases hw:ws=[]
 ·exact concat_meets ⟨_,ho,rfl⟩ ⟨_,Qo,rfl⟩ noFill_tuple_add seq_tuple_add PySem.F.slot_tuple_add PySem.F.entry_tuple_add (PySem.F.args_tuple_add_2 _ _)
   (tuple_addW1 t b vs.toArray ws.toArray n n2 dd MC sl Of (by simpa using hv) (by simp [hw])) ⟨ho,Qo,h1 hw⟩
 ·refine concat_meets ⟨_,ho,rfl⟩ ⟨_,Qo,rfl⟩ noFill_tuple_add seq_tuple_add PySem.F.slot_tuple_add PySem.F.entry_tuple_add (PySem.F.args_tuple_add_2 _ _)
   (tuple_addW2 t b vs.toArray ws.toArray n n2 dd MC sl Of (by simpa using hv) (by simpa using hw) (by rw [au,au]; exact hsz)) ⟨ho,Qo,?_⟩
  rw [e];exact h2 hw
end
end HT
namespace L2
open PySem PySem.Spec PyProof.Rows
abbrev TO:=St->Hp->(Option Int->Hp->Prop)->Prop
def PO (X:Cx) (e:Option Expr) (t:TO):Prop:=
 ∀ ⦃pins:List cr⦄ (s:Shared) (σ:St) (H:Hp) (Q:Option Int->Hp->Prop),Aq X pins σ H s->t σ H Q ->
  wpAny dL X.A (evalPart e X.env) (fun u s'=>∃ o H',Aq X pins σ H' s'/\IsPart u o/\Q o H') X.xe s
def Tg:TO:=fun _ H Q=>Q none H
def tPart (t:TE):TO:=fun σ H Q=>t σ H fun x H1=>∃ i,x=.int i/\Q (some i) H1
section
variable {X:Cx} {e:Expr} {te:TE} {lo hi:Option Expr} {tl th:TO} {pos p2:Pos}
theorem Ou:PO X none Tg:=by
 intro pins s σ H Q I h;rw [evalPart_none];exact wpAny_pure ⟨none,H,I,.none,h⟩
theorem Ot (h:PE X e te):PO X (some e) (tPart te):=by
 intro pins s σ H Q I hw;rw [evalPart_some];refine B5 (h (pins:=pins) s σ H _ I hw) fun u s1 ⟨x,H1,I1,r1,q1⟩=>?_
 obtain ⟨i,rfl,q⟩:=q1;obtain ⟨t,rfl⟩:=r1;exact ⟨some i,H1,I1,.int i t,q⟩
def UE (K:ZP):R2:=fun x y H Q=>∃ a b xs ys,x=.ref a/\y=.ref b/\AI K H a xs/\AI K H b ys/\xs ≠ []/\xs.length + ys.length<=sizeLine /\
 (ys=[]->Q (.ref a) H)/\(ys ≠ []->∀ p,H p=none->Q (.ref p) (upd H p (.tup (xs ++ ys))))
theorem A9.nil_iff {xs:List V} {us:List Value} (r:A9 xs us):us=[] ↔ xs=[]:=by
 cases r with
 | nil=>simp
 | cons _ _=>simp
theorem T7:E9 X (binaryOp .Add) (UE X.K):=by
 intro pins s σ H x y v u Q I rx ry h;obtain ⟨a,b,xs,ys,rfl,rfl,ha,hb,hx,hz,q1,q2⟩:=h;cases rx
 cases ry
 obtain ⟨As,r1,p1,_⟩:=I.tuple ha;obtain ⟨IX,r2,p2,_⟩:=I.tuple hb;refine HT.cat_tup p1 p2 (fun z=>hx (r1.nil_iff.mp z)) (fun z=>⟨.ref a,H,I,rfl,q1 (r2.nil_iff.mp z)⟩) iu (by rw [<-r1.length,<-r2.length]; exact hz);refine ⟨.ref s.heap.objs.size,_,I.laid (t':=s.toks) (o:=.tup (xs ++ ys)) (fun b ob q=>ZO _ q) (ZU _) ?_,rfl,q2 (fun w=>z (r2.nil_iff.mpr w)) _ (I.hok.fresh (ZU _))⟩;exact ⟨by rw [ZQ]; exact hz,_,r1.append r2,IsTup.new _ _,N4.new rfl rfl⟩
end
def Ua (n:Nat) (i:Int):Option Nat:=if 0<=i then (if i < n then some i.toNat else none) else if -(n:Int)<=i then some (i + n).toNat else none
def J3 {α:Type} (xs:List α) (i:Int):Option α:=(Ua xs.length i).bind fun j=>xs[j]?
theorem Lm {n:Nat} {i:Int} {j:Nat} (h:Ua n i=some j):seqIndex? i n=some j/\j < n/\-(n:Int)<=i/\i < n:=by
 unfold Ua at h;by_cases h0:0<=i
 ·rw [if_pos h0] at h;by_cases h1:i < n
  ·rw [if_pos h1] at h;have e:i.toNat=j:=ar.inj h;exact ⟨by rw [seqIndex_of h0 h1,e],by lia,by lia,h1⟩
  ·rw [if_neg h1] at h; cases h
 ·rw [if_neg h0] at h;by_cases h1:-(n:Int)<=i
  ·rw [if_pos h1] at h;have e:(i + n).toNat=j:=ar.inj h;exact ⟨by rw [seqIndex_neg ad h1,e],by lia,h1,by lia⟩
  ·rw [if_neg h1] at h; cases h
theorem Ij {α:Type} {xs:List α} {i:Int} {v:α} (h:J3 xs i=some v):∃ j,seqIndex? i xs.length=some j/\xs[j]? = some v/\j < xs.length/\-(xs.length:Int)<=i/\i < xs.length:=by
 unfold J3 at h;cases e:Ua xs.length i with
 | none=>rw [e] at h; cases h
 | some j=>
  rw [e] at h;obtain ⟨h1,h2,h3,h4⟩:=Lm e;exact ⟨j,h1,h,h2,h3,h4⟩
theorem BE {α:Type} {xs:List α} {j:Nat} {v:α} (h:xs[j]? = some v):J3 xs (j:Int)=some v:=by
 have hj:j < xs.length:=(ZT.mp h).1;have e:Ua xs.length (j:Int)=some j:=by
  unfold Ua;rw [if_pos ad,if_pos ad]; simp
 unfold J3; rw [e]; exact h
def Uv (b:Expr):Prop:=∀ o i,subscripted b false o i=operate [o,i] (getItem o i)
def W9 (X:Cx) (r:R2):Prop:=
 ∀ (value slice:Expr) (pins:List cr) (s:Shared) (σ:St) (H:Hp) (x y:V) (v u:Value) (Q:VK),Aq X pins σ H s->AA x v->AA y u->r x y H Q ->
  subscripted slice false v u=operate [v,u] (getItem v u)->wpAny dL X.A (subscriptTail value slice v u) (EP X pins σ Q) X.xe s
def MtR (X:Cx) (id:String) (r:V->List V->Hp->VK->Prop):Prop:=
 ∀ ⦃pins:List cr⦄ (s:Shared) (σ:St) (H:Hp) (x:V) (xs:List V) (v:Value) (us:List Value) (Q:VK),Aq X pins σ H s->AA x v->A9 xs us->r x xs H Q ->
  wpAny dL X.A (call (.builtin id) (v :: us)) (EP X pins σ Q) X.xe s
section
variable {X:Cx} {a b:Expr} {ta tb:TE} {pos:Pos}
theorem A4 {r:R2} (hr:W9 X r) (ha:PE X a ta) (hb:PE X b tb) (hs:Uv b):PE X (.Subscript a b pos) (tOp r ta tb):=by
 intro pins s σ H Q I h;exact Subscript_ (Wh ha hb I h fun v u s2 x y H2 I2 rx ry q=>hr a b (pins:=pins) s2 σ H2 x y v u Q I2 rx ry q (hs _ _))
def rIxL (K:ZP):R2:=fun x y H Q=>∃ p xs i v,x=.ref p/\y=.int i/\AB K H p xs/\J3 xs i=some v/\Q v H
def rIxT (K:ZP):R2:=fun x y H Q=>∃ p xs i v,x=.ref p/\y=.int i/\AI K H p xs/\J3 xs i=some v/\Q v H
def rIxS:R2:=fun x y H Q=>∃ z i c,x=.str z/\y=.int i/\z.length<=sizeLine/\J3 z.cps.toList i=some c/\Q (.str ⟨#[c]⟩) H
theorem OB:W9 X (rIxL X.K):=by
 intro value slice pins s σ H x y v u Q I rx ry h hs;obtain ⟨p,xs,i,z,rfl,rfl,hq,he,q⟩:=h;cases rx
 obtain ⟨t,rfl⟩:=ry;obtain ⟨As,r,pl,hz⟩:=I.list hq;obtain ⟨j,h1,h2,h3,h4,h5⟩:=Ij he;obtain ⟨w,ew,Pr⟩:=r.get h2;have hl:=r.length;have hn:=FH;have fin:EP X pins σ Q w s:=⟨z,H,I,Pr,q⟩
 by_cases h0:0<=i
 ·have hj:i.toNat=j:=by
   rw [seqIndex_of h0 h5] at h1;exact ar.inj h1
  exact item_listR pl.isList h0 ad (by rw [hj]; simpa using ew) fin hs
 ·have hj:(i + (As.toArray.size:Int)).toNat=j:=by
   rw [seqIndex_neg ad h4] at h1;rw [au,<-hl];exact ar.inj h1
  exact subscriptTail_builtinR (x:=w) pl.isList.typeIs slot_list_getitem.lookup
   (wpAny_getItem_list_neg (Q:=fun r s'=>r=w/\EP X pins σ Q r s') pl.isList ad (by rw [au] <;> lia) ad (by rw [hj]; simpa using ew) ⟨rfl,fin⟩) hs
theorem Sf:W9 X (rIxT X.K):=by
 intro value slice pins s σ H x y v u Q I rx ry h hs;obtain ⟨p,xs,i,z,rfl,rfl,hq,he,q⟩:=h;cases rx
 obtain ⟨t,rfl⟩:=ry;obtain ⟨As,r,pl,hz⟩:=I.tuple hq;obtain ⟨j,h1,h2,h3,h4,h5⟩:=Ij he;obtain ⟨w,ew,Pr⟩:=r.get h2;have hl:=r.length;have hn:=FH;have fin:EP X pins σ Q w s:=⟨z,H,I,Pr,q⟩
 exact subscriptTail_builtinR (x:=w) pl.typeIs slot_tuple_getitem.lookup
  (getItem_tuple (j:=j) (Q:=fun r s'=>r=w/\EP X pins σ Q r s') pl ad ad (by rw [au,<-hl]; exact h1) (by simpa using ew) ⟨rfl,fin⟩) hs
theorem Sg:W9 X rIxS:=by
 intro value slice pins s σ H x y v u Q I rx ry h hs;obtain ⟨z,i,c,rfl,rfl,hz,he,q⟩:=h;obtain ⟨t,rfl⟩:=rx;obtain ⟨t',rfl⟩:=ry;obtain ⟨j,h1,h2,h3,h4,h5⟩:=Ij he;have hl:z.cps.toList.length=z.length:=by simp [Str.length]
 rw [hl] at h1 h4 h5;have hn:=FH;exact tail_any (typeIs_str s z t) slot_str_getitem.lookup (getItem_str (c:=c) (by
  have e1:decide (i < -(2 ^ 63:Int))=false:=decide_eq_false ad;have e2:decide (i >= 2 ^ 63)=false:=decide_eq_false ad;rw [e1,e2,g8]) (by rw [h1]; simpa using h2) ⟨.str ⟨#[c]⟩,H,I.tok _,⟨_,rfl⟩,q⟩) hs
theorem Nm (As:List Value) (n j:Nat) (u:Value):Obj.mapSeq (·.setIfInBounds j u) { cls:=.type "list",data:=.seq As.toArray n } = { cls:=.type "list",data:=.seq (As.set j u).toArray n }:=by
 simp [Obj.mapSeq]
theorem Aq.lst {pins:List cr} {σ:St} {H:Hp} {s:Shared} {p:Addr} {xs:List V} (I:Aq X pins σ H s) (h:H p=some (.lst xs)) :
  ∃ (As:List Value) (n:Nat),A9 xs As/\s.heap.get? p=some { cls:=.type "list",data:=.seq As.toArray n }/\xs.length<=sizeLine:=by
 obtain ⟨z,As,n,r,e⟩:=I.hok p _ h;exact ⟨As,n,r,e,z⟩
theorem Aq.lstUpd {pins:List cr} {σ:St} {H:Hp} {s:Shared} {p:Addr} {xs ys:List V} {As its':List Value} {n n':Nat} {f:Obj->Obj} (I:Aq X pins σ H s) (h:H p=some (.lst xs))
  (ho:s.heap.get? p=some { cls:=.type "list",data:=.seq As.toArray n }) (hf:f { cls:=.type "list",data:=.seq As.toArray n } = { cls:=.type "list",data:=.seq its'.toArray n' }) (r:A9 ys its') (hz:ys.length<=sizeLine) (t:Nat) :
  Aq X pins σ (upd H p (.lst ys)) { s with heap:=s.heap.update p f,toks:=t }:=by
 have e:(s.heap.update p f).get? p=some { cls:=.type "list",data:=.seq its'.toArray n' }:=by
  rw [aY f ho (by rw [hf] <;> rfl),hf]
 refine I.write (x:=p) (e:=p) (by rw [h]; trivial) (.inl rfl) (fun b u hb q=>(aU _ _ (Ne.symm hb)).trans q) ⟨_,e⟩ ?_;exact ⟨hz,its',n',r,e⟩
def rSetL:V->V->V->Hp->(Hp->Prop)->Prop:=fun o i v H Q=>∃ p xs k j,o=.ref p/\i=.int k/\H p=some (.lst xs)/\Ua xs.length k=some j/\Q (upd H p (.lst (xs.set j v)))
theorem Ir:PSet X rSetL:=by
 intro pins s σ H o i v ov iv u Q I ro ri rv h;obtain ⟨p,xs,k,j,rfl,rfl,hp,hj,q⟩:=h;cases ro
 obtain ⟨t,rfl⟩:=ri;obtain ⟨As,n,r,ho,hz⟩:=I.lst hp;obtain ⟨h1,h2,h3,h4⟩:=Lm hj;have hl:=r.length;have hn:=FH;have I':Aq X pins σ (upd H p (.lst (xs.set j v))) { s with heap:=s.heap.update p (Obj.mapSeq (·.setIfInBounds j u)) }:=
  I.lstUpd hp ho (Nm As n j u) (r.set rv j) (by rw [List.length_set]; exact hz) s.toks
 by_cases h0:0<=k
 ·have hk:k.toNat=j:=by
   rw [seqIndex_of h0 h4] at h1;exact ar.inj h1
  exact PySem.W.ki_setAt ho h0 ad (by rw [au,<-hl]; exact h4) (by rw [hk]; exact ⟨_,I',q⟩)
 ·have hk:(k + (As.toArray.size:Int)).toNat=j:=by
   rw [seqIndex_neg ad h3] at h1;rw [au,<-hl];exact ar.inj h1
  exact PySem.W.ki_setBack ho ad (by rw [au,<-hl]; exact h3) ad (by rw [hk]; exact ⟨_,I',q⟩)
def EM:V->Bool
 | .non=>true
 | .bl _=>true
 | .int _=>true
 | .str _=>true
 | _=>false
def Uk:V->V->Bool
 | .non,.non=>true
 | .bl a,.bl b=>a == b
 | .bl a,.int b=>(if a then 1 else 0) == b
 | .int a,.bl b=>a == (if b then 1 else 0)
 | .int a,.int b=>a == b
 | .str a,.str b=>a == b
 | _,_=>false
theorem Wc {A:Around} {s:Shared} {y x:V} {u v:Value} (ry:AA y u) (rx:AA x v) (fy:EM y=true) (fx:EM x=true):SeqAt.EqAt A s u v (Uk y x):=by
 cases y with
 | non=>
  cases ry
  cases x with
  | non=>cases rx; exact SeqAt.EqAt.same _
  | bl b=>cases rx; exact SeqAt.EqAt.none_bool b
  | int b=>obtain ⟨t,rfl⟩:=rx; exact SeqAt.EqAt.none_int b t
  | str b=>obtain ⟨t,rfl⟩:=rx; exact SeqAt.EqAt.none_str b t
  | _=>exact absurd (show false=true from fx) ah
 | bl a=>
  cases ry
  cases x with
  | non=>cases rx; exact SeqAt.EqAt.bool_none a
  | bl b=>cases rx; exact SeqAt.EqAt.bool_bool a b
  | int b=>obtain ⟨t,rfl⟩:=rx; exact SeqAt.EqAt.bool_int a b t
  | str b=>obtain ⟨t,rfl⟩:=rx; exact SeqAt.EqAt.bool_str a b t
  | _=>exact absurd (show false=true from fx) ah
 | int a=>
  obtain ⟨t',rfl⟩:=ry;cases x with
  | non=>cases rx; exact SeqAt.EqAt.int_none a t'
  | bl b=>cases rx; exact SeqAt.EqAt.int_bool a t' b
  | int b=>obtain ⟨t,rfl⟩:=rx; exact SeqAt.EqAt.int_int a t' b t
  | str b=>obtain ⟨t,rfl⟩:=rx; exact SeqAt.EqAt.int_str a t' b t
  | _=>exact absurd (show false=true from fx) ah
 | str a=>
  obtain ⟨t',rfl⟩:=ry;cases x with
  | non=>cases rx; exact SeqAt.EqAt.str_none a t'
  | bl b=>cases rx; exact SeqAt.EqAt.str_bool a t' b
  | int b=>obtain ⟨t,rfl⟩:=rx; exact SeqAt.EqAt.str_int a t' b t
  | str b=>obtain ⟨t,rfl⟩:=rx; exact SeqAt.EqAt.str_str a t' b t
  | _=>exact absurd (show false=true from fx) ah
 | _=>exact absurd (show false=true from fy) ah
def N1 (x:V) (u:Value):Bool:=match u with
 | .none=>Uk .non x
 | .bool b=>Uk (.bl b) x
 | .int i _=>Uk (.int i) x
 | .str z _=>Uk (.str z) x
 | _=>false
theorem S0 {x y:V} {u:Value} (r:AA y u) (f:EM y=true):N1 x u=Uk y x:=by
 cases y with
 | non=>cases r; rfl
 | bl b=>cases r; rfl
 | int i=>obtain ⟨t,rfl⟩:=r; rfl
 | str z=>obtain ⟨t,rfl⟩:=r; rfl
 | _=>exact absurd (show false=true from f) ah
theorem G3 {x:V}:∀ {xs:List V} {us:List Value},A9 xs us->xs.all EM=true->us.any (N1 x)=xs.any fun y=>Uk y x
 | _,_,.nil,_=>rfl
 | y :: xs,u :: us,.cons r t,f=>by
  rw [dM,aV] at f;rw [cJ,cJ,S0 r f.1,G3 t f.2]
theorem EJ {A:Around} {s:Shared} {x:V} {v:Value} (rx:AA x v) (fx:EM x=true):∀ {xs:List V} {us:List Value},A9 xs us->xs.all EM=true->∀ u ∈ us,SeqAt.EqAt A s u v (N1 x u)
 | _,_,.nil,_=>fun u hu=>by cases hu
 | y :: xs,u :: us,.cons r t,f=>fun u' hu=>by
  rw [dM,aV] at f;rcases ZZ.mp hu with rfl | hu
  ·rw [S0 r f.1]; exact Wc r rx f.1 fx
  ·exact EJ rx fx t f.2 u' hu
def inV (x:V) (xs:List V):Bool:=xs.any fun y=>Uk y x
def rIn (K:ZP) (neg:Bool):R2:=fun x y H Q=>∃ p xs,y=.ref p/\(AB K H p xs\/AI K H p xs)/\EM x=true/\xs.all EM=true/\Q (.bl (if neg then !inV x xs else inV x xs)) H
theorem PX:E9 X (compareOp .In) (rIn X.K false):=by
 intro pins s σ H x y v u Q I rx ry h;obtain ⟨p,xs,rfl,hq,fx,fs,q⟩:=h;cases ry
 rcases hq with hq | hq
 ·obtain ⟨As,r,pl,hz⟩:=I.list hq;refine SeqAt.in_listAt (N1 x) pl.isList (fun w hw=>EJ rx fx r fs w (by simpa using hw)) ⟨.bl _,H,I,rfl,?_⟩;rw [show As.toArray.any (N1 x)=As.any (N1 x) by simp,G3 r fs];exact q
 ·obtain ⟨As,r,pl,hz⟩:=I.tuple hq;refine SeqAt.in_tupleAt (N1 x) pl (fun w hw=>EJ rx fx r fs w (by simpa using hw)) ⟨.bl _,H,I,rfl,?_⟩;rw [show As.toArray.any (N1 x)=As.any (N1 x) by simp,G3 r fs];exact q
theorem Lf:E9 X (compareOp .NotIn) (rIn X.K true):=by
 intro pins s σ H x y v u Q I rx ry h;obtain ⟨p,xs,rfl,hq,fx,fs,q⟩:=h;cases ry
 rcases hq with hq | hq
 ·obtain ⟨As,r,pl,hz⟩:=I.list hq;refine SeqAt.notIn_listAt (N1 x) pl.isList (fun w hw=>EJ rx fx r fs w (by simpa using hw)) ⟨.bl _,H,I,rfl,?_⟩;rw [show As.toArray.any (N1 x)=As.any (N1 x) by simp,G3 r fs];exact q
 ·obtain ⟨As,r,pl,hz⟩:=I.tuple hq;refine SeqAt.notIn_tupleAt (N1 x) pl (fun w hw=>EJ rx fx r fs w (by simpa using hw)) ⟨.bl _,H,I,rfl,?_⟩;rw [show As.toArray.any (N1 x)=As.any (N1 x) by simp,G3 r fs];exact q
theorem Es:Bo X (.builtin "len") (fun xs H Q=>∃ p ys,xs=[.ref p]/\(AB X.K H p ys\/AI X.K H p ys)/\Q (.int ys.length) H):=by
 intro pins s σ H xs us Q I r h;obtain ⟨p,ys,rfl,hq,q⟩:=h;obtain ⟨u,rfl,rx⟩:=BV r;cases rx
 have hn:=FH;rcases hq with hq | hq
 ·obtain ⟨As,r',pl,hz⟩:=I.list hq;have hlen:=r'.length;exact Calls.call_len_list pl.isList (by simp only [au] <;> lia) ⟨.int ys.length,H,I.tok _,⟨s.toks + 1,by rw [au,hlen]⟩,q⟩
 ·obtain ⟨As,r',pl,hz⟩:=I.tuple hq;have hlen:=r'.length;exact len_tuple pl (by simp only [au] <;> lia) ⟨.int ys.length,H,I.tok _,⟨s.toks + 1,by rw [au,hlen]⟩,q⟩
theorem G2:Bo X (.builtin "len") (fun xs H Q=>∃ z,xs=[.str z]/\z.length<=sizeLine/\Q (.int z.length) H):=by
 intro pins s σ H xs us Q I r h;obtain ⟨z,rfl,hz,q⟩:=h;obtain ⟨u,rfl,t,rfl⟩:=BV r;have hn:=FH;exact len_str ad ⟨.int z.length,H,I.tok _,⟨_,rfl⟩,q⟩
theorem Gz:Bo X (.type "list") (fun xs H Q=>∃ p ys,xs=[.ref p]/\(AB X.K H p ys\/AI X.K H p ys)/\∀ l,H l=none->Q (.ref l) (upd H l (.lst ys))):=by
 intro pins s σ H xs us Q I r h;obtain ⟨p,ys,rfl,hq,q⟩:=h;obtain ⟨u,rfl,rx⟩:=BV r;cases rx
 have fin:∀ (As:List Value),A9 ys As->ys.length<=sizeLine->∀ (h':Heap) (c':Nat),(∀ b o',s.heap.get? b=some o'->h'.get? b=some o') ->
   h'.get? s.heap.objs.size=some { cls:=.type "list",dict:=none,data:=.seq As.toArray c',slots:=#[] }->EP X pins σ Q hU { s with heap:=h' }:=fun As r' hz h' c' kp e=>
  ⟨.ref s.heap.objs.size,_,I.laid (t':=s.toks) kp (ZU _) (show AE X.prog X.w _ h' _ (.lst ys) from ⟨hz,As,c',r',e⟩),rfl,q _ (I.hok.fresh (ZU _))⟩
 rcases hq with hq | hq
 ·obtain ⟨As,r',pl,hz⟩:=I.list hq;have hlen:=r'.length;obtain ⟨o,ho,hc,n,hd⟩:=pl.isList;exact call_list_seq p (.inl rfl) ho hc hd (fun h' c' kp e=>fin As r' hz h' c' kp e) (by simp only [au] <;> lia)
 ·obtain ⟨As,r',pl,hz⟩:=I.tuple hq;have hlen:=r'.length;obtain ⟨o,ho,hc,n,hd⟩:=pl;exact call_list_seq p (.inr rfl) ho hc hd (fun h' c' kp e=>fin As r' hz h' c' kp e) (by simp only [au] <;> lia)
theorem F6:Bo X (.type "tuple") (fun xs H Q=>∃ p ys,xs=[.ref p]/\((AB X.K H p ys/\∀ l,H l=none->Q (.ref l) (upd H l (.tup ys)))\/(AI X.K H p ys/\Q (.ref p) H))):=by
 intro pins s σ H xs us Q I r h;obtain ⟨p,ys,rfl,h⟩:=h;obtain ⟨u,rfl,rx⟩:=BV r;cases rx
 rcases h with ⟨hq,q⟩ | ⟨hq,q⟩
 ·obtain ⟨As,r',pl,hz⟩:=I.list hq;have hlen:=r'.length;refine call_tuple_list pl.isList (fun h' kp=>?_) (by simp only [au] <;> lia);have I1:Aq X pins σ H { s with heap:=h' }:=I.kept (t':=s.toks) kp;have I2:Aq X pins σ (upd H h'.objs.size (.tup ys)) { s with heap:=h'.push { cls:=.type "tuple",data:=.seq As.toArray } }:=
   I1.laid (t':=s.toks) (fun b o e=>ZO _ e) (ZU _) (show AE X.prog X.w _ _ _ (.tup ys) from ⟨hz,As,r',IsTup.new _ _,N4.new rfl rfl⟩)
  exact ⟨.ref h'.objs.size,_,I2,rfl,q _ (I1.hok.fresh (ZU _))⟩
 ·obtain ⟨As,r',pl,hz⟩:=I.tuple hq;exact call_tuple_same pl ⟨.ref p,H,I,rfl,q⟩
def tyV (K:ZP) (T:String) (x:V) (H:Hp):Prop:=match x with
 | .str _=>T="str"
 | .int _=>T="int"
 | .ref p=>(T="list"/\∃ xs,AB K H p xs)\/(T="tuple"/\∃ o,K.lookup p=some o/\o.cls=.type "tuple"/\o.dict=none) \/
   (T="dict"/\((∃ kvs,H p=some iz)\/∃ kvs,H p=some ig))\/(T="set"/\∃ S n,H p=some (.set S n))
 | _=>False
theorem QO {pins:List cr} {σ:St} {H:Hp} {s:Shared} {T:String} {x:V} {v:Value} (I:Aq X pins σ H s) (r:AA x v) (ty:tyV X.K T x H) :
  s.TypeIs v T/\∀ a,v=.ref a->∃ ob,s.heap.get? a=some ob/\ob.dict=none:=by
 cases x with
 | str z=>
  obtain ⟨t,rfl⟩:=r;cases (show T="str" from ty)
  exact ⟨typeIs_str s z t,fun _ e=>nomatch e⟩
 | int i=>
  obtain ⟨t,rfl⟩:=r;cases (show T="int" from ty)
  exact ⟨typeIs_int s i t,fun _ e=>nomatch e⟩
 | ref p=>
  cases r
  rcases ty with ⟨rfl,xs,hq⟩ | ⟨rfl,o,hk,hc,hd⟩ | ⟨rfl,hk⟩ | ⟨rfl,S,n,hk⟩
  ·obtain ⟨As,_,pl,_⟩:=I.list hq;refine ⟨pl.isList.typeIs,fun a e=>?_⟩;cases e
   obtain ⟨o,n,e,c,hd,_⟩:=pl;exact ⟨o,e,hd⟩
  ·refine ⟨⟨o,I.kIn p o hk,hc⟩,fun a e=>?_⟩;cases e
   exact ⟨o,I.kIn _ o hk,hd⟩
  ·have z:∃ o,s.heap.get? p=some o/\o.ExactDict:=by
    rcases hk with ⟨kvs,hk⟩ | ⟨kvs,hk⟩
    ·obtain ⟨_,_,_,_,o,_,_,e,ex,_⟩:=I.hok p _ hk;exact ⟨o,e,ex⟩
    ·obtain ⟨_,_,_,_,o,_,_,e,ex,_⟩:=I.hok p _ hk;exact ⟨o,e,ex⟩
   obtain ⟨o,e,ex⟩:=z;refine ⟨⟨o,e,ex.1⟩,fun a e2=>?_⟩;cases e2
   exact ⟨o,e,ex.2.1⟩
  ·obtain ⟨o,_,_,_,e,ex,_⟩:=I.hok p _ hk;refine ⟨⟨o,e,ex.1⟩,fun a e2=>?_⟩;cases e2
   exact ⟨o,e,ex.2.1⟩
 | _=>exact False.elim ty
def tBM0 (K:ZP) (T:String) (r:V->List V->Hp->VK->Prop) (to:TE):TE:=fun σ H Q=>to σ H fun x H1=>tyV K T x H1/\r x [] H1 Q
def tBM (K:ZP) (T:String) (r:V->List V->Hp->VK->Prop) (to:TE) (t:TA):TE:=fun σ H Q=>to σ H fun x H1=>tyV K T x H1/\t σ H1 fun xs H2=>r x xs H2 Q
variable {o e:Expr} {es:List Expr} {to:TE} {t:TA} {name:Str} {apos EU:Pos} {T id:String} {r:V->List V->Hp->VK->Prop}
theorem RL (pa:PlainAttrs T) (slot:Slot T name id) (hty:typeOf (.builtin id)=pure (.type "method_descriptor")) (hm:MtR X id r) (ho:PE X o to)
  (hbase:attributeBase o name X.env (eval o X.env)=eval o X.env:=by rfl) (hline:(apos.endLine == EU.line)=true:=by rfl):PE X (.Call (.Attribute o name apos) [] [] EU) (tBM0 X.K T r to):=by
 intro pins s σ H Q I h;refine wpAny_Call_method0_late hbase hline (B5 (ho (pins:=pins) s σ H _ I h) fun v s1 ⟨x,H1,I1,r1,ty,q1⟩=>?_);obtain ⟨h1,h2⟩:=QO I1 r1 ty;exact ⟨T,id,pa,slot,hty,h1,h2,Calls.callWith_builtin rfl (PySem.evalArgs_none (hm (pins:=pins) s1 σ H1 x [] v [] Q I1 r1 .nil q1))⟩
theorem EI (pa:PlainAttrs T) (slot:Slot T name id) (hty:typeOf (.builtin id)=pure (.type "method_descriptor")) (hm:MtR X id r) (ho:PE X o to) (ha:PA X (e :: es) t)
  (hbase:attributeBase o name X.env (eval o X.env)=eval o X.env:=by rfl)
  (hfew:((backTo EU (starEach (e :: es) X.env)).all (fun x=>!x.1) && (backToKw EU (keywordEach [] X.env)).all (fun x=>x.1.isSome)
   && decide ((e :: es).length + ([]:List Keyword).length + (if ([]:List Keyword).isEmpty then 0 else 1) < 30))=true:=by rfl)
  (hline:(apos.endLine == EU.line)=true:=by rfl) (hs:starEach (e :: es) X.env=(false,eval e X.env) :: starEach es X.env:=by rfl) (hplain:(backTo EU (starEach es X.env)).any (·.1)=false:=by rfl) :
  PE X (.Call (.Attribute o name apos) (e :: es) [] EU) (tBM X.K T r to t):=by
 intro pins s σ H Q I h;refine wpAny_Call_method_late hbase hfew hline rfl (B5 (ho (pins:=pins) s σ H _ I h) fun v s1 ⟨x,H1,I1,r1,ty,q1⟩=>?_);obtain ⟨h1,h2⟩:=QO I1 r1 ty;exists T,id,pa,slot,hty,h1,h2;have hA:=ha (pos:=EU) (pins:=pins) s1 σ H1 _ I1 q1;rw [hs] at hA ⊢;refine Calls.callWith_builtin (by show (false || (backTo EU (starEach es X.env)).any (·.1))=false; rw [hplain] <;> rfl) (Calls.evalArgs_plain ?_);exact B5 hA fun us s2 ⟨vs,H2,I2,r2,q2⟩=>hm (pins:=pins) s2 σ H2 x vs v us Q I2 r1 r2 q2
end
def W8 (X:Cx) (id:String) (r:V->List V->Hp->VK->Prop):Prop:=
 ∀ ⦃pins:List cr⦄ (s:Shared) (σ:St) (H:Hp) (x:V) (xs:List V) (v:Value) (us:List Value) (Q:VK),Aq X pins σ H s->AA x v->A9 xs us->r x xs H Q ->
  wpAny dL X.A (call (.builtin id) (v :: us)) (EP X pins σ Q) X.xe s
theorem A9.one:∀ {x:V} {us:List Value},A9 [x] us->∃ u,us=[u]/\AA x u
 | _,_,.cons r .nil=>⟨_,rfl,r⟩
theorem A9.zero:∀ {us:List Value},A9 [] us->us=[]
 | _,.nil=>rfl
theorem A9.eraseIdx:∀ {xs:List V} {us:List Value} (i:Nat),A9 xs us->A9 (xs.eraseIdx i) (us.eraseIdx i)
 | _,_,_,.nil=>.nil
 | _,_,0,.cons _ t=>t
 | _,_,i + 1,.cons r t=>.cons r (A9.eraseIdx i t)
theorem Kt {α:Type}:∀ (l:List α) (i:Nat),(l.eraseIdx i).length<=l.length
 | [],_=>ZU _
 | _ :: _,0=>aL _
 | _ :: r,i + 1=>Nat.succ_le_succ (Kt r i)
section
variable {X:Cx} {pins:List cr} {σ:St} {H:Hp} {s:Shared} {l b:Addr} {xs ys zs:List V}
theorem Aq.lset {As its':List Value} {n:Nat} {f:Array Value->Array Value} {t':Nat} (I:Aq X pins σ H s) (hH:H l=some (.lst xs))
  (e:s.heap.get? l=some { cls:=.type "list",data:=.seq As.toArray n }) (hf:f As.toArray=its'.toArray) (hv:A9 ys its') (hz:ys.length<=sizeLine) :
  Aq X pins σ (upd H l (.lst ys)) { s with heap:=s.heap.update l (Obj.mapSeq f),toks:=t' }:=by
 have q:=PySem.IsL.update e f;rw [hf] at q;refine I.write (x:=l) (e:=l) (by rw [hH]; exact trivial) (.inl rfl) (fun b' u hb hu=>(aU s.heap (Obj.mapSeq f) (Ne.symm hb)).trans hu) ⟨_,q⟩ ?_;exact ⟨hz,its',_,hv,q⟩
theorem Aq.lnew {As:List Value} {t':Nat} (I:Aq X pins σ H s) (hv:A9 ys As) (hz:ys.length<=sizeLine) :
  Aq X pins σ (upd H s.heap.objs.size (.lst ys)) { s with heap:=s.heap.push { cls:=.type "list",data:=.seq As.toArray },toks:=t' }:=
 I.laid (fun _ _ q=>ZO _ q) (ZU _) ⟨hz,As,0,hv,ZX _ rfl⟩
theorem Aq.fresh (I:Aq X pins σ H s):H s.heap.objs.size=none:=I.hok.fresh (ZU _)
theorem Aq.lstM (I:Aq X pins σ H s) (hH:H l=some (.lst xs)):xs.length<=sizeLine/\∃ (As:List Value) (n:Nat),A9 xs As/\xs.length=As.length/\s.heap.get? l=some { cls:=.type "list",data:=.seq As.toArray n }:=by
 obtain ⟨z,As,n,r,e⟩:=I.hok l _ hH;exact ⟨z,As,n,r,r.length,e⟩
theorem RU {n:Nat} (h:n<=sizeLine):Builtin.List.listTooLong n=false:=by
 unfold Builtin.List.listTooLong;exact decide_eq_false ad
end
section
variable {X:Cx}
def Tv:V->List V->Hp->VK->Prop:=fun x vs H Q=>∃ l xs y,x=.ref l/\vs=[y]/\H l=some (.lst xs)/\xs.length < sizeLine/\Q .non (upd H l (.lst (xs ++ [y])))
theorem BG:W8 X "list.append" Tv:=by
 intro pins s σ H x vs v us Q I rx rv h;obtain ⟨l,xs,y,rfl,rfl,hH,hz,q⟩:=h;cases rx
 obtain ⟨u,rfl,ru⟩:=rv.one;obtain ⟨z,As,n,r,hl,e⟩:=I.lstM hH;refine call_meets F.slot_list_append ⟨_,e,rfl⟩ F.entry_list_append (F.args_list_append_2 _ _) (PySem.list_append l As.toArray n u (by rw [au]; lia)) ⟨e,?_⟩;refine ⟨.non,_,I.lset (its':=As ++ [u]) hH e gl (r.append (.cons ru .nil)) ?_,rfl,q⟩;rw [ZQ,aZ];lia
def Tu:V->List V->Hp->VK->Prop:=fun x vs H Q=>∃ l b xs zs,x=.ref l/\vs=[.ref b]/\H l=some (.lst xs)/\H b=some (.lst zs)/\xs.length + zs.length<=sizeLine/\Q .non (upd H l (.lst (xs ++ zs)))
theorem Qf:W8 X "list.extend" Tu:=by
 intro pins s σ H x vs v us Q I rx rv h;obtain ⟨l,b,xs,zs,rfl,rfl,hH,hB,hz,q⟩:=h;cases rx
 obtain ⟨u,rfl,ru⟩:=rv.one;cases ru
 obtain ⟨z,As,n,r,hl,e⟩:=I.lstM hH;obtain ⟨z2,IX,n2,r2,Kx,e2⟩:=I.lstM hB;have hsz:As.toArray.size + IX.toArray.size<=sizeLine:=by rw [au,au]; lia
 have hlong:¬ (!As.toArray.isEmpty && Builtin.List.listTooLong (As.toArray.size + IX.toArray.size))=true:=by
  rw [RU hsz,gy];exact ah
 refine call_meets F.slot_list_extend ⟨_,e,rfl⟩ F.entry_list_extend (F.args_list_extend_2 _ _)
  (AutoSeq1.list_extend_list_list_0 l As.toArray n b IX.toArray n2 hlong (by rw [au]; lia) ad) ⟨e,e2,?_⟩
 refine ⟨.non,_,I.lset (its':=As ++ IX) hH e gl (r.append r2) ?_,rfl,q⟩;rw [ZQ];lia
def Vy:V->List V->Hp->VK->Prop:=fun x vs H Q=>∃ l xs i k y,x=.ref l/\vs=[.int i]/\H l=some (.lst xs)/\-(2 ^ 63)<=i/\i < 2 ^ 63/\seqIndex? i xs.length=some k/\xs[k]? = some y/\Q y (upd H l (.lst (xs.eraseIdx k)))
theorem RX:W8 X "list.pop" Vy:=by
 intro pins s σ H x vs v us Q I rx rv h;obtain ⟨l,xs,i,k,y,rfl,rfl,hH,h1,h2,hk,hy,q⟩:=h;cases rx
 obtain ⟨u,rfl,ru⟩:=rv.one;obtain ⟨t,rfl⟩:=ru;obtain ⟨z,As,n,r,hl,e⟩:=I.lstM hH;obtain ⟨w,hw,Pr⟩:=r.get hy;refine call_meets F.slot_list_pop ⟨_,e,rfl⟩ F.entry_list_pop (F.args_list_pop_2 _ _)
  (MeetsSeq.list_pop_at l As.toArray n i t k w (fitsIndex_both h1 h2) (by rw [au,<-hl]; exact hk) (by rw [<-b9]; exact hw) (by rw [au]; lia)) ⟨e,?_⟩
 refine ⟨y,_,I.lset (its':=As.eraseIdx k) hH e ?_ (r.eraseIdx k) ?_,Pr,q⟩
 ·show As.toArray.eraseIdxIfInBounds k=(As.eraseIdx k).toArray
  rw [List.eraseIdxIfInBounds_toArray]
 ·have:=Kt xs k;lia
def Vz:V->List V->Hp->VK->Prop:=fun x vs H Q=>∃ l xs,x=.ref l/\vs=[]/\H l=some (.lst xs)/\Q .non (upd H l iF)
theorem RY:W8 X "list.clear" Vz:=by
 intro pins s σ H x vs v us Q I rx rv h;obtain ⟨l,xs,rfl,rfl,hH,q⟩:=h;cases rx
 have hus:=rv.zero;subst hus;obtain ⟨z,As,n,r,hl,e⟩:=I.lstM hH;refine call_meets F.slot_list_clear ⟨_,e,rfl⟩ F.entry_list_clear (F.args_list_clear_1 _) (AutoSeq1.list_clear_list_0 l As.toArray n (by rw [au]; lia)) ⟨e,?_⟩;exact ⟨.non,_,I.lset (its':=[]) (ys:=[]) hH e rfl .nil (aJ _),rfl,q⟩
def rCat:R2:=fun x y H Q=>∃ l b xs zs,x=.ref l/\y=.ref b/\H l=some (.lst xs)/\H b=some (.lst zs)/\xs.length + zs.length<=sizeLine/\∀ p,H p=none->Q (.ref p) (upd H p (.lst (xs ++ zs)))
theorem Ng:E9 X (binaryOp .Add) rCat:=by
 intro pins s σ H x y v u Q I rx ry h;obtain ⟨l,b,xs,zs,rfl,rfl,hH,hB,hz,q⟩:=h;cases rx
 cases ry
 obtain ⟨z,As,n,r,hl,e⟩:=I.lstM hH;obtain ⟨z2,IX,n2,r2,Kx,e2⟩:=I.lstM hB;refine PySem.P.add_list e e2 ?_ (by rw [au,au]; lia);have ea:As.toArray ++ IX.toArray=(As ++ IX).toArray:=by simp
 rw [ea];exact ⟨.ref _,_,I.lnew (t':=s.toks) (r.append r2) (by rw [ZQ]; lia),rfl,q _ I.fresh⟩
end
section
variable {prog:Program} {w:World} {A:Around} {E:Value->Shared->Prop} {s:Shared}
set_option maxRecDepth 100000 in
end
section
variable {X:Cx}
end
section
variable {κ:Type} [DecidableEq κ]
def Bm (kvs:List (κ × V)) (k:κ):Option V:=(kvs.find? fun kv=>decide (kv.1=k)).map (·.2)
def Bw (kvs:List (κ × V)) (k:κ) (v:V):List (κ × V):=
 if (kvs.any fun kv=>decide (kv.1=k))=true then kvs.map (fun kv=>if kv.1=k then (kv.1,v) else kv) else kvs ++ [(k,v)]
def Jk (kvs:List (κ × V)) (k:κ):List (κ × V):=kvs.filter fun kv=>decide (kv.1 ≠ k)
theorem B4 {p:κ × V} {r:List (κ × V)} {k:κ} (e:p.1=k):Bm (p :: r) k=some p.2:=by simp [Bm,bX,e]
theorem Bv {p:κ × V} {r:List (κ × V)} {k:κ} (e:¬ p.1=k):Bm (p :: r) k=Bm r k:=by simp [Bm,bX,e]
theorem Co (k:κ):∀ kvs:List (κ × V),(kvs.any fun kv=>decide (kv.1=k))=(Bm kvs k).isSome
 | []=>rfl
 | p :: r=>by
  rw [cJ];by_cases e:p.1=k
  ·simp only [B4 e,decide_eq_true e,Bool.true_or,fg]
  ·rw [Bv e,decide_eq_false e,Bool.false_or]; exact Co k r
theorem L6 (k j:κ) (y:V):∀ kvs:List (κ × V),Bm (kvs.map fun kv=>if kv.1=k then (kv.1,y) else kv) j=(Bm kvs j).map fun x=>if j=k then y else x
 | []=>rfl
 | p :: r=>by
  have ih:=L6 k j y r;rw [ag];by_cases h:p.1=k
  ·rw [if_pos h];by_cases e:p.1=j
   ·rw [B4 (p:=(p.1,y)) e,B4 e,cq,if_pos (e.symm.trans h)]
   ·rw [Bv (p:=(p.1,y)) e,Bv e,ih]
  ·rw [if_neg h];by_cases e:p.1=j
   ·rw [B4 (p:=p) e,B4 e,cq,if_neg (fun z=>h (e.trans z))]
   ·rw [Bv (p:=p) e,Bv e,ih]
theorem JV (k j:κ) (y:V):∀ kvs:List (κ × V),Bm kvs k=none->Bm (kvs ++ [(k,y)]) j=if j=k then some y else Bm kvs j
 | [],_=>by
  by_cases e:k=j
  ·rw [if_pos e.symm]; exact B4 (p:=(k,y)) e
  ·rw [if_neg (fun z=>e z.symm)]; exact Bv (p:=(k,y)) e
 | p :: r,hn=>by
  rw [bR];have hk:¬ p.1=k:=fun z=>by rw [B4 z] at hn; cases hn
  rw [Bv hk] at hn;have ih:=JV k j y r hn;by_cases e:p.1=j
  ·rw [B4 e,B4 e,if_neg (fun z=>hk (e.trans z))]
  ·rw [Bv e,Bv e,ih]
theorem QM (kvs:List (κ × V)) (k j:κ) (y:V):Bm (Bw kvs k y) j=if j=k then some y else Bm kvs j:=by
 unfold Bw;by_cases a:(kvs.any fun kv=>decide (kv.1=k))=true
 ·rw [if_pos a,L6];rw [Co] at a;by_cases e:j=k
  ·obtain ⟨x,hx⟩:=cU.mp a;rw [if_pos e,e,hx,cq,if_pos rfl]
  ·rw [if_neg e];cases Bm kvs j with
   | none=>rfl
   | some x=>rw [cq,if_neg e]
 ·rw [if_neg a];refine JV k j y kvs ?_;rw [Co] at a;cases q:Bm kvs k with
  | none=>rfl
  | some x=>rw [q] at a; exact (a rfl).elim
theorem C1 (kvs:List (κ × V)) (k:κ) (v:V):(Bw kvs k v).length<=kvs.length + 1:=by
 unfold Bw;split
 ·rw [ZM]; lia
 ·rw [ZQ,aB,eI]; lia
theorem Iz {kvs:List (κ × V)} {k:κ} (v:V) (h:Bm kvs k=none):Bw kvs k v=kvs ++ [(k,v)]:=by
 unfold Bw;rw [Co,h];exact if_neg bi
theorem GZ.isSome_eq {o:Option V} {u:Option Value} (r:GZ o u):o.isSome=u.isSome:=by
 cases o with
 | none=>cases u with
  | none=>rfl
  | some _=>exact (show False from r).elim
 | some _=>cases u with
  | none=>exact (show False from r).elim
  | some _=>rfl
theorem GZ.getD {o:Option V} {u:Option Value} {d:V} {d':Value} (r:GZ o u) (rd:AA d d'):AA (o.getD d) (u.getD d'):=by
 cases o with
 | none=>cases u with
  | none=>exact rd
  | some _=>exact (show False from r).elim
 | some _=>cases u with
  | none=>exact (show False from r).elim
  | some _=>exact r
theorem KV.val {kvs:List (κ × V)} {vs:List (κ × Value)} (r:KV kvs vs) (k:κ):GZ (Bm kvs k) (valueAt vs k):=by
 unfold KV at r;induction r with
 | nil=>exact True.intro
 | @cons p q ps qs h t ih=>
  obtain ⟨h1,h2⟩:=h;by_cases e:p.1=k
  ·have e':q.1=k:=h1.symm.trans e;have b:valueAt (q :: qs) k=some q.2:=by simp [valueAt,bX,e']
   rw [B4 e,b]; exact h2
  ·have e':¬ q.1=k:=fun z=>e (h1.trans z)
   have b:valueAt (q :: qs) k=valueAt qs k:=by simp [valueAt,bX,e']
   rw [Bv e,b]; exact ih
theorem KV.any {kvs:List (κ × V)} {vs:List (κ × Value)} (r:KV kvs vs) (k:κ):(kvs.any fun kv=>decide (kv.1=k))=vs.any fun kv=>decide (kv.1=k):=by
 unfold KV at r;induction r with
 | nil=>rfl
 | cons h t ih=>rw [cJ,cJ,ih,h.1]
theorem KV.repl {kvs:List (κ × V)} {vs:List (κ × Value)} (r:KV kvs vs) (k:κ) {y:V} {u:Value} (ry:AA y u) :
  KV (kvs.map fun kv=>if kv.1=k then (kv.1,y) else kv) (vs.map fun kv=>if kv.1=k then (kv.1,u) else kv):=by
 unfold KV at r ⊢;induction r with
 | nil=>exact .nil
 | @cons p q ps qs h t ih=>
  rw [ag,ag];refine .cons ?_ ih;obtain ⟨h1,h2⟩:=h;by_cases e:p.1=k
  ·rw [if_pos e,if_pos (h1.symm.trans e)]; exact ⟨h1,ry⟩
  ·rw [if_neg e,if_neg (fun z=>e (h1.trans z))]; exact ⟨h1,h2⟩
theorem KV.put {kvs:List (κ × V)} {vs:List (κ × Value)} (r:KV kvs vs) (k:κ) {y:V} {u:Value} (ry:AA y u):KV (Bw kvs k y) (stored vs k u):=by
 unfold Bw stored;rw [r.any k];by_cases e:(vs.any fun kv=>decide (kv.1=k))=true
 ·rw [if_pos e,if_pos e]; exact r.repl k ry
 ·rw [if_neg e,if_neg e]; exact Paired.snoc r ⟨rfl,ry⟩
theorem KV.drop {kvs:List (κ × V)} {vs:List (κ × Value)} (r:KV kvs vs) (k:κ):KV (Jk kvs k) (without vs k):=by
 unfold KV at r ⊢;unfold Jk without;induction r with
 | nil=>exact .nil
 | @cons p q ps qs h t ih=>
  obtain ⟨h1,h2⟩:=h;rw [bT,bT];by_cases e:p.1=k
  ·have a:¬ decide (p.1 ≠ k)=true:=by simp [e]
   have b:¬ decide (q.1 ≠ k)=true:=by simp [h1.symm.trans e]
   rw [if_neg a,if_neg b]; exact ih
  ·have e':¬ q.1=k:=fun z=>e (h1.trans z)
   have a:decide (p.1 ≠ k)=true:=by simp [e]
   have b:decide (q.1 ≠ k)=true:=by simp [e']
   rw [if_pos a,if_pos b]; exact .cons ⟨h1,h2⟩ ih
theorem KV.length {kvs:List (κ × V)} {vs:List (κ × Value)} (r:KV kvs vs):kvs.length=vs.length:=Paired.length r
theorem S1 (kvs:List (κ × V)) (k:κ):(Jk kvs k).length<=kvs.length:=aN _ _
end
theorem Hw {P:Program} {w:World} {k:AF} {u:Value} (r:AA (kV k) u):(AR P w).is k u=true:=by
 cases k with
 | inl i=>obtain ⟨t,e⟩:=(show ∃ t,u=Value.int i t from r); subst e; exact Mj P w i t
 | inr x=>obtain ⟨t,e⟩:=(show ∃ t,u=Value.str x t from r); subst e; exact Hu P w x t
theorem Kv {P:Program} {w:World}:∀ {ks:List AF} {us:List Value},A9 (ks.map kV) us->ItemsAre (AR P w) ks us
 | [],_,r=>by rw [gB] at r; cases r; exact .nil
 | k :: ks,_,r=>by
  rw [ag] at r;cases r with
  | cons h t=>exact .cons (Hw h) (Kv t)
abbrev KT (H:Hp):List gQ->List (List AF × Addr × Value)->Prop:=Paired fun p q=>p.1=q.1/\H q.2.1=some (.tup (p.1.map kV))/\AA p.2 q.2.2
theorem KT.val {H:Hp} {kvs:List gQ} {xs:List (List AF × Addr × Value)} (r:KT H kvs xs) (k:List AF):GZ (Bm kvs k) ((atKey xs k).map (·.2)):=by
 induction r with
 | nil=>exact True.intro
 | @cons p q ps qs h t ih=>
  obtain ⟨h1,_,h2⟩:=h;by_cases e:p.1=k
  ·have e':q.1=k:=h1.symm.trans e;have b:atKey (q :: qs) k=some q.2:=by simp [atKey,bX,e']
   rw [B4 e,b]; exact h2
  ·have e':¬ q.1=k:=fun z=>e (h1.trans z)
   have b:atKey (q :: qs) k=atKey qs k:=by simp [atKey,bX,e']
   rw [Bv e,b]; exact ih
theorem KT.repl {H:Hp} {kvs:List gQ} {xs:List (List AF × Addr × Value)} (r:KT H kvs xs) (k:List AF) {y:V} {u:Value} (ry:AA y u) :
  KT H (kvs.map fun kv=>if kv.1=k then (kv.1,y) else kv) (xs.map (putAt k u)):=by
 induction r with
 | nil=>exact .nil
 | @cons p q ps qs h t ih=>
  rw [ag,ag];refine .cons ?_ ih;obtain ⟨h1,h2,h3⟩:=h;unfold putAt;by_cases e:p.1=k
  ·rw [if_pos e,if_pos (h1.symm.trans e)]; exact ⟨h1,h2,ry⟩
  ·rw [if_neg e,if_neg (fun z=>e (h1.trans z))]; exact ⟨h1,h2,h3⟩
theorem KT.put {H:Hp} {kvs:List gQ} {xs:List (List AF × Addr × Value)} (r:KT H kvs xs) (k:List AF) {b:Addr} {y:V} {u:Value} (hb:H b=some (.tup (k.map kV))) (ry:AA y u) :
  KT H (Bw kvs k y) (storedH xs k b u):=by
 have e:(kvs.any fun kv=>decide (kv.1=k))=(atKey xs k).isSome:=by
  rw [Co,(r.val k).isSome_eq,dP]
 unfold Bw storedH;rw [e];by_cases q:(atKey xs k).isSome=true
 ·rw [if_pos q,if_pos q]; exact r.repl k ry
 ·rw [if_neg q,if_neg q]; exact Paired.snoc r ⟨rfl,hb,ry⟩
theorem KT.keeps {H H':Hp} {kvs:List gQ} {xs:List (List AF × Addr × Value)} (r:KT H kvs xs) (ht:∀ b ys,H b=some (.tup ys)->H' b=some (.tup ys)):KT H' kvs xs:=
 Paired.mapP r fun _ _ z=>⟨z.1,ht _ _ z.2.1,z.2.2⟩
section
variable {P:Program} {w:World} {H:Hp} {h:Heap} {a:Addr}
theorem UC {u:HO} (ok:FT P w H h) (e:Rd H a u):AE P w H h a u:=e.ok ok
theorem Jl {kvs:List (AF × V)} (ok:FT P w H h) (e:Rd H a iz):kvs.length<=sizeLine/\(a == sysModules)=false/\∃ vs,KV kvs vs/\h.DictOf (AR P w) a vs:=
 show AE P w H h a iz from UC ok e
theorem S2 {kvs:List (AF × V)} (ok:FT P w H h) (e:H a=some iz):kvs.length<=sizeLine/\(a == sysModules)=false/\∃ vs,KV kvs vs/\h.DictOf (AR P w) a vs:=Jl ok (.inl e)
theorem FI {ks:List AF} (ok:FT P w H h) (e:H a=some (.tup (ks.map kV))):(tupleKind (AR P w)).is h ks a:=by
 obtain ⟨_,As,r,⟨o,h1,h2,n,h3⟩,_⟩:=(show AE P w H h a (.tup (ks.map kV)) from ok a _ e)
 exact ⟨o,As.toArray,n,h1,h2,h3,by simpa using Kv r⟩
theorem Jj {kvs:List gQ} (ok:FT P w H h) (e:Rd H a ig):kvs.length<=sizeLine/\(a == sysModules)=false /\
  ∃ xs,KT H kvs xs/\h.DictOfH (tupleKind (AR P w)) a xs:=by
 obtain ⟨z,y,xs,r,o,es,ep,h1,h2,h3,h4,h5⟩:=(show AE P w H h a ig from UC ok e)
 refine ⟨z,y,xs,r,o,es,ep,h1,h2,h3,h4,fun x hx=>?_,h5⟩;have all:∀ {l:List gQ} {m:List (List AF × Addr × Value)},KT H l m->∀ x ∈ m,(tupleKind (AR P w)).is h x.1 x.2.1:=by
  intro l m q;induction q with
  | nil=>intro x hx; exact nomatch hx
  | @cons p q ps qs hq t ih=>
   intro x hx;rcases ZZ.mp hx with e | hx
   ·subst e;exact FI ok (by rw [<-hq.1]; exact hq.2.1)
   ·exact ih x hx
 exact all r x hx
theorem UX {kvs:List gQ} (ok:FT P w H h) (e:H a=some ig):kvs.length<=sizeLine/\(a == sysModules)=false /\
  ∃ xs,KT H kvs xs/\h.DictOfH (tupleKind (AR P w)) a xs:=Jj ok (.inl e)
end
def BQ (H:Hp) (a:Addr) (y:V) (r:Option V):Prop:=
 (∃ kvs k,Rd H a iz/\y=kV k/\r=Bm kvs k)\/∃ kvs k b,Rd H a ig/\y=.ref b/\H b=some (.tup (k.map kV))/\r=Bm kvs k
def DZ (H:Hp) (a:Addr) (y v:V) (H':Hp):Prop:=
 (∃ kvs k,H a=some iz/\y=kV k/\kvs.length < sizeLine/\H'=upd H a (.dK (Bw kvs k v))) \/
 ∃ kvs k b,H a=some ig/\y=.ref b/\H b=some (.tup (k.map kV))/\kvs.length < sizeLine/\H'=upd H a (.dT (Bw kvs k v))
theorem BQ.k {H:Hp} {a:Addr} {kvs:List (AF × V)} {k:AF} (e:H a=some iz):BQ H a (kV k) (Bm kvs k):=.inl ⟨kvs,k,.inl e,rfl,rfl⟩
theorem BQ.t {H:Hp} {a b:Addr} {kvs:List gQ} {k:List AF} (e:H a=some ig) (eb:H b=some (.tup (k.map kV))):BQ H a (.ref b) (Bm kvs k):=.inr ⟨kvs,k,b,.inl e,rfl,eb,rfl⟩
theorem DZ.k {H:Hp} {a:Addr} {kvs:List (AF × V)} {k:AF} {v:V} (e:H a=some iz) (hl:kvs.length < sizeLine):DZ H a (kV k) v (upd H a (.dK (Bw kvs k v))):=.inl ⟨kvs,k,e,rfl,hl,rfl⟩
theorem DZ.t {H:Hp} {a b:Addr} {kvs:List gQ} {k:List AF} {v:V} (e:H a=some ig) (eb:H b=some (.tup (k.map kV))) (hl:kvs.length < sizeLine) :
  DZ H a (.ref b) v (upd H a (.dT (Bw kvs k v))):=.inr ⟨kvs,k,b,e,rfl,eb,hl,rfl⟩
section
variable {X:Cx} {pins:List cr} {σ:St} {H:Hp} {s:Shared} {a:Addr} {y v:V} {u r:Value} {o:Option V} {A:Around} {E:Value->Shared->Prop}
theorem Aq.big (I:Aq X pins σ H s):sysModules < s.heap.objs.size:=by
 have h:mainGlobals < s.heap.objs.size:=(I.mod.glob.keeps I.bk).lt;exact Nat.lt_trans bi h
theorem Q3 {Q:Value->Shared->Prop} (hu:A.units + 1 < cLine) (I:Aq X pins σ H s) (g:BQ H a y (some v)) (ry:AA y u) (h:∀ w' s',Aq X pins σ H s'->AA v w'->Q w' s') :
  wpAny dL A (getItem (.ref a) u) Q E s:=by
 rcases g with ⟨kvs,k,e,ey,l⟩ | ⟨kvs,k,b,e,ey,eb,l⟩
 ·subst ey;obtain ⟨z,hd,vs,rel,dd⟩:=Jl I.hok e;obtain ⟨w',hw,Pr⟩:=GZ.some_of (v:=v) (o:=valueAt vs k) (by rw [l]; exact rel.val k);exact wpAny_getItem_of (Hw ry) dd.mapOf hw (h w' _ (I.tok _) Pr)
 ·subst ey;cases (show u=Value.ref b from ry)
  obtain ⟨z,hd,xs,rel,dd⟩:=Jj I.hok e;obtain ⟨w',hw,Pr⟩:=GZ.some_of (v:=v) (o:=(atKey xs k).map (·.2)) (by rw [l]; exact rel.val k);obtain ⟨p,hp,hp2⟩:=Option.map_eq_some_iff.mp hw;refine wpAny_getItem_heap (tupleKind_room_in1 hu) (FI I.hok eb) dd hp ?_;rw [hp2];exact h w' _ (I.tok _) Pr
theorem d_in {Q:Value->Shared->Prop} (hu:A.units + 1 < cLine) (I:Aq X pins σ H s) (g:BQ H a y o) (ry:AA y u) (h:∀ s',Aq X pins σ H s'->Q (.bool o.isSome) s') :
  wpAny dL A (compareOp .In u (.ref a)) Q E s:=by
 rcases g with ⟨kvs,k,e,ey,l⟩ | ⟨kvs,k,b,e,ey,eb,l⟩
 ·subst ey;obtain ⟨z,hd,vs,rel,dd⟩:=Jl I.hok e;refine wpAny_in_of (Hw ry) hd dd.mapOf ?_;rw [<-(rel.val k).isSome_eq,<-l];exact h _ (I.tok _)
 ·subst ey;cases (show u=Value.ref b from ry)
  obtain ⟨z,hd,xs,rel,dd⟩:=Jj I.hok e;refine wpAny_in_heap (tupleKind_room_in1 hu) (FI I.hok eb) hd dd ?_;have q:=(rel.val k).isSome_eq;rw [dP] at q;rw [<-q,<-l];exact h _ (I.tok _)
theorem Up {Q:Value->Shared->Prop} (hu:A.units + 1 < cLine) (I:Aq X pins σ H s) (g:BQ H a y o) (ry:AA y u) (h:∀ s',Aq X pins σ H s'->Q (.bool (!o.isSome)) s') :
  wpAny dL A (compareOp .NotIn u (.ref a)) Q E s:=by
 rcases g with ⟨kvs,k,e,ey,l⟩ | ⟨kvs,k,b,e,ey,eb,l⟩
 ·subst ey;obtain ⟨z,hd,vs,rel,dd⟩:=Jl I.hok e;refine wpAny_notIn_of (Hw ry) hd dd.mapOf ?_;rw [<-(rel.val k).isSome_eq,<-l];exact h _ (I.tok _)
 ·subst ey;cases (show u=Value.ref b from ry)
  obtain ⟨z,hd,xs,rel,dd⟩:=Jj I.hok e;refine wpAny_notIn_heap (tupleKind_room_in1 hu) (FI I.hok eb) hd dd ?_;have q:=(rel.val k).isSome_eq;rw [dP] at q;rw [<-q,<-l];exact h _ (I.tok _)
theorem Gy {h':Heap} {t':Nat} {ob:HO} (I:Aq X pins σ H s) (mu:Mut (H a)) (hs:Heap.SameBut a s.heap h') (he:∃ q,h'.get? a=some q) (new:AE X.prog X.w (upd H a ob) h' a ob) :
  Aq X pins σ (upd H a ob) { s with heap:=h',toks:=t' }:=
 I.write (x:=a) (e:=a) mu (.inl rfl) (fun b q hb z=>(hs.2 b hb).trans z) he new
theorem Ls {P:Program} {w:World} {H':Hp} {h':Heap} {kvs:List (AF × V)} {vs:List (AF × Value)} (z:kvs.length<=sizeLine) (hd:(a == sysModules)=false) (rel:KV kvs vs) (dd:h'.DictOf (AR P w) a vs) :
  AE P w H' h' a iz:=⟨z,hd,vs,rel,dd⟩
theorem Q2 {H':Hp} {Q:Unit->Shared->Prop} (hu:A.units + 1 < cLine) (I:Aq X pins σ H s) (g:DZ H a y v H') (ry:AA y u) (rv:AA v r) (h:∀ s',Aq X pins σ H' s'->Q () s') :
  wpAny dL A (setItem (.ref a) u r) Q E s:=by
 rcases g with ⟨kvs,k,e,ey,l,eH⟩ | ⟨kvs,k,b,e,ey,eb,l,eH⟩
 ·subst ey eH;obtain ⟨z,hd,vs,rel,dd⟩:=S2 I.hok e;have hz:vs.length<=sizeLine:=by rw [<-rel.length]; exact z
  have hl:(Bw kvs k v).length<=sizeLine:=by have:=C1 kvs k v; lia
  refine wpAny_setItem_pairs (hsz:=hz) (Hw ry) dd fun h' ME hs=>h _ ?_
  have he:∃ q,h'.get? a=some q:=let ⟨q,_,_,hq,_⟩:=ME; ⟨q,hq⟩;exact Gy I (by rw [e]; exact True.intro) hs he (Ls hl hd (rel.put k rv) ME)
 ·subst ey eH;cases (show u=Value.ref b from ry)
  obtain ⟨z,hd,xs,rel,dd⟩:=UX I.hok e;have hz:xs.length<=sizeLine:=by rw [<-Paired.length rel]; exact z
  have hl:(Bw kvs k v).length<=sizeLine:=by have:=C1 kvs k v; lia
  refine wpAny_setItem_heap (hsz:=hz) (tupleKind_room_in1 hu) (FI I.hok eb) dd fun h' ME hs=>h _ ?_
  obtain ⟨q,es,ep,hq,h2,h3,h4,_,h5⟩:=ME;refine Gy I (by rw [e]; exact True.intro) hs ⟨q,hq⟩ ⟨hl,hd,_,(rel.put k eb rv).keeps fun c ys ec=>?_,q,es,ep,hq,h2,h3,h4,h5⟩;rw [Af (BM ec e (fun z=>nomatch z))];exact ec
end
section
variable {X:Cx} {pins:List cr} {σ:St} {H:Hp} {s:Shared} {a:Addr} {kvs:List (AF × V)} {k:AF} {u:Value} {A:Around} {E:Value->Shared->Prop}
theorem Q4 {Q:Unit->Shared->Prop} (I:Aq X pins σ H s) (e:H a=some iz) (ry:AA (kV k) u) (l:(Bm kvs k).isSome=true) (h:∀ s',Aq X pins σ (upd H a (.dK (Jk kvs k))) s'->Q () s') :
  wpAny dL A (delItem (.ref a) u) Q E s:=by
 obtain ⟨z,hd,vs,rel,dd⟩:=S2 I.hok e;refine wpAny_delItem_slot dd.typeIs bi PySem.F.slot_dict_delitem
  (call_meetsIn PySem.F.slot_dict_delitem dd.typeIs PySem.F.entry_dict_delitem (PySem.F.args_dict_delitem_2 _ _) (meets_dict_delitem_pairs (AR X.prog X.w) a (Hw ry)) ⟨vs,dd,by rw [<-rel.length]; exact z,by rw [<-(rel.val k).isSome_eq]; exact l,fun h' ME hs=>h _ ?_⟩)
 have he:∃ q,h'.get? a=some q:=let ⟨q,_,_,hq,_⟩:=ME; ⟨q,hq⟩;exact Gy I (by rw [e]; exact True.intro) hs he (Ls (az (S1 kvs k) z) hd (rel.drop k) ME)
end
def NoSl (i:Expr):Prop:=∀ ov iv,subscripted i false ov iv=operate [ov,iv] (getItem ov iv)
theorem Tj {prog:Program} {w:World} {A:Around} {E:Value->Shared->Prop} {s:Shared} {env:Env} {value slice:Expr} {pos:Pos} {T id:String} {Q:Value->Shared->Prop}
  (hl:typeLookup (.type T) "__getitem__"=pure (some (.builtin id))) (hs:NoSl slice)
  (h:wpAny ap A (eval value env) (fun o AQ=>wpAny ap A (eval slice env) (fun i E6=>E6.TypeIs o T/\wpAny ap A (getItem o i) Q E E6) E AQ) E s) :
  wpAny ap A (eval (.Subscript value slice pos) env) Q E s:=by
 refine Subscript_ (wpAny_mono h (fun o AQ h₁=>wpAny_mono h₁ (fun i E6 Nu=>?_) fun _ _ x=>x) fun _ _ x=>x);obtain ⟨hT,Nu⟩:=Nu;unfold subscriptTail;refine wpAny_bind ?_;rw [getitemInPython_of_ne hT.not_modules];refine wpAny_bind (wpAny_specialOf hT hl ?_);have fin:wpAny ap A (subscripted slice false o i) (fun r Cd=>wpAny ap A (letTemporaryGo value o r >>= fun _=>pure r) Q E Cd) E E6:=by
  rw [hs o i];exact wpAny_operating (wpAny_mono Nu (fun r Cd Nt=>wpAny_bind (wpAny_letTemporaryGo (wpAny_pure Nt))) fun _ _ x=>x)
 first
  | exact wpAny_pure (wpAny_bind fin)
  | exact wpAny_bind (wpAny_pure (wpAny_bind fin))
  | exact wpAny_bind fin
theorem Mx {X:Cx} {pins:List cr} {σ:St} {H:Hp} {s:Shared} {a:Addr} {y:V} {o:Option V} (I:Aq X pins σ H s) (g:BQ H a y o):s.TypeIs (.ref a) "dict":=by
 rcases g with ⟨kvs,k,e,_,_⟩ | ⟨kvs,k,b,e,_,_,_⟩
 ·obtain ⟨_,_,vs,_,dd⟩:=Jl I.hok e;exact dd.typeIs
 ·obtain ⟨_,_,xs,_,dd⟩:=Jj I.hok e;exact dd.typeIs
def tDGet (td ty:TE):TE:=fun σ H Q=>td σ H fun x H1=>ty σ H1 fun y H2=>∃ a v,x=.ref a/\BQ H2 a y (some v)/\Q v H2
def tDIn (ty td:TE):TE:=fun σ H Q=>ty σ H fun y H1=>td σ H1 fun x H2=>∃ a o,x=.ref a/\BQ H2 a y o/\Q (.bl o.isSome) H2
def Th (ty td:TE):TE:=fun σ H Q=>ty σ H fun y H1=>td σ H1 fun x H2=>∃ a o,x=.ref a/\BQ H2 a y o/\Q (.bl (!o.isSome)) H2
def sDPut (td ty tv:TE):TS:=fun D σ H=>tv σ H fun v H1=>td σ H1 fun x H2=>ty σ H2 fun y H3=>∃ a H4,x=.ref a/\DZ H3 a y v H4/\D.nx σ H4
def sDDel (td ty:TE):TS:=fun D σ H=>td σ H fun x H1=>ty σ H1 fun y H2=>∃ a kvs k,x=.ref a/\H2 a=some iz/\y=kV k/\(Bm kvs k).isSome=true/\D.nx σ (upd H2 a (.dK (Jk kvs k)))
section
variable {X:Cx} {o i e value:Expr} {pos pos' tpos:Pos} {td ty tv:TE}
theorem Bd (hu:X.A.units + 1 < cLine) (ho:PE X o td) (hi:PE X i ty) (hs:NoSl i):PE X (.Subscript o i pos) (tDGet td ty):=by
 intro pins s σ H Q I h;refine Tj PySem.F.slot_dict_getitem.lookup hs (B5 (ho (pins:=pins) s σ H _ I h) fun u s1 ⟨x,H1,I1,rx,q1⟩=>B5 (hi (pins:=pins) s1 σ H1 _ I1 q1) fun iv s2 ⟨y,H2,I2,ry,a,v,ex,g,q2⟩=>?_);subst ex;obtain rfl:u=Value.ref a:=rx;exact ⟨Mx I2 g,Q3 hu I2 g ry fun w' s3 I3 Pr=>⟨v,H2,I3,Pr,q2⟩⟩
theorem V7 (hu:X.A.units + 1 < cLine) (hi:PE X i ty) (ho:PE X o td):PC X .In i o (tDIn ty td):=by
 intro pins s σ H Q I h;refine B5 (hi (pins:=pins) s σ H _ I h) fun iv s1 ⟨y,H1,I1,ry,q1⟩=>B5 (ho (pins:=pins) s1 σ H1 _ I1 q1) fun u s2 ⟨x,H2,I2,rx,a,ov,ex,g,q2⟩=>?_
 subst ex;obtain rfl:u=Value.ref a:=rx;exact d_in hu I2 g ry fun s3 I3=>⟨.bl ov.isSome,H2,I3,rfl,q2⟩
theorem Km (hu:X.A.units + 1 < cLine) (hi:PE X i ty) (ho:PE X o td):PC X .NotIn i o (Th ty td):=by
 intro pins s σ H Q I h;refine B5 (hi (pins:=pins) s σ H _ I h) fun iv s1 ⟨y,H1,I1,ry,q1⟩=>B5 (ho (pins:=pins) s1 σ H1 _ I1 q1) fun u s2 ⟨x,H2,I2,rx,a,ov,ex,g,q2⟩=>?_
 subst ex;obtain rfl:u=Value.ref a:=rx;exact Up hu I2 g ry fun s3 I3=>⟨.bl (!ov.isSome),H2,I3,rfl,q2⟩
theorem Ce (hu:X.A.units + 1 < cLine) (ho:PE X o td) (hi:PE X i ty) (hv:PE X value tv) (hs:swapsWith value (some (.Subscript o i pos')) pos.line X.env=pure false) :
  PS X (.Assign [.Subscript o i pos'] value pos) (sDPut td ty tv):=by
 intro pins s σ H D I h;refine wpAny_Assign_Subscript (B5 (hv (pins:=pins) s σ H _ I h) fun r s1 ⟨v,H1,I1,rv,q1⟩=>B5 (ho (pins:=pins) s1 σ H1 _ I1 q1) fun u s2 ⟨x,H2,I2,rx,q2⟩=>B5 (hi (pins:=pins) s2 σ H2 _ I2 q2) fun iv s3 ⟨y,H3,I3,ry,a,H4,ex,g,q3⟩=>?_) hs;subst ex;obtain rfl:u=Value.ref a:=rx;exact Q2 hu I3 g ry rv fun s4 I4=>⟨σ,H4,I4,q3⟩
theorem Tz (ho:PE X o td) (hi:PE X i ty):PS X (.Delete [.Subscript o i tpos] pos) (sDDel td ty):=by
 intro pins s σ H D I h;refine wpAny_Delete (wpAny_deleteEach_cons (wpAny_delete_Subscript (B5 (ho (pins:=pins) s σ H _ I h) fun u s1 ⟨x,H1,I1,rx,q1⟩=>B5 (hi (pins:=pins) s1 σ H1 _ I1 q1) fun iv s2 ⟨y,H2,I2,ry,a,kvs,k,ex,e,ey,l,q2⟩=>?_)));subst ex ey;obtain rfl:u=Value.ref a:=rx;exact Q4 I2 e ry l fun s3 I3=>wpAny_deleteEach_nil ⟨σ,_,I3,q2⟩
end
theorem Jm {P:Program} {w:World} {H:Hp} (h:Heap) (hb:sysModules < h.objs.size):AE P w H (h.push { cls:=.type "dict",data:=.dict #[] }) h.objs.size (.dK []):=
 ⟨aJ _,beq_eq_false_iff_ne.mpr (Ne.symm (ab hb)),[],.nil,Heap.DictOf.new h⟩
theorem Mw {P:Program} {w:World} {H:Hp} (h:Heap) (hb:sysModules < h.objs.size):AE P w H (h.push { cls:=.type "dict",data:=.dict #[] }) h.objs.size (.dT []):=
 ⟨aJ _,beq_eq_false_iff_ne.mpr (Ne.symm (ab hb)),[],.nil,_,#[],0,ZX _ rfl,⟨rfl,rfl,rfl⟩,rfl,rfl,bE⟩
def Vo:TE:=fun _ H Q=>∀ p,H p=none->Q (.ref p) (upd H p (.dK []))
def Vn:TE:=fun _ H Q=>∀ p,H p=none->Q (.ref p) (upd H p (.dT []))
section
variable {X:Cx} {pos:Pos}
theorem LW:PE X (.Dict [] [] pos) Vo:=fun pins s σ H Q I h=>
 wpAny_Dict_empty ⟨.ref s.heap.objs.size,_,I.laid (a:=s.heap.objs.size) (o:=.dK []) (t':=s.toks) (fun _ _ q=>ZO _ q) (ZU _) (Jm s.heap I.big),rfl,h _ (I.hok.fresh (ZU _))⟩
theorem IE:PE X (.Dict [] [] pos) Vn:=fun pins s σ H Q I h=>
 wpAny_Dict_empty ⟨.ref s.heap.objs.size,_,I.laid (a:=s.heap.objs.size) (o:=.dT []) (t':=s.toks) (fun _ _ q=>ZO _ q) (ZU _) (Mw s.heap I.big),rfl,h _ (I.hok.fresh (ZU _))⟩
end
def IU (kvs more:List (AF × V)):List (AF × V):=more.foldl (fun acc kv=>Bw acc kv.1 kv.2) kvs
structure M2 (X:Cx) (o:Expr) (m:Str) (apos:Pos) (e f:Expr) (EU:Pos):Prop where
 base:attributeBase o m X.env (eval o X.env)=eval o X.env
 few:((backTo EU (starEach [e,f] X.env)).all (fun x=>!x.1) && (backToKw EU (keywordEach [] X.env)).all (fun x=>x.1.isSome)
  && decide (([e,f]:List Expr).length + ([]:List Keyword).length + (if ([]:List Keyword).isEmpty then 0 else 1) < 30))=true
 line:(apos.endLine == EU.line)=true
 trees:backTo EU (starEach [e,f] X.env)=[(false,eval e X.env),(false,eval f X.env)]
def IsD (H:Hp) (a:Addr):Prop:=(∃ kvs,Rd H a iz)\/∃ kvs,Rd H a ig
theorem VM {X:Cx} {pins:List cr} {σ:St} {H:Hp} {s:Shared} {a:Addr} (I:Aq X pins σ H s) (d:IsD H a) :
  s.TypeIs (.ref a) "dict"/\(∀ b,Value.ref a=.ref b->∃ ob,s.heap.get? b=some ob/\ob.dict=none)/\(a == sysModules)=false:=by
 rcases d with ⟨kvs,e⟩ | ⟨kvs,e⟩
 ·obtain ⟨_,hd,vs,_,dd⟩:=Jl I.hok e;refine ⟨dd.typeIs,fun b q=>?_,hd⟩;cases q
  obtain ⟨ob,_,_,h1,h2,_⟩:=dd;exact ⟨ob,h1,h2.2.1⟩
 ·obtain ⟨_,hd,xs,_,dd⟩:=Jj I.hok e;refine ⟨dd.typeIs,fun b q=>?_,hd⟩;cases q
  obtain ⟨ob,_,_,h1,h2,_⟩:=dd;exact ⟨ob,h1,h2.2.1⟩
section
variable {X:Cx} {pins:List cr} {σ:St} {H:Hp} {s:Shared} {a:Addr} {y d:V} {u r:Value} {o:Option V} {A:Around} {E:Value->Shared->Prop}
theorem We {Q:Value->Shared->Prop} (hu:A.units + 1 < cLine) (I:Aq X pins σ H s) (g:BQ H a y o) (ry:AA y u) (rd:AA d r) (h:∀ w' s',Aq X pins σ H s'->AA (o.getD d) w'->Q w' s') :
  wpAny dL A (call (.builtin "dict.get") [.ref a,u,r]) Q E s:=by
 rcases g with ⟨kvs,k,e,ey,l⟩ | ⟨kvs,k,b,e,ey,eb,l⟩
 ·subst ey;obtain ⟨z,hd,vs,rel,dd⟩:=Jl I.hok e;refine call_meetsIn PySem.F.slot_dict_get dd.typeIs PySem.F.entry_dict_get (PySem.F.args_dict_get_3 _ _ _) (meets_dict_get_default (AR X.prog X.w) a (Hw ry) hd r) ⟨_,dd.mapOf,h _ _ (I.tok _) ?_⟩;rw [l];exact (rel.val k).getD rd
 ·subst ey;cases (show u=Value.ref b from ry)
  obtain ⟨z,hd,xs,rel,dd⟩:=Jj I.hok e;refine call_meetsIn PySem.F.slot_dict_get dd.typeIs PySem.F.entry_dict_get (PySem.F.args_dict_get_3 _ _ _) (meetsH_dict_get_default (tupleKind (AR X.prog X.w)) a b hd r) ⟨tupleKind_room_in1 hu,k,xs,FI I.hok eb,dd,h _ _ (I.tok _) ?_⟩;rw [l];exact (rel.val k).getD rd
end
def Vp (td ty tx:TE):TE:=fun σ H Q=>td σ H fun x H1=>∃ a,x=.ref a/\IsD H1 a/\ty σ H1 fun y H2=>tx σ H2 fun z H3=>∃ o,BQ H3 a y o/\Q (o.getD z) H3
section
variable {X:Cx} {o e f:Expr} {apos EU:Pos} {td ty tx:TE}
theorem RH (hu:X.A.units + 1 < cLine) (ho:PE X o td) (he:PE X e ty) (hf:PE X f tx) (m:M2 X o "get" apos e f EU):PE X (.Call (.Attribute o "get" apos) [e,f] [] EU) (Vp td ty tx):=by
 intro pins s σ H Q I h;refine wpAny_Call_method m.base m.few m.line PySem.F.plainAttrs_dict PySem.F.slot_dict_get PySem.F.type_dict_get (B5 (ho (pins:=pins) s σ H _ I h) fun u s1 ⟨x,H1,I1,rx,a,ex,d,q1⟩=>?_);subst ex;obtain rfl:u=Value.ref a:=rx;obtain ⟨t1,t2,_⟩:=VM I1 d;exists t1,t2;rw [m.trees];refine Calls.callWith_builtin rfl (Calls.evalArgs_plain (Calls.spliced_cons (B5 (he (pins:=pins) s1 σ H1 _ I1 q1) fun iv s2 ⟨y,H2,I2,ry,q2⟩=>
  Calls.spliced_cons (B5 (hf (pins:=pins) s2 σ H2 _ I2 q2) fun fv s3 ⟨z,H3,I3,rz,ov,g,q3⟩=>Calls.spliced_nil ?_))))
 exact We hu I3 g ry rz fun w' s4 I4 Pr=>⟨_,H3,I4,Pr,q3⟩
end
section
variable {X:Cx} {pins:List cr} {σ:St} {H:Hp} {s:Shared} {a:Addr} {kvs:List (AF × V)} {A:Around} {E:Value->Shared->Prop}
end
section
variable {X:Cx} {pins:List cr} {σ:St} {H:Hp} {s:Shared} {a:Addr} {y:V} {u:Value} {A:Around} {E:Value->Shared->Prop}
end
end L2
namespace Att
open PySem PySem.W PySem.Calls PyProof.Rows
theorem HP {P:Params} {h:Heap}:∀ (ns:List Int) (vs:List Value),WellAll P h vs (ns.map WData.int)->IntsAre vs ns:=by
 intro ns;induction ns with
 | nil=>
  intro vs w;rw [gB] at w;cases w
  exact .nil
 | cons n ns ih=>
  intro vs w;rw [ag] at w;cases w with
  | cons a b=>
   cases a
   exact .cons _ _ (ih _ b)
theorem Pq {l:OpenLaw} {n:Nat} (hn:l.most=some n) {P:Params} {h:Heap} {args:List WData} {vals:List Value}
  (hpre:l.row.toRowW.claim.pre args=true) (hwl:WellAll P h vals args) :
  ∃ a vs ns,vals=[Value.ref a]/\args=[WData.list (ns.map WData.int)]/\h.get? a=some { cls:=.type "list",data:=.seq vs.toArray }/\IntsAre vs ns/\ns.length<=n:=by
 have hsh:WShape.hasAll [] args [.list .int]=true:=(pre_splitW hpre).1;have hc:l.pre.holds [] { args:=args } = true:=(pre_splitW hpre).2;obtain ⟨d,r,rfl,h1,h2⟩:=hasAllW_cons hsh;obtain rfl:=hasAllW_nil h2;obtain ⟨xs,rfl,h3⟩:=hasW_list h1;obtain ⟨ns,rfl⟩:=items_int h3;have hlen:ns.length<=n:=by
  unfold OpenLaw.pre at hc;have h4:(WTm.not (.lt (.lit (.int (n:Int))) (.len (.arg 0)))).holds [] { args:=[.list (ns.map .int)] } = true:=by
   have h4:=(holds_andW hc).1;rw [hn] at h4;exact h4
  have h5:=condW_of h4 (w_not (w_lt w_lit (w_len_list (w_arg rfl))));rw [ZM] at h5;refine Nat.le_of_not_lt fun q=>?_
  have q':(n:Int) < ((ns.length:Nat):Int):=by lia
  first
   | (rw [decide_eq_true q'] at h5; exact absurd h5 bi)
   | (simp at h5; lia)
 cases hwl with
 | cons w1 w2=>
  cases w2
  cases w1 with
  | list ho hall=>exact ⟨_,_,ns,rfl,rfl,ho,HP ns _ hall,hlen⟩
theorem PK (l:OpenLaw) (args:List WData):l.row.toRowW.claim.post args (.bool true) args=true:=
 postW_of (r:=l.row.toRowW) (X:=(true == true))
  (show WShape.has [] (.bool true) .bool=true by first | rfl | decide | simp [WShape.has,WShape.arms,WShape.armsAll])
  (show (WTm.eq .res (.lit (.bool true))).value [] { args:=args,res:=some (.bool true),after:=args } = some (.bool (true == true)) from w_eq_bool (w_res rfl) w_lit) rfl
theorem attach_call {l:OpenLaw} {n:Nat} {q:Program} {loose:List Str} {XP:(Str->Option Value)->Heap->Prop} {YP:World->Heap->Prop} {d:DefRec}
  (hn:l.most=some n) (hdf:d.params.defaults=[])
  (call:∀ (w:World) (s₀ AQ:Shared) (mg mb:Str->Option Value) (fa:Addr) (o:Obj) (pm cd doc:Value) (a:Addr) (vs:List Value) (ns:List Int),
   Ground q loose [] XP w s₀ mg mb AQ.heap->YP w AQ.heap ->
   AQ.heap.get? fa=some o->o.data=.func (docDef d.name d.params d.body d.scope pm cd doc)->AQ.heap.CodeRec cd d.name->mg d.name=some (.ref fa) ->
   AQ.heap.get? a=some { cls:=.type "list",data:=.seq vs.toArray }->IntsAre vs ns->ns.length<=n->AQ.gens=#[] ->
   codeAny (model l.prog w) callerA (.call (.ref fa) ⟨[.ref a],[]⟩) (fun r s'=>r=.ok (.ret (.bool true))/\OldK AQ.heap s'.heap/\s'.os=AQ.os/\AllBare s'.gens) AQ) :
  WalkO q loose XP YP l.row.toRowW d [] (fun f vs=>PySem.call f vs):=by
 intro w s₀ AQ mg mb G Y fa o pm cd doc dV kV ho hd hcd hD hmg hg args vals as hpre hlay hrd hwl hlo;obtain rfl:dV=.none:=Dflts.none hD hdf;obtain rfl:kV=.none:=Dflts.noKw hD;obtain ⟨a,vs,ns,rfl,rfl,hobj,hints,hlen⟩:=Pq hn hpre hwl;refine enter_call (codeAny_mono (call w s₀ AQ mg mb fa o pm cd doc a vs ns G Y ho (fd_plain hd) hcd hmg hobj hints hlen hg) fun r s' hq=>?_);obtain ⟨rfl,h2,h3,h4⟩:=hq;exact ⟨.inl ⟨.bool true,.bool true,[],rfl,fun _=>rfl,.bool true,PK l _,fun _=>⟨List.Pairwise.nil,fun _ hm=>(nomatch hm)⟩⟩,h2,h3,h4⟩
section
variable {prog:Program} {w:World} {A:Around} {E:Value->Shared->Prop} {s:Shared} {K:Frag}
end
end Att
namespace L2
open PySem PySem.Spec PyProof.Rows
theorem JU:∀ {vs:List Value} {ns:List Int},IntsAre vs ns->A9 (ns.map V.int) vs
 | _,_,.nil=>.nil
 | _,_,.cons n t h=>.cons ⟨t,rfl⟩ (JU h)
def Uw (H:Hp):Prop:=∀ b,H b=none\/∃ o xs,H b=some (.frz o (.lst xs))
theorem Sa {P:Program} {w:World} {K:ZP} {mg mb:Str->Option Value} {CX:QF} {k:Nat} {fa a:Addr} {fd:FuncData} {x:Str} {sp:Sp} {AQ:Shared} {vs:List Value} {ns:List Int}
  (KX:K.In AQ.heap) (hns:AQ.heap.Ns mainGlobals mg) (hb:AQ.heap.Ns builtinsNs mb) (hbb:∀ x:Str,x ≠ "__name__"->mb x=bootBuiltins x) (hlim:AQ.heap.NoLimit) (hg:AQ.gens=#[])
  (ha:AQ.heap.get? a=some { cls:=.type "list",data:=.seq vs.toArray }) (hi:IntsAre vs ns) (hl:ns.length<=sizeLine) (hr:DN k callerA)
  (F:∀ base:Heap,K.In base->base.Ns mainGlobals mg->AH P w K mg base CX k fa fd [x] sp) (hbind:∀ (s:Shared) (u:Value),BindsTo s fd ⟨[u],[]⟩ [(x,u)])
  (hsp:∀ H:Hp,Uw H->AB K H a (ns.map V.int)->sp [.ref a] H (fun v _=>v=.bl true) fun _ _ _=>False)
  (hCX:∀ H e s',CX [] H AQ (fun _ _ _=>False) e s'->False) :
  codeAny (model P w) callerA (.call (.ref fa) ⟨[.ref a],[]⟩) (fun r s'=>r=.ok (.ret (.bool true))/\OldK AQ.heap s'.heap/\s'.os=AQ.os/\AllBare s'.gens) AQ:=by
 have rv:=JU hi;have lenV:=hi.length;have core:∀ H:Hp,Uw H->AB K H a (ns.map V.int)->FT P w H AQ.heap->(∀ b,H b ≠ none->b=a)->(H a ≠ none->K.lookup a=none) ->
   codeAny (model P w) callerA (.call (.ref fa) ⟨[.ref a],[]⟩) (fun r s'=>r=.ok (.ret (.bool true))/\OldK AQ.heap s'.heap/\s'.os=AQ.os/\AllBare s'.gens) AQ:=by
  intro H hO hS hok hA hK;have base_of:∀ {b:Addr} {o:Obj},AQ.heap.get? b=some o->H b=none->(Lo AQ.heap H).get? b=some o:=fun e n=>So e n
  have noA:∀ {b:Addr} {o:Obj} {es:Array DictEntry} {ep:Nat},AQ.heap.get? b=some o->o.data=.dict es ep->H b=none:=fun {b o es ep} e d=>by
   cases q:H b with
   | none=>rfl
   | some u=>
    have e':b=a:=hA b (by rw [q]; simp);subst e';rw [ha] at e; cases e;have d':Data.seq vs.toArray _=Data.dict es ep:=d;cases d'
  have nsK:∀ {b:Addr} {m:Str->Option Value},AQ.heap.Ns b m->(Lo AQ.heap H).Ns b m:=fun {b m} ⟨o,es,ep,e,d,r⟩=>⟨o,es,ep,base_of e (noA e d),d,r⟩
  have hKb:K.In (Lo AQ.heap H):=fun b o e=>base_of (KX b o e) (by
   cases q:H b with
   | none=>rfl
   | some u=>
    have e':b=a:=hA b (by rw [q]; simp);subst e';rw [hK (by rw [q]; simp)] at e; cases e)
  have hM:Mod K mg (Lo AQ.heap H):=⟨hKb,nsK hns,⟨mb,nsK hb,hbb⟩,let ⟨mc,h1,h2⟩:=hlim; ⟨mc,nsK h1,h2⟩⟩
  have e0:U1 P w K mg (Lo AQ.heap H) callerA [] AQ H:=⟨rfl,hM,fun b o e=>TF e,Nat.le_of_eq (Qp _ _),trivial,fun b hb=>absurd (show b ∈ ([]:List Addr) from hb) gl,hok,.of_eq hg⟩
  refine codeAny_mono ((F _ hKb (nsK hns)).run callerA [] AQ H ⟨[.ref a],[]⟩ [.ref a] [.ref a] _ _ hr e0 (hbind AQ (.ref a)) (.cons rfl .nil) (hsp H hO hS)) fun r s' h=>?_
  cases r with
  | error e=>exact (hCX H e s' h).elim
  | ok fl=>
   cases fl with
   | next=>exact False.elim h
   | brk=>exact False.elim h
   | cont=>exact False.elim h
   | ret u=>
    obtain ⟨v,H',os,bare,un,YZ,r',q⟩:=h;have q':v=.bl true:=q;subst q';obtain rfl:u=Value.bool true:=r';refine ⟨rfl,OldK.of_keep fun b o e=>?_,os,bare⟩;cases q:H b with
    | none=>exact un.keep b o e q (by intro z; exact absurd (show b ∈ ([]:List Addr) from z) gl) gl
    | some u=>
     rcases hO b with z | ⟨ob,xs,z⟩
     ·rw [q] at z; cases z
     ·have z2:=un.frzs b ob _ z;obtain ⟨e1,_⟩:=hok b _ z;obtain ⟨e2,_⟩:=YZ b _ z2;rw [e] at e1; cases e1;exact e2
 cases hk:K.lookup a with
 | some o=>
  have e:=KX a o hk;rw [ha] at e;cases e
  refine core (fun _=>none) (fun _=>.inl rfl) (.inr ⟨_,vs.toArray,_,hk,rfl,rfl,rfl,by rw [au,lenV]; exact hl,by simpa using rv⟩) (fun b u z=>by have z':(none:Option HO)=some u:=z; cases z') (fun b z=>absurd rfl z) fun z=>absurd rfl z
 | none=>
  refine core (fun b=>if b=a then some (.frz { cls:=.type "list",data:=.seq vs.toArray } (.lst (ns.map V.int))) else none) (fun b=>?_) (.inl (.inr ⟨{ cls:=.type "list",data:=.seq vs.toArray },if_pos rfl⟩)) (fun b u z=>?_) (fun b z=>?_) fun _=>hk
  ·by_cases hb:b=a
   ·exact .inr ⟨_,_,if_pos hb⟩
   ·exact .inl (if_neg hb)
  ·by_cases hb:b=a
   ·have z':=(if_pos hb).symm.trans z;cases z'
    subst hb;exact ⟨ha,by rw [ZM]; exact hl,vs,_,rv,ha⟩
   ·have z':=(if_neg hb).symm.trans z;cases z'
  ·by_cases hb:b=a
   ·exact hb
   ·exact absurd (if_neg hb) z
theorem walk_of {l:e6} {n k:Nat} {q:Program} {loose:List Str} {XP:(Str->Option Value)->Heap->Prop} {YP:World->Heap->Prop} {d:DefRec} {K:Params->ZP} {CX:World->QF} {sp:World->Sp} {x:Str}
  (hn:l.most=some n) (Zb:n<=sizeLine) (hdf:d.params.defaults=[]) (hr:DN k callerA)
  (hY:∀ (w:World) (h:Heap),YP w h->(K w.params).In h)
  (F:∀ (w:World) (mg:Str->Option Value) (fa:Addr) (h:Heap),(K w.params).In h->h.Ns mainGlobals mg->mg d.name=some (.ref fa) ->
   ∃ fd:FuncData,(∀ (s:Shared) (u:Value),BindsTo s fd ⟨[u],[]⟩ [(x,u)]) /\
    ∀ base:Heap,(K w.params).In base->base.Ns mainGlobals mg->AH l.prog w (K w.params) mg base (CX w) k fa fd [x] (sp w))
  (hsp:∀ (w:World) (H:Hp) (a:Addr) (ns:List Int),ns.length<=n->Uw H->AB (K w.params) H a (ns.map V.int)->sp w [.ref a] H (fun v _=>v=.bl true) fun _ _ _=>False)
  (hCX:∀ (w:World) (H:Hp) (s:Shared) (e:Value) (s':Shared),CX w [] H s (fun _ _ _=>False) e s'->False) :
  fZ q loose XP YP l.row.toRowW d [] (fun f vs=>PySem.call f vs):=by
 refine Att.attach_call hn hdf fun w s₀ AQ mg mb fa o pm cd doc a vs ns G Y ho hd hcd hmg hobj hints hlen hg=>?_
 have KX:=hY w _ Y;obtain ⟨fd,hb,hF⟩:=F w mg fa _ KX G.T.g hmg;exact Sa KX G.T.g G.T.b G.T.builtins G.T.nolimit hg hobj hints (az hlen Zb) hr hF hb (fun H hO hS=>hsp w H a ns hlen hO hS) fun H e s'=>hCX w H AQ e s'
def Ep (s:Stmt):Arguments:=match s with
 | .FunctionDef _ a _ _ _ _ _ _ _ _=>a
 | _=>{ posonlyargs:=[],args:=[],vararg:=none,kwonlyargs:=[],kw_defaults:=[],kwarg:=none,defaults:=[] }
def Ct (s:Stmt):List Stmt:=match s with
 | .FunctionDef _ _ b _ _ _ _ _ _ _=>b
 | _=>[]
def Ao (s:Stmt):Scope:=match s with
 | .FunctionDef _ _ _ _ _ _ sc _ _ _=>sc
 | _=>{ kind:=.function,names:=[],isGenerator:=false,isCoroutine:=false }
abbrev BK:QF:=fun _ _ _ _ _ _=>False
abbrev E0:XK:=fun _ _ _=>False
theorem Aw {X:Cx}:Jz BK X E0:=fun _ _ _ _ _ _ _ h=>h.elim
structure E4 (K:ZP) (x qual:Str) (st:Stmt) (f:Addr) (fd:FuncData):Prop where
 ex:∃ (oc:Value) (od:Option Addr) (kV doc pm:Value) (an:Option Addr) (cdv ct:Value) (osl:Array (Option Value)),
  fd=bV x qual (Ep st) (Ct st) (Ao st) .none kV doc pm an cdv ct/\K.lookup f=some ⟨oc,od,.func fd,osl⟩/\dj K cdv qual=true
 kp:cz K (.ref f)=true
section
variable {P:Program} {w:World} {K:ZP} {mg:Str->Option Value} {base:Heap}
theorem E4.ok {x qual:Str} {st:Stmt} {f:Addr} {fd:FuncData} {N ps:List Str} {k:Nat} {sp:Sp} (F:E4 K x qual st f fd) (S:AD N ps (Ao st)) (len:∀ vs H Q E,sp vs H Q E->vs.length=ps.length)
  (hbody:∀ (cdv:Value) (A:Around) (outer:List Env) (s:Shared) (H:Hp) (vs:List V) (Q:VK) (E:XK),DN k (A.deeper (envOfC qual (Ao st) s.heap.objs.size f cdv))->sp vs H Q E ->
   ∃ t,M8 (JH BK P w K mg base N qual (Ao st) f cdv A outer s H E).nox (Ct st) t/\t { nx:=fun _ H'=>Q .non H',rt:=Q } (start N vs) H):AH P w K mg base BK (k + 1) f fd ps sp:=by
 obtain ⟨oc,od,kV,doc,pm,an,cdv,ct,osl,rfl,lk,hcd⟩:=F.ex;refine fn_of lk hcd S len fun A outer s H vs Q E hr hsp=>?_
 obtain ⟨t,h,q⟩:=hbody cdv A outer s H vs Q E hr hsp;exact ⟨t,h.nox,q⟩
theorem E4.binds {x qual:Str} {st:Stmt} {f:Addr} {fd:FuncData} {ps:List Str} (F:E4 K x qual st f fd)
  (h:∀ (kV doc pm:Value) (an:Option Addr) (cdv ct:Value) (us:List Value),us.length=ps.length->bindArgs (bV x qual (Ep st) (Ct st) (Ao st) .none kV doc pm an cdv ct) ⟨us,[]⟩=pure (ps.zip us)):F9 K fd ps []:=by
 obtain ⟨oc,od,kV,doc,pm,an,cdv,ct,osl,rfl,lk,hcd⟩:=F.ex;exact .all (h kV doc pm an cdv ct)
theorem VX {x qual:Str} {st:Stmt} {f:Addr} {oc:Value} {od an:Option Addr} {osl:Array (Option Value)} {kV doc pm cdv ct:Value} (l:K.lookup f=some ⟨oc,od,.func (bV x qual (Ep st) (Ct st) (Ao st) .none kV doc pm an cdv ct),osl⟩)
  (c:dj K cdv qual=true) (k:cz K (.ref f)=true):E4 K x qual st f (bV x qual (Ep st) (Ct st) (Ao st) .none kV doc pm an cdv ct):=⟨⟨oc,od,kV,doc,pm,an,cdv,ct,osl,rfl,l,c⟩,k⟩
end
theorem Ez {A:Around} {k:Nat} (hr:DN k A):A.units + 1 < cLine:=Nat.lt_of_le_of_lt (Nat.add_le_add_left (by decide:1<=64) _) hr.units
section
variable {X:Cx}
theorem pv (i:Nat) {x:Str} {pos:Pos} (hN:X.N[i]? = some x:=by rfl) (hv:Vis X.env.scope x:=by first | exact Or.inl rfl | exact Or.inr ga | exact Or.inr (Or.inr rfl)) (hd:(x == ("__debug__":Str))=false:=by decide)
  (hcd:(x == ("__classdict__":Str))=false:=by decide):PE X (.Name x pos) (Tf i):=V6 hN hv hd hcd
end
theorem GK {A B:Prop} (h:B):if false=true then A else B:=by
 rw [if_neg ah];exact h
theorem IY {A B:Prop} (h:A):if true=true then A else B:=by
 rw [if_pos rfl];exact h
theorem BB {c A B:Prop} [Decidable c] (h1:c->A) (h2:¬ c->B):if c then A else B:=by
 by_cases h:c
 ·rw [if_pos h];exact h1 h
 ·rw [if_neg h];exact h2 h
def Ar (H H':Hp):Prop:=∀ b o,H b=some o->H' b=some o
theorem Ar.refl (H:Hp):Ar H H:=fun _ _ h=>h
theorem Ar.trans {H H1 H2:Hp} (a:Ar H H1) (b:Ar H1 H2):Ar H H2:=fun c o h=>b c o (a c o h)
theorem Ar.free {H H':Hp} (e:Ar H H') {l:Addr} (h:H' l=cH):H l=cH:=by
 cases q:H l with
 | none=>rfl
 | some o=>
  rw [e l o q] at h;cases h
section
variable {κ:Type} [DecidableEq κ]
theorem QN {kvs:List (κ × V)} {k:κ} (h:Bm kvs k=none):¬ k ∈ kvs.map (·.1):=by
 intro m;obtain ⟨p,hp,e⟩:=ZR.mp m;have q:(kvs.any fun kv=>decide (kv.1=k))=true:=bY.mpr ⟨p,hp,decide_eq_true e⟩;rw [Co,h] at q;exact absurd q gl
theorem Tb {kvs:List (κ × V)} {k:κ} {v:V} (h:Bm kvs k=some v):k ∈ kvs.map (·.1):=by
 have q:(kvs.any fun kv=>decide (kv.1=k))=true:=by
  rw [Co,h];all_goals rfl
 obtain ⟨p,hp,e⟩:=bY.mp q;exact ZR.mpr ⟨p,hp,of_decide_eq_true e⟩
end
abbrev Ap (X:Cx) (scope:Scope) (cl:List io) (N:List Str) (s2:Shared) (H:Hp) (C:Addr) (fp:List Addr):Cx where
 prog:=X.prog
 w:=X.w
 K:=X.K
 mg:=X.mg
 base:=X.base
 A:=X.A
 N:=N
 s₀:=s2
 H₀:=H
 env:=compEnvC scope cl C X.env
 outer:=X.stack
 stack:=X.stack
 ex:=fp
 fn:=fun _=>false
 calm:=X.calm
 pn:=[]
 xe:=fun _ _=>False
structure Cc (X:Cx) (scope:Scope) (cl:List io):Prop where
 clos:closureFor scope X.env=pure cl
 cell:∀ y ∈ scope.names,y.2 ≠ .cell
 kind:scope.kind=.function
 names:∀ y ∈ scope.names,y.2=.local->scope.names.lookup y.1=some .local
 sub:∀ x c,cl.lookup x=some c->X.env.cells.lookup x=some c
 has:∀ x,gR->∃ c,cl.lookup x=some c
def C3 (X:Cx) (cl:List io) (scope:Scope) (N:List Str) (σ A2:St):Prop:=
 A2.length=N.length/\∀ (i:Nat) (x:Str) (v:V),N[i]? = some x->A2[i]? = some (some v) ->
  (∃ j:Nat,X.N[j]? = some x/\σ[j]? = some (some v))/\(X.env.kindOf x=some .cell\/X.env.kindOf x=some .free) /\
   ((relabel scope X.env).names.lookup x=some .cell\/(relabel scope X.env).names.lookup x=some .free)
theorem C3.none (X:Cx) (cl:List io) (scope:Scope) (N:List Str) (σ:St):C3 X cl scope N σ (N.map fun _=>cH):=by
 refine ⟨by simp,fun i x v h1 h2=>?_⟩;rw [ZV,h1] at h2;cases h2
section
variable {X:Cx} {pins:List cr} {σ A2:St} {H H':Hp} {s2 s':Shared} {scope:Scope} {cl:List io} {N:List Str} {fp:List Addr} {C D:Addr} {h₁ h':Heap} {t':Nat}
theorem Jp (I:Aq X pins σ H s2) (hf:∀ b ∈ fp,Ew X pins H b) (hfo:∀ b ∈ fp,∃ o,s2.heap.get? b=some o) (co:Cc X scope cl) (hσ:C3 X cl scope N σ A2)
  (k:∀ b o,s2.heap.get? b=some o->h₁.get? b=some o) (hD:s2.heap.objs.size<=D) (hC:s2.heap.objs.size<=C) (hDC:C ≠ D)
  (new:h₁.get? D=some { cls:=.type "list",data:=.seq ([]:List Value).toArray 0 }\/∃ n,h₁.get? D=some { cls:=.type "list",data:=.seq ([]:List Value).toArray n }) {m:Str->Option Value} (hn:h₁.Ns C m) :
  Aq gN [] A2 (upd H D iF) { s2 with heap:=h₁,toks:=t' }:=by
 have fD:H D=none:=I.hok.fresh hD;have fC:H C=none:=I.hok.fresh hC;have newO:AE X.prog X.w (upd H D iF) h₁ D iF:=by
  exists aJ _,[]
  rcases new with e | ⟨n,e⟩
  ·exact ⟨0,.nil,e⟩
  ·exact ⟨n,.nil,e⟩
 have lts:∀ b ∈ fp,b < s2.heap.objs.size:=fun b hb=>let ⟨_,e⟩:=hfo b hb; ZW e
 have cells_lt:∀ x c,cl.lookup x=some c->c < s2.heap.objs.size:=fun x c e=>by
  obtain ⟨v,q⟩:=I.cell x c (co.sub x c e);exact q.lt
 have ok:Cx.Ok gN:=by
  refine iC
  ·exact co.kind
  ·exact fun x y c e1 e2=>I.ok.inj x y c (co.sub x c e1) (co.sub y c e2)
  ·exact fun x h=>co.has x h
  ·exact fun x c h _=>by cases h
  ·intro b hb;refine ⟨fun e=>?_,fun x c e=>(hf b hb).2.2.2.2.1 x c (co.sub x c e)⟩;have z:=lts b hb;exact absurd (af z hC) (by rw [show b=C from e]; exact ba _)
  ·intro b o e hb;have F4:b ∈ fp:=hb;rcases (hf b F4).2.2.2.1 with z | z
   ·exact I.ok.noex b o e z
   ·exact absurd (af (ZW e) (az I.ok.bsz z)) (ba _)
  ·intro b hb hz;have F4:b ∈ fp:=hb;obtain ⟨_,f1,f2,_⟩:=hf b F4;rcases ZZ.mp (I.stkSub b hz) with e | e
   ·exact f1 e
   ·exact f2 e
 refine ⟨ok,rfl,I.bare,Un.laid k hD fD,?_,?_,?_,?_,?_,I.hok.laid k hD newO,hσ.1⟩
 ·refine ⟨m,hn,fun i x v e1 e2 _=>?_⟩;obtain ⟨⟨j,j1,j2⟩,kk,kr⟩:=hσ.2 i x v e1 e2;obtain ⟨mo,_,hl⟩:=I.loc;obtain ⟨u,r,l⟩:=hl j x v j1 j2 (by
   rcases kk with z | z
   ·exact .inr (.inl z)
   ·exact .inr (.inr z))
  refine ⟨u,r,.inr ⟨kr,?_⟩⟩;obtain ⟨c,hc⟩:=co.has x kr;rcases l with ⟨z,_⟩ | ⟨_,c',Ii,hcell⟩
  ·rcases kk with q | q
   ·rw [z] at q; cases q
   ·rw [z] at q; cases q
  ·have e3:=co.sub x c hc;rw [Ii] at e3;have e4:c'=c:=ar.inj e3;subst e4;obtain ⟨o,ho,hd⟩:=hcell;exact ⟨c',hc,o,k _ o ho,hd⟩
 ·intro x c e;obtain ⟨v,o,ho,hd⟩:=I.cell x c (co.sub x c e);exact ⟨v,o,k _ o ho,hd⟩
 ·show upd H D iF C=none
  rw [Af hDC];exact fC
 ·intro x c e;rw [Af (ab (af (cells_lt x c e) hD))];exact I.freeC x c (co.sub x c e)
 ·intro p hp;cases hp
theorem EX {pl:List cr} (I:Aq X pins σ H s2) (hf:∀ b ∈ fp,Ew X pins H b) (hC:s2.heap.objs.size<=C) (I2:Aq gN pl A2 H' s')
  (hs:Heap.SameBut C s'.heap h'):Aq X pins σ H' { s' with heap:=h' }:=by
 have nC:∀ b o,s2.heap.get? b=some o->b ≠ C:=fun b o e=>ab (af (ZW e) hC)
 have u:=I2.base;refine I.call' (s':={ s' with heap:=h' }) (ch:=fp) I2.os ⟨?_,?_,u.free,?_,u.tups,u.frzs,u.tbls⟩ ?_ I2.bare fun b hb=>?_
 ·exact fun b o e n h1 h2=>(hs.2 b (nC b o e)).trans (u.keep b o e n h1 h2)
 ·intro b o e n h1 h2;obtain ⟨sl,q⟩:=u.slot b o e n h1 h2;exact ⟨sl,(hs.2 b (nC b o e)).trans q⟩
 ·intro b o e h2;obtain ⟨o',q⟩:=u.there b o e h2;exact ⟨o',(hs.2 b (nC b o e)).trans q⟩
 ·intro b ob e;have hfree:H' C=none:=I2.free;refine (I2.hok b ob e).stay (fun c w' hc q=>(hs.2 c ?_).trans q) (fun _ q=>q) fun _ _ q=>q
  rintro rfl;rcases hc with rfl | hc
  ·rw [hfree] at e; cases e
  ·rw [hfree] at hc; cases hc
 ·obtain ⟨_,f1,_,f3,f4,f5⟩:=hf b hb;exact ⟨f3,f1,f4,f5⟩
end
section
variable {prog:Program} {w:World} {A:Around} {R:Result->Shared->Prop} {s:Shared}
theorem Ca {elt target iter:Expr} {ifs:List Expr} {scope:Scope} {pos:Pos} {it acc:Value} {env:Env} (I:Nat->Shared->Prop)
  (turn:∀ n s,I n s->wpAny ap A (pyNext it) (fun r AQ=>match r with
   | none=>R (.ok .next) AQ
   | some v=>wpAny ap A (letOwnedTupleGo target it v) (fun _ LA=>wpAny ap A (assign target env v) (fun _ E6=>
     wpAny ap A (forIn ifs true fun c r=>if r=true then do let ok <- isTrue c env (eval c env); pure (ForInStep.yield ok) else pure (ForInStep.yield r)) (fun ok Cd=>
      if ok=true then wpAny ap A (eval elt env) (fun x QZ=>
       wpAny ap A (call (.builtin "list.append") [acc,x]) (fun _ QY=>∃ m,m < n/\I m QY) (notedBy ap A env fun e s'=>R (.error e) s') QZ) (notedBy ap A env fun e s'=>R (.error e) s') Cd
      else ∃ m,m < n/\I m Cd) (notedBy ap A env fun e s'=>R (.error e) s') E6) (notedBy ap A env fun e s'=>R (.error e) s') LA) (notedBy ap A env fun e s'=>R (.error e) s') AQ) (notedBy ap A env fun e s'=>R (.error e) s') s)
  (n:Nat) (h:I n s) :
  codeAny ap A (.compLoop (.ListComp elt [⟨target,iter,ifs,0⟩] scope pos) 0 it acc env) R s:=by
 refine codeAny_loop rfl I (fun n s hI=>?_) n h;show wpAny _ A ((compTurn (.ListComp elt [⟨target,iter,ifs,0⟩] scope pos) 0 it acc env).onRaise (fun x=>do noteFrame x env; theTreesLotGoes x)) _ _ s
 refine wpAny_noted ?_;rw [compTurn_list];refine wpAny_bind (wpAny_standAt (wpAny_bind (wpAny_mono (turn n s hI) (fun r AQ h₁=>?_) fun _ _ h'=>h')));cases r with
 | none=>exact wpAny_pure h₁
 | some v=>
  refine wpAny_bind (wpAny_mono h₁ (fun _ LA Sj=>?_) fun _ _ h'=>h');refine wpAny_bind (wpAny_mono Sj (fun _ E6 Nu=>wpAny_bind (wpAny_mono Nu (fun ok Cd Nt=>?_) fun _ _ h'=>h')) fun _ _ h'=>h');cases ok with
  | false=>exact wpAny_pure ⟨rfl,Nt⟩
  | true=>
   exact wpAny_bind (wpAny_bind (wpAny_mono Nt (fun x QZ VP=>wpAny_bind (wpAny_mono VP (fun _ QY VO=>wpAny_pure (wpAny_pure ⟨rfl,VO⟩)) fun _ _ h'=>h')) fun _ _ h'=>h'))
end
def Vc (X:Cx) (ifs:List Expr) (t:TT):Prop:=
 ∀ ⦃pins:List cr⦄ (s:Shared) (σ:St) (H:Hp) (Q:Bool->Hp->Prop),Aq X pins σ H s->t σ H Q ->
  wpAny dL X.A (forIn ifs true fun c r=>if r=true then do let ok <- isTrue c X.env (eval c X.env); pure (ForInStep.yield ok) else pure (ForInStep.yield r)) (TP X pins σ Q) X.xe s
def KP:TT:=fun _ H Q=>Q true H
theorem Bc {X:Cx}:Vc X [] KP:=fun _ _ _ H _ I h=>wpAny_tests_nil ⟨H,I,h⟩
theorem D8 {X:Cx} {c:Expr} {t:TT} (h:PT X c t):Vc X [c] t:=fun pins s σ H Q I q=>wpAny_tests_one (h (pins:=pins) s σ H Q I q)
def NV (wi:TI) (g:TG) (tt:TT) (te:TE) (σ0:St->St):TE:=fun σ H Q=>wi σ H fun J H1=>∀ D,H1 D=none->∃ W:Nat->Nat->St->Hp->Prop,(∃ m,W 0 m (σ0 σ) (upd H1 D iF)) /\
 ∀ i m A2 H',W i m A2 H'->(J.stop i H'/\Q (.ref D) H')\/(J.go i H'/\∀ x H2,J.yld i H' x H2->g x A2 H2 fun Az H3=>tt Az H3 fun b H4=>
  if b=true then te Az H4 (fun v H5=>∃ acc,H5 D=some h9/\acc.length < sizeLine/\∃ m',m' < m/\W gt m' Az hX) else ∃ m',m' < m/\W gt m' Az H4)
theorem Bs {X:Cx} {tg iter elt:Expr} {ifs:List Expr} {scope:Scope} {cl:List io} {N:List Str} {pos:Pos} {wi:TI} {g:TG} {tt:TT} {te:TE} {σ0:St->St} (hc:X.calm=true) (co:Cc X scope cl)
  (hσ:∀ σ,σ.length=X.N.length->C3 X cl scope N σ (σ0 σ)) (hi:PI X tg iter wi)
  (hb:∀ s2 H C fp,PG gN tg g/\Vc gN ifs tt/\PE gN elt te)
  (hs:∀ x,foldedSetIterable iter X.env x=pure x:=by intro _; rfl):PE X gZ (NV wi g tt te σ0):=by
 intro pins s σ H Q I h;rw [eval_ListComp];refine wpAny_comprehension_free (use:=none) rfl hs co.clos co.kind co.names (wpAny_mono (hi (pins:=pins) s σ H _ I h) im fun _ _ e=>e);obtain ⟨it,fp,tn,J,H2,rfl,I2,T,Fs,f2,hW⟩:=h2;refine wpAny_newObj_type h7;dsimp only at B9 Bt ⊢;generalize Je:s2.heap.push { cls:=.type "list",dict:=none,data:=.seq ([]:List Value).toArray } = HH at B9 Bt ⊢;have B7:HH.objs.size=s2.heap.objs.size + 1:=by rw [<-Je,aT]
 have old:∀ b o,s2.heap.get? b=some o->h₁.get? b=some o:=fun b o e=>
  Bt.extBut b o (ab (by rw [B7]; exact aA (ZW e))) (ZO _ (Je ▸ ZO _ e))
 have newD:∃ n,h₁.get? s2.heap.objs.size=some { cls:=.type "list",data:=.seq ([]:List Value).toArray n }:=
  ⟨_,Bt.extBut _ _ (ab (by rw [B7]; exact aK _)) (ZO _ (Je ▸ ZX _ rfl))⟩
 obtain ⟨W,⟨m0,w0⟩,turn⟩:=hW s2.heap.objs.size I2.fresh;have hfo:∀ b ∈ fp,∃ o,s2.heap.get? b=some o:=fun b hb=>let ⟨o,e,_⟩:=T.obj _ _ Fs b hb; ⟨o,e⟩
 have I3:Aq be [] (σ0 σ) (upd H2 s2.heap.objs.size iF) { s2 with heap:=h₁,toks:=s2.toks + ([]:List (Str × Value)).length }:=
  Jp I2 f2 hfo co (hσ σ I.len) old (ZU _) (by rw [B7]; exact aL _) (bj (by rw [B7]; exact aK _)) (.inr newD) B9
 have fC:s2.heap.objs.size<=HH.objs.size:=by rw [B7]; exact aL _
 obtain ⟨hg,ht,he⟩:=hb s2 H2 HH.objs.size fp;have loop:∀ Cd:Shared,Cd = { s2 with heap:=h₁,toks:=s2.toks + ([]:List (Str × Value)).length } ->
   codeAny dL X.A (.compLoop gZ 0 (.ref it) gW (compEnvC scope cl HH.objs.size X.env))
    (compPost dL X.A X.xe none (EP X pins σ Q) gW HH.objs.size) Cd:=by
  rintro Cd rfl;have stat:∀ {H':Hp} ,gT->∀ b ∈ fp,Ew be [] H' b:=fun hn b hb=>by
   refine iA
   ·obtain ⟨o,e⟩:=hfo b hb;exact ab iE
   ·intro hz;obtain ⟨_,q1,q2,_⟩:=f2 b hb;rcases ZZ.mp (I2.stkSub b hz) with e | e
    ·exact q1 e
    ·exact q2 e
   ·exact fun x c e=>(f2 b hb).2.2.2.2.1 x c (co.sub x c e)
  refine Ca (fun n s'=>∃ i A2 H',Aq be [] A2 H' s'/\tn i s'.heap/\gT/\W i n A2 H') ?_ m0
   ⟨0,σ0 σ,_,I3,T.keep _ _ _ Fs fun b hb o e=>old b o e,fun b hb=>?_,w0⟩
  ·rintro n s4 ⟨i,FV,H4,I4,LG,Mq,w4⟩;rcases turn i n FV H4 w4 with ⟨stop,qn⟩ | ⟨go,step⟩
   ·refine wpAny_mono (T.done be rfl rfl rfl hc i [] s4 FV H4 (fun _ _=>False) I4 (stat Mq) LG stop) (fun r s5 ⟨hr,I5⟩=>?_) fun _ _ z=>z.elim
    subst hr;obtain ⟨m5,Sl,_⟩:=id I5.loc;exact ⟨m5,Sl,fun h' Kw=>⟨.ref _,H4,EX I2 f2 fC I5 Kw,rfl,qn⟩⟩
   ·refine wpAny_mono (T.item be rfl rfl rfl hc i [] s4 FV H4 (fun _ _=>False) I4 (stat Mq) LG go) (fun r s5 ⟨u,hr,h5⟩=>?_) fun _ _ z=>z.elim
    subst hr;refine wpAny_mono h5 (fun _ s6 ⟨x,H6,I6,r6,y6,Im,Sx⟩=>?_) fun _ _ z=>z.elim
    have SG:=I6.pinned (stat Sx) (T.obj _ _ Im);refine wpAny_mono (hg s6 FV H6 x u _ SG r6 (step x H6 y6)) (fun _ s7 ⟨Ex,H7,I7,q7⟩=>?_) fun _ _ z=>z.elim
    refine wpAny_mono (ht s7 Ex H7 _ I7 q7) (fun ok s8 ⟨H8,I8,q8⟩=>?_) fun _ _ z=>z.elim
    have again:∀ {s9:Shared} {FU:St} {H9:Hp} ,Aq be ([] ++ DH fp s6.heap) FU H9 s9->(∃ m',m' < n/\W gt m' FU H9)->∃ m,m < n/\∃ i A2 H',Aq be [] A2 H' s9/\tn i s9.heap/\gT/\W i m A2 H':=fun {s9 FU H9} I9 n9=>by
     obtain ⟨m',hm,w9⟩:=n9;refine gM;obtain ⟨o,e,d⟩:=T.obj _ _ Im b hb;exact (I9.pin (b,o) (ae _ (ae _ (Bg hb e)))).2.1
    cases ok with
    | false=>
     rw [if_neg ah] at q8 ⊢;exact again I8 q8
    | true=>
     rw [if_pos rfl] at q8 ⊢;refine wpAny_mono (he s8 Ex H8 _ I8 q8) (fun y s9 ⟨v,H9,I9,r9,acc,hacc,hsz,q9⟩=>?_) fun _ _ z=>z.elim
     refine wpAny_mono (BG (X:=Ap X scope cl N s2 H2 HH.objs.size fp) s9 Ex H9 gW [v] gW [y] (fun _ OS=>∃ m',m' < n/\W gt m' Ex OS) I9 rfl (.cons r9 .nil) ⟨_,acc,v,rfl,rfl,hacc,hsz,q9⟩) (fun _ Ts ⟨_,OS,SH,_,R9⟩=>?_) fun _ _ z=>z.elim
     exact again SH R9
  ·have z:=(f2 b hb).1;obtain ⟨o,e⟩:=hfo b hb;rw [Af (ab (ZW e))];exact z
 exact codeAny_compStart_list (loop _ rfl) hV
def Its (x:Str):It:=⟨fun i _=>i < x.cps.size,fun i H v H'=>H'=H/\∃ c,x.cps[i]? = some c/\v=.str ⟨#[c]⟩,fun i _=>x.cps.size<=i⟩
theorem OY {P:Program} {w:World} {K:ZP} {tg:Expr} (it:Addr) (x:Str) (t:Tok):Lu P w K tg (Its x) [it] it (fun i h=>h.IsStrIter it "str_ascii_iterator" x t i) where
 mem:=by simp
 obj:=fun i h st b hb=>by
  have e:b=it:=by simpa using hb
  subst e;obtain ⟨o,e,c,d⟩:=st;exact ⟨o,e,fun v z=>by rw [d] at z; cases z⟩
 keep:=fun i h h' st k=>let ⟨o,e,r⟩:=st; ⟨o,k it gl o e,r⟩
 item:=by
  intro X hP hw hK hc i pins s σ H E I hf st hg;subst hP hw hK;obtain ⟨f0,f1,f2,f3,f4,f5⟩:=hf it gl;have Ud:i < x.cps.size:=hg;refine wpAny_pyNext_ascii_item st (c:=x.cps[i]) (by simp [Ud]) fun h' AN sb=>?_
  have I1:Aq X pins σ H { s with heap:=h',toks:=s.toks + 1 }:=I.turned (fun b o hb e=>(sb.2 b hb).trans e) f0 f1 f3 f4 f5;obtain ⟨o,e,c,d⟩:=id AN;exact ⟨_,rfl,HC (s:={ s with heap:=h',toks:=s.toks + 1 }) e c d bi ⟨.str ⟨#[x.cps[i]]⟩,H,I1,⟨_,rfl⟩,⟨rfl,_,by simp [Ud],rfl⟩,AN,fun b hb=>(hf b hb).1⟩⟩
 done:=by
  intro X hP hw hK hc i pins s σ H E I hf st hg;subst hP hw hK;obtain ⟨f0,f1,f2,f3,f4,f5⟩:=hf it gl;have Ud:x.cps.size<=i:=hg;exact wpAny_pyNext_ascii_end iG st (by simp [Ud]) fun h' eb=>⟨rfl,I.turned (t':=s.toks) (fun b o hb e=>eb b o hb e) f0 f1 f3 f4 f5⟩
 self:=fun _ _ _ _ _ st h=>wpAny_pyIter_striter_ascii st h
theorem OX {P:Program} {w:World} {K:ZP} {tg:Expr} (it:Addr) (x:Str) (t:Tok):Lu P w K tg (Its x) [it] it (fun i h=>h.IsStrIter it "str_iterator" x t i) where
 mem:=by simp
 obj:=fun i h st b hb=>by
  have e:b=it:=by simpa using hb
  subst e;obtain ⟨o,e,c,d⟩:=st;exact ⟨o,e,fun v z=>by rw [d] at z; cases z⟩
 keep:=fun i h h' st k=>let ⟨o,e,r⟩:=st; ⟨o,k it gl o e,r⟩
 item:=by
  intro X hP hw hK hc i pins s σ H E I hf st hg;subst hP hw hK;obtain ⟨f0,f1,f2,f3,f4,f5⟩:=hf it gl;have Ud:i < x.cps.size:=hg;refine wpAny_pyNext_wide_item st (c:=x.cps[i]) (by simp [Ud]) fun h' AN sb=>?_
  have I1:Aq X pins σ H { s with heap:=h',toks:=s.toks + 1 }:=I.turned (fun b o hb e=>(sb.2 b hb).trans e) f0 f1 f3 f4 f5;obtain ⟨o,e,c,d⟩:=id AN;exact ⟨_,rfl,HC (s:={ s with heap:=h',toks:=s.toks + 1 }) e c d bi ⟨.str ⟨#[x.cps[i]]⟩,H,I1,⟨_,rfl⟩,⟨rfl,_,by simp [Ud],rfl⟩,AN,fun b hb=>(hf b hb).1⟩⟩
 done:=by
  intro X hP hw hK hc i pins s σ H E I hf st hg;subst hP hw hK;obtain ⟨f0,f1,f2,f3,f4,f5⟩:=hf it gl;have Ud:x.cps.size<=i:=hg;exact wpAny_pyNext_wide_end iG st (by simp [Ud]) fun h' eb=>⟨rfl,I.turned (t':=s.toks) (fun b o hb e=>eb b o hb e) f0 f1 f3 f4 f5⟩
 self:=fun _ _ _ _ _ st h=>wpAny_pyIter_striter_wide st h
def iStr (tl:TE):TI:=fun σ H R=>tl σ H fun x H1=>∃ z,x=.str z/\R (Its z) H1
theorem V3 {X:Cx} {tg l:Expr} {tl:TE} (hl:PE X l tl):PI X tg l (iStr tl):=by
 intro pins s σ H R I h;refine B5 (hl (pins:=pins) s σ H _ I h) fun v s1 ⟨x,H1,I1,r1,q1⟩=>?_
 obtain ⟨z,rfl,q⟩:=q1;obtain ⟨t,rfl⟩:=r1;have fin:∀ b ∈ [s1.heap.objs.size],Ew X pins H1 b:=fun b hb=>by
  have e:b=s1.heap.objs.size:=by simpa using hb
  subst e;exact I1.fpOk (ZU _) (I1.hok.fresh (ZU _))
 cases ha:z.cps.all (· < 128)
 ·exact wpAny_pyIter_wide ha ⟨s1.heap.objs.size,[s1.heap.objs.size],_,_,H1,rfl,I1.kept (t':=s1.toks) fun b o e=>ZO _ e,OX _ z t,⟨_,ZX _ rfl,rfl,rfl⟩,fin,q⟩
 ·exact wpAny_pyIter_ascii ha ⟨s1.heap.objs.size,[s1.heap.objs.size],_,_,H1,rfl,I1.kept (t':=s1.toks) fun b o e=>ZO _ e,OY _ z t,⟨_,ZX _ rfl,rfl,rfl⟩,fin,q⟩
theorem EZ {X:Cx} (hc:X.calm=true):Bo X (.builtin "all") (fun xs H Q=>∃ (p:Addr) (bs:List Bool),xs=[.ref p]/\AB X.K H p (bs.map V.bl)/\Q (.bl (bs.all id)) H):=by
 intro pins s σ H xs us Q I r h;obtain ⟨p,bs,rfl,hq,q⟩:=h;obtain ⟨u,rfl,ru⟩:=BV r;cases ru
 obtain ⟨As,rv,pl,hz⟩:=I.list hq;have hlen:As.length=bs.length:=by rw [<-rv.length,ZM]
 refine call_all_walk (wpAny_pyIter_list pl.isList ?_);have hne:p ≠ s.heap.objs.size:=by
  obtain ⟨o,n,e,_⟩:=pl;exact ab (ZW e)
 exists s.heap.objs.size,_,_,_,_,_,fun i=>bs.getD i true,rfl,Walks.list (A:=X.A.in1) iG s.heap.objs.size p hne As.toArray,⟨⟨_,ZX _ rfl,rfl,rfl⟩,?_⟩,?_
 ·exact pl.isList.at fun o e=>ZO _ e
 ·intro i v s1 Q1 E1 hv hQ;have hv':As[i]? = some v:=by simpa using hv
  have hb:∃ b,bs[i]? = some b:=by
   cases e:bs[i]? with
   | some b=>exact ⟨b,rfl⟩
   | none=>
    have:=eM.mp e;have:=(ZT.mp hv').1;lia
  obtain ⟨b,hb⟩:=hb;obtain ⟨u,hu,ru⟩:=rv.get (i:=i) (x:=V.bl b) (by rw [ZV,hb]; rfl);rw [hv'] at hu;cases hu
  cases ru
  have e:bs.getD i true=b:=by rw [ai,hb]; rfl
  have hQ':Q1 (bs.getD i true) s1:=hQ;rw [e] at hQ';exact wpAny_truthy_bool hQ'
 ·intro h' tk hk;have e:(bD As.toArray.size).all (fun i=>bs.getD i true)=bs.all id:=by
   rw [au,hlen];apply bG.mpr;simp only [bH,bo,id];constructor
   ·intro h b hb;obtain ⟨i,hi,e⟩:=aq hb;have:=h i hi;rw [ai,ZN hi] at this;simpa [e] using this
   ·intro h i hi;rw [ai,ZN hi];exact h _ (bh hi)
  rw [e];refine ⟨.bl _,H,?_,rfl,q⟩;have I1:Aq X pins σ H { s with heap:=s.heap.push { cls:=.type "list_iterator",data:=.fields #[.ref p,.int 0 0] } }:=I.kept (t':=s.toks) fun b o e=>ZO _ e
  have F:=I.fpOk (ZU _) (I.hok.fresh (ZU _));obtain ⟨f0,f1,f2,f3,f4,f5⟩:=F;exact I1.turned (it:=s.heap.objs.size) (fun b o hb e=>hk b o (by simpa using hb) e) f0 f1 f3 f4 f5
theorem HE {X:Cx}:Bo X (.builtin "isinstance") (fun xs H Q=>∃ x c t b,xs=[x,.ty c]/\Fc X.K H x t/\di X.K t (.type c)=some b/\Q (.bl b) H):=by
 intro pins s σ H xs us Q I r h;obtain ⟨x,c,t,b,rfl,ty,e,q⟩:=h;obtain ⟨u,v,rfl,rx,rc⟩:=NO r;cases rc
 exact Qm I rx ty e fun tk=>⟨.bl b,H,I.tok tk,rfl,q⟩
theorem Ko {X:Cx}:E9 X (compareOp .LtE) (fun x y H Q=>∃ i j,x=.str i/\y=.str j/\Q (.bl (!(decide (j.cps.toList < i.cps.toList)))) H):=by
 intro pins s σ H x y v u Q I rx ry h;obtain ⟨i,j,rfl,rfl,q⟩:=h;obtain ⟨t,rfl⟩:=rx;obtain ⟨t',rfl⟩:=ry;exact PySem.P.le_str ⟨.bl _,H,I,rfl,q⟩
def tSlS (te:TE) (tl th:TO):TE:=fun σ H Q=>te σ H fun x H1=>tl σ H1 fun l H2=>th σ H2 fun u H3=>∃ z,x=.str z/\z.length<=sizeLine/\Q (.str (Txt.slice z l u)) H3
theorem Gm {X:Cx} {e:Expr} {te:TE} {lo hi:Option Expr} {tl th:TO} {pos p2:Pos} (he:PE X e te) (hl:PO X lo tl) (hu:PO X hi th):PE X (.Subscript e (.Slice lo hi none p2) pos) (tSlS te tl th):=by
 intro pins s σ H Q I h;refine Subscript_ (B5 (he (pins:=pins) s σ H _ I h) fun v s1 ⟨x,H1,I1,r1,q1⟩=>?_);refine wpAny_Slice (B5 (hl (pins:=pins) s1 σ H1 _ I1 q1) fun vl s2 ⟨l,H2,I2,pl,q2⟩=>B5 (hu (pins:=pins) s2 σ H2 _ I2 q2) fun vu s3 ⟨u,H3,I3,pu,q3⟩=>?_);rw [evalPart_none];refine wpAny_pure ?_;obtain ⟨z,rfl,hz,q⟩:=q3;obtain ⟨t,rfl⟩:=r1;show wpAny dL X.A (subscriptTail e (.Slice lo hi none p2) (.str z t) (.ref s3.heap.objs.size)) (EP X pins σ Q) X.xe { s3 with heap:=s3.heap.push { cls:=.type "slice",data:=.fields #[vl,vu,.none] } }
 have kk:KeptH (fun h=>∀ b o,s3.heap.get? b=some o->h.get? b=some o):=fun h ob hh b o e=>ZO _ (hh b o e)
 have fin:ItemOn dL X.A X.xe (.str z t) (.ref s3.heap.objs.size) (EP X pins σ Q) { s3 with heap:=s3.heap.push { cls:=.type "slice",data:=.fields #[vl,vu,.none] } }:=by
  cases pl with
  | none=>
   cases pu with
   | none=>exact SBH.sliceItem_nn kk (fun _ _ e=>e) (fun h' t' k kp=>⟨.str _,H3,I3.kept kp,⟨_,rfl⟩,q⟩) hz
   | int j uj=>exact SBH.sliceItem_ns kk (fun _ _ e=>e) (fun h' t' k kp=>⟨.str _,H3,I3.kept kp,⟨_,rfl⟩,q⟩) hz
  | int i ui=>
   cases pu with
   | none=>exact SBH.sliceItem_sn kk (fun _ _ e=>e) (fun h' t' k kp=>⟨.str _,H3,I3.kept kp,⟨_,rfl⟩,q⟩) hz
   | int j uj=>exact SBH.sliceItem_ss kk (fun _ _ e=>e) (fun h' t' k kp=>⟨.str _,H3,I3.kept kp,⟨_,rfl⟩,q⟩) hz
 obtain ⟨T,id,hT,ht,hg⟩:=fin;exact tail_any (ops:=[.ref s3.heap.objs.size,.str z t]) ht hT hg (by with_unfolding_all rfl)
theorem Dq {α:Type}:∀ {l:List (Str × α)} {x:Str} {k:α},l.lookup x=some k->(x,k) ∈ l
 | [],_,_,h=>by cases h
 | (n,v) :: r,x,k,h=>by
  rw [dc] at h;by_cases e:x=n
  ·subst e;simp at h;subst h;exact aj
  ·have:(x == n)=false:=beq_eq_false_iff_ne.mpr e;rw [this] at h;exact ay _ (Dq h)
theorem Cc.plain {X:Cx} {scope:Scope} (hfree:∀ x ∈ scope.names,x.2 ≠ .free) (hcell:∀ y ∈ scope.names,y.2 ≠ .cell) (hkind:scope.kind=.function)
  (hnames:∀ y ∈ scope.names,y.2=.local->scope.names.lookup y.1=some .local):Cc X scope []:=by
 refine ⟨closureFor_none hfree,hcell,hkind,hnames,fun x c h=>(by cases h),fun x h=>?_⟩;have key:∀ k,(relabel scope X.env).names.lookup x=some k->∃ y ∈ scope.names,y.2=k:=by
  intro k e;have m:=Dq e;obtain ⟨⟨n,k'⟩,hm,e'⟩:=ZR.mp m;have hf:=hfree _ hm;have:(k' == NameKind.free)=false:=by
   cases k' <;> first | rfl | exact absurd rfl hf
  dsimp only at e';rw [this] at e';simp at e';exact ⟨_,hm,e'.2⟩
 rcases h with h | h
 ·obtain ⟨y,hy,e⟩:=key _ h;exact absurd e (hcell y hy)
 ·obtain ⟨y,hy,e⟩:=key _ h;exact absurd e (hfree y hy)
def Gr (c:Nat):Bool:=decide (97<=c) && decide (c<=122)
theorem lt1 (a b:Nat):decide (([a]:List Nat) < [b])=decide (a < b):=by
 apply decide_eq_decide.mpr;rw [List.cons_lt_cons_iff];constructor
 ·rintro (h | ⟨_,h⟩)
  ·exact h
  ·exact absurd h gl
 ·exact fun h=>.inl h
theorem leA (c:Nat):(!(decide ((⟨#[c]⟩:Str).cps.toList < (Str.ofString "a").cps.toList)))=decide (97<=c):=by
 show (!(decide (([c]:List Nat) < [97])))=_
 rw [lt1,<-decide_not];exact decide_eq_decide.mpr ad
theorem leZ (c:Nat):(!(decide ((Str.ofString "z").cps.toList < (⟨#[c]⟩:Str).cps.toList)))=decide (c<=122):=by
 show (!(decide (([122]:List Nat) < [c])))=_
 rw [lt1,<-decide_not];exact decide_eq_decide.mpr ad
def Bq (t:Str):Bool:=decide (1<=t.length) && decide (t.length<=6) && t.cps.toList.all Gr
def SD (K:ZP) (H:Hp) (x:V):Prop:=∃ ty,Fc K H x ty/\di K ty (.type "str")=some false
def Rg (K:ZP):Sp:=fun vs H Q _=>∃ x,vs=[x]/\((∃ t,x=.str t/\t.length<=1000/\∀ H',Ar H H'->Q (.bl (Bq t)) H')\/(SD K H x/\Q (.bl false) H))
theorem Ac {H:Hp} {p:Addr} {o:HO} (h:H p=none):Ar H (upd H p o):=fun b u e=>by
 rw [Af (Ai e h)];exact e
theorem J6 {α β:Type} (f:α->β) (l:List α) (i:Nat) (c:α) (h:l[i]? = some c):(l.take gt).map f=(l.take i).map f ++ [f c]:=by
 rw [List.take_succ,h,ZY];rfl
mutual
inductive F8 (H:Hp):V->PyData->Prop
 | non:F8 H .non .none
 | bl (b:Bool):F8 H (.bl b) (.bool b)
 | int (i:Int):F8 H (.int i) (.int i)
 | str (x:Str):F8 H (.str x) (.str x)
 | tup {a:Addr} {vs:List V} {ds:List PyData}:H a=some (.tup vs)->AU H vs ds->F8 H (.ref a) (.tuple ds)
 | lst {a:Addr} {vs:List V} {ds:List PyData}:H a=some (.lst vs)->AU H vs ds->F8 H (.ref a) (.list ds)
inductive AU (H:Hp):List V->List PyData->Prop
 | nil:AU H [] []
 | cons {v:V} {vs:List V} {d:PyData} {ds:List PyData}:F8 H v d->AU H vs ds->AU H (v :: vs) (d :: ds)
end
mutual
theorem F8.mono {H H':Hp} (s:∀ a o,H a=some o->(∃ vs,o=.tup vs\/o=.lst vs)->H' a=some o):∀ {v:V} {d:PyData},F8 H v d->F8 H' v d
 | _,_,.non=>.non
 | _,_,.bl b=>.bl b
 | _,_,.int i=>.int i
 | _,_,.str x=>.str x
 | _,_,.tup e r=>.tup (s _ _ e ⟨_,.inl rfl⟩) (AU.mono s r)
 | _,_,.lst e r=>.lst (s _ _ e ⟨_,.inr rfl⟩) (AU.mono s r)
theorem AU.mono {H H':Hp} (s:∀ a o,H a=some o->(∃ vs,o=.tup vs\/o=.lst vs)->H' a=some o):∀ {vs:List V} {ds:List PyData},AU H vs ds->AU H' vs ds
 | _,_,.nil=>.nil
 | _,_,.cons x r=>.cons (F8.mono s x) (AU.mono s r)
end
theorem F8.same {H H':Hp} {v:V} {d:PyData} (h:F8 H v d) (s:Ar H H'):F8 H' v d:=h.mono fun a o e _=>s a o e
mutual
theorem F8.reads {X:Cx} {pins:List cr} {σ:St} {H:Hp} {s:Shared} (I:Aq X pins σ H s):∀ {v:V} {d:PyData} {u:Value},F8 H v d->AA v u->∃ as,Reads s.heap u d as
 | _,_,_,.non,r=>by cases r; exact ⟨_,.none⟩
 | _,_,_,.bl b,r=>by cases r; exact ⟨_,.bool b⟩
 | _,_,_,.int i,r=>by obtain ⟨t,rfl⟩:=r; exact ⟨_,.int i t⟩
 | _,_,_,.str x,r=>by obtain ⟨t,rfl⟩:=r; exact ⟨_,.str x t⟩
 | _,_,_,.tup (a:=a) e m,r=>by
  cases r
  obtain ⟨_,As,rv,⟨o,ho,hc,n,hd⟩,_⟩:=(show AE X.prog X.w H s.heap a (.tup _) from I.hok a _ e)
  obtain ⟨as,q⟩:=AU.reads I m rv;exact ⟨_,.tuple ho hc hd (by simpa using q)⟩
 | _,_,_,.lst (a:=a) e m,r=>by
  cases r
  obtain ⟨_,As,n,rv,ho⟩:=(show AE X.prog X.w H s.heap a (.lst _) from I.hok a _ e)
  obtain ⟨as,q⟩:=AU.reads I m rv;exact ⟨_,.list ho rfl rfl (by simpa using q)⟩
theorem AU.reads {X:Cx} {pins:List cr} {σ:St} {H:Hp} {s:Shared} (I:Aq X pins σ H s):∀ {vs:List V} {ds:List PyData} {us:List Value},AU H vs ds->A9 vs us->∃ as,ReadsAll s.heap us ds as
 | _,_,_,.nil,r=>by cases r; exact ⟨_,.nil⟩
 | _,_,_,.cons x m,r=>by
  cases r with
  | cons r1 r2=>
   obtain ⟨as,q1⟩:=F8.reads I x r1;obtain ⟨bs,q2⟩:=AU.reads I m r2;exact ⟨_,.cons q1 q2⟩
end
theorem PY {X:Cx} (hu:X.A.units + 64 < cLine):E9 X (compareOp .Eq) (fun x y H Q=>∃ d e,F8 H x d/\F8 H y e/\d.canLay0=true/\e.canLay0=true/\d.depth<=60/\Q (.bl (PyData.eqv d e)) H):=by
 intro pins s σ H x y v u Q I rx ry h;obtain ⟨d,e,h1,h2,c1,c2,hd,q⟩:=h;obtain ⟨as,r1⟩:=h1.reads I rx;obtain ⟨bs,r2⟩:=h2.reads I ry;exact SeqAt.compareEq_reads r1 r2 c1 c2 (by have:=cu d.depth e.depth; lia) ⟨.bl _,H,I,rfl,q⟩
theorem PV {X:Cx} (hu:X.A.units + 64 < cLine):E9 X (compareOp .NotEq) (fun x y H Q=>∃ d e,F8 H x d/\F8 H y e/\d.canLay0=true/\e.canLay0=true/\d.depth<=60/\Q (.bl (!PyData.eqv d e)) H):=by
 intro pins s σ H x y v u Q I rx ry h;obtain ⟨d,e,h1,h2,c1,c2,hd,q⟩:=h;obtain ⟨as,r1⟩:=h1.reads I rx;obtain ⟨bs,r2⟩:=h2.reads I ry;exact SeqAt.compareNe_reads r1 r2 c1 c2 (by have:=cu d.depth e.depth; lia) ⟨.bl _,H,I,rfl,q⟩
theorem Jd (z:Str) (xs:List Str):inV (.str z) ik=decide (z ∈ xs):=by
 unfold inV;induction xs with
 | nil=>simp
 | cons x xs ih=>
  rw [ag,cJ,ih];have e:Uk (.str x) (.str z)=decide (z=x):=by
   show (x == z)=_
   by_cases h:z=x
   ·subst h; simp
   ·have h':¬ x=z:=fun q=>h q.symm
    rw [decide_eq_false h];exact beq_eq_false_iff_ne.mpr h'
  rw [e];by_cases h:z=x
  ·simp [h]
  ·by_cases h2:z ∈ xs <;> simp [h,h2]
theorem GO (xs:List Str):(xs.map V.str).all EM=true:=by
 rw [dY];exact bH.mpr fun _ _=>rfl
def Bl (p:Addr) (H H':Hp):Prop:=∀ b o,b ≠ p->H b=some o->H' b=some o
theorem Bl.trans {p:Addr} {H H1 H2:Hp} (a:Bl p H H1) (b:Bl p H1 H2):Bl p H H2:=fun c o n e=>b c o n (a c o n e)
theorem Bl.of_same {p:Addr} {H H':Hp} (s:Ar H H'):Bl p H H':=fun b o _ e=>s b o e
theorem Bl.upd {p:Addr} {H:Hp} {o:HO}:Bl p H (L2.upd H p o):=fun b u n e=>by rw [Af n]; exact e
def NC (K:ZP) (H:Hp) (a:Addr) (xs:List V):Prop:=(∃ ob,H a=some (.frz ob (.lst xs)))\/∃ o As n,List.lookup a K=some o/\o.cls=Value.type "list"/\o.dict=none/\o.data=Data.seq As n/\As.size<=sizeLine/\A9 xs As.toList
theorem NC.sq {K:ZP} {H:Hp} {a:Addr} {xs:List V} (h:NC K H a xs):AB K H a xs:=by
 rcases h with ⟨ob,h⟩ | h
 ·exact .inl (.inr ⟨ob,h⟩)
 ·exact .inr h
theorem NC.same {K:ZP} {H H':Hp} {a:Addr} {xs:List V} (h:NC K H a xs) (s:Ar H H'):NC K H' a xs:=by
 rcases h with ⟨ob,h⟩ | h
 ·exact .inl ⟨ob,s _ _ h⟩
 ·exact .inr h
theorem S5 {α:Type} {l:List α} {i:Int} {c:α} (h:J3 l i=some c):c ∈ l:=by
 obtain ⟨j,_,h2,_⟩:=Ij h;exact ZS h2
abbrev Gu:Str:="abcdefghijklmnopqrstuvwxyz"
theorem Hv:∀ c ∈ Gu.cps.toList,Gr c=true:=by decide +kernel
def Ux (z:Str):Prop:=∀ c ∈ z.cps.toList,Gr c=true
theorem RW {z:Str} (h1:1<=z.length) (h2:z.length<=6) (h:Ux z):Bq z=true:=by
 unfold Bq;rw [decide_eq_true h1,decide_eq_true h2,bH.mpr h];rfl
theorem Nn {z:Str} (h:Bq z=true):1<=z.length/\z.length<=6/\Ux z:=by
 unfold Bq at h;rw [aV,aV,decide_eq_true_eq,decide_eq_true_eq,bH] at h;exact ⟨h.1.1,h.1.2,h.2⟩
theorem Cq {α:Type} [BEq α] [LawfulBEq α]:∀ {l xs:List α},l.Nodup->(∀ x ∈ l,x ∈ xs)->l.length<=xs.length
 | [],_,_,_=>aJ _
 | a :: l,xs,hn,hs=>by
  have ha:=hs a aj;have Ye:=aD.mp hn;have:=Cq (l:=l) (xs:=xs.erase a) Ye.2 fun x hx=>(fh (show x ≠ a from fun e=>Ye.1 (by rw [<-e]; exact hx))).mpr (hs x (ay _ hx))
  rw [List.length_erase_of_mem ha] at this;have:0 < xs.length:=List.length_pos_of_mem ha;rw [aB];lia
theorem C2 (H:Hp):∀ xs:List Str,AU H ik (xs.map .str)
 | []=>.nil
 | x :: xs=>.cons (.str x) (C2 H xs)
theorem Dr:∀ {xs:List Str},(∀ x ∈ xs,Bq x=true)->PyData.canLayAll0 (xs.map .str)=true
 | [],_=>rfl
 | x :: xs,h=>by
  show (PyData.strOk x && PyData.canLayAll0 (xs.map .str))=true
  rw [Dr fun y hy=>h y (ay _ hy),dN];obtain ⟨_,_,lo⟩:=Nn (h x aj);unfold PyData.strOk;rw [Array.all_eq_true_iff_forall_mem];intro c hc;have:=lo c (by simpa using hc);unfold Gr at this;rw [aV,decide_eq_true_eq,decide_eq_true_eq] at this;rw [decide_eq_true_eq];lia
theorem Eo:∀ xs:List Str,PyData.depthAll (xs.map .str)=0
 | []=>rfl
 | x :: xs=>by
  show max 0 (PyData.depthAll (xs.map .str))=0
  rw [Eo xs];rfl
def Nr:Stmt->List Stmt
 | .If _ b _ _=>b
 | _=>[]
theorem Cc.caught {X:Cx} {scope:Scope} {cl:List io} (clos:closureFor scope X.env=pure cl) (hcell:∀ y ∈ scope.names,y.2 ≠ .cell) (hkind:scope.kind=.function)
  (hnames:∀ y ∈ scope.names,y.2=.local->scope.names.lookup y.1=some .local) (hcl:∀ y ∈ cl,X.env.cells.lookup y.1=some y.2)
  (hfr:∀ y ∈ scope.names,y.2=.free->∃ c,cl.lookup y.1=some c):Cc X scope cl:=by
 refine ⟨clos,hcell,hkind,hnames,fun x c h=>hcl _ (Dq h),fun x h=>?_⟩;have key:∀ k,(relabel scope X.env).names.lookup x=some k->k=.cell\/k=.free->∃ c,cl.lookup x=some c:=by
  intro k e hk;have m:=Dq e;obtain ⟨⟨n,k'⟩,hm,e'⟩:=ZR.mp m;dsimp only at e';by_cases hf:k'=.free
  ·subst hf;have en:n=x:=by
    by_cases hc:(NameKind.free == NameKind.free && X.env.scope.kind == .function && X.env.kindOf n == some .cell)=true
    ·rw [if_pos hc] at e';injection e'
    ·rw [if_neg hc] at e';injection e'
   subst en;exact hfr _ hm rfl
  ·have:(k' == NameKind.free)=false:=by
    cases k' <;> first | rfl | exact absurd rfl hf
   rw [this] at e';simp at e';rcases hk with hk | hk
   ·exact absurd (e'.2.trans hk) (hcell _ hm)
   ·exact absurd (e'.2.trans hk) hf
 rcases h with h | h
 ·exact key _ h (.inl rfl)
 ·exact key _ h (.inr rfl)
theorem C3.of {X:Cx} {cl:List io} {scope:Scope} {N:List Str} {σ:St} (js:List (Option Nat)) (hl:js.length=N.length)
  (h:∀ (i j:Nat) (x:Str),N[i]? = some x->js[i]? = some (some j)->X.N[j]? = some x/\(X.env.kindOf x=some .cell\/X.env.kindOf x=some .free)/\gR) :
  C3 X cl scope N σ (js.map fun j=>j.bind fun j=>(σ[j]?).join):=by
 refine ⟨by rw [ZM,hl],fun i x v h1 h2=>?_⟩;rw [ZV] at h2;cases e:js[i]? with
 | none=>rw [e] at h2; cases h2
 | some o=>
  rw [e] at h2;cases o with
  | none=>cases h2
  | some j=>
   obtain ⟨a,b,c⟩:=h i j x h1 e;refine ⟨⟨j,a,?_⟩,b,c⟩;have h3:(σ[j]?).join=some v:=ar.inj h2;cases e2:σ[j]? with
   | none=>rw [e2] at h3; cases h3
   | some o=>
    rw [e2] at h3;have:o=some v:=h3;rw [this]
abbrev AG:=Str × Str × Int
def G9 (u:AG):PyData:=.tuple [.str u.1,.str u.2.1,.int u.2.2]
def Ea (u v:AG):Prop:=(u.1=v.1/\u.2.1=v.2.1)\/(u.1=v.2.1/\u.2.1=v.1)
structure HX (xs:List Str) (k:Nat) (ws:List AG):Prop where
 of:∀ u ∈ ws,∃ i j:Nat,i < j/\j < k/\xs[i]? = some u.1/\xs[j]? = some u.2.1/\1<=u.2.2
 sep:ws.Pairwise fun u v=>¬ Ea u v
 to:∀ j,0 < j->j < k->∃ u ∈ ws,∃ i:Nat,i < j/\xs[i]? = some u.1/\xs[j]? = some u.2.1
 len:2 * ws.length<=k * (k - 1)
structure Wl (xs:List Str) (ws:List AG):Prop where
 of:∀ u ∈ ws,u.1 ∈ xs/\u.2.1 ∈ xs/\u.1 ≠ u.2.1/\1<=u.2.2
 sep:ws.Pairwise fun u v=>¬ Ea u v
 to:∀ j,0 < j->j < xs.length->∃ u ∈ ws,∃ i:Nat,i < j/\xs[i]? = some u.1/\xs[j]? = some u.2.1
 len:2 * ws.length<=xs.length * (xs.length - 1) + 10
theorem FE {xs:List Str} (h:xs.Nodup) {i j:Nat} {x:Str} (a:xs[i]? = some x) (b:xs[j]? = some x):i=j:=IP h a b
theorem HX.nil (xs:List Str):HX xs 1 []:=⟨(fun _ h=>nomatch h),List.Pairwise.nil,(fun j h1 h2=>by lia),bi⟩
theorem HX.more {xs:List Str} {k:Nat} {ws us:List AG} (hn:xs.Nodup) (h:HX xs k ws) (hk:k < xs.length) (js:List Nat) (hj:js.Nodup) (B0:∀ j ∈ js,j < k) (h0:js ≠ [])
  (hl:us.length=js.length) (hu:∀ (q:Nat) (u:AG) (j:Nat),us[q]? = some u->js[q]? = some j->xs[j]? = some u.1/\xs[k]? = some u.2.1/\1<=u.2.2):HX xs (k + 1) (ws ++ us):=by
 have at_:∀ u ∈ us,∃ (q j:Nat),us[q]? = some u/\js[q]? = some j/\j < k/\xs[j]? = some u.1/\xs[k]? = some u.2.1/\1<=u.2.2:=by
  intro u hm;obtain ⟨q,hq,e⟩:=aq hm;have e1:us[q]? = some u:=by rw [ZN hq,e]
  have e2:js[q]? = some js[q]:=ZN ad;obtain ⟨a,b,c⟩:=hu q u _ e1 e2;exact ⟨q,_,e1,e2,B0 _ (bh _),a,b,c⟩
 exists ?_,?_,?_
 ·intro u hm;rcases ak.mp hm with hm | hm
  ·obtain ⟨i,j,a,b,c⟩:=h.of u hm;exact ⟨i,j,a,by lia,c⟩
  ·obtain ⟨q,j,_,_,a,b,c,d⟩:=at_ u hm;exact ⟨j,k,a,by lia,b,c,d⟩
 ·rw [dA];exists h.sep,?_
  ·rw [bz];intro q r hq hr hqr al;have a1:=hu q us[q] js[q] (ZN hq) (ZN ad);have a2:=hu r us[r] js[r] (ZN hr) (ZN ad);have l1:=B0 js[q] (bh _);have l2:=B0 js[r] (bh _);rcases al with ⟨e1,_⟩ | ⟨e1,_⟩
   ·have a3:=a1.1;rw [e1] at a3;have ej:=FE hn a3 a2.1;exact absurd ((cG hj).mp ej) ad
   ·have a3:=a1.1;rw [e1] at a3;have ej:=FE hn a3 a2.2.1;lia
  ·intro u Yd v hv al;obtain ⟨i,j,hij,hjk,e1,e2,_⟩:=h.of u Yd;obtain ⟨q,m,_,_,hm,e3,e4,_⟩:=at_ v hv;rcases al with ⟨_,z⟩ | ⟨z,_⟩
   ·rw [z] at e2;have:=FE hn e2 e4;lia
   ·rw [z] at e1;have:=FE hn e1 e4;lia
 ·intro j h1 h2;by_cases e:j=k
  ·subst e;cases us with
   | nil=>
    cases js with
    | nil=>exact absurd rfl h0
    | cons _ _=>cases hl
   | cons u us=>
    obtain ⟨q,m,_,_,hm,e3,e4,_⟩:=at_ u aj;exact ⟨u,ae _ aj,m,hm,e3,e4⟩
  ·obtain ⟨u,hm,i,a,b⟩:=h.to j h1 ad;exact ⟨u,bx _ hm,i,a,b⟩
 ·have:=h.len;have hjl:js.length<=k:=by
   have:=Cq (l:=js) (xs:=bD k) hj fun j hm=>bo.mpr (B0 j hm)
   rwa [bF] at this
  rw [ZQ,hl];show 2 * (ws.length + js.length)<=(k + 1) * (k + 1 - 1)
  rw [fU];have e:(k + 1) * k=k * (k - 1) + 2 * k:=by
   cases k with
   | zero=>rfl
   | succ k=>
    rw [fU];simp only [gC,Nat.mul_succ,gH,Nat.mul_add];lia
  lia
theorem HX.ways {xs:List Str} {ws:List AG} (hn:xs.Nodup) (h:HX xs xs.length ws):Wl xs ws:=by
 refine ⟨fun u hm=>?_,h.sep,h.to,by have:=h.len; lia⟩;obtain ⟨i,j,a,b,c,d,e⟩:=h.of u hm;refine ⟨ZS c,ZS d,fun z=>?_,e⟩;rw [z] at c;have:=FE hn c d;lia
def Fb (xs:List Str) (ws:List AG):Prop:=(∀ u ∈ ws,u.1 ∈ xs/\u.2.1 ∈ xs/\u.1 ≠ u.2.1/\1<=u.2.2)/\(ws.Pairwise fun u v=>¬ Ea u v) /\
 ∀ j,0 < j->j < xs.length->∃ u ∈ ws,∃ i:Nat,i < j/\xs[i]? = some u.1/\xs[j]? = some u.2.1
theorem Wl.c {xs:List Str} {ws:List AG} (h:Wl xs ws):Fb xs ws:=⟨h.of,h.sep,h.to⟩
theorem Fb.snoc {xs:List Str} {ws:List AG} {x y:Str} {n:Int} (h:Fb xs ws) (hx:x ∈ xs) (hy:y ∈ xs) (ne:x ≠ y) (hn:1<=n) (no:∀ u ∈ ws,¬ ((x=u.1\/x=u.2.1)/\(y=u.1\/y=u.2.1))):Fb xs (ws ++ [(x,y,n)]):=by
 refine ⟨fun u hu=>?_,?_,fun j h1 h2=>?_⟩
 ·rcases ak.mp hu with hu | hu
  ·exact h.1 u hu
  ·rw [aa.mp hu]; exact ⟨hx,hy,ne,hn⟩
 ·rw [dA];refine ⟨h.2.1,bC _ _,fun u hu v hv al=>?_⟩;rw [aa.mp hv] at al;refine no u hu ?_;rcases al with ⟨e1,e2⟩ | ⟨e1,e2⟩
  ·exact ⟨.inl e1.symm,.inr e2.symm⟩
  ·exact ⟨.inr e2.symm,.inl e1.symm⟩
 ·obtain ⟨u,hu,r⟩:=h.2.2 j h1 h2;exact ⟨u,bx _ hu,r⟩
theorem Jn {H:Hp}:∀ {vs:List V} {ds:List PyData},AU H vs ds->vs.length=ds.length
 | _,_,.nil=>rfl
 | _,_,.cons _ r=>by rw [aB,aB,Jn r]
theorem Gx {H:Hp}:∀ {vs:List V} {ws:List AG} {i:Nat} {x:V},AU H vs (ws.map G9)->vs[i]? = some x->∃ u t,ws[i]? = some u/\x=.ref t/\H t=some (.tup [.str u.1,.str u.2.1,.int u.2.2])
 | _,[],i,x,.nil,e=>by cases e
 | _,u :: ws,0,x,.cons (v:=v) h _,e=>by
  have e':v=x:=by simpa using e
  subst e';cases h with
  | tup ha hd=>
   exists u,_,rfl,rfl;cases hd with
   | cons h1 r1=>
    cases r1 with
    | cons h2 r2=>
     cases r2 with
     | cons h3 r3=>
      cases r3
      cases h1
      cases h2
      cases h3
      exact ha
 | _,u :: ws,i + 1,x,.cons _ r,e=>by
  obtain ⟨u',t,a,b⟩:=Gx (i:=i) (x:=x) r (by simpa using e);exact ⟨u',t,by simpa using a,b⟩
theorem DX {H:Hp}:∀ {vs:List V} {ds:List PyData} {v:V} {d:PyData},AU H vs ds->F8 H v d->AU H (vs ++ [v]) (ds ++ [d])
 | _,_,_,_,.nil,h=>.cons h .nil
 | _,_,_,_,.cons a r,h=>.cons a (DX r h)
theorem Jo {H:Hp}:∀ {vs us:List V} {ds es:List PyData},AU H vs ds->AU H us es->AU H (vs ++ us) (ds ++ es)
 | _,_,_,_,.nil,h=>h
 | _,_,_,_,.cons a r,h=>.cons a (Jo r h)
theorem A3 (K:ZP) {X:Cx} (h:X.K=K):W9 X (rIxL K):=by subst h; exact OB
theorem AX (K:ZP) {X:Cx} (h:X.K=K):W9 X (rIxT K):=by subst h; exact Sf
theorem V9 (K:ZP) {X:Cx} (h:X.K=K):E9 X (compareOp .In) (rIn K false):=by subst h; exact PX
theorem BD (K:ZP) {X:Cx} (h:X.K=K) {es:List Expr} {k:Nat} {t:Va} {n:Nat} {pos:Pos} (hc:X.calm=true) (ht:PGs X es t)
  (hn:(assignEach es X.env).length=n:=by rfl) (hst:(assignEach es X.env).findIdx? (·.1)=none:=by rfl):PG X (.Tuple es k pos) (gTup K n t):=by subst h; exact V5 hc ht hn hst
end L2
namespace L2
open PySem PySem.W PyProof.Rows
section
variable {n:Nat} (hn:0 < n)
include hn
end
end L2
set_option maxHeartbeats 4000000
namespace L2
open PySem PySem.Spec PyProof.Rows PySem.W
theorem AE.there {P:Program} {w:World} {H:Hp} {h:Heap} {a:Addr} {o:HO} (x:AE P w H h a o):∃ ob,h.get? a=some ob:=by
 cases o with
 | lst xs=>obtain ⟨_,_,_,_,e⟩:=x; exact ⟨_,e⟩
 | tup xs=>obtain ⟨_,_,_,⟨ob,e,_⟩,_⟩:=x; exact ⟨ob,e⟩
 | dK kvs=>obtain ⟨_,_,_,_,o,_,_,e,_⟩:=x; exact ⟨o,e⟩
 | dT kvs=>obtain ⟨_,_,_,_,o,_,_,e,_⟩:=x; exact ⟨o,e⟩
 | set S n=>obtain ⟨o,_,_,_,e,_⟩:=x; exact ⟨o,e⟩
 | ins C dx fs=>obtain ⟨_,_,_,e,_⟩:=x; exact ⟨_,e⟩
 | own y=>exact x
 | xd fs=>obtain ⟨_,⟨_,_,_,e,_⟩,_⟩:=x; exact ⟨_,e⟩
 | rng lo hi=>obtain ⟨_,_,_,e⟩:=x; exact ⟨_,e⟩
 | frz ob u=>obtain ⟨e,_⟩:=x; exact ⟨_,e⟩
 | tbl ps=>exact ⟨_,(show h.get? a=some _ from x)⟩
 | met f y=>exact ⟨_,(show h.get? a=some _ from x)⟩
 | ext φ=>obtain ⟨_,⟨_,e⟩,_⟩:=x; exact ⟨_,e⟩
theorem Aq.laidF {X:Cx} {pins:List cr} {σ:St} {H:Hp} {s:Shared} {h2:Heap} {D:Addr} {o:HO} {m:Str->Option Value} (I:Aq X pins σ H s)
  (hl:s.heap.Ns X.env.locals m/\∀ (i:Nat) (x:Str) (v:V),X.N[i]? = some x->σ[i]? = some (some v)->Vis X.env.scope x->∃ u,AA v u/\Look X.env s.heap m x u) (hn:h2.Ns X.env.locals m)
  (kp:∀ b ob,b ≠ X.env.locals->s.heap.get? b=some ob->h2.get? b=some ob) (hD:s.heap.get? D=none) (hDL:D ≠ X.env.locals) (new:AE X.prog X.w (upd H D o) h2 D o):Aq X pins σ (upd H D o) { s with heap:=h2 }:=by
 have fD:H D=none:=by
  cases z:H D with
  | none=>rfl
  | some u=>
   obtain ⟨ob,e⟩:=AE.there (I.hok D u z);rw [hD] at e;cases e
 have neL:∀ b ob,X.s₀.heap.get? b=some ob->b ≠ X.env.locals:=fun b ob e=>ab (af (ZW e) I.ok.above)
 have neD:∀ b ob,s.heap.get? b=some ob->b ≠ D:=fun b ob e z=>by rw [z,hD] at e; cases e
 have cellK:∀ x c,X.env.cells.lookup x=some c->∀ v,s.heap.IsCell c v->h2.IsCell c v:=fun x c e v ⟨ob,ho,hd⟩=>⟨ob,kp c ob (I.cne x c e) ho,hd⟩
 refine ⟨I.ok,I.os,I.bare,⟨?_,?_,?_,?_,?_,?_,?_⟩,⟨m,hn,?_⟩,?_,?_,?_,?_,?_,I.len⟩
 ·exact fun b ob e n hb hx=>kp b ob (neL b ob e) (I.base.keep b ob e n hb hx)
 ·intro b ob e n hb hx;obtain ⟨sl,q⟩:=I.base.slot b ob e n hb hx;exact ⟨sl,kp b _ (neL b ob e) q⟩
 ·intro b ob e n hx;obtain ⟨XY,q⟩:=I.base.there b ob e hx;rw [Af (neD b XY q)];exact I.base.free b ob e n hx
 ·intro b ob e hx;obtain ⟨XY,q⟩:=I.base.there b ob e hx;exact ⟨XY,kp b XY (neL b ob e) q⟩
 ·intro b xs e;have q:=I.base.tups b xs e;rw [Af (Ai q fD)];exact q
 ·intro b ob u e;have q:=I.base.frzs b ob u e;rw [Af (Ai q fD)];exact q
 ·intro b ps e;obtain ⟨more,q⟩:=I.base.tbls b ps e;exact ⟨more,by rw [Af (Ai q fD)]; exact q⟩
 ·intro i x v e1 e2 e3;obtain ⟨u,r,l⟩:=hl.2 i x v e1 e2 e3;exists u,r;rcases l with l | ⟨k,c,e,z⟩
  ·exact .inl l
  ·exact .inr ⟨k,c,e,cellK x c e _ z⟩
 ·intro x c e;obtain ⟨v,z⟩:=I.cell x c e;exact ⟨v,cellK x c e v z⟩
 ·rw [Af (Ne.symm hDL)];exact I.free
 ·intro x c e;obtain ⟨v,ob,ho,_⟩:=I.cell x c e;rw [Af (neD c ob ho)];exact I.freeC x c e
 ·intro p hp;obtain ⟨e,n,ne,nf,d⟩:=I.pin p hp;exact ⟨kp _ _ ne e,by rw [Af (neD _ _ e)]; exact n,ne,nf,d⟩
 ·intro b u e;by_cases hb:b=D
  ·subst hb;rw [Ab] at e;cases e
   exact new
  ·rw [Af hb] at e;refine (I.hok b u e).stay (fun c v hc q=>kp c v ?_ q) (fun c q=>by rw [Af (Ai q fD)]; exact q) fun c xs q=>by rw [Af (Ai q fD)]; exact q
   rintro rfl;rcases hc with rfl | hc
   ·rw [I.free] at e; cases e
   ·rw [I.free] at hc; cases hc
end L2
namespace L2
open PySem PySem.Spec PyProof.Rows
section
variable {prog:Program} {w:World} {A:Around} {E:Value->Shared->Prop} {s:Shared}
end
def AY (a b:Str):Str:=if b.cps.toList < a.cps.toList then b else a
def AZ (a b:Str):Str:=if a.cps.toList < b.cps.toList then b else a
theorem NX {ss:List Str}:∀ {us:List Value},A9 ic us->StrsAre us ss:=by
 induction ss with
 | nil=>intro us r; cases r; exact .nil
 | cons x ss ih=>
  intro us r;cases r with
  | cons r1 r2=>
   obtain ⟨t,rfl⟩:=r1;exact .cons x t (ih r2)
theorem Ie:∀ {us:List Value} {ss:List Str},StrsAre us ss->A9 ic us
 | _,_,.nil=>.nil
 | _,_,.cons x t r=>.cons ⟨t,rfl⟩ (Ie r)
theorem Ci {X:Cx}:Bo X iJ (fun xs H Q=>∃ (a:Addr) (ss:List Str),xs=[.ref a]/\AB X.K H a ic/\ss.length < 64 /\
  ∀ (l:Addr) (Cm:List Str),H l=none->Cm.Perm ss->sortedS Cm=true->Q (.ref l) (upd H l iD)):=by
 intro pins s σ H xs us Q I r h;obtain ⟨a,ss,rfl,ha,Hz,q⟩:=h;obtain ⟨u,rfl,ru⟩:=BV r;cases ru
 obtain ⟨As,rv,pl,hz⟩:=I.list ha;have hl:As.length=ss.length:=by rw [<-rv.length,ZM]
 refine sorted_strs pl.isList (NX rv) ad fun out Cm h1 h2 h3=>?_
 obtain ⟨e,he⟩:=sortedAll_at s.heap As out;refine ⟨.ref (s.heap.objs.size + 1),_,I.laid (o:=.lst (Cm.map V.str)) (t':=s.toks) (fun b o z=>sortedAll_old z) (aL _) ⟨?_,out.toList,e,Ie h1,by simpa using he⟩,rfl,q _ Cm (I.hok.fresh (aL _)) h2 h3⟩;rw [ZM,h2.length_eq];have:100 < sizeLine:=by decide
 lia
section
variable {prog:Program} {w:World} {A:Around} {E:Value->Shared->Prop} {s:Shared}
end
def E7 (u:AG):AG:=(AY u.1 u.2.1,AZ u.1 u.2.1,u.2.2)
theorem Q0 {H:Hp} {vs E5:List V} (p:E5.Perm vs):∀ {ws:List AG},AU H vs (ws.map G9)->∃ M9:List AG,AU H E5 (M9.map G9)/\M9.Perm ws:=by
 induction p with
 | nil=>intro ws h; exact ⟨ws,h,.refl _⟩
 | cons x p ih=>
  intro ws h;cases ws with
  | nil=>cases h
  | cons u ws=>
   cases h with
   | cons h1 h2=>
    obtain ⟨M9,a,b⟩:=ih h2;exact ⟨u :: M9,.cons h1 a,b.cons u⟩
 | swap x y l=>
  intro ws h;cases ws with
  | nil=>cases h
  | cons u ws=>
   cases h with
   | cons h1 h2=>
    cases ws with
    | nil=>cases h2
    | cons v ws=>
     cases h2 with
     | cons h3 h4=>exact ⟨v :: u :: ws,.cons h3 (.cons h1 h4),.swap u v ws⟩
 | trans p1 p2 Si Sh=>
  intro ws h;obtain ⟨ws1,a1,b1⟩:=Sh h;obtain ⟨ws2,a2,b2⟩:=Si a1;exact ⟨ws2,a2,b2.trans b1⟩
theorem Gk {X:Cx} {ix:Nat} {x:Str} {px spos:Pos} {tg iter elt:Expr} {ifs:List Expr} {scope:Scope} {cl:List io} {N:List Str} {pos:Pos} {wi:TI} {g:TG} {tt:TT} {te:TE} {σ0:St->St} (hN:X.N.Nodup) (hix:X.N[ix]? = some x) (hlx:Wo X.env.scope x) (hc:X.calm=true) (co:Cc X scope cl)
  (hσ:∀ σ,σ.length=X.N.length->C3 X cl scope N σ (σ0 σ)) (hi:PI X tg iter wi)
  (hb:∀ s2 H C fp,PG gN tg g/\Vc gN ifs tt/\PE gN elt te)
  (hsw:swapsWith gZ (some (.Name x px)) spos.line X.env=pure true:=by rfl)
  (hs:∀ x,foldedSetIterable iter X.env x=pure x:=by intro _; rfl) (hf:X.fn x=true\/X.env.scope.names.lookup x=some .local:=by first | exact .inl rfl | exact .inr rfl | assumption) :
  PS X (.Assign [.Name x px] gZ spos) (QX (NV wi g tt te σ0) (K0 ix)):=by
 intro pins s σ H DD I h;rw [exec_Assign_Name_used _ _ _ _ hsw];refine wpAny_bind (wpAny_standAt (wpAny_bind ?_));show wpAny _ X.A (do let _ <- comprehension gZ scope X.env _ (newList []) false (eval iter X.env) (some (assign (.Name x px) X.env))) _ _ s
 refine wpAny_bind (wpAny_mono (wpAny_comprehension_free (use:=some (assign (.Name x px) X.env)) (Q:=fun _ s'=>SP X pins DD .next s') rfl hs co.clos co.kind co.names
  (wpAny_mono (hi (pins:=pins) s σ H _ I h) im fun _ _ e=>e)) (fun _ s' hq=>wpAny_pure (wpAny_pure hq)) fun _ _ e=>e)
 obtain ⟨it,fp,tn,J,H2,rfl,I2,T,Fs,f2,hW⟩:=h2;refine wpAny_newObj_type h7;dsimp only at B9 Bt ⊢;generalize Je:s2.heap.push { cls:=.type "list",dict:=none,data:=.seq ([]:List Value).toArray } = HH at B9 Bt ⊢;have B7:HH.objs.size=s2.heap.objs.size + 1:=by rw [<-Je,aT]
 have old:∀ b o,s2.heap.get? b=some o->h₁.get? b=some o:=fun b o e=>
  Bt.extBut b o (ab (by rw [B7]; exact aA (ZW e))) (ZO _ (Je ▸ ZO _ e))
 have newD:∃ n,h₁.get? s2.heap.objs.size=some { cls:=.type "list",data:=.seq ([]:List Value).toArray n }:=
  ⟨_,Bt.extBut _ _ (ab (by rw [B7]; exact aK _)) (ZO _ (Je ▸ ZX _ rfl))⟩
 obtain ⟨W,⟨m0,w0⟩,turn⟩:=hW s2.heap.objs.size I2.fresh;have hfo:∀ b ∈ fp,∃ o,s2.heap.get? b=some o:=fun b hb=>let ⟨o,e,_⟩:=T.obj _ _ Fs b hb; ⟨o,e⟩
 have I3:Aq be [] (σ0 σ) (upd H2 s2.heap.objs.size iF) { s2 with heap:=h₁,toks:=s2.toks + ([]:List (Str × Value)).length }:=
  Jp I2 f2 hfo co (hσ σ I.len) old (ZU _) (by rw [B7]; exact aL _) (bj (by rw [B7]; exact aK _)) (.inr newD) B9
 have fC:s2.heap.objs.size<=HH.objs.size:=by rw [B7]; exact aL _
 obtain ⟨hg,ht,he⟩:=hb s2 H2 HH.objs.size fp;have loop:∀ Cd:Shared,Cd = { s2 with heap:=h₁,toks:=s2.toks + ([]:List (Str × Value)).length } ->
   codeAny dL X.A (.compLoop gZ 0 (.ref it) gW (compEnvC scope cl HH.objs.size X.env))
    (compPost dL X.A X.xe (some (assign (.Name x px) X.env)) (fun _ s'=>SP X pins DD .next s') gW HH.objs.size) Cd:=by
  rintro Cd rfl;have stat:∀ {H':Hp} ,gT->∀ b ∈ fp,Ew be [] H' b:=fun hn b hb=>by
   refine iA
   ·obtain ⟨o,e⟩:=hfo b hb;exact ab iE
   ·intro hz;obtain ⟨_,q1,q2,_⟩:=f2 b hb;rcases ZZ.mp (I2.stkSub b hz) with e | e
    ·exact q1 e
    ·exact q2 e
   ·exact fun x c e=>(f2 b hb).2.2.2.2.1 x c (co.sub x c e)
  refine Ca (fun n s'=>∃ i A2 H',Aq be [] A2 H' s'/\tn i s'.heap/\gT/\W i n A2 H') ?_ m0
   ⟨0,σ0 σ,_,I3,T.keep _ _ _ Fs fun b hb o e=>old b o e,fun b hb=>?_,w0⟩
  ·rintro n s4 ⟨i,FV,H4,I4,LG,Mq,w4⟩;rcases turn i n FV H4 w4 with ⟨stop,qn⟩ | ⟨go,step⟩
   ·refine wpAny_mono (T.done be rfl rfl rfl hc i [] s4 FV H4 (fun _ _=>False) I4 (stat Mq) LG stop) (fun r s5 ⟨hr,I5⟩=>?_) fun _ _ z=>z.elim
    subst hr;obtain ⟨m5,Sl,_⟩:=id I5.loc;have I6:Aq X pins σ H4 s5:=EX (h':=s5.heap) I2 f2 fC I5 (Heap.SameBut.refl _ _);have cC:∀ y c,X.env.cells.lookup y=some c->c ≠ HH.objs.size:=fun y c e=>by
     obtain ⟨v,q⟩:=I2.cell y c e;exact ab (af q.lt fC)
    have lC:X.env.locals ≠ HH.objs.size:=ab (af I2.lt fC);show wpAny _ X.A (assign (.Name x px) X.env gW) _ X.xe s5
    refine wpAny_assign_Name (Fg I6 hN hix hlx (v:=.ref s2.heap.objs.size) rfl (fun s7 I7 ⟨a,sb,ha⟩=>?_) hf);have aC:a ≠ HH.objs.size:=by
     rcases ha with rfl | ha
     ·exact lC
     ·exact cC _ _ ha
    refine ⟨m5,Sl.sameBut sb (Ne.symm aC),fun h' Kw=>⟨_,H4,?_,qn⟩⟩;exact I7.turned (t':=s7.toks) (it:=HH.objs.size) (fun b o hb e=>(Kw.2 b hb).trans e) I5.free (Ne.symm lC) (.inr (az I2.sz fC)) cC fun p hp z=>by
     have e:=(I2.pin p hp).1;exact absurd (af (ZW e) fC) (by rw [z]; exact ba _)
   ·refine wpAny_mono (T.item be rfl rfl rfl hc i [] s4 FV H4 (fun _ _=>False) I4 (stat Mq) LG go) (fun r s5 ⟨u,hr,h5⟩=>?_) fun _ _ z=>z.elim
    subst hr;refine wpAny_mono h5 (fun _ s6 ⟨x,H6,I6,r6,y6,Im,Sx⟩=>?_) fun _ _ z=>z.elim
    have SG:=I6.pinned (stat Sx) (T.obj _ _ Im);refine wpAny_mono (hg s6 FV H6 x u _ SG r6 (step x H6 y6)) (fun _ s7 ⟨Ex,H7,I7,q7⟩=>?_) fun _ _ z=>z.elim
    refine wpAny_mono (ht s7 Ex H7 _ I7 q7) (fun ok s8 ⟨H8,I8,q8⟩=>?_) fun _ _ z=>z.elim
    have again:∀ {s9:Shared} {FU:St} {H9:Hp} ,Aq be ([] ++ DH fp s6.heap) FU H9 s9->(∃ m',m' < n/\W gt m' FU H9)->∃ m,m < n/\∃ i A2 H',Aq be [] A2 H' s9/\tn i s9.heap/\gT/\W i m A2 H':=fun {s9 FU H9} I9 n9=>by
     obtain ⟨m',hm,w9⟩:=n9;refine gM;obtain ⟨o,e,d⟩:=T.obj _ _ Im b hb;exact (I9.pin (b,o) (ae _ (ae _ (Bg hb e)))).2.1
    cases ok with
    | false=>
     rw [if_neg ah] at q8 ⊢;exact again I8 q8
    | true=>
     rw [if_pos rfl] at q8 ⊢;refine wpAny_mono (he s8 Ex H8 _ I8 q8) (fun y s9 ⟨v,H9,I9,r9,acc,hacc,hsz,q9⟩=>?_) fun _ _ z=>z.elim
     refine wpAny_mono (BG (X:=Ap X scope cl N s2 H2 HH.objs.size fp) s9 Ex H9 gW [v] gW [y] (fun _ OS=>∃ m',m' < n/\W gt m' Ex OS) I9 rfl (.cons r9 .nil) ⟨_,acc,v,rfl,rfl,hacc,hsz,q9⟩) (fun _ Ts ⟨_,OS,SH,_,R9⟩=>?_) fun _ _ z=>z.elim
     exact again SH R9
  ·have z:=(f2 b hb).1;obtain ⟨o,e⟩:=hfo b hb;rw [Af (ab (ZW e))];exact z
 exact codeAny_compStart_list (loop _ rfl) hV
theorem Paired.at {α β:Type} {F:α->β->Prop}:∀ {Mn:List α} {Mm:List β},Paired F Mn Mm->∀ {i:Nat} {a:α},Mn[i]? = some a->∃ b,Mm[i]? = some b/\F a b
 | _,_,.nil,i,a,h=>by simp at h
 | _,_,.cons r t,0,a,h=>by
  simp only [b0,ar.injEq] at h;subst h;exact ⟨_,rfl,r⟩
 | _,_,.cons r t,i + 1,a,h=>by
  simp only [bU] at h;obtain ⟨b,h1,h2⟩:=Paired.at t h;exact ⟨b,by simpa using h1,h2⟩
theorem Py {P:Program} {w:World} {k:AF} {u:Value} (h:(AR P w).is k u=true):AA (kV k) u:=by
 rcases Bu (show IW k u=true from h) with ⟨i,t,rfl,rfl⟩ | ⟨x,t,rfl,rfl⟩
 ·exact ⟨t,rfl⟩
 ·exact ⟨t,rfl⟩
def Ve (a:Addr) (kvs:List (AF × V)) (o:Obj):It:=
 ⟨fun i H=>H a=some (.frz o iz)/\i < kvs.length,fun i H x H'=>H'=H/\∃ k v,kvs[i]? = some (k,v)/\x=kV k,fun i H=>H a=some (.frz o iz)/\kvs.length<=i⟩
theorem Nz {X:Cx} {pins:List cr} {σ:St} {H:Hp} {s:Shared} {a:Addr} {o:Obj} {kvs:List (AF × V)} {es:Array DictEntry} {ep:Nat} (I:Aq X pins σ H s) (e:H a=some (.frz o iz)) (he:o.data=.dict es ep) :
  (a == sysModules)=false/\∃ vs,KV kvs vs/\s.heap.DictAt (AR X.prog X.w) a vs ep:=by
 obtain ⟨ho,z,hd,vs,rel,o',Ui,Ul,h1,h2,h3,h4⟩:=(show AE X.prog X.w H s.heap a (.frz o iz) from I.hok a _ e)
 rw [ho] at h1;cases h1
 rw [he] at h3;injection h3 with h5 h6;subst h5 h6;exact ⟨hd,vs,rel,o,es,ho,h2,he,h4⟩
theorem OZ {P:Program} {w:World} {K:ZP} {tg:Expr} (a it:Addr) {kvs:List (AF × V)} {o:Obj} {es:Array DictEntry} {ep:Nat} (he:o.data=.dict es ep) :
  Lu P w K tg (Ve a kvs o) [it] it (fun i h=>h.IsKeyIter it a i kvs.length ep) where
 mem:=by simp
 obj:=fun i h st b hb=>by
  have e:b=it:=by simpa using hb
  subst e;obtain ⟨o,e,c,d⟩:=st;exact ⟨o,e,fun v z=>by rw [d] at z; cases z⟩
 keep:=fun i h h' st k=>st.at fun o e=>k it gl o e
 item:=by
  intro X hP hw hK hc i pins s σ H E I hf st hg;subst hP hw hK;obtain ⟨hq,B0⟩:=hg;obtain ⟨hd,vs,rel,da⟩:=Nz I hq he;have hx:kvs[i]? = some kvs[i]:=by simp [B0]
  obtain ⟨⟨k,v⟩,hv,e1,e2⟩:=Paired.at rel hx;have hl:kvs.length=vs.length:=rel.length;obtain ⟨f0,f1,f2,f3,f4,f5⟩:=hf it gl;rw [hl] at st;refine wpAny_pyNext_dict_item st da hv fun key h' hkey AN sb=>?_
  have I1:Aq X pins σ H { s with heap:=h' }:=I.turned (t':=s.toks) (fun b o hb e=>(sb.2 b hb).trans e) f0 f1 f3 f4 f5;rw [<-hl] at AN;obtain ⟨o',e,c,d⟩:=id AN;refine ⟨key,rfl,HC (s:={ s with heap:=h' }) e c d bi ⟨kV k,H,I1,Py hkey,⟨rfl,k,kvs[i].2,?_,rfl⟩,AN,fun b hb=>(hf b hb).1⟩⟩;have Wd:kvs[i].1=k:=e1;rw [hx,<-Wd]
 done:=by
  intro X hP hw hK hc i pins s σ H E I hf st hg;subst hP hw hK;obtain ⟨hq,hle⟩:=hg;obtain ⟨hd,vs,rel,da⟩:=Nz I hq he;have hl:kvs.length=vs.length:=rel.length;obtain ⟨f0,f1,f2,f3,f4,f5⟩:=hf it gl;rw [hl] at st;exact wpAny_pyNext_dict_end iG st da (by simp; lia) fun h' eb=>⟨rfl,I.turned (t':=s.toks) (fun b o hb e=>eb b o hb e) f0 f1 f3 f4 f5⟩
 self:=fun _ _ _ _ _ st h=>wpAny_pyIter_keyiter st h
def Eu (H:Hp) (a:Addr) (kvs:List (AF × V)) (o:Obj) (H':Hp):Prop:=(H a=some iz/\H'=upd H a (.frz o iz))\/(H a=some (.frz o iz)/\H'=H)
theorem Eu.at {H H':Hp} {a:Addr} {kvs:List (AF × V)} {o:Obj} (f:Eu H a kvs o H'):H' a=some (.frz o iz):=by
 rcases f with ⟨_,rfl⟩ | ⟨e,rfl⟩
 ·exact Ab
 ·exact e
theorem Eu.ne {H H':Hp} {a b:Addr} {kvs:List (AF × V)} {o:Obj} (f:Eu H a kvs o H') (h:b ≠ a):H' b=H b:=by
 rcases f with ⟨_,rfl⟩ | ⟨e,rfl⟩
 ·exact Af h
 ·rfl
theorem Aq.freeze {X:Cx} {pins:List cr} {σ:St} {H:Hp} {s:Shared} {a:Addr} {kvs:List (AF × V)} (I:Aq X pins σ H s) (e:Rd H a iz) :
  ∃ o es ep H',o.data=.dict es ep/\Eu H a kvs o H'/\Aq X pins σ H' s:=by
 rcases e with e | ⟨o,e⟩
 ·obtain ⟨z,hd,vs,rel,o,es,ep,h1,h2,h3,h4⟩:=(show AE X.prog X.w H s.heap a iz from I.hok a _ e)
  exists o,es,ep,upd H a (.frz o iz),h3,.inl ⟨e,rfl⟩;exact I.write (x:=a) (e:=a) (h':=s.heap) (t':=s.toks) (by rw [e]; exact True.intro) (.inl rfl) (fun b u _ q=>q) ⟨o,h1⟩ ⟨h1,z,hd,vs,rel,o,es,ep,h1,h2,h3,h4⟩
 ·obtain ⟨ho,z,hd,vs,rel,o',es,ep,h1,h2,h3,h4⟩:=(show AE X.prog X.w H s.heap a (.frz o iz) from I.hok a _ e)
  rw [ho] at h1;cases h1
  exact ⟨o,es,ep,H,h3,.inr ⟨e,rfl⟩,I⟩
def iDict (tl:TE):TI:=fun σ H R=>tl σ H fun x H1=>∃ a kvs,x=.ref a/\Rd H1 a iz/\∀ o H2,Eu H1 a kvs o H2->R (Ve a kvs o) H2
theorem Ox {X:Cx} {tg l:Expr} {tl:TE} (hl:PE X l tl):PI X tg l (iDict tl):=by
 intro pins s σ H R I h;refine B5 (hl (pins:=pins) s σ H _ I h) fun v s1 ⟨x,H1,I1,r1,q1⟩=>?_
 obtain ⟨a,kvs,e,hr,q⟩:=q1;subst e;cases r1
 obtain ⟨o,es,ep,H2,he,fz,I2⟩:=I1.freeze hr;obtain ⟨hd,vs,rel,da⟩:=Nz I2 fz.at he;refine wpAny_pyIter_dict hd da ?_;refine ⟨s1.heap.objs.size,[s1.heap.objs.size],_,_,H2,rfl,I2.kept (t':=s1.toks) fun b o e=>ZO _ e,OZ a _ he,⟨_,ZX _ rfl,rfl,?_⟩,fun b hb=>?_,q o H2 fz⟩
 ·rw [rel.length]; rfl
 ·have e:b=s1.heap.objs.size:=by simpa using hb
  subst e;exact I2.fpOk (ZU _) (I2.hok.fresh (ZU _))
theorem Sy {a:Addr} {kvs:List (AF × V)} {o:Obj} {g:TG} {tb:TS} {D:Fe} {σ:St} {H:Hp} (Pv:Nat->St->Hp->Prop) (h0:Pv 0 σ H) (hl:∀ i σ H,i<=kvs.length->Pv i σ H->H a=some (.frz o iz))
  (hs:∀ i k v σ H,kvs[i]? = some (k,v)->Pv i σ H->g (kV k) σ H fun Az H2=>tb { D with nx:=Pv gt,ct:=Pv gt,bk:=D.nx } Az H2) (hd:∀ σ H,Pv kvs.length σ H->D.nx σ H) :
  ∃ W:Nat->Nat->St->Hp->Prop,(∃ m,W 0 m σ H)/\∀ i m σ H,W i m σ H ->
   ((Ve a kvs o).stop i H/\D.nx σ H)\/((Ve a kvs o).go i H/\∃ N:St->Hp->Prop,(∀ A2 H',N A2 H'->∃ m',m' < m/\W gt m' A2 H')/\∀ x H',(Ve a kvs o).yld i H x H'->g x σ H' fun Az H2=>tb { D with nx:=N,ct:=N,bk:=D.nx } Az H2):=by
 exists fun i m σ H=>m=kvs.length - i/\i<=kvs.length/\Pv i σ H,⟨kvs.length,by simp,aJ _,h0⟩
 rintro i m σ H ⟨rfl,hi,p⟩;have q:=hl i σ H hi p;by_cases B0:i < kvs.length
 ·refine .inr ⟨⟨q,B0⟩,Pv gt,fun A2 H' p'=>⟨kvs.length - gt,by lia,rfl,B0,p'⟩,fun x H' y=>?_⟩;obtain ⟨e,k,v,e1,e2⟩:=y;subst e e2;exact hs i k v σ _ e1 p
 ·have e:i=kvs.length:=by lia
  subst e;exact .inl ⟨⟨q,ZU _⟩,hd σ H p⟩
section
variable {prog:Program} {w:World} {A:Around} {E:Value->Shared->Prop} {s:Shared}
end
theorem BZ (a:List Nat):¬ a < a:=dB a
section
variable {X:Cx} {pins:List cr} {σ A2:St} {H H':Hp} {s2 s':Shared} {scope:Scope} {cl:List io} {N:List Str} {fp:List Addr} {C D:Addr} {h₁ h':Heap} {t':Nat}
theorem EW {ob:HO} (I:Aq X pins σ H s2) (hf:∀ b ∈ fp,Ew X pins H b) (hfo:∀ b ∈ fp,∃ o,s2.heap.get? b=some o) (co:Cc X scope cl) (hσ:C3 X cl scope N σ A2)
  (k:∀ b o,s2.heap.get? b=some o->h₁.get? b=some o) (hD:s2.heap.objs.size<=D) (hC:s2.heap.objs.size<=C) (hDC:C ≠ D)
  (newO:AE X.prog X.w (upd H D ob) h₁ D ob) {m:Str->Option Value} (hn:h₁.Ns C m) :
  Aq gN [] A2 (upd H D ob) { s2 with heap:=h₁,toks:=t' }:=by
 have fD:H D=none:=I.hok.fresh hD;have fC:H C=none:=I.hok.fresh hC;have lts:∀ b ∈ fp,b < s2.heap.objs.size:=fun b hb=>let ⟨_,e⟩:=hfo b hb; ZW e
 have cells_lt:∀ x c,cl.lookup x=some c->c < s2.heap.objs.size:=fun x c e=>by
  obtain ⟨v,q⟩:=I.cell x c (co.sub x c e);exact q.lt
 have ok:Cx.Ok gN:=by
  refine iC
  ·exact co.kind
  ·exact fun x y c e1 e2=>I.ok.inj x y c (co.sub x c e1) (co.sub y c e2)
  ·exact fun x h=>co.has x h
  ·exact fun x c h _=>by cases h
  ·intro b hb;refine ⟨fun e=>?_,fun x c e=>(hf b hb).2.2.2.2.1 x c (co.sub x c e)⟩;have z:=lts b hb;exact absurd (af z hC) (by rw [show b=C from e]; exact ba _)
  ·intro b o e hb;have F4:b ∈ fp:=hb;rcases (hf b F4).2.2.2.1 with z | z
   ·exact I.ok.noex b o e z
   ·exact absurd (af (ZW e) (az I.ok.bsz z)) (ba _)
  ·intro b hb hz;have F4:b ∈ fp:=hb;obtain ⟨_,f1,f2,_⟩:=hf b F4;rcases ZZ.mp (I.stkSub b hz) with e | e
   ·exact f1 e
   ·exact f2 e
 refine ⟨ok,rfl,I.bare,Un.laid k hD fD,?_,?_,?_,?_,?_,I.hok.laid k hD newO,hσ.1⟩
 ·refine ⟨m,hn,fun i x v e1 e2 _=>?_⟩;obtain ⟨⟨j,j1,j2⟩,kk,kr⟩:=hσ.2 i x v e1 e2;obtain ⟨mo,_,hl⟩:=I.loc;obtain ⟨u,r,l⟩:=hl j x v j1 j2 (by
   rcases kk with z | z
   ·exact .inr (.inl z)
   ·exact .inr (.inr z))
  refine ⟨u,r,.inr ⟨kr,?_⟩⟩;obtain ⟨c,hc⟩:=co.has x kr;rcases l with ⟨z,_⟩ | ⟨_,c',Ii,hcell⟩
  ·rcases kk with q | q
   ·rw [z] at q; cases q
   ·rw [z] at q; cases q
  ·have e3:=co.sub x c hc;rw [Ii] at e3;have e4:c'=c:=ar.inj e3;subst e4;obtain ⟨o,ho,hd⟩:=hcell;exact ⟨c',hc,o,k _ o ho,hd⟩
 ·intro x c e;obtain ⟨v,o,ho,hd⟩:=I.cell x c (co.sub x c e);exact ⟨v,o,k _ o ho,hd⟩
 ·show upd H D ob C=none
  rw [Af hDC];exact fC
 ·intro x c e;rw [Af (ab (af (cells_lt x c e) hD))];exact I.freeC x c (co.sub x c e)
 ·intro p hp;cases hp
end
section
variable {prog:Program} {w:World} {A:Around} {R:Result->Shared->Prop} {s:Shared}
theorem BO {kx vx target iter:Expr} {ifs:List Expr} {scope:Scope} {pos:Pos} {it:Value} {D:Addr} {env:Env} (I:Nat->Shared->Prop)
  (turn:∀ n s,I n s->wpAny ap A (pyNext it) (fun r AQ=>match r with
   | none=>R (.ok .next) AQ
   | some v=>wpAny ap A (letOwnedTupleGo target it v) (fun _ LA=>wpAny ap A (assign target env v) (fun _ E6=>
     wpAny ap A (forIn ifs true fun c r=>if r=true then do let ok <- isTrue c env (eval c env); pure (ForInStep.yield ok) else pure (ForInStep.yield r)) (fun ok Cd=>
      if ok=true then wpAny ap A (eval kx env) (fun kv QZ=>wpAny ap A (eval vx env) (fun vv QY=>
       wpAny ap A (dictSet D kv vv) (fun _ WC=>∃ m,m < n/\I m WC) (notedBy ap A env fun e s'=>R (.error e) s') QY) (notedBy ap A env fun e s'=>R (.error e) s') QZ) (notedBy ap A env fun e s'=>R (.error e) s') Cd
      else ∃ m,m < n/\I m Cd) (notedBy ap A env fun e s'=>R (.error e) s') E6) (notedBy ap A env fun e s'=>R (.error e) s') LA) (notedBy ap A env fun e s'=>R (.error e) s') AQ) (notedBy ap A env fun e s'=>R (.error e) s') s)
  (n:Nat) (h:I n s) :
  codeAny ap A (.compLoop (.DictComp kx vx [⟨target,iter,ifs,0⟩] scope pos) 0 it (.ref D) env) R s:=by
 refine codeAny_loop rfl I (fun n s hI=>?_) n h;show wpAny _ A ((compTurn (.DictComp kx vx [⟨target,iter,ifs,0⟩] scope pos) 0 it (.ref D) env).onRaise (fun x=>do noteFrame x env; theTreesLotGoes x)) _ _ s
 refine wpAny_noted ?_;rw [compTurn_dict];refine wpAny_bind (wpAny_standAt (wpAny_bind (wpAny_mono (turn n s hI) (fun r AQ h₁=>?_) fun _ _ h'=>h')));cases r with
 | none=>exact wpAny_pure h₁
 | some v=>
  refine wpAny_bind (wpAny_mono h₁ (fun _ LA Sj=>?_) fun _ _ h'=>h');refine wpAny_bind (wpAny_mono Sj (fun _ E6 Nu=>wpAny_bind (wpAny_mono Nu (fun ok Cd Nt=>?_) fun _ _ h'=>h')) fun _ _ h'=>h');cases ok with
  | false=>exact wpAny_pure ⟨rfl,Nt⟩
  | true=>
   exact wpAny_bind (wpAny_bind (wpAny_mono Nt (fun kv QZ VP=>wpAny_bind (wpAny_holding (wpAny_mono VP (fun vv QY VO=>wpAny_bind (wpAny_standAt (wpAny_holding (wpAny_mono VO (fun _ WC YQ=>wpAny_pure ⟨rfl,YQ⟩) fun _ _ h'=>h')))) fun _ _ h'=>h'))) fun _ _ h'=>h'))
end
theorem K3 {X:Cx} {pins:List cr} {σ:St} {H:Hp} {s:Shared} {a:Addr} {k:AF} {v:V} {u r:Value} {kvs:List (AF × V)} {A:Around} {E:Value->Shared->Prop} {Q:Unit->Shared->Prop} (I:Aq X pins σ H s) (e:H a=some iz) (l:kvs.length < sizeLine) (ry:AA (kV k) u) (rv:AA v r)
  (h:∀ s',Aq X pins σ (upd H a (.dK (Bw kvs k v))) s'->Q () s'):wpAny dL A (dictSet a u r) Q E s:=by
 obtain ⟨z,hd,vs,rel,dd⟩:=S2 I.hok e;have hz:vs.length<=sizeLine:=by rw [<-rel.length]; exact z
 have hl:(Bw kvs k v).length<=sizeLine:=by have:=C1 kvs k v; lia
 refine wpAny_dictSet_pairs (hsz:=hz) (Hw ry) dd fun h' ME hs=>h _ ?_
 have he:∃ q,h'.get? a=some q:=let ⟨q,_,_,hq,_⟩:=ME; ⟨q,hq⟩;exact Gy I (by rw [e]; exact True.intro) hs he (Ls hl hd (rel.put k rv) ME)
def QV (wi:TI) (g:TG) (tt:TT) (tk tv:TE) (σ0:St->St):TE:=fun σ H Q=>wi σ H fun J H1=>∀ D,H1 D=none->∃ W:Nat->Nat->St->Hp->Prop,(∃ m,W 0 m (σ0 σ) (upd H1 D (.dK []))) /\
 ∀ i m A2 H',W i m A2 H'->(J.stop i H'/\Q (.ref D) H')\/(J.go i H'/\∀ x H2,J.yld i H' x H2->g x A2 H2 fun Az H3=>tt Az H3 fun b H4=>
  if b=true then tk Az H4 (fun y H5=>tv Az H5 fun v H6=>∃ kvs k,y=kV k/\H6 D=some iz/\kvs.length < sizeLine/\∃ m',m' < m/\W gt m' Az (upd H6 D (.dK (Bw kvs k v)))) else ∃ m',m' < m/\W gt m' Az H4)
theorem IF {X:Cx} {tg iter kx vx:Expr} {ifs:List Expr} {scope:Scope} {cl:List io} {N:List Str} {pos:Pos} {wi:TI} {g:TG} {tt:TT} {tk tv:TE} {σ0:St->St} (hc:X.calm=true) (co:Cc X scope cl)
  (hσ:∀ σ,σ.length=X.N.length->C3 X cl scope N σ (σ0 σ)) (hi:PI X tg iter wi)
  (hb:∀ s2 H C fp,PG gN tg g/\Vc gN ifs tt/\PE gN kx tk/\PE gN vx tv)
  (hs:∀ x,foldedSetIterable iter X.env x=pure x:=by intro _; rfl):PE X h8 (QV wi g tt tk tv σ0):=by
 intro pins s σ H Q I h;rw [arm_eval_DictComp];refine wpAny_comprehension_free (use:=none) rfl hs co.clos co.kind co.names (wpAny_mono (hi (pins:=pins) s σ H _ I h) im fun _ _ e=>e);obtain ⟨it,fp,tn,J,H2,rfl,I2,T,Fs,f2,hW⟩:=h2;refine wpAny_newObj_type h7;dsimp only at B9 Bt ⊢;generalize Je:s2.heap.push { cls:=.type "dict",dict:=none,data:=.dict #[] } = HH at B9 Bt ⊢;have B7:HH.objs.size=s2.heap.objs.size + 1:=by rw [<-Je,aT]
 have old:∀ b o,s2.heap.get? b=some o->h₁.get? b=some o:=fun b o e=>
  Bt.extBut b o (ab (by rw [B7]; exact aA (ZW e))) (ZO _ (Je ▸ ZO _ e))
 have newD:AE X.prog X.w (upd H2 s2.heap.objs.size (.dK [])) h₁ s2.heap.objs.size (.dK []):=
  let ⟨z,hd,vs,rel,o,es,ep,ho,r⟩:=Jm (P:=X.prog) (w:=X.w) (H:=upd H2 s2.heap.objs.size (.dK [])) s2.heap I2.big
  ⟨z,hd,vs,rel,o,es,ep,Bt.extBut _ _ (ab (by rw [B7]; exact aK _)) (ZO _ (Je ▸ ho)),r⟩
 obtain ⟨W,⟨m0,w0⟩,turn⟩:=hW s2.heap.objs.size I2.fresh;have hfo:∀ b ∈ fp,∃ o,s2.heap.get? b=some o:=fun b hb=>let ⟨o,e,_⟩:=T.obj _ _ Fs b hb; ⟨o,e⟩
 have I3:Aq be [] (σ0 σ) (upd H2 s2.heap.objs.size (.dK [])) { s2 with heap:=h₁,toks:=s2.toks + ([]:List (Str × Value)).length }:=
  EW I2 f2 hfo co (hσ σ I.len) old (ZU _) (by rw [B7]; exact aL _) (bj (by rw [B7]; exact aK _)) newD B9
 have fC:s2.heap.objs.size<=HH.objs.size:=by rw [B7]; exact aL _
 obtain ⟨hg,ht,hk,hv⟩:=hb s2 H2 HH.objs.size fp;have loop:∀ Cd:Shared,Cd = { s2 with heap:=h₁,toks:=s2.toks + ([]:List (Str × Value)).length } ->
   codeAny dL X.A (.compLoop h8 0 (.ref it) gW (compEnvC scope cl HH.objs.size X.env))
    (compPost dL X.A X.xe none (EP X pins σ Q) gW HH.objs.size) Cd:=by
  rintro Cd rfl;have stat:∀ {H':Hp} ,gT->∀ b ∈ fp,Ew be [] H' b:=fun hn b hb=>by
   refine iA
   ·obtain ⟨o,e⟩:=hfo b hb;exact ab iE
   ·intro hz;obtain ⟨_,q1,q2,_⟩:=f2 b hb;rcases ZZ.mp (I2.stkSub b hz) with e | e
    ·exact q1 e
    ·exact q2 e
   ·exact fun x c e=>(f2 b hb).2.2.2.2.1 x c (co.sub x c e)
  refine BO (fun n s'=>∃ i A2 H',Aq be [] A2 H' s'/\tn i s'.heap/\gT/\W i n A2 H') ?_ m0
   ⟨0,σ0 σ,_,I3,T.keep _ _ _ Fs fun b hb o e=>old b o e,fun b hb=>?_,w0⟩
  ·rintro n s4 ⟨i,FV,H4,I4,LG,Mq,w4⟩;rcases turn i n FV H4 w4 with ⟨stop,qn⟩ | ⟨go,step⟩
   ·refine wpAny_mono (T.done be rfl rfl rfl hc i [] s4 FV H4 (fun _ _=>False) I4 (stat Mq) LG stop) (fun r s5 ⟨hr,I5⟩=>?_) fun _ _ z=>z.elim
    subst hr;obtain ⟨m5,Sl,_⟩:=id I5.loc;exact ⟨m5,Sl,fun h' Kw=>⟨.ref _,H4,EX I2 f2 fC I5 Kw,rfl,qn⟩⟩
   ·refine wpAny_mono (T.item be rfl rfl rfl hc i [] s4 FV H4 (fun _ _=>False) I4 (stat Mq) LG go) (fun r s5 ⟨u,hr,h5⟩=>?_) fun _ _ z=>z.elim
    subst hr;refine wpAny_mono h5 (fun _ s6 ⟨x,H6,I6,r6,y6,Im,Sx⟩=>?_) fun _ _ z=>z.elim
    have SG:=I6.pinned (stat Sx) (T.obj _ _ Im);refine wpAny_mono (hg s6 FV H6 x u _ SG r6 (step x H6 y6)) (fun _ s7 ⟨Ex,H7,I7,q7⟩=>?_) fun _ _ z=>z.elim
    refine wpAny_mono (ht s7 Ex H7 _ I7 q7) (fun ok s8 ⟨H8,I8,q8⟩=>?_) fun _ _ z=>z.elim
    have again:∀ {s9:Shared} {FU:St} {H9:Hp} ,Aq be ([] ++ DH fp s6.heap) FU H9 s9->(∃ m',m' < n/\W gt m' FU H9)->∃ m,m < n/\∃ i A2 H',Aq be [] A2 H' s9/\tn i s9.heap/\gT/\W i m A2 H':=fun {s9 FU H9} I9 n9=>by
     obtain ⟨m',hm,w9⟩:=n9;refine gM;obtain ⟨o,e,d⟩:=T.obj _ _ Im b hb;exact (I9.pin (b,o) (ae _ (ae _ (Bg hb e)))).2.1
    cases ok with
    | false=>
     rw [if_neg ah] at q8 ⊢;exact again I8 q8
    | true=>
     rw [if_pos rfl] at q8 ⊢;refine wpAny_mono (hk s8 Ex H8 _ I8 q8) (fun yk s9 ⟨k,H9,I9,r9,q9⟩=>?_) fun _ _ z=>z.elim
     refine wpAny_mono (hv s9 Ex H9 _ I9 q9) (fun yv Ts ⟨v,OS,SH,WN,kvs,key,ek,hacc,hsz,R9⟩=>?_) fun _ _ z=>z.elim
     subst ek;exact K3 (X:=Ap X scope cl N s2 H2 HH.objs.size fp) SH hacc hsz r9 WN fun Wu XA=>again XA R9
  ·have z:=(f2 b hb).1;obtain ⟨o,e⟩:=hfo b hb;rw [Af (ab (ZW e))];exact z
 exact codeAny_compStart_dict (loop _ rfl) hV
theorem RB {X:Cx} {ix:Nat} {x:Str} {px spos:Pos} {tg iter kx vx:Expr} {ifs:List Expr} {scope:Scope} {cl:List io} {N:List Str} {pos:Pos} {wi:TI} {g:TG} {tt:TT} {tk tv:TE} {σ0:St->St} (hN:X.N.Nodup) (hix:X.N[ix]? = some x) (hlx:Wo X.env.scope x) (hc:X.calm=true) (co:Cc X scope cl)
  (hσ:∀ σ,σ.length=X.N.length->C3 X cl scope N σ (σ0 σ)) (hi:PI X tg iter wi)
  (hb:∀ s2 H C fp,PG gN tg g/\Vc gN ifs tt/\PE gN kx tk/\PE gN vx tv)
  (hsw:swapsWith h8 (some (.Name x px)) spos.line X.env=pure true:=by rfl)
  (hs:∀ x,foldedSetIterable iter X.env x=pure x:=by intro _; rfl) (hf:X.fn x=true\/X.env.scope.names.lookup x=some .local:=by first | exact .inl rfl | exact .inr rfl | assumption) :
  PS X (.Assign [.Name x px] h8 spos) (QX (QV wi g tt tk tv σ0) (K0 ix)):=by
 intro pins s σ H DD I h;rw [exec_Assign_Name_used _ _ _ _ hsw];refine wpAny_bind (wpAny_standAt (wpAny_bind ?_));show wpAny _ X.A (do let _ <- comprehension h8 scope X.env _ newDict false (eval iter X.env) (some (assign (.Name x px) X.env))) _ _ s
 refine wpAny_bind (wpAny_mono (wpAny_comprehension_free (use:=some (assign (.Name x px) X.env)) (Q:=fun _ s'=>SP X pins DD .next s') rfl hs co.clos co.kind co.names
  (wpAny_mono (hi (pins:=pins) s σ H _ I h) im fun _ _ e=>e)) (fun _ s' hq=>wpAny_pure (wpAny_pure hq)) fun _ _ e=>e)
 obtain ⟨it,fp,tn,J,H2,rfl,I2,T,Fs,f2,hW⟩:=h2;refine wpAny_newObj_type h7;dsimp only at B9 Bt ⊢;generalize Je:s2.heap.push { cls:=.type "dict",dict:=none,data:=.dict #[] } = HH at B9 Bt ⊢;have B7:HH.objs.size=s2.heap.objs.size + 1:=by rw [<-Je,aT]
 have old:∀ b o,s2.heap.get? b=some o->h₁.get? b=some o:=fun b o e=>
  Bt.extBut b o (ab (by rw [B7]; exact aA (ZW e))) (ZO _ (Je ▸ ZO _ e))
 have newD:AE X.prog X.w (upd H2 s2.heap.objs.size (.dK [])) h₁ s2.heap.objs.size (.dK []):=
  let ⟨z,hd,vs,rel,o,es,ep,ho,r⟩:=Jm (P:=X.prog) (w:=X.w) (H:=upd H2 s2.heap.objs.size (.dK [])) s2.heap I2.big
  ⟨z,hd,vs,rel,o,es,ep,Bt.extBut _ _ (ab (by rw [B7]; exact aK _)) (ZO _ (Je ▸ ho)),r⟩
 obtain ⟨W,⟨m0,w0⟩,turn⟩:=hW s2.heap.objs.size I2.fresh;have hfo:∀ b ∈ fp,∃ o,s2.heap.get? b=some o:=fun b hb=>let ⟨o,e,_⟩:=T.obj _ _ Fs b hb; ⟨o,e⟩
 have I3:Aq be [] (σ0 σ) (upd H2 s2.heap.objs.size (.dK [])) { s2 with heap:=h₁,toks:=s2.toks + ([]:List (Str × Value)).length }:=
  EW I2 f2 hfo co (hσ σ I.len) old (ZU _) (by rw [B7]; exact aL _) (bj (by rw [B7]; exact aK _)) newD B9
 have fC:s2.heap.objs.size<=HH.objs.size:=by rw [B7]; exact aL _
 obtain ⟨hg,ht,hk,hv⟩:=hb s2 H2 HH.objs.size fp;have loop:∀ Cd:Shared,Cd = { s2 with heap:=h₁,toks:=s2.toks + ([]:List (Str × Value)).length } ->
   codeAny dL X.A (.compLoop h8 0 (.ref it) gW (compEnvC scope cl HH.objs.size X.env))
    (compPost dL X.A X.xe (some (assign (.Name x px) X.env)) (fun _ s'=>SP X pins DD .next s') gW HH.objs.size) Cd:=by
  rintro Cd rfl;have stat:∀ {H':Hp} ,gT->∀ b ∈ fp,Ew be [] H' b:=fun hn b hb=>by
   refine iA
   ·obtain ⟨o,e⟩:=hfo b hb;exact ab iE
   ·intro hz;obtain ⟨_,q1,q2,_⟩:=f2 b hb;rcases ZZ.mp (I2.stkSub b hz) with e | e
    ·exact q1 e
    ·exact q2 e
   ·exact fun x c e=>(f2 b hb).2.2.2.2.1 x c (co.sub x c e)
  refine BO (fun n s'=>∃ i A2 H',Aq be [] A2 H' s'/\tn i s'.heap/\gT/\W i n A2 H') ?_ m0
   ⟨0,σ0 σ,_,I3,T.keep _ _ _ Fs fun b hb o e=>old b o e,fun b hb=>?_,w0⟩
  ·rintro n s4 ⟨i,FV,H4,I4,LG,Mq,w4⟩;rcases turn i n FV H4 w4 with ⟨stop,qn⟩ | ⟨go,step⟩
   ·refine wpAny_mono (T.done be rfl rfl rfl hc i [] s4 FV H4 (fun _ _=>False) I4 (stat Mq) LG stop) (fun r s5 ⟨hr,I5⟩=>?_) fun _ _ z=>z.elim
    subst hr;obtain ⟨m5,Sl,_⟩:=id I5.loc;have I6:Aq X pins σ H4 s5:=EX (h':=s5.heap) I2 f2 fC I5 (Heap.SameBut.refl _ _);have cC:∀ y c,X.env.cells.lookup y=some c->c ≠ HH.objs.size:=fun y c e=>by
     obtain ⟨v,q⟩:=I2.cell y c e;exact ab (af q.lt fC)
    have lC:X.env.locals ≠ HH.objs.size:=ab (af I2.lt fC);show wpAny _ X.A (assign (.Name x px) X.env gW) _ X.xe s5
    refine wpAny_assign_Name (Fg I6 hN hix hlx (v:=.ref s2.heap.objs.size) rfl (fun s7 I7 ⟨a,sb,ha⟩=>?_) hf);have aC:a ≠ HH.objs.size:=by
     rcases ha with rfl | ha
     ·exact lC
     ·exact cC _ _ ha
    refine ⟨m5,Sl.sameBut sb (Ne.symm aC),fun h' Kw=>⟨_,H4,?_,qn⟩⟩;exact I7.turned (t':=s7.toks) (it:=HH.objs.size) (fun b o hb e=>(Kw.2 b hb).trans e) I5.free (Ne.symm lC) (.inr (az I2.sz fC)) cC fun p hp z=>by
     have e:=(I2.pin p hp).1;exact absurd (af (ZW e) fC) (by rw [z]; exact ba _)
   ·refine wpAny_mono (T.item be rfl rfl rfl hc i [] s4 FV H4 (fun _ _=>False) I4 (stat Mq) LG go) (fun r s5 ⟨u,hr,h5⟩=>?_) fun _ _ z=>z.elim
    subst hr;refine wpAny_mono h5 (fun _ s6 ⟨x,H6,I6,r6,y6,Im,Sx⟩=>?_) fun _ _ z=>z.elim
    have SG:=I6.pinned (stat Sx) (T.obj _ _ Im);refine wpAny_mono (hg s6 FV H6 x u _ SG r6 (step x H6 y6)) (fun _ s7 ⟨Ex,H7,I7,q7⟩=>?_) fun _ _ z=>z.elim
    refine wpAny_mono (ht s7 Ex H7 _ I7 q7) (fun ok s8 ⟨H8,I8,q8⟩=>?_) fun _ _ z=>z.elim
    have again:∀ {s9:Shared} {FU:St} {H9:Hp} ,Aq be ([] ++ DH fp s6.heap) FU H9 s9->(∃ m',m' < n/\W gt m' FU H9)->∃ m,m < n/\∃ i A2 H',Aq be [] A2 H' s9/\tn i s9.heap/\gT/\W i m A2 H':=fun {s9 FU H9} I9 n9=>by
     obtain ⟨m',hm,w9⟩:=n9;refine gM;obtain ⟨o,e,d⟩:=T.obj _ _ Im b hb;exact (I9.pin (b,o) (ae _ (ae _ (Bg hb e)))).2.1
    cases ok with
    | false=>
     rw [if_neg ah] at q8 ⊢;exact again I8 q8
    | true=>
     rw [if_pos rfl] at q8 ⊢;refine wpAny_mono (hk s8 Ex H8 _ I8 q8) (fun yk s9 ⟨k,H9,I9,r9,q9⟩=>?_) fun _ _ z=>z.elim
     refine wpAny_mono (hv s9 Ex H9 _ I9 q9) (fun yv Ts ⟨v,OS,SH,WN,kvs,key,ek,hacc,hsz,R9⟩=>?_) fun _ _ z=>z.elim
     subst ek;exact K3 (X:=Ap X scope cl N s2 H2 HH.objs.size fp) SH hacc hsz r9 WN fun Wu XA=>again XA R9
  ·have z:=(f2 b hb).1;obtain ⟨o,e⟩:=hfo b hb;rw [Af (ab (ZW e))];exact z
 exact codeAny_compStart_dict (loop _ rfl) hV
theorem Gj (p x:Str) (r:List Str):risingS p (x :: r)=(!ltCps x.cps.toList p.cps.toList && risingS x r):=rfl
theorem Ki:∀ (p:Str) (l:List Str),risingS p l=true->(p :: l).Pairwise fun a b=>¬ b.cps.toList < a.cps.toList
 | p,[],_=>bC _ _
 | p,x :: r,h=>by
  rw [Gj,aV,ltCps_eq] at h;have h1:¬ x.cps.toList < p.cps.toList:=by simpa using h.1
  have h2:=Ki x r h.2;refine bB.mpr ⟨fun y hy=>?_,h2⟩;rcases ZZ.mp hy with rfl | hy
  ·exact h1
  ·have h3:=(bB.mp h2).1 y hy;have a:p.cps.toList<=x.cps.toList:=cA.mp h1;have b:x.cps.toList<=y.cps.toList:=cA.mp h3;exact cA.mpr (g9 a b)
theorem Cw {l:List Str} (h:sortedS l=true):l.Pairwise fun a b=>¬ b.cps.toList < a.cps.toList:=by
 cases l with
 | nil=>exact .nil
 | cons p l=>exact Ki p l h
theorem C4 {a b:Str} (h1:¬ b.cps.toList < a.cps.toList) (h2:¬ a.cps.toList < b.cps.toList):a=b:=by
 have e:a.cps.toList=b.cps.toList:=List.le_antisymm (cA.mp h1) (cA.mp h2);cases a; cases b
 simp only [Str.mk.injEq];exact e7.mp e
theorem DR {l m:List Str} (hl:l.Pairwise fun a b=>¬ b.cps.toList < a.cps.toList) (hm:m.Pairwise fun a b=>¬ b.cps.toList < a.cps.toList) (p:l.Perm m):l=m:=
 List.Perm.eq_of_pairwise (fun a b _ _ h1 h2=>C4 h1 h2) hl hm p
theorem Hq {l m:List Str} (hl:l.Nodup) (hm:m.Nodup) (h:∀ x,x ∈ l ↔ x ∈ m):l.Perm m:=(List.perm_ext_iff_of_nodup hl hm).mpr h
def Ly (ws:List AG) (x y:Str):Prop:=∃ u ∈ ws,(u.1=x/\u.2.1=y)\/(u.1=y/\u.2.1=x)
theorem Ly.symm {ws:List AG} {x y:Str} (h:Ly ws x y):Ly ws y x:=let ⟨u,hu,h⟩:=h; ⟨u,hu,h.symm⟩
theorem DV (u:AG):(E7 u).1=u.1/\(E7 u).2.1=u.2.1\/(E7 u).1=u.2.1/\(E7 u).2.1=u.1:=by
 unfold E7 AY AZ;by_cases h:u.2.1.cps.toList < u.1.cps.toList
 ·have h':¬ u.1.cps.toList < u.2.1.cps.toList:=cK h;rw [if_pos h,if_neg h'];exact .inr ⟨rfl,rfl⟩
 ·rw [if_neg h];by_cases h':u.1.cps.toList < u.2.1.cps.toList
  ·rw [if_pos h']; exact .inl ⟨rfl,rfl⟩
  ·rw [if_neg h'];have e:u.1=u.2.1:=C4 h h';exact .inl ⟨rfl,e⟩
theorem S7 {ws M9:List AG} (p:M9.Perm (ws.map E7)) (x y:Str):Ly M9 x y ↔ Ly ws x y:=by
 constructor
 ·rintro ⟨u,hu,h⟩;obtain ⟨v,hv,rfl⟩:=ZR.mp (p.mem_iff.mp hu);exists v,hv;rcases DV v with ⟨e1,e2⟩ | ⟨e1,e2⟩
  ·rw [e1,e2] at h; exact h
  ·rw [e1,e2] at h;rcases h with ⟨a,b⟩ | ⟨a,b⟩
   ·exact .inr ⟨b,a⟩
   ·exact .inl ⟨b,a⟩
 ·rintro ⟨v,hv,h⟩;exists E7 v,p.mem_iff.mpr (ZR.mpr ⟨v,hv,rfl⟩);rcases DV v with ⟨e1,e2⟩ | ⟨e1,e2⟩
  ·rw [e1,e2]; exact h
  ·rw [e1,e2];rcases h with ⟨a,b⟩ | ⟨a,b⟩
   ·exact .inr ⟨b,a⟩
   ·exact .inl ⟨b,a⟩
theorem GP {xs:List Str} {ws M9:List AG} (p:M9.Perm (ws.map E7)) (h:∀ u ∈ ws,u.1 ∈ xs/\u.2.1 ∈ xs):∀ u ∈ M9,u.1 ∈ xs/\u.2.1 ∈ xs:=fun u hu=>by
 obtain ⟨v,hv,rfl⟩:=ZR.mp (p.mem_iff.mp hu);obtain ⟨a,b⟩:=h v hv;rcases DV v with ⟨e1,e2⟩ | ⟨e1,e2⟩ <;> rw [e1,e2]
 ·exact ⟨a,b⟩
 ·exact ⟨b,a⟩
def Lv (xs:List Str) (ws:List AG):Prop:=∀ j,0 < j->j < xs.length->∃ u ∈ ws,∃ i:Nat,i < j/\xs[i]? = some u.1/\xs[j]? = some u.2.1
theorem Lv.all {xs:List Str} {ws:List AG} (h:Lv xs ws) (S:Str->Prop) (cl:∀ x y,Ly ws x y->S x->S y) {r:Str} (hr:r ∈ xs) (sr:S r):∀ x ∈ xs,S x:=by
 have down:∀ n (i:Nat),i<=n->∀ x,xs[i]? = some x->S x->∀ x0,xs[0]? = some x0->S x0:=by
  intro n;induction n with
  | zero=>
   intro i hi x e s x0 e0;have:i=0:=by lia
   subst this;rw [e] at e0; cases e0; exact s
  | succ n ih=>
   intro i hi x e s x0 e0;by_cases hz:i=0
   ·subst hz;rw [e] at e0; cases e0; exact s
   ·obtain ⟨u,hu,k,hk,e1,e2⟩:=h i ad (ZT.mp e).1;rw [e] at e2; cases e2;exact ih k ad u.1 e1 (cl _ _ ⟨u,hu,.inr ⟨rfl,rfl⟩⟩ s) x0 e0
 have up:∀ x0,xs[0]? = some x0->S x0->∀ n (i:Nat),i<=n->∀ x,xs[i]? = some x->S x:=by
  intro x0 e0 s0 n;induction n with
  | zero=>
   intro i hi x e;have:i=0:=by lia
   subst this;rw [e0] at e; cases e; exact s0
  | succ n ih=>
   intro i hi x e;by_cases hz:i=0
   ·subst hz;rw [e0] at e; cases e; exact s0
   ·obtain ⟨u,hu,k,hk,e1,e2⟩:=h i ad (ZT.mp e).1;rw [e] at e2; cases e2;exact cl _ _ ⟨u,hu,.inl ⟨rfl,rfl⟩⟩ (ih k ad u.1 e1)
 intro x hx;obtain ⟨i,hi,e⟩:=aq hr;obtain ⟨j,hj,e'⟩:=aq hx;have h0:xs[0]? = some xs[0]:=ZN ad;have s0:S xs[0]:=down i i (ZU _) r (by rw [ZN hi,e]) sr _ h0;exact up _ h0 s0 j j (ZU _) x (by rw [ZN hj,e'])
section
variable {ws:List AG} {r:Str} {bs cs:List (Str × Option Str)}
theorem QL {α β:Type} {l:List (α × β)} (h:(l.map (·.1)).Nodup) {x:α} {a b:β} (ha:(x,a) ∈ l) (hb:(x,b) ∈ l):a=b:=by
 induction l with
 | nil=>cases ha
 | cons p l ih=>
  rw [ag] at h;obtain ⟨h1,h2⟩:=aD.mp h;have key:∀ c,(x,c) ∈ l->p.1 ≠ x:=fun c hc z=>h1 (by rw [z]; exact ZR.mpr ⟨(x,c),hc,rfl⟩)
  rcases ZZ.mp ha with e | ha1
  ·rcases ZZ.mp hb with e' | VT
   ·rw [<-e] at e'; cases e'; rfl
   ·exact absurd (by rw [<-e]) (key b VT)
  ·rcases ZZ.mp hb with e' | VT
   ·exact absurd (by rw [<-e']) (key a ha1)
   ·exact ih h2 ha1 VT
end
section
variable {ws:List AG} {r:Str} {wk:List (Str × List Str)}
end
theorem CS {H2 H3:Hp} {vs:List V} {ws:List AG} (h:AU H2 vs (ws.map G9)) (ht:∀ b xs,H2 b=some gX->H3 b=some gX):AU H3 vs (ws.map G9):=by
 induction ws generalizing vs with
 | nil=>cases h; exact .nil
 | cons u ws ih=>
  cases h with
  | cons h1 r=>
   refine .cons ?_ (ih r);cases h1 with
   | tup ha hd=>
    refine .tup (ht _ _ ha) ?_;cases hd with
    | cons h1 r1=>
     cases r1 with
     | cons h2 r2=>
      cases r2 with
      | cons h3 r3=>
       cases r3
       cases h1
       cases h2
       cases h3
       exact .cons (.str _) (.cons (.str _) (.cons (.int _) .nil))
theorem Gp {α:Type} {l:List α} (h:l.Nodup) {i j:Nat} {x:α} (a:l[i]? = some x) (b:l[j]? = some x):i=j:=
 (List.getElem?_inj (ZT.mp a).1 h).mp (a.trans b.symm)
def sK (nv:List gU):List (AF × V):=nv.map fun q=>(Sum.inr q.1,q.2)
theorem CY (nv:List gU):(sK nv).length=nv.length:=ZM ..
theorem KY (nv:List gU):(sK nv).map (·.1)=(nv.map (·.1)).map Sum.inr:=by unfold sK; rw [aE,aE]; rfl
theorem Vu (a b:List gU):sK (a ++ b)=sK a ++ sK b:=ZY ..
theorem KW:∀ {nv:List gU} {y:Str},y ∉ nv.map (·.1)->Bm (sK nv) ib=none
 | [],y,_=>rfl
 | q :: nv,y,h=>by
  rw [ag,ZZ,not_or] at h;show Bm ((Sum.inr q.1,q.2) :: sK nv) ib=none
  rw [Bv (fun z=>h.1 (Sum.inr.inj z).symm)];exact KW h.2
theorem D7:∀ {nv:List gU} {y:Str} {v:V},(nv.map (·.1)).Nodup->(y,v) ∈ nv->Bm (sK nv) ib=some v
 | [],y,v,_,h=>nomatch h
 | q :: nv,y,v,hn,h=>by
  rw [ag] at hn;obtain ⟨h1,h2⟩:=aD.mp hn;show Bm ((Sum.inr q.1,q.2) :: sK nv) ib=some v
  rcases ZZ.mp h with e | h'
  ·subst e;exact B4 rfl
  ·rw [Bv (fun z=>h1 (by rw [Sum.inr.inj z]; exact ZR.mpr ⟨(y,v),h',rfl⟩))];exact D7 h2 h'
theorem Hn {nv:List gU} {y:Str}:(Bm (sK nv) ib).isSome=decide (y ∈ nv.map (·.1)):=by
 by_cases h:y ∈ nv.map (·.1)
 ·rw [decide_eq_true h];cases e:Bm (sK nv) ib with
  | some v=>rfl
  | none=>
   have:=QN e;rw [KY] at this;exact absurd (ZR.mpr ⟨y,h,rfl⟩) this
 ·rw [decide_eq_false h,KW h]; rfl
theorem DE {nv:List gU} {y:Str} {v:V} (h:y ∉ nv.map (·.1)):Bw (sK nv) ib v=sK (nv ++ [(y,v)]):=by
 rw [Iz v (KW h),Vu]; rfl
theorem MR (nv:List gU) (y:Str) (v:V):∃ DU,Bw (sK nv) ib v=sK DU/\DU.length<=nv.length + 1/\∀ z,z ∈ DU.map (·.1) ↔ z ∈ nv.map (·.1)\/z=y:=by
 by_cases h:y ∈ nv.map (·.1)
 ·refine ⟨nv.map fun q=>if q.1=y then (q.1,v) else q,?_,by rw [ZM]; lia,fun z=>?_⟩
  ·unfold Bw;have:((sK nv).any fun kv=>decide (kv.1=ib))=true:=by
    rw [Co,Hn,decide_eq_true h]
   rw [if_pos this];unfold sK;rw [aE,aE];refine cj fun q _=>?_
   by_cases e:q.1=y
   ·simp [e]
   ·have e':¬ (Sum.inr q.1:AF)=Sum.inr y:=fun z=>e (Sum.inr.inj z)
    simp [e,e']
  ·have e:(nv.map fun q=>if q.1=y then (q.1,v) else q).map (·.1)=nv.map (·.1):=by
    rw [aE];refine cj fun q _=>?_
    by_cases e:q.1=y <;> simp [e]
   rw [e];constructor
   ·exact .inl
   ·rintro (q | rfl)
    ·exact q
    ·exact h
 ·refine ⟨nv ++ [(y,v)],DE h,by simp,fun z=>by simp⟩
theorem UA {nv:List gU} {i:Nat} {k:AF} {v:V} (h:(sK nv)[i]? = some (k,v)):∃ y,nv[i]? = some (y,v)/\k=.inr y:=by
 unfold sK at h;rw [ZV] at h;cases e:nv[i]? with
 | none=>rw [e] at h; cases h
 | some q=>
  rw [e] at h;simp only [cq,ar.injEq,Prod.mk.injEq] at h;exact ⟨q.1,by rw [<-h.2],h.1.symm⟩
structure Web (H:Hp) (q:Addr) (ps:List Str) (ws:List AG):Prop where
 ex:∃ tp tw us,H q=some (.tup [.ref tp,.ref tw])/\H tp=some (.tup (ps.map V.str))/\H tw=some (.tup us)/\AU H us (ws.map G9)
theorem Web.same {H H':Hp} {q:Addr} {ps:List Str} {ws:List AG} (h:Web H q ps ws) (s:∀ b xs,H b=some gX->H' b=some gX):Web H' q ps ws:=by
 obtain ⟨tp,tw,us,h1,h2,h3,h4⟩:=h.ex;exact ⟨tp,tw,us,s _ _ h1,s _ _ h2,s _ _ h3,CS h4 s⟩
def O4 (ps:List Str) (ds:List Addr):List gU:=(ps.zip ds).map fun q=>(q.1,V.ref q.2)
theorem IQ {ps:List Str} {ds:List Addr} (h:ps.length<=ds.length):(O4 ps ds).map (·.1)=ps:=by
 unfold O4;rw [aE];have:((fun (x:Str × V)=>x.1) ∘ fun (q:Str × Addr)=>(q.1,V.ref q.2))=Prod.fst:=rfl;rw [this,List.map_fst_zip h]
theorem O3 {ps:List Str} {ds:List Addr} {i:Nat} {p:Str} {d:Addr} (h1:ps[i]? = some p) (h2:ds[i]? = some d):(p,V.ref d) ∈ O4 ps ds:=by
 unfold O4;refine ZR.mpr ⟨(p,d),ZS (i:=i) ?_,rfl⟩;rw [List.getElem?_zip_eq_some];exact ⟨h1,h2⟩
structure NB (H:Hp) (B:Addr) (ps:List Str) (ds:List Addr) (P:Str->Str->Prop) (n:Nat):Prop where
 top:H B=some (.dK (sK (O4 ps ds)))
 len:ds.length=ps.length
 nd:ds.Nodup
 nB:B ∉ ds
 inner:∀ (i:Nat) (p:Str) (d:Addr),ps[i]? = some p->ds[i]? = some d->∃ nv:List gU,H d=some (.dK (sK nv))/\nv.length<=n/\∀ y,y ∈ nv.map (·.1) ↔ P p y
theorem NB.get {H:Hp} {B:Addr} {ps:List Str} {ds:List Addr} {P:Str->Str->Prop} {n:Nat} (h:NB H B ps ds P n) (hn:ps.Nodup) {p:Str} (hp:p ∈ ps) :
  ∃ (i:Nat) (d:Addr) (nv:List gU),ps[i]? = some p/\ds[i]? = some d/\Bm (sK (O4 ps ds)) (Sum.inr p:AF)=some (.ref d)/\H d=some (.dK (sK nv))/\nv.length<=n/\∀ y,y ∈ nv.map (·.1) ↔ P p y:=by
 obtain ⟨i,hi,e⟩:=aq hp;have e1:ps[i]? = some p:=by rw [ZN hi,e]
 have Uc:i < ds.length:=by rw [h.len]; exact hi
 have e2:ds[i]? = some ds[i]:=ZN Uc;obtain ⟨nv,a1,a2,a3⟩:=h.inner i p _ e1 e2;refine ⟨i,_,nv,e1,e2,D7 ?_ (O3 e1 e2),a1,a2,a3⟩;rw [IQ (by rw [h.len]; exact ZU _)];exact hn
theorem NB.put {H:Hp} {B:Addr} {ps:List Str} {ds:List Addr} {P:Str->Str->Prop} {n:Nat} (h:NB H B ps ds P n) {i:Nat} {p y:Str} {d:Addr} (hn:ps.Nodup) (e1:ps[i]? = some p) (e2:ds[i]? = some d) {nv DU:List gU} (hd:H d=some (.dK (sK nv)))
  (hl:DU.length<=nv.length + 1) (hk:∀ z,z ∈ DU.map (·.1) ↔ z ∈ nv.map (·.1)\/z=y) (hP:∀ z,z ∈ nv.map (·.1) ↔ P p z) (hln:nv.length<=n):NB (upd H d (.dK (sK DU))) B ps ds (fun a b=>P a b\/(a=p/\b=y)) (n + 1):=by
 have dm:d ∈ ds:=ZS e2;refine ⟨by rw [Af (fun z=>h.nB (by rw [z]; exact dm))]; exact h.top,h.len,h.nd,h.nB,fun j q c f1 f2=>?_⟩;by_cases z:c=d
 ·subst z;have ij:i=j:=Gp h.nd e2 f2;subst ij;rw [e1] at f1; cases f1;refine ⟨DU,Ab,by lia,fun z=>?_⟩;rw [hk,hP];simp
 ·obtain ⟨nw,b1,b2,b3⟩:=h.inner j q c f1 f2;refine ⟨nw,by rw [Af z]; exact b1,by lia,fun y'=>?_⟩;rw [b3];have:q ≠ p:=by
   rintro rfl;have ij:=Gp hn e1 f1;subst ij;rw [e2] at f2; cases f2;exact z rfl
  simp [this]
theorem NB.mono {H:Hp} {B:Addr} {ps:List Str} {ds:List Addr} {P P':Str->Str->Prop} {n m:Nat} (h:NB H B ps ds P n) (hP:∀ a b,P a b ↔ P' a b) (hn:n<=m):NB H B ps ds P' m:=
 ⟨h.top,h.len,h.nd,h.nB,fun i p d e1 e2=>let ⟨nv,a1,a2,a3⟩:=h.inner i p d e1 e2; ⟨nv,a1,by lia,fun y=>(a3 y).trans (hP p y)⟩⟩
structure Jx (H:Hp) (q:Addr) (ps:List Str) (ws:List AG) (r:Str):Prop where
 web:Web H q ps ws
 nd:ps.Nodup
 l30:ps.length<=30
 l64:ws.length < 64
 ends:∀ u ∈ ws,u.1 ∈ ps/\u.2.1 ∈ ps
 first:ps[0]? = some r
 con:∀ S:Str->Prop,S r->(∀ x y,Ly ws x y->S x->S y)->∀ x ∈ ps,S x
theorem Jx.same {H H':Hp} {q:Addr} {ps:List Str} {ws:List AG} {r:Str} (h:Jx H q ps ws r) (s:Ar H H'):Jx H' q ps ws r:=
 ⟨h.web.same fun b xs z=>s _ _ z,h.nd,h.l30,h.l64,h.ends,h.first,h.con⟩
theorem S6 {ws:List AG} {i:Nat} {u:AG} (h:ws[i]? = some u) (a b:Str):Ly (ws.take gt) a b ↔ (Ly (ws.take i) a b\/(a=u.1/\b=u.2.1))\/(a=u.2.1/\b=u.1):=by
 rw [ax,h];constructor
 ·rintro ⟨v,hv,e⟩;rcases ak.mp hv with hv | hv
  ·exact .inl (.inl ⟨v,hv,e⟩)
  ·have:v=u:=by simpa using hv
   subst this;rcases e with ⟨e1,e2⟩ | ⟨e1,e2⟩
   ·exact .inl (.inr ⟨e1.symm,e2.symm⟩)
   ·exact .inr ⟨e2.symm,e1.symm⟩
 ·rintro ((⟨v,hv,e⟩ | ⟨rfl,rfl⟩) | ⟨rfl,rfl⟩)
  ·exact ⟨v,bx _ hv,e⟩
  ·exact ⟨u,ae _ gl,.inl ⟨rfl,rfl⟩⟩
  ·exact ⟨u,ae _ gl,.inr ⟨rfl,rfl⟩⟩
structure NR (H:Hp) (B:Addr) (ps:List Str) (ds:List Addr) (P:Str->Str->Prop):Prop where
 top:H B=some (.dK (sK (O4 ps ds)))
 len:ds.length=ps.length
 nd:ds.Nodup
 nB:B ∉ ds
 inner:∀ (i:Nat) (p:Str) (d:Addr),ps[i]? = some p->ds[i]? = some d->∃ nv:List gU,Rd H d (.dK (sK nv))/\∀ y,y ∈ nv.map (·.1) ↔ P p y
theorem NB.r {H:Hp} {B:Addr} {ps:List Str} {ds:List Addr} {P:Str->Str->Prop} {n:Nat} (h:NB H B ps ds P n):NR H B ps ds P:=
 ⟨h.top,h.len,h.nd,h.nB,fun i p d e1 e2=>let ⟨nv,a1,_,a3⟩:=h.inner i p d e1 e2; ⟨nv,.inl a1,a3⟩⟩
theorem NR.get {H:Hp} {B:Addr} {ps:List Str} {ds:List Addr} {P:Str->Str->Prop} (h:NR H B ps ds P) (hn:ps.Nodup) {p:Str} (hp:p ∈ ps) :
  ∃ (i:Nat) (d:Addr) (nv:List gU),ps[i]? = some p/\ds[i]? = some d/\Bm (sK (O4 ps ds)) (Sum.inr p:AF)=some (.ref d)/\Rd H d (.dK (sK nv))/\∀ y,y ∈ nv.map (·.1) ↔ P p y:=by
 obtain ⟨i,hi,e⟩:=aq hp;have e1:ps[i]? = some p:=by rw [ZN hi,e]
 have Uc:i < ds.length:=by rw [h.len]; exact hi
 have e2:ds[i]? = some ds[i]:=ZN Uc;obtain ⟨nv,a1,a3⟩:=h.inner i p _ e1 e2;refine ⟨i,_,nv,e1,e2,D7 ?_ (O3 e1 e2),a1,a3⟩;rw [IQ (by rw [h.len]; exact ZU _)];exact hn
theorem Rd.ne {H:Hp} {a b:Addr} {u o:HO} (h:Rd H a u) (hb:a ≠ b):Rd (upd H b o) a u:=by
 rcases h with h | ⟨ob,h⟩
 ·exact .inl (by rw [Af hb]; exact h)
 ·exact .inr ⟨ob,by rw [Af hb]; exact h⟩
theorem Rd.fz {H H':Hp} {a b:Addr} {u:HO} {kvs:List (AF × V)} {o:Obj} (h:Rd H a u) (f:Eu H b kvs o H') (hb:a ≠ b):Rd H' a u:=by
 rcases h with h | ⟨ob,h⟩
 ·exact .inl (by rw [f.ne hb]; exact h)
 ·exact .inr ⟨ob,by rw [f.ne hb]; exact h⟩
theorem NR.other {H:Hp} {B a:Addr} {ps:List Str} {ds:List Addr} {P:Str->Str->Prop} {o:HO} (h:NR H B ps ds P) (ha:a ∉ ds) (hB:a ≠ B):NR (upd H a o) B ps ds P:=
 ⟨by rw [Af (Ne.symm hB)]; exact h.top,h.len,h.nd,h.nB,fun i p d e1 e2=>let ⟨nv,a1,a3⟩:=h.inner i p d e1 e2
  ⟨nv,a1.ne (fun z=>ha (by rw [<-z]; exact ZS e2)),a3⟩⟩
theorem NR.freeze {H H':Hp} {B:Addr} {ps:List Str} {ds:List Addr} {P:Str->Str->Prop} (h:NR H B ps ds P) {i:Nat} {p:Str} {d:Addr} (e1:ps[i]? = some p) (e2:ds[i]? = some d) {nv:List gU} {o:Obj} (f:Eu H d (sK nv) o H') (hP:∀ y,y ∈ nv.map (·.1) ↔ P p y):NR H' B ps ds P:=by
 have dm:d ∈ ds:=ZS e2;refine ⟨by rw [f.ne (fun z=>h.nB (by rw [z]; exact dm))]; exact h.top,h.len,h.nd,h.nB,fun j q c f1 f2=>?_⟩;by_cases z:c=d
 ·subst z;have ij:i=j:=Gp h.nd e2 f2;subst ij;rw [e1] at f1; cases f1;exact ⟨nv,.inr ⟨o,f.at⟩,hP⟩
 ·obtain ⟨nw,b1,b3⟩:=h.inner j q c f1 f2;exact ⟨nw,b1.fz f z,b3⟩
theorem Tq {nv DU:List gU} {y:Str} {v:V} (e:Bw (sK nv) ib v=sK DU) (hn:(nv.map (·.1)).Nodup):(DU.map (·.1)).Nodup:=by
 have inj:∀ {a b:List gU},(sK a).map (·.1)=(sK b).map (·.1)->a.map (·.1)=b.map (·.1):=fun {a b} h=>by
  rw [KY,KY] at h;exact fJ (fun x y z=>Sum.inr.inj z) |>.mp h
 by_cases h:y ∈ nv.map (·.1)
 ·have e2:(Bw (sK nv) ib v).map (·.1)=(sK nv).map (·.1):=by
   unfold Bw;have:((sK nv).any fun kv=>decide (kv.1=ib))=true:=by rw [Co,Hn,decide_eq_true h]
   rw [if_pos this,aE];refine cj fun q _=>?_
   by_cases e:q.1=ib <;> simp [e]
  rw [e] at e2;rw [inj e2];exact hn
 ·rw [DE h] at e;have e2:(nv ++ [(y,v)]).map (·.1)=DU.map (·.1):=inj (by rw [e]);rw [<-e2,ZY];refine aW.mpr ⟨hn,aD.mpr ⟨by simp,.nil⟩,fun a ha b hb=>?_⟩;have e3:b=y:=by simpa using hb
  subst e3;rintro rfl;exact h ha
section
variable {ws:List AG} {r:Str} {bs:List (Str × Option Str)} {wk:List (Str × List Str)} {ps:List Str}
end
theorem GD {α:Type} {l:List (Str × α)} (h:(l.map (·.1)).Nodup) (f:Str × α->Bool):((l.filter f).map (·.1)).Nodup:=by
 have s:List.Sublist ((l.filter f).map (·.1)) (l.map (·.1)):=List.Sublist.map _ bO;exact s.nodup h
theorem Aq.thaw {X:Cx} {pins:List cr} {σ:St} {H:Hp} {s:Shared} {a:Addr} {o:Obj} {u:HO} (I:Aq X pins σ H s) (e:H a=some (.frz o u)) (h0:∀ ob w,X.H₀ a ≠ some (.frz ob w)) (hu:u ≠ .own a/\∀ xs,u ≠ .tup xs):Aq X pins σ (upd H a u) s:=by
 obtain ⟨ho,hok⟩:=(show AE X.prog X.w H s.heap a (.frz o u) from I.hok a _ e)
 have nn:∀ b,H b=none->b ≠ a:=fun b hb z=>by rw [z,e] at hb; cases hb
 have own:∀ b y,H b=some (.own y)->b ≠ a:=fun b y hb z=>by rw [z,e] at hb; cases hb
 have tup:∀ b xs,H b=some gX->b ≠ a:=fun b xs hb z=>by rw [z,e] at hb; cases hb
 refine ⟨I.ok,I.os,I.bare,⟨I.base.keep,I.base.slot,fun b ob q n hx=>?_,I.base.there,fun b xs q=>?_,fun b ob w q=>?_,fun b ps q=>?_⟩,I.loc,I.cell,?_,fun x c q=>?_,fun p hp=>?_,fun b w q=>?_,I.len⟩
 ·have z:=I.base.free b ob q n hx;rw [Af (nn b z)]; exact z
 ·have z:=I.base.tups b xs q;rw [Af (tup b xs z)]; exact z
 ·have z:=I.base.frzs b ob w q;by_cases hb:b=a
  ·subst hb; exact absurd q (h0 ob w)
  ·rw [Af hb]; exact z
 ·obtain ⟨more,z⟩:=I.base.tbls b ps q;exists more;rw [Af (fun hb=>by rw [hb,e] at z; cases z)]; exact z
 ·rw [Af (nn _ I.free)]; exact I.free
 ·rw [Af (nn _ (I.freeC x c q))]; exact I.freeC x c q
 ·obtain ⟨z1,z2,z3⟩:=I.pin p hp;exact ⟨z1,by rw [Af (nn _ z2)]; exact z2,z3⟩
 ·by_cases hb:b=a
  ·subst hb;rw [Ab] at q;cases q
   exact hok.stay (fun c v _ z=>z) (fun c z=>by rw [Af (own c _ z)]; exact z) fun c xs z=>by rw [Af (tup c xs z)]; exact z
  ·rw [Af hb] at q;exact (I.hok b w q).stay (fun c v _ z=>z) (fun c z=>by rw [Af (own c _ z)]; exact z) fun c xs z=>by rw [Af (tup c xs z)]; exact z
theorem T5 {X:Cx} {e:Expr} {t:TE} (h:PE X e t):PE X e (fun σ H Q=>t σ H fun x H1=>∃ a o kvs,H1 a=some (.frz o iz)/\(∀ ob w,X.H₀ a ≠ some (.frz ob w))/\Q x (upd H1 a iz)):=by
 intro pins s σ H Q I q;refine B5 (h (pins:=pins) s σ H _ I q) fun v s1 ⟨x,H1,I1,r1,a,o,kvs,e1,h0,q1⟩=>?_
 exact ⟨x,_,I1.thaw e1 h0 ⟨(by intro z; cases z),(by intro xs z; cases z)⟩,r1,q1⟩
def CK (A:Around) (s:Shared) (x y:Value) (b:Bool):Prop:=∀ (prog:Program) (w:World) (E Q:Value->Shared->Prop),Q (.bool b) s->wpAny ap A (richCompare .Lt x y) Q E s
theorem CK.int (A:Around) (s:Shared) (a:Int) (t:Tok) (c:Int) (u:Tok):CK A s (.int a t) (.int c u) (decide (a < c)):=fun prog w E Q h=>
 (PyProof.Rows.lt_int h:wpAny ap A (compareOp .Lt (.int a t) (.int c u)) Q E s)
theorem CK.str (A:Around) (s:Shared) (a:Str) (t:Tok) (c:Str) (u:Tok):CK A s (.str a t) (.str c u) (decide (a.cps.toList < c.cps.toList)):=fun prog w E Q h=>
 (PySem.P.lt_str h:wpAny ap A (compareOp .Lt (.str a t) (.str c u)) Q E s)
section
open PySem.SeqAt
open PySem.AutoSeq1 (wpAny_loadPart')
open PySem.MeetsSeq PySem.MeetsSeq2 PySem.MeetsSeq3
theorem Pf (l b:Addr) (x1 x2 y1 y2:Value) (n n2:Nat) (dd MC:Option Addr) (sl Of:Array (Option Value)) (e1 b1 e2 b2:Bool) :
  Meets (Builtin.«tuple.__lt__» ⟨[.ref l,.ref b],[]⟩)
   (fun A R s=>s.heap.get? l=some { cls:=.type "tuple",dict:=dd,data:=.seq #[x1,x2] n,slots:=sl }/\s.heap.get? b=some { cls:=.type "tuple",dict:=MC,data:=.seq #[y1,y2] n2,slots:=Of } /\
    EqAt A.in1 s x1 y1 e1/\(e1=false->CK A.in1 s x1 y1 b1)/\(e1=true->EqAt A.in1 s x2 y2 e2/\(e2=false->CK A.in1 s x2 y2 b2)) /\
    R (.ok (.ret (.bool (if e1=true then (if e2=true then false else b2) else b1)))) s):=
 .of_wp fun prog w A R s h=>by
  obtain ⟨hp,g,d,tk,os⟩:=s; obtain ⟨hl,hb,he1,QB,h2,h⟩:=h;have f2:=AutoSeq1.sub_tuple_tuple;wp_walk using wpAny_loadPart' hl,wpAny_loadPart' hb,wpAny_forIn_list _ (fun CC b s'=>b.1=none/\s'=⟨hp,g,d,tk,os⟩/\(CC=[(x1,y1),(x2,y2)]\/(CC=[(x2,y2)]/\e1=true)\/(CC=[]/\e1=true/\e2=true))) _
  case turn=>
   rintro ⟨y,x⟩ CC b s' ⟨F4,rfl,hz | ⟨hz,h1⟩ | ⟨hz,_⟩⟩
   ·cases hz
    refine wpAny_bind (he1 prog w _ _ ?_);cases ee:e1 with
    | true=>
     wp_walk
     exact ⟨rfl,rfl,.inr (.inl ⟨rfl,rfl⟩)⟩
    | false=>
     rw [ee,if_neg ah] at h;have hri:=QB ee prog w;wp_walk using hri;exact ⟨_,rfl,by simpa using h⟩
   ·cases hz
    obtain ⟨he2,Kx⟩:=h2 h1;rw [if_pos h1] at h;refine wpAny_bind (he2 prog w _ _ ?_);cases ee:e2 with
    | true=>
     wp_walk
     exact ⟨rfl,rfl,.inr (.inr ⟨rfl,h1,rfl⟩)⟩
    | false=>
     rw [ee,if_neg ah] at h;have hri:=Kx ee prog w;wp_walk using hri;exact ⟨_,rfl,by simpa using h⟩
   ·cases hz
  case fin=>
   rintro ⟨b1',b2'⟩ s' ⟨F4,rfl,hz | ⟨hz,h1⟩ | ⟨hz,h1,US⟩⟩
   ·cases hz
   ·cases hz
   ·simp only at F4;subst F4;rw [if_pos h1,if_pos US] at h;wp_walk;exact ⟨_,rfl,by simpa [Builtin.Tuple.tupleCompareSizes] using h⟩
  case h=>
   exact ⟨rfl,rfl,.inl rfl⟩
end
theorem CK.tup2 {A:Around} {s:Shared} {l b:Addr} {x1 x2 y1 y2:Value} {e1 b1 e2 b2:Bool} (hl:IsTup s.heap l #[x1,x2]) (hb:IsTup s.heap b #[y1,y2]) (hu:A.units < cLine) (h1:SeqAt.EqAt A.in1 s x1 y1 e1) (l1:e1=false->CK A.in1 s x1 y1 b1)
  (h2:e1=true->SeqAt.EqAt A.in1 s x2 y2 e2/\(e2=false->CK A.in1 s x2 y2 b2)):CK A s (.ref l) (.ref b) (if e1=true then (if e2=true then false else b2) else b1):=fun prog w E Q h=>by
 obtain ⟨⟨cls,dd,data,sl⟩,ho,hc,n,hd⟩:=id hl;obtain ⟨⟨Wf,MC,data2,Of⟩,Qo,Qq,n2,hd2⟩:=id hb;simp only at hc hd Qq hd2;subst hc hd Qq hd2;exact richCompare_meets_room (op:=.Lt) ⟨_,ho,rfl⟩ ⟨_,Qo,rfl⟩ PySem.F.slot_tuple_lt PySem.F.entry_tuple_lt (PySem.F.args_tuple_lt_2 _ _) (Pf l b x1 x2 y1 y2 n n2 dd MC sl Of e1 b1 e2 b2)
  ⟨ho,Qo,h1,l1,h2,show Value.bool _ ≠ Value.notImplemented/\Q (.bool _) s from ⟨(fun x=>nomatch x),h⟩⟩ hu
def SN (p q:Int × Str):Bool:=if (p.1 == q.1)=true then (if (p.2 == q.2)=true then false else decide (p.2.cps.toList < q.2.cps.toList)) else decide (p.1 < q.1)
def DP (h:Heap) (v:Value) (p:Int × Str):Prop:=∃ a t u,v=.ref a/\IsTup h a #[.int p.1 t,.str p.2 u]
theorem DP.keep {h h':Heap} {v:Value} {p:Int × Str} (x:DP h v p) (k:∀ b o,h.get? b=some o->h'.get? b=some o):DP h' v p:=by
 obtain ⟨a,t,u,rfl,o,ho,r⟩:=x;exact ⟨a,t,u,rfl,o,k _ _ ho,r⟩
theorem O6 {A:Around} {s:Shared} {v w:Value} {p q:Int × Str} (hv:DP s.heap v p) (hw:DP s.heap w q) (hu:A.units < cLine):CK A s v w (SN p q):=by
 obtain ⟨a,t,u,rfl,hl⟩:=hv;obtain ⟨b,t',u',rfl,hb⟩:=hw;exact CK.tup2 hl hb hu (SeqAt.EqAt.int_int _ _ _ _) (fun _=>CK.int _ _ _ _ _ _) fun _=>⟨SeqAt.EqAt.str_str _ _ _ _,fun _=>CK.str _ _ _ _ _ _⟩
theorem Uj {A:Around} {s:Shared} {v w:Value} {p q:Int × Str} (hv:DP s.heap v p) (hw:DP s.heap w q) (hu:A.units < cLine):SeqAt.EqAt A s v w (decide (p=q)):=by
 obtain ⟨a,t,u,rfl,hl⟩:=hv;obtain ⟨b,t',u',rfl,hb⟩:=hw;by_cases hab:a=b
 ·subst hab;have e:p=q:=by
   obtain ⟨o,ho,hc,n,hd⟩:=hl;obtain ⟨o',JE,Ii,n',MB⟩:=hb;rw [ho] at JE;cases JE
   rw [hd] at MB;injection MB with e1 e2;have e3:=congrArg dW e1;simp only [cI.injEq,Value.int.injEq,Value.str.injEq] at e3;exact Prod.ext e3.1.1 e3.2.1.1
  rw [decide_eq_true e];intro prog w E Q h;unfold eqBool;refine wpAny_holding ?_;exact wpAny_ite_split (fun _=>wpAny_bind (wpAny_rule (wpAny_pure h))) (fun hn=>absurd gl hn)
 ·have key:=SeqAt.RcAt.tuples (A:=A) (s:=s) (e:=fun j=>if j=0 then p.1 == q.1 else p.2 == q.2) (show s.heap.IsTuple a #[.int p.1 t,.str p.2 u] from hl) (show s.heap.IsTuple b #[.int q.1 t',.str q.2 u'] from hb) hu (fun j h1 h2=>by
   match j,h1,h2 with
   | 0,_,_=>exact SeqAt.EqAt.int_int _ _ _ _
   | 1,_,_=>exact SeqAt.EqAt.str_str _ _ _ _
   | j + 2,h1,_=>exact absurd (show j + 2 < 2 from h1) ad)
  have e:((bD (min (#[Value.int p.1 t,.str p.2 u]:Array Value).size (#[Value.int q.1 t',.str q.2 u']:Array Value).size)).all (fun j=>if j=0 then p.1 == q.1 else p.2 == q.2) && (#[Value.int p.1 t,.str p.2 u]:Array Value).size == (#[Value.int q.1 t',.str q.2 u']:Array Value).size)=decide (p=q):=by
   show ((bD 2).all (fun j=>if j=0 then p.1 == q.1 else p.2 == q.2) && (2 == 2))=decide (p=q)
   have:(bD 2)=[0,1]:=rfl;rw [this];simp only [dM,List.all_nil,dN,beq_self_eq_true];rw [bG];simp [Prod.ext_iff]
  rw [e] at key;exact SeqAt.EqAt.of_refs hab key
def J1 (h:Heap) (v:Value) (k:(Int × Str) × Str):Prop:=∃ a l u,v=.ref a/\IsTup h a #[.ref l,.str k.2 u]/\DP h (.ref l) k.1
theorem J1.keep {h h':Heap} {v:Value} {p:(Int × Str) × Str} (x:J1 h v p) (k:∀ b o,h.get? b=some o->h'.get? b=some o):J1 h' v p:=by
 obtain ⟨a,l,u,rfl,⟨o,ho,r⟩,z⟩:=x;exact ⟨a,l,u,rfl,⟨o,k _ _ ho,r⟩,z.keep k⟩
def UK (p q:(Int × Str) × Str):Bool:=if decide (p.1=q.1)=true then (if (p.2 == q.2)=true then false else decide (p.2.cps.toList < q.2.cps.toList)) else SN p.1 q.1
theorem VF {A:Around} {s:Shared} {v w:Value} {p q:(Int × Str) × Str} (hv:J1 s.heap v p) (hw:J1 s.heap w q) (hu:A.units + 1 < cLine):CK A s v w (UK p q):=by
 obtain ⟨a,l,u,rfl,hl,hp⟩:=hv;obtain ⟨b,l',u',rfl,hb,hq⟩:=hw;exact CK.tup2 hl hb ad (Uj hp hq (by rw [PySem.Around.in1_units]; exact hu)) (fun _=>O6 hp hq (by rw [PySem.Around.in1_units]; exact hu)) fun _=>⟨SeqAt.EqAt.str_str _ _ _ _,fun _=>CK.str _ _ _ _ _ _⟩
def U3 (prog:Program) (w:World) (A:Around) (g0:Heap) (P:Nat->Value->Prop) (bt:Nat->Nat->Bool):Prop:=
 ∀ i j vi vj (s:Shared) (Q:Value->Shared->Prop) (E:Value->Shared->Prop),(∀ b o,g0.get? b=some o->s.heap.get? b=some o)->P i vi->P j vj->Q (.bool (bt i j)) s->wpAny ap A (richCompare .Lt vi vj) Q E s
section
variable {prog:Program} {w:World} {A:Around} {R:Result->Shared->Prop} {I:Addr} {fp wr:List Addr} {n:Nat} {P:Nat->Value->Prop} {St:Nat->Heap->Prop} {g0:Heap}
theorem Qg (W:Walks prog w A.in1 I fp wr n P St) (bt:Nat->Nat->Bool) (cm:U3 prog w A.in1 g0 P bt) (S:Addr) (nS:S ∉ fp) (gw:∀ b o,g0.get? b=some o->b ∉ wr/\b ≠ S) :
  ∀ (m j:Nat) (s:Shared) (bv:Value) (c:Nat),n - (j + 1)=m->j + 1<=n->St (j + 1) s.heap->P (argBest bt j) bv->(∀ b o,g0.get? b=some o->s.heap.get? b=some o) ->
  s.heap.get? S=some { cls:=.type "list",dict:=none,data:=.seq #[bv,bv] c,slots:=#[] } ->
  (∀ v h2 tk,P (argBest bt (n - 1)) v->(∀ b o,b ∉ wr->b ≠ S->s.heap.get? b=some o->h2.get? b=some o)->R (.ok (.ret v)) { s with heap:=h2,toks:=tk }) ->
  codeAny ap A (.builtin "min.loop" ⟨[.ref I,.none,.ref S],[]⟩) R s:=by
 have Sw:S ∉ wr:=fun z=>nS (W.sub _ z)
 have nm:(toString "min" ++ toString ".loop":String)="min.loop":=by decide
 intro m;induction m with
 | zero=>
  intro j s bv c hm hj st pb g1 aS r;have jn:j + 1=n:=by lia
  refine codeAny_builtin F.entry_min_loop ?_;rw [Around.under_plainId F.plain_min_loop _];refine wpAny_bind (m:=seqItems? (.ref S)) (wpAny_seqItems aS rfl ?_);refine wpAny_bind (wpAny_tryCatch (W.done s _ _ (jn ▸ st) fun h2 tk k2=>?_));have UZ:=k2 S _ Sw aS;refine wpAny_bind (m:=updateSeq S (fun _=>#[])) ?_;refine wpAny_updateSeq UZ rfl (wpAny_bind (wpAny_letGo gK));exact r bv _ tk (by rw [<-jn]; exact pb) fun b o bw bS e=>(aU _ _ (Ne.symm bS)).trans (k2 b o bw e)
 | succ m ih=>
  intro j s bv c hm hj st pb g1 aS r;have lt:j + 1 < n:=by lia
  refine codeAny_builtin F.entry_min_loop ?_;rw [Around.under_plainId F.plain_min_loop _];refine wpAny_bind (m:=seqItems? (.ref S)) (wpAny_seqItems aS rfl ?_);refine wpAny_bind (wpAny_tryCatch (W.item (j + 1) s _ _ lt st fun v h2 tk pv Fs k2=>?_));have UZ:=k2 S _ Sw aS;have g2:∀ b o,g0.get? b=some o->h2.get? b=some o:=fun b o e=>k2 b o (gw b o e).1 (g1 b o e)
  show wpAny _ A.in1 (tryCatch (holding [v,v] (richCompare .Lt v bv >>= _)) _ >>= _) _ _ _
  refine wpAny_bind (wpAny_tryCatch (wpAny_holding (wpAny_bind (cm (j + 1) (argBest bt j) v bv _ _ _ g2 pv pb ?_))));refine wpAny_bind (wpAny_holding (wpAny_truthy_bool ?_));refine wpAny_bind (wpAny_letGo gK);cases hb:bt (j + 1) (argBest bt j) with
  | true=>
   simp only [if_true];refine wpAny_bind ?_;refine wpAny_updateSeq UZ rfl (wpAny_bind (wpAny_letGo ?_));rw [nm];refine wpAny_pure ⟨plainId_quiet F.plain_min_loop _,ih (j + 1) _ v _ ad lt (W.frame _ _ _ Fs fun b bf o e=>?_) (by simp only [argBest,hb,if_true]; exact pv) (fun b o e=>?_) (aY _ UZ rfl) fun v' h3 Vl WO k3=>?_⟩
   ·exact (aU _ _ (fun z:S=b=>nS (by rw [z]; exact bf))).trans e
   ·exact (aU _ _ (Ne.symm (gw b o e).2)).trans (g2 b o e)
   ·exact r v' h3 Vl WO fun b o bw bS e=>k3 b o bw bS ((aU _ _ (Ne.symm bS)).trans (k2 b o bw e))
  | false=>
   simp only [aF,if_false];refine wpAny_bind (wpAny_letGo ?_);rw [nm];refine wpAny_pure ⟨plainId_quiet F.plain_min_loop _,ih (j + 1) _ bv c ad lt Fs (by simp only [argBest,hb,aF,if_false]; exact pb) g2 UZ fun v' h3 Vl WO k3=>?_⟩;exact r v' h3 Vl WO fun b o bw bS e=>k3 b o bw bS (k2 b o bw e)
theorem IS (W:Walks prog w A.in1 I fp wr n P St) (bt:Nat->Nat->Bool) (cm:U3 prog w A.in1 g0 P bt) (S:Addr) (nS:S ∉ fp) (gw:∀ b o,g0.get? b=some o->b ∉ wr/\b ≠ S) (hn:0 < n) {s:Shared} {c:Nat} (st:St 0 s.heap)
  (g1:∀ b o,g0.get? b=some o->s.heap.get? b=some o) (aS:s.heap.get? S=some { cls:=.type "list",dict:=none,data:=.seq #[] c,slots:=#[] })
  (r:∀ v h2 tk,P (argBest bt (n - 1)) v->(∀ b o,b ∉ wr->b ≠ S->s.heap.get? b=some o->h2.get? b=some o)->R (.ok (.ret v)) { s with heap:=h2,toks:=tk }) :
  codeAny ap A (.builtin "min.loop" ⟨[.ref I,.none,.ref S],[]⟩) R s:=by
 have Sw:S ∉ wr:=fun z=>nS (W.sub _ z)
 have nm:(toString "min" ++ toString ".loop":String)="min.loop":=by decide
 refine codeAny_builtin F.entry_min_loop ?_;rw [Around.under_plainId F.plain_min_loop _];refine wpAny_bind (m:=seqItems? (.ref S)) (wpAny_seqItems aS rfl ?_);refine wpAny_bind (wpAny_tryCatch (W.item 0 s _ _ hn st fun v h2 tk pv Fs k2=>?_));have UZ:=k2 S _ Sw aS;refine wpAny_bind (m:=updateSeq S (fun _=>#[v,v])) ?_;refine wpAny_updateSeq UZ rfl ?_;rw [nm];refine wpAny_pure ⟨plainId_quiet F.plain_min_loop _,Qg W bt cm S nS gw _ 0 _ v _ rfl hn (W.frame _ _ _ Fs fun b bf o e=>?_) pv (fun b o e=>?_) (aY _ UZ rfl) fun v' h3 Vl WO k3=>?_⟩
 ·exact (aU _ _ (fun z:S=b=>nS (by rw [z]; exact bf))).trans e
 ·exact (aU _ _ (Ne.symm (gw b o e).2)).trans (k2 b o (gw b o e).1 (g1 b o e))
 ·exact r v' h3 Vl WO fun b o bw bS e=>k3 b o bw bS ((aU _ _ (Ne.symm bS)).trans (k2 b o bw e))
end
section
variable {prog:Program} {w:World} {A:Around} {E:Value->Shared->Prop} {s:Shared}
theorem GH {l:Addr} {vs:List Value} {bt:Nat->Nat->Bool} {Q:Value->Shared->Prop} (hh:A.handled=none) (hl:s.heap.IsList l vs.toArray) (hn:0 < vs.length) (cm:U3 prog w A.in1 s.heap (fun i v=>vs[i]? = some v) bt)
  (h:∀ v h2 tk,vs[argBest bt (vs.length - 1)]? = some v->(∀ b o,s.heap.get? b=some o->h2.get? b=some o)->Q v { s with heap:=h2,toks:=tk }):wpAny ap A (call (.builtin "min") [.ref l]) Q E s:=by
 have nm:(toString "min" ++ toString ".loop":String)="min.loop":=by decide
 have B0:l < s.heap.objs.size:=by obtain ⟨o,ho,_⟩:=id hl; exact ZW ho
 refine call_function_tree F.kind_min F.plain_min F.entry_min (F.args_min1 _) ?_;refine wpAny_bind (wpAny_of_eq (show Builtin.Builtins.bindParams "min" ["key","default"] 0 ⟨[],[]⟩=pure [none,none] from rfl) ?_);refine wpAny_bind gK;refine wpAny_bind (wpAny_pyIter_list hl ?_);refine wpAny_bind (wpAny_newObj_type ?_);rw [nm];have sz:(s.heap.push { cls:=.type "list_iterator",data:=.fields #[.ref l,.int 0 0] }).objs.size=s.heap.objs.size + 1:=aT ..;have W:=(Walks.list (prog:=prog) (w:=w) (A:=A.in1) hh s.heap.objs.size l (ab B0) vs.toArray).weaken (P':=fun i v=>vs[i]? = some v) (fun i v e=>by simpa using e);refine wpAny_pure ⟨plainId_quiet F.plain_min_loop _,IS (g0:=s.heap) W bt cm (s.heap.push { cls:=.type "list_iterator",data:=.fields #[.ref l,.int 0 0] }).objs.size (fun hm=>?_) (fun b o e=>⟨fun hm=>?_,fun z=>?_⟩) (by simpa using hn) ?_ (fun b o e=>ZO _ (ZO _ e)) (ZX _ rfl) fun v h2 tk pv k2=>?_⟩
 ·rw [sz] at hm;rcases ZZ.mp hm with z | hm
  ·exact absurd z (Nat.succ_ne_self _)
  ·rcases ZZ.mp hm with z | hm
   ·exact absurd z (bj (aA B0))
   ·cases hm
 ·have:=ZW e;rw [aa.mp hm] at this;exact absurd this (ba _)
 ·have:=ZW e;rw [z,sz] at this;exact absurd this (dk.mpr (aL _))
 ·exact ⟨⟨_,ZO _ (ZX _ rfl),rfl,rfl⟩,(hl.push _).push _⟩
 ·refine h v h2 tk (by simpa using pv) fun b o e=>k2 b o (fun hm=>?_) iu (ZO _ (ZO _ e))
  ·have:=ZW e;rw [aa.mp hm] at this;exact absurd this (ba _)
  ·have:=ZW e;rw [z,sz] at this;exact absurd this (dk.mpr (aL _))
end
section
variable {prog:Program} {w:World} {A:Around} {E:Value->Shared->Prop} {s:Shared}
theorem RZ {a b:Value} {bt:Nat->Nat->Bool} {Q:Value->Shared->Prop} (hh:A.handled=none) (cm:U3 prog w A.in1 s.heap (fun i v=>[a,b][i]? = some v) bt)
  (h:∀ v h2 tk,[a,b][argBest bt 1]? = some v->(∀ c o,s.heap.get? c=some o->h2.get? c=some o)->Q v { s with heap:=h2,toks:=tk }):wpAny ap A (call (.builtin "min") [a,b]) Q E s:=by
 have nm:(toString "min" ++ toString ".loop":String)="min.loop":=by decide
 have hT:(s.heap.push { cls:=.type "tuple",data:=.seq #[a,b] }).IsTuple s.heap.objs.size #[a,b]:=⟨_,ZX _ rfl,rfl,0,rfl⟩
 refine call_function_tree F.kind_min F.plain_min F.entry_min (F.args_min2 _ _) ?_;refine wpAny_bind (wpAny_of_eq (show Builtin.Builtins.bindParams "min" ["key","default"] 0 ⟨[],[]⟩=pure [none,none] from rfl) ?_);show wpAny _ A.in1 (newTuple [a,b] >>= _) _ _ s
 refine wpAny_bind (wpAny_newObj_type ?_);refine wpAny_bind (wpAny_pyIter_tuple hT ?_);refine wpAny_bind (wpAny_newObj_type ?_);rw [nm];have s1:(s.heap.push { cls:=.type "tuple",data:=.seq #[a,b] }).objs.size=s.heap.objs.size + 1:=aT ..;have s2:((s.heap.push { cls:=.type "tuple",data:=.seq #[a,b] }).push { cls:=.type "tuple_iterator",data:=.fields #[.ref s.heap.objs.size,.int 0 0] }).objs.size=s.heap.objs.size + 2:=by rw [aT,s1]
 have W:=(Walks.tuple (prog:=prog) (w:=w) (A:=A.in1) hh (s.heap.push { cls:=.type "tuple",data:=.seq #[a,b] }).objs.size s.heap.objs.size (by rw [s1]; exact ab (aK _)) #[a,b]).weaken (P':=fun i v=>[a,b][i]? = some v) (fun i v e=>by simpa using e);refine wpAny_pure ⟨plainId_quiet F.plain_min_loop _,IS (g0:=s.heap) W bt cm ((s.heap.push { cls:=.type "tuple",data:=.seq #[a,b] }).push { cls:=.type "tuple_iterator",data:=.fields #[.ref s.heap.objs.size,.int 0 0] }).objs.size (fun hm=>?_) (fun b o e=>⟨fun hm=>?_,fun z=>?_⟩) gl ?_ (fun b o e=>ZO _ (ZO _ (ZO _ e))) (ZX _ rfl) fun v h2 tk pv k2=>?_⟩
 ·rw [s2] at hm;rcases ZZ.mp hm with z | hm
  ·rw [s1] at z; exact absurd z (bj (aK _))
  ·rcases ZZ.mp hm with z | hm
   ·exact absurd z (bj (aA (aK _)))
   ·cases hm
 ·have:=ZW e;rw [aa.mp hm,s1] at this;exact absurd this (dk.mpr (aL _))
 ·have:=ZW e;rw [z,s2] at this;exact absurd this (dk.mpr (az (aL _) (aL _)))
 ·exact ⟨⟨_,ZO _ (ZX _ rfl),rfl,rfl⟩,(hT.push _).push _⟩
 ·refine h v h2 tk (by simpa using pv) fun b o e=>k2 b o (fun hm=>?_) iu (ZO _ (ZO _ (ZO _ e)))
  ·have:=ZW e;rw [aa.mp hm,s1] at this;exact absurd this (dk.mpr (aL _))
  ·have:=ZW e;rw [z,s2] at this;exact absurd this (dk.mpr (az (aL _) (aL _)))
end
theorem Jw (bt:Nat->Nat->Bool) (num:Nat->Int) (h1:∀ i j,bt i j=true->num i<=num j) (h2:∀ i j,bt i j=false->num j<=num i):∀ k,argBest bt k<=k/\∀ j,j<=k->num (argBest bt k)<=num j
 | 0=>⟨ZU _,fun j hj=>by
  have:j=0:=by lia
  subst this; exact b5 _⟩
 | k + 1=>by
  obtain ⟨a1,a2⟩:=Jw bt num h1 h2 k;simp only [argBest];cases hc:bt (k + 1) (argBest bt k) with
  | true=>
   simp only [if_true];refine ⟨ZU _,fun j hj=>?_⟩;have:=h1 _ _ hc;by_cases JF:j<=k
   ·have:=a2 j JF; lia
   ·have:j=k + 1:=by lia
    subst this; exact b5 _
  | false=>
   simp only [aF,if_false];refine ⟨cX a1,fun j hj=>?_⟩;by_cases JF:j<=k
   ·exact a2 j JF
   ·have:j=k + 1:=by lia
    subst this; exact h2 _ _ hc
def KD (H:Hp) (v:V) (p:Int × Str):Prop:=∃ t,v=.ref t/\H t=some (.tup [.int p.1,.str p.2])
def Vd (H:Hp) (v:V) (k:(Int × Str) × Str):Prop:=∃ t t2,v=.ref t/\H t=some (.tup [.ref t2,.str k.2])/\KD H (.ref t2) k.1
theorem KD.same {H H':Hp} {v:V} {p:Int × Str} (h:KD H v p) (s:∀ b xs,H b=some gX->H' b=some gX):KD H' v p:=let ⟨t,e,z⟩:=h; ⟨t,e,s _ _ z⟩
theorem Vd.same {H H':Hp} {v:V} {p:(Int × Str) × Str} (h:Vd H v p) (s:∀ b xs,H b=some gX->H' b=some gX):Vd H' v p:=let ⟨t,t2,e,z,q⟩:=h; ⟨t,t2,e,s _ _ z,q.same s⟩
theorem KD.at {X:Cx} {pins:List cr} {σ:St} {H:Hp} {s:Shared} {v:V} {u:Value} {p:Int × Str} (I:Aq X pins σ H s) (r:AA v u) (h:KD H v p):DP s.heap u p:=by
 obtain ⟨t,rfl,ht⟩:=h;cases r
 obtain ⟨As,rv,pl,hz⟩:=I.tuple (AI.of ht);cases rv with
 | cons a1 b1=>
  cases b1 with
  | cons a2 b2=>
   cases b2
   obtain ⟨t1,rfl⟩:=a1;obtain ⟨t2,rfl⟩:=a2;exact ⟨t,t1,t2,rfl,pl⟩
theorem Vd.at {X:Cx} {pins:List cr} {σ:St} {H:Hp} {s:Shared} {v:V} {u:Value} {k:(Int × Str) × Str} (I:Aq X pins σ H s) (r:AA v u) (h:Vd H v k):J1 s.heap u k:=by
 obtain ⟨t,l,rfl,ht,hp⟩:=h;cases r
 obtain ⟨As,rv,pl,hz⟩:=I.tuple (AI.of ht);cases rv with
 | cons a1 b1=>
  cases b1 with
  | cons a2 b2=>
   cases b2
   cases a1
   obtain ⟨t2,rfl⟩:=a2;exact ⟨t,l,t2,rfl,pl,hp.at I (show AA (V.ref l) (Value.ref l) from rfl)⟩
def DA (p q:Int × Str):Prop:=p.1 < q.1\/(p.1=q.1/\¬ q.2.cps.toList < p.2.cps.toList)
theorem DA.refl (p:Int × Str):DA p p:=.inr ⟨rfl,dB _⟩
theorem DA.trans {p q r:Int × Str} (h1:DA p q) (h2:DA q r):DA p r:=by
 rcases h1 with a | ⟨a,b⟩ <;> rcases h2 with c | ⟨c,d⟩
 ·exact .inl ad
 ·exact .inl ad
 ·exact .inl ad
 ·exact .inr ⟨by lia,cA.mpr (g9 (cA.mp b) (cA.mp d))⟩
theorem DA.add {d d' l:Int} {s s':Str} (h:DA (d,s) (d',s')):DA (d + l,s) (d' + l,s'):=by
 rcases h with a | ⟨a,b⟩
 ·have a':d < d':=a;exact .inl (show d + l < d' + l by lia)
 ·have a':d=d':=a;exact .inr ⟨show d + l=d' + l by lia,b⟩
theorem DA.up {d d':Int} {s:Str} (h:d<=d'):DA (d,s) (d',s):=by
 by_cases e:d=d'
 ·exact .inr ⟨e,dB _⟩
 ·exact .inl (show d < d' by lia)
theorem DA.fst {p q:Int × Str} (h:DA p q):p.1<=q.1:=by
 rcases h with a | ⟨a,_⟩ <;> lia
theorem O7 {p q:Int × Str} (h:SN p q=true):DA p q:=by
 unfold SN at h;by_cases e:(p.1 == q.1)=true
 ·have e':p.1=q.1:=by simpa using e
  rw [if_pos e] at h;by_cases e2:(p.2 == q.2)=true
  ·rw [if_pos e2] at h; cases h
  ·rw [if_neg e2] at h;exact .inr ⟨e',cK (by simpa using h)⟩
 ·rw [if_neg e] at h;exact .inl (by simpa using h)
theorem O8 {p q:Int × Str} (h:SN p q=false):DA q p:=by
 unfold SN at h;by_cases e:(p.1 == q.1)=true
 ·have e':p.1=q.1:=by simpa using e
  rw [if_pos e] at h;by_cases e2:(p.2 == q.2)=true
  ·have Yn:p.2=q.2:=by simpa using e2
   exact .inr ⟨e'.symm,by rw [Yn]; exact dB _⟩
  ·rw [if_neg e2] at h;exact .inr ⟨e'.symm,by simpa using h⟩
 ·rw [if_neg e] at h;have e':¬ p.1=q.1:=by simpa using e
  have:¬ p.1 < q.1:=by simpa using h
  exact .inl ad
theorem TM {p q:(Int × Str) × Str} (h:UK p q=true):DA p.1 q.1:=by
 unfold UK at h;by_cases e:decide (p.1=q.1)=true
 ·have:p.1=q.1:=by simpa using e
  rw [this]; exact DA.refl _
 ·rw [if_neg e] at h;exact O7 h
theorem TN {p q:(Int × Str) × Str} (h:UK p q=false):DA q.1 p.1:=by
 unfold UK at h;by_cases e:decide (p.1=q.1)=true
 ·have:p.1=q.1:=by simpa using e
  rw [this]; exact DA.refl _
 ·rw [if_neg e] at h;exact O8 h
theorem HI (bt:Nat->Nat->Bool) (num:Nat->Int × Str) (h1:∀ i j,bt i j=true->DA (num i) (num j)) (h2:∀ i j,bt i j=false->DA (num j) (num i)):∀ k,argBest bt k<=k/\∀ j,j<=k->DA (num (argBest bt k)) (num j)
 | 0=>⟨ZU _,fun j hj=>by
  have:j=0:=by lia
  subst this; exact DA.refl _⟩
 | k + 1=>by
  obtain ⟨a1,a2⟩:=HI bt num h1 h2 k;simp only [argBest];cases hc:bt (k + 1) (argBest bt k) with
  | true=>
   simp only [if_true];refine ⟨ZU _,fun j hj=>?_⟩;by_cases JF:j<=k
   ·exact (h1 _ _ hc).trans (a2 j JF)
   ·have:j=k + 1:=by lia
    subst this; exact DA.refl _
  | false=>
   simp only [aF,if_false];refine ⟨cX a1,fun j hj=>?_⟩;by_cases JF:j<=k
   ·exact a2 j JF
   ·have:j=k + 1:=by lia
    subst this; exact h2 _ _ hc
theorem Jt {X:Cx} (hc:X.calm=true) (hu:X.A.units + 64 < cLine):Bo X (.builtin "min") (fun xs H Q=>∃ (a:Addr) (vs:List V) (ks:List ((Int × Str) × Str)),xs=[.ref a]/\H a=some (.lst vs)/\vs.length=ks.length/\ks ≠ []/\(∀ (i:Nat) v k,vs[i]? = some v->ks[i]? = some k->Vd H v k) /\
  ∀ v k,k ∈ ks->Vd H v k->(∀ k' ∈ ks,DA k.1 k'.1)->Q v H):=by
 intro pins s σ H xs us Q I r h;obtain ⟨a,vs,ks,rfl,ha,hl,hne,hk,q⟩:=h;obtain ⟨u,rfl,ru⟩:=BV r;cases ru
 obtain ⟨As,rv,pl,hz⟩:=I.list (AB.of ha);have il:As.length=ks.length:=by rw [<-rv.length,hl]
 have pos:0 < ks.length:=bP.mpr hne;have kat:∀ (i:Nat) (v:Value),As[i]? = some v->∃ k,ks[i]? = some k/\J1 s.heap v k/\∃ x,vs[i]? = some x/\AA x v:=fun i v e=>by
  have hi:i < As.length:=(ZT.mp e).1;have e1:vs[i]? = some vs[i]:=ZN ad;have e2:ks[i]? = some ks[i]:=ZN ad;obtain ⟨v',e3,r3⟩:=rv.get e1;rw [e] at e3;cases e3
  exact ⟨_,e2,(hk i _ _ e1 e2).at I r3,_,e1,r3⟩
 refine GH (bt:=fun i j=>UK (ks.getD i default) (ks.getD j default)) iG pl.isList ad (fun i j vi vj s' Q' E' g hi hj hQ=>?_) fun v h2 tk hv k2=>?_
 ·obtain ⟨ki,e1,a1,_⟩:=kat i vi hi;obtain ⟨kj,e2,a2,_⟩:=kat j vj hj;have d1:ks.getD i default=ki:=by rw [ai,e1]; rfl
  have d2:ks.getD j default=kj:=by rw [ai,e2]; rfl
  dsimp only at hQ;rw [d1,d2] at hQ;exact VF (a1.keep g) (a2.keep g) (by rw [PySem.Around.in1_units]; lia) _ _ _ _ hQ
 ·obtain ⟨k,e1,a1,x,e3,r3⟩:=kat _ v hv;obtain ⟨b1,b2⟩:=HI (fun i j=>UK (ks.getD i default) (ks.getD j default)) (fun i=>(ks.getD i default).1) (fun _ _=>TM) (fun _ _=>TN) (As.length - 1);refine ⟨x,H,I.kept k2,r3,q x k (ZS e1) (hk _ x k e3 e1) fun k' Nx=>?_⟩;obtain ⟨j,hj,ej⟩:=aq Nx;have:=b2 j ad;have d1:ks.getD (argBest (fun i j=>UK (ks.getD i default) (ks.getD j default)) (As.length - 1)) default=k:=by rw [ai,e1]; rfl
  have d2:ks.getD j default=k':=by rw [ai,ZN hj,ej]; rfl
  rw [d1,d2] at this;exact this
theorem JI {X:Cx} (hc:X.calm=true) (hu:X.A.units + 64 < cLine):Bo X (.builtin "min") (fun xs H Q=>∃ (x y:V) (p q:Int × Str),xs=[x,y]/\KD H x p/\KD H y q/\((DA q p->Q y H)/\(DA p q->Q x H))):=by
 intro pins s σ H xs us Q I r h;obtain ⟨x,y,p,q,rfl,hx,hy,q1,q2⟩:=h;obtain ⟨u,v,rfl,ru,rv⟩:=NO r;have pu:=hx.at I ru;have pv:=hy.at I rv;refine RZ (bt:=fun i j=>SN ([p,q].getD i default) ([p,q].getD j default)) iG (fun i j vi vj s' Q' E' g hi hj hQ=>?_) fun z h2 tk hz k2=>?_
 ·have at':∀ (i:Nat) (vi:Value),[u,v][i]? = some vi->DP s.heap vi ([p,q].getD i default):=fun i vi e=>by
   match i,e with
   | 0,e=>cases e; exact pu
   | 1,e=>cases e; exact pv
   | i + 2,e=>cases e
  exact O6 ((at' i vi hi).keep g) ((at' j vj hj).keep g) (by rw [PySem.Around.in1_units]; lia) _ _ _ _ hQ
 ·have e:argBest (fun i j=>SN ([p,q].getD i default) ([p,q].getD j default)) 1=if SN q p=true then 1 else 0:=rfl
  rw [e] at hz;cases hl:SN q p with
  | true=>
   rw [hl,if_pos rfl] at hz;cases hz
   exact ⟨y,H,I.kept k2,rv,q1 (O7 hl)⟩
  | false=>
   rw [hl,if_neg ah] at hz;cases hz
   exact ⟨x,H,I.kept k2,ru,q2 (O8 hl)⟩
def Cb (ws:List AG) (x y:Str) (l:Int):Prop:=∃ u ∈ ws,((u.1=x/\u.2.1=y)\/(u.1=y/\u.2.1=x))/\u.2.2=l
theorem Cb.adj {ws:List AG} {x y:Str} {l:Int} (h:Cb ws x y l):Ly ws x y:=let ⟨u,hu,e,_⟩:=h; ⟨u,hu,e⟩
theorem Cb.symm {ws:List AG} {x y:Str} {l:Int} (h:Cb ws x y l):Cb ws y x l:=let ⟨u,hu,e,z⟩:=h; ⟨u,hu,e.symm,z⟩
inductive Br (ws:List AG):Str->Str->Int->Prop
 | nil (x:Str):Br ws x x 0
 | cons {x y z:Str} {l m:Int}:Cb ws x y l->Br ws y z m->Br ws x z (l + m)
theorem Br.app {ws:List AG} {x y z:Str} {m n:Int} (h:Br ws x y m) (g:Br ws y z n):Br ws x z (m + n):=by
 induction h with
 | nil x=>rw [e9]; exact g
 | cons e _ ih=>rw [dQ]; exact .cons e (ih g)
theorem Br.snoc {ws:List AG} {x y z:Str} {m l:Int} (h:Br ws x y m) (e:Cb ws y z l):Br ws x z (m + l):=by
 have:=h.app (.cons e (.nil z));rwa [eA] at this
theorem Br.symm {ws:List AG} {x y:Str} {m:Int} (h:Br ws x y m):Br ws y x m:=by
 induction h with
 | nil x=>exact .nil x
 | @cons x y z l m e _ ih=>rw [Int.add_comm]; exact ih.snoc e.symm
theorem Br.pos {ws:List AG} (hp:∀ u ∈ ws,1<=u.2.2) {x y:Str} {m:Int} (h:Br ws x y m):0<=m:=by
 induction h with
 | nil x=>exact b5 _
 | cons e _ ih=>
  obtain ⟨u,hu,_,rfl⟩:=e;have:=hp u hu;lia
def NG (ws:List AG) (ss:List Str) (y:Str) (p:Int × Str):Prop:=(p.2 ∈ ss/\Br ws p.2 y p.1)/\∀ s ∈ ss,∀ m,Br ws s y m->DA p (m,s)
structure U2 (ws:List AG) (ss:List Str) (S R:Str->Int × Str->Prop):Prop where
 near:∀ y p,S y p->NG ws ss y p
 reach:∀ y p,R y p->p.2 ∈ ss/\Br ws p.2 y p.1
 relax:∀ x p y l,S x p->Cb ws x y l->(∃ q,S y q)\/∃ q,R y q/\DA q (p.1 + l,p.2)
 start:∀ s ∈ ss,(∃ q,S s q)\/∃ q,R s q/\DA q (0,s)
theorem U2.out {ws:List AG} {ss:List Str} {S R:Str->Int × Str->Prop} (h:U2 ws ss S R) (hp:∀ u ∈ ws,1<=u.2.2) {x z:Str} {m:Int} (g:Br ws x z m) (hz:∀ q,¬ S z q):∀ p,S x p->∃ y q,R y q/\DA q (p.1 + m,p.2):=by
 induction g with
 | nil x=>intro p YY; exact absurd YY (hz p)
 | @cons x y z l m e g ih=>
  intro p hx;rcases h.relax x p y l hx e with ⟨q,hq⟩ | ⟨q,hq,le⟩
  ·obtain ⟨y',q',h1,h2⟩:=ih hz q hq;refine ⟨y',q',h1,h2.trans ?_⟩;have n1:=(h.near y q hq).2 p.2 (h.near x p hx).1.1 (p.1 + l) ((h.near x p hx).1.2.snoc e);have:=n1.add (l:=m);rw [dQ] at this;exact this
  ·exact ⟨y,q,hq,le.trans (DA.up (by have:=g.pos hp; lia))⟩
theorem U2.pick {ws:List AG} {ss:List Str} {S R:Str->Int × Str->Prop} (h:U2 ws ss S R) (hp:∀ u ∈ ws,1<=u.2.2) {y:Str} {p:Int × Str} (hy:R y p) (ny:∀ q,¬ S y q) (least:∀ z q,R z q->DA p q):NG ws ss y p:=by
 refine ⟨h.reach y p hy,fun s hs m g=>?_⟩;rcases h.start s hs with ⟨q,hq⟩ | ⟨q,hq,le⟩
 ·obtain ⟨z,q',h1,h2⟩:=h.out hp g ny q hq;refine (least z q' h1).trans (h2.trans ?_);have n1:=(h.near s q hq).2 s hs 0 (.nil s);have:=(show DA (q.1,q.2) (0,s) from n1).add (l:=m);rw [e9] at this;exact this
 ·exact (least s q hq).trans (le.trans (DA.up (g.pos hp)))
theorem U2.done {ws:List AG} {ss:List Str} {S R:Str->Int × Str->Prop} (h:U2 ws ss S R) (hR:∀ y p,¬ R y p) {r:Str} (hss:ss ≠ []) {ps:List Str} (con:∀ T:Str->Prop,T r->(∀ x y,Ly ws x y->T x->T y)->∀ x ∈ ps,T x)
  (ZF:∀ T:Str->Prop,∀ x ∈ ps,T x->(∀ x y,Ly ws x y->T x->T y)->T r) (sub:∀ s ∈ ss,s ∈ ps):∀ x ∈ ps,∃ q,S x q:=by
 have cl:∀ x y,Ly ws x y->(∃ q,S x q)->∃ q,S y q:=fun x y ⟨u,hu,e⟩ ⟨q,hq⟩=>by
  rcases h.relax x q y u.2.2 hq ⟨u,hu,e,rfl⟩ with z | ⟨q',hq',_⟩
  ·exact z
  ·exact absurd hq' (hR _ _)
 obtain ⟨s,hs⟩:=List.exists_mem_of_ne_nil ss hss;have s0:∃ q,S s q:=by
  rcases h.start s hs with z | ⟨q,hq,_⟩
  ·exact z
  ·exact absurd hq (hR _ _)
 exact con (fun x=>∃ q,S x q) (ZF (fun x=>∃ q,S x q) s (sub s hs) s0 cl) cl
theorem KZ {a b:List gU} (h:sK a=sK b):a=b:=by
 unfold sK at h;exact fJ (fun x y z=>by
  simp only [Prod.mk.injEq,Sum.inr.injEq] at z;exact Prod.ext z.1 z.2) |>.mp h
theorem Ia {nv DU:List gU} {y:Str} {v:V} (e:Bw (sK nv) ib v=sK DU):∀ z x,(z,x) ∈ DU ↔ (z=y/\x=v)\/(z ≠ y/\(z,x) ∈ nv):=by
 intro z x;by_cases h:y ∈ nv.map (·.1)
 ·have e2:Bw (sK nv) ib v=sK (nv.map fun q=>if q.1=y then (q.1,v) else q):=by
   unfold Bw;have:((sK nv).any fun kv=>decide (kv.1=ib))=true:=by rw [Co,Hn,decide_eq_true h]
   rw [if_pos this];unfold sK;rw [aE,aE];refine cj fun q _=>?_
   by_cases e:q.1=y
   ·simp [e]
   ·have e':¬ (Sum.inr q.1:AF)=Sum.inr y:=fun z=>e (Sum.inr.inj z)
    simp [e,e']
  rw [e2] at e;rw [<-KZ e,ZR];constructor
  ·rintro ⟨q,hq,e⟩;by_cases eq:q.1=y
   ·rw [if_pos eq] at e;have e1:q.1=z:=congrArg Prod.fst e;have e3:v=x:=congrArg Prod.snd e;exact .inl ⟨by rw [<-e1,eq],e3.symm⟩
   ·rw [if_neg eq] at e;refine .inr ⟨?_,by rw [<-e]; exact hq⟩;rw [show z=q.1 from (congrArg Prod.fst e).symm]; exact eq
  ·rintro (⟨rfl,rfl⟩ | ⟨h1,h2⟩)
   ·obtain ⟨q,hq,e1⟩:=ZR.mp h;have Wd:q.1=z:=e1;exact ⟨q,hq,by rw [if_pos Wd,Wd]⟩
   ·exact ⟨(z,x),h2,by rw [if_neg h1]⟩
 ·rw [DE h] at e;rw [<-KZ e,ak];constructor
  ·rintro (h1 | h1)
   ·refine .inr ⟨?_,h1⟩;rintro rfl;exact h (ZR.mpr ⟨_,h1,rfl⟩)
   ·simp only [aa,Prod.mk.injEq] at h1;exact .inl h1
  ·rintro (⟨rfl,rfl⟩ | ⟨_,h2⟩)
   ·exact .inr gl
   ·exact .inl h2
theorem Tr (nv:List gU) (y:Str):Jk (sK nv) ib=sK (nv.filter fun q=>decide (q.1 ≠ y)):=by
 unfold Jk sK;rw [List.filter_map];congr 1;refine List.filter_congr fun q _=>?_
 by_cases e:q.1=y
 ·simp [e]
 ·have e':¬ (Sum.inr q.1:AF)=Sum.inr y:=fun z=>e (Sum.inr.inj z)
  simp [e,e']
def SR (H:Hp) (ps:List Str) (ds:List Addr) (Ed:Str->Str->Int->Prop):Prop:=∀ (i:Nat) (p:Str) (d:Addr) (nv:List gU),ps[i]? = some p->ds[i]? = some d->Rd H d (.dK (sK nv))->∀ y v,(y,v) ∈ nv->∃ l,v=.int l/\Ed p y l
theorem Rd.inj {H:Hp} {d:Addr} {a b:List gU} (h:Rd H d (.dK (sK a))) (g:Rd H d (.dK (sK b))):a=b:=by
 rcases h with h | ⟨o,h⟩ <;> rcases g with g | ⟨o',g⟩ <;> have e:=ar.inj (h.symm.trans g)
 ·injection e with e; exact KZ e
 ·exact nomatch e
 ·exact nomatch e
 ·injection e with _ e;injection e with e; exact KZ e
theorem SR.put {H:Hp} {ps:List Str} {ds:List Addr} {Ed Ed':Str->Str->Int->Prop} (h:SR H ps ds Ed) (hn:ps.Nodup) (dn:ds.Nodup) {i:Nat} {p y:Str} {d:Addr} {l:Int} (e1:ps[i]? = some p) (e2:ds[i]? = some d) {nv DU:List gU} (hd:H d=some (.dK (sK nv)))
  (ep:Bw (sK nv) ib (.int l)=sK DU) (mono:∀ a b m,Ed a b m->Ed' a b m) (new:Ed' p y l):SR (upd H d (.dK (sK DU))) ps ds Ed':=by
 intro j q c nw f1 f2 hr z v hz;by_cases hc:c=d
 ·subst hc;have ij:i=j:=Gp dn e2 f2;subst ij;rw [e1] at f1; cases f1;have:nw=DU:=Rd.inj hr (.inl Ab);subst this;rcases (Ia ep z v).mp hz with ⟨rfl,rfl⟩ | ⟨_,Q9⟩
  ·exact ⟨l,rfl,new⟩
  ·obtain ⟨l',e,ed⟩:=h i _ c nv e1 e2 (.inl hd) z v Q9;exact ⟨l',e,mono _ _ _ ed⟩
 ·have OG:Rd H c (.dK (sK nw)):=by
   rcases hr with g | ⟨o,g⟩
   ·exact .inl (by rw [Af hc] at g; exact g)
   ·exact .inr ⟨o,by rw [Af hc] at g; exact g⟩
  obtain ⟨l',e,ed⟩:=h j q c nw f1 f2 OG z v hz;exact ⟨l',e,mono _ _ _ ed⟩
def Rf (K:ZP):Sp:=fun vs H Q _=>∃ (q:Addr) (ps:List Str) (ws:List AG) (r:Str),vs=[.ref q]/\Jx H q ps ws r /\
 ∀ (H':Hp) (B:Addr) (ds:List Addr),Ar H H'->NB H' B ps ds (Ly ws) 128->SR H' ps ds (Cb ws)->H B=none->(∀ d ∈ ds,H d=none)->Q (.ref B) H'
theorem PI.or {X:Cx} {tg l:Expr} {w1 w2:TI} (h1:PI X tg l w1) (h2:PI X tg l w2):PI X tg l (fun σ H R=>w1 σ H R\/w2 σ H R):=by
 intro pins s σ H R I h;rcases h with h | h
 ·exact h1 (pins:=pins) s σ H R I h
 ·exact h2 (pins:=pins) s σ H R I h
def ND (H:Hp) (nv:List gU) (S:Str->Int × Str->Prop):Prop:=(nv.map (·.1)).Nodup/\(∀ y v,(y,v) ∈ nv->∃ p,KD H v p/\S y p)/\∀ y p,S y p->∃ v,(y,v) ∈ nv/\KD H v p
def Rc (K:ZP):Sp:=fun vs H Q _=>∃ (q st:Addr) (ps ss:List Str) (ws:List AG) (r:Str),vs=[.ref q,.ref st]/\Jx H q ps ws r/\(∀ u ∈ ws,1<=u.2.2)/\(∀ x y l l',Cb ws x y l->Cb ws x y l'->l=l')/\(H st=some (.lst ic)\/H st=some (.tup ic))/\ss ≠ []/\ss.Nodup/\(∀ s ∈ ss,s ∈ ps) /\
 ∀ (H':Hp) (B:Addr) (nv:List gU),Ar H H'->H B=none->H' B=some (.dK (sK nv))->(nv.map (·.1)).Nodup->(∀ x,x ∈ nv.map (·.1) ↔ x ∈ ps)->(∀ y v,(y,v) ∈ nv->∃ p,KD H' v p/\NG ws ss y p)->Q (.ref B) H'
theorem Kg {nv:List gU} {y:Str} {v:V} (h:Bm (sK nv) ib=some v):(y,v) ∈ nv:=by
 unfold Bm at h;cases e:(sK nv).find? (fun kv=>decide (kv.1=ib)) with
 | none=>rw [e] at h; cases h
 | some kv=>
  rw [e] at h;have h1:=List.find?_some e;have h2:=List.mem_of_find?_eq_some e;obtain ⟨q,hq,rfl⟩:=ZR.mp h2;have e1:q.1=y:=by
   have:(Sum.inr q.1:AF)=Sum.inr y:=by simpa using h1
   exact Sum.inr.inj this
  have e2:q.2=v:=ar.inj h;rw [<-e1,<-e2];exact hq
theorem Qz {ws:List AG} {i:Nat} {a b:Str} {m:Int} (h:Cb (ws.take i) a b m):Cb (ws.take gt) a b m:=by
 obtain ⟨u,hu,e⟩:=h;rw [ax];exact ⟨u,bx _ hu,e⟩
theorem Mv {ws:List AG} {i:Nat} {u:AG} (h:ws[i]? = some u):Cb (ws.take gt) u.1 u.2.1 u.2.2:=by
 rw [ax,h];exact ⟨u,ae _ gl,.inl ⟨rfl,rfl⟩,rfl⟩
theorem KD.fn {H:Hp} {v:V} {p q:Int × Str} (h:KD H v p) (g:KD H v q):p=q:=by
 obtain ⟨t,rfl,e⟩:=h;obtain ⟨t',e',g⟩:=g;have:t=t':=by injection e'
 subst this;have z:=ar.inj (e.symm.trans g);injection z with z;simp only [cI.injEq,V.int.injEq,V.str.injEq] at z;exact Prod.ext z.1 z.2.1
theorem NR.same {H H':Hp} {B:Addr} {ps:List Str} {ds:List Addr} {P:Str->Str->Prop} (h:NR H B ps ds P) (s:Ar H H'):NR H' B ps ds P:=
 ⟨s _ _ h.top,h.len,h.nd,h.nB,fun i p d e1 e2=>let ⟨nv,a1,a3⟩:=h.inner i p d e1 e2
  ⟨nv,(by rcases a1 with a | ⟨o,a⟩; exact .inl (s _ _ a); exact .inr ⟨o,s _ _ a⟩),a3⟩⟩
theorem SR.of {H H':Hp} {B:Addr} {ps:List Str} {ds:List Addr} {P:Str->Str->Prop} {Ed:Str->Str->Int->Prop} (h:SR H ps ds Ed) (nr:NR H B ps ds P) (k:∀ d ∈ ds,∀ nv:List gU,Rd H d (.dK (sK nv))->Rd H' d (.dK (sK nv))):SR H' ps ds Ed:=by
 intro i p d nv e1 e2 hr y v hy;obtain ⟨nw,a1,_⟩:=nr.inner i p d e1 e2;have:=Rd.inj hr (k d (ZS e2) nw a1);subst this;exact h i p d nv e1 e2 a1 y v hy
theorem ND.same {H H':Hp} {nv:List gU} {S:Str->Int × Str->Prop} (h:ND H nv S) (s:∀ b xs,H b=some gX->H' b=some gX):ND H' nv S:=
 ⟨h.1,fun y v hv=>let ⟨p,a,b⟩:=h.2.1 y v hv; ⟨p,a.same s,b⟩,fun y p hp=>let ⟨v,a,b⟩:=h.2.2 y p hp; ⟨v,a,b.same s⟩⟩
theorem ND.fn {H:Hp} {nv:List gU} {S:Str->Int × Str->Prop} (h:ND H nv S) {y:Str} {p q:Int × Str} (hp:S y p) (hq:S y q):p=q:=by
 obtain ⟨v,a,b⟩:=h.2.2 y p hp;obtain ⟨w,c,d⟩:=h.2.2 y q hq;have:=QL h.1 a c;subst this;exact b.fn d
theorem ND.put {H:Hp} {nv DU:List gU} {S:Str->Int × Str->Prop} {y:Str} {v:V} {p:Int × Str} (h:ND H nv S) (e:Bw (sK nv) ib v=sK DU) (hv:KD H v p):ND H DU (fun z q=>(z=y/\q=p)\/(z ≠ y/\S z q)):=by
 refine ⟨Tq e h.1,fun z x hz=>?_,fun z q hq=>?_⟩
 ·rcases (Ia e z x).mp hz with ⟨rfl,rfl⟩ | ⟨n,Q9⟩
  ·exact ⟨p,hv,.inl ⟨rfl,rfl⟩⟩
  ·obtain ⟨q,a,b⟩:=h.2.1 z x Q9;exact ⟨q,a,.inr ⟨n,b⟩⟩
 ·rcases hq with ⟨rfl,rfl⟩ | ⟨n,hq⟩
  ·exact ⟨v,(Ia e _ _).mpr (.inl ⟨rfl,rfl⟩),hv⟩
  ·obtain ⟨x,a,b⟩:=h.2.2 z q hq;exact ⟨x,(Ia e _ _).mpr (.inr ⟨n,a⟩),b⟩
theorem ND.drop {H:Hp} {nv:List gU} {S:Str->Int × Str->Prop} (h:ND H nv S) (y:Str):ND H (nv.filter fun q=>decide (q.1 ≠ y)) (fun z q=>z ≠ y/\S z q):=by
 refine ⟨GD h.1 _,fun z x hz=>?_,fun z q hq=>?_⟩
 ·obtain ⟨a,b⟩:=aO.mp hz;obtain ⟨q,c,d⟩:=h.2.1 z x a;exact ⟨q,c,by simpa using b,d⟩
 ·obtain ⟨n,hq⟩:=hq;obtain ⟨x,a,b⟩:=h.2.2 z q hq;exact ⟨x,aO.mpr ⟨a,by simpa using n⟩,b⟩
structure NI (H H2:Hp) (ps:List Str) (ws:List AG) (B RA SA:Addr) (ds:List Addr) (nvR nvS:List gU) (S R:Str->Int × Str->Prop):Prop where
 same:Ar H H2
 nr:NR H2 B ps ds (Ly ws)
 nbv:SR H2 ps ds (Cb ws)
 dR:H2 RA=some (.dK (sK nvR))
 dS:H2 SA=some (.dK (sK nvS))
 pR:ND H2 nvR R
 pS:ND H2 nvS S
 subR:∀ y ∈ nvR.map (·.1),y ∈ ps
 subS:∀ y ∈ nvS.map (·.1),y ∈ ps
section
variable {H H2 H3:Hp} {ps:List Str} {ws:List AG} {B RA SA:Addr} {ds:List Addr} {nvR nvS:List gU} {S R:Str->Int × Str->Prop}
theorem NI.grow (h:NI H H2 ps ws B RA SA ds nvR nvS S R) (s:Ar H2 H3):NI H H3 ps ws B RA SA ds nvR nvS S R:=
 ⟨h.same.trans s,h.nr.same s,h.nbv.of h.nr fun d _ nv z=>by rcases z with a | ⟨o,a⟩; exact .inl (s _ _ a); exact .inr ⟨o,s _ _ a⟩,s _ _ h.dR,s _ _ h.dS,h.pR.same fun b xs z=>s _ _ z,h.pS.same fun b xs z=>s _ _ z,h.subR,h.subS⟩
theorem NI.lenS (h:NI H H2 ps ws B RA SA ds nvR nvS S R):nvS.length<=ps.length:=by
 have:=Cq h.pS.1 h.subS;rwa [ZM] at this
theorem NI.lenR (h:NI H H2 ps ws B RA SA ds nvR nvS S R):nvR.length<=ps.length:=by
 have:=Cq h.pR.1 h.subR;rwa [ZM] at this
theorem NI.inS (h:NI H H2 ps ws B RA SA ds nvR nvS S R) {y:Str}:y ∈ nvS.map (·.1) ↔ ∃ q,S y q:=by
 constructor
 ·intro hy;obtain ⟨⟨z,v⟩,a,b⟩:=ZR.mp hy;have b':z=y:=b;subst b';obtain ⟨p,_,c⟩:=h.pS.2.1 z v a;exact ⟨p,c⟩
 ·rintro ⟨q,hq⟩;obtain ⟨v,a,_⟩:=h.pS.2.2 y q hq;exact ZR.mpr ⟨_,a,rfl⟩
theorem NI.inR (h:NI H H2 ps ws B RA SA ds nvR nvS S R) {y:Str}:y ∈ nvR.map (·.1) ↔ ∃ q,R y q:=by
 constructor
 ·intro hy;obtain ⟨⟨z,v⟩,a,b⟩:=ZR.mp hy;have b':z=y:=b;subst b';obtain ⟨p,_,c⟩:=h.pR.2.1 z v a;exact ⟨p,c⟩
 ·rintro ⟨q,hq⟩;obtain ⟨v,a,_⟩:=h.pR.2.2 y q hq;exact ZR.mpr ⟨_,a,rfl⟩
theorem NI.setR (h:NI H H2 ps ws B RA SA ds nvR nvS S R) (aR:RA ∉ ds/\RA ≠ B/\RA ≠ SA/\H RA=none) {DU:List gU} {R':Str->Int × Str->Prop} (p':ND H2 DU R') (sub:∀ y ∈ DU.map (·.1),y ∈ ps):NI H (upd H2 RA (.dK (sK DU))) ps ws B RA SA ds DU nvS S R':=by
 have tu:∀ b xs,H2 b=some gX->(upd H2 RA (.dK (sK DU))) b=some gX:=fun b xs z=>by
  rw [Af (BM z h.dR (by intro z; cases z))]; exact z
 exact ⟨fun b o z=>by rw [Af (Ai z aR.2.2.2)]; exact h.same _ _ z,h.nr.other aR.1 aR.2.1,h.nbv.of h.nr fun d hd nv z=>z.ne (fun e=>aR.1 (by rw [<-e]; exact hd)),Ab,by rw [Af (Ne.symm aR.2.2.1)]; exact h.dS,p'.same tu,h.pS.same tu,sub,h.subS⟩
theorem NI.setS (h:NI H H2 ps ws B RA SA ds nvR nvS S R) (aS:SA ∉ ds/\SA ≠ B/\SA ≠ RA/\H SA=none) {DU:List gU} {S':Str->Int × Str->Prop} (p':ND H2 DU S') (sub:∀ y ∈ DU.map (·.1),y ∈ ps):NI H (upd H2 SA (.dK (sK DU))) ps ws B RA SA ds nvR DU S' R:=by
 have tu:∀ b xs,H2 b=some gX->(upd H2 SA (.dK (sK DU))) b=some gX:=fun b xs z=>by
  rw [Af (BM z h.dS (by intro z; cases z))]; exact z
 exact ⟨fun b o z=>by rw [Af (Ai z aS.2.2.2)]; exact h.same _ _ z,h.nr.other aS.1 aS.2.1,h.nbv.of h.nr fun d hd nv z=>z.ne (fun e=>aS.1 (by rw [<-e]; exact hd)),by rw [Af (Ne.symm aS.2.2.1)]; exact h.dR,Ab,h.pR.same tu,p'.same tu,h.subR,sub⟩
theorem NI.frz (h:NI H H2 ps ws B RA SA ds nvR nvS S R) (aR:RA ∉ ds) (aS:SA ∉ ds) (fr:∀ d ∈ ds,H d=none) {i:Nat} {p:Str} {d:Addr} (e1:ps[i]? = some p) (e2:ds[i]? = some d) {nv:List gU} {o:Obj} (f:Eu H2 d (sK nv) o H3) (hP:∀ y,y ∈ nv.map (·.1) ↔ Ly ws p y):NI H H3 ps ws B RA SA ds nvR nvS S R:=by
 have dm:d ∈ ds:=ZS e2;have tu:∀ b xs,H2 b=some gX->H3 b=some gX:=fun b xs z=>by
  rw [f.ne (by
   rintro rfl;rcases f with ⟨g,_⟩ | ⟨g,_⟩ <;> (rw [z] at g; cases g))]
  exact z
 refine ⟨fun b u z=>by rw [f.ne (Ai z (fr d dm))]; exact h.same _ _ z,h.nr.freeze e1 e2 f hP,h.nbv.of h.nr fun c hc nw z=>?_,by rw [f.ne (fun z=>aR (by rw [z]; exact dm))]; exact h.dR,by rw [f.ne (fun z=>aS (by rw [z]; exact dm))]; exact h.dS,h.pR.same tu,h.pS.same tu,h.subR,h.subS⟩;by_cases hcd:c=d
 ·subst hcd;rcases f with ⟨g,e⟩ | ⟨g,e⟩
  ·have:=Rd.inj z (.inl g);subst this;exact .inr ⟨o,by rw [e]; exact Ab⟩
  ·rw [e]; exact z
 ·exact z.fz f hcd
end
theorem ET:entryFor table "dict.update.loop"=some Builtin.«dict.update.loop»:=entryFor_of_tree (by kernel_rfl)
theorem C7:plainId "dict.update.loop"=true:=by decide +kernel
def Vb (g0:Heap) (v:Value) (p:Str × V):Prop:=∃ a t u,v=.ref a/\IsTup g0 a #[.str p.1 t,u]/\AA p.2 u
section
variable {prog:Program} {w:World} {A:Around} {R:Result->Shared->Prop} {g0:Heap} {D it l:Addr} {vs:List Value} {ps:List gU}
end
section
variable {prog:Program} {w:World} {A:Around} {E:Value->Shared->Prop} {s:Shared}
end
theorem Ml:∀ (b a:List gU),((a ++ b).map (·.1)).Nodup->IU (sK a) (sK b)=sK (a ++ b)
 | [],a,_=>by rw [bc]; rfl
 | q :: b,a,hn=>by
  have nq:q.1 ∉ a.map (·.1):=by
   rw [ZY,ag] at hn;intro hm;exact (aW.mp hn).2.2 q.1 hm q.1 aj rfl
  show IU (Bw (sK a) (Sum.inr q.1) q.2) (sK b)=_
  rw [DE nq];have:=Ml b (a ++ [(q.1,q.2)]) (by rw [aX]; exact hn);rw [this,aX];rfl
theorem Rw:∀ {ws:List AG},(ws.Pairwise fun u v=>¬ Ea u v)->∀ {u v:AG},u ∈ ws->v ∈ ws->Ea u v->u=v
 | [],_,u,v,hu,_,_=>nomatch hu
 | a :: ws,h,u,v,hu,hv,al=>by
  obtain ⟨h1,h2⟩:=bB.mp h;rcases ZZ.mp hu with e1 | Yd
  ·rcases ZZ.mp hv with e2 | YU
   ·rw [e1,e2]
   ·exact absurd (by rw [<-e1]; exact al) (h1 v YU)
  ·rcases ZZ.mp hv with e2 | YU
   ·refine absurd ?_ (h1 u Yd);rw [<-e2];rcases al with ⟨a1,a2⟩ | ⟨a1,a2⟩
    ·exact .inl ⟨a1.symm,a2.symm⟩
    ·exact .inr ⟨a2.symm,a1.symm⟩
   ·exact Rw h2 Yd YU al
theorem Qy {ws:List AG} (h:ws.Pairwise fun u v=>¬ Ea u v) {x y:Str} {l l':Int} (e:Cb ws x y l) (e':Cb ws x y l'):l=l':=by
 obtain ⟨u,hu,a,rfl⟩:=e;obtain ⟨v,hv,b,rfl⟩:=e';have:u=v:=Rw h hu hv (by
  rcases a with ⟨a1,a2⟩ | ⟨a1,a2⟩ <;> rcases b with ⟨b1,b2⟩ | ⟨b1,b2⟩
  ·exact .inl ⟨a1.trans b1.symm,a2.trans b2.symm⟩
  ·exact .inr ⟨a1.trans b2.symm,a2.trans b1.symm⟩
  ·exact .inr ⟨a1.trans b2.symm,a2.trans b1.symm⟩
  ·exact .inl ⟨a1.trans b1.symm,a2.trans b2.symm⟩)
 rw [this]
theorem K2 {ws M9:List AG} (p:M9.Perm (ws.map E7)) (x y:Str) (l:Int):Cb M9 x y l ↔ Cb ws x y l:=by
 constructor
 ·rintro ⟨u,hu,h,e⟩;obtain ⟨v,hv,rfl⟩:=ZR.mp (p.mem_iff.mp hu);refine ⟨v,hv,?_,e⟩;rcases DV v with ⟨e1,e2⟩ | ⟨e1,e2⟩
  ·rw [e1,e2] at h; exact h
  ·rw [e1,e2] at h;rcases h with ⟨a,b⟩ | ⟨a,b⟩
   ·exact .inr ⟨b,a⟩
   ·exact .inl ⟨b,a⟩
 ·rintro ⟨v,hv,h,e⟩;refine ⟨E7 v,p.mem_iff.mpr (ZR.mpr ⟨v,hv,rfl⟩),?_,e⟩;rcases DV v with ⟨e1,e2⟩ | ⟨e1,e2⟩
  ·rw [e1,e2]; exact h
  ·rw [e1,e2];rcases h with ⟨a,b⟩ | ⟨a,b⟩
   ·exact .inr ⟨b,a⟩
   ·exact .inl ⟨b,a⟩
theorem QI {ws M9:List AG} (h:∀ x y l,Cb M9 x y l ↔ Cb ws x y l) {x y:Str} {m:Int}:Br M9 x y m ↔ Br ws x y m:=by
 constructor
 ·intro g;induction g with
  | nil x=>exact .nil x
  | cons e _ ih=>exact .cons ((h _ _ _).mp e) ih
 ·intro g;induction g with
  | nil x=>exact .nil x
  | cons e _ ih=>exact .cons ((h _ _ _).mpr e) ih
def KG (ws:List AG) (x y:Str) (n:Int):Prop:=Br ws x y n/\∀ m,Br ws x y m->n<=m
theorem NG.dst {ws:List AG} {x y:Str} {p:Int × Str} (h:NG ws [x] y p):p.2=x/\KG ws x y p.1:=by
 have e:p.2=x:=by simpa using h.1.1
 refine ⟨e,by rw [<-e]; exact h.1.2,fun m g=>(h.2 x gl m g).fst⟩
theorem KG.uniq {ws:List AG} {x y:Str} {n m:Int} (h:KG ws x y n) (g:KG ws x y m):n=m:=Int.le_antisymm (h.2 m g.1) (g.2 n h.1)
theorem KG.symm {ws:List AG} {x y:Str} {n:Int} (h:KG ws x y n):KG ws y x n:=⟨h.1.symm,fun m g=>h.2 m g.symm⟩
inductive WI (ws:List AG) (I:Str->Prop):Str->Str->Int->Prop
 | edge {x y:Str} {l:Int}:Cb ws x y l->WI ws I x y l
 | cons {x y z:Str} {l m:Int}:Cb ws x y l->I y->WI ws I y z m->WI ws I x z (l + m)
theorem WI.pos {ws:List AG} (hp:∀ u ∈ ws,1<=u.2.2) {I:Str->Prop} {x y:Str} {m:Int} (h:WI ws I x y m):0<=m:=by
 induction h with
 | edge e=>obtain ⟨u,hu,_,rfl⟩:=e; have:=hp u hu; lia
 | cons e _ _ ih=>obtain ⟨u,hu,_,rfl⟩:=e; have:=hp u hu; lia
theorem WI.ends {ws:List AG} {xs:List Str} (he:∀ u ∈ ws,u.1 ∈ xs/\u.2.1 ∈ xs) {x y:Str} {l:Int} (e:Cb ws x y l):x ∈ xs/\y ∈ xs:=by
 obtain ⟨u,hu,h,_⟩:=e;obtain ⟨a,b⟩:=he u hu;rcases h with ⟨rfl,rfl⟩ | ⟨rfl,rfl⟩
 ·exact ⟨a,b⟩
 ·exact ⟨b,a⟩
theorem WI.split {ws:List AG} (hp:∀ u ∈ ws,1<=u.2.2) {I J:Str->Prop} {k:Str} (hJ:∀ z,J z->I z\/z=k) {x y:Str} {m:Int} (h:WI ws J x y m):WI ws I x y m\/∃ m1 m2,WI ws I x k m1/\WI ws I k y m2/\m1 + m2<=m:=by
 induction h with
 | edge e=>exact .inl (.edge e)
 | @cons x a y l m e ha g ih=>
  by_cases hk:a=k
  ·subst hk;rcases ih with h | ⟨m1,m2,h1,h2,h3⟩
   ·exact .inr ⟨l,m,.edge e,h,b5 _⟩
   ·have:=h1.pos hp;exact .inr ⟨l,m2,.edge e,h2,by lia⟩
  ·have hI:I a:=(hJ a ha).resolve_right hk;rcases ih with h | ⟨m1,m2,h1,h2,h3⟩
   ·exact .inl (.cons e hI h)
   ·exact .inr ⟨l + m1,m2,.cons e hI h1,h2,by lia⟩
theorem Br.wi {ws:List AG} {xs:List Str} (he:∀ u ∈ ws,u.1 ∈ xs/\u.2.1 ∈ xs) {x y:Str} {m:Int} (h:Br ws x y m):(x=y/\m=0)\/WI ws (· ∈ xs) x y m:=by
 induction h with
 | nil x=>exact .inl ⟨rfl,rfl⟩
 | @cons x a y l m e g ih=>
  rcases ih with ⟨rfl,rfl⟩ | h
  ·exact .inr (by rw [eA]; exact .edge e)
  ·exact .inr (.cons e (WI.ends he e).2 h)
structure FW (ws:List AG) (xs:List Str) (t:Nat) (M:Str->Str->Option Int):Prop where
 sound:∀ x y n,M x y=some n->Br ws x y n
 comp:∀ x y m,WI ws (· ∈ xs.take t) x y m->∃ n,M x y=some n/\n<=m
 diag:∀ x ∈ xs,∃ n,M x x=some n/\n<=0
def G6 (M0 M:Str->Str->Option Int):Prop:=∀ x y n,M0 x y=some n->∃ n',M x y=some n'/\n'<=n
theorem G6.refl (M:Str->Str->Option Int):G6 M M:=fun _ _ n h=>⟨n,h,b5 _⟩
theorem G6.trans {M0 M1 M2:Str->Str->Option Int} (h:G6 M0 M1) (g:G6 M1 M2):G6 M0 M2:=fun x y n e=>by
 obtain ⟨n1,e1,l1⟩:=h x y n e;obtain ⟨n2,e2,l2⟩:=g x y n1 e1;exact ⟨n2,e2,by lia⟩
theorem FW.next {ws:List AG} (hp:∀ u ∈ ws,1<=u.2.2) {xs:List Str} (he:∀ u ∈ ws,u.1 ∈ xs/\u.2.1 ∈ xs) {t:Nat} {k:Str} (hk:xs[t]? = some k) {M0 M:Str->Str->Option Int} (h:FW ws xs t M0) (mo:G6 M0 M) (so:∀ x y n,M x y=some n->Br ws x y n)
  (via:∀ x ∈ xs,∀ y ∈ xs,∀ n1 n2,M0 x k=some n1->M0 k y=some n2->∃ n,M x y=some n/\n<=n1 + n2):FW ws xs (t + 1) M:=by
 refine ⟨so,fun x y m g=>?_,fun x hx=>?_⟩
 ·have ex:x ∈ xs/\y ∈ xs:=by
   clear mo so via h;induction g with
   | edge e=>exact WI.ends he e
   | cons e _ _ ih=>exact ⟨(WI.ends he e).1,ih.2⟩
  rcases g.split hp (I:=(· ∈ xs.take t)) (k:=k) (fun z hz=>by
   rw [ax,hk] at hz;rcases ak.mp hz with hz | hz
   ·exact .inl hz
   ·exact .inr (by simpa using hz)) with g | ⟨m1,m2,g1,g2,le⟩
  ·obtain ⟨n,e,l⟩:=h.comp x y m g;obtain ⟨n',e',l'⟩:=mo x y n e;exact ⟨n',e',by lia⟩
  ·obtain ⟨n1,e1,l1⟩:=h.comp x k m1 g1;obtain ⟨n2,e2,l2⟩:=h.comp k y m2 g2;obtain ⟨n,e,l⟩:=via x ex.1 y ex.2 n1 n2 e1 e2;exact ⟨n,e,by lia⟩
 ·obtain ⟨n,e,l⟩:=h.diag x hx;obtain ⟨n',e',l'⟩:=mo x x n e;exact ⟨n',e',by lia⟩
def MD (H:Hp) (A:Addr) (M:Str->Str->Option Int) (c:Nat):Prop:=∃ kvs:List gQ,H A=some ig/\kvs.length<=c/\∀ x y,Bm kvs [Sum.inr x,Sum.inr y]=(M x y).map V.int
theorem MD.same {H H':Hp} {A:Addr} {M:Str->Str->Option Int} {c:Nat} (h:MD H A M c) (s:Ar H H'):MD H' A M c:=let ⟨kvs,a,b,d⟩:=h; ⟨kvs,s _ _ a,b,d⟩
theorem MD.get {H:Hp} {A t:Addr} {M:Str->Str->Option Int} {c:Nat} (h:MD H A M c) {x y:Str} (ht:H t=some (.tup [.str x,.str y])):BQ H A (.ref t) ((M x y).map V.int):=by
 obtain ⟨kvs,a,_,d⟩:=h;rw [<-d x y];exact BQ.t (k:=[Sum.inr x,Sum.inr y]) a ht
def KS (M:Str->Str->Option Int) (x y:Str) (n:Int):Str->Str->Option Int:=fun a b=>if a=x/\b=y then some n else M a b
def Rj (K:ZP):Sp:=fun vs H Q _=>∃ (q:Addr) (ps:List Str) (ws:List AG) (r x:Str),vs=[.ref q,.str x]/\Jx H q ps ws r/\(∀ u ∈ ws,1<=u.2.2)/\(∀ x y l l',Cb ws x y l->Cb ws x y l'->l=l')/\x ∈ ps /\
 ∀ (H':Hp) (B:Addr) (nv:List gU),Ar H H'->H B=none->H' B=some (.dK (sK nv))->nv.map (·.1)=ps->(∀ y v,(y,v) ∈ nv->∃ n,v=.int n/\KG ws x y n)->Q (.ref B) H'
theorem J5 {M:Model} {A:Around} {E:Value->Shared->Prop} {s:Shared} {scope:Scope} {globals:Addr} {closure:List io} {qual:Str} {func:Option Addr} {code:Value} {outer:Env} {builtins:Addr} {Q:Env->Shared->Prop}
  (hQ:Q (newEnv scope s.heap.objs.size globals (cellsFrom (s.heap.objs.size + 1) scope.names closure) qual func code (some outer) builtins) { s with heap:=pushCells (s.heap.push { cls:=.type "dict",data:=.dict #[] }) scope.names }) :
  wpAny M A (newFunctionEnv scope globals closure [] qual func code (some outer) builtins) Q E s:=by
 simp only [newFunctionEnv,fg,if_true];refine wpAny_bind (wpAny_alloc ?_);refine wpAny_bind (wpAny_layCells _ (fun name kind cells=>by cases hkc:kind == NameKind.cell <;> simp [hkc]) _ _ _ _ ?_);rw [show ({ s with heap:=s.heap.push { cls:=.type "dict",data:=.dict #[] } }:Shared).heap.objs.size=s.heap.objs.size + 1 from aT ..];refine wpAny_bind ?_;rw [List.forIn_nil];exact wpAny_pure (wpAny_pure hQ)
theorem GU:∀ (names:List (Str × NameKind)) (h:Heap) (acc:List io) (lo:Nat),lo<=h.objs.size->(∀ x c,(x,c) ∈ acc->c < lo\/(lo<=c/\c < h.objs.size/\h.IsCell c none)) ->
  ∀ x c,(x,c) ∈ cellsFrom h.objs.size names acc->(x,c) ∈ acc\/(lo<=c/\(pushCells h names).IsCell c none)
 | [],h,acc,lo,_,_,x,c,hm=>.inl hm
 | (name,kind) :: r,h,acc,lo,hlo,ha,x,c,hm=>by
  unfold cellsFrom at hm;unfold pushCells;split at hm
  ·rename_i hk
   rw [if_pos hk];rw [show h.objs.size + 1=(h.push { cls:=.type "cell",data:=.cell none }).objs.size from (aT ..).symm] at hm;rcases GU r (h.push { cls:=.type "cell",data:=.cell none }) ((name,h.objs.size) :: acc) lo (by rw [aT]; lia) (fun y d hy=>by
    rcases ZZ.mp hy with e | hy
    ·cases e
     exact .inr ⟨hlo,by rw [aT]; exact aK _,_,ZX _ rfl,rfl⟩
    ·rcases ha y d hy with z | ⟨z1,z2,z3⟩
     ·exact .inl z
     ·exact .inr ⟨z1,by rw [aT]; exact aA z2,z3.keeps fun b o e=>ZO _ e⟩) x c hm with q | q
   ·rcases ZZ.mp q with e | q
    ·cases e
     exact .inr ⟨hlo,_,pushCells_keeps _ _ _ _ (ZX _ rfl),rfl⟩
    ·exact .inl q
   ·exact .inr q
  ·rename_i hk
   rw [if_neg hk];exact GU r h acc lo hlo ha x c hm
theorem EY:∀ (names:List (Str × NameKind)) (n:Nat) (acc:List io),(acc.Pairwise fun x y=>x.2 ≠ y.2)->(∀ x c,(x,c) ∈ acc->c < n)->(cellsFrom n names acc).Pairwise fun x y=>x.2 ≠ y.2
 | [],n,acc,h,_=>h
 | (name,kind) :: r,n,acc,h,ha=>by
  unfold cellsFrom;split
  ·refine EY r (n + 1) ((name,n) :: acc) (bB.mpr ⟨fun y hy e=>?_,h⟩) fun x c hm=>?_
   ·have:=ha y.1 y.2 hy;have e':n=y.2:=e;exact absurd this (by rw [<-e']; exact ba _)
   ·rcases ZZ.mp hm with e | hm
    ·cases e; exact aK _
    ·exact aA (ha x c hm)
  ·exact EY r n acc h ha
theorem Dp {α:Type}:∀ {l:List (Str × α)} {x:Str} {c:α},(x,c) ∈ l->∃ d,l.lookup x=some d
 | (k,v) :: r,x,c,h=>by
  rw [dc];cases hb:x == k with
  | true=>exact ⟨v,rfl⟩
  | false=>
   rcases ZZ.mp h with e | h
   ·cases e; simp at hb
   ·exact Dp h
theorem GV:∀ (names:List (Str × NameKind)) (n:Nat) (acc:List io) (x:Str),((x,NameKind.cell) ∈ names\/∃ c,(x,c) ∈ acc)->∃ c,(x,c) ∈ cellsFrom n names acc
 | [],n,acc,x,h=>by
  rcases h with h | h
  ·cases h
  ·exact h
 | (name,kind) :: r,n,acc,x,h=>by
  unfold cellsFrom;split
  ·rename_i hk
   refine GV r (n + 1) ((name,n) :: acc) x ?_;rcases h with h | ⟨c,h⟩
   ·rcases ZZ.mp h with e | h
    ·cases e; exact .inr ⟨n,aj⟩
    ·exact .inl h
   ·exact .inr ⟨c,ay _ h⟩
  ·rename_i hk
   refine GV r n acc x ?_;rcases h with h | h
   ·rcases ZZ.mp h with e | h
    ·cases e; exact absurd rfl hk
    ·exact .inl h
   ·exact .inr h
abbrev BR (X:Cx) (scope:Scope) (cl:List io) (N:List Str) (s2:Shared) (H:Hp) (C:Addr) (fp:List Addr) (fn:Str->Bool):Cx:={ Ap X scope cl N s2 H C fp with fn:=fn }
theorem GQ (n0:Nat):∀ (names:List (Str × NameKind)) (n:Nat) (acc:List io) (x:Str) (c:Addr),n0<=n->((x,NameKind.cell) ∈ names\/∃ d,acc.lookup x=some d/\n0<=d)->(cellsFrom n names acc).lookup x=some c->n0<=c
 | [],n,acc,x,c,_,h,e=>by
  rcases h with h | ⟨d,h1,h2⟩
  ·cases h
  ·have e':acc.lookup x=some c:=e;rw [h1] at e';cases e'
   exact h2
 | (name,kind) :: r,n,acc,x,c,hn,h,e=>by
  unfold cellsFrom at e;split at e
  ·rename_i hk
   refine GQ n0 r (n + 1) ((name,n) :: acc) x c (cX hn) ?_ e;by_cases ex:x=name
   ·refine .inr ⟨n,?_,hn⟩;rw [ex,dc,beq_self_eq_true]
   ·have hb:(x == name)=false:=beq_eq_false_iff_ne.mpr ex;rcases h with h | ⟨d,h1,h2⟩
    ·rcases ZZ.mp h with z | z
     ·injection z with z1 z2;exact absurd z1 ex
     ·exact .inl z
    ·exact .inr ⟨d,by rw [dc,hb]; exact h1,h2⟩
  ·rename_i hk
   refine GQ n0 r n acc x c hn ?_ e;rcases h with h | h
   ·rcases ZZ.mp h with z | z
    ·cases z; exact absurd rfl hk
    ·exact .inl z
   ·exact .inr h
structure G7 (X:Cx) (scope:Scope) (cl:List io):Prop where
 clos:closureFor scope X.env=pure cl
 kind:scope.kind=.function
 names:∀ y ∈ scope.names,y.2=.local->scope.names.lookup y.1=some .local
 sub:∀ x c,(x,c) ∈ cl->X.env.cells.lookup x=some c
 apart:(cl.Pairwise fun x y=>x.2 ≠ y.2)
 has:∀ x,gR->(x,NameKind.cell) ∈ scope.names\/∃ c,(x,c) ∈ cl
theorem FD:∀ (names:List (Str × NameKind)) (n:Nat) (acc:List io) (x:Str) (c:Addr),(x,c) ∈ cellsFrom n names acc->(x,NameKind.cell) ∉ names->(x,c) ∈ acc
 | [],n,acc,x,c,h,_=>h
 | (name,kind) :: r,n,acc,x,c,h,hn=>by
  unfold cellsFrom at h;split at h
  ·rename_i hk
   have Nx:kind=.cell:=by cases kind <;> first | rfl | cases hk
   rcases ZZ.mp (FD r (n + 1) ((name,n) :: acc) x c h fun z=>hn (ay _ z)) with e | e
   ·cases e
    exact absurd (by rw [Nx]; exact aj) hn
   ·exact e
  ·exact FD r n acc x c h fun z=>hn (ay _ z)
section
variable {X:Cx} {pins:List cr} {σ A2:St} {H H':Hp} {s2 s':Shared} {scope:Scope} {cl:List io} {N:List Str} {fp:List Addr} {C D:Addr} {h₁ h':Heap} {t':Nat}
theorem My {fn:Str->Bool} {cl0:List io} (I:Aq X pins σ H s2) (hf:∀ b ∈ fp,Ew X pins H b) (hfo:∀ b ∈ fp,∃ o,s2.heap.get? b=some o) (co:G7 X scope cl0) (sub:∀ x c,cl.lookup x=some c->X.env.cells.lookup x=some c\/(s2.heap.objs.size<=c/\c ≠ D/\c ≠ C/\h₁.IsCell c none)) (inj:∀ x y c,cl.lookup x=some c->cl.lookup y=some c->x=y) (own:∀ x c,fn x=true->cl.lookup x=some c->s2.heap.objs.size<=c)
  (has:∀ x,gR->∃ c,cl.lookup x=some c) (keepS:∀ (i:Nat) (x:Str) (v:V),N[i]? = some x->A2[i]? = some (some v)->∀ c,cl.lookup x=some c->X.env.cells.lookup x=some c) (hσ:C3 X cl scope N σ A2)
  (k:∀ b o,s2.heap.get? b=some o->h₁.get? b=some o) (hD:s2.heap.objs.size<=D) (hC:s2.heap.objs.size<=C) (hDC:C ≠ D)
  (new:h₁.get? D=some { cls:=.type "list",data:=.seq ([]:List Value).toArray 0 }\/∃ n,h₁.get? D=some { cls:=.type "list",data:=.seq ([]:List Value).toArray n }) {m:Str->Option Value} (hn:h₁.Ns C m) :
  Aq (BR X scope cl N s2 H C fp fn) [] A2 (upd H D iF) { s2 with heap:=h₁,toks:=t' }:=by
 have fD:H D=none:=I.hok.fresh hD;have fC:H C=none:=I.hok.fresh hC;have newO:AE X.prog X.w (upd H D iF) h₁ D iF:=by
  exists aJ _,[]
  rcases new with e | ⟨n,e⟩
  ·exact ⟨0,.nil,e⟩
  ·exact ⟨n,.nil,e⟩
 have lts:∀ b ∈ fp,b < s2.heap.objs.size:=fun b hb=>let ⟨_,e⟩:=hfo b hb; ZW e
 have ok:Cx.Ok (BR X scope cl N s2 H C fp fn):=by
  refine iC
  ·exact co.kind
  ·exact inj
  ·exact has
  ·exact own
  ·intro b hb;refine ⟨fun e=>?_,fun x c e=>by
    rcases sub x c e with z | ⟨z,_⟩
    ·exact (hf b hb).2.2.2.2.1 x c z
    ·exact bj (af (lts b hb) z)⟩
   have z:=lts b hb;exact absurd (af z hC) (by rw [show b=C from e]; exact ba _)
  ·intro b o e hb;have F4:b ∈ fp:=hb;rcases (hf b F4).2.2.2.1 with z | z
   ·exact I.ok.noex b o e z
   ·exact absurd (af (ZW e) (az I.ok.bsz z)) (ba _)
  ·intro b hb hz;have F4:b ∈ fp:=hb;obtain ⟨_,f1,f2,_⟩:=hf b F4;rcases ZZ.mp (I.stkSub b hz) with e | e
   ·exact f1 e
   ·exact f2 e
 refine ⟨ok,rfl,I.bare,Un.laid k hD fD,?_,?_,?_,?_,?_,I.hok.laid k hD newO,hσ.1⟩
 ·refine ⟨m,hn,fun i x v e1 e2 _=>?_⟩;obtain ⟨⟨j,j1,j2⟩,kk,kr⟩:=hσ.2 i x v e1 e2;obtain ⟨mo,_,hl⟩:=I.loc;obtain ⟨u,r,l⟩:=hl j x v j1 j2 (by
   rcases kk with z | z
   ·exact .inr (.inl z)
   ·exact .inr (.inr z))
  refine ⟨u,r,.inr ⟨kr,?_⟩⟩;obtain ⟨c,hc⟩:=has x kr;rcases l with ⟨z,_⟩ | ⟨_,c',Ii,hcell⟩
  ·rcases kk with q | q
   ·rw [z] at q; cases q
   ·rw [z] at q; cases q
  ·have e3:=keepS i x v e1 e2 c hc;rw [Ii] at e3;have e4:c'=c:=ar.inj e3;subst e4;obtain ⟨o,ho,hd⟩:=hcell;exact ⟨c',hc,o,k _ o ho,hd⟩
 ·intro x c e;rcases sub x c e with z | ⟨_,_,_,z⟩
  ·obtain ⟨v,o,ho,hd⟩:=I.cell x c z;exact ⟨v,o,k _ o ho,hd⟩
  ·exact ⟨cH,z⟩
 ·show upd H D iF C=none
  rw [Af hDC];exact fC
 ·intro x c e;rcases sub x c e with z | ⟨z1,z2,_,_⟩
  ·obtain ⟨v,q⟩:=I.cell x c z;rw [Af (ab (af q.lt hD))];exact I.freeC x c z
  ·rw [Af z2];exact I.hok.fresh z1
 ·intro p hp;cases hp
theorem Q6 {fn:Str->Bool} {pl:List cr} (I:Aq X pins σ H s2) (hf:∀ b ∈ fp,Ew X pins H b) (hC:s2.heap.objs.size<=C) (I2:Aq (BR X scope cl N s2 H C fp fn) pl A2 H' s')
  (hs:Heap.SameBut C s'.heap h'):Aq X pins σ H' { s' with heap:=h' }:=by
 have nC:∀ b o,s2.heap.get? b=some o->b ≠ C:=fun b o e=>ab (af (ZW e) hC)
 have u:=I2.base;refine I.call' (s':={ s' with heap:=h' }) (ch:=fp) I2.os ⟨?_,?_,u.free,?_,u.tups,u.frzs,u.tbls⟩ ?_ I2.bare fun b hb=>?_
 ·exact fun b o e n h1 h2=>(hs.2 b (nC b o e)).trans (u.keep b o e n h1 h2)
 ·intro b o e n h1 h2;obtain ⟨sl,q⟩:=u.slot b o e n h1 h2;exact ⟨sl,(hs.2 b (nC b o e)).trans q⟩
 ·intro b o e h2;obtain ⟨o',q⟩:=u.there b o e h2;exact ⟨o',(hs.2 b (nC b o e)).trans q⟩
 ·intro b ob e;have hfree:H' C=none:=I2.free;refine (I2.hok b ob e).stay (fun c w' hc q=>(hs.2 c ?_).trans q) (fun _ q=>q) fun _ _ q=>q
  rintro rfl;rcases hc with rfl | hc
  ·rw [hfree] at e; cases e
  ·rw [hfree] at hc; cases hc
 ·obtain ⟨_,f1,_,f3,f4,f5⟩:=hf b hb;exact ⟨f3,f1,f4,f5⟩
end
theorem CU {X:Cx} {scope:Scope} {cl:List io} (clos:closureFor scope X.env=pure cl:=by rfl) (hcell:∀ y ∈ scope.names,y.2 ≠ .cell:=by decide +kernel) (hkind:scope.kind=.function:=by rfl)
  (hnames:∀ y ∈ scope.names,y.2=.local->scope.names.lookup y.1=some .local:=by decide +kernel) (hcl:∀ y ∈ cl,X.env.cells.lookup y.1=some y.2:=by intro y hy; simp only [ZZ,aQ,or_false] at hy; (repeat' (first | subst hy | (rcases hy with hy | hy))) <;> rfl)
  (hfr:∀ y ∈ scope.names,y.2=.free->∃ c,cl.lookup y.1=some c:=by intro y hy e; simp only [ZZ,aQ,or_false] at hy; (repeat' (first | subst hy | (rcases hy with hy | hy))) <;> first | exact ⟨_,rfl⟩ | cases e):Cc X scope cl:=Cc.caught clos hcell hkind hnames hcl hfr
theorem CJ {X:Cx} {cl:List io} {scope:Scope} {N:List Str} (js:List (Option Nat)) (hl:js.length=N.length:=by rfl)
  (h:∀ (i j:Nat) (x:Str),N[i]? = some x->js[i]? = some (some j)->X.N[j]? = some x/\(X.env.kindOf x=some .cell\/X.env.kindOf x=some .free)/\gR:=by intro i j x h1 h2; rcases i with _ | _ | _ | _ | _ | _ | _ | i <;> cases h1 <;> cases h2 <;> exact ⟨rfl,.inl rfl,.inl rfl⟩) (σ:St) (_:σ.length=X.N.length) :
  C3 X cl scope N σ (js.map fun j=>j.bind fun j=>(σ[j]?).join):=C3.of js hl h
end L2
namespace L2
open PySem PySem.W PyProof.Rows
structure OQ (lt:Keyed->Keyed->Bool):Prop where
 irr:∀ a,lt a a=false
 tra:∀ a b c,lt a b=true->lt b c=true->lt a c=true
 neg:∀ a b c,lt a c=true->lt a b=true\/lt b c=true
def Nl (lt:Keyed->Keyed->Bool) (a b:Keyed):Prop:=lt b a=false
section
variable {lt:Keyed->Keyed->Bool}
theorem OQ.rfl' (h:OQ lt) (a:Keyed):Nl lt a a:=h.irr a
theorem OQ.of_lt (h:OQ lt) {a b:Keyed} (e:lt a b=true):Nl lt a b:=by
 unfold Nl;cases z:lt b a
 ·rfl
 ·have:=h.tra _ _ _ e z;rw [h.irr] at this;cases this
theorem OQ.trans (h:OQ lt) {a b c:Keyed} (x:Nl lt a b) (y:Nl lt b c):Nl lt a c:=by
 unfold Nl at *;cases z:lt c a
 ·rfl
 ·rcases h.neg _ b _ z with q | q
  ·rw [y] at q; cases q
  ·rw [x] at q; cases q
end
def Cn (xs:Array Keyed) (i:Nat):Keyed:=xs.getD i (Value.none,Value.none)
theorem OD {xs:Array Keyed} {i:Nat} (h:i < xs.size):xs[i]? = some (Cn xs i):=by
 unfold Cn;simp [gD,h]
theorem Ja {xs ys:Array Keyed} {i j:Nat} (h:xs[i]? = ys[j]?):Cn xs i=Cn ys j:=by
 unfold Cn;rw [eJ,eJ,h]
theorem OC {xs:Array Keyed} {i:Nat} (h:i < xs.size):Cn xs i ∈ xs:=eU (OD h)
def U6 (prog:Program) (w:World) (A:Around) (s:Shared) (κ:SortKind) (lt:Keyed->Keyed->Bool) (a0:Array Keyed):Prop:=
 ∀ x y,x ∈ a0->y ∈ a0->∀ (Q:Bool->Shared->Prop) (E:Value->Shared->Prop),Q (lt x y) s->wpAny ap A (keyLt' κ x.1 y.1) Q E s
section
variable {prog:Program} {w:World} {A:Around} {E:Value->Shared->Prop} {s:Shared} {κ:SortKind} {lt:Keyed->Keyed->Bool} {a0:Array Keyed}
theorem JO {xs:Array Keyed} {i:Nat} {Q:Keyed->SortSt->Prop} {st:SortSt} (hi:i < xs.size) (h:Q (Cn xs i) st):wpS ap A E s (elem' xs i) Q st:=by
 rw [elem'_eq,OD hi];exact wpS_pure h
theorem SX {x y:Keyed} {Q:Option Bool->SortSt->Prop} {st:SortSt} (an:U6 prog w A s κ lt a0) (hk:kindOf st=κ) (hx:x ∈ a0) (hy:y ∈ a0) (h:Q (some (lt x y)) st) :
  wpS ap A E s (lt' x y) Q st:=by
 rw [lt'_eq];refine wpS_bind (wpS_get ?_);rw [hk];refine wpS_bind (wpS_lift (wpAny_attempt (an x y hx hy _ _ ⟨rfl,?_⟩)));exact wpS_pure h
theorem Dh {i j:Nat} {Q:Option Bool->SortSt->Prop} {st:SortSt} (an:U6 prog w A s κ lt a0) (hk:kindOf st=κ) (hp:(arrOf st).Perm a0) (hi:i < a0.size) (hj:j < a0.size)
  (h:Q (some (lt (Cn (arrOf st) i) (Cn (arrOf st) j))) st):wpS ap A E s (ltAt' i j) Q st:=by
 rw [ltAt'_eq];refine wpS_bind (wpS_get ?_);have e:=hp.size_eq;refine wpS_bind (JO ad (wpS_bind (JO ad ?_)));exact SX an hk ((Array.Perm.mem_iff hp).mp (OC ad)) ((Array.Perm.mem_iff hp).mp (OC ad)) h
theorem L3 {ρ:Type} {body:Nat->Option ρ × Nat × Nat->StateT SortSt Sem (ForInStep (Option ρ × Nat × Nat))} {f:Nat->Bool} {n lo hi:Nat} {st:SortSt}
  (hs:∀ x l (R:ForInStep (Option ρ × Nat × Nat)->SortSt->Prop),R (.done (none,l,l)) st->wpS ap A E s (body x (none,l,l)) R st)
  (hg:∀ x l r (R:ForInStep (Option ρ × Nat × Nat)->SortSt->Prop),l < r->r<=n ->
   (f (l + (r - l) / 2)=true->R (.yield (none,l + (r - l) / 2 + 1,r)) st)->(f (l + (r - l) / 2)=false->R (.yield (none,l,l + (r - l) / 2)) st)->wpS ap A E s (body x (none,l,r)) R st)
  (hl:lo<=hi) (hn:hi<=n) (mono:∀ i j,i<=j->j < n->f j=true->f i=true)
  (h1:∀ i,i < lo->f i=true) (h2:∀ i,hi<=i->i < n->f i=false) :
  wpS ap A E s (forIn [0:n] (none,lo,hi) body) (fun c AN=>AN=st/\∃ r,c=(none,r,r)/\r<=n/\(∀ i,i < r->f i=true)/\(∀ i,r<=i->i < n->f i=false)) st:=by
 refine wpS_forRange (I:=fun x c AN=>AN=st/\∃ l r,c=(none,l,r)/\l<=r/\r<=n/\r - l<=n - x/\(∀ i,i < l->f i=true)/\(∀ i,r<=i->i < n->f i=false)) ?_ ?_ ⟨rfl,lo,hi,rfl,hl,hn,by lia,h1,h2⟩
 ·rintro x c AN _ hx ⟨rfl,l,r,rfl,q1,q2,q3,q4,q5⟩;by_cases hlr:l < r
  ·have hm:l + (r - l) / 2 < r:=by lia
   refine hg _ _ _ _ hlr q2 (fun e=>?_) (fun e=>?_)
   ·exact ⟨rfl,_,r,rfl,by lia,by lia,by lia,fun i i1=>mono _ _ ad ad e,q5⟩
   ·refine ⟨rfl,l,_,rfl,by lia,by lia,by lia,q4,fun i i1 i2=>?_⟩;cases z:f i
    ·rfl
    ·rw [mono _ _ i1 i2 z] at e; cases e
  ·have:l=r:=by lia
   subst this;exact hs _ _ _ ⟨rfl,l,rfl,q2,q4,q5⟩
 ·rintro c AN ⟨rfl,l,r,rfl,q1,q2,q3,q4,q5⟩;have:l=r:=by lia
  subst this;exact ⟨rfl,l,rfl,q2,q4,q5⟩
end
section lists
variable {lt:Keyed->Keyed->Bool}
theorem IZ {xs:Array Keyed} {i:Nat} (h:i < xs.toList.length):xs.toList[i]=Cn xs i:=by
 have h':i < xs.size:=by simpa using h
 unfold Cn;simp [gD,h']
theorem UY {xs:Array Keyed} (h:∀ i j,i < j->j < xs.size->Nl lt (Cn xs i) (Cn xs j)):xs.toList.Pairwise (Nl lt):=by
 rw [bz];intro i j hi hj hij;rw [IZ,IZ];exact h i j hij (by simpa using hj)
end lists
section
variable {prog:Program} {w:World} {A:Around} {E:Value->Shared->Prop} {s:Shared} {κ:SortKind} {lt:Keyed->Keyed->Bool} {a0:Array Keyed}
end
section
variable {prog:Program} {w:World} {A:Around} {E:Value->Shared->Prop} {s:Shared} {κ:SortKind} {lt:Keyed->Keyed->Bool} {a0:Array Keyed}
end
section segs
variable {lt:Keyed->Keyed->Bool}
def SS (lt:Keyed->Keyed->Bool) (xs:Array Keyed) (lo hi:Nat):Prop:=∀ i j,lo<=i->i<=j->j < hi->Nl lt (Cn xs i) (Cn xs j)
def NS (lt:Keyed->Keyed->Bool) (xs:Array Keyed) (lo hi:Nat):Prop:=∀ i j,lo<=i->i<=j->j < hi->Nl lt (Cn xs j) (Cn xs i)
theorem Ds {xs:Array Keyed} {i j:Nat} (hj:j<=xs.size) (k:Nat):Cn (mirror xs i j ((j - i) / 2)) k=if i<=k/\k < j then Cn xs (i + j - 1 - k) else Cn xs k:=by
 have e:=getElem?_mirror_all (i:=i) hj k;split at e
 ·rw [if_pos ‹_›]; exact Ja e
 ·rw [if_neg ‹_›]; exact Ja e
theorem FJ {xs:Array Keyed} {src d:Nat} (hs:src < xs.size) (hd:d<=src) (k:Nat) :
  Cn (bubble xs src d) k=if k=src - d then Cn xs src else if src - d < k/\k<=src then Cn xs (k - 1) else Cn xs k:=by
 have e:=getElem?_bubble hs d hd k;by_cases h1:k=src - d
 ·rw [if_pos h1] at e ⊢; exact Ja e
 ·by_cases h2:src - d < k/\k<=src
  ·rw [if_neg h1,if_pos h2] at e ⊢; exact Ja e
  ·rw [if_neg h1,if_neg h2] at e ⊢; exact Ja e
theorem NS.mirror {xs:Array Keyed} {lo hi:Nat} (h:NS lt xs lo hi) (hs:hi<=xs.size):SS lt (mirror xs lo hi ((hi - lo) / 2)) lo hi:=by
 intro i j h1 h2 h3;rw [Ds hs,Ds hs,if_pos ⟨h1,by lia⟩,if_pos ⟨by lia,h3⟩];exact h _ _ ad ad ad
theorem NS.even {xs:Array Keyed} {lo p hi:Nat} (h:NS lt xs lo hi) (hs:hi<=xs.size) (hp:lo<=p) (e:∀ i j,p<=i->i < hi->p<=j->j < hi->Nl lt (Cn xs i) (Cn xs j)) {top:Nat} (ht:hi<=top) (h':NS lt xs lo top) :
  NS lt (PyProof.Rows.mirror xs p hi ((hi - p) / 2)) lo top:=by
 intro i j h1 h2 h3;rw [Ds hs,Ds hs];by_cases c1:p<=j/\j < hi
 ·rw [if_pos c1];by_cases c2:p<=i/\i < hi
  ·rw [if_pos c2];exact e _ _ ad ad ad ad
  ·rw [if_neg c2];exact h' _ _ h1 ad ad
 ·rw [if_neg c1];by_cases c2:p<=i/\i < hi
  ·rw [if_pos c2];exact h' _ _ ad ad h3
  ·rw [if_neg c2];exact h' _ _ h1 h2 h3
def Kp (xs ys:Array Keyed) (lo:Nat):Prop:=ys.Perm xs/\∀ k,k < lo->Cn ys k=Cn xs k
theorem Kp.refl (xs:Array Keyed) (lo:Nat):Kp xs xs lo:=⟨Array.Perm.refl _,fun _ _=>rfl⟩
theorem Kp.size {xs ys:Array Keyed} {lo:Nat} (h:Kp xs ys lo):ys.size=xs.size:=h.1.size_eq
theorem Kp.mirror {xs ys:Array Keyed} {lo i j:Nat} (h:Kp xs ys lo) (hj:j<=xs.size) (hi:lo<=i):Kp xs (PyProof.Rows.mirror ys i j ((j - i) / 2)) lo:=by
 refine ⟨(mirror_perm _ _ _ _).trans h.1,fun k hk=>?_⟩;rw [Ds (by rw [h.size]; exact hj),if_neg ad];exact h.2 k hk
theorem Kp.bubble {xs ys:Array Keyed} {lo src d:Nat} (h:Kp xs ys lo) (hs:src < xs.size) (hd:lo + d<=src):Kp xs (PyProof.Rows.bubble ys src d) lo:=by
 refine ⟨(bubble_perm _ _ _).trans h.1,fun k hk=>?_⟩;rw [FJ (by rw [h.size]; exact hs) ad,if_neg ad,if_neg ad];exact h.2 k hk
end segs
section
variable {prog:Program} {w:World} {A:Around} {E:Value->Shared->Prop} {s:Shared} {κ:SortKind} {lt:Keyed->Keyed->Bool} {a0:Array Keyed}
theorem FX {i j:Nat} {Q:Unit->SortSt->Prop} {st:SortSt} (h:Q () (setArr st (mirror (arrOf st) i j ((j - i) / 2)))):wpS ap A E s (reverseSlice' i j) Q st:=by
 rw [reverseSlice'_eq];exact wpS_modify h
theorem NM {body:Nat->Option (Option Nat) × Nat->StateT SortSt Sem (ForInStep (Option (Option Nat) × Nat))} {f:Nat->Bool} {a nrem:Nat} {st:SortSt} (ha:a<=nrem)
  (hb:∀ x n (R:ForInStep (Option (Option Nat) × Nat)->SortSt->Prop),a<=n->n < nrem->(f n=true->R (.done (none,n)) st)->(f n=false->R (.yield (none,n + 1)) st)->wpS ap A E s (body x (none,n)) R st) :
  wpS ap A E s (forIn [a:nrem] (none,a) body) (fun c AN=>AN=st/\∃ n,c=(none,n)/\a<=n/\n<=nrem/\(∀ i,a<=i->i < n->f i=false)/\(n=nrem\/f n=true)) st:=by
 refine wpS_forRange (I:=fun x c AN=>AN=st/\c=(none,x)/\(∀ i,a<=i->i < x->f i=false)) ?_ ?_ ⟨rfl,rfl,fun i h1 h2=>by lia⟩
 ·rintro x c AN h1 h2 ⟨rfl,rfl,q⟩;refine hb _ _ _ h1 h2 (fun e=>⟨rfl,x,rfl,h1,by lia,q,.inr e⟩) (fun e=>⟨rfl,rfl,fun i i1 i2=>?_⟩);by_cases z:i=x
  ·rw [z]; exact e
  ·exact q i i1 ad
 ·rintro c AN ⟨rfl,rfl,q⟩;rw [Nat.max_eq_right ha] at q ⊢;exact ⟨rfl,nrem,rfl,ha,ZU _,q,.inl rfl⟩
theorem U8 {xs:Array Keyed} (sw:OQ lt) {lo a n:Nat} (h:SS lt xs lo (lo + a)) (ha:1<=a) (q:∀ i,a<=i->i < n->lt (Cn xs (lo + i)) (Cn xs (lo + i - 1))=false):SS lt xs lo (lo + n):=by
 have step:∀ d,a + d<=n->SS lt xs lo (lo + (a + d)):=by
  intro d;induction d with
  | zero=>intro _; exact h
  | succ d ih=>
   intro hd i j h1 h2 h3;by_cases hj:j < lo + (a + d)
   ·exact ih ad i j h1 h2 hj
   ·have ej:j=lo + (a + d):=by lia
    by_cases hi:i=j
    ·rw [hi]; exact sw.rfl' _
    ·have q1:=q (a + d) ad ad;rw [<-ej] at q1;exact sw.trans (ih ad i (j - 1) h1 ad ad) q1
 rcases dq n a with B0 | hge
 ·exact fun i j h1 h2 h3=>h i j h1 h2 ad
 ·have:=step (n - a) ad;rw [show a + (n - a)=n by lia] at this;exact this
theorem J4 {lo nrem:Nat} {Q:Option Nat->SortSt->Prop} {st:SortSt} (sw:OQ lt) (an:U6 prog w A s κ lt a0) (hk:kindOf st=κ) (hp:(arrOf st).Perm a0) (hn:lo + nrem<=a0.size) (h1:1<=nrem)
  (h:∀ m ys,Kp (arrOf st) ys lo->1<=m->m<=nrem->SS lt ys lo (lo + m)->Q (some m) (setArr st ys)):wpS ap A E s (countRun' lo nrem) Q st:=by
 have hz:=hp.size_eq;refine wpS_bind (wpS_mono (NM (f:=fun n=>lt (Cn (arrOf st) (lo + n)) (Cn (arrOf st) (lo + n - 1))) h1 ?_) ?_)
 ·intro x n R n1 n2 y1 y2;dsimp only;refine wpS_bind (Dh an hk hp ad ad ?_);dsimp only;cases e:lt (Cn (arrOf st) (lo + n)) (Cn (arrOf st) (lo + n - 1))
  ·exact wpS_pure (y2 e)
  ·exact wpS_pure (y1 e)
 rintro c AN ⟨rfl,n,rfl,n1,n2,q,hor⟩;dsimp only;have s0:SS lt (arrOf AN) lo (lo + 1):=fun i j a1 a2 a3=>by
  have:i=j:=by lia
  rw [this];exact sw.rfl' _
 have sn:SS lt (arrOf AN) lo (lo + n):=U8 sw s0 (ZU _) q;by_cases hnn:n=nrem
 ·rw [if_pos (by simpa using hnn)];exact wpS_pure (h n _ (Kp.refl _ _) n1 n2 sn)
 rw [if_neg (by simpa using hnn)];have B0:lt (Cn (arrOf AN) (lo + n)) (Cn (arrOf AN) (lo + n - 1))=true:=hor.resolve_left hnn;by_cases hgt:n > 1
 case' pos=>
  rw [if_pos hgt];refine wpS_bind (Dh an hk hp ad ad ?_);dsimp only;cases hrose:lt (Cn (arrOf AN) lo) (Cn (arrOf AN) (lo + n - 1))
  case' true=>
   simp only [if_true];exact wpS_pure (h n _ (Kp.refl _ _) n1 n2 sn)
  case' false=>
   simp only [aF,if_false];refine wpS_bind (FX ?_);have even:∀ i j,lo<=i->i < lo + n->lo<=j->j < lo + n->Nl lt (Cn (arrOf AN) i) (Cn (arrOf AN) j):=by
    intro i j a1 a2 a3 a4;have b1:=sn lo j (ZU _) a3 a4;have b2:=sn i (lo + n - 1) a1 ad ad;exact sw.trans (sw.trans b2 hrose) b1
   have ns0:NS lt (arrOf AN) lo (lo + n):=fun i j a1 a2 a3=>even j i ad a3 a1 ad
   have ns1:NS lt (arrOf AN) lo (lo + (n + 1)):=by
    intro i j a1 a2 a3;by_cases hj:j < lo + n
    ·exact ns0 i j a1 a2 hj
    ·have ej:j=lo + n:=by lia
     by_cases hi:i=j
     ·rw [hi]; exact sw.rfl' _
     ·rw [ej];exact sw.trans (sw.of_lt B0) (even _ _ ad ad a1 ad)
   have kp:Kp (arrOf AN) (mirror (arrOf AN) lo (lo + n) ((lo + n - lo) / 2)) lo:=(Kp.refl _ _).mirror ad (ZU _);have ns:NS lt (mirror (arrOf AN) lo (lo + n) ((lo + n - lo) / 2)) lo (lo + (n + 1)):=ns0.even ad (ZU _) even ad ns1;obtain ⟨ys,ey⟩:∃ ys,ys=mirror (arrOf AN) lo (lo + n) ((lo + n - lo) / 2):=⟨_,rfl⟩
   rw [<-ey] at kp ns;show wpS ap A E s _ Q (setArr AN (mirror (arrOf AN) lo (lo + n) ((lo + n - lo) / 2)))
   rw [<-ey]
 case' neg=>
  rw [if_neg hgt];have en:n=1:=by lia
  have kp:Kp (arrOf AN) (arrOf AN) lo:=Kp.refl _ _;have ns:NS lt (arrOf AN) lo (lo + (n + 1)):=by
   intro i j a1 a2 a3;by_cases hi:i=j
   ·rw [hi]; exact sw.rfl' _
   ·have e1:j=lo + n:=by lia
    have e2:i=lo + n - 1:=by lia
    rw [e1,e2];exact sw.of_lt B0
  obtain ⟨ys,ey⟩:∃ ys,ys=arrOf AN:=⟨_,rfl⟩
  rw [<-ey] at ns;have kp:Kp (arrOf AN) ys lo:=by rw [ey]; exact Kp.refl _ _
  show wpS ap A E s _ Q (setArr AN (arrOf AN))
  rw [<-ey]
 all_goals
  refine wpS_bind (wpS_lift (wpAny_rule ⟨rfl,?_⟩));refine wpS_bind (wpS_mono (wpS_forRange (I:=fun x c HL=>∃ neq ys,c=(none,x,neq)/\HL=setArr AN ys/\Kp (arrOf AN) ys lo/\NS lt ys lo (lo + x)/\neq + 1<=x /\
    (∀ i j,lo + x - (neq + 1)<=i->i < lo + x->lo + x - (neq + 1)<=j->j < lo + x->Nl lt (Cn ys i) (Cn ys j)))
   (Q:=fun c HL=>∃ m neq ys,c=(none,m,neq)/\HL=setArr AN ys/\Kp (arrOf AN) ys lo/\n + 1<=m/\m<=nrem/\NS lt ys lo (lo + m)/\neq + 1<=m /\
    (∀ i j,lo + m - (neq + 1)<=i->i < lo + m->lo + m - (neq + 1)<=j->j < lo + m->Nl lt (Cn ys i) (Cn ys j))) ?dstep ?dfin ?dinit) ?dpost)
  case dinit=>
   refine ⟨0,ys,rfl,rfl,kp,ns,by lia,fun i j a1 a2 a3 a4=>?_⟩;have:i=j:=by lia
   rw [this];exact sw.rfl' _
  case dfin=>
   rintro c HL ⟨neq,ys,rfl,rfl,kp,ns,a1,a2⟩;have e:max (n + 1) nrem=nrem:=by lia
   rw [e] at ns a1 a2 ⊢;exact ⟨nrem,neq,ys,rfl,rfl,kp,by lia,ZU _,ns,a1,a2⟩
  case dstep=>
   rintro x c HL x1 x2 ⟨neq,ys,rfl,rfl,kp,ns,a1,a2⟩;dsimp only;have hzy:=kp.size;have hpy:(arrOf (setArr AN ys)).Perm a0:=kp.1.trans hp;refine wpS_bind (Dh (st:=setArr AN ys) an hk hpy ad ad ?_);dsimp only;cases hless:lt (Cn ys (lo + x)) (Cn ys (lo + x - 1))
   ·simp only [aF,if_false];refine wpS_bind (Dh (st:=setArr AN ys) an hk hpy ad ad ?_);dsimp only;cases hlarger:lt (Cn ys (lo + x - 1)) (Cn ys (lo + x))
    ·simp only [aF,if_false];refine wpS_pure ⟨neq + 1,ys,rfl,rfl,kp,?_,by lia,?_⟩
     ·intro i j b1 b2 b3;by_cases hj:j < lo + x
      ·exact ns i j b1 b2 hj
      ·have ej:j=lo + x:=by lia
       by_cases hi:i=j
       ·rw [hi]; exact sw.rfl' _
       ·rw [ej];exact sw.trans hlarger (ns _ _ b1 ad ad)
     ·have pin:∀ i,lo + (x + 1) - (neq + 1 + 1)<=i->i < lo + (x + 1)->Nl lt (Cn ys i) (Cn ys (lo + x - 1))/\Nl lt (Cn ys (lo + x - 1)) (Cn ys i):=by
       intro i b1 b2;by_cases hi:i=lo + x
       ·rw [hi];exact ⟨hlarger,hless⟩
       ·exact ⟨a2 _ _ ad ad ad ad,a2 _ _ ad ad ad ad⟩
      intro i j b1 b2 b3 b4;exact sw.trans (pin i b1 b2).1 (pin j b3 b4).2
    ·simp only [if_true];exact wpS_pure ⟨x,neq,ys,rfl,rfl,kp,x1,by lia,ns,a1,a2⟩
   ·simp only [if_true];have ns':NS lt ys lo (lo + (x + 1)):=by
     intro i j b1 b2 b3;by_cases hj:j < lo + x
     ·exact ns i j b1 b2 hj
     ·have ej:j=lo + x:=by lia
      by_cases hi:i=j
      ·rw [hi]; exact sw.rfl' _
      ·rw [ej];exact sw.trans (sw.of_lt hless) (ns _ _ b1 ad ad)
    have one:∀ (zs:Array Keyed) i j,lo + (x + 1) - (0 + 1)<=i->i < lo + (x + 1)->lo + (x + 1) - (0 + 1)<=j->j < lo + (x + 1)->Nl lt (Cn zs i) (Cn zs j):=by
     intro zs i j b1 b2 b3 b4;have:i=j:=by lia
     rw [this];exact sw.rfl' _
    by_cases hq:neq > 0
    ·rw [if_pos hq];refine wpS_bind (FX (wpS_pure ⟨0,_,rfl,rfl,kp.mirror ad ad,?_,by lia,one _⟩));exact ns.even (by show _<=ys.size; lia) ad a2 ad ns'
    ·rw [if_neg hq];exact wpS_pure ⟨0,ys,rfl,rfl,kp,ns',by lia,one _⟩
  case dpost=>
   rintro c HL ⟨m,neq,zs,rfl,rfl,kz,m1,m2,nz,a1,a2⟩;dsimp only;have hzz:=kz.size;by_cases hq:neq > 0
   case' pos=>
    rw [if_pos hq];refine wpS_bind (FX ?_);have Yc:Kp (arrOf AN) (mirror zs (lo + m - (neq + 1)) (lo + m) ((lo + m - (lo + m - (neq + 1))) / 2)) lo:=kz.mirror ad ad;have YE:NS lt (mirror zs (lo + m - (neq + 1)) (lo + m) ((lo + m - (lo + m - (neq + 1))) / 2)) lo (lo + m):=nz.even ad ad a2 (ZU _) nz;obtain ⟨us,eu⟩:∃ us,us=mirror zs (lo + m - (neq + 1)) (lo + m) ((lo + m - (lo + m - (neq + 1))) / 2):=⟨_,rfl⟩
    rw [<-eu] at Yc YE;show wpS ap A E s _ Q (setArr AN (mirror zs (lo + m - (neq + 1)) (lo + m) ((lo + m - (lo + m - (neq + 1))) / 2)))
    rw [<-eu]
   case' neg=>
    rw [if_neg hq];obtain ⟨us,eu⟩:∃ us,us=zs:=⟨_,rfl⟩
    have Yc:Kp (arrOf AN) us lo:=by rw [eu]; exact kz
    have YE:NS lt us lo (lo + m):=by rw [eu]; exact nz
    rw [<-eu]
   all_goals
    have hzu:=Yc.size;refine wpS_bind (FX ?_);show wpS ap A E s _ Q (setArr AN (mirror us lo (lo + m) ((lo + m - lo) / 2)))
    have kv:Kp (arrOf AN) (mirror us lo (lo + m) ((lo + m - lo) / 2)) lo:=Yc.mirror ad (ZU _);have sv:SS lt (mirror us lo (lo + m) ((lo + m - lo) / 2)) lo (lo + m):=YE.mirror ad;obtain ⟨vs,ev⟩:∃ vs,vs=mirror us lo (lo + m) ((lo + m - lo) / 2):=⟨_,rfl⟩
    rw [<-ev] at kv sv;rw [<-ev];have hzv:=kv.size;refine wpS_bind (wpS_mono (NM (f:=fun n=>lt (Cn vs (lo + n)) (Cn vs (lo + n - 1))) m2 ?_) ?_)
    ·intro x n R n1 n2 y1 y2;dsimp only;refine wpS_bind (Dh (st:=setArr AN vs) an hk (kv.1.trans hp) ad ad ?_);dsimp only;cases e:lt (Cn vs (lo + n)) (Cn vs (lo + n - 1))
     ·exact wpS_pure (y2 e)
     ·exact wpS_pure (y1 e)
    rintro c Y1 ⟨rfl,n',rfl,b1,b2,b3,_⟩;exact wpS_pure (h n' vs kv ad b2 (U8 sw sv ad b3))
theorem HK {lo n ok:Nat} {Q:Bool->SortSt->Prop} {st:SortSt} (sw:OQ lt) (an:U6 prog w A s κ lt a0) (hk:kindOf st=κ) (hp:(arrOf st).Perm a0) (hn:lo + n<=a0.size) (h1:1<=ok) (hok:ok<=n)
  (hs:SS lt (arrOf st) lo (lo + ok)) (h:∀ ys,Kp (arrOf st) ys lo->SS lt ys lo (lo + n)->Q true (setArr st ys)):wpS ap A E s (binarySort' lo n ok) Q st:=by
 have hz:=hp.size_eq;refine wpS_bind (wpS_mono (wpS_forRange (I:=fun k c AN=>c=(none,())/\∃ ys,AN=setArr st ys/\Kp (arrOf st) ys lo/\SS lt ys lo (lo + k))
  (Q:=fun c AN=>c=(none,())/\∃ ys,AN=setArr st ys/\Kp (arrOf st) ys lo/\SS lt ys lo (lo + n)) ?step ?fin ?init) ?post)
 case init=>
  rw [Nat.max_eq_left h1];exact ⟨rfl,arrOf st,rfl,Kp.refl _ _,hs⟩
 case fin=>
  rintro c AN ⟨rfl,ys,rfl,kp,ss⟩;rw [show max (max ok 1) n=n by lia] at ss;exact ⟨rfl,ys,rfl,kp,ss⟩
 case post=>
  rintro c AN ⟨rfl,ys,rfl,kp,ss⟩;exact wpS_pure (h ys kp ss)
 case step=>
  rintro k c AN k1 k2 ⟨rfl,ys,rfl,kp,ss⟩;dsimp only;have hzy:=kp.size;have hpy:(arrOf (setArr st ys)).Perm a0:=kp.1.trans hp;refine wpS_bind (wpS_mono (L3 (f:=fun m=>!(lt (Cn ys (lo + k)) (Cn ys (lo + m)))) (n:=k) ?_ ?_ (aJ _) (ZU _) ?_ ?_ ?_) ?_)
  ·intro x l R hR;dsimp only;rw [if_pos (ZU _)];exact wpS_pure hR
  ·intro x l r R hlr hrk y1 y2;dsimp only;rw [if_neg ad,show (l + r) / 2=l + (r - l) / 2 by lia];refine wpS_bind (Dh (st:=setArr st ys) an hk hpy ad ad ?_);dsimp only;cases e:lt (Cn ys (lo + k)) (Cn ys (lo + (l + (r - l) / 2)))
   ·exact wpS_pure (y1 (by rw [e]; rfl))
   ·exact wpS_pure (y2 (by rw [e]; rfl))
  ·intro i j hij hj e;simp only [cV] at e ⊢;exact sw.trans (ss _ _ ad ad ad) e
  ·intro i hi;lia
  ·intro i hi1 VS;lia
  ·rintro c Fs ⟨rfl,r,rfl,r1,r2,r3⟩;refine wpS_bind ?_;rw [show (sortPriv% PySem.Builtin.moveDown)=moveDown' from rfl,moveDown'_eq];refine wpS_modify (wpS_pure ⟨rfl,bubble ys (lo + k) (lo + k - (lo + r)),rfl,kp.bubble ad ad,?_⟩);intro i j a1 a2 a3;rw [FJ ad ad,FJ ad ad];have g1:∀ m,lo<=m->m < lo + r->Nl lt (Cn ys m) (Cn ys (lo + k)):=fun m b1 b2=>by
    have q:=r2 (m - lo) ad;simp only [cV] at q;rw [show lo + (m - lo)=m by lia] at q;exact q
   have g2:∀ m,lo + r<=m->m < lo + k->Nl lt (Cn ys (lo + k)) (Cn ys m):=fun m b1 b2=>by
    have q:=r3 (m - lo) ad ad;simp only [Bool.not_eq_false'] at q;rw [show lo + (m - lo)=m by lia] at q;exact sw.of_lt q
   repeat' split
   all_goals first
    | exact sw.rfl' _
    | exact g1 _ ad ad
    | exact g2 _ ad ad
    | exact ss _ _ ad ad ad
    | (exfalso; lia)
end
section
variable {lt:Keyed->Keyed->Bool}
end
section
variable {prog:Program} {w:World} {A:Around} {E:Value->Shared->Prop} {s:Shared} {κ:SortKind} {lt:Keyed->Keyed->Bool} {a0:Array Keyed}
end
section
variable {prog:Program} {w:World} {A:Around} {E:Value->Shared->Prop} {s:Shared} {κ:SortKind} {lt:Keyed->Keyed->Bool} {a0:Array Keyed}
end
end L2
namespace L2
open PySem PySem.Spec PySem.W PyProof.Rows
theorem Di {vs:List Value} {p:Keyed} (h:p ∈ (pairsOf vs).toList):p=(p.2,p.2)/\p.2 ∈ vs:=by
 rw [pairsOf_toList] at h;obtain ⟨e,m⟩:=mem_zip_self h;refine ⟨?_,e ▸ m⟩;obtain ⟨x,y⟩:=p;exact Prod.ext e rfl
theorem PQ (vs:List Value):(pairsOf vs).toList.map (·.2)=vs:=by
 rw [pairsOf_toList];induction vs with
 | nil=>rfl
 | cons v vs ih=>rw [dU,ag,ih]
theorem RO {vs:List Value} {xs:Array Keyed} (h:xs.Perm (pairsOf vs)):(xs.toList.map (·.2)).Perm vs:=by
 have q:=(cP.mp h).map (·.2);rw [PQ] at q;exact q
theorem RN {lt:Keyed->Keyed->Bool} {vs:List Value} {xs:Array Keyed} (h:xs.Perm (pairsOf vs)) (hs:xs.toList.Pairwise (Nl lt)):(xs.toList.map (·.2)).Pairwise (fun u v=>lt (v,v) (u,u)=false):=by
 rw [bq];refine hs.imp_of_mem fun {p q} hp hq n=>?_
 have e1:=(Di ((cP.mp h).mem_iff.mp hp)).1;have e2:=(Di ((cP.mp h).mem_iff.mp hq)).1;rw [<-e1,<-e2];exact n
section
variable {prog:Program} {w:World} {A:Around} {E:Value->Shared->Prop} {s:Shared} {lt:Keyed->Keyed->Bool}
def Cmpd (prog:Program) (w:World) (s:Shared) (lt:Keyed->Keyed->Bool) (vs:List Value):Prop:=
 2<=vs.length->∀ (A:Around) (h':Heap),(∀ b o,s.heap.get? b=some o->h'.get? b=some o) ->
  ∃ κ,(∀ (Q:SortKind->Shared->Prop) (E:Value->Shared->Prop),Q κ { s with heap:=h' }->wpAny ap A (keyKind' vs.toArray) Q E { s with heap:=h' })/\U6 prog w A { s with heap:=h' } κ lt (pairsOf vs)
end
inductive CL where
 | i (n:Int)
 | s (x:Str)
 deriving DecidableEq
def Dt:CL->CL->Bool
 | .i a,.i b=>decide (a < b)
 | .s a,.s b=>decide (a.cps.toList < b.cps.toList)
 | .i _,.s _=>true
 | .s _,.i _=>false
def A5:List CL->List CL->Bool
 | [],[]=>false
 | [],_ :: _=>true
 | _ :: _,[]=>false
 | x :: xs,y :: ys=>if x=y then A5 xs ys else Dt x y
theorem Us (a:CL):Dt a a=false:=by
 cases a with
 | i n=>simp [Dt]
 | s x=>exact strKind.irrefl x.cps.toList
theorem Uq:∀ {a b c:CL},Dt a b=true->Dt b c=true->Dt a c=true
 | .i a,.i b,.i c,h1,h2=>by
  simp only [Dt,decide_eq_true_eq] at h1 h2 ⊢;lia
 | .i _,.i _,.s _,_,_=>rfl
 | .i _,.s _,.s _,_,_=>rfl
 | .i _,.s _,.i _,_,h=>by cases h
 | .s _,.i _,_,h,_=>by cases h
 | .s _,.s _,.i _,_,h=>by cases h
 | .s x,.s y,.s z,h1,h2=>strKind.trans x.cps.toList y.cps.toList z.cps.toList h1 h2
theorem Ur {a b:CL} (h:a ≠ b):Dt a b=true\/Dt b a=true:=by
 cases a <;> cases b <;> simp [Dt]
 ·have:∀ x y:Int,CL.i x ≠ CL.i y->x < y\/y < x:=fun x y h=>by
   have:x ≠ y:=fun e=>h (by rw [e])
   lia
  exact this _ _ h
 ·rename_i x y
  by_cases h1:x.cps.toList < y.cps.toList
  ·exact .inl h1
  ·by_cases h2:y.cps.toList < x.cps.toList
   ·exact .inr h2
   ·exfalso
    apply h;have e:=strKind.total x.cps.toList y.cps.toList (decide_eq_false h1) (decide_eq_false h2);cases x
    cases y
    rw [e7] at e;subst e;rfl
theorem D9:∀ a,A5 a a=false
 | []=>rfl
 | x :: xs=>by unfold A5; rw [if_pos rfl]; exact D9 xs
theorem Wi {a b:CL} (h:Dt a b=true):a ≠ b:=fun e=>by
 rw [e,Us] at h;cases h
theorem Gs:∀ a b c,A5 a b=true->A5 b c=true->A5 a c=true
 | [],[],_,h,_=>by cases h
 | [],_ :: _,[],_,h=>by cases h
 | [],_ :: _,_ :: _,_,_=>rfl
 | _ :: _,[],_,h,_=>by cases h
 | _ :: _,_ :: _,[],_,h=>by cases h
 | x :: xs,y :: ys,z :: zs,h1,h2=>by
  unfold A5 at h1 h2 ⊢;by_cases e1:x=y
  ·rw [if_pos e1] at h1;by_cases e2:y=z
   ·rw [if_pos e2] at h2;rw [if_pos (e1.trans e2)];exact Gs xs ys zs h1 h2
   ·rw [if_neg e2] at h2;rw [if_neg (by rw [e1]; exact e2),e1];exact h2
  ·rw [if_neg e1] at h1;by_cases e2:y=z
   ·rw [if_neg (by rw [<-e2]; exact e1),<-e2];exact h1
   ·rw [if_neg e2] at h2;have h3:=Uq h1 h2;rw [if_neg (Wi h3)];exact h3
theorem Lk:∀ a b,A5 a b=false->A5 b a=false->a=b
 | [],[],_,_=>rfl
 | [],_ :: _,h,_=>by cases h
 | _ :: _,[],_,h=>by cases h
 | x :: xs,y :: ys,h1,h2=>by
  unfold A5 at h1 h2;by_cases e:x=y
  ·rw [if_pos e] at h1;rw [if_pos e.symm] at h2;rw [e,Lk xs ys h1 h2]
  ·rw [if_neg e] at h1;rw [if_neg (fun z=>e z.symm)] at h2;rcases Ur e with q | q
   ·rw [h1] at q; cases q
   ·rw [h2] at q; cases q
theorem TQ (a b c:List CL) (h:A5 a c=true):A5 a b=true\/A5 b c=true:=by
 cases e1:A5 a b
 ·right;cases e2:A5 b a
  ·rw [<-Lk a b e1 e2]; exact h
  ·exact Gs _ _ _ e2 h
 ·exact .inl rfl
theorem Ll (f:Value->List CL):OQ (fun x y=>A5 (f x.1) (f y.1)):=
 ⟨fun a=>D9 _,fun a b c=>Gs _ _ _,fun a b c=>TQ _ _ _⟩
def Ck:Value->CL
 | .int n _=>.i n
 | .str x _=>.s x
 | _=>.i 0
def L7:V->CL
 | .int n=>.i n
 | .str x=>.s x
 | _=>.i 0
def CZ (h:Heap):Value->List CL
 | .ref a=>match h.get? a with
  | some o=>(match o.data with
   | .seq xs _=>xs.toList.map Ck
   | _=>[])
  | none=>[]
 | v=>[Ck v]
def JD (H:Hp):V->List CL
 | .ref a=>match H a with
  | some (.tup ys)=>ys.map L7
  | _=>[]
 | v=>[L7 v]
def J0 (k:Bool) (v:V):Prop:=if k=true then ∃ x,v=.str x else ∃ n,v=.int n
def CV (k:Bool) (v:Value):Prop:=if k=true then ∃ x t,v=.str x t else ∃ n t,v=.int n t
theorem TY {k:Bool} {v:V} {u:Value} (r:AA v u) (h:J0 k v):CV k u/\Ck u=L7 v:=by
 unfold J0 at h;unfold CV;cases k with
 | true=>
  simp only [if_true] at h ⊢;obtain ⟨x,rfl⟩:=h;obtain ⟨t,rfl⟩:=r;exact ⟨⟨x,t,rfl⟩,rfl⟩
 | false=>
  simp only [aF,if_false] at h ⊢;obtain ⟨x,rfl⟩:=h;obtain ⟨t,rfl⟩:=r;exact ⟨⟨x,t,rfl⟩,rfl⟩
def Jy (H:Hp) (kd:Nat->Bool) (v:V):Prop:=∃ t ys,v=.ref t/\H t=some (.tup ys)/\ys ≠ []/\∀ i y,ys[i]? = some y->J0 (kd i) y
def M7 (h:Heap) (kd:Nat->Bool) (v:Value):Prop:=∃ t o xs n,v=.ref t/\h.get? t=some o/\o.cls=.type "tuple"/\o.data=.seq xs n/\0 < xs.size/\∀ (i:Nat) x,xs.toList[i]? = some x->CV (kd i) x
theorem QQ {X:Cx} {pins:List cr} {σ:St} {H:Hp} {s:Shared} (I:Aq X pins σ H s) {kd:Nat->Bool} {v:V} {u:Value} (r:AA v u) (h:Jy H kd v):M7 s.heap kd u/\CZ s.heap u=JD H v:=by
 obtain ⟨t,ys,rfl,ht,ne,hy⟩:=h;cases r
 obtain ⟨_,As,rv,⟨o,ho,hc,n,hd⟩,_⟩:=(show AE X.prog X.w H s.heap t (.tup _) from I.hok t _ ht)
 have e:JD H (.ref t)=ys.map L7:=by
  show (match H t with | some (.tup ys)=>ys.map L7 | _=>[])=_
  rw [ht]
 have e2:CZ s.heap (.ref t)=As.map Ck:=by
  show (match s.heap.get? t with | some o=>(match o.data with | .seq xs _=>xs.toList.map Ck | _=>[]) | none=>[])=_
  rw [ho];dsimp only;rw [hd]
 have all:∀ {ys:List V} {As:List Value} (k:Nat),A9 ys As->(∀ i y,ys[i]? = some y->J0 (kd (k + i)) y)->(∀ (i:Nat) x,As[i]? = some x->CV (kd (k + i)) x)/\As.map Ck=ys.map L7:=by
  intro ys;induction ys with
  | nil=>intro As k rv _; cases rv; exact ⟨fun i x e=>by simp at e,rfl⟩
  | cons y ys ih=>
   intro As k rv hy;cases rv with
   | cons r1 r2=>
    obtain ⟨a1,a2⟩:=TY r1 (hy 0 y rfl);obtain ⟨b1,b2⟩:=ih (k + 1) r2 fun i z e=>by
     have:=hy gt z (by simpa using e);rw [show k + 1 + i=k + gt by lia];exact this
    refine ⟨fun i x e=>?_,by rw [ag,ag,a2,b2]⟩;cases i with
    | zero=>
     rw [b0] at e;cases e
     exact a1
    | succ i=>
     have:=b1 i x (by simpa using e);rw [show k + 1 + i=k + gt by lia] at this;exact this
 obtain ⟨a1,a2⟩:=all 0 rv fun i y e=>by rw [cg]; exact hy i y e
 refine ⟨⟨t,o,As.toArray,n,rfl,ho,hc,hd,?_,fun i x e=>?_⟩,by rw [e,e2,a2]⟩
 ·have:=rv.length;have:0 < ys.length:=bP.mpr ne;simp;lia
 ·have:=a1 i x (by simpa using e);rw [cg] at this;exact this
section
variable {prog:Program} {w:World} {A:Around} {E:Value->Shared->Prop} {s:Shared} {Q:Bool->Shared->Prop}
theorem T9 {k b:Bool} {u v:Value} (hu:CV k u) (hv:CV k v) (h:Q (Dt (Ck u) (Ck v)) s):wpAny ap A (oneLt' b u v) Q E s:=by
 unfold CV at hu hv;cases k with
 | true=>
  simp only [if_true] at hu hv;obtain ⟨x,t,rfl⟩:=hu;obtain ⟨y,t',rfl⟩:=hv;cases b with
  | true=>exact oneLt_str h
  | false=>exact kat_one _ _ (PySem.P.lt_str h)
 | false=>
  simp only [aF,if_false] at hu hv;obtain ⟨x,t,rfl⟩:=hu;obtain ⟨y,t',rfl⟩:=hv;cases b with
  | true=>exact oneLt_int h
  | false=>exact kat_one _ _ (lt_int h)
theorem Wb {k:Bool} {u v:Value} (hu:CV k u) (hv:CV k v):SeqAt.EqAt A s u v (decide (Ck u=Ck v)):=by
 unfold CV at hu hv;cases k with
 | true=>
  simp only [if_true] at hu hv;obtain ⟨x,t,rfl⟩:=hu;obtain ⟨y,t',rfl⟩:=hv;have e:decide (Ck (.str x t)=Ck (.str y t'))=(x == y):=by
   show decide (CL.s x=CL.s y)=_
   rw [bG];simp
  rw [e];exact SeqAt.EqAt.str_str x t y t'
 | false=>
  simp only [aF,if_false] at hu hv;obtain ⟨x,t,rfl⟩:=hu;obtain ⟨y,t',rfl⟩:=hv;have e:decide (Ck (.int x t)=Ck (.int y t'))=(x == y):=by
   show decide (CL.i x=CL.i y)=_
   rw [bG];simp
  rw [e];exact SeqAt.EqAt.int_int x t y t'
theorem Ku {b:Bool} {kd:Nat->Bool}:∀ (xs ys:List Value) (i:Nat),(∀ (j:Nat) x,xs[j]? = some x->CV (kd (i + j)) x)->(∀ (j:Nat) x,ys[j]? = some x->CV (kd (i + j)) x) ->
  Q (A5 (xs.map Ck) (ys.map Ck)) s->KatLex prog w A b (decide (xs.length < ys.length)) Q (xs.zip ys) i s
 | [],[],i,_,_,h=>h
 | [],y :: ys,i,_,_,h=>h
 | x :: xs,[],i,_,_,h=>h
 | x :: xs,y :: ys,i,hx,hy,h=>by
  have kx:CV (kd i) x:=hx 0 x rfl;have ky:CV (kd i) y:=hy 0 y rfl;rw [ag,ag] at h;unfold A5 at h;refine kat_cons (Wb kx ky _ _ _ _ ?_);refine kat_go (fun e=>kat_yes ?_) (fun e=>kat_no (T9 kx ky ?_))
  ·have e':=of_decide_eq_true e;rw [if_pos e'] at h;have r:=Ku (b:=b) (kd:=kd) xs ys gt (fun j z e=>by rw [show i + 1 + j=i + (j + 1) by lia]; exact hx (j + 1) z (by simpa using e)) (fun j z e=>by rw [show i + 1 + j=i + (j + 1) by lia]; exact hy (j + 1) z (by simpa using e)) h;have e2:decide ((x :: xs).length < (y :: ys).length)=decide (xs.length < ys.length):=by simp
   rw [e2];exact r
  ·have e':=of_decide_eq_false e;rw [if_neg e'] at h;exact h
theorem Vh {kd:Nat->Bool} {u v:Value} (hu:M7 s.heap kd u) (hv:M7 s.heap kd v) (h:Q (A5 (CZ s.heap u) (CZ s.heap v)) s):wpAny ap A (keyLt' (tuples' true) u v) Q E s:=by
 obtain ⟨t,o,xs,n,rfl,ho,hc,hd,p,hx⟩:=hu;obtain ⟨t',o',JN,n',rfl,JE,Ii,MB,p',Ln⟩:=hv;have e1:CZ s.heap (.ref t)=xs.toList.map Ck:=by
  show (match s.heap.get? t with | some o=>(match o.data with | .seq xs _=>xs.toList.map Ck | _=>[]) | none=>[])=_
  rw [ho];dsimp only;rw [hd]
 have e2:CZ s.heap (.ref t')=JN.toList.map Ck:=by
  show (match s.heap.get? t' with | some o=>(match o.data with | .seq xs _=>xs.toList.map Ck | _=>[]) | none=>[])=_
  rw [JE];dsimp only;rw [MB]
 rw [e1,e2] at h;refine kat_lt ho hd JE MB ?_;have e3:decide (xs.size < JN.size)=decide (xs.toList.length < JN.toList.length):=by simp
 rw [e3];exact Ku (kd:=kd) _ _ 0 (fun j x e=>by rw [cg]; exact hx j x e) (fun j x e=>by rw [cg]; exact Ln j x e) h
theorem JX {kd:Nat->Bool} {vs:List Value} (h:∀ v ∈ vs,M7 s.heap kd v):Cmpd prog w s (fun x y=>A5 (CZ s.heap x.1) (CZ s.heap y.1)) vs:=by
 intro h2 A h' kp;have h1:∀ v ∈ vs,M7 h' kd v/\CZ h' v=CZ s.heap v:=fun v hv=>by
  obtain ⟨t,o,xs,n,rfl,ho,hc,hd,p,hx⟩:=h v hv;exists ⟨t,o,xs,n,rfl,kp t o ho,hc,hd,p,hx⟩;show (match h'.get? t with | some o=>(match o.data with | .seq xs _=>xs.toList.map Ck | _=>[]) | none=>[])=(match s.heap.get? t with | some o=>(match o.data with | .seq xs _=>xs.toList.map Ck | _=>[]) | none=>[])
  rw [ho,kp t o ho]
 exists tuples' true,?_
 ·intro Q E hq;have tups:∀ l:List Value,(∀ v ∈ l,M7 h' kd v)->∃ fs:List Value,KatTups h' l fs/\fs.length=l.length/\∀ f ∈ fs,CV (kd 0) f:=by
   intro l;induction l with
   | nil=>intro _; exact ⟨[],KatTups.nil,rfl,fun f hf=>nomatch hf⟩
   | cons v l ih=>
    intro hl;obtain ⟨fs,k1,k2,k3⟩:=ih fun v hv=>hl v (ay _ hv)
    obtain ⟨t,o,xs,n,rfl,ho,hc,hd,p,hx⟩:=hl v aj;have g:xs[0]? = some xs[0]:=b6 p;refine ⟨xs[0] :: fs,KatTups.cons ho hc hd g k1,by rw [aB,aB,k2],fun f hf=>?_⟩;rcases ZZ.mp hf with rfl | hf
    ·exact hx 0 _ (by rw [b9]; exact g)
    ·exact k3 f hf
  obtain ⟨fs,k1,k2,k3⟩:=tups vs fun v hv=>(h1 v hv).1
  cases ek:kd 0 with
  | true=>
   refine kat_kind (T:=.type "str") k1 ad (fun v hv=>?_) rfl hq;have q:=k3 v hv;unfold CV at q;rw [ek] at q;simp only [if_true] at q;obtain ⟨x,t,rfl⟩:=q;exact Looks.now
  | false=>
   refine kat_kind (T:=.type "int") k1 ad (fun v hv=>?_) rfl hq;have q:=k3 v hv;unfold CV at q;rw [ek] at q;simp only [aF,if_false] at q;obtain ⟨x,t,rfl⟩:=q;exact Looks.now
 ·intro x y hx hy Q E hq;obtain ⟨ex,mx⟩:=Di (vs:=vs) (p:=x) (by simpa using hx);obtain ⟨ey,my⟩:=Di (vs:=vs) (p:=y) (by simpa using hy);rw [ex,ey] at hq ⊢;dsimp only at hq ⊢;refine Vh (h1 _ mx).1 (h1 _ my).1 ?_;show Q (A5 (CZ h' x.2) (CZ h' y.2)) _
  rw [(h1 _ mx).2,(h1 _ my).2];exact hq
end
theorem JT {us KL:List Value} (p:KL.Perm us):∀ {vs:List V},A9 vs us->∃ E5,A9 E5 KL/\E5.Perm vs:=by
 induction p with
 | nil=>intro vs h; exact ⟨vs,h,.refl _⟩
 | cons x p ih=>
  intro vs h;cases h with
  | cons h1 h2=>
   obtain ⟨E5,a,b⟩:=ih h2;exact ⟨_ :: E5,.cons h1 a,b.cons _⟩
 | swap x y l=>
  intro vs h;cases h with
  | cons h1 h2=>
   cases h2 with
   | cons h3 h4=>exact ⟨_ :: _ :: _,.cons h3 (.cons h1 h4),.swap _ _ _⟩
 | trans p1 p2 Si Sh=>
  intro vs h;obtain ⟨Hg,a1,b1⟩:=Sh h;obtain ⟨FY,a2,b2⟩:=Si a1;exact ⟨FY,a2,b2.trans b1⟩
end L2
namespace L2
open PySem PySem.W PyProof.Rows
section
variable {prog:Program} {w:World} {A:Around} {E:Value->Shared->Prop} {s:Shared} {κ:SortKind} {lt:Keyed->Keyed->Bool} {a0:Array Keyed}
end
end L2
namespace L2
open PySem PySem.Spec PySem.W PyProof.Rows
def wk (u:AG):List CL:=[.s u.1,.s u.2.1,.i u.2.2]
theorem QJ {H:Hp} {v:V} {u:AG} (h:F8 H v (G9 u)):Jy H (fun i=>decide (i < 2)) v/\JD H v=wk u:=by
 obtain ⟨w,t,e1,rfl,ht⟩:=Gx (i:=0) (ws:=[u]) (AU.cons h .nil) rfl;cases e1
 exists ⟨t,_,rfl,ht,by simp,fun i y e=>?_⟩
 ·unfold J0;match i,e with
  | 0,e=>cases e; simp
  | 1,e=>cases e; simp
  | 2,e=>cases e; simp
  | n + 3,e=>simp at e
 ·show (match H t with | some (.tup ys)=>ys.map L7 | _=>[])=_
  rw [ht];rfl
theorem JP {H:Hp}:∀ {vs:List V} {ws:List AG},AU H vs (ws.map G9)->(∀ v ∈ vs,Jy H (fun i=>decide (i < 2)) v)/\vs.map (JD H)=ws.map wk
 | _,[],.nil=>⟨(fun v hv=>nomatch hv),rfl⟩
 | _,u :: ws,.cons h r=>by
  obtain ⟨a1,a2⟩:=QJ h;obtain ⟨b1,b2⟩:=JP r;refine ⟨fun v hv=>?_,by rw [ag,ag,a2,b2]⟩;rcases ZZ.mp hv with rfl | hv
  ·exact a1
  ·exact b1 v hv
theorem Ih:∀ {ns:List Int} {us:List Value},A9 (ns.map V.int) us->∀ (i:Nat) (v:Value),us[i]? = some v->∃ n t,ns[i]? = some n/\v=Value.int n t
 | [],_,.nil,i,v,e=>by simp at e
 | n :: ns,_,.cons r1 r2,0,v,e=>by
  obtain ⟨t,rfl⟩:=r1;simp only [b0,ar.injEq] at e;exact ⟨n,t,rfl,e.symm⟩
 | n :: ns,_,.cons r1 r2,i + 1,v,e=>by simpa using Ih r2 i v (by simpa using e)
end L2
namespace L2
open PySem PySem.Spec PyProof.Rows
theorem E3 {α:Type}:∀ {ys:List α} {k:Nat} {y:α},ys[k]? = some y->(y :: ys.eraseIdx k).Perm ys
 | [],k,y,e=>by simp at e
 | x :: ys,0,y,e=>by
  simp at e;subst e;exact List.Perm.refl _
 | x :: ys,k + 1,y,e=>by
  simp at e;exact (List.Perm.swap x y _).trans ((E3 e).cons x)
theorem Ks {α β:Type} (f:α->β):∀ (ys:List α) (k:Nat),(ys.map f).eraseIdx k=(ys.eraseIdx k).map f
 | [],k=>by simp
 | x :: ys,0=>rfl
 | x :: ys,k + 1=>by
  show f x :: (ys.map f).eraseIdx k=f x :: (ys.eraseIdx k).map f
  rw [Ks f ys k]
theorem LB:∀ {ss:List Str} {us:List Value},A9 ic us->StrsAre us ss
 | [],_,.nil=>.nil
 | _ :: _,_,.cons r q=>by
  obtain ⟨t,rfl⟩:=r;exact .cons _ t (LB q)
theorem TL {X:Cx}:W8 X "str.join" (fun x vs H Q=>∃ (z:Str) (a:Addr) (ss:List Str),x=.str z/\vs=[.ref a]/\H a=some (.lst ic)/\z.length<=16/\(ss.map (·.length)).sum + ss.length<=1048576/\Q (.str (Txt.join z ss)) H):=by
 intro pins s σ H x vs v us Q I rx rv h;obtain ⟨z,a,ss,rfl,rfl,hH,hz,hw,q⟩:=h;obtain ⟨t,rfl⟩:=rx;obtain ⟨u,rfl,ru⟩:=rv.one;cases ru
 obtain ⟨_,As,n,r,_,e⟩:=I.lstM hH;refine join_listW (ys:=ss) ⟨_,e,rfl,n,rfl⟩ (by rw [List.toList_toArray]; exact LB r) hz hw fun t' k=>?_
 exact ⟨.str (Txt.join z ss),H,I.tok k,⟨t',rfl⟩,q⟩
theorem Mp (ss:List Str):(Txt.join (Str.ofString "") ss).cps.toList=(ss.map fun s=>s.cps.toList).flatten:=by
 unfold Txt.join;rw [PySem.StrLaws.glued_eq_join];induction ss with
 | nil=>rfl
 | cons x r ih=>
  cases r with
  | nil=>
   show x.cps.toList=_
   simp
  | cons y r=>
   have e:Str.join (Str.ofString "") (x :: y :: r)=x ++ Str.ofString "" ++ Str.join (Str.ofString "") (y :: r):=rfl;rw [e,ag,fV,<-ih];show ((x.cps ++ #[]) ++ (Str.join (Str.ofString "") (y :: r)).cps).toList=_
   simp
theorem Se {ss:List Str} (h:∀ s ∈ ss,s.length=1/\Ux s):Ux (Txt.join (Str.ofString "") ss)/\(Txt.join (Str.ofString "") ss).length=ss.length/\(ss.map (·.length)).sum=ss.length:=by
 have e:∀ l:List Str,(∀ s ∈ l,s.length=1/\Ux s)->((l.map fun s=>s.cps.toList).flatten).length=l.length/\(l.map (·.length)).sum=l.length:=by
  intro l;induction l with
  | nil=>intro _; exact ⟨rfl,rfl⟩
  | cons x r ih=>
   intro h;obtain ⟨i1,i2⟩:=ih fun s hs=>h s (ay _ hs)
   have hx:x.cps.size=1:=(h x (aj ..)).1;constructor
   ·rw [ag,fV,ZQ,i1,aH,hx,aB];lia
   ·rw [ag,cY,i2,aB];show x.cps.size + r.length=r.length + 1
    lia
 refine ⟨fun c hc=>?_,?_,(e ss h).2⟩
 ·rw [Mp] at hc;obtain ⟨l,hl,hcl⟩:=List.mem_flatten.mp hc;obtain ⟨s,hs,rfl⟩:=ZR.mp hl;exact (h s hs).2 c hcl
 ·show (Txt.join (Str.ofString "") ss).cps.size=_
  rw [<-aH,Mp];exact (e ss h).1
theorem Mh {xs:List Str} {hd:List Nat} {f:Nat->List Nat} (h:∀ i x,xs[i]? = some x->∃ tl,x.cps.toList=hd ++ (f i ++ tl)) (hf:∀ i j,i < j->j < xs.length->∀ tl Vk,f i ++ tl ≠ f j ++ Vk):xs.Nodup:=by
 refine bz.mpr fun i j hi hj hij e=>?_
 obtain ⟨tl,h1⟩:=h i _ (ZN hi);obtain ⟨Vk,h2⟩:=h j _ (ZN hj);rw [e,h2] at h1;exact hf i j hij hj tl Vk (List.append_cancel_left h1).symm
def PR (n:Nat) (st sp:Int) (k:Nat):List Nat:=if 26 < n then [97 + ((st + sp * k) % 26).toNat,97 + k / 26] else [97 + ((st + sp * k) % 26).toNat]
theorem V8 {n:Nat} {st sp:Int} (hn:n<=52) (hs:sp ∈ ([1,3,5,7,9,11,15,17]:List Int)) {i j:Nat} (hij:i < j) (hj:j < n) (tl Vk:List Nat):PR n st sp i ++ tl ≠ PR n st sp j ++ Vk:=by
 have key:((st + sp * i) % 26).toNat=((st + sp * j) % 26).toNat->(j - i) % 26=0:=by
  intro e;have e2:(st + sp * i) % 26=(st + sp * j) % 26:=by
   have a1:=bL (st + sp * i) (show (26:Int) ≠ 0 by decide);have a2:=bL (st + sp * j) (show (26:Int) ≠ 0 by decide);lia
  have g:Int.gcd 26 sp=1:=by
   simp only [ZZ,aQ,or_false] at hs;rcases hs with rfl | rfl | rfl | rfl | rfl | rfl | rfl | rfl <;> rfl
  have d:(26:Int) ∣ sp * ((j:Int) - i):=by
   refine Int.dvd_of_emod_eq_zero ?_;have e3:sp * ((j:Int) - i)=(st + sp * j) - (st + sp * i):=by rw [Int.mul_sub]; lia
   rw [e3,Int.sub_emod,e2,Int.sub_self];rfl
  have d2:(26:Int) ∣ (j:Int) - i:=by
   rw [Int.mul_comm] at d;have e4:Nat.gcd 26 sp.natAbs=1:=g;have e5:(26:Nat) ∣ ((j:Int) - i).natAbs * sp.natAbs:=by rw [<-Int.natAbs_mul]; exact fi.mpr d
   exact fi.mp (Nat.Coprime.dvd_of_dvd_mul_right e4 e5)
  lia
 intro e;unfold PR at e;by_cases h:26 < n
 ·rw [if_pos h,if_pos h] at e;simp only [bR,gf,cI.injEq] at e;have:=key ad;lia
 ·rw [if_neg h,if_neg h] at e;simp only [bR,gf,cI.injEq] at e;have:=key ad;lia
theorem En {i:Int} (h0:0<=i) (h1:i < 26):J3 Gu.cps.toList i=some (97 + i.toNat):=by
 obtain ⟨n,rfl⟩:∃ n:Nat,i=(n:Int):=⟨i.toNat,by lia⟩
 have:∀ m:Fin 26,J3 Gu.cps.toList (m.val:Int)=some (97 + ((m.val:Int)).toNat):=by decide +kernel
 exact this ⟨n,by lia⟩
theorem VG {α:Type} {l:List α} (h:l.length=1):∃ a,l=[a]:=List.length_eq_one_iff.mp h
theorem lenS {α:Type} {n:Nat} {l:List α} (h:l.length=n + 1):∃ a r,l=a :: r/\r.length=n:=by
 cases l with
 | nil=>cases h
 | cons a r=>exact ⟨a,r,rfl,Nat.succ.inj h⟩
theorem len2 {α:Type} {l:List α} (h:l.length=2):∃ a b,l=[a,b]:=by
 obtain ⟨a,r,rfl,hr⟩:=lenS h;obtain ⟨b,rfl⟩:=VG hr;exact ⟨a,b,rfl⟩
theorem len3 {α:Type} {l:List α} (h:l.length=3):∃ a b c,l=[a,b,c]:=by
 obtain ⟨a,r,rfl,hr⟩:=lenS h;obtain ⟨b,c,rfl⟩:=len2 hr;exact ⟨a,b,c,rfl⟩
section
variable {K:Type} [DecidableEq K] [BEq K] [LawfulBEq K]
def met (val:Nat->K) (i:Nat):List K:=((bD i).map val).foldl step_dedup []
theorem IT (val:Nat->K) (i:Nat):met val gt=step_dedup (met val i) (val i):=by
 unfold met; rw [dt,ZY,List.foldl_append]; rfl
theorem Pj (σ:List K) (v k:K):(step_dedup σ v).any (· == k)=(σ.any (· == k) || decide (k=v)):=by
 unfold step_dedup;by_cases h:σ.any (· == v)=true
 ·rw [if_pos h];by_cases e:k=v
  ·subst e; rw [h]; simp
  ·simp [e]
 ·rw [if_neg h,List.any_append];by_cases e:k=v
  ·subst e; simp
  ·have hb:(v == k)=false:=by simpa [beq_iff_eq] using (fun h':v=k=>e h'.symm)
   simp [hb,e]
theorem Ga (σ:List K) (v:K):(step_dedup σ v).length=if σ.any (· == v) then σ.length else σ.length + 1:=by
 unfold step_dedup; split <;> simp
theorem DK (val:Nat->K):∀ i,(met val i).length<=i
 | 0=>ZU _
 | i + 1=>by
  rw [IT,Ga];have ih:=DK val i;split <;> lia
end
section
variable {prog:Program} {w:World} {A:Around} {R:Result->Shared->Prop} {I:Addr} {fp wr:List Addr} {G:Array GenState->Array GenState->Prop} {n:Nat} {P:Nat->Value->Prop} {St:Nat->Shared->Prop}
variable {K:Type} [DecidableEq K] [BEq K] [LawfulBEq K] {knd:KeyKind prog w K}
end
section
variable {prog:Program} {w:World} {A:Around} {E:Value->Shared->Prop} {s:Shared}
variable {K:Type} [DecidableEq K] [BEq K] [LawfulBEq K] {knd:KeyKind prog w K}
end
theorem Mk (ss:List Str):met (fun i=>ss.getD i (Str.ofString "")) ss.length=ss.foldl step_dedup []:=by
 unfold met;congr 1;refine bZ gl fun i h1 h2=>?_
 simp [ai,ZN h2]
theorem K5 {X:Cx} (hg:X.A.guards=some []) (hu:X.A.units + 64 < cLine):Bo X (.builtin "repr") (fun xs H Q=>∃ (a:Addr) (d:PyData),xs=[.ref a]/\F8 H (.ref a) d/\d.showable=true/\d.hasDict=false/\d.depth<=60/\d.shown.length<=sizeLine/\Q (.str d.shown) H):=by
 intro pins s σ H xs us Q I r h;obtain ⟨a,d,rfl,hd,hs,hn,hdp,hz,q⟩:=h;obtain ⟨u,rfl,ru⟩:=BV r;obtain ⟨as,rds⟩:=hd.reads I ru;cases ru
 refine repr_of_reads' rds hs (fun z=>by rw [hn] at z; cases z) hg ad (fun _ _ e=>e) (fun h' u tk kk=>?_) hz;exact ⟨.str d.shown,H,I.kept (t':=tk) kk,⟨u,rfl⟩,q⟩
def DO (h:Heap) (d:Addr) (es:Array DictEntry) (ep:Nat):Prop:=∃ o,h.get? d=some o/\o.ExactDict/\o.data=.dict es ep
theorem DO.typeIs {s:Shared} {d:Addr} {es:Array DictEntry} {ep:Nat} (x:DO s.heap d es ep):s.TypeIs (.ref d) "dict":=let ⟨o,h1,h2,_⟩:=x; ⟨o,h1,h2.1⟩
theorem DO.at' {h h':Heap} {d:Addr} {es:Array DictEntry} {ep:Nat} (x:DO h d es ep) (e:∀ o,h.get? d=some o->h'.get? d=some o):DO h' d es ep:=let ⟨o,h1,r⟩:=x; ⟨o,e _ h1,r⟩
theorem DO.lt {h:Heap} {d:Addr} {es:Array DictEntry} {ep:Nat} (x:DO h d es ep):d < h.objs.size:=let ⟨_,h1,_⟩:=x; ZW h1
section
variable {prog:Program} {w:World} {A:Around} {E:Value->Shared->Prop} {s:Shared}
theorem LP {d:Addr} {es:Array DictEntry} {ep:Nat} {Q:Value->Shared->Prop} (hd:(d == sysModules)=false) (hm:DO s.heap d es ep)
  (hQ:Q hU { s with heap:=s.heap.push { cls:=.type "dict_keyiterator",data:=.fields #[.ref d,.int 0 0,.int es.size 0,.int ep 0] } }) :
  wpAny ap A (pyIter (.ref d)) Q E s:=by
 obtain ⟨o,ho,hc,hdat⟩:=id hm;have hT:s.TypeIs (.ref d) "dict":=hm.typeIs;refine wpAny_pyIter_slot hT F.slot_dict_iter (wpAny_call_entry F.slot_dict_iter hT F.entry_dict_iter ?_ (F.args_dict_iter_1 _));unfold Builtin.«dict.__iter__»;refine wpAny_bind ?_;unfold Builtin.Dict.dictSlotNone;refine wpAny_bind (wpAny_notOrdered_dict hT ?_);show wpAny _ _ (pure (Value.ref d)) _ _ s
 refine wpAny_pure ?_;show wpAny _ _ (Builtin.Dict.showsAll d >>= _) _ _ s
 unfold Builtin.Dict.showsAll;rw [if_neg (by rw [hd]; exact ah)];refine wpAny_bind gK;refine wpAny_bind (wpAny_dictEntries ho hdat ?_);refine wpAny_bind (wpAny_dictEpoch ho hdat ?_);have hsz:es.size=es.size:=rfl;refine wpAny_bind (wpAny_newObj_type (wpAny_pure ⟨_,rfl,"dict_keyiterator",_,⟨_,ZX _ rfl,rfl⟩,F.slot_dict_keyiterator_next.lookup,?_⟩));simpa [rawInt] using hQ
theorem LQ {it d:Addr} {i ep:Nat} {es:Array DictEntry} {key:Value} {Q:Option Value->Shared->Prop} (hit:s.heap.IsKeyIter it d i es.size ep)
  (hm:DO s.heap d es ep) (hx:es[i]?.map (·.key)=some key)
  (hQ:∀ h',h'.IsKeyIter it d gt es.size ep->Heap.SameBut it s.heap h'->Q (some key) { s with heap:=h' }) :
  wpAny ap A (pyNext (.ref it)) Q E s:=by
 obtain ⟨o,ho,hc,hd⟩:=id hit;obtain ⟨od,hod,hcd,hdd⟩:=id hm;unfold pyNext;refine wpAny_bind (wpAny_attempt (wpAny_callSpecial?_slot (name:=Str.ofString "__next__") hit.typeIs F.slot_dict_keyiterator_next
  (wpAny_call_entry F.slot_dict_keyiterator_next hit.typeIs F.entry_dict_keyiterator_next ?_ (F.args_dict_keyiterator_next_1 _))))
 refine wpAny_bind gK;refine wpAny_bind ?_;refine wpAny_bind ?_;first | refine wpAny_bind (wpAny_typeNameOfWhole_keyiter hit.typeIs gK) | refine wpAny_bind (wpAny_typeNameOf_keyiter hit.typeIs gK)
 refine wpAny_bind (wpAny_fieldsOf ho hd ?_);have hown:Builtin.Dict_items.ownsTuple "dict_keyiterator"=false:=by decide
 simp only [hown,aF,if_false];show wpAny _ _ (if (Value.ref d == Value.none)=true then _ else _) _ _ s
 rw [if_neg (show ¬ ((Value.ref d == Value.none)=true) from ah)];refine wpAny_bind gK;refine wpAny_bind (wpAny_dictEntries hod hdd ?_);have hsz:es.size=es.size:=rfl;rw [if_neg (by rw [hsz]; simp)];refine wpAny_bind gK;refine wpAny_bind (wpAny_dictEpoch hod hdd ?_);rw [if_neg gl];refine wpAny_pure ?_;have Sm:i < es.size:=by
  rcases dq i es.size with h | h
  ·exact h
  ·rw [cD h] at hx; cases hx
 have hkey:es[i].key=key:=by rw [b6 Sm] at hx; exact ar.inj hx
 simp only [show ¬ ((i:Int) < 0) from by lia,if_false,cZ,b6 Sm];refine wpAny_bind ?_;first | refine wpAny_bind (wpAny_typeNameOfWhole_keyiter hit.typeIs gK) | refine wpAny_bind (wpAny_typeNameOf_keyiter hit.typeIs gK)
 refine wpAny_bind (wpAny_isOneOf_keyiter hit.typeIs ?_);show wpAny _ _ (setField (.ref it) 1 (rawInt ((i:Int) + 1)) >>= _) _ _ s
 refine wpAny_bind (wpAny_setField ho hd gl ?_);have JG:(s.heap.update it (Obj.mapFields (·.setIfInBounds 1 (rawInt ((i:Int) + 1))))).IsKeyIter it d gt es.size ep:=
  ⟨_,aY _ ho (Obj.isFreed_of_fields (Obj.data_mapFields hd _)),(Obj.cls_mapFields ..).trans hc,by rw [Obj.data_mapFields hd]; simp [rawInt]⟩
 refine wpAny_bind (wpAny_holding ?_);refine wpAny_bind (wpAny_isOneOf_keyiter (s:={ s with heap:=s.heap.update it (Obj.mapFields (·.setIfInBounds 1 (rawInt ((i:Int) + 1)))) }) JG.typeIs ?_);show wpAny _ _ (pure es[i].key) _ _ _
 exact wpAny_pure (wpAny_pure ⟨_,rfl,wpAny_pure (hkey ▸ hQ _ JG (Heap.SameBut.update ..))⟩)
theorem Om {it d:Addr} {i ep:Nat} {es:Array DictEntry} {Q:Option Value->Shared->Prop} (hh:A.handled=none) (hit:s.heap.IsKeyIter it d i es.size ep)
  (hm:DO s.heap d es ep) (hx:es.size<=i)
  (hQ:∀ h',Heap.ExtBut it s.heap h'->Q none { s with heap:=h' }):wpAny ap A (pyNext (.ref it)) Q E s:=by
 obtain ⟨o,ho,hc,hd⟩:=id hit;obtain ⟨od,hod,hcd,hdd⟩:=id hm;unfold pyNext;refine wpAny_bind (wpAny_attempt (wpAny_callSpecial?_slot (name:=Str.ofString "__next__") hit.typeIs F.slot_dict_keyiterator_next
  (wpAny_call_entry F.slot_dict_keyiterator_next hit.typeIs F.entry_dict_keyiterator_next ?_ (F.args_dict_keyiterator_next_1 _))))
 refine wpAny_bind gK;refine wpAny_bind ?_;refine wpAny_bind ?_;first | refine wpAny_bind (wpAny_typeNameOfWhole_keyiter hit.typeIs gK) | refine wpAny_bind (wpAny_typeNameOf_keyiter hit.typeIs gK)
 refine wpAny_bind (wpAny_fieldsOf ho hd ?_);have hown:Builtin.Dict_items.ownsTuple "dict_keyiterator"=false:=by decide
 simp only [hown,aF,if_false];show wpAny _ _ (if (Value.ref d == Value.none)=true then _ else _) _ _ s
 rw [if_neg (show ¬ ((Value.ref d == Value.none)=true) from ah)];refine wpAny_bind gK;refine wpAny_bind (wpAny_dictEntries hod hdd ?_);have hsz:es.size=es.size:=rfl;rw [if_neg (by rw [hsz]; simp)];refine wpAny_bind gK;refine wpAny_bind (wpAny_dictEpoch hod hdd ?_);rw [if_neg gl];refine wpAny_pure ?_;have hge:es.size<=i:=hx;simp only [show ¬ ((i:Int) < 0) from by lia,if_false,cZ,cD hge];refine wpAny_bind ?_;first | refine wpAny_bind (wpAny_typeNameOfWhole_keyiter hit.typeIs gK) | refine wpAny_bind (wpAny_typeNameOf_keyiter hit.typeIs gK)
 show wpAny _ _ (setField (.ref it) 0 .none >>= _) _ _ s
 refine wpAny_bind (wpAny_setField ho hd gl ?_);show wpAny _ _ (newExc (.type "StopIteration") [] >>= _) _ _ _
 refine wpAny_bind ?_;simp only [newExc,newTuple];refine wpAny_bind (wpAny_newObj_type ?_ (by size_fits));refine wpAny_bind (m:=firstArgMember _ _) (wpAny_of_eq (a:=Value.none) (by first | rfl | (simp only [firstArgMember]; rfl)) ?_);refine wpAny_newObj_type ?_ (by size_fits);simp only [raiseNew];refine wpAny_bind (wpAny_handled ?_);rw [show A.in1.handled=none from hh];refine wpAny_bind (wpAny_pure (wpAny_throw ?_));refine wpAny_bind iw;exact wpAny_pure (hQ _ (((Heap.SameBut.update ..).extBut.push _).push _))
theorem PD (hh:A.handled=none) (I d:Addr) (hne:d ≠ I) (es:Array DictEntry) (ep:Nat) :
  Walks prog w A I [I,d] [I] es.size (fun i v=>es[i]?.map (·.key)=some v) (fun i h=>h.IsKeyIter I d i es.size ep/\DO h d es ep) where
 sub:=fun b hb=>by simp at hb; simp [hb]
 frame:=fun _ _ _ st hk=>⟨st.1.at fun o e=>hk I gl o e,st.2.at' fun o e=>hk d gl o e⟩
 item:=fun i s Q E hi st hQ=>by
  have hx:es[i]?.map (·.key)=some es[i].key:=by rw [b6 hi]; rfl
  refine LQ st.1 st.2 hx fun h' JG Kw=>?_
  exact hQ _ h' s.toks hx ⟨JG,st.2.at' fun o e=>Kw.extBut d o hne e⟩ fun b o hb e=>Kw.extBut b o (fun h=>hb (by simp [h])) e
 done:=fun s Q E st hQ=>Om hh st.1 st.2 (ZU _) fun h' DB=>hQ h' s.toks fun b o hb e=>DB b o (fun h=>hb (by simp [h])) e
 self:=fun _ _ _ _ st hQ=>wpAny_pyIter_keyiter st.1 hQ
theorem Tt {d:Addr} {es:Array DictEntry} {ep:Nat} (lo:(d == sysModules)=false):fW prog w "dict" d d es.size (fun i v=>es[i]?.map (·.key)=some v) (fun h=>DO h d es ep) where
 type:=fun _ hm=>hm.typeIs
 there:=fun _ hm=>⟨hm.lt,hm.lt⟩
 keep:=fun _ _ hm hk=>hm.at' fun o e=>hk d (.inl rfl) o e
 notList:=by decide
 notTuple:=by decide
 hint:=fun _ _ _ _ hm hq=>PySem.W.kdl_hint_dict hm.typeIs hq
 iter:=fun _ _ hh hm=>⟨_,_,(fun _ _ hq=>LP lo hm hq),PD hh _ d (ab hm.lt) es ep,⟨⟨_,ZX _ rfl,rfl,rfl⟩,hm.at' fun o e=>ZO _ e⟩⟩
end
structure Fn (K:ZP) (mg:Str->Option Value) (nm:Str) (st:Stmt) (ps:List Str) (f:Addr) (fd:FuncData):Prop where
 F:E4 K nm nm st f fd
 mg:mg nm=some (.ref f)
 b:F9 K fd ps []
theorem L5 {κ:Type} [DecidableEq κ] {kvs:List (κ × V)} {k:κ} {v:V} (h:(k,v) ∈ kvs):∃ v',Bm kvs k=some v'/\(k,v') ∈ kvs:=by
 induction kvs with
 | nil=>exact nomatch h
 | cons p r ih=>
  by_cases e:p.1=k
  ·exact ⟨p.2,B4 e,by rw [<-e]; exact aj⟩
  ·rcases ZZ.mp h with z | z
   ·exact absurd (by rw [<-z]) e
   ·obtain ⟨v',a,b⟩:=ih z;exact ⟨v',by rw [Bv e]; exact a,ay _ b⟩
structure OR (H:Hp) (m:Addr) (n:Nat) (xs:List Str) (ws:List AG):Prop where
 ex:∃ t1 t2:Addr,∃ vs:List V,H m=some (.tup [.ref t1,.ref t2])/\H t1=some (.tup ik)/\H t2=some (.tup vs)/\AU H vs (ws.map G9)
 len:xs.length=n
 nd:xs.Nodup
 nm:∀ x ∈ xs,Bq x=true
 wl:ws.length<=100
 wn:∀ u ∈ ws,Bq u.1=true/\Bq u.2.1=true/\1<=u.2.2/\u.2.2 < 10 ^ 30
def iSeq (K:ZP) (tl:TE):TI:=fun σ H R=>tl σ H fun x H1=>∃ a,x=.ref a/\(((∃ xs,AB K H1 a xs)/\R (SW K a) H1)\/((∃ xs,AI K H1 a xs)/\R (Q8 K a) H1))
theorem V4 {X:Cx} {tg l:Expr} {tl:TE} (hl:PE X l tl):PI X tg l (iSeq X.K tl):=by
 intro pins s σ H R I h;refine B5 (hl (pins:=pins) s σ H _ I h) fun v s1 ⟨x,H1,I1,r1,q1⟩=>?_
 obtain ⟨a,e,q1⟩:=q1;subst e;cases r1
 have fp:∀ b ∈ [s1.heap.objs.size],Ew X pins H1 b:=fun b hb=>by
  have e:b=s1.heap.objs.size:=by simpa using hb
  subst e;exact I1.fpOk (ZU _) (I1.hok.fresh (ZU _))
 rcases q1 with ⟨⟨xs,hq⟩,q⟩ | ⟨⟨xs,hq⟩,q⟩
 ·obtain ⟨As,rv,p,hz⟩:=I1.list hq;refine wpAny_pyIter_list p.isList ?_;exact ⟨s1.heap.objs.size,[s1.heap.objs.size],_,_,H1,rfl,I1.kept (t':=s1.toks) fun b o e=>ZO _ e,JW a _,⟨_,ZX _ rfl,rfl,rfl⟩,fp,q⟩
 ·obtain ⟨As,rv,p,hz⟩:=I1.tuple hq;refine wpAny_pyIter_tuple (show s1.heap.IsTuple a As.toArray from p) ?_;exact ⟨s1.heap.objs.size,[s1.heap.objs.size],_,_,H1,rfl,I1.kept (t':=s1.toks) fun b o e=>ZO _ e,Il a _,⟨_,ZX _ rfl,rfl,rfl⟩,fp,q⟩
structure NF (J:It) (xs:List V) (S:Hp->Prop):Prop where
 go:∀ i H,S H->i < xs.length->J.go i H
 yld:∀ i H x H',S H->J.yld i H x H'->H'=H/\xs[i]? = some x
 stop:∀ H,S H->J.stop xs.length H
theorem BN {K:ZP} {a:Addr} {xs:List V}:NF (SW K a) xs (fun H=>AB K H a xs):=
 ⟨fun i H q B0=>⟨xs,xs[i],q,by simp [B0]⟩,fun i H x H' q y=>⟨y.1,y.2 xs q⟩,fun H q=>⟨xs,q,ZU _⟩⟩
theorem BL {K:ZP} {a:Addr} {xs:List V}:NF (Q8 K a) xs (fun H=>AI K H a xs):=
 ⟨fun i H q B0=>⟨xs,xs[i],q,by simp [B0]⟩,fun i H x H' q y=>⟨y.1,y.2 xs q⟩,fun H q=>⟨xs,q,ZU _⟩⟩
theorem B6 {J:It} {xs:List V} {S:Hp->Prop} {g:TG} {te:TE} {H:Hp} {σ0:St} {R:Addr->Hp->Prop} (ov:NF J xs S) (I:Addr->Nat->St->Hp->List V->Prop) (big:xs.length < sizeLine)
  (h0:∀ D,H D=none->I D 0 σ0 (upd H D iF) [])
  (hs:∀ D i σ H' acc,H D=none->I D i σ H' acc->S H'/\H' D=some h9/\acc.length=i)
  (turn:∀ D i σ H' acc x (B:St->V->Hp->Prop),H D=none->xs[i]? = some x->I D i σ H' acc->(∀ Az v H5,H5 D=some h9->I D gt Az hX (acc ++ [v])->B Az v H5)->g x σ H' fun Az H3=>te Az H3 (B Az))
  (fin:∀ D σ H' acc,H D=none->I D xs.length σ H' acc->R D H') :
  ∀ D,H D=none->∃ W:Nat->Nat->St->Hp->Prop,(∃ m,W 0 m σ0 (upd H D iF)) /\
   ∀ i m A2 H',W i m A2 H'->(J.stop i H'/\R D H')\/(J.go i H'/\∀ x H2,J.yld i H' x H2->g x A2 H2 fun Az H3=>KP Az H3 fun b H4=>
    if b=true then te Az H4 (fun v H5=>∃ acc,H5 D=some h9/\acc.length < sizeLine/\∃ m',m' < m/\W gt m' Az hX) else ∃ m',m' < m/\W gt m' Az H4):=by
 intro D hD;exists fun i m σ H'=>m=xs.length - i/\i<=xs.length/\∃ acc,I D i σ H' acc,⟨xs.length,rfl,aJ _,[],h0 D hD⟩
 rintro i m σ H' ⟨rfl,hi,acc,p⟩;obtain ⟨s1,s2,s3⟩:=hs D i σ H' acc hD p;by_cases B0:i < xs.length
 ·refine .inr ⟨ov.go i H' s1 B0,fun x H2 y=>?_⟩;obtain ⟨rfl,ex⟩:=ov.yld i H' x H2 s1 y;have e:∀ (F:St->V->Hp->Prop) (G:St->Hp->Prop),(fun (Az:St) (H3:Hp)=>KP Az H3 fun b H4=>if b=true then te Az H4 (F Az) else G Az H4)=fun Az H3=>te Az H3 (F Az):=by
   intro F G;funext Az H3;show (if true=true then te Az H3 (F Az) else G Az H3)=_
   rw [if_pos rfl]
  rw [e (fun Az v H5=>∃ acc,H5 D=some h9/\acc.length < sizeLine/\∃ m',m' < xs.length - i/\(m'=xs.length - gt/\i + 1<=xs.length/\∃ GY,I D gt Az hX GY)) (fun Az H4=>∃ m',m' < xs.length - i/\(m'=xs.length - gt/\i + 1<=xs.length/\∃ GY,I D gt Az H4 GY))];refine turn D i σ H2 acc x _ hD ex p fun Az v H5 d5 p5=>?_
  exact ⟨acc,d5,by lia,xs.length - gt,by lia,rfl,B0,_,p5⟩
 ·have e:i=xs.length:=by lia
  subst e;exact .inl ⟨ov.stop H' s1,fin D σ H' acc hD p⟩
structure Du (d:PyData) (k b:Nat):Prop where
 lay:d.canLay0=true
 sho:d.showable=true
 nod:d.hasDict=false
 lv:d.leavesShort 200=true
 dp:d.depth<=k
 bu:d.bulk<=b
theorem Du.str {x:Str} (h:Bq x=true):Du (.str x) 0 6:=by
 obtain ⟨l1,l2,lo⟩:=Nn h;exists ?_,rfl,rfl,?_,ZU _
 ·have:=Dr (xs:=[x]) (by simpa using h);simpa [PyData.canLayAll0,PyData.canLay0] using this
 ·have e:PyData.leavesShort 200 (.str x)=x.cps.toList.all fun c=>decide (c < 16 ^ 8):=by simp only [PyData.leavesShort]
  rw [e,bH];intro c hc;have:=lo c hc;unfold Gr at this;simp at this;apply decide_eq_true;lia
 ·show PyData.bulk (.str x)<=6
  simp only [PyData.bulk];exact l2
theorem Du.mono {d:PyData} {k b k' b':Nat} (h:Du d k b) (h1:k<=k') (h2:b<=b'):Du d k' b':=⟨h.lay,h.sho,h.nod,h.lv,az h.dp h1,az h.bu h2⟩
theorem Du.all {k b:Nat}:∀ {ds:List PyData},(∀ d ∈ ds,Du d k b)->PyData.canLayAll0 ds=true/\PyData.showableAll ds=true/\PyData.hasDictAll ds=false/\PyData.leavesShortAll 200 ds=true/\PyData.depthAll ds<=k/\PyData.bulkAll ds<=ds.length * (b + 1)
 | [],_=>⟨rfl,rfl,rfl,rfl,aJ _,aJ _⟩
 | d :: ds,h=>by
  obtain ⟨a1,a2,a3,a4,a5,a6⟩:=Du.all (ds:=ds) fun e he=>h e (ay _ he)
  have f:=h d aj;have f5:=f.dp;have f6:=f.bu;exists by simp [PyData.canLayAll0,f.lay,a1],by simp [PyData.showableAll,f.sho,a2],by simp [PyData.hasDictAll,f.nod,a3],by simp [PyData.leavesShortAll,f.lv,a4],?_
  ·simp only [PyData.depthAll];lia
  ·simp only [PyData.bulkAll,aB,gC];lia
theorem Du.tuple {ds:List PyData} {k b:Nat} (h:∀ d ∈ ds,Du d k b):Du (.tuple ds) (k + 1) (ds.length * (b + 1)):=by
 obtain ⟨a1,a2,a3,a4,a5,a6⟩:=Du.all h;exact iI
theorem Du.list {ds:List PyData} {k b:Nat} (h:∀ d ∈ ds,Du d k b):Du (.list ds) (k + 1) (ds.length * (b + 1)):=by
 obtain ⟨a1,a2,a3,a4,a5,a6⟩:=Du.all h;exact iI
abbrev BU:=Str × Int
def DF (u:BU):PyData:=.tuple [.str u.1,.int u.2]
structure Et (xs:List Str) (lo:Int) (rs:List BU):Prop where
 sub:∀ r ∈ rs,r.1 ∈ xs
 nd:(rs.map (·.1)).Nodup
 lo:∀ r ∈ rs,lo<=r.2/\r.2 < 10 ^ 30
 one:1<=rs.length
theorem Qu {xs:List Str} (h:∀ x ∈ xs,Bq x=true):∀ d ∈ xs.map PyData.str,Du d 0 6:=by
 intro d hd;obtain ⟨u,hu,rfl⟩:=ZR.mp hd;exact Du.str (h u hu)
def rk (u:BU):List CL:=[.s u.1,.i u.2]
def S8 (rs:List BU):Prop:=rs.Pairwise (fun u v=>A5 (rk v) (rk u)=false)
theorem MU {H:Hp} {v:V} {u:BU} (h:F8 H v (DF u)):∃ t,v=.ref t/\H t=some (.tup [.str u.1,.int u.2]):=by
 unfold DF at h;cases h with
 | tup ha hd=>
  cases hd with
  | cons h1 r1=>
   cases r1 with
   | cons h2 r2=>
    cases r2
    cases h1
    cases h2
    exact ⟨_,rfl,ha⟩
theorem Oj {H:Hp} {t:Addr} {u:BU} (h:H t=some (.tup [.str u.1,.int u.2])):F8 H (.ref t) (DF u):=.tup h (.cons (.str _) (.cons (.int _) .nil))
theorem AM {H2 H3:Hp} {vs:List V} {rs:List BU} (h:AU H2 vs (rs.map DF)) (ht:∀ b xs,H2 b=some gX->H3 b=some gX):AU H3 vs (rs.map DF):=by
 induction rs generalizing vs with
 | nil=>cases h; exact .nil
 | cons u rs ih=>
  cases h with
  | cons h1 r=>
   obtain ⟨t,rfl,e⟩:=MU h1;exact .cons (Oj (ht _ _ e)) (ih r)
theorem C9 {H:Hp}:∀ {vs:List V} {rs:List BU} {i:Nat} {x:V},AU H vs (rs.map DF)->vs[i]? = some x->∃ u t,rs[i]? = some u/\x=.ref t/\H t=some (.tup [.str u.1,.int u.2])
 | _,[],i,x,.nil,e=>by simp at e
 | _,u :: rs,0,x,.cons h r,e=>by
  simp only [b0,ar.injEq] at e;subst e;obtain ⟨t,rfl,q⟩:=MU h;exact ⟨u,t,rfl,rfl,q⟩
 | _,u :: rs,i + 1,x,.cons h r,e=>by
  obtain ⟨u',t,a,b,c⟩:=C9 r (by simpa using e);exact ⟨u',t,by simpa using a,b,c⟩
theorem BX {H:Hp}:∀ {vs:List V} {rs:List BU},AU H vs (rs.map DF)->vs.length=rs.length
 | _,[],.nil=>rfl
 | _,u :: rs,.cons h r=>by rw [aB,aB,BX r]
theorem Pt {H:Hp} {vs E5:List V} (p:E5.Perm vs):∀ {rs:List BU},AU H vs (rs.map DF)->∃ MT:List BU,AU H E5 (MT.map DF)/\MT.Perm rs:=by
 induction p with
 | nil=>intro rs h; exact ⟨rs,h,.refl _⟩
 | cons x p ih=>
  intro rs h;cases rs with
  | nil=>cases h
  | cons u rs=>
   cases h with
   | cons h1 h2=>
    obtain ⟨MT,a,b⟩:=ih h2;exact ⟨u :: MT,.cons h1 a,b.cons u⟩
 | swap x y l=>
  intro rs h;cases rs with
  | nil=>cases h
  | cons u rs=>
   cases h with
   | cons h1 h2=>
    cases rs with
    | nil=>cases h2
    | cons v rs=>
     cases h2 with
     | cons h3 h4=>exact ⟨v :: u :: rs,.cons h3 (.cons h1 h4),.swap u v rs⟩
 | trans p1 p2 Si Sh=>
  intro rs h;obtain ⟨An,a1,b1⟩:=Sh h;obtain ⟨A6,a2,b2⟩:=Si a1;exact ⟨A6,a2,b2.trans b1⟩
theorem R4 {H:Hp} {v:V} {u:BU} (h:F8 H v (DF u)):Jy H (fun i=>decide (i < 1)) v/\JD H v=rk u:=by
 obtain ⟨t,rfl,ht⟩:=MU h;exists ⟨t,_,rfl,ht,by simp,fun i y e=>?_⟩
 ·unfold J0;match i,e with
  | 0,e=>cases e; simp
  | 1,e=>cases e; simp
  | n + 2,e=>simp at e
 ·show (match H t with | some (.tup ys)=>ys.map L7 | _=>[])=_
  rw [ht];rfl
theorem GA {H:Hp}:∀ {vs:List V} {rs:List BU},AU H vs (rs.map DF)->(∀ v ∈ vs,Jy H (fun i=>decide (i < 1)) v)/\vs.map (JD H)=rs.map rk
 | _,[],.nil=>⟨(fun v hv=>nomatch hv),rfl⟩
 | _,u :: rs,.cons h r=>by
  obtain ⟨a1,a2⟩:=R4 h;obtain ⟨b1,b2⟩:=GA r;refine ⟨fun v hv=>?_,by rw [ag,ag,a2,b2]⟩;rcases ZZ.mp hv with rfl | hv
  ·exact a1
  ·exact b1 v hv
def Lim (x:V) (d:PyData):Prop:=(x=.non/\d=.none)\/∃ i:Int,x=.int i/\d=.int i/\1<=i/\i < 10 ^ 30
end L2
namespace L2
open PySem PySem.Spec PySem.W PyProof.Rows
theorem NQ {X:Cx} {pins:List cr} {σ:St} {H:Hp} {s:Shared} (I:Aq X pins σ H s) {kd:Nat->Bool}:∀ {vs:List V} {As:List Value},A9 vs As->(∀ v ∈ vs,Jy H kd v)->∀ u ∈ As,M7 s.heap kd u
 | _,_,.nil,_,_,hu=>nomatch hu
 | _,_,.cons r1 r2,hk,u,hu=>by
  rcases ZZ.mp hu with rfl | hu
  ·exact (QQ I r1 (hk _ aj)).1
  ·exact NQ I r2 (fun v hv=>hk v (ay _ hv)) u hu
end L2
namespace L2
open PySem PySem.Spec PyProof.Rows
theorem OR.keepT {H H':Hp} {m:Addr} {n:Nat} {xs:List Str} {ws:List AG} (h:OR H m n xs ws) (t:∀ b ys,H b=some (.tup ys)->H' b=some (.tup ys)):OR H' m n xs ws:=by
 obtain ⟨ta,tb,vs,a,b,c,e⟩:=h.ex;exact ⟨⟨ta,tb,vs,t _ _ a,t _ _ b,t _ _ c,CS e t⟩,h.len,h.nd,h.nm,h.wl,h.wn⟩
theorem MH {x y x' y':Str} (p:[x',y'].Perm [x,y]) (h:sortedS [x',y']=true):x'=AY x y/\y'=AZ x y:=by
 have h1:=Cw h;have h2:[AY x y,AZ x y].Pairwise fun a b=>¬ b.cps.toList < a.cps.toList:=by
  refine List.pairwise_pair.mpr ?_;unfold AY AZ;by_cases a:y.cps.toList < x.cps.toList
  ·rw [if_pos a,if_neg (fun z=>BZ _ (bN a z))];exact fun z=>BZ _ (bN a z)
  ·rw [if_neg a];by_cases b:x.cps.toList < y.cps.toList
   ·rw [if_pos b];exact a
   ·rw [if_neg b];exact BZ _
 have p2:[AY x y,AZ x y].Perm [x,y]:=by
  unfold AY AZ;by_cases a:y.cps.toList < x.cps.toList
  ·rw [if_pos a,if_neg (fun z=>BZ _ (bN a z))];exact .swap _ _ _
  ·rw [if_neg a];by_cases b:x.cps.toList < y.cps.toList
   ·rw [if_pos b]
   ·rw [if_neg b];have e:x=y:=C4 a b;rw [e]
 have e:=DR h1 h2 (p.trans p2.symm);simp only [cI.injEq,and_true] at e;exact e
structure FQ (H:Hp) (m:Addr) (n:Nat) (ps:List Str) (ws:List AG):Prop where
 at':OR H m n ps ws
 dr:∃ (xs:List Str) (Vf:List AG),ps.Perm xs/\ws.Perm (Vf.map E7)/\Fb xs Vf
 so:sortedS ps=true
 l64:ws.length < 64
theorem FQ.web {H:Hp} {m:Addr} {n:Nat} {ps:List Str} {ws:List AG} (h:FQ H m n ps ws) (n1:1<=n) (n30:n<=30) :
  ∃ r,Jx H m ps ws r/\(∀ u ∈ ws,1<=u.2.2)/\(∀ x y l l',Cb ws x y l->Cb ws x y l'->l=l'):=by
 obtain ⟨xs,Vf,pp,wp,wof,sep,jn⟩:=h.dr;have pl:0 < ps.length:=by rw [h.at'.len]; lia
 have hr0:ps[0] ∈ xs:=pp.mem_iff.mp (bh pl);have en:=fun x y l=>K2 wp x y l
 refine ⟨ps[0],⟨⟨h.at'.ex⟩,h.at'.nd,by rw [h.at'.len]; lia,h.l64,fun u hu=>?_,ZN pl,fun Sp hs hcl z hz=>?_⟩,fun u hu=>(h.at'.wn u hu).2.2.1,fun x y l l' e1 e2=>Qy sep ((en x y l).mp e1) ((en x y l').mp e2)⟩
 ·obtain ⟨q1,q2⟩:=GP wp (fun u hu=>⟨(wof u hu).1,(wof u hu).2.1⟩) u hu;exact ⟨pp.mem_iff.mpr q1,pp.mem_iff.mpr q2⟩
 ·exact Lv.all jn Sp (fun b c hbc=>hcl b c ((S7 wp b c).mpr hbc)) hr0 hs z (pp.mem_iff.mp hz)
theorem Jc:∀ {ns:List Int} {us:List Value},A9 (ns.map V.int) us->∃ ts:List (Int × Tok),us=ts.map (fun p=>Value.int p.1 p.2)/\ts.map (·.1)=ns
 | [],_,.nil=>⟨[],rfl,rfl⟩
 | n :: ns,_,.cons r q=>by
  obtain ⟨t,rfl⟩:=r;obtain ⟨ts,rfl,e⟩:=Jc q;exact ⟨(n,t) :: ts,rfl,by rw [ag,e]⟩
theorem DM {X:Cx} (hc:X.calm=true):Bo X (.builtin "sum") (fun xs H Q=>∃ (a:Addr) (ns:List Int),xs=[.ref a]/\AB X.K H a (ns.map V.int)/\Q (.int ns.sum) H):=by
 intro pins s σ H xs us Q I r h;obtain ⟨a,ns,rfl,ha,q⟩:=h;obtain ⟨u,rfl,ru⟩:=BV r;cases ru
 obtain ⟨As,rv,pl,hz⟩:=I.list ha;obtain ⟨ts,rfl,e⟩:=Jc rv;have hl:s.heap.IsList a (intItems ts.toArray):=by
  have:=pl.isList;unfold intItems;simpa using this
 refine sum_intListG iG hl fun h' tk t' kk=>?_
 refine ⟨.int ns.sum,H,I.kept (t':=tk) kk,⟨t',?_⟩,q⟩;have:preSum (numAt ts.toArray) ts.toArray.size=ns.sum:=by
  rw [preSum_eq,df gl,<-e]
 rw [this]
theorem JC:typeLookup (.type "tuple") "keys"=pure none:=by rw [typeLookup_type,builtinLookup_eq_fast]; kernel_rfl
theorem Pg {prog:Program} {w:World} {A:Around} {E:Value->Shared->Prop} {s:Shared} {a:Addr} {o:Obj} {xs:Array Value} {k:Nat} {Q:Option Value->Shared->Prop}
  (hx:s.heap.get? a=some o) (hc:o.cls=.type "tuple") (hdat:o.data=.seq xs k) (hd:o.dict=none) (hA:A.handled=none)
  (h:∀ h' tk,(∀ b ob,s.heap.get? b=some ob->h'.get? b=some ob)->Q none { s with heap:=h',toks:=tk }):wpAny ap A (getAttr? (.ref a) "keys") Q E s:=by
 obtain ⟨c,dct,dat,sl⟩:=o;simp only at hc hdat hd;subst hc hdat hd;obtain ⟨hp,g,d,tk,os⟩:=s;have hT:∀ Wt,(⟨hp,g,d,Wt,os⟩:Shared).TypeIs (.ref a) "tuple":=fun _=>⟨_,hx,rfl⟩
 have f1:=sub_AttributeError;have f3:=F.slot_tuple_getattribute.lookup;have f4:=F.slot_tuple_getattribute.bind (.ref a);have f5:=am_tuple_getattr_none;unfold getAttr? getAttrBy? getAttrBy;repeat (any_goals (first | assumption | exact hT _ | ((with_reducible show wpAny _ _ (call (Value.builtin "tuple.__getattribute__") _ _) _ _ _); refine call_meets F.slot_tuple_getattribute (hT _) am_entry_tuple_getattribute (F.args_tuple_getattribute_2 _ _) (meets_getattribute_miss_tuple a xs k sl "keys" _ JC gO gO) ⟨hx,hA,fun h' Wt e Ln=>?_⟩) | wp_step))
 obtain ⟨t',u',he⟩:=Ln.there;show wpAny _ _ (getattributeRaised _ _ _ _ _ _ _) _ _ _
 unfold getattributeRaised;have hE:∀ Wt,(⟨h',g,d,Wt,os⟩:Shared).TypeIs (.ref e) "AttributeError":=fun _=>⟨_,he,rfl⟩
 repeat (any_goals (first | assumption | exact hE _ | wp_step))
 exact h _ _ Ln.keeps
section
variable {prog:Program} {w:World} {A:Around} {R:Result->Shared->Prop} {g0:Heap} {D it l:Addr} {vs:List Value} {ps:List gU}
theorem OW (hh:A.handled=none) (nI:it ≠ D) (nl:l ≠ it/\l ≠ D) (g1:∀ b o,g0.get? b=some o->b ≠ it/\b ≠ D) (hl:vs.length=ps.length) (rows:∀ (i:Nat) v p,vs[i]? = some v->ps[i]? = some p->Vb g0 v p) (hsz:ps.length < sizeLine) :
  ∀ (m i:Nat) (s:Shared) (kvs:List (AF × V)) (us:List (AF × Value)),ps.length - i=m->i<=ps.length->s.heap.IsTupleIter it l i->s.heap.IsTuple l vs.toArray->KV kvs us->kvs.length<=i->s.heap.DictOf (AR prog w) D us->(∀ b o,g0.get? b=some o->s.heap.get? b=some o) ->
   (∀ h' tk KL,KV (IU kvs (sK (ps.drop i))) KL->h'.DictOf (AR prog w) D KL->(∀ b o,b ≠ it->b ≠ D->s.heap.get? b=some o->h'.get? b=some o)->R (.ok (.ret .none)) { s with heap:=h',toks:=tk }) ->
   codeAny ap A (.builtin "dict.update.loop" ⟨[.ref D,.ref it,.int (i:Int) 0,.none],[]⟩) R s:=by
 intro m;induction m with
 | zero=>
  intro i s kvs us hm hi st hL kv kl dd gk r;have e:i=ps.length:=by lia
  refine codeAny_builtin ET ?_;rw [Around.under_plainId C7 _];unfold Builtin.«dict.update.loop»;refine wpAny_bind (wpAny_pyNext_tuple_end hh st hL (by simp; lia) fun h' eb=>?_);refine wpAny_bind (wpAny_pure gK);have ME:h'.DictOf (AR prog w) D us:=dd.at fun o q=>eb D o (Ne.symm nI) q
  refine r h' s.toks us ?_ ME fun b o b1 b2 q=>eb b o b1 q
  rw [e,List.drop_length];exact kv
 | succ m ih=>
  intro i s kvs us hm hi st hL kv kl dd gk r;have B0:i < ps.length:=by lia
  have ev:vs[i]? = some (vs[i]'(by lia)):=ZN ad;have ep:ps[i]? = some ps[i]:=ZN B0;obtain ⟨a,t,u,e1,ht,ru⟩:=rows i _ _ ev ep;rw [e1] at ev;refine codeAny_builtin ET ?_;rw [Around.under_plainId C7 _];unfold Builtin.«dict.update.loop»;refine wpAny_bind (wpAny_pyNext_tuple_item st hL (x:=.ref a) (by simpa using ev) fun h' AN sb=>?_);obtain ⟨o,ho,hc,n,hd⟩:=id ht;have ha:=(sb.2 a (g1 a o ho).1).trans (gk a o ho);have ME:h'.DictOf (AR prog w) D us:=dd.at fun o q=>(sb.2 D (Ne.symm nI)).trans q
  have L':h'.IsTuple l vs.toArray:=by
   obtain ⟨ol,hol,rl⟩:=hL;exact ⟨ol,(sb.2 l nl.1).trans hol,rl⟩
  refine wpAny_bind (wpAny_holding ?_);refine wpAny_bind (wpAny_tryCatch ?_);unfold Builtin.Dict.pairItems;refine wpAny_bind (wpAny_typeOf (T:="tuple") ⟨o,ha,hc⟩ ?_);rw [if_pos bi];refine wpAny_bind (wpAny_seqItems ha hd gK);show wpAny _ A.in1 (holding [Value.str ps[i].1 t,u] (dictSet D (Value.str ps[i].1 t) u)) _ _ _
  have Yx:us.length<=sizeLine:=by rw [<-kv.length]; lia
  refine wpAny_holding (wpAny_dictSet_pairs (k:=Sum.inr ps[i].1) (hsz:=Yx) (Hu prog w _ t) ME fun h2 MC XI=>?_);have ki:((i:Int) + 1)=((i + 1:Nat):Int):=by lia
  refine wpAny_pure ⟨plainId_quiet C7 _,?_⟩;show codeAny ap A (.builtin "dict.update.loop" ⟨[.ref D,.ref it,.int ((i:Int) + 1) 0,.none],[]⟩) R _
  rw [ki];have kl2:=C1 kvs (Sum.inr ps[i].1:AF) ps[i].2;have it2:h2.IsTupleIter it l gt:=by
   obtain ⟨oi,hoi,ri⟩:=AN;exact ⟨oi,(XI.2 it nI).trans hoi,ri⟩
  refine ih gt _ (Bw kvs (Sum.inr ps[i].1) ps[i].2) _ ad B0 it2 ?_ (kv.put (Sum.inr ps[i].1) ru) ad MC (fun b ob q=>(XI.2 b (g1 b ob q).2).trans ((sb.2 b (g1 b ob q).1).trans (gk b ob q))) fun h3 Vl us3 kv3 dd3 k3=>?_
  ·obtain ⟨ol,hol,rl⟩:=L';exact ⟨ol,(XI.2 l nl.2).trans hol,rl⟩
  ·refine r h3 Vl us3 ?_ dd3 fun b ob b1 b2 q=>k3 b ob b1 b2 ((XI.2 b b2).trans ((sb.2 b b1).trans q))
   have ed:ps.drop i=ps[i] :: ps.drop gt:=(eN B0)
   rw [ed];exact kv3
end
section
variable {prog:Program} {w:World} {A:Around} {E:Value->Shared->Prop} {s:Shared}
theorem HW {l:Addr} {vs:List Value} {ps:List gU} {Q:Value->Shared->Prop} (hh:A.handled=none) {ol:Obj} {nl:Nat} (hl:s.heap.get? l=some ol) (hc:ol.cls=.type "tuple") (hd:ol.data=.seq vs.toArray nl) (hdc:ol.dict=none)
  (hlen:vs.length=ps.length) (rows:∀ (i:Nat) v p,vs[i]? = some v->ps[i]? = some p->Vb s.heap v p) (hsz:ps.length < sizeLine)
  (h:∀ h' tk us,KV (IU [] (sK ps)) us->h'.DictOf (AR prog w) s.heap.objs.size us->(∀ b o,s.heap.get? b=some o->h'.get? b=some o)->Q hU { s with heap:=h',toks:=tk }):wpAny ap A (call (.type "dict") [.ref l]) Q E s:=by
 refine callType_codes (Q₁:=fun obj AQ=>obj=.ref s.heap.objs.size/\AQ = { s with heap:=s.heap.push { cls:=.type "dict",data:=.dict #[] } }) F.kt_called_dict (F.kt_typeCall_dict_1 _) F.entry_dict_init (kt_code_dict_new _ ⟨rfl,rfl⟩) ?_;rintro obj AQ ⟨rfl,rfl⟩;have hnew:(s.heap.push { cls:=.type "dict",data:=.dict #[] }).DictOf (AR prog w) s.heap.objs.size []:=Heap.DictOf.new s.heap;have QB:(s.heap.push { cls:=.type "dict",data:=.dict #[] }).get? l=some ol:=ZO _ hl;exists hnew.typeIs,F.args_dict_init_2 _ _;unfold Builtin.«dict.__init__»;refine wpAny_bind ?_;unfold Builtin.Dict.selfAndRest;refine wpAny_bind (wpAny_notOrdered_dict hnew.typeIs ?_);show wpAny _ _ (pure (s.heap.objs.size,[Value.ref l])) _ _ _
 refine wpAny_pure ?_;show wpAny _ _ (Builtin.Dict.updateFrom "dict.__init__" s.heap.objs.size (.ref l) [] .none) _ _ _
 unfold Builtin.Dict.updateFrom;refine wpAny_bind (wpAny_typeOf (T:="tuple") ⟨ol,QB,hc⟩ ?_);rw [if_pos bi];refine wpAny_bind (Pg QB hc hd hdc hh fun h1 tk1 k1=>?_);simp only [Option.isNone_none,if_true];refine wpAny_bind (wpAny_rule ?_);have Kx:h1.IsTuple l vs.toArray:=⟨ol,k1 _ _ QB,hc,nl,hd⟩
 refine wpAny_bind (wpAny_pyIter_tuple Kx ?_);have old:∀ b o,s.heap.get? b=some o->h1.get? b=some o:=fun b o q=>k1 b o (ZO _ q)
 obtain ⟨od,esd,epd,hod,rd⟩:=id hnew;have UR:=k1 _ _ hod;have ltD:=ZW UR;have ltl:=ZW (k1 _ _ QB);refine wpAny_pure ⟨plainId_quiet C7 _,?_⟩;refine OW (A:=A.in1) (g0:=s.heap) (D:=s.heap.objs.size) (it:=h1.objs.size) (l:=l) (vs:=vs) (ps:=ps) hh (bj ltD) ⟨ab ltl,ab (ZW hl)⟩ (fun b o q=>⟨ab (ZW (old b o q)),ab (ZW q)⟩) hlen rows hsz _ 0 { s with heap:=h1.push { cls:=.type "tuple_iterator",data:=.fields #[.ref l,.int 0 0] },toks:=tk1 } [] [] rfl (aJ _)
  ⟨_,ZX _ rfl,rfl,rfl⟩ (Kx.push _) .nil (ZU _) ⟨od,esd,epd,ZO _ UR,rd⟩ (fun b o q=>ZO _ (old b o q)) fun h' tk us kv dd kk=>?_
 rw [List.drop_zero] at kv;exact ⟨rfl,h h' tk us kv dd fun b o q=>kk b o (ab (ZW (old b o q))) (ab (ZW q)) (ZO _ (old b o q))⟩
end
theorem DY {X:Cx} (hc:X.calm=true):Bo X (.type "dict") (fun xs H Q=>∃ (a:Addr) (vs:List V) (ps:List gU),xs=[.ref a]/\H a=some (.tup vs)/\vs.length=ps.length/\(∀ (i:Nat) v p,vs[i]? = some v->ps[i]? = some p->∃ t,v=.ref t/\H t=some (.tup [.str p.1,p.2]))/\(ps.map (·.1)).Nodup/\ps.length < 1000 /\
  ∀ D,H D=none->Q (.ref D) (upd H D (.dK (sK ps)))):=by
 intro pins s σ H xs us Q I r h;obtain ⟨a,vs,ps,rfl,ha,hl,hk,hn,h1000,q⟩:=h;obtain ⟨u,rfl,ru⟩:=BV r;cases ru
 obtain ⟨hz,As,rv,⟨o,ho,Ii,n,hdat⟩,dn⟩:=(show AE X.prog X.w H s.heap a (.tup vs) from I.hok a _ ha)
 have MB:=dn o ho;have il:As.length=ps.length:=by rw [<-rv.length,hl]
 have big:1000 < sizeLine:=by decide
 refine HW iG (ps:=ps) ho Ii hdat MB il (fun i v p e1 e2=>?_) ad fun h' tk us kv dd kk=>?_
 ·have hi:i < As.length:=(ZT.mp e1).1;have e3:vs[i]? = some vs[i]:=ZN ad;obtain ⟨v',e4,r4⟩:=rv.get e3;rw [e1] at e4;cases e4
  obtain ⟨t,e5,ht⟩:=hk i _ p e3 e2;rw [e5] at r4;cases r4
  obtain ⟨IX,rv2,pl2,_⟩:=I.tuple (AI.of ht);cases rv2 with
  | cons x1 y1=>
   cases y1 with
   | cons x2 y2=>
    cases y2
    obtain ⟨t1,rfl⟩:=x1;exact ⟨t,t1,_,rfl,pl2,x2⟩
 ·have em:IU [] (sK ps)=sK ps:=Ml ps [] (by simpa using hn);rw [em] at kv;refine ⟨.ref s.heap.objs.size,_,I.laid (a:=s.heap.objs.size) (o:=.dK (sK ps)) (t':=tk) kk (ZU _) (Ls (by rw [CY]; lia) (beq_eq_false_iff_ne.mpr (Ne.symm (ab I.big))) kv dd),rfl,q _ (I.hok.fresh (ZU _))⟩
theorem OO {k:Int} (h1:-(2 ^ 300) < k) (h2:k < 2 ^ 300):Builtin.Int.intBits k<=2 ^ 20:=by
 unfold Builtin.Int.intBits;split
 ·exact aJ _
 ·have hn:k.natAbs < 2 ^ 300:=by lia
  have:k.natAbs.log2 < 300:=by
   rcases fX k.natAbs with h0 | hp
   ·rw [h0]; decide
   ·exact (Nat.log2_lt ad).mpr hn
  lia
def CMulB (i j:Int):Prop:=(-(2 ^ 300) < i/\i < 2 ^ 300)/\(-(2 ^ 300) < j/\j < 2 ^ 300)
theorem O1 {X:Cx}:E9 X (binaryOp .Mult) (rI CMulB fun i j=>.int (i * j)):=opI fun _ _ _ _ _ _ _ hc q=>mul_int q (IntMulOk.of_bits (OO hc.1.1 hc.1.2) (OO hc.2.1 hc.2.2))
structure Dv (H:Hp) (c m:Addr) (n:Nat) (xs:List Str) (ws:List AG) (An A6:List BU) (x:V) (d:PyData):Prop where
 ex:∃ (t1 t2:Addr) (Fu NP:List V),H c=some (.tup [.ref m,.ref t1,.ref t2,x])/\H t1=some (.tup Fu)/\AU H Fu (An.map DF)/\H t2=some (.tup NP)/\AU H NP (A6.map DF)
 map:FQ H m n xs ws
 n1:1<=n
 n30:n<=30
 ok1:Et xs 0 An
 ok2:Et xs 1 A6
 l1:An.length<=10
 l2:A6.length<=30
 lim:Lim x d
theorem FQ.keepT {H H':Hp} {m:Addr} {n:Nat} {xs:List Str} {ws:List AG} (h:FQ H m n xs ws) (t:∀ b ys,H b=some (.tup ys)->H' b=some (.tup ys)):FQ H' m n xs ws:=⟨h.at'.keepT t,h.dr,h.so,h.l64⟩
theorem Dv.keepT {H H':Hp} {c m:Addr} {n:Nat} {xs:List Str} {ws:List AG} {An A6:List BU} {x:V} {d:PyData} (h:Dv H c m n xs ws An A6 x d) (t:∀ b ys,H b=some (.tup ys)->H' b=some (.tup ys)):Dv H' c m n xs ws An A6 x d:=by
 obtain ⟨t1,t2,Fu,NP,a,b,e,f,g⟩:=h.ex;exact ⟨⟨t1,t2,Fu,NP,t _ _ a,t _ _ b,AM e t,t _ _ f,AM g t⟩,h.map.keepT t,h.n1,h.n30,h.ok1,h.ok2,h.l1,h.l2,h.lim⟩
theorem Dv.same {H H':Hp} {c m:Addr} {n:Nat} {xs:List Str} {ws:List AG} {An A6:List BU} {x:V} {d:PyData} (h:Dv H c m n xs ws An A6 x d) (s:Ar H H'):Dv H' c m n xs ws An A6 x d:=h.keepT fun b ys z=>s _ _ z
def W7 (xs ss:List Str):Prop:=ss ≠ []/\ss.Nodup/\∀ s ∈ ss,s ∈ xs
def DL (rs:List BU) (h:Str):Int:=((rs.find? fun r=>decide (r.1=h)).map (·.2)).getD 0
theorem FO {rs:List BU} (h:(rs.map (·.1)).Nodup) {r:BU} (hr:r ∈ rs):DL rs r.1=r.2:=by
 induction rs with
 | nil=>exact nomatch hr
 | cons q rs ih=>
  rw [ag,aD] at h;unfold DL;rw [bX];by_cases e:q.1=r.1
  ·rw [decide_eq_true e];rcases ZZ.mp hr with z | z
   ·rw [z]; rfl
   ·exact absurd (ZR.mpr ⟨_,z,e.symm⟩) h.1
  ·rw [decide_eq_false e];rcases ZZ.mp hr with z | z
   ·rw [z] at e; exact absurd rfl e
   ·exact ih h.2 z
def DT (rs:List BU):List gU:=rs.map fun r=>(r.1,.int r.2)
theorem Fm (rs:List BU):(DT rs).map (·.1)=rs.map (·.1):=by unfold DT; rw [aE]; rfl
theorem Oi {H:Hp} {us:List V} {rs:List BU} (h:AU H us (rs.map DF)):∀ (i:Nat) v p,us[i]? = some v->(DT rs)[i]? = some p->∃ t,v=.ref t/\H t=some (.tup [.str p.1,p.2]):=fun i v p e1 e2=>by
 obtain ⟨u,t,eu,rfl,ht⟩:=C9 h e1;unfold DT at e2;rw [ZV,eu] at e2;cases e2
 exact ⟨t,rfl,ht⟩
section
variable {prog:Program} {w:World} {A:Around} {E:Value->Shared->Prop} {s:Shared}
end
section
variable {prog:Program} {w:World} {A:Around} {E:Value->Shared->Prop} {s:Shared}
end
def Fd (H:Hp) (A:Addr) (xs:List Str) (ws:List AG):Prop:=∃ (M:Str->Str->Option Int) (c:Nat),MD H A M c/\∀ x ∈ xs,∀ y ∈ xs,∃ n,M x y=some n/\KG ws x y n/\0<=n/\n < 2 ^ 300
theorem Fd.same {H H':Hp} {A:Addr} {xs:List Str} {ws:List AG} (h:Fd H A xs ws) (s:Ar H H'):Fd H' A xs ws:=let ⟨M,c,a,b⟩:=h; ⟨M,c,a.same s,b⟩
theorem BY {J:It} {xs:List V} {S:Hp->Prop} {g:TG} {tt:TT} {te:TE} {H:Hp} {σ0:St} {R:Addr->Hp->Prop} (ov:NF J xs S) (I:Addr->Nat->St->Hp->List V->Prop) (big:xs.length < sizeLine)
  (h0:∀ D,H D=none->I D 0 σ0 (upd H D iF) [])
  (hs:∀ D i σ H' acc,H D=none->I D i σ H' acc->S H'/\H' D=some h9/\acc.length<=i)
  (turn:∀ D i σ H' acc x (B:St->V->Hp->Prop) (N:St->Hp->Prop),H D=none->xs[i]? = some x->I D i σ H' acc->(∀ Az v H5,H5 D=some h9->I D gt Az hX (acc ++ [v])->B Az v H5) ->
   (∀ Az H4,I D gt Az H4 acc->N Az H4)->g x σ H' fun Az H3=>tt Az H3 fun b H4=>if b=true then te Az H4 (B Az) else N Az H4)
  (fin:∀ D σ H' acc,H D=none->I D xs.length σ H' acc->R D H') :
  ∀ D,H D=none->∃ W:Nat->Nat->St->Hp->Prop,(∃ m,W 0 m σ0 (upd H D iF)) /\
   ∀ i m A2 H',W i m A2 H'->(J.stop i H'/\R D H')\/(J.go i H'/\∀ x H2,J.yld i H' x H2->g x A2 H2 fun Az H3=>tt Az H3 fun b H4=>
    if b=true then te Az H4 (fun v H5=>∃ acc,H5 D=some h9/\acc.length < sizeLine/\∃ m',m' < m/\W gt m' Az hX) else ∃ m',m' < m/\W gt m' Az H4):=by
 intro D hD;exists fun i m σ H'=>m=xs.length - i/\i<=xs.length/\∃ acc,I D i σ H' acc,⟨xs.length,rfl,aJ _,[],h0 D hD⟩
 rintro i m σ H' ⟨rfl,hi,acc,p⟩;obtain ⟨s1,s2,s3⟩:=hs D i σ H' acc hD p;by_cases B0:i < xs.length
 ·refine .inr ⟨ov.go i H' s1 B0,fun x H2 y=>?_⟩;obtain ⟨rfl,ex⟩:=ov.yld i H' x H2 s1 y;refine turn D i σ H2 acc x (fun Az v H5=>∃ acc,H5 D=some h9/\acc.length < sizeLine/\∃ m',m' < xs.length - i/\(m'=xs.length - gt/\i + 1<=xs.length/\∃ GY,I D gt Az hX GY)) (fun Az H4=>∃ m',m' < xs.length - i/\(m'=xs.length - gt/\i + 1<=xs.length/\∃ GY,I D gt Az H4 GY)) hD ex p (fun Az v H5 d5 p5=>?_) fun Az H4 p4=>?_
  ·exact ⟨acc,d5,by lia,xs.length - gt,by lia,rfl,B0,_,p5⟩
  ·exact ⟨xs.length - gt,by lia,rfl,B0,_,p4⟩
 ·have e:i=xs.length:=by lia
  subst e;exact .inl ⟨ov.stop H' s1,fin D σ H' acc hD p⟩
theorem Ra {l m:List Int} (p:l.Perm m):l.sum=m.sum:=by
 induction p with
 | nil=>rfl
 | cons x _ ih=>rw [cY,cY,ih]
 | swap x y l=>simp only [cY]; lia
 | trans _ _ Si Sh=>exact Si.trans Sh
theorem Ph {rs:List BU} {ss:List Str} (nd:(rs.map (·.1)).Nodup) (snd:ss.Nodup) (sub:∀ s ∈ ss,s ∈ rs.map (·.1)):((rs.filter fun r=>decide (r.1 ∈ ss)).map (·.2)).sum=(ss.map (DL rs)).sum:=by
 have p:((rs.filter fun r=>decide (r.1 ∈ ss)).map (·.1)).Perm ss:=by
  refine Hq ?_ snd fun x=>⟨fun h=>?_,fun h=>?_⟩
  ·exact (List.Sublist.map _ bO).nodup nd
  ·obtain ⟨r,hr,rfl⟩:=ZR.mp h;exact of_decide_eq_true (aO.mp hr).2
  ·obtain ⟨r,hr,e⟩:=ZR.mp (sub x h);exact ZR.mpr ⟨r,aO.mpr ⟨hr,by rw [decide_eq_true_eq,e]; exact h⟩,e⟩
 have e:(rs.filter fun r=>decide (r.1 ∈ ss)).map (·.2)=((rs.filter fun r=>decide (r.1 ∈ ss)).map (·.1)).map (DL rs):=by
  rw [aE];refine cj fun r hr=>?_
  exact (FO nd (aO.mp hr).1).symm
 rw [e];exact Ra (p.map _)
theorem Br.app' {ws:List AG} {x y z:Str} {m n:Int} (h:Br ws x y m) (g:Br ws y z n):Br ws x z (m + n):=by
 induction h with
 | nil x=>rw [e9]; exact g
 | cons e _ ih=>rw [dQ]; exact .cons e (ih g)
theorem Np {xs:List Str} {ws:List AG} (jn:Lv xs ws) {L:Int} (L0:0<=L) (hL:∀ u ∈ ws,u.2.2<=L) (hp:∀ u ∈ ws,1<=u.2.2) {r:Str} (hr:xs[0]? = some r):∀ (j:Nat) x,xs[j]? = some x->∃ m,Br ws x r m/\0<=m/\m<=j * L:=by
 intro j;induction j using Nat.strongRecOn with
 | ind j ih=>
  intro x hx;by_cases z:j=0
  ·subst z;rw [hr] at hx;cases hx
   exact ⟨0,.nil _,b5 _,by simp⟩
  ·obtain ⟨u,hu,i,hij,e1,e2⟩:=jn j ad (ZT.mp hx).1;rw [hx] at e2;cases e2
   obtain ⟨m,w,m0,ml⟩:=ih i hij _ e1;have hl:=hL u hu;have hq:=hp u hu;exists u.2.2 + m,.cons ⟨u,hu,.inr ⟨rfl,rfl⟩,rfl⟩ w,by lia
   have:((i:Int) + 1) * L<=j * L:=b7 ad L0;rw [gI,Int.one_mul] at this;lia
theorem FQ.sums {H:Hp} {m:Addr} {n:Nat} {ps:List Str} {ws:List AG} (h:FQ H m n ps ws) (n1:1<=n) (n30:n<=30):∀ x ∈ ps,∀ y ∈ ps,∃ k,Br ws x y k/\0<=k/\k < 2 ^ 300:=by
 obtain ⟨xs,Vf,pp,wp,wof,sep,jn⟩:=h.dr;have en:=fun x y l=>K2 wp x y l
 have xl:xs.length=n:=by rw [<-pp.length_eq]; exact h.at'.len
 have hr:xs[0]? = some (xs[0]'(by lia)):=ZN _;have hL:∀ u ∈ Vf,u.2.2<=10 ^ 30:=fun u hu=>by
  have:=(h.at'.wn (E7 u) (wp.mem_iff.mpr (ZR.mpr ⟨u,hu,rfl⟩))).2.2.2;have e:(E7 u).2.2=u.2.2:=rfl;lia
 have one:∀ x ∈ ps,∃ k,Br Vf x (xs[0]'(by lia)) k/\0<=k/\k<=30 * 10 ^ 30:=fun x hx=>by
  obtain ⟨j,hj,ej⟩:=aq (pp.mem_iff.mp hx);obtain ⟨k,a,b,c⟩:=Np jn bi hL (fun u hu=>(wof u hu).2.2.2) hr j x (by rw [ZN hj,ej]);refine ⟨k,a,b,gE c (b7 ad bi)⟩
 intro x hx y hy;obtain ⟨k1,a1,b1,c1⟩:=one x hx;obtain ⟨k2,a2,b2,c2⟩:=one y hy;have a3:=(QI en).mpr (Br.app' a1 a2.symm);exact ⟨k1 + k2,a3,by lia,by lia⟩
theorem Br.pos' {ws:List AG} (hp:∀ u ∈ ws,1<=u.2.2) {x y:Str} {m:Int} (h:Br ws x y m):0<=m:=by
 induction h with
 | nil=>exact b5 _
 | cons e _ ih=>obtain ⟨u,hu,_,rfl⟩:=e; have:=hp u hu; lia
theorem FQ.bound {H:Hp} {m:Addr} {n:Nat} {ps:List Str} {ws:List AG} (h:FQ H m n ps ws) (n1:1<=n) (n30:n<=30) {x y:Str} (hx:x ∈ ps) (hy:y ∈ ps) {k:Int} (d:KG ws x y k):0<=k/\k < 2 ^ 300:=by
 obtain ⟨k',a,_,c⟩:=h.sums n1 n30 x hx y hy;exact ⟨d.1.pos' fun u hu=>(h.at'.wn u hu).2.2.1,dX (d.2 k' a) c⟩
theorem FW.doneW {ws:List AG} {xs:List Str} (he:∀ u ∈ ws,u.1 ∈ xs/\u.2.1 ∈ xs) (ex:∀ x ∈ xs,∀ y ∈ xs,∃ m,Br ws x y m) {M:Str->Str->Option Int} (h:FW ws xs xs.length M):∀ x ∈ xs,∀ y ∈ xs,∃ n,M x y=some n/\KG ws x y n:=by
 intro x hx y hy;obtain ⟨m,hm⟩:=ex x hx y hy;have low:∀ m,Br ws x y m->∃ n,M x y=some n/\n<=m:=fun m g=>by
  rcases g.wi he with ⟨rfl,rfl⟩ | g
  ·exact h.diag x hx
  ·refine h.comp x y m ?_;rw [aw];exact g
 obtain ⟨n,e,_⟩:=low m hm;refine ⟨n,e,h.sound x y n e,fun m' g=>?_⟩;obtain ⟨n',e',l⟩:=low m' g;rw [e] at e';cases e'
 exact l
theorem FQ.apart {H:Hp} {m:Addr} {n:Nat} {ps:List Str} {ws:List AG} (h:FQ H m n ps ws) {u:AG} (hu:u ∈ ws):u.1 ≠ u.2.1:=by
 obtain ⟨xs,Vf,pp,wp,wof,_⟩:=h.dr;obtain ⟨v,hv,rfl⟩:=ZR.mp (wp.mem_iff.mp hu);have ne:=(wof v hv).2.2.1;show AY v.1 v.2.1 ≠ AZ v.1 v.2.1
 unfold AY AZ;by_cases a:v.2.1.cps.toList < v.1.cps.toList
 ·rw [if_pos a,if_neg (fun z=>BZ _ (bN a z))];exact fun z=>ne z.symm
 ·rw [if_neg a];by_cases b:v.1.cps.toList < v.2.1.cps.toList
  ·rw [if_pos b]; exact ne
  ·exact absurd (C4 a b) ne
theorem KQ {B:Int} (hB:0<=B):∀ {l:List Int},(∀ t ∈ l,0<=t/\t<=B)->0<=l.sum/\l.sum<=l.length * B
 | [],_=>⟨b5 _,by simp⟩
 | t :: l,h=>by
  obtain ⟨a,b⟩:=KQ hB (l:=l) fun t' ht=>h t' (ay _ ht)
  obtain ⟨c,d⟩:=h t aj;rw [cY,aB];have e:((l.length + 1:Nat):Int) * B=l.length * B + B:=by rw [Int.natCast_add,gI]; simp
  constructor <;> lia
theorem Q5 {rs:List BU} {ss xs:List Str} {lo:Int} (ok:Et xs lo rs) (h0:0<=lo) (sub:∀ s ∈ ss,s ∈ rs.map (·.1)) (sl:ss.length<=30):0<=(ss.map (DL rs)).sum/\(ss.map (DL rs)).sum < 2 ^ 500:=by
 have q:=KQ (B:=10 ^ 30) bi (l:=ss.map (DL rs)) fun t ht=>by
  obtain ⟨s,hs,rfl⟩:=ZR.mp ht;obtain ⟨r,hr,rfl⟩:=ZR.mp (sub s hs);rw [FO ok.nd hr];have:=ok.lo r hr;lia
 rw [ZM] at q;have:(ss.length:Int) * 10 ^ 30<=30 * 10 ^ 30:=b7 ad bi;lia
end L2
namespace L2
open PySem
theorem Mr {K:ZP} {a:Addr} {xs:List V} {g:TG} {tb:TS} {D:Fe} {σ:St} {H:Hp} (Pv:Nat->St->Hp->Prop) (h0:Pv 0 σ H) (hl:∀ i σ H,i<=xs.length->Pv i σ H->AI K H a xs)
  (hs:∀ i x σ H,xs[i]? = some x->Pv i σ H->∀ (rt:VK) (bk:St->Hp->Prop),g x σ H fun Az H2=>tb ⟨Pv gt,rt,bk,Pv gt⟩ Az H2) (hd:∀ σ H,Pv xs.length σ H->D.nx σ H) :
  ∃ W:Nat->Nat->St->Hp->Prop,(∃ m,W 0 m σ H)/\∀ i m σ H,W i m σ H ->
   ((Q8 K a).stop i H/\D.nx σ H)\/((Q8 K a).go i H/\∃ N:St->Hp->Prop,(∀ A2 H',N A2 H'->∃ m',m' < m/\W gt m' A2 H')/\∀ x H',(Q8 K a).yld i H x H'->g x σ H' fun Az H2=>tb { D with nx:=N,ct:=N,bk:=D.nx } Az H2):=
 OK Pv h0 hl (fun i x σ H hx hp=>hs i x σ H hx hp D.rt D.nx) hd
theorem Qt {a:Addr} {kvs:List (AF × V)} {o:Obj} {g:TG} {tb:TS} {D:Fe} {σ:St} {H:Hp} (Pv:Nat->St->Hp->Prop) (h0:Pv 0 σ H) (hl:∀ i σ H,i<=kvs.length->Pv i σ H->H a=some (.frz o iz))
  (hs:∀ i k v σ H,kvs[i]? = some (k,v)->Pv i σ H->∀ (rt:VK) (bk:St->Hp->Prop),g (kV k) σ H fun Az H2=>tb ⟨Pv gt,rt,bk,Pv gt⟩ Az H2) (hd:∀ σ H,Pv kvs.length σ H->D.nx σ H) :
  ∃ W:Nat->Nat->St->Hp->Prop,(∃ m,W 0 m σ H)/\∀ i m σ H,W i m σ H ->
   ((Ve a kvs o).stop i H/\D.nx σ H)\/((Ve a kvs o).go i H/\∃ N:St->Hp->Prop,(∀ A2 H',N A2 H'->∃ m',m' < m/\W gt m' A2 H')/\∀ x H',(Ve a kvs o).yld i H x H'->g x σ H' fun Az H2=>tb { D with nx:=N,ct:=N,bk:=D.nx } Az H2):=
 Sy Pv h0 hl (fun i k v σ H hx hp=>hs i k v σ H hx hp D.rt D.nx) hd
theorem C8 {K:ZP} {a:Addr} {xs:List V} {g:TG} {tb:TS} {D:Fe} {σ:St} {H:Hp} (Pv:Nat->St->Hp->Prop) (h0:Pv 0 σ H) (hl:∀ i σ H,i<=xs.length->Pv i σ H->AI K H a xs)
  (hs:∀ i x σ H,xs[i]? = some x->Pv i σ H->∀ (rt:VK) (bk N:St->Hp->Prop),(∀ σ H,Pv gt σ H->N σ H)->g x σ H fun Az H2=>tb ⟨N,rt,bk,N⟩ Az H2) (hd:∀ σ H,Pv xs.length σ H->D.nx σ H) :
  ∃ W:Nat->Nat->St->Hp->Prop,(∃ m,W 0 m σ H)/\∀ i m σ H,W i m σ H ->
   ((Q8 K a).stop i H/\D.nx σ H)\/((Q8 K a).go i H/\∃ N:St->Hp->Prop,(∀ A2 H',N A2 H'->∃ m',m' < m/\W gt m' A2 H')/\∀ x H',(Q8 K a).yld i H x H'->g x σ H' fun Az H2=>tb { D with nx:=N,ct:=N,bk:=D.nx } Az H2):=
 OK Pv h0 hl (fun i x σ H hx hp=>hs i x σ H hx hp D.rt D.nx _ fun _ _ z=>z) hd
theorem K1 {K:ZP} {a:Addr} {xs:List V} {g:TG} {tb:TS} {D:Fe} {σ:St} {H:Hp} (Pv:Nat->St->Hp->Prop) (h0:Pv 0 σ H) (hl:∀ i σ H,i<=xs.length->Pv i σ H->AB K H a xs)
  (hs:∀ i x σ H,xs[i]? = some x->Pv i σ H->∀ (rt:VK) (bk N:St->Hp->Prop),(∀ σ H,Pv gt σ H->N σ H)->g x σ H fun Az H2=>tb ⟨N,rt,bk,N⟩ Az H2) (hd:∀ σ H,Pv xs.length σ H->D.nx σ H) :
  ∃ W:Nat->Nat->St->Hp->Prop,(∃ m,W 0 m σ H)/\∀ i m σ H,W i m σ H ->
   ((SW K a).stop i H/\D.nx σ H)\/((SW K a).go i H/\∃ N:St->Hp->Prop,(∀ A2 H',N A2 H'->∃ m',m' < m/\W gt m' A2 H')/\∀ x H',(SW K a).yld i H x H'->g x σ H' fun Az H2=>tb { D with nx:=N,ct:=N,bk:=D.nx } Az H2):=
 EL Pv h0 hl (fun i x σ H hx hp=>hs i x σ H hx hp D.rt D.nx _ fun _ _ z=>z) hd
end L2
namespace L2
open PySem PySem.Spec PySem.W PyProof.Rows
end L2
namespace L2
open PySem PySem.Spec PyProof.Rows
theorem G7.caught {X:Cx} {scope:Scope} {cl:List io} (clos:closureFor scope X.env=pure cl) (hkind:scope.kind=.function)
  (hnames:∀ y ∈ scope.names,y.2=.local->scope.names.lookup y.1=some .local) (hcl:∀ y ∈ cl,X.env.cells.lookup y.1=some y.2) (hap:cl.Pairwise fun x y=>x.2 ≠ y.2)
  (hfr:∀ y ∈ scope.names,y.2=.free->∃ c,(y.1,c) ∈ cl):G7 X scope cl:=by
 refine ⟨clos,hkind,hnames,fun x c h=>hcl _ h,hap,fun x h=>?_⟩;have key:∀ k,(relabel scope X.env).names.lookup x=some k->k=.cell\/k=.free->(x,NameKind.cell) ∈ scope.names\/∃ c,(x,c) ∈ cl:=by
  intro k e hk;have m:=Dq e;obtain ⟨⟨n,k'⟩,hm,e'⟩:=ZR.mp m;dsimp only at e';by_cases hf:k'=.free
  ·subst hf;have en:n=x:=by
    by_cases hc:(NameKind.free == NameKind.free && X.env.scope.kind == .function && X.env.kindOf n == some .cell)=true
    ·rw [if_pos hc] at e';injection e'
    ·rw [if_neg hc] at e';injection e'
   subst en;exact .inr (hfr _ hm rfl)
  ·have:(k' == NameKind.free)=false:=by
    cases k' <;> first | rfl | exact absurd rfl hf
   rw [this] at e';simp at e';obtain ⟨rfl,rfl⟩:=e';rcases hk with rfl | rfl
   ·exact .inl hm
   ·exact absurd rfl hf
 rcases h with h | h
 ·exact key _ h (.inl rfl)
 ·exact key _ h (.inr rfl)
theorem A8 (K:ZP) {X:Cx} (h:X.K=K):Bo X (.builtin "len") (fun xs H Q=>∃ p vs,xs=[V.ref p]/\(AB K H p vs\/AI K H p vs)/\Q (.int vs.length) H):=by subst h; exact Es
theorem BF (K:ZP) {X:Cx} {tg l:Expr} {tl:TE} (h:X.K=K) (hl:PE X l tl):PI X tg l (UM K tl):=by subst h; exact Lc hl
theorem AV (K:ZP) {X:Cx} {tg l:Expr} {tl:TE} (h:X.K=K) (hl:PE X l tl):PI X tg l (iTup K tl):=by subst h; exact RE hl
def GtAt (A:Around) (s:Shared) (x y:Value) (b:Bool):Prop:=∀ (prog:Program) (w:World) (E Q:Value->Shared->Prop),Q (.bool b) s->wpAny ap A (richCompare .Gt x y) Q E s
def G4 (h:Heap) (v:Value) (ss:List Str):Prop:=∃ a us,v=.ref a/\IsTup h a us.toArray/\A9 ic us
def NH (h:Heap) (v:Value) (k:Int × List Str):Prop:=∃ a l t,v=.ref a/\IsTup h a #[.int k.1 t,.ref l]/\G4 h (.ref l) k.2
def Cf (k:Int × List Str):List CL:=.i k.1 :: k.2.map CL.s
theorem G4.keep {h h':Heap} {v:Value} {p:List Str} (x:G4 h v p) (k:∀ b o,h.get? b=some o->h'.get? b=some o):G4 h' v p:=by
 obtain ⟨a,us,rfl,⟨o,ho,r⟩,z⟩:=x;exact ⟨a,us,rfl,⟨o,k _ _ ho,r⟩,z⟩
theorem NH.keep {h h':Heap} {v:Value} {p:Int × List Str} (x:NH h v p) (k:∀ b o,h.get? b=some o->h'.get? b=some o):NH h' v p:=by
 obtain ⟨a,l,t,rfl,⟨o,ho,r⟩,z⟩:=x;exact ⟨a,l,t,rfl,⟨o,k _ _ ho,r⟩,z.keep k⟩
theorem Sd {p q:Int × List Str} (h:Cf p=Cf q):p=q:=by
 unfold Cf at h;injection h with h1 h2;injection h1 with h1;have:p.2=q.2:=by
  have inj:∀ {xs ys:List Str},xs.map CL.s=ys.map CL.s->xs=ys:=by
   intro xs;induction xs with
   | nil=>intro ys e; cases ys with | nil=>rfl | cons y ys=>cases e
   | cons x xs ih=>
    intro ys e;cases ys with
    | nil=>cases e
    | cons y ys=>
     rw [ag,ag] at e;injection e with e1 e2;injection e1 with e1;rw [e1,ih e2]
  exact inj h2
 exact Prod.ext h1 this
theorem JS {us vs:List Value} {xs:List Str} (r1:A9 ik us) (j:Nat) (hj:j < us.length):∃ t x,xs[j]? = some x/\us[j]=.str x t:=by
 have l1:=r1.length;rw [ZM] at l1;have e:ik[j]? = some (V.str (xs[j]'(by lia))):=by rw [ZV,ZN ad]; rfl
 obtain ⟨u,e1,r⟩:=r1.get e;obtain ⟨t,rfl⟩:=r;rw [ZN hj] at e1;exact ⟨t,_,ZN ad,ar.inj e1⟩
theorem JR {us:List Value}:∀ {xs ys:List Str},A9 ik us->A9 (ys.map V.str) us->xs=ys:=by
 induction us with
 | nil=>
  intro xs ys r1 r2;cases xs with
  | nil=>cases ys with | nil=>rfl | cons _ _=>cases r2
  | cons _ _=>cases r1
 | cons u us ih=>
  intro xs ys r1 r2;cases xs with
  | nil=>cases r1
  | cons x xs=>
   cases ys with
   | nil=>cases r2
   | cons y ys=>
    cases r1 with
    | cons a1 b1=>
     cases r2 with
     | cons a2 b2=>
      obtain ⟨t,e⟩:=a1;obtain ⟨t',e'⟩:=a2;rw [e] at e';cases e'
      rw [ih b1 b2]
theorem Lr {A:Around} {s:Shared} {v w:Value} {xs ys:List Str} (hv:G4 s.heap v xs) (hw:G4 s.heap w ys) (hu:A.units < cLine):SeqAt.EqAt A s v w (decide (xs=ys)):=by
 obtain ⟨a,us,rfl,ha,r1⟩:=hv;obtain ⟨b,vs,rfl,hb,r2⟩:=hw;by_cases hab:a=b
 ·subst hab;have e:xs=ys:=by
   obtain ⟨o,ho,hc,n,hd⟩:=ha;obtain ⟨o',JE,Ii,n',MB⟩:=hb;rw [ho] at JE;cases JE
   rw [hd] at MB;injection MB with e1 e2;have e3:=congrArg dW e1;simp only at e3;subst e3;exact JR r1 r2
  rw [decide_eq_true e];intro prog w E Q h;unfold eqBool;refine wpAny_holding ?_;exact wpAny_ite_split (fun _=>wpAny_bind (wpAny_rule (wpAny_pure h))) (fun hn=>absurd gl hn)
 ·have l1:=r1.length;have l2:=r2.length;rw [ZM] at l1 l2;have key:=SeqAt.RcAt.tuples (A:=A) (s:=s) (e:=fun j=>xs[j]? == ys[j]?) (show s.heap.IsTuple a us.toArray from ha) (show s.heap.IsTuple b vs.toArray from hb) hu (fun j h1 h2=>by
   obtain ⟨t,x,e1,e2⟩:=JS (vs:=us) r1 j (by simpa using h1);obtain ⟨t',y,e3,e4⟩:=JS (vs:=vs) r2 j (by simpa using h2);rw [fj,fj,e2,e4,e1,e3];have:=SeqAt.EqAt.str_str x t y t' (A:=A.in1) (s:=s);exact this)
  have e:((bD (min us.toArray.size vs.toArray.size)).all (fun j=>xs[j]? == ys[j]?) && us.toArray.size == vs.toArray.size)=decide (xs=ys):=by
   rw [bG,aV,bH,decide_eq_true_iff];simp only [bo,au,beq_iff_eq];constructor
   ·rintro ⟨h1,h2⟩;refine fY fun j=>?_
    by_cases hj:j < us.length
    ·exact h1 j ad
    ·rw [du ad,du ad]
   ·rintro rfl;exact ⟨fun j _=>rfl,by lia⟩
  rw [e] at key;exact SeqAt.EqAt.of_refs hab key
def CmpsG (A:Around) (s:Shared) (z:Bool):List (Value × Value)->Bool->Prop
 | [],r=>r=z
 | p :: CC,r=>∃ e,SeqAt.EqAt A s p.1 p.2 e/\(e=false->GtAt A s p.1 p.2 r)/\(e=true->CmpsG A s z CC r)
section
open PySem.SeqAt
open PySem.AutoSeq1 (wpAny_loadPart')
open PySem.MeetsSeq PySem.MeetsSeq2 PySem.MeetsSeq3
end
def KH (A:Around) (s:Shared) (z:Bool):List (Value × Value)->Bool->Prop
 | [],r=>r=z
 | p :: CC,r=>∃ e,SeqAt.EqAt A s p.1 p.2 e/\(e=false->CK A s p.1 p.2 r)/\(e=true->KH A s z CC r)
section
open PySem.SeqAt
open PySem.AutoSeq1 (wpAny_loadPart')
open PySem.MeetsSeq PySem.MeetsSeq2 PySem.MeetsSeq3
theorem Pd (l b:Addr) (xs ys:Array Value) (n n2:Nat) (dd MC:Option Addr) (sl Of:Array (Option Value)) (r:Bool) :
  Meets (Builtin.«tuple.__lt__» ⟨[.ref l,.ref b],[]⟩)
   (fun A R s=>s.heap.get? l=some { cls:=.type "tuple",dict:=dd,data:=.seq xs n,slots:=sl }/\s.heap.get? b=some { cls:=.type "tuple",dict:=MC,data:=.seq ys n2,slots:=Of } /\
    KH A.in1 s (decide (xs.size < ys.size)) (xs.toList.zip ys.toList) r/\R (.ok (.ret (.bool r))) s):=
 .of_wp fun prog w A R s h=>by
  obtain ⟨hp,g,d,tk,os⟩:=s; obtain ⟨hl,hb,hc,h⟩:=h;have f2:=AutoSeq1.sub_tuple_tuple;wp_walk using wpAny_loadPart' hl,wpAny_loadPart' hb,wpAny_forIn_list _ (fun CC b s'=>b.1=none/\s'=⟨hp,g,d,tk,os⟩/\KH A.in1 ⟨hp,g,d,tk,os⟩ (decide (xs.size < ys.size)) CC r) _
  case turn=>
   rintro ⟨y,x⟩ CC b s' ⟨F4,rfl,e,he,h1,h2⟩;refine wpAny_bind (he prog w _ _ ?_);cases ee:e with
   | true=>
    wp_walk
    exact ⟨rfl,rfl,h2 ee⟩
   | false=>
    have hri:=h1 ee prog w;wp_walk using hri;exact ⟨_,rfl,by simpa using h⟩
  case fin=>
   rintro ⟨b1',b2'⟩ s' ⟨F4,rfl,hz⟩;have Q9:r=decide (xs.size < ys.size):=hz;simp only at F4;subst F4 Q9;wp_walk;exact ⟨_,rfl,by simpa [Builtin.Tuple.tupleCompareSizes] using h⟩
  case h=>
   exact ⟨rfl,rfl,hc⟩
end
theorem CK.tupN {A:Around} {s:Shared} {l b:Addr} {xs ys:Array Value} {r:Bool} (hl:IsTup s.heap l xs) (hb:IsTup s.heap b ys) (hu:A.units < cLine) (hc:KH A.in1 s (decide (xs.size < ys.size)) (xs.toList.zip ys.toList) r):CK A s (.ref l) (.ref b) r:=fun prog w E Q h=>by
 obtain ⟨⟨cls,dd,data,sl⟩,ho,Ii,n,hd⟩:=id hl;obtain ⟨⟨Wf,MC,data2,Of⟩,Qo,Qq,n2,hd2⟩:=id hb;simp only at Ii hd Qq hd2;subst Ii hd Qq hd2;exact richCompare_meets_room (op:=.Lt) ⟨_,ho,rfl⟩ ⟨_,Qo,rfl⟩ PySem.F.slot_tuple_lt PySem.F.entry_tuple_lt (PySem.F.args_tuple_lt_2 _ _) (Pd l b xs ys n n2 dd MC sl Of r)
  ⟨ho,Qo,hc,show Value.bool _ ≠ Value.notImplemented/\Q (.bool _) s from ⟨(fun x=>nomatch x),h⟩⟩ hu
theorem Jq {A:Around} {s:Shared}:∀ (xs ys:List Str) {us vs:List Value},A9 ik us->A9 (ys.map V.str) vs->KH A s (decide (xs.length < ys.length)) (us.zip vs) (A5 (xs.map CL.s) (ys.map CL.s))
 | [],[],_,_,r1,r2=>by cases r1; cases r2; rfl
 | [],y :: ys,_,_,r1,r2=>by cases r1; cases r2; rfl
 | x :: xs,[],_,_,r1,r2=>by cases r1; cases r2; rfl
 | x :: xs,y :: ys,_,_,r1,r2=>by
  cases r1 with
  | cons a1 b1=>
   cases r2 with
   | cons a2 b2=>
    obtain ⟨t,rfl⟩:=a1;obtain ⟨t',rfl⟩:=a2;refine ⟨x == y,SeqAt.EqAt.str_str _ _ _ _,fun e=>?_,fun e=>?_⟩
    ·have e:¬ x=y:=by simpa using e
     have:=CK.str A s x t y t';rw [ag,ag];unfold A5;rw [if_neg (by intro z; injection z with z; exact e z)];exact this
    ·have e:x=y:=by simpa using e
     rw [ag,ag];unfold A5;rw [if_pos (by rw [e])];have:=Jq xs ys b1 b2 (A:=A) (s:=s);rw [aB,aB];simp only [Nat.add_lt_add_iff_right];exact this
theorem O5 {A:Around} {s:Shared} {v w:Value} {xs ys:List Str} (hv:G4 s.heap v xs) (hw:G4 s.heap w ys) (hu:A.units < cLine):CK A s v w (A5 (xs.map CL.s) (ys.map CL.s)):=by
 obtain ⟨a,us,rfl,ha,r1⟩:=hv;obtain ⟨b,vs,rfl,hb,r2⟩:=hw;refine CK.tupN ha hb hu ?_;have l1:=r1.length;have l2:=r2.length;rw [ZM] at l1 l2;have:=Jq (A:=A.in1) (s:=s) xs ys r1 r2;rw [l1,l2] at this;simpa using this
theorem lt_kn {A:Around} {s:Shared} {v w:Value} {p q:Int × List Str} (hv:NH s.heap v p) (hw:NH s.heap w q) (hu:A.units + 1 < cLine):CK A s v w (A5 (Cf p) (Cf q)):=by
 obtain ⟨a,l,t,rfl,ha,h1⟩:=hv;obtain ⟨b,l',t',rfl,hb,h2⟩:=hw;refine CK.tupN ha hb ad ?_;show KH A.in1 s _ [(.int p.1 t,.int q.1 t'),(.ref l,.ref l')] _
 refine ⟨p.1 == q.1,SeqAt.EqAt.int_int _ _ _ _,fun e=>?_,fun e=>⟨decide (p.2=q.2),Lr h1 h2 (by rw [PySem.Around.in1_units]; exact hu),fun e2=>?_,fun e2=>?_⟩⟩
 ·have e:¬ p.1=q.1:=by simpa using e
  have:=CK.int A.in1 s p.1 t q.1 t';unfold Cf;unfold A5;rw [if_neg (by intro z; injection z with z; exact e (by first | exact z | exact z.symm))];exact this
 ·have e:p.1=q.1:=by simpa using e
  have:=O5 (A:=A.in1) (s:=s) h1 h2 (by rw [PySem.Around.in1_units]; exact hu);unfold Cf;unfold A5;rw [if_pos (by rw [e])];exact this
 ·have e:p.1=q.1:=by simpa using e
  have e2:p.2=q.2:=of_decide_eq_true e2;show A5 (Cf p) (Cf q)=_
  unfold Cf;rw [e,e2,D9];rfl
section
variable {prog:Program} {w:World} {A:Around} {R:Result->Shared->Prop} {I:Addr} {fp wr:List Addr} {n:Nat} {P:Nat->Value->Prop} {St:Nat->Heap->Prop} {g0:Heap}
end
section
variable {prog:Program} {w:World} {A:Around} {E:Value->Shared->Prop} {s:Shared}
end
def Uy (H:Hp) (v:V) (k:Int × List Str):Prop:=∃ t l,v=.ref t/\H t=some (.tup [.int k.1,.ref l])/\H l=some (.tup (k.2.map V.str))
theorem Uy.same {H H':Hp} {v:V} {p:Int × List Str} (h:Uy H v p) (s:∀ b xs,H b=some gX->H' b=some gX):Uy H' v p:=let ⟨t,l,e,z,q⟩:=h; ⟨t,l,e,s _ _ z,s _ _ q⟩
theorem QP {X:Cx} {pins:List cr} {σ:St} {H:Hp} {s:Shared} {l:Addr} {ss:List Str} (I:Aq X pins σ H s) (h:H l=some (.tup ic)):G4 s.heap (.ref l) ss:=by
 obtain ⟨As,rv,pl,hz⟩:=I.tuple (AI.of h);exact ⟨l,As,rfl,pl,rv⟩
theorem Uy.at {X:Cx} {pins:List cr} {σ:St} {H:Hp} {s:Shared} {v:V} {u:Value} {k:Int × List Str} (I:Aq X pins σ H s) (r:AA v u) (h:Uy H v k):NH s.heap u k:=by
 obtain ⟨t,l,rfl,ht,hp⟩:=h;cases r
 obtain ⟨As,rv,pl,hz⟩:=I.tuple (AI.of ht);cases rv with
 | cons a1 b1=>
  cases b1 with
  | cons a2 b2=>
   cases b2
   cases a2
   obtain ⟨t2,rfl⟩:=a1;exact ⟨t,l,t2,rfl,pl,QP I hp⟩
theorem HG (bt:Nat->Nat->Bool) (f:Nat->List CL) (h1:∀ i j,bt i j=A5 (f i) (f j)):∀ k,argBest bt k<=k/\∀ j,j<=k->A5 (f j) (f (argBest bt k))=false
 | 0=>⟨ZU _,fun j hj=>by
  have:j=0:=by lia
  subst this; exact D9 _⟩
 | k + 1=>by
  obtain ⟨a1,a2⟩:=HG bt f h1 k;simp only [argBest];cases hc:bt (k + 1) (argBest bt k) with
  | true=>
   simp only [if_true];refine ⟨ZU _,fun j hj=>?_⟩;by_cases JF:j<=k
   ·have a3:=a2 j JF;rw [h1] at hc;cases e:A5 (f j) (f (k + 1)) with
    | false=>rfl
    | true=>rw [Gs _ _ _ e hc] at a3; cases a3
   ·have:j=k + 1:=by lia
    subst this; exact D9 _
  | false=>
   simp only [aF,if_false];refine ⟨cX a1,fun j hj=>?_⟩;by_cases JF:j<=k
   ·exact a2 j JF
   ·have:j=k + 1:=by lia
    subst this; rw [<-h1]; exact hc
section
variable {X:Cx} {pins:List cr} {σ:St} {H:Hp} {s:Shared}
theorem TX (I:Aq X pins σ H s) {vs:List V} {As:List Value} {ks:List (Int × List Str)} (rv:A9 vs As) (hl:vs.length=ks.length) (hk:∀ (i:Nat) v k,vs[i]? = some v->ks[i]? = some k->Uy H v k) :
  ∀ (i:Nat) (v:Value),As[i]? = some v->∃ k,ks[i]? = some k/\NH s.heap v k/\∃ x,vs[i]? = some x/\AA x v:=fun i v e=>by
 have il:As.length=ks.length:=by rw [<-rv.length,hl]
 have hi:i < As.length:=(ZT.mp e).1;have e1:vs[i]? = some vs[i]:=ZN ad;have e2:ks[i]? = some ks[i]:=ZN ad;obtain ⟨v',e3,r3⟩:=rv.get e1;rw [e] at e3;cases e3
 exact ⟨_,e2,(hk i _ _ e1 e2).at I r3,_,e1,r3⟩
end
theorem M4 {X:Cx} (hc:X.calm=true) (hu:X.A.units + 64 < cLine):Bo X (.builtin "min") (fun xs H Q=>∃ (a:Addr) (vs:List V) (ks:List (Int × List Str)),xs=[.ref a]/\H a=some (.lst vs)/\vs.length=ks.length/\ks ≠ []/\(∀ (i:Nat) v k,vs[i]? = some v->ks[i]? = some k->Uy H v k) /\
  ∀ v k,k ∈ ks->Uy H v k->(∀ k' ∈ ks,A5 (Cf k') (Cf k)=false)->Q v H):=by
 intro pins s σ H xs us Q I r h;obtain ⟨a,vs,ks,rfl,ha,hl,hne,hk,q⟩:=h;obtain ⟨u,rfl,ru⟩:=BV r;cases ru
 obtain ⟨As,rv,pl,hz⟩:=I.list (AB.of ha);have il:As.length=ks.length:=by rw [<-rv.length,hl]
 have pos:0 < ks.length:=bP.mpr hne;have kat:=TX I rv hl hk;refine GH (bt:=fun i j=>A5 (Cf (ks.getD i (0,[]))) (Cf (ks.getD j (0,[])))) iG pl.isList ad (fun i j vi vj s' Q' E' g hi hj hQ=>?_) fun v h2 tk hv k2=>?_
 ·obtain ⟨ki,e1,a1,_⟩:=kat i vi hi;obtain ⟨kj,e2,a2,_⟩:=kat j vj hj;have d1:ks.getD i (0,[])=ki:=by rw [ai,e1]; rfl
  have d2:ks.getD j (0,[])=kj:=by rw [ai,e2]; rfl
  dsimp only at hQ;rw [d1,d2] at hQ;exact lt_kn (a1.keep g) (a2.keep g) (by rw [PySem.Around.in1_units]; lia) _ _ _ _ hQ
 ·obtain ⟨k,e1,a1,x,e3,r3⟩:=kat _ v hv;obtain ⟨b1,b2⟩:=HG (fun i j=>A5 (Cf (ks.getD i (0,[]))) (Cf (ks.getD j (0,[])))) (fun i=>Cf (ks.getD i (0,[]))) ce (As.length - 1);refine ⟨x,H,I.kept k2,r3,q x k (ZS e1) (hk _ x k e3 e1) fun k' Nx=>?_⟩;obtain ⟨j,hj,ej⟩:=aq Nx;have:=b2 j ad;have d1:ks.getD (argBest (fun i j=>A5 (Cf (ks.getD i (0,[]))) (Cf (ks.getD j (0,[])))) (As.length - 1)) (0,[])=k:=by rw [ai,e1]; rfl
  have d2:ks.getD j (0,[])=k':=by rw [ai,ZN hj,ej]; rfl
  rw [d1,d2] at this;exact this
theorem RR (K:ZP) {X:Cx} (h:X.K=K):E9 X (binaryOp .Add) (UE K):=by subst h; exact T7
inductive BP (H:Hp):List V->List iq->Prop
 | nil:BP H [] []
 | cons {t:Addr} {us:List V} {f:List Str} {fs:List iq}:H t=some (.tup (f.map V.str))->BP H us fs->BP H (.ref t :: us) (f :: fs)
theorem BP.len {H:Hp} {us:List V} {fs:List iq} (h:BP H us fs):us.length=fs.length:=by
 induction h with
 | nil=>rfl
 | cons _ _ ih=>rw [aB,aB,ih]
theorem BP.keep {H H':Hp} {us:List V} {fs:List iq} (h:BP H us fs) (s:∀ b xs,H b=some gX->H' b=some gX):BP H' us fs:=by
 induction h with
 | nil=>exact .nil
 | cons a _ ih=>exact .cons (s _ _ a) ih
theorem BP.app {H:Hp} {us vs:List V} {fs gs:List iq} (h:BP H us fs) (h':BP H vs gs):BP H (us ++ vs) (fs ++ gs):=by
 induction h with
 | nil=>exact h'
 | cons a _ ih=>exact .cons a ih
theorem BP.get {H:Hp} {us:List V} {fs:List iq} (h:BP H us fs):∀ {i:Nat} {u:V},us[i]? = some u->∃ t f,u=.ref t/\fs[i]? = some f/\H t=some (.tup (f.map V.str)):=by
 induction h with
 | nil=>intro i u e; simp at e
 | cons a _ ih=>
  intro i u e;cases i with
  | zero=>simp at e; subst e; exact ⟨_,_,rfl,rfl,a⟩
  | succ i=>exact ih (by simpa using e)
theorem BP.mem {H:Hp} {us:List V} {fs:List iq} (h:BP H us fs) {u:V} (hu:u ∈ us):∃ t f,u=.ref t/\f ∈ fs/\H t=some (.tup (f.map V.str)):=by
 obtain ⟨i,hi⟩:=bM hu;obtain ⟨t,f,e,ef,ht⟩:=h.get hi;exact ⟨t,f,e,ZS ef,ht⟩
theorem BP.perm {H:Hp} {us KL:List V} (p:KL.Perm us):∀ {fs:List iq},BP H us fs->∃ W4,W4.Perm fs/\BP H KL W4:=by
 induction p with
 | nil=>intro fs h; cases h; exact ⟨[],.refl _,.nil⟩
 | cons x p ih=>
  intro fs h;cases h with
  | cons a b=>
   obtain ⟨W4,p',t'⟩:=ih b;exact ⟨_ :: W4,p'.cons _,.cons a t'⟩
 | swap x y l=>
  intro fs h;cases h with
  | cons a b=>
   cases b with
   | cons c d=>exact ⟨_ :: _ :: _,.swap _ _ _,.cons c (.cons a d)⟩
 | trans p1 p2 Si Sh=>
  intro fs h;obtain ⟨f1,q1,t1⟩:=Sh h;obtain ⟨f2,q2,t2⟩:=Si t1;exact ⟨f2,q2.trans q1,t2⟩
theorem BP.kinds {H:Hp} {us:List V} {fs:List iq} (h:BP H us fs) (ne:∀ f ∈ fs,f ≠ []):∀ v ∈ us,Jy H (fun _=>true) v:=by
 intro v hv;obtain ⟨t,f,rfl,hf,ht⟩:=h.mem hv;refine ⟨t,_,rfl,ht,by simpa using ne f hf,fun i y e=>?_⟩;rw [ZV] at e;cases z:f[i]? with
 | none=>rw [z] at e; cases e
 | some x=>rw [z] at e; exact ⟨x,(ar.inj e).symm⟩
def CF:V->Nat->Bool
 | .int i,k=>decide ((k:Int)<=i)
 | _,_=>true
def S9 (sites:List Str) (x:V) (os:List iq):Prop:=
 os.Nodup/\True/\∀ ss,ss ∈ os ↔ ss ≠ []/\ss.Sublist sites/\CF x ss.length=true
theorem S9.ne {sites:List Str} {x:V} {d:PyData} {os:List iq} (h:S9 sites x os) (hs:sites ≠ []) (l:Lim x d):os ≠ []:=by
 cases sites with
 | nil=>exact absurd rfl hs
 | cons s sites=>
  have:[s] ∈ os:=(h.2.2 [s]).mpr ⟨by simp,(de _).cons₂ s,by
   rcases l with ⟨rfl,_⟩ | ⟨i,rfl,_,h1,_⟩
   ·rfl
   ·exact decide_eq_true (by simpa using h1)⟩
  intro z;rw [z] at this;cases this
def NA (sites:List Str) (fs:List iq):Prop:=fs.Nodup/\∀ ss,ss ∈ fs ↔ ss.Sublist sites
theorem NA.nil:NA [] [[]]:=⟨by simp,fun ss=>by simp⟩
theorem NA.step {a:Str} {sites:List Str} {fs:List iq} (ha:a ∉ sites) (h:NA sites fs):NA (a :: sites) (fs ++ fs.map (a :: ·)):=by
 refine ⟨aW.mpr ⟨h.1,?_,?_⟩,fun ss=>?_⟩
 ·refine bq.mpr (h.1.imp fun {x y} ne e=>?_);injection e with _ e;exact ne e
 ·rintro x hx y hy rfl;obtain ⟨g,hg,rfl⟩:=ZR.mp hy;exact ha (((h.2 _).mp hx).subset aj)
 ·rw [ak,ZR,List.sublist_cons_iff];constructor
  ·rintro (h1 | ⟨g,hg,rfl⟩)
   ·exact .inl ((h.2 _).mp h1)
   ·exact .inr ⟨g,rfl,(h.2 _).mp hg⟩
  ·rintro (h1 | ⟨g,rfl,hg⟩)
   ·exact .inl ((h.2 _).mpr h1)
   ·exact .inr ⟨g,(h.2 _).mpr hg,rfl⟩
def OU (H:Hp) (c:Addr) (sites:List Str) (x:V) (d:PyData):Prop:=
 ∃ (m t2:V) (t1:Addr) (Fu:List V) (An:List BU),H c=some (.tup [m,.ref t1,t2,x])/\H t1=some (.tup Fu)/\AU H Fu (An.map DF)/\An.map (·.1)=sites/\sites.Nodup/\sites.length<=10/\Lim x d
theorem Dv.sites {H:Hp} {c m:Addr} {n:Nat} {xs:List Str} {ws:List AG} {An A6:List BU} {x:V} {d:PyData} (h:Dv H c m n xs ws An A6 x d):OU H c gJ x d:=by
 obtain ⟨t1,t2,Fu,NP,a,b,e,f,g⟩:=h.ex;exact ⟨_,_,t1,Fu,An,a,b,e,rfl,h.ok1.nd,by rw [ZM]; exact h.l1,h.lim⟩
theorem RC {X:Cx} (fn:Str->Bool) {ix:Nat} {x:Str} {px spos:Pos} {tg iter elt:Expr} {ifs:List Expr} {scope:Scope} {cl:List io} {N:List Str} {pos:Pos} {wi:TI} {g:TG} {tt:TT} {te:TE} {σ0:St->St} (hN:X.N.Nodup) (hix:X.N[ix]? = some x) (hlx:Wo X.env.scope x) (hc:X.calm=true) (co:G7 X scope cl) (hfn:∀ x,fn x=true->(x,NameKind.cell) ∈ scope.names)
  (hσ:∀ σ,σ.length=X.N.length->C3 X cl scope N σ (σ0 σ)) (hK:∀ (σ:St) (i:Nat) (x:Str) (v:V),N[i]? = some x->(σ0 σ)[i]? = some (some v)->(x,NameKind.cell) ∉ scope.names) (hi:PI X tg iter wi)
  (hb:∀ s2 H C fp,PG (BR X scope (cellsFrom (C + 1) scope.names cl) N s2 H C fp fn) tg g/\Vc (BR X scope (cellsFrom (C + 1) scope.names cl) N s2 H C fp fn) ifs tt/\PE (BR X scope (cellsFrom (C + 1) scope.names cl) N s2 H C fp fn) elt te)
  (hsw:swapsWith gZ (some (.Name x px)) spos.line X.env=pure true:=by rfl)
  (hs:∀ x,foldedSetIterable iter X.env x=pure x:=by intro _; rfl) (hf:X.fn x=true\/X.env.scope.names.lookup x=some .local:=by first | exact .inl rfl | exact .inr rfl | assumption) :
  PS X (.Assign [.Name x px] gZ spos) (QX (NV wi g tt te σ0) (K0 ix)):=by
 intro pins s σ H DD I h;rw [exec_Assign_Name_used _ _ _ _ hsw];refine wpAny_bind (wpAny_standAt (wpAny_bind ?_));show wpAny _ X.A (do let _ <- comprehension gZ scope X.env _ (newList []) false (eval iter X.env) (some (assign (.Name x px) X.env))) _ _ s
 refine wpAny_bind (wpAny_mono (wpAny_comprehension_free (use:=some (assign (.Name x px) X.env)) (Q:=fun _ s'=>SP X pins DD .next s') rfl hs co.clos co.kind co.names
  (wpAny_mono (hi (pins:=pins) s σ H _ I h) im fun _ _ e=>e)) (fun _ s' hq=>wpAny_pure (wpAny_pure hq)) fun _ _ e=>e)
 obtain ⟨it,fp,tn,J,H2,rfl,I2,T,Fs,f2,hW⟩:=h2;refine wpAny_newObj_type (J5 ?_);dsimp only;generalize Je:s2.heap.push { cls:=.type "list",dict:=none,data:=.seq ([]:List Value).toArray } = HH;have B7:HH.objs.size=s2.heap.objs.size + 1:=by rw [<-Je,aT]
 obtain ⟨h₁,Mu⟩:∃ h₁,h₁=pushCells (HH.push { cls:=.type "dict",data:=.dict #[] }) scope.names:=⟨_,rfl⟩
 rw [<-Mu];have B9:h₁.Ns HH.objs.size (fun _=>cH):=by
  rw [Mu];exact (Heap.Ns.new HH (.type "dict")).keeps (pushCells_keeps _ _)
 have old:∀ b o,s2.heap.get? b=some o->h₁.get? b=some o:=fun b o e=>by
  rw [Mu];exact pushCells_keeps _ _ _ _ (ZO _ (Je ▸ ZO _ e))
 have newD:∃ n,h₁.get? s2.heap.objs.size=some { cls:=.type "list",data:=.seq ([]:List Value).toArray n }:=by
  exists 0;rw [Mu];exact pushCells_keeps _ _ _ _ (ZO _ (Je ▸ ZX _ rfl))
 obtain ⟨K4,ecl⟩:∃ K4,K4=cellsFrom (HH.objs.size + 1) scope.names cl:=⟨_,rfl⟩
 have clt:∀ x c,(x,c) ∈ cl->c < s2.heap.objs.size:=fun x c e=>by
  obtain ⟨v,q⟩:=I2.cell x c (co.sub x c e);exact q.lt
 have Lj:∀ x c,(x,c) ∈ K4->(x,c) ∈ cl\/(HH.objs.size + 1<=c/\h₁.IsCell c cH):=fun x c hm=>by
  have hsz:(HH.push { cls:=.type "dict",data:=.dict #[] }).objs.size=HH.objs.size + 1:=aT ..;rw [ecl,<-hsz] at hm;have q:=GU scope.names (HH.push { cls:=.type "dict",data:=.dict #[] }) cl (HH.objs.size + 1) (by rw [hsz]; exact ZU _) (fun y d hy=>.inl (af (clt y d hy) (by rw [B7]; lia))) x c hm;rw [Mu];exact q
 have ap':K4.Pairwise fun x y=>x.2 ≠ y.2:=by
  rw [ecl];exact EY _ _ _ co.apart fun x c hm=>af (clt x c hm) (by rw [B7]; lia)
 have WD:∀ x c,K4.lookup x=some c->X.env.cells.lookup x=some c\/(s2.heap.objs.size<=c/\c ≠ s2.heap.objs.size/\c ≠ HH.objs.size/\h₁.IsCell c cH):=fun x c e=>by
  rcases Lj x c (PySem.mem_of_lookup e) with q | ⟨q1,q2⟩
  ·exact .inl (co.sub x c q)
  ·exact .inr ⟨by rw [B7] at q1; exact dh (af (aA (aK _)) q1),bj (by rw [B7] at q1; exact af (aA (aK _)) q1),bj (af (aK _) q1),q2⟩
 have YO:∀ x y c,K4.lookup x=some c->K4.lookup y=some c->x=y:=fun x y c e1 e2=>name_of_addr ap' (PySem.mem_of_lookup e1) (PySem.mem_of_lookup e2)
 have Y9:∀ x c,fn x=true->K4.lookup x=some c->s2.heap.objs.size<=c:=fun x c h e=>by
  rw [ecl] at e;exact GQ s2.heap.objs.size scope.names (HH.objs.size + 1) cl x c (by rw [B7]; lia) (.inl (hfn x h)) e
 have Zi:∀ x,gR->∃ c,K4.lookup x=some c:=fun x h=>by
  obtain ⟨c,hc⟩:=GV scope.names (HH.objs.size + 1) cl x (co.has x h);rw [ecl];exact Dp hc
 have keepS:∀ (i:Nat) (x:Str) (v:V),N[i]? = some x->(σ0 σ)[i]? = some (some v)->∀ c,K4.lookup x=some c->X.env.cells.lookup x=some c:=fun i x v e1 e2 c e=>by
  rw [ecl] at e;have m2:=FD scope.names (HH.objs.size + 1) cl x c (PySem.mem_of_lookup e) (hK σ i x v e1 e2);exact co.sub x c m2
 obtain ⟨W,⟨m0,w0⟩,turn⟩:=hW s2.heap.objs.size I2.fresh;have hfo:∀ b ∈ fp,∃ o,s2.heap.get? b=some o:=fun b hb=>let ⟨o,e,_⟩:=T.obj _ _ Fs b hb; ⟨o,e⟩
 have YR:∀ σ,σ.length=X.N.length->C3 X K4 scope N σ (σ0 σ):=fun σ h=>hσ σ h
 have I3:Aq iH [] (σ0 σ) (upd H2 s2.heap.objs.size iF) { s2 with heap:=h₁,toks:=s2.toks }:=
  My I2 f2 hfo co WD YO Y9 Zi keepS (YR σ I.len) old (ZU _) (by rw [B7]; exact aL _) (bj (by rw [B7]; exact aK _)) (.inr newD) B9
 have fC:s2.heap.objs.size<=HH.objs.size:=by rw [B7]; exact aL _
 obtain ⟨hg,ht,he⟩:=hb s2 H2 HH.objs.size fp;rw [<-ecl] at hg ht he;have loop:∀ Cd:Shared,Cd = { s2 with heap:=h₁,toks:=s2.toks } ->
   codeAny dL X.A (.compLoop gZ 0 (.ref it) gW (compEnvC scope K4 HH.objs.size X.env))
    (compPost dL X.A X.xe (some (assign (.Name x px) X.env)) (fun _ s'=>SP X pins DD .next s') gW HH.objs.size) Cd:=by
  rintro Cd rfl;have stat:∀ {H':Hp} ,gT->∀ b ∈ fp,Ew iH [] H' b:=fun hn b hb=>by
   refine iA
   ·obtain ⟨o,e⟩:=hfo b hb;exact ab iE
   ·intro hz;obtain ⟨_,q1,q2,_⟩:=f2 b hb;rcases ZZ.mp (I2.stkSub b hz) with e | e
    ·exact q1 e
    ·exact q2 e
   ·intro x c e;rcases WD x c e with z | ⟨z,_⟩
    ·exact (f2 b hb).2.2.2.2.1 x c z
    ·obtain ⟨o,eo⟩:=hfo b hb;exact bj (af (ZW eo) z)
  refine Ca (fun n s'=>∃ i A2 H',Aq iH [] A2 H' s'/\tn i s'.heap/\gT/\W i n A2 H') ?_ m0
   ⟨0,σ0 σ,_,I3,T.keep _ _ _ Fs fun b hb o e=>old b o e,fun b hb=>?_,w0⟩
  ·rintro n s4 ⟨i,FV,H4,I4,LG,Mq,w4⟩;rcases turn i n FV H4 w4 with ⟨stop,qn⟩ | ⟨go,step⟩
   ·refine wpAny_mono (T.done iH rfl rfl rfl hc i [] s4 FV H4 (fun _ _=>False) I4 (stat Mq) LG stop) (fun r s5 ⟨hr,I5⟩=>?_) fun _ _ z=>z.elim
    subst hr;obtain ⟨m5,Sl,_⟩:=id I5.loc;have I6:Aq X pins σ H4 s5:=Q6 (h':=s5.heap) I2 f2 fC I5 (Heap.SameBut.refl _ _);have cC:∀ y c,X.env.cells.lookup y=some c->c ≠ HH.objs.size:=fun y c e=>by
     obtain ⟨v,q⟩:=I2.cell y c e;exact ab (af q.lt fC)
    have lC:X.env.locals ≠ HH.objs.size:=ab (af I2.lt fC);show wpAny _ X.A (assign (.Name x px) X.env gW) _ X.xe s5
    refine wpAny_assign_Name (Fg I6 hN hix hlx (v:=.ref s2.heap.objs.size) rfl (fun s7 I7 ⟨a,sb,ha⟩=>?_) hf);have aC:a ≠ HH.objs.size:=by
     rcases ha with rfl | ha
     ·exact lC
     ·exact cC _ _ ha
    refine ⟨m5,Sl.sameBut sb (Ne.symm aC),fun h' Kw=>⟨_,H4,?_,qn⟩⟩;exact I7.turned (t':=s7.toks) (it:=HH.objs.size) (fun b o hb e=>(Kw.2 b hb).trans e) I5.free (Ne.symm lC) (.inr (az I2.sz fC)) cC fun p hp z=>by
     have e:=(I2.pin p hp).1;exact absurd (af (ZW e) fC) (by rw [z]; exact ba _)
   ·refine wpAny_mono (T.item iH rfl rfl rfl hc i [] s4 FV H4 (fun _ _=>False) I4 (stat Mq) LG go) (fun r s5 ⟨u,hr,h5⟩=>?_) fun _ _ z=>z.elim
    subst hr;refine wpAny_mono h5 (fun _ s6 ⟨x,H6,I6,r6,y6,Im,Sx⟩=>?_) fun _ _ z=>z.elim
    have SG:=I6.pinned (stat Sx) (T.obj _ _ Im);refine wpAny_mono (hg s6 FV H6 x u _ SG r6 (step x H6 y6)) (fun _ s7 ⟨Ex,H7,I7,q7⟩=>?_) fun _ _ z=>z.elim
    refine wpAny_mono (ht s7 Ex H7 _ I7 q7) (fun ok s8 ⟨H8,I8,q8⟩=>?_) fun _ _ z=>z.elim
    have again:∀ {s9:Shared} {FU:St} {H9:Hp} ,Aq iH ([] ++ DH fp s6.heap) FU H9 s9->(∃ m',m' < n/\W gt m' FU H9)->∃ m,m < n/\∃ i A2 H',Aq iH [] A2 H' s9/\tn i s9.heap/\gT/\W i m A2 H':=fun {s9 FU H9} I9 n9=>by
     obtain ⟨m',hm,w9⟩:=n9;refine gM;obtain ⟨o,e,d⟩:=T.obj _ _ Im b hb;exact (I9.pin (b,o) (ae _ (ae _ (Bg hb e)))).2.1
    cases ok with
    | false=>
     rw [if_neg ah] at q8 ⊢;exact again I8 q8
    | true=>
     rw [if_pos rfl] at q8 ⊢;refine wpAny_mono (he s8 Ex H8 _ I8 q8) (fun y s9 ⟨v,H9,I9,r9,acc,hacc,hsz,q9⟩=>?_) fun _ _ z=>z.elim
     refine wpAny_mono (BG (X:=BR X scope K4 N s2 H2 HH.objs.size fp fn) s9 Ex H9 gW [v] gW [y] (fun _ OS=>∃ m',m' < n/\W gt m' Ex OS) I9 rfl (.cons r9 .nil) ⟨_,acc,v,rfl,rfl,hacc,hsz,q9⟩) (fun _ Ts ⟨_,OS,SH,_,R9⟩=>?_) fun _ _ z=>z.elim
     exact again SH R9
  ·have z:=(f2 b hb).1;obtain ⟨o,e⟩:=hfo b hb;rw [Af (ab (ZW e))];exact z
 subst ecl;exact codeAny_compStart_list (loop _ rfl) hV
theorem IH {α β:Type} {F G:α->β->Prop}:∀ {Mn:List α} {Mm:List β},Paired F Mn Mm->(∀ a b,F a b->G a b)->Paired G Mn Mm
 | _,_,.nil,_=>.nil
 | _,_,.cons r t,h=>.cons (h _ _ r) (IH t h)
def U0 (H:Hp) (a:Addr) (kvs:List gQ) (o:Obj) (H':Hp):Prop:=H a=some ig/\H'=upd H a (.frz o ig)
def Wq (a:Addr) (kvs:List gQ) (o:Obj) (ts:List Addr):It:=
 ⟨fun i H=>H a=some (.frz o ig)/\i < ts.length,fun i H x H'=>H'=H/\∃ t,ts[i]? = some t/\x=.ref t,fun i H=>H a=some (.frz o ig)/\ts.length<=i⟩
theorem R8 {X:Cx} {pins:List cr} {σ:St} {H:Hp} {s:Shared} {a:Addr} {o:Obj} {kvs:List gQ} {es:Array DictEntry} {ep:Nat} (I:Aq X pins σ H s) (e:H a=some (.frz o ig)) (he:o.data=.dict es ep):DO s.heap a es ep:=by
 obtain ⟨ho,_,_,xs,rel,o',Ui,Ul,h1,h2,h3,h4⟩:=(show AE X.prog X.w H s.heap a (.frz o ig) from I.hok a _ e)
 rw [ho] at h1;cases h1
 exact ⟨o,ho,h2,he⟩
theorem Td {P:Program} {w:World} {K:ZP} {tg:Expr} (a it:Addr) {kvs:List gQ} {o:Obj} {es:Array DictEntry} {ep:Nat} {ts:List Addr} (he:o.data=.dict es ep) (hk:es.toList.map (·.key)=ts.map Value.ref) :
  Lu P w K tg (Wq a kvs o ts) [it] it (fun i h=>h.IsKeyIter it a i es.size ep) where
 mem:=by simp
 obj:=fun i h st b hb=>by
  have e:b=it:=by simpa using hb
  subst e;obtain ⟨o,e,c,d⟩:=st;exact ⟨o,e,fun v z=>by rw [d] at z; cases z⟩
 keep:=fun i h h' st k=>st.at fun o e=>k it gl o e
 item:=by
  intro X hP hw hK hc i pins s σ H E I hf st hg;subst hP hw hK;obtain ⟨hq,B0⟩:=hg;have rd:=R8 I hq he;have ex:es[i]?.map (·.key)=some (.ref ts[i]):=by
   have e:=congrArg (fun l:List Value=>l[i]?) hk;rw [ZV,ZV,ZN B0,b9] at e;exact e
  obtain ⟨f0,f1,f2,f3,f4,f5⟩:=hf it gl;refine LQ st rd ex fun h' AN sb=>?_
  have I1:Aq X pins σ H { s with heap:=h' }:=I.turned (t':=s.toks) (fun b o hb e=>(sb.2 b hb).trans e) f0 f1 f3 f4 f5;obtain ⟨o',e,c,d⟩:=id AN;exact ⟨_,rfl,HC (s:={ s with heap:=h' }) e c d bi ⟨.ref ts[i],H,I1,rfl,⟨rfl,ts[i],ZN B0,rfl⟩,AN,fun b hb=>(hf b hb).1⟩⟩
 done:=by
  intro X hP hw hK hc i pins s σ H E I hf st hg;subst hP hw hK;obtain ⟨hq,hle⟩:=hg;have rd:=R8 I hq he;obtain ⟨f0,f1,f2,f3,f4,f5⟩:=hf it gl;have hl:es.size=ts.length:=by
   have e:=congrArg bK hk;rw [ZM,ZM,aH] at e;exact e
  exact Om iG st rd ad fun h' eb=>⟨rfl,I.turned (t':=s.toks) (fun b o hb e=>eb b o hb e) f0 f1 f3 f4 f5⟩
 self:=fun _ _ _ _ _ st h=>wpAny_pyIter_keyiter st h
def VN (tl:TE):TI:=fun σ H R=>tl σ H fun x H1=>∃ a kvs,x=.ref a/\H1 a=some ig/\∀ o ts H2,U0 H1 a kvs o H2->ts.length=kvs.length->(∀ (i:Nat) t p,ts[i]? = some t->kvs[i]? = some p->H2 t=some (.tup (p.1.map kV)))->R (Wq a kvs o ts) H2
theorem UH {X:Cx} {tg l:Expr} {tl:TE} (hl:PE X l tl):PI X tg l (VN tl):=by
 intro pins s σ H R I h;refine B5 (hl (pins:=pins) s σ H _ I h) fun v s1 ⟨x,H1,I1,r1,q1⟩=>?_
 obtain ⟨a,kvs,e,hr,q⟩:=q1;subst e;cases r1
 obtain ⟨z,y,xs,rel,o,es,ep,h1,h2,h3,h4,h5⟩:=(show AE X.prog X.w H1 s1.heap a ig from I1.hok a _ hr)
 have I2:Aq X pins σ (upd H1 a (.frz o ig)) s1:=by
  have tup:∀ b ys,H1 b=some (.tup ys)->b ≠ a:=fun b ys hb z=>by rw [z,hr] at hb; cases hb
  refine I1.write (x:=a) (e:=a) (h':=s1.heap) (t':=s1.toks) (by rw [hr]; exact True.intro) (.inl rfl) (fun b u _ q=>q) ⟨o,h1⟩ ⟨h1,z,y,xs,?_,o,es,ep,h1,h2,h3,h4,h5⟩;exact IH rel fun p q ⟨e1,e2,e3⟩=>⟨e1,by rw [Af (tup _ _ e2)]; exact e2,e3⟩
 have hk:es.toList.map (·.key)=(xs.map (·.2.1)).map Value.ref:=by rw [h4,aE,aE]; rfl
 have rd:DO s1.heap a es ep:=⟨o,h1,h2,h3⟩
 refine LP y rd ?_;refine ⟨s1.heap.objs.size,[s1.heap.objs.size],_,_,_,rfl,I2.kept (t':=s1.toks) fun b o e=>ZO _ e,Td a _ h3 hk,⟨_,ZX _ rfl,rfl,rfl⟩,fun b hb=>?_,q o (xs.map (·.2.1)) _ ⟨hr,rfl⟩ (by rw [ZM]; exact (Paired.length rel).symm) fun i t p e1 e2=>?_⟩
 ·have e:b=s1.heap.objs.size:=by simpa using hb
  subst e;exact I2.fpOk (ZU _) (I2.hok.fresh (ZU _))
 ·obtain ⟨qq,e3,_,e4,_⟩:=Paired.at rel e2;rw [ZV,e3] at e1;cases e1
  show upd H1 a _ qq.2.1=_
  rw [Af (fun z=>by rw [z,hr] at e4; cases e4)];exact e4
theorem Oz {a:Addr} {kvs:List gQ} {o:Obj} {ts:List Addr}:NF (Wq a kvs o ts) (ts.map V.ref) (fun H=>H a=some (.frz o ig)):=
 ⟨fun i H q B0=>⟨q,by rwa [ZM] at B0⟩,fun i H x H' q ⟨e,t,et,ex⟩=>⟨e,by rw [ZV,et,ex]; rfl⟩,fun H q=>⟨q,by rw [ZM]; exact ZU _⟩⟩
def MZ (K:ZP):R2:=fun x y H Q=>∃ a b xs ys,x=.ref a/\y=.ref b/\AI K H a xs/\AI K H b ys/\xs.length + ys.length<=sizeLine /\
 (xs=[]->Q (.ref b) H)/\(xs ≠ []->ys=[]->Q (.ref a) H)/\(xs ≠ []->ys ≠ []->∀ p,H p=none->Q (.ref p) (upd H p (.tup (xs ++ ys))))
theorem Gn (K:ZP) {X:Cx} (hK:X.K=K):E9 X (binaryOp .Add) (MZ K):=by
 subst hK;intro pins s σ H x y v u Q I rx ry h;obtain ⟨a,b,xs,ys,rfl,rfl,ha,hb,hz,q0,q1,q2⟩:=h;cases rx
 cases ry
 obtain ⟨As,r1,p1,_⟩:=I.tuple ha;obtain ⟨IX,r2,p2,_⟩:=I.tuple hb;by_cases hx:xs=[]
 ·obtain ⟨⟨cls,dd,data,sl⟩,ho,hc,n,hd⟩:=id p1;obtain ⟨⟨Wf,MC,data2,Of⟩,Qo,Qq,n2,hd2⟩:=id p2;simp only at hc hd Qq hd2;subst hc hd Qq hd2;exact concat_meets ⟨_,ho,rfl⟩ ⟨_,Qo,rfl⟩ noFill_tuple_add seq_tuple_add PySem.F.slot_tuple_add PySem.F.entry_tuple_add (PySem.F.args_tuple_add_2 _ _)
   (tuple_addW0 a b As.toArray IX.toArray n n2 dd MC sl Of (by simp [r1.nil_iff.mpr hx])) ⟨ho,Qo,⟨.ref b,H,I,rfl,q0 hx⟩⟩
 ·refine HT.cat_tup p1 p2 (fun z=>hx (r1.nil_iff.mp z)) (fun z=>⟨.ref a,H,I,rfl,q1 hx (r2.nil_iff.mp z)⟩) iu (by rw [<-r1.length,<-r2.length]; exact hz);refine ⟨.ref s.heap.objs.size,_,I.laid (t':=s.toks) (o:=.tup (xs ++ ys)) (fun b ob q=>ZO _ q) (ZU _) ?_,rfl,q2 hx (fun w=>z (r2.nil_iff.mpr w)) _ (I.hok.fresh (ZU _))⟩;exact ⟨by rw [ZQ]; exact hz,_,r1.append r2,IsTup.new _ _,N4.new rfl rfl⟩
theorem F7 {X:Cx} (hc:X.calm=true):Bo X (.builtin "min") (fun xs H Q=>∃ (a:Addr) (ns:List Int),xs=[.ref a]/\H a=some (.lst (ns.map V.int))/\ns ≠ [] /\
  ∀ m,m ∈ ns->(∀ x ∈ ns,m<=x)->Q (.int m) H):=by
 intro pins s σ H xs us Q I r h;obtain ⟨a,ns,rfl,ha,hne,q⟩:=h;obtain ⟨u,rfl,ru⟩:=BV r;cases ru
 obtain ⟨As,rv,pl,hz⟩:=I.list (AB.of ha);have il:As.length=ns.length:=by rw [<-rv.length,ZM]
 have pos:0 < ns.length:=bP.mpr hne;refine GH (bt:=fun i j=>decide (ns.getD i 0 < ns.getD j 0)) iG pl.isList ad (fun i j vi vj s' Q' E' g hi hj hQ=>?_) fun v h2 tk hv k2=>?_
 ·obtain ⟨x,t,e1,rfl⟩:=Ih rv i vi hi;obtain ⟨y,u,e2,rfl⟩:=Ih rv j vj hj;dsimp only at hQ;rw [ai,ai,e1,e2] at hQ;exact CK.int _ _ _ _ _ _ _ _ _ _ hQ
 ·obtain ⟨x,t,e1,rfl⟩:=Ih rv _ v hv;obtain ⟨b1,b2⟩:=Jw (fun i j=>decide (ns.getD i 0 < ns.getD j 0)) (fun i=>ns.getD i 0) (fun i j h=>by have:=of_decide_eq_true h; lia) (fun i j h=>by have:=of_decide_eq_false h; lia) (As.length - 1);refine ⟨.int x,H,I.kept k2,⟨t,rfl⟩,q x (ZS e1) fun y hy=>?_⟩;obtain ⟨j,hj,rfl⟩:=aq hy;have:=b2 j ad;have e2:ns.getD j 0=ns[j]:=by simp [hj]
  have e3:ns.getD (argBest (fun i j=>decide (ns.getD i 0 < ns.getD j 0)) (As.length - 1)) 0=x:=by
   rw [ai,e1]; rfl
  rw [e2,e3] at this;exact this
def Md (ws:List AG) (ss:List Str) (y:Str) (d:Int):Prop:=(∃ s ∈ ss,Br ws s y d)/\∀ s ∈ ss,∀ m,Br ws s y m->d<=m
theorem Md.uniq {ws:List AG} {ss:List Str} {y:Str} {d e:Int} (h:Md ws ss y d) (g:Md ws ss y e):d=e:=by
 obtain ⟨⟨s,hs,h1⟩,h2⟩:=h;obtain ⟨⟨t,ht,g1⟩,g2⟩:=g;have a:=h2 t ht _ g1;have b:=g2 s hs _ h1;lia
def M6 (ws:List AG) (ss:List Str) (rs:List BU) (ds:List Int):Prop:=ds.length=rs.length/\∀ (i:Nat) r d,rs[i]? = some r->ds[i]? = some d->Md ws ss r.1 d
theorem M6.uniq {ws:List AG} {ss:List Str} {rs:List BU} {ds es:List Int} (h:M6 ws ss rs ds) (g:M6 ws ss rs es):ds=es:=by
 refine bZ (by rw [h.1,g.1]) fun i i1 i2=>?_
 have hr:rs[i]? = some (rs[i]'(by rw [<-h.1]; exact i1)):=ZN _;exact (h.2 i _ _ hr (ZN i1)).uniq (g.2 i _ _ hr (ZN i2))
def FF (rs:List BU) (ds:List Int):Int:=((rs.zip ds).map fun p=>p.1.2 * p.2).sum
def BS (ws:List AG) (An A6:List BU) (ss:List Str) (t:Int):Prop:=∃ ds,M6 ws ss A6 ds/\t=(ss.map (DL An)).sum + FF A6 ds
theorem BS.uniq {ws:List AG} {An A6:List BU} {ss:List Str} {t u:Int} (h:BS ws An A6 ss t) (g:BS ws An A6 ss u):t=u:=by
 obtain ⟨ds,a,rfl⟩:=h;obtain ⟨es,b,rfl⟩:=g;rw [a.uniq b]
def Lx (sites:List Str) (x:V) (ss:List Str):Prop:=ss ≠ []/\ss.Sublist sites/\CF x ss.length=true
def SI (H:Hp) (v:V) (xs:List Str) (ws:List AG) (s:Str):Prop:=∃ (B:Addr) (nb:List gU),v=.ref B/\H B=some (.dK (sK nb))/\nb.map (·.1)=xs/\∀ y u,(y,u) ∈ nb->∃ n,u=.int n/\KG ws s y n
def Ip:Sp:=fun vs H Q _=>∃ (c m:Addr) (n:Nat) (xs:List Str) (ws:List AG) (An A6:List BU) (x:V) (d:PyData),vs=[.ref c]/\Dv H c m n xs ws An A6 x d /\
 ∀ (H':Hp) (D:Addr) (nv:List gU),Ar H H'->H D=none->H' D=some (.dK (sK nv))->nv.map (·.1)=An.map (·.1)->(∀ s v,(s,v) ∈ nv->SI H' v xs ws s)->Q (.ref D) H'
def Rh:Sp:=fun vs H Q _=>∃ (c:Addr) (sites:List Str) (x:V) (d:PyData),vs=[.ref c]/\OU H c sites x d /\
 ∀ mo:Int,0<=mo->(∀ k:Nat,k<=sites.length->((k:Int)<=mo ↔ CF x k=true))->Q (.int mo) H
def Kb:Sp:=fun vs H Q _=>∃ (c e m:Addr) (n:Nat) (xs:List Str) (ws:List AG) (An A6:List BU) (x:V) (d:PyData) (us:List V) (os:List iq),vs=[.ref c,.ref e]/\Dv H c m n xs ws An A6 x d /\
 H e=some (.lst us)/\BP H us os/\os.Nodup/\(∀ ss ∈ os,W7 gJ ss)/\os.length<=1024 /\
 ∀ (H':Hp) (D:Addr) (kvs:List gQ),Ar H H'->H D=none->H' D=some ig->kvs.map (·.1)=os.map (fun ss=>ss.map Sum.inr)->(∀ ss v,(ss.map Sum.inr,v) ∈ kvs->∃ t,v=.int t/\BS ws An A6 ss t)->Q (.ref D) H'
def HJ (l:List Str) (mo:Int) (fs:List iq):Prop:=fs.Nodup/\∀ ss,ss ∈ fs ↔ ss.Sublist l/\(ss.length:Int)<=mo
theorem HJ.nil {mo:Int} (h:0<=mo):HJ [] mo [[]]:=⟨by simp,fun ss=>by
 constructor
 ·intro z;rw [aa] at z;subst z;exact ⟨List.Sublist.refl _,by simpa using h⟩
 ·rintro ⟨z,_⟩;rw [eB.mp z];simp⟩
theorem HJ.step {a:Str} {l:List Str} {mo:Int} {fs:List iq} (ha:a ∉ l) (h:HJ l mo fs):HJ (l ++ [a]) mo (fs ++ (fs.filter fun f=>decide ((f.length:Int) < mo)).map (· ++ [a])):=by
 refine ⟨aW.mpr ⟨h.1,?_,?_⟩,fun ss=>?_⟩
 ·exact bq.mpr ((h.1.sublist bO).imp fun {x y} ne e=>ne (List.append_cancel_right e))
 ·rintro x hx y hy rfl;obtain ⟨g,hg,rfl⟩:=ZR.mp hy;exact ha (((h.2 _).mp hx).1.subset gl)
 ·rw [ak,ZR,List.sublist_append_iff];constructor
  ·rintro (h1 | ⟨g,hg,rfl⟩)
   ·exact ⟨⟨ss,[],by simp,((h.2 _).mp h1).1,de _⟩,((h.2 _).mp h1).2⟩
   ·obtain ⟨g1,g2⟩:=aO.mp hg;exact ⟨⟨g,[a],rfl,((h.2 _).mp g1).1,List.Sublist.refl _⟩,by have:=of_decide_eq_true g2; rw [ZQ,aZ]; lia⟩
  ·rintro ⟨⟨l1,l2,rfl,s1,s2⟩,le⟩;have:l2=[]\/l2=[a]:=by
    cases s2 with
    | cons _ s=>exact .inl (eB.mp s)
    | cons_cons _ s=>rw [eB.mp s]; exact .inr rfl
   rcases this with rfl | rfl
   ·rw [bc] at le ⊢;exact .inl ((h.2 _).mpr ⟨s1,le⟩)
   ·rw [ZQ,aZ] at le;exact .inr ⟨l1,aO.mpr ⟨(h.2 _).mpr ⟨s1,by lia⟩,decide_eq_true ad⟩,rfl⟩
theorem PB {J:It} {xs:List V} {S:Hp->Prop} {g:TG} {tk tv:TE} {H:Hp} {σ0:St} {R:Addr->Hp->Prop} (ov:NF J xs S) (ks:List Str) (hk:ks.length=xs.length) (nd:ks.Nodup) (I:Addr->Nat->St->Hp->List gU->Prop) (big:xs.length < sizeLine)
  (h0:∀ D,H D=none->I D 0 σ0 (upd H D (.dK (sK []))) [])
  (hs:∀ D i σ H' nv,H D=none->I D i σ H' nv->S H'/\H' D=some (.dK (sK nv))/\nv.map (·.1)=ks.take i)
  (turn:∀ D i σ H' nv x k (B:St->V->V->Hp->Prop),H D=none->xs[i]? = some x->ks[i]? = some k->I D i σ H' nv->(∀ Az v H6,H6 D=some (.dK (sK nv))->I D gt Az (upd H6 D (.dK (sK (nv ++ [(k,v)])))) (nv ++ [(k,v)])->B Az (.str k) v H6) ->
   g x σ H' fun Az H3=>tk Az H3 fun y H5=>tv Az H5 fun v H6=>B Az y v H6)
  (fin:∀ D σ H' nv,H D=none->I D xs.length σ H' nv->R D H') :
  ∀ D,H D=none->∃ W:Nat->Nat->St->Hp->Prop,(∃ m,W 0 m σ0 (upd H D (.dK []))) /\
   ∀ i m A2 H',W i m A2 H'->(J.stop i H'/\R D H')\/(J.go i H'/\∀ x H2,J.yld i H' x H2->g x A2 H2 fun Az H3=>KP Az H3 fun b H4=>
    if b=true then tk Az H4 (fun y H5=>tv Az H5 fun v H6=>∃ kvs k,y=kV k/\H6 D=some iz/\kvs.length < sizeLine/\∃ m',m' < m/\W gt m' Az (upd H6 D (.dK (Bw kvs k v)))) else ∃ m',m' < m/\W gt m' Az H4):=by
 intro D hD;exists fun i m σ H'=>m=xs.length - i/\i<=xs.length/\∃ nv,I D i σ H' nv,⟨xs.length,rfl,aJ _,[],h0 D hD⟩
 rintro i m σ H' ⟨rfl,hi,nv,p⟩;obtain ⟨s1,s2,s3⟩:=hs D i σ H' nv hD p;by_cases B0:i < xs.length
 ·refine .inr ⟨ov.go i H' s1 B0,fun x H2 y=>?_⟩;obtain ⟨rfl,ex⟩:=ov.yld i H' x H2 s1 y;have hki:i < ks.length:=by lia
  have ek:ks[i]? = some ks[i]:=ZN hki;have nin:ks[i] ∉ nv.map (·.1):=by
   rw [s3];intro QA;obtain ⟨j,hj,e⟩:=aq QA;rw [aM] at hj;rw [cE] at e;have:=Gp nd (ZN (show j < ks.length by lia)) (by rw [ek,e]);lia
  have nl:nv.length=i:=by
   have:=congrArg bK s3;rw [ZM,aM] at this;lia
  have e:∀ (F:St->V->V->Hp->Prop) (G:St->Hp->Prop),(fun (Az:St) (H3:Hp)=>KP Az H3 fun b H4=>if b=true then tk Az H4 (fun y H5=>tv Az H5 fun v H6=>F Az y v H6) else G Az H4)=fun Az H3=>tk Az H3 (fun y H5=>tv Az H5 fun v H6=>F Az y v H6):=by
   intro F G;funext Az H3;show (if true=true then tk Az H3 (fun y H5=>tv Az H5 fun v H6=>F Az y v H6) else G Az H3)=_
   rw [if_pos rfl]
  rw [e (fun Az y v H6=>∃ kvs k,y=kV k/\H6 D=some iz/\kvs.length < sizeLine/\∃ m',m' < xs.length - i/\(m'=xs.length - gt/\i + 1<=xs.length/\∃ DU,I D gt Az (upd H6 D (.dK (Bw kvs k v))) DU)) (fun Az H4=>∃ m',m' < xs.length - i/\(m'=xs.length - gt/\i + 1<=xs.length/\∃ DU,I D gt Az H4 DU))];refine turn D i σ H2 nv x ks[i] _ hD ex ek p fun Az v H6 d6 p6=>?_
  exact ⟨_,Sum.inr ks[i],rfl,d6,by rw [CY]; lia,xs.length - gt,by lia,rfl,B0,nv ++ [(ks[i],v)],by rw [DE nin]; exact p6⟩
 ·have e:i=xs.length:=by lia
  subst e;exact .inl ⟨ov.stop H' s1,fin D σ H' nv hD p⟩
theorem Lz {α β:Type} {b:β}:∀ {as:List α} {bs:List β} {a:α},as[bs.length]? = some a->as.zip (bs ++ [b])=as.zip bs ++ [(a,b)]
 | [],bs,a,h=>by simp at h
 | x :: as,[],a,h=>by simp at h; subst h; simp
 | x :: as,y :: bs,a,h=>by
  have:=Lz (as:=as) (bs:=bs) (b:=b) (a:=a) (by simpa using h);simp [this]
theorem OF {a b:List Str} (h:a.map (Sum.inr:Str->AF)=b.map Sum.inr):a=b:=by
 induction a generalizing b with
 | nil=>cases b with | nil=>rfl | cons _ _=>cases h
 | cons x a ih=>
  cases b with
  | nil=>cases h
  | cons y b=>
   rw [ag,ag] at h;injection h with h1 h2;injection h1 with h1;rw [h1,ih h2]
theorem Tn (ss:List Str):(ss.map (Sum.inr:Str->AF)).map kV=ss.map V.str:=by rw [aE]; rfl
theorem L4 {κ:Type} [DecidableEq κ] {kvs:List (κ × V)} {k:κ} (h:k ∉ kvs.map (·.1)):Bm kvs k=none:=by
 cases e:Bm kvs k with
 | none=>rfl
 | some v=>exact absurd (Tb e) h
theorem HY {κ:Type} [DecidableEq κ] {k:κ} {v:V}:∀ {kvs:List (κ × V)} {q:Nat},(kvs.map (·.1)).Nodup->kvs[q]? = some (k,v)->Bm kvs k=some v
 | [],q,_,e=>by simp at e
 | p :: kvs,0,_,e=>by
  simp at e;subst e;exact B4 rfl
 | p :: kvs,q + 1,nd,e=>by
  rw [ag] at nd;obtain ⟨n1,n2⟩:=aD.mp nd;have e':kvs[q]? = some (k,v):=by simpa using e
  rw [Bv (fun z=>n1 (by rw [z]; exact ZR.mpr ⟨_,ZS e',rfl⟩))];exact HY n2 e'
theorem LO {n:Nat} {g:TG} {te:TE} {H:Hp} {σ0:St} {R:Addr->Hp->Prop} (I:Addr->Nat->St->Hp->List V->Prop) (big:n < sizeLine)
  (h0:∀ D,H D=none->I D 0 σ0 (upd H D iF) [])
  (hs:∀ D i σ H' acc,H D=none->I D i σ H' acc->H' D=some h9/\acc.length=i)
  (turn:∀ D i σ H' acc (B:St->V->Hp->Prop),H D=none->i < n->I D i σ H' acc->(∀ Az v H5,H5 D=some h9->I D gt Az hX (acc ++ [v])->B Az v H5)->g (.int (0 + (i:Int))) σ H' fun Az H3=>te Az H3 (B Az))
  (fin:∀ D σ H' acc,H D=none->I D n σ H' acc->R D H') :
  ∀ D,H D=none->∃ W:Nat->Nat->St->Hp->Prop,(∃ m,W 0 m σ0 (upd H D iF)) /\
   ∀ i m A2 H',W i m A2 H'->((SV 0 n).stop i H'/\R D H')\/((SV 0 n).go i H'/\∀ x H2,(SV 0 n).yld i H' x H2->g x A2 H2 fun Az H3=>KP Az H3 fun b H4=>
    if b=true then te Az H4 (fun v H5=>∃ acc,H5 D=some h9/\acc.length < sizeLine/\∃ m',m' < m/\W gt m' Az hX) else ∃ m',m' < m/\W gt m' Az H4):=by
 intro D hD;exists fun i m σ H'=>m=n - i/\i<=n/\∃ acc,I D i σ H' acc,⟨n,rfl,aJ _,[],h0 D hD⟩
 rintro i m σ H' ⟨rfl,hi,acc,p⟩;obtain ⟨s2,s3⟩:=hs D i σ H' acc hD p;by_cases B0:i < n
 ·refine .inr ⟨B0,fun x H2 ⟨e1,e2⟩=>?_⟩;subst e1 e2;have e:∀ (F:St->V->Hp->Prop) (G:St->Hp->Prop),(fun (Az:St) (H3:Hp)=>KP Az H3 fun b H4=>if b=true then te Az H4 (F Az) else G Az H4)=fun Az H3=>te Az H3 (F Az):=by
   intro F G;funext Az H3;show (if true=true then te Az H3 (F Az) else G Az H3)=_
   rw [if_pos rfl]
  rw [e (fun Az v H5=>∃ acc,H5 D=some h9/\acc.length < sizeLine/\∃ m',m' < n - i/\(m'=n - gt/\i + 1<=n/\∃ GY,I D gt Az hX GY)) (fun Az H4=>∃ m',m' < n - i/\(m'=n - gt/\i + 1<=n/\∃ GY,I D gt Az H4 GY))];refine turn D i σ H2 acc _ hD B0 p fun Az v H5 d5 p5=>?_
  exact ⟨acc,d5,by lia,n - gt,by lia,rfl,B0,_,p5⟩
 ·have e:i=n:=by lia
  subst e;exact .inl ⟨ZU _,fin D σ H' acc hD p⟩
theorem Kd {z:Str} (l u:Option Int) (h:Ux z):Ux (Txt.slice z l u):=by
 unfold Txt.slice;split
 ·exact h
 ·intro c hc;have Ii:c ∈ (Builtin.Str.strSliceIndices l u 1 z.length).filterMap (z.cps[·]?):=by simpa using hc
  obtain ⟨i,_,e⟩:=dO.mp Ii;exact h c (by rw [eX]; exact eU e)
theorem Rp {z:Str} {a:Int} (h0:0<=a) (h1:a<=z.length):(Txt.slice z none (some a)).length<=a.toNat:=by
 have e:(Builtin.Str.strSliceIndices none (some a) 1 z.length).length=a.toNat:=by
  unfold Builtin.Str.strSliceIndices sliceRange;simp only [show (1:Int) > 0 by decide,if_true,ZM,bF];(split <;> (try split) <;> (try split) <;> (try simp only [gF]) <;> lia)
 unfold Txt.slice;split
 ·rename_i q
  rw [e] at q;have:a.toNat=z.length:=by simpa using q
  lia
 ·show (gz _ (Builtin.Str.strSliceIndices none (some a) 1 z.length)).toArray.size<=_
  rw [au,<-e];exact eP _ _
theorem MN {z:Str} {a:Int} (h0:0<=a) (h1:a<=z.length):(Txt.slice z (some a) none).length<=z.length - a.toNat:=by
 have e:(Builtin.Str.strSliceIndices (some a) none 1 z.length).length=z.length - a.toNat:=by
  unfold Builtin.Str.strSliceIndices sliceRange;simp only [show (1:Int) > 0 by decide,if_true,ZM,bF];(split <;> (try split) <;> (try split) <;> (try simp only [gF]) <;> lia)
 unfold Txt.slice;split
 ·rename_i q
  rw [e] at q;have:z.length - a.toNat=z.length:=by simpa using q
  lia
 ·show (gz _ (Builtin.Str.strSliceIndices (some a) none 1 z.length)).toArray.size<=_
  rw [au,<-e];exact eP _ _
theorem RP {X:Cx}:E9 X (binaryOp .Mult) (fun x y H Q=>∃ z n,x=.str z/\y=.int n/\(n=0\/n=1)/\Q (.str (if n=1 then z else Str.empty)) H):=by
 intro pins s σ H x y v u Q I rx ry h;obtain ⟨z,n,rfl,rfl,hn,q⟩:=h;obtain ⟨t,rfl⟩:=rx;obtain ⟨t',rfl⟩:=ry;rcases hn with rfl | rfl
 ·exact PySem.P.mul_str_none bi bi ⟨.str Str.empty,H,I.tok _,⟨_,rfl⟩,q⟩
 ·refine PySem.P.mul_str bi (fun _ z=>by simp at z) (fun _ z=>by simp at z) ?_;rw [if_neg bi,if_pos gl];exact ⟨.str z,H,I,⟨_,rfl⟩,q⟩
section
variable {prog:Program} {w:World} {A:Around} {E:Value->Shared->Prop} {s:Shared}
theorem Ny {l:Addr} {vs:List Value} {Q:List Value->Shared->Prop} (hl:s.heap.IsTuple l vs.toArray) (few:vs.toArray.size<=sizeLine)
  (h:∀ h1:Heap,s.heap.objs.size<=h1.objs.size->(∀ b o,s.heap.get? b=some o->h1.get? b=some o)->Q vs { s with heap:=h1 }):wpAny ap A (collect (.ref l)) Q E s:=by
 obtain ⟨o,ho,hc,n,hd⟩:=hl;obtain ⟨g,eg⟩:∃ g,g=(s.heap.push { cls:=.type "list",data:=.seq ([]:List Value).toArray }).update s.heap.objs.size (Obj.mapSeq (· ++ vs.toArray)):=⟨_,rfl⟩
 have gS:=aY (Obj.mapSeq (· ++ vs.toArray)) (ZX s.heap (o:={ cls:=.type "list",data:=.seq ([]:List Value).toArray }) rfl) rfl;rw [<-eg] at gS;have last:=h g (by rw [eg,eC,aT]; exact aL _) fun b o' hb=>by
  rw [eg];exact (aU _ _ (bj (ZW hb))).trans (ZO _ hb)
 unfold collect;refine wpAny_bind (wpAny_runValue (codeAny_builtin PySem.F.entry_proto_collect ?_));rw [Around.under_plainId PySem.F.plain_proto_collect _];refine wpAny_bind (wpAny_newObj_type (wpAny_pure ⟨plainId_quiet PySem.F.plain_list_iadd _,codeAny_builtin PySem.F.entry_list_iadd ?_⟩));rw [Around.under_plainId PySem.F.plain_list_iadd _];have fin:∀ s':Shared,s' = { s with heap:=g }->wpAny ap A (match Value.ref s.heap.objs.size with
   | Value.ref a=>do
    match (<- load a).data with
     | Data.seq xs _=>pure xs.toList
     | _=>unsupported "internal:collect"
   | _=>unsupported "internal:collect") Q E s':=by
  rintro s' rfl;refine wpAny_bind (wpAny_load gS gK);simpa using last
 refine wpAny_mono (wpAny_extend_seq (hsz:=few) (A:=A) (R:=fun r s'=>r=.ok (.ret hU)/\s' = { s with heap:=g }) (s:={ s with heap:=s.heap.push { cls:=.type "list",data:=.seq ([]:List Value).toArray } }) _ l _ 0 (.inr rfl) (ZX _ rfl) (ZO _ ho) hc hd ⟨rfl,by rw [eg]⟩) (fun r s' q=>?_) (fun e s' q=>absurd q.1 gl);cases r with
 | done f=>
  obtain ⟨e,q⟩:=q;cases e
  exact fin s' q
 | again c=>exact ⟨q.1,codeAny_mono q.2 fun r Vx z=>by obtain ⟨rfl,z⟩:=z; exact fin Vx z⟩
theorem LJ {l:Addr} {vs:List Value} {ss:List Str} {Q:Value->Shared->Prop} (hl:s.heap.IsTuple l vs.toArray) (hS:StrsAre vs ss) (Hz:vs.length < 64)
  (h:∀ (h':Heap) (a:Addr) (out:Array Value) (Cm:List Str) (e:Nat),s.heap.objs.size<=a->(∀ b o,s.heap.get? b=some o->h'.get? b=some o)->h'.get? a=some (seqObj "list" out e)->StrsAre out.toList Cm->Cm.Perm ss->sortedS Cm=true->Q (.ref a) { s with heap:=h' }) :
  wpAny ap A (call iJ [.ref l]) Q E s:=by
 have few:vs.toArray.size<=sizeLine:=by rw [au,sizeLine_eq]; lia
 refine Calls.call_function_entry kind_sorted plain_sorted entry_sorted (args_sorted1 _) ?_;unfold Builtin.«sorted»;refine wpAny_bind (m:=checkCount "sorted" 1 1 _) (wpAny_pure (wpAny_bind (Ny hl few fun h1 sz k1=>?_)));refine wpAny_bind (wpAny_newList ?_ (by simpa using few));have lies:(h1.push gY).get? h1.objs.size=some gY:=ZX _ rfl;refine wpAny_bind (wpAny_holding (wpAny_call_entry slot_list_sort ⟨_,lies,rfl⟩ entry_list_sort (list_sort_treeK (s:={ s with heap:=h1.push gY }) strKind_oneLt lies hS.keysOf (fun Yw Yv CC e=>keyKind_strs (by rw [<-e]; exact hS)) Hz fun AN hp hs=>⟨_,rfl,wpAny_pure ⟨_,rfl,?_⟩⟩) (args_list_sort _)));obtain ⟨Cm,q1,q2,q3⟩:=sorted_out_str hS hp hs;obtain ⟨e,he⟩:=sortedHeap_at (out:=(arrOf AN).map (·.2)) lies;refine h _ h1.objs.size _ Cm e sz (fun b o z=>?_) he q1 q2 q3;have hb:=k1 b o z;rw [sortedHeap_old (ab (ZW hb)) (by rw [aT]; exact aA (ZW hb))];exact ZO _ hb
end
theorem Kq (a b:Str):AY a b=AY b a:=by
 unfold AY;split
 ·rename_i h
  rw [if_neg (fun z=>cK h z)]
 ·rename_i h
  split
  ·rfl
  ·rename_i h'
   exact C4 h h'
theorem Kr (a b:Str):AZ a b=AZ b a:=by
 unfold AZ;split
 ·rename_i h
  rw [if_neg (fun z=>cK h z)]
 ·rename_i h
  split
  ·rfl
  ·rename_i h'
   exact (C4 h h').symm
theorem Av (K:ZP) {X:Cx} (h:X.K=K):Bo X (.type "tuple") (fun xs H Q=>∃ p ys,xs=[.ref p]/\((AB K H p ys/\∀ l,H l=none->Q (.ref l) (upd H l (.tup ys)))\/(AI K H p ys/\Q (.ref p) H))):=by subst h; exact F6
end L2
namespace L2
open PySem PySem.Spec PySem.W PyProof.Rows
theorem CA (K:ZP) {X:Cx} (h:X.K=K):Bo X iJ (fun xs H Q=>∃ (a:Addr) (ss:List Str),xs=[.ref a]/\AB K H a ic/\ss.length < 64 /\
  ∀ (l:Addr) (Cm:List Str),H l=none->Cm.Perm ss->sortedS Cm=true->Q (.ref l) (upd H l iD)):=by subst h; exact Ci
section
variable {prog:Program} {w:World} {A:Around} {E:Value->Shared->Prop} {s:Shared} {κ:SortKind} {lt:Keyed->Keyed->Bool} {a0:Array Keyed}
theorem Gq {n:Nat} (h1:1<=n) (Hz:n < 64):(sortPriv% PySem.Builtin.minRun) n n 0=n:=by
 obtain ⟨f,hf⟩:∃ f,n=f + 1:=⟨n - 1,by lia⟩
 have:minRun' (f + 1) n 0=n:=by rw [minRun'_succ,if_pos Hz]; rfl
 rw [<-hf] at this;exact this
theorem Ik {st:SortSt} {Q:Unit->SortSt->Prop} (sw:OQ lt) (an:U6 prog w A s κ lt a0) (hk:kindOf st=κ) (ha:arrOf st=a0) (hf:failedOf st=none) (hpe:pendingOf st=#[]) (h2:1<=a0.size) (Hz:a0.size < 64)
  (h:∀ AN,(arrOf AN).Perm a0->failedOf AN=none->(arrOf AN).toList.Pairwise (Nl lt)->Q () AN):wpS ap A E s sortRuns' Q st:=by
 have hp:(arrOf st).Perm a0:=by rw [ha]
 refine wpS_bind (wpS_get ?_);dsimp only;have ez:((sortPriv% PySem.Builtin.SortState.a) st).size=a0.size:=by rw [show (sortPriv% PySem.Builtin.SortState.a) st=a0 from ha]
 rw [ez];refine wpS_bind (wpS_mono (wpS_forRange (I:=fun x c AN=>(x=0/\c=(none,0)/\AN=st)\/(1<=x/\c=(none,a0.size)/\(arrOf AN).Perm a0/\failedOf AN=none/\(pendingOf AN).size<=1/\SS lt (arrOf AN) 0 a0.size))
  (Q:=fun c AN=>c=(none,a0.size)/\(arrOf AN).Perm a0/\failedOf AN=none/\(pendingOf AN).size<=1/\SS lt (arrOf AN) 0 a0.size) ?step ?fin (.inl ⟨rfl,rfl,rfl⟩)) ?post)
 case fin=>
  rintro c AN (⟨hx,_,_⟩ | ⟨_,r⟩)
  ·lia
  ·exact r
 case step=>
  rintro x c AN _ hx (⟨rfl,rfl,rfl⟩ | ⟨_,rfl,r⟩)
  ·dsimp only;rw [if_neg ad];refine wpS_bind (J4 sw an hk hp ad ad fun m ys k1 m1 m2 s1=>?_);dsimp only;have hpd:∀ zs,(pendingOf (setArr AN zs)).back? = none:=fun zs=>by
    show (pendingOf AN).back? = none
    rw [hpe];rfl
   by_cases hm:m < (sortPriv% PySem.Builtin.minRun) a0.size a0.size 0
   ·rw [if_pos hm];refine wpS_bind (wpS_lift (wpAny_rule ⟨rfl,?_⟩));refine wpS_bind (HK (st:=setArr AN ys) sw an hk (k1.1.trans hp) ad m1 ad s1 fun zs k2 s2=>?_);simp only [gA,aF,if_false];refine wpS_bind (wpS_get ?_);rw [hpd];dsimp only;have emin:min (a0.size - 0) ((sortPriv% PySem.Builtin.minRun) a0.size a0.size 0)=a0.size:=by rw [Gq h2 Hz]; lia
    rw [emin];exact wpS_bind (wpS_modify (wpS_pure (.inr ⟨by lia,by rw [cg],k2.1.trans (k1.1.trans hp),hf,by show ((pendingOf AN).push _).size<=1; rw [hpe]; exact ZU 1 ,by rw [emin,cg] at s2; exact s2⟩)))
   ·rw [if_neg hm];rw [Gq h2 Hz] at hm;have em:m=a0.size:=by lia
    refine wpS_bind (wpS_get ?_);rw [hpd];dsimp only;rw [em];exact wpS_bind (wpS_modify (wpS_pure (.inr ⟨by lia,by rw [cg],k1.1.trans hp,hf,by show ((pendingOf AN).push _).size<=1; rw [hpe]; exact ZU 1 ,by rw [em,cg] at s1; exact s1⟩)))
  ·dsimp only;rw [if_pos (ZU _)];exact wpS_pure ⟨rfl,r⟩
 case post=>
  rintro c AN ⟨rfl,r1,r2,r3 ,r4⟩;dsimp only;refine wpS_bind (wpS_mono (wpS_forRange (I:=fun _ c HL=>HL=AN/\c=(none,())) (Q:=fun c HL=>HL=AN/\c=(none,())) ?_ (fun _ _ hh=>hh) ⟨rfl,rfl⟩) ?_)
  ·rintro x c HL _ _ ⟨rfl,rfl⟩;refine wpS_bind (wpS_get ?_);rw [if_pos r3];exact wpS_pure ⟨rfl,rfl⟩
  ·rintro c HL ⟨rfl,rfl⟩;exact wpS_pure (h _ r1 r2 (UY fun i j hij hj=>r4 i j (aJ _) (dh hij) (by have:=r1.size_eq; lia)))
theorem FG {a:Addr} {vs:List Value} {n:Nat} {P:Fin->Shared->Prop} (sw:OQ lt) (lies:s.heap.get? a=some (seqObj "list" vs.toArray n)) (few:vs.length<=sizeLine) (Hz:vs.length < 64)
  (cm:2<=vs.length->∀ h',(∀ b o,b ≠ a->s.heap.get? b=some o->h'.get? b=some o) ->
   ∃ κ,(∀ (Q:SortKind->Shared->Prop) (E:Value->Shared->Prop),Q κ { s with heap:=h' }->wpAny ap A (keyKind' vs.toArray) Q E { s with heap:=h' })/\U6 prog w A { s with heap:=h' } κ lt (pairsOf vs))
  (k:∀ out:List Value,out.Perm vs->out.Pairwise (fun u v=>lt (v,v) (u,u)=false)->P (.done (.ret .none)) { s with heap:=sortedHeap s.heap a vs out.toArray }) :
  wpAny ap A (Builtin.«list.sort» ⟨[.ref a],[]⟩) P E s:=by
 have alt:=ZW lies;rw [list_sort_plain];refine wpAny_bind (listItems_at lies rfl (wpAny_bind (listUpdate_at lies rfl ?_ (by simpa using few) (aJ _))));obtain ⟨c,UL⟩:∃ c,(s.heap.update a (Obj.mapSeq fun _=>#[])).get? a=some (seqObj "list" #[] c):=⟨_,get?_update_seq lies (fun _=>#[])⟩
 refine wpAny_bind (seqEpoch_at UL rfl (wpAny_bind (wpAny_newTuple (wpAny_bind (wpAny_newList (wpAny_holding ?_) (aJ _))) (by simpa using few))));obtain ⟨h3,Yl⟩:∃ h3,h3=((s.heap.update a (Obj.mapSeq fun _=>(#[]:Array Value))).push (seqObj "tuple" vs.toArray 0)).push (seqObj "list" #[] 0):=⟨_,rfl⟩
 have O9:h3.get? a=some (seqObj "list" #[] c):=by
  rw [Yl];exact ZO _ (ZO _ UL)
 have WZ:∀ b o,b ≠ a->s.heap.get? b=some o->h3.get? b=some o:=fun b o hb e=>by
  rw [Yl];exact ZO _ (ZO _ ((dI _ _ _ _ hb).trans e))
 show wpAny ap A _ P E { s with heap:=((s.heap.update a (Obj.mapSeq fun _=>(#[]:Array Value))).push (seqObj "tuple" vs.toArray 0)).push (seqObj "list" #[] 0) }
 rw [<-Yl];have last:∀ AN:SortSt,(arrOf AN).Perm (pairsOf vs)->(arrOf AN).toList.Pairwise (Nl lt)->P (.done (.ret .none)) { s with heap:=h3.update a (Obj.mapSeq fun _=>(arrOf AN).map (·.2)) }:=fun AN hp hs=>by
  have e:(arrOf AN).map (·.2)=((arrOf AN).toList.map (·.2)).toArray:=by apply e7.mp; simp
  have q:=k _ (RO hp) (RN hp hs);rw [<-e] at q;rw [Yl];exact q
 have zl:∀ AN:SortSt,(arrOf AN).Perm (pairsOf vs)->((arrOf AN).map (·.2)).size<=sizeLine + 1:=fun AN hp=>by
  rw [Array.size_map,hp.size_eq,pairsOf_size];lia
 have zv:vs.toArray.size=vs.length:=rfl;dsimp only;rcases dq vs.toArray.size 2 with lo | hi
 ·rw [if_pos lo,if_pos lo];refine wpAny_bind gK;rw [StateT.run_pure];refine wpAny_bind (wpAny_pure (wpAny_bind (seqEpoch_at O9 rfl ?_)));have p0:(arrOf (SortSt.mk' general' (vs.toArray.zip vs.toArray) #[] 7 none)).Perm (pairsOf vs):=Array.Perm.refl _;refine wpAny_bind (listUpdate_at O9 rfl ?_ (aJ _) (zl _ p0));rw [bne_self_eq_false];refine wpAny_pure (last _ p0 (UY fun i j hij hj=>?_));have:=p0.size_eq;rw [pairsOf_size] at this;have JF:j < (arrOf (SortSt.mk' general' (vs.toArray.zip vs.toArray) #[] 7 none)).size:=hj;lia
 ·rw [if_neg ad,if_neg ad];obtain ⟨κ,k1,k2⟩:=cm ad h3 WZ;refine wpAny_bind (k1 _ _ ?_);refine wpAny_bind (wpAny_mono (Ik (a0:=pairsOf vs) (st:=SortSt.mk' κ (vs.toArray.zip vs.toArray) #[] 7 none)
   (Q:=fun _ AN=>(arrOf AN).Perm (pairsOf vs)/\failedOf AN=none/\(arrOf AN).toList.Pairwise (Nl lt)) sw k2 rfl rfl rfl rfl (by rw [pairsOf_size]; lia) (by rw [pairsOf_size]; lia) fun AN a1 a2 a3=>⟨a1,a2,a3⟩) ?_ fun _ _ e=>e)
  rintro ⟨u,AN⟩ s' ⟨rfl,hp,hf,hs⟩;refine wpAny_bind (seqEpoch_at O9 rfl (wpAny_bind (listUpdate_at O9 rfl ?_ (aJ _) (zl _ hp))));dsimp only;rw [hf,bne_self_eq_false];exact wpAny_pure (last AN hp hs)
theorem Ro {l:Addr} {vs:List Value} {Q:Value->Shared->Prop} (sw:OQ lt) (hl:s.heap.IsList l vs.toArray) (few:vs.length<=sizeLine) (Hz:vs.length < 64) (cm:Cmpd prog w s lt vs)
  (k:∀ out:List Value,out.Perm vs->out.Pairwise (fun u v=>lt (v,v) (u,u)=false)->Q (.ref (s.heap.objs.size + 1)) { s with heap:=sortedAll s.heap vs out.toArray }) :
  wpAny ap A (call iJ [.ref l]) Q E s:=by
 refine Calls.call_function_entry kind_sorted plain_sorted entry_sorted (args_sorted1 _) ?_;unfold Builtin.«sorted»;refine wpAny_bind (m:=checkCount "sorted" 1 1 _) (wpAny_pure (wpAny_bind (collect_list hl ?_ few)));refine wpAny_bind (wpAny_newList ?_ (by simpa using few));obtain ⟨h1,Um⟩:∃ h1,h1=(s.heap.push (seqObj "list" #[] 0)).update s.heap.objs.size (Obj.mapSeq (· ++ vs.toArray)):=⟨_,rfl⟩
 have z1:h1.objs.size=s.heap.objs.size + 1:=by rw [Um,eC,size_push']
 have lies:(h1.push gY).get? (s.heap.objs.size + 1)=some gY:=by
  rw [<-z1];exact ZX _ rfl
 have keep:∀ b o,s.heap.get? b=some o->(h1.push gY).get? b=some o:=fun b o q=>by
  have hb:=ZW q;refine ZO _ ?_;rw [Um,dI _ _ _ _ (ab hb)];exact ZO _ q
 show wpAny _ _ _ _ _ { s with heap:=((s.heap.push (seqObj "list" #[] 0)).update s.heap.objs.size (Obj.mapSeq (· ++ vs.toArray))).push gY }
 rw [<-Um,z1];refine wpAny_bind (wpAny_holding (wpAny_call_entry slot_list_sort ⟨_,lies,rfl⟩ entry_list_sort (FG (s:={ s with heap:=h1.push gY }) sw lies few Hz ?_ fun out o1 o2=>⟨_,rfl,wpAny_pure ⟨_,rfl,?_⟩⟩) (args_list_sort _)))
 ·intro h2 h' kp;exact cm h2 _ h' fun b o e=>kp b o (ab (aA (ZW e))) (keep b o e)
 ·have q:=k out o1 o2;unfold sortedAll at q;rw [<-Um] at q;exact q
end
theorem Cu {X:Cx}:Bo X iJ (fun xs H Q=>∃ (a:Addr) (vs:List V) (kd:Nat->Bool),xs=[.ref a]/\AB X.K H a vs/\(∀ v ∈ vs,Jy H kd v)/\vs.length < 64 /\
  ∀ (l:Addr) (E5:List V),H l=none->E5.Perm vs->E5.Pairwise (fun u v=>A5 (JD H v) (JD H u)=false)->Q (.ref l) (upd H l (.lst E5))):=by
 intro pins s σ H xs us Q I r h;obtain ⟨a,vs,kd,rfl,ha,hk,Hz,q⟩:=h;obtain ⟨u,rfl,ru⟩:=BV r;cases ru
 obtain ⟨As,rv,pl,hz⟩:=I.list ha;have all:∀ {vs:List V} {As:List Value},A9 vs As->(∀ v ∈ vs,Jy H kd v)->(∀ u ∈ As,M7 s.heap kd u)/\As.map (CZ s.heap)=vs.map (JD H):=by
  intro vs;induction vs with
  | nil=>intro As rv _; cases rv; exact ⟨(fun u hu=>nomatch hu),rfl⟩
  | cons v vs ih=>
   intro As rv hk;cases rv with
   | cons r1 r2=>
    obtain ⟨a1,a2⟩:=QQ I r1 (hk v aj);obtain ⟨b1,b2⟩:=ih r2 fun v hv=>hk v (ay _ hv)
    refine ⟨fun u hu=>?_,by rw [ag,ag,a2,b2]⟩;rcases ZZ.mp hu with rfl | hu
    ·exact a1
    ·exact b1 u hu
 refine Ro (Ll (CZ s.heap)) pl.isList (by rw [<-rv.length]; exact hz) (by rw [<-rv.length]; exact Hz) (JX (all rv hk).1) fun out o1 o2=>?_
 obtain ⟨E5,Wx,pv⟩:=JT o1 rv;have keys:=(all Wx fun v hv=>hk v (pv.mem_iff.mp hv)).2;obtain ⟨e,he⟩:=sortedAll_at s.heap As out.toArray;refine ⟨.ref (s.heap.objs.size + 1),_,I.laid (o:=.lst E5) (t':=s.toks) (fun b o z=>sortedAll_old z) (aL _) ⟨by rw [pv.length_eq]; exact hz,out,e,Wx,he⟩,rfl,q _ E5 (I.hok.fresh (aL _)) pv ?_⟩;have p1:(out.map (CZ s.heap)).Pairwise (fun a b=>A5 b a=false):=bq.mpr o2;rw [keys] at p1;exact bq.mp p1
theorem BJ (K:ZP) {X:Cx} (h:X.K=K):Bo X iJ (fun xs H Q=>∃ (a:Addr) (vs:List V) (rs:List BU),xs=[.ref a]/\AB K H a vs/\AU H vs (rs.map DF)/\vs.length < 64 /\
  ∀ (l:Addr) (E5:List V) (MT:List BU),H l=none->AU H E5 (MT.map DF)->MT.Perm rs->S8 MT->Q (.ref l) (upd H l (.lst E5))):=by
 subst h;intro pins s σ H xs us Q I r h;obtain ⟨a,vs,rs,rfl,ha,hd,Hz,q⟩:=h;refine Cu (pins:=pins) s σ H _ us Q I r ⟨a,vs,_,rfl,ha,(GA hd).1,Hz,fun l E5 hl pv rise=>?_⟩;obtain ⟨MT,d1,p1⟩:=Pt pv hd;refine q l E5 MT hl d1 p1 ?_;have e:=(GA d1).2;have p2:(E5.map (JD H)).Pairwise (fun a b=>A5 b a=false):=bq.mpr rise;rw [e] at p2;exact bq.mp p2
theorem FP (K:ZP) {X:Cx} (h:X.K=K):Bo X iJ (fun xs H Q=>∃ (a:Addr) (vs:List V) (rs:List AG),xs=[.ref a]/\AB K H a vs/\AU H vs (rs.map G9)/\vs.length < 64 /\
  ∀ (l:Addr) (E5:List V) (MT:List AG),H l=none->AU H E5 (MT.map G9)->MT.Perm rs->Q (.ref l) (upd H l (.lst E5))):=by
 subst h;intro pins s σ H xs us Q I r h;obtain ⟨a,vs,rs,rfl,ha,hd,Hz,q⟩:=h;refine Cu (pins:=pins) s σ H _ us Q I r ⟨a,vs,_,rfl,ha,(JP hd).1,Hz,fun l E5 hl pv rise=>?_⟩;obtain ⟨MT,d1,p1⟩:=Q0 pv hd;exact q l E5 MT hl d1 p1
theorem Ft (K:ZP) {X:Cx} (h:X.K=K):Bo X iJ (fun xs H Q=>∃ (a:Addr) (vs:List V) (kd:Nat->Bool),xs=[.ref a]/\AB K H a vs/\(∀ v ∈ vs,Jy H kd v)/\vs.length < 64 /\
  ∀ (l:Addr) (E5:List V),H l=none->E5.Perm vs->Q (.ref l) (upd H l (.lst E5))):=by
 subst h;intro pins s σ H xs us Q I r h;obtain ⟨a,vs,kd,rfl,ha,hk,Hz,q⟩:=h;exact Cu (pins:=pins) s σ H _ us Q I r ⟨a,vs,kd,rfl,ha,hk,Hz,fun l E5 hl pv _=>q l E5 hl pv⟩
end L2
namespace L2
open PySem PySem.Spec PyProof.Rows
open PySem.W
section
variable {prog:Program} {w:World} {A:Around} {E:Value->Shared->Prop} {s:Shared} {κ:SortKind} {lt:Keyed->Keyed->Bool} {a0:Array Keyed}
theorem Rn {l:Addr} {vs:List Value} {Q:Value->Shared->Prop} (sw:OQ lt) (hl:s.heap.IsList l vs.toArray) (few:vs.length<=sizeLine) (Hz:vs.length < 64) (cm:2<=vs.length->∀ h':Heap,(∀ b o,s.heap.get? b=some o->h'.get? b=some o)->∃ κ,(∀ (Q:SortKind->Shared->Prop) (E:Value->Shared->Prop),Q κ { s with heap:=h' }->wpAny ap A.in1.in1 (keyKind' vs.toArray) Q E { s with heap:=h' })/\U6 prog w A.in1.in1 { s with heap:=h' } κ lt (pairsOf vs))
  (k:∀ out:List Value,out.Perm vs->out.Pairwise (fun u v=>lt (v,v) (u,u)=false)->Q (.ref (s.heap.objs.size + 1)) { s with heap:=sortedAll s.heap vs out.toArray }) :
  wpAny ap A (call iJ [.ref l]) Q E s:=by
 refine Calls.call_function_entry kind_sorted plain_sorted entry_sorted (args_sorted1 _) ?_;unfold Builtin.«sorted»;refine wpAny_bind (m:=checkCount "sorted" 1 1 _) (wpAny_pure (wpAny_bind (collect_list hl ?_ few)));refine wpAny_bind (wpAny_newList ?_ (by simpa using few));obtain ⟨h1,Um⟩:∃ h1,h1=(s.heap.push (seqObj "list" #[] 0)).update s.heap.objs.size (Obj.mapSeq (· ++ vs.toArray)):=⟨_,rfl⟩
 have z1:h1.objs.size=s.heap.objs.size + 1:=by rw [Um,eC,size_push']
 have lies:(h1.push gY).get? (s.heap.objs.size + 1)=some gY:=by
  rw [<-z1];exact ZX _ rfl
 have keep:∀ b o,s.heap.get? b=some o->(h1.push gY).get? b=some o:=fun b o q=>by
  have hb:=ZW q;refine ZO _ ?_;rw [Um,dI _ _ _ _ (ab hb)];exact ZO _ q
 show wpAny _ _ _ _ _ { s with heap:=((s.heap.push (seqObj "list" #[] 0)).update s.heap.objs.size (Obj.mapSeq (· ++ vs.toArray))).push gY }
 rw [<-Um,z1];refine wpAny_bind (wpAny_holding (wpAny_call_entry slot_list_sort ⟨_,lies,rfl⟩ entry_list_sort (FG (s:={ s with heap:=h1.push gY }) sw lies few Hz ?_ fun out o1 o2=>⟨_,rfl,wpAny_pure ⟨_,rfl,?_⟩⟩) (args_list_sort _)))
 ·intro h2 h' kp;exact cm h2 h' fun b o e=>kp b o (ab (aA (ZW e))) (keep b o e)
 ·have q:=k out o1 o2;unfold sortedAll at q;rw [<-Um] at q;exact q
end
def PxH (H:Hp) (v:V) (k:List Str):Prop:=∃ t e y,v=.ref t/\H t=some (.tup [.ref e,y])/\H e=some (.tup (k.map V.str))/\((∃ n,y=.int n)\/∃ (l:Addr) (ss:List Str),y=.ref l/\H l=some (.tup ic))
def G5 (h:Heap) (v:Value) (k:List Str):Prop:=∃ t e y,v=.ref t/\IsTup h t #[.ref e,y]/\G4 h (.ref e) k/\((∃ n tk,y=.int n tk)\/∃ ss,G4 h y ss)
theorem G5.keep {h h':Heap} {v:Value} {k:List Str} (x:G5 h v k) (kp:∀ b o,h.get? b=some o->h'.get? b=some o):G5 h' v k:=by
 obtain ⟨t,e,y,rfl,a,b,c⟩:=x;refine ⟨t,e,y,rfl,?_,b.keep kp,c.imp id fun ⟨ss,z⟩=>⟨ss,z.keep kp⟩⟩;obtain ⟨o,h1,r⟩:=a;exact ⟨o,kp _ _ h1,r⟩
theorem PxH.at {X:Cx} {pins:List cr} {σ:St} {H:Hp} {s:Shared} {v:V} {u:Value} {k:List Str} (I:Aq X pins σ H s) (r:AA v u) (h:PxH H v k):G5 s.heap u k:=by
 obtain ⟨t,e,y,rfl,ht,he,hy⟩:=h;cases r
 obtain ⟨As,rv,pl,hz⟩:=I.tuple (AI.of ht);cases rv with
 | cons a1 b1=>
  cases b1 with
  | @cons _ y' _ _ a2 b2=>
   cases b2
   cases a1
   exists t,e,y',rfl,pl,QP I he;rcases hy with ⟨n,rfl⟩ | ⟨l,ss,rfl,hl⟩
   ·obtain ⟨tk,rfl⟩:=a2;exact .inl ⟨n,tk,rfl⟩
   ·cases a2
    exact .inr ⟨ss,QP I hl⟩
theorem Tc {h:Heap} {v:Value} {a b:List Str} (x:G4 h v a) (y:G4 h v b):a=b:=by
 obtain ⟨p,us,rfl,⟨o,h1,h2,n,h3⟩,r1⟩:=x;obtain ⟨q,KL,e,⟨o',Qs,US,n',Uh⟩,r2⟩:=y;cases e
 rw [h1] at Qs;cases Qs
 rw [h3] at Uh;injection Uh with e _;have e2:us=KL:=by simpa using e
 subst e2;exact JR r1 r2
theorem Tw {h:Heap} {v:Value} {a b:List Str} (x:G5 h v a) (y:G5 h v b):a=b:=by
 obtain ⟨t,e,y1,rfl,⟨o,h1,h2,n,h3⟩,x1,_⟩:=x;obtain ⟨t',e',y2,q,⟨o',Qs,US,n',Uh⟩,x2,_⟩:=y;cases q
 rw [h1] at Qs;cases Qs
 rw [h3] at Uh;injection Uh with q _;have q2:e=e':=by
  have:=congrArg (fun a:Array Value=>a[0]?) q;simpa using this
 subst q2;exact Tc x1 x2
open Classical in
noncomputable def V2 (h:Heap) (v:Value):List CL:=if p:∃ k,G5 h v k then p.choose.map CL.s else []
theorem Na {h:Heap} {v:Value} {k:List Str} (x:G5 h v k):V2 h v=k.map CL.s:=by
 unfold V2;rw [dif_pos ⟨k,x⟩,Tw (Exists.choose_spec ⟨k,x⟩) x]
theorem GB {α β:Type} {f:α->β}:∀ {l':List β} {l:List α},l'.Perm (l.map f)->∃ m:List α,m.Perm l/\m.map f=l'
 | [],l,h=>by
  have e:=h.length_eq;rw [ZM] at e;have:l=[]:=bp.mp e.symm;subst this;exact ⟨[],.refl _,rfl⟩
 | b :: l',l,h=>by
  obtain ⟨a,ha,rfl⟩:=ZR.mp (h.mem_iff.mp aj);obtain ⟨l1,l2,rfl⟩:=List.append_of_mem ha;have p1:(l1 ++ a :: l2).Perm (a :: (l1 ++ l2)):=List.perm_middle;have p2:=h.trans (p1.map f);rw [ag] at p2;obtain ⟨m,q1,q2⟩:=GB (List.Perm.cons_inv p2);exact ⟨a :: m,(q1.cons a).trans p1.symm,by rw [ag,q2]⟩
section
variable {prog:Program} {w:World} {A:Around} {s:Shared}
theorem px_lt {E:Value->Shared->Prop} {Q:Bool->Shared->Prop} {u v:Value} {k k':List Str} (hA:A.units + 2 < cLine) (hu:G5 s.heap u k) (hv:G5 s.heap v k') (same:k=k'->u=v) (h:Q (A5 (k.map CL.s) (k'.map CL.s)) s):wpAny ap A (keyLt' (tuples' false) u v) Q E s:=by
 obtain ⟨t,e,y,rfl,⟨o,h1,h2,n,h3⟩,x1,hy⟩:=id hu;obtain ⟨t',e',y',rfl,⟨o',Qs,US,n',Uh⟩,x1',hy'⟩:=id hv;refine kat_lt h1 h3 Qs Uh ?_;show KatLex prog w A false _ Q [(.ref e,.ref e'),(y,y')] 0 s
 refine kat_cons (Lr x1 x1' ad _ _ _ _ ?_);refine kat_go (fun q=>kat_yes ?_) (fun q=>kat_no ?_)
 ·have q:=of_decide_eq_true q;have z:=same q;cases z
  rw [h1] at Qs;cases Qs
  rw [h3] at Uh;injection Uh with q2 _;have q3:y=y':=by
   have:=congrArg (fun a:Array Value=>a[1]?) q2;simpa using this
  subst q3 q;rw [D9] at h;refine kat_cons ?_;rcases hy with ⟨m,tk,rfl⟩ | ⟨ss,hs⟩
  ·refine SeqAt.EqAt.int_int m tk m tk _ _ _ _ ?_;rw [beq_self_eq_true];exact kat_yes (kat_nil h)
  ·refine Lr hs hs ad _ _ _ _ ?_;rw [decide_eq_true rfl];exact kat_yes (kat_nil h)
 ·refine kat_one _ _ ?_;exact O5 x1 x1' ad _ _ _ _ h
theorem Tx {vs:List Value} {ks:List iq} (hA:A.units + 2 < cLine) (hl:vs.length=ks.length) (hk:∀ (i:Nat) v k,vs[i]? = some v->ks[i]? = some k->G5 s.heap v k) (nd:ks.Nodup) :
  2<=vs.length->∀ h':Heap,(∀ b o,s.heap.get? b=some o->h'.get? b=some o)->∃ κ,(∀ (Q:SortKind->Shared->Prop) (E:Value->Shared->Prop),Q κ { s with heap:=h' }->wpAny ap A (keyKind' vs.toArray) Q E { s with heap:=h' })/\U6 prog w A { s with heap:=h' } κ (fun x y=>A5 (V2 s.heap x.1) (V2 s.heap y.1)) (pairsOf vs):=by
 intro h2 h' kp;have Yr:∀ v ∈ vs,∃ (i:Nat) (k:List Str),vs[i]? = some v/\ks[i]? = some k/\G5 s.heap v k:=fun v hv=>by
  obtain ⟨i,hi,e⟩:=aq hv;have e1:vs[i]? = some v:=by rw [ZN hi,e]
  exact ⟨i,ks[i],e1,ZN ad,hk i v _ e1 (ZN ad)⟩
 exists tuples' false,?_
 ·intro Q E hq;have tups:∀ l:List Value,(∀ v ∈ l,∃ k,G5 h' v k)->∃ fs:List Value,KatTups h' l fs/\fs.length=l.length/\∀ f ∈ fs,∃ k,G4 h' f k:=by
   intro l;induction l with
   | nil=>intro _; exact ⟨[],KatTups.nil,rfl,fun f hf=>nomatch hf⟩
   | cons v l ih=>
    intro hl;obtain ⟨fs,k1,k2,k3⟩:=ih fun v hv=>hl v (ay _ hv)
    obtain ⟨k,t,e,y,rfl,⟨o,h1,h2,n,h3⟩,x1,_⟩:=hl v aj;refine ⟨.ref e :: fs,KatTups.cons h1 h2 h3 rfl k1,by rw [aB,aB,k2],fun f hf=>?_⟩;rcases ZZ.mp hf with rfl | hf
    ·exact ⟨k,x1⟩
    ·exact k3 f hf
  obtain ⟨fs,k1,k2,k3⟩:=tups vs fun v hv=>let ⟨_,k,_,_,z⟩:=Yr v hv; ⟨k,z.keep kp⟩
  refine kat_kind (T:=.type "tuple") k1 ad (fun v hv=>?_) rfl hq;obtain ⟨k,a,us,rfl,⟨o,h1,h2,_⟩,_⟩:=k3 v hv;exact fun A Q E s k q=>wpAny_typeOf (T:="tuple") ⟨o,k _ _ h1,h2⟩ q
 ·intro x y hx hy Q E hq;obtain ⟨ex,mx⟩:=Di (vs:=vs) (p:=x) (by simpa using hx);obtain ⟨ey,my⟩:=Di (vs:=vs) (p:=y) (by simpa using hy);rw [ex,ey] at hq ⊢;dsimp only at hq ⊢;obtain ⟨i,k,e1,e2,z1⟩:=Yr _ mx;obtain ⟨j,k',e3,e4,z2⟩:=Yr _ my;rw [Na z1,Na z2] at hq;refine px_lt hA (z1.keep kp) (z2.keep kp) (fun q=>?_) hq;subst q;have ij:i=j:=Gp nd e2 e4;subst ij;rw [e1] at e3;exact ar.inj e3
end
theorem Js (K:ZP) {X:Cx} (hK:X.K=K) (hu:X.A.units + 64 < cLine):Bo X iJ (fun xs H Q=>∃ (a:Addr) (ps:List (V × List Str)),xs=[.ref a]/\AB K H a (ps.map (·.1))/\(∀ p ∈ ps,PxH H p.1 p.2)/\(ps.map (·.2)).Nodup/\ps.length < 64 /\
  ∀ (l:Addr) (PJ:List (V × List Str)),H l=none->PJ.Perm ps->(PJ.map (·.2)).Pairwise (fun a b=>A5 (b.map CL.s) (a.map CL.s)=false)->Q (.ref l) (upd H l (.lst (PJ.map (·.1))))):=by
 subst hK;intro pins s σ H xs us Q I r h;obtain ⟨a,ps,rfl,ha,hp,nd,Hz,q⟩:=h;obtain ⟨u,rfl,ru⟩:=BV r;cases ru
 obtain ⟨As,rv,pl,hz⟩:=I.list ha;have il:As.length=ps.length:=by rw [<-rv.length,ZM]
 have at2:∀ (ps:List (V × List Str)) (As:List Value),(∀ p ∈ ps,PxH H p.1 p.2)->A9 (ps.map (·.1)) As->∀ (i:Nat) v k,As[i]? = some v->(ps.map (·.2))[i]? = some k->G5 s.heap v k:=fun ps As hp rv i v k e1 e2=>by
  rw [ZV] at e2;cases z:ps[i]? with
  | none=>rw [z] at e2; cases e2
  | some p=>
   rw [z] at e2;cases e2
   obtain ⟨v',e3,r3⟩:=rv.get (show (ps.map (·.1))[i]? = some p.1 by rw [ZV,z]; rfl);rw [e1] at e3;cases e3
   exact (hp p (ZS z)).at I r3
 refine Rn (Ll (V2 s.heap)) pl.isList (by rw [<-rv.length]; exact hz) ad (Tx (by rw [PySem.Around.in1_units,PySem.Around.in1_units]; lia) (by rw [ZM]; exact il) (at2 ps As hp rv) nd) fun out o1 o2=>?_
 obtain ⟨E5,Wx,pv⟩:=JT o1 rv;obtain ⟨PJ,q1,q2⟩:=GB pv;subst q2;obtain ⟨e,he⟩:=sortedAll_at s.heap As out.toArray;refine ⟨.ref (s.heap.objs.size + 1),_,I.laid (o:=.lst (PJ.map (·.1))) (t':=s.toks) (fun b o z=>sortedAll_old z) (aL _) ⟨by rw [ZM,q1.length_eq]; rw [ZM] at hz; exact hz,out,e,Wx,he⟩,rfl,q _ PJ (I.hok.fresh (aL _)) q1 ?_⟩;have p1:(out.map (V2 s.heap)).Pairwise (fun a b=>A5 b a=false):=bq.mpr o2;have keys:out.map (V2 s.heap)=(PJ.map (·.2)).map (g7 CL.s):=by
  refine fY fun i=>?_
  have ol:out.length=PJ.length:=by rw [<-Wx.length,ZM]
  rw [ZV,ZV];cases z:out[i]? with
  | none=>
   have:PJ.length<=i:=by rw [<-ol]; exact eM.mp z
   rw [du (by rw [ZM]; exact this)];rfl
  | some v=>
   have hi:i < PJ.length:=by rw [<-ol]; exact (ZT.mp z).1
   have e2:(PJ.map (·.2))[i]? = some (PJ[i]).2:=by rw [ZV,ZN hi]; rfl
   rw [e2];show some _=some _
   rw [Na (at2 PJ out (fun p YY=>hp p (q1.mem_iff.mp YY)) Wx i v _ z e2)]
 rw [keys] at p1;exact bq.mp p1
end L2
namespace L2
open PySem PySem.Spec PyProof.Rows
theorem Sb {mask finger moves:Nat} {led plain:Bool} {hs:Array Int} {t:SetTable} {o:Array Nat} (h:SetTable.laid mask finger moves led plain hs=some (t,o)):t.led=led/\t.plain=plain:=by
 unfold SetTable.laid at h;cases e:SetTable.layClean mask hs with
 | none=>rw [e] at h; cases h
 | some ow=>
  rw [e] at h;injection h with h;injection h with h1 h2;subst h1;exact ⟨rfl,rfl⟩
theorem Pw (t:SetTable) (es:Array (Int × Value)) (wanted:Nat):(relayAll t es wanted).2.1.led=t.led/\(t.plain=false->(relayAll t es wanted).2.1.plain=false):=by
 unfold relayAll;split
 ·rename_i t' order e
  have:=Sb e;dsimp only;split
  ·exact ⟨this.1,fun z=>this.2.trans z⟩
  ·exact ⟨rfl,fun _=>rfl⟩
 ·exact ⟨rfl,fun _=>rfl⟩
theorem TV (t:SetTable) (es:Array (Int × Value)) (h:Int) (x:Value):(layNew t es h x).2.1.led=t.led:=by
 unfold layNew;split
 ·dsimp only;unfold SetTable.orStandIn;split <;> rfl
 ·rfl
section
variable {prog:Program} {w:World} {A:Around} {E:Value->Shared->Prop} {s:Shared}
def Tab (w:World) (es:Array (Int × Value)) (t:SetTable):Prop:=t.led=(!w.params.followText "set-order")/\(0 < es.size->t.plain=false)
def Dw (prog:Program) (w:World) (h:Heap) (a:Addr) (S:Str->Bool) (n:Nat):Prop:=
 ∃ o es ep t,h.get? a=some o/\o.ExactSet/\o.data=.set es ep t/\ElemsOf (PySem.strKind prog w) es.toList/\(∀ k,S k=true ↔ ∃ e ∈ es.toList,(PySem.strKind prog w).is k e.2=true) /\
  es.size < scanBound/\t.fits es.size=true/\es.size=n/\Tab w es t
theorem Rv {a:Addr} {S:Str->Bool} {n:Nat} {k:Str} {tk:Tok} {Q:Bool->Shared->Prop} (hS:Dw prog w s.heap a S n) (room:n + 1 < scanBound)
  (h:∀ h',Heap.SameBut a s.heap h'->Dw prog w h' a (fun k'=>S k' || decide (k'=k)) (if S k then n else n + 1)->Q (!S k) { s with heap:=h' }) :
  wpAny ap A (setAddHashed a (.str k tk) ((PySem.strKind prog w).hash k)) Q E s:=by
 obtain ⟨o,es,ep,t,ho,ex,hd,el,mem,few,fit,hn,tab⟩:=hS;have is:(PySem.strKind prog w).is k (.str k tk)=true:=by simp [PySem.strKind,Value.isStrOf]
 have sc:(Value.str k tk).scannable=true:=rfl;have VZ:es.size + 1 < scanBound:=by lia
 unfold setAddHashed setAddHashedIn;refine wpAny_holding (wpAny_bind (wpAny_setState_of ho hd fit ?_));dsimp only;rw [if_pos (byScan_of sc few el)];unfold setAddByScan;refine wpAny_bind (wpAny_bind (wpAny_rule (wpAny_bind (wpAny_setScan_of is ho hd fit el ?_))));cases hr:List.findIdx? (fun e=>(PySem.strKind prog w).is k e.2) es.toList with
 | some j=>
  obtain ⟨hj,pj,_⟩:=List.findIdx?_eq_some_iff_getElem.mp hr;have there:S k=true:=(mem k).mpr ⟨es.toList[j],bh hj,pj⟩;refine wpAny_pure gK;have q:=h s.heap (Heap.SameBut.refl a s.heap) ⟨o,es,ep,t,ho,ex,hd,el,fun k'=>?_,few,fit,by rw [there]; exact hn,tab⟩
  ·rw [there] at q; exact q
  ·rw [Bool.or_eq_true,decide_eq_true_eq,<-mem k'];exact ⟨fun z=>z.elim id fun e=>e ▸ there,.inl⟩
 | none=>
  have gone:S k=false:=by
   cases z:S k with
   | false=>rfl
   | true=>
    obtain ⟨e,he,hp⟩:=(mem k).mp z;have:=List.findIdx?_eq_none_iff.mp hr e he;rw [hp] at this;cases this
  dsimp only;have pm:=layNew_perm t es ((PySem.strKind prog w).hash k) (.str k tk);have ft:=layNew_fits t es ((PySem.strKind prog w).hash k) (.str k tk);have ld:=TV t es ((PySem.strKind prog w).hash k) (.str k tk);generalize layNew t es ((PySem.strKind prog w).hash k) (.str k tk)=L at pm ft ld ⊢;obtain ⟨J2,t1,dum,gv⟩:=L;dsimp only at pm ft ld ⊢;rw [fK] at pm;have el1:=(el.push is sc).perm pm;have Nk:=mem_push_iff is mem pm;have z1:J2.size=n + 1:=by rw [<-aH,pm.length_eq,ZQ,aH,hn]; rfl
  have VY:J2.size < scanBound:=by lia
  have fin:∀ (Lw:Array (Int × Value)) (t2:SetTable) (h':Heap) (o':Obj) (Ul:Nat),Heap.SameBut a s.heap h'->h'.get? a=some o'->o'.ExactSet->o'.data=.set Lw Ul t2->Lw.toList.Perm J2.toList->t2.fits Lw.size=true->t2.led=t.led->t2.plain=false->Q true { s with heap:=h' }:=by
   intro Lw t2 h' o' Ul sb g x d p f l pl;have z2:Lw.size=n + 1:=by rw [<-z1,<-aH,p.length_eq,aH]
   have q:=h h' sb ⟨o',Lw,Ul,t2,g,x,d,el1.perm p,fun k'=>(Nk k').trans ⟨fun ⟨e,he,r⟩=>⟨e,p.mem_iff.mpr he,r⟩,fun ⟨e,he,r⟩=>⟨e,p.mem_iff.mp he,r⟩⟩,by lia,f,by rw [gone]; exact z2,l.trans tab.1,fun _=>pl⟩;rw [gone] at q;exact q
  have gw:∀ (b:Bool) {AQ:Shared} {R:Unit->Shared->Prop},R () AQ->wpAny ap A (match b with | true=>rule "set.scan.the-table-gave-way" | false=>pure ()) R E AQ:=fun b AQ R q=>by cases b <;> first | exact wpAny_pure q | exact wpAny_rule q
  refine wpAny_bind (gw gv ?_);have main:∀ t2:SetTable,t2.fits J2.size=true->t2.led=t.led->t2.plain=false->wpAny ap A (do
    storeSet a J2 t2
    if (!dum && t2.tooFull)=true then do
      (match (relayAll t2 J2 (SetTable.grown J2.size)).2.2 with | true=>rule "set.scan.the-table-gave-way" | false=>pure ())
      storeSet a (relayAll t2 J2 (SetTable.grown J2.size)).1 (relayAll t2 J2 (SetTable.grown J2.size)).2.1
      pure (some true)
     else pure (some true)) (fun r s'=>r=some true/\Q true s') E s:=by
   intro t2 f2 l2 p2;refine wpAny_bind (wpAny_storeSet_of ho hd ?_ (fits_of_scanBound VY));obtain ⟨g1,_⟩:=SetOf_store (knd:=PySem.strKind prog w) ho ex hd el1 Nk VY f2;have sb1:=Heap.SameBut.update s.heap a (Obj.putSet J2 t2);split
   ·have pr:=relayAll_perm t2 J2 (SetTable.grown J2.size);have fr:=relayAll_fits t2 J2 (SetTable.grown J2.size);have lr:=Pw t2 J2 (SetTable.grown J2.size);generalize relayAll t2 J2 (SetTable.grown J2.size)=R at pr fr lr ⊢;obtain ⟨Lw,t3,gv2⟩:=R;dsimp only at pr fr lr ⊢;have z2:Lw.size=J2.size:=by rw [<-aH,pr.length_eq,aH]
    refine wpAny_bind (gw gv2 ?_);refine wpAny_bind (wpAny_storeSet_of g1 rfl ?_ (fits_of_scanBound (by rw [z2]; exact VY)));have g2:=aY (Obj.putSet Lw t3) g1 (by rw [putSet_of Lw t3 rfl]; rfl);rw [putSet_of Lw t3 rfl] at g2;exact wpAny_pure ⟨rfl,fin Lw t3 _ _ _ (sb1.trans (Heap.SameBut.update _ a _)) g2 ex rfl pr fr (lr.1.trans l2) (lr.2 p2)⟩
   ·exact wpAny_pure ⟨rfl,fin J2 t2 _ _ _ sb1 g1 ex rfl (.refl _) f2 l2 p2⟩
  by_cases pl:t1.plain=true
  ·rw [if_pos pl];refine wpAny_bind ?_;rw [hashByValue_scannable 8 sc];refine wpAny_pure ?_;refine wpAny_mono (main { t1 with plain:=false } (SetTable.fits_plain_off ft) ld rfl) (fun r s' z=>?_) fun _ _ z=>z
   obtain ⟨rfl,z⟩:=z;exact wpAny_pure z
  ·rw [if_neg pl];refine wpAny_bind gK;refine wpAny_mono (main t1 ft ld (by simpa using pl)) (fun r s' z=>?_) fun _ _ z=>z
   obtain ⟨rfl,z⟩:=z;exact wpAny_pure z
end
section
variable {prog:Program} {w:World} {A:Around} {R:Result->Shared->Prop} {I:Addr} {fp wr:List Addr} {G:Array GenState->Array GenState->Prop} {n:Nat} {P:Nat->Value->Prop} {St:Nat->Shared->Prop}
theorem Dw.kept {h h':Heap} {a:Addr} {S:Str->Bool} {n:Nat} (hS:Dw prog w h a S n) (k:∀ o,h.get? a=some o->h'.get? a=some o):Dw prog w h' a S n:=by
 obtain ⟨o,es,ep,t,ho,r⟩:=hS;exact ⟨o,es,ep,t,k _ ho,r⟩
theorem Dw.as {h:Heap} {a:Addr} {S S':Str->Bool} {n n':Nat} (hS:Dw prog w h a S n) (e:∀ k,S' k=S k) (en:n'=n):Dw prog w h a S' n':=by
 subst en;have:S'=S:=funext e;rw [this];exact hS
theorem Po (W:WalksS prog w A.in1 I fp wr G n P St) (D:Addr) (hD:D ∉ fp) (val:Nat->Str) (hv:∀ i v,P i v->∃ tk,v=.str (val i) tk) (few:n + 1 < scanBound) :
  ∀ (k i:Nat) (s:Shared),n - i=k->i<=n->St i s->Dw prog w s.heap D (fun k'=>(met val i).any (· == k')) (met val i).length ->
   (∀ s',Moved (D :: wr) G s s'->Dw prog w s'.heap D (fun k'=>(met val n).any (· == k')) (met val n).length->R (.ok (.ret .none)) s') ->
   codeAny ap A (.builtin "set.update.loop" ⟨[.ref D,.ref I],[]⟩) R s:=by
 have hw:D ∉ wr:=fun z=>hD (W.sub _ z)
 have up:∀ b ∈ wr,b ∈ D :: wr:=fun b z=>ay _ z
 intro k;induction k with
 | zero=>
  intro i s hk hi st hS q;have e:i=n:=by lia
  subst e;refine codeAny_builtin F.entry_set_update_loop ?_;rw [Around.under_plainId F.plain_set_update_loop _];refine wpAny_bind (W.done s _ _ st fun s' m=>?_);exact wpAny_pure (q s' (m.mono up) (hS.kept fun o e=>m.heap D _ hw e))
 | succ k ih=>
  intro i s hk hi st hS q;have lt:i < n:=by lia
  refine codeAny_builtin F.entry_set_update_loop ?_;rw [Around.under_plainId F.plain_set_update_loop _];refine wpAny_bind (W.item i s _ _ lt st fun v s' pv AN m=>?_);obtain ⟨tk,rfl⟩:=hv i v pv;have OI:=hS.kept (h':=s'.heap) fun o e=>m.heap D _ hw e
  refine wpAny_bind (wpAny_holding ?_);unfold setAdd;refine wpAny_holding ?_;refine wpAny_bind ((PySem.strKind prog w).pyHash (k:=val i) (by simp [PySem.strKind,Value.isStrOf]) ?_);refine Rv (s:={ s' with toks:=s'.toks + 1 }) OI (by have:=DK val i; lia) fun h' sb hS2=>?_
  have nx:Dw prog w h' D (fun k'=>(met val gt).any (· == k')) (met val gt).length:=
   hS2.as (fun k'=>by rw [IT,Pj]) (by rw [IT,Ga])
  refine wpAny_pure ⟨plainId_quiet F.plain_set_update_loop _,ih gt _ ad lt (W.frame _ s' _ _ AN (aL _) fun b z o e=>?_) nx fun Vx m2 hS3=>?_⟩
  ·rw [sb.2 b fun y:b=D=>hD (y ▸ z)];exact e
  ·refine q Vx (Moved.trans W.gtrans ((m.mono up).then_heap (aL _) fun b o z e=>?_) m2) hS3;rw [sb.2 b fun y:b=D=>z (y ▸ aj)];exact e
end
section
variable {prog:Program} {w:World} {A:Around} {E:Value->Shared->Prop} {s:Shared}
theorem Ru (a:Value) {Q₁:Value->Shared->Prop}
  (h:Q₁ hU { s with heap:=s.heap.push { cls:=.type "set",dict:=none,data:=.set #[] 0 (.fresh 0 0 (!w.params.followText "set-order")) } }) :
  codeAny ap A (.call (.builtin "set.__new__") ⟨[.type "set",a],[]⟩) (wants Q₁ E) s:=by
 refine codeAny_of_tree ?_;show wpAny _ A.in1 (checkBuiltinCall "set.__new__" ⟨[.type "set",a],[]⟩ >>= fun _=>again (.builtin "set.__new__" ⟨[.type "set",a],[]⟩)) _ _ s
 refine wpAny_bind (wpAny_of_eq (F.newCall_set_1 a) (wpAny_pure ⟨plainId_quiet F.plain_set_new _,codeAny_builtin F.entry_set_new ?_⟩));rw [Around.under_plainId F.plain_set_new _];unfold Builtin.«set.__new__» Builtin.Frozenset.newClass;have hsub:=sub_set_self;obtain ⟨hp,g,d,tk,os⟩:=s;dsimp only;wp_walk;refine wpAny_askSetting gK;dsimp only;simp only [newObj];refine wpAny_bind (wpAny_alloc gK);exact wpAny_pure h
theorem Og {a:Addr} {T:String} {o:Obj} {oI:Obj} {items:Array Value} {val:Nat->Str} {St:Addr->Nat->Heap->Prop} {Q:Value->Shared->Prop} (hh:A.handled=none)
  (ho:s.heap.get? a=some o) (hc:o.cls=.type T) (hnd:(Value.type T == Value.type "dict")=false) (hs1:isSubtype (.type T) (.type "set")=pure false) (VQ:isSubtype (.type T) (.type "frozenset")=pure false)
  (hit:∀ (B:Around) (E':Value->Shared->Prop) (s1:Shared) (Q':Value->Shared->Prop),(∀ b o,s.heap.get? b=some o->s1.heap.get? b=some o)->Q' (.ref s1.heap.objs.size) { s1 with heap:=s1.heap.push oI }->wpAny ap B (pyIter (.ref a)) Q' E' s1)
  (hW:∀ (B:Around) (I:Addr),B.handled=none->a ≠ I->Walks prog w B I [I,a] [I] items.size (fun i v=>items[i]? = some v) (St I))
  (hst:∀ h:Heap,(∀ b o,s.heap.get? b=some o->h.get? b=some o)->St h.objs.size 0 (h.push oI))
  (hi:∀ (i:Nat) v,items[i]? = some v->∃ tk,v=.str (val i) tk) (few:items.size + 1 < scanBound)
  (h:∀ (h':Heap) (tk:Nat),Dw prog w h' s.heap.objs.size (fun k'=>(met val items.size).any (· == k')) (met val items.size).length ->
   (∀ b o,s.heap.get? b=some o->h'.get? b=some o)->Q hU { s with heap:=h',toks:=tk }) :
  wpAny ap A (call (.type "set") [.ref a]) Q E s:=by
 obtain ⟨c,tl,hmro⟩:=F.called_set.mro;have hmade:=F.called_set.made;have hsub:=F.called_set.sub;refine wpAny_call (codeAny_of_tree ?_);show wpAny _ _ (callAny (.type "set") _) _ _ _
 refine wpAny_pure ⟨Code.quiet_builtin _ gO,codeAny_builtin F.entry_type_call ?_⟩;rw [Around.under_plain (weight_type_call_type "set" [.ref a] []) rfl];have h1:=F.called_set.notType;have h2:=F.called_set.canCreate;have hct:=F.typeCall_set_1 (.ref a);repeat (any_goals (first | assumption | wp_step))
 obtain ⟨fr,efr⟩:∃ fr:Obj,fr = { cls:=.type "set",dict:=none,data:=.set #[] 0 (.fresh 0 0 (!w.params.followText "set-order")) }:=⟨_,rfl⟩
 refine codeAny_mono (Ru (.ref a) (E:=E) (Q₁:=fun obj AQ=>obj=.ref s.heap.objs.size/\AQ = { s with heap:=s.heap.push fr }) ⟨rfl,by rw [efr]⟩) fun r AQ hr=>?_
 have gS:(s.heap.push fr).get? s.heap.objs.size=some fr:=ZX _ (by rw [efr]; rfl);have cf:fr.cls=.type "set":=by rw [efr]
 have new:∀ h5:Heap,h5.get? s.heap.objs.size=some fr->Dw prog w h5 s.heap.objs.size (fun k'=>(met val 0).any (· == k')) (met val 0).length:=fun h5 g=>
  ⟨fr,#[],0,.fresh 0 0 (!w.params.followText "set-order"),g,by rw [efr]; exact ⟨rfl,rfl,rfl⟩,by rw [efr],fun e he=>by simp at he,fun k=>by simp [met],by decide,rfl,rfl,rfl,fun z=>by simp at z⟩
 cases r with
 | error e=>exact hr
 | ok fl=>
  cases fl with
  | ret obj=>
   obtain ⟨rfl,rfl⟩:=hr;have hT:Shared.TypeIs { s with heap:=s.heap.push fr } hU "set":=⟨_,gS,cf⟩
   have hli:=F.called_set.init.lookup;have hbi:=F.called_set.init.bind hU;repeat (any_goals (first | assumption | wp_step))
   refine codeAny_mono (codeAny_call_builtin (R:=wants (fun r E6=>r=.none/\∃ h' tk,E6 = { s with heap:=h',toks:=tk } /\
     Dw prog w h' s.heap.objs.size (fun k'=>(met val items.size).any (· == k')) (met val items.size).length /\
     (∀ b o,s.heap.get? b=some o->h'.get? b=some o)) E) F.called_set.init.plain F.entry_set_init (check_set_init_1 hT ?_)) fun Y5 E6 Sk=>?_
   ·obtain ⟨ocls,odict,odata,oslots⟩:=o;simp only at hc;subst hc;have lt:a < s.heap.objs.size:=ZW ho;have JE:(s.heap.push fr).get? a=some { cls:=.type T,dict:=odict,data:=odata,slots:=oslots }:=ZO _ ho;subst efr;unfold Builtin.«set.__init__» noKeywords Builtin.Frozenset.updateFrom;generalize hPI:pyIter=PI;wp_walk;subst hPI;refine hit _ _ _ _ (fun b o e=>ZO _ e) ?_;refine wpAny_bind (wpAny_runValue ?_);have ne:a ≠ (s.heap.push { cls:=.type "set",dict:=none,data:=.set #[] 0 (.fresh 0 0 (!w.params.followText "set-order")) }).objs.size:=by
     rw [aT]; exact ab (aA lt)
    have nS:s.heap.objs.size ∉ [(s.heap.push { cls:=.type "set",dict:=none,data:=.set #[] 0 (.fresh 0 0 (!w.params.followText "set-order")) }).objs.size,a]:=by
     rw [aT]; simp only [ZZ,aQ,or_false,not_or];exact ⟨ab (aK _),bj lt⟩
    refine Po ((hW _ _ (by simp [hh]) ne).toS) s.heap.objs.size nS val hi few (items.size - 0) 0 _ ad (aJ _) (hst _ fun b o e=>ZO _ e) (new _ (ZO _ gS)) ?_;intro s' hm OI;obtain ⟨h',g',d',Wt,YA⟩:=s';have eg:g'=s.gens:=hm.gens;have ed:d'=s.drawn:=hm.drawn;have eo:YA=s.os:=hm.os;subst eg ed eo;refine wpAny_pure ?_;refine wpAny_pure ⟨rfl,h',Wt,rfl,OI,fun b o e=>?_⟩;have hb:=ZW e;have VT:b ≠ s.heap.objs.size:=ab hb;have Zh:b ≠ (s.heap.push { cls:=.type "set",dict:=none,data:=.set #[] 0 (.fresh 0 0 (!w.params.followText "set-order")) }).objs.size:=by
     rw [aT]; exact ab (aA hb)
    exact hm.heap b o (by simp only [ZZ,aQ,or_false,not_or]; exact ⟨VT,Zh⟩) (ZO _ (ZO _ e))
   ·cases Y5 with
    | error e=>exact Sk
    | ok Xx=>
     cases Xx with
     | ret r=>
      obtain ⟨rfl,h',tk,rfl,OI,Nx⟩:=Sk;repeat (any_goals (first | assumption | wp_step))
      exact h _ _ OI Nx
     | _=>exact Sk.elim
  | _=>exact hr.elim
end
theorem Ji:entryFor table "set.__iter__"=some Builtin.«frozenset.__iter__»:=
 entryFor_alias (id':="frozenset.__iter__") (by kernel_rfl) rfl (by decide +kernel) (by kernel_rfl)
theorem Cs:entryFor table "set_iterator.__next__"=some Builtin.«set_iterator.__next__»:=entryFor_of_tree (by kernel_rfl)
theorem AK:Slot "set_iterator" "__next__" "set_iterator.__next__":=
 .of (owner:="set_iterator") (n:="__next__") (by rw [typeLookup_type,builtinLookup_eq_fast]; kernel_rfl) gO gO gO
  (by first | exact .inl gO | exact .inr gO) (by rw [isSubtype_type]; kernel_rfl)
theorem ED:Slot "set_iterator" "__iter__" "set_iterator.__iter__":=
 .of (owner:="set_iterator") (n:="__iter__") (by rw [typeLookup_type,builtinLookup_eq_fast]; kernel_rfl) gO gO gO
  (by first | exact .inl gO | exact .inr gO) (by rw [isSubtype_type]; kernel_rfl)
theorem CB (a:Value):argsOk "set_iterator.__next__" ⟨[a],[]⟩:=by unfold argsOk; kernel_rfl
theorem Jv (a:Value):argsOk "set_iterator.__iter__" ⟨[a],[]⟩:=by unfold argsOk; kernel_rfl
theorem HS:entryFor table "set_iterator.__iter__"=some Builtin.«dict_keyiterator.__iter__»:=
 entryFor_alias (id':="dict_keyiterator.__iter__") (by kernel_rfl) (by first | rfl | decide +kernel | (unfold String.splitOn; simp +decide [String.splitOnAux])) gO (by kernel_rfl)
section
variable {prog:Program} {w:World} {A:Around} {E:Value->Shared->Prop} {s:Shared}
def Dy (x:Value) (i:Int) (a:Addr) (n ep:Nat):Obj:={ cls:=.type "set_iterator",data:=.fields #[x,.int i 0,.ref a,.int n 0,.int ep 0] }
theorem Ke {r a:Addr} {x:Value} {i:Int} {n ep:Nat} {Q:Value->Shared->Prop} (hr:s.heap.get? r=some (Dy x i a n ep)) (h:Q (.ref r) s):wpAny ap A (pyIter (.ref r)) Q E s:=by
 have hT:s.TypeIs (.ref r) "set_iterator":=⟨_,hr,rfl⟩
 refine wpAny_pyIter_slot hT ED (wpAny_call_entry ED hT HS ?_ (Jv _));show wpAny _ _ (ret (.ref r)) _ _ s
 exact wpAny_pure ⟨_,rfl,"set_iterator",_,hT,AK.lookup,h⟩
def CW (w:World) (a:Addr) (es:Array (Int × Value)) (ep:Nat) (t:SetTable) (slot given:Nat):Option (Value × Nat):=
 if w.params.followText "set-order"=true then ((pickOrder (w.params.setOrder a ep) es)[given]?).map fun e=>(e.2,slot) else
 match es[SetTable.below t.place slot]?,t.place[SetTable.below t.place slot]? with
  | some (_,x),some j=>some (x,j + 1)
  | _,_=>none
theorem LN {a:Addr} {o:Obj} {es:Array (Int × Value)} {ep:Nat} {t:SetTable} {slot given:Nat} {Q:Option (Value × Nat)->Shared->Prop} (ho:s.heap.get? a=some o) (hd:o.data=.set es ep t) (fit:t.fits es.size=true) (tab:Tab w es t)
  (few:w.params.followText "set-order"=false->es.size<=1) (h:Q (CW w a es ep t slot given) s):wpAny ap A (setNext a slot given ep) Q E s:=by
 unfold setNext;refine wpAny_bind (wpAny_setState_of ho hd fit ?_);dsimp only;unfold setsByText;refine wpAny_bind (wpAny_bind (wpAny_askSetting gK));unfold CW at h;show wpAny _ _ (if w.params.followText "set-order"=true then _ else _) _ _ _
 by_cases z:w.params.followText "set-order"=true
 ·rw [if_pos z] at h;rw [if_pos z,if_neg gl];unfold setWalk;refine wpAny_bind (wpAny_bind (wpAny_setState_of ho hd fit ?_));dsimp only;unfold setsByText;refine wpAny_bind (wpAny_bind (wpAny_askSetting gK));show wpAny _ _ (if w.params.followText "set-order"=true then _ else _) _ _ _
  rw [if_pos z];refine wpAny_bind (wpAny_askSetting gK);exact wpAny_pure h
 ·rw [if_neg z] at h;rw [if_neg z];have z':w.params.followText "set-order"=false:=by simpa using z
  have sm:=few z';show wpAny _ _ (if (!t.plain && decide (es.size > 1))=true then _ else _) _ _ _
  rw [if_neg (by simp; lia)];refine wpAny_bind ?_;show wpAny _ _ (if (!t.led && !es.isEmpty)=true then _ else _) _ _ _
  rw [if_neg (by rw [tab.1,z']; simp)];exact wpAny_pure (wpAny_pure h)
theorem Pk {r a:Addr} {slot i:Nat} {o:Obj} {es:Array (Int × Value)} {ep:Nat} {t:SetTable} {x:Value} {nx:Nat} {Q:Option Value->Shared->Prop}
  (hr:s.heap.get? r=some (Dy (.int slot 0) i a es.size ep)) (ho:s.heap.get? a=some o) (hd:o.data=.set es ep t) (fit:t.fits es.size=true) (tab:Tab w es t) (few:w.params.followText "set-order"=false->es.size<=1)
  (hx:CW w a es ep t slot i=some (x,nx))
  (hQ:∀ h',h'.get? r=some (Dy (.int nx 0) gt a es.size ep)->Heap.SameBut r s.heap h'->Q (some x) { s with heap:=h' }) :
  wpAny ap A (pyNext (.ref r)) Q E s:=by
 have hT:s.TypeIs (.ref r) "set_iterator":=⟨_,hr,rfl⟩
 obtain ⟨hp,g,d,tk,os⟩:=s;unfold pyNext;refine wpAny_bind (wpAny_attempt (wpAny_callSpecial?_slot (name:=Str.ofString "__next__") hT AK
  (wpAny_call_entry AK hT Cs ?_ (CB _))))
 unfold Builtin.«set_iterator.__next__»;unfold Dy at hr;repeat (any_goals (first | assumption | (refine wpAny_setEntries_of ho hd fit ?_) | (refine LN (given:=i) (slot:=slot) ho hd fit tab few ?_) | wp_step))
 rw [show ((ep:Nat):Int).toNat=ep by simp,hx];repeat (any_goals (first | assumption | wp_step))
 refine ⟨_,rfl,wpAny_pure (hQ _ ?_ ((Heap.SameBut.update ..).trans (Heap.SameBut.update ..)))⟩;have e1:=aY (Obj.mapFields fun fs=>fs.setIfInBounds 0 (rawInt nx)) hr rfl;have e2:=aY (Obj.mapFields fun fs=>fs.setIfInBounds 1 (rawInt gt)) e1 rfl;exact e2
theorem Rq {r a:Addr} {slot i:Nat} {o:Obj} {es:Array (Int × Value)} {ep:Nat} {t:SetTable} {Q:Option Value->Shared->Prop} (hh:A.handled=none)
  (hr:s.heap.get? r=some (Dy (.int slot 0) i a es.size ep)) (ho:s.heap.get? a=some o) (hd:o.data=.set es ep t) (fit:t.fits es.size=true) (tab:Tab w es t) (few:w.params.followText "set-order"=false->es.size<=1)
  (hx:CW w a es ep t slot i=none)
  (hQ:∀ h',Heap.ExtBut r s.heap h'->Q none { s with heap:=h' }) :
  wpAny ap A (pyNext (.ref r)) Q E s:=by
 have hT:s.TypeIs (.ref r) "set_iterator":=⟨_,hr,rfl⟩
 obtain ⟨hp,g,d,tk,os⟩:=s;unfold pyNext;refine wpAny_bind (wpAny_attempt (wpAny_callSpecial?_slot (name:=Str.ofString "__next__") hT AK
  (wpAny_call_entry AK hT Cs ?_ (CB _))))
 unfold Builtin.«set_iterator.__next__»;unfold Dy at hr;repeat (any_goals (first | assumption | (refine wpAny_setEntries_of ho hd fit ?_) | (refine LN (given:=i) (slot:=slot) ho hd fit tab few ?_) | wp_step))
 rw [show ((ep:Nat):Int).toNat=ep by simp,hx];repeat (any_goals (first | assumption | wp_step))
 simp only [raiseNew];refine wpAny_bind (wpAny_handled ?_);rw [show A.in1.handled=none from hh];refine wpAny_bind (wpAny_pure (wpAny_throw ?_));refine wpAny_bind iw;exact wpAny_pure (hQ _ fun b o hb e=>ZO _ (ZO _ ((Heap.SameBut.update ..).extBut b o hb e)))
end
section
variable {prog:Program} {w:World} {A:Around} {E:Value->Shared->Prop} {s:Shared}
def PU (is:List Nat) (c:Nat):Obj:={ cls:=.type "tuple",data:=.seq (is.map fun (i:Nat)=>rawInt i).toArray c }
theorem Pl {a:Addr} {o:Obj} {es:Array (Int × Value)} {ep:Nat} {t:SetTable} {j:Nat} {h:Int} {x:Value} {Q:Value->Shared->Prop} (ho:s.heap.get? a=some o) (hd:o.data=.set es ep t) (fit:t.fits es.size=true)
  (hx:es[j]? = some (h,x)) (q:Q x s):wpAny ap A (setNextDrawn a j ep) Q E s:=by
 unfold setNextDrawn;refine wpAny_bind (wpAny_setState_of ho hd fit ?_);dsimp only;rw [if_neg gl,hx];exact wpAny_pure q
theorem Pm {r a p:Addr} {i c:Nat} {o:Obj} {es:Array (Int × Value)} {ep:Nat} {t:SetTable} {is:List Nat} {j:Nat} {h:Int} {x:Value} {Q:Option Value->Shared->Prop}
  (hr:s.heap.get? r=some (Dy (.ref p) i a es.size ep)) (hp:s.heap.get? p=some (PU is c)) (ho:s.heap.get? a=some o) (hd:o.data=.set es ep t) (fit:t.fits es.size=true)
  (hj:is[i]? = some j) (hx:es[j]? = some (h,x))
  (hQ:∀ h',h'.get? r=some (Dy (.ref p) gt a es.size ep)->Heap.SameBut r s.heap h'->Q (some x) { s with heap:=h' }) :
  wpAny ap A (pyNext (.ref r)) Q E s:=by
 have hT:s.TypeIs (.ref r) "set_iterator":=⟨_,hr,rfl⟩
 have JF:((is.map fun (i:Nat)=>rawInt i).toArray)[i]? = some (.int j 0):=by simp [hj,rawInt]
 obtain ⟨hp,g,d,tk,os⟩:=s;unfold pyNext;refine wpAny_bind (wpAny_attempt (wpAny_callSpecial?_slot (name:=Str.ofString "__next__") hT AK
  (wpAny_call_entry AK hT Cs ?_ (CB _))))
 unfold Builtin.«set_iterator.__next__»;unfold Dy at hr;unfold PU at hp;repeat (any_goals (first | assumption | (refine wpAny_setEntries_of ho hd fit ?_) | wp_step))
 rw [show ((i:Nat):Int).toNat=i by simp,JF];dsimp only;refine wpAny_bind (Pl (h:=h) (x:=x) ho hd fit (by simpa using hx) ?_);repeat (any_goals (first | assumption | wp_step))
 refine ⟨_,rfl,wpAny_pure (hQ _ ?_ (Heap.SameBut.update ..))⟩;exact aY (Obj.mapFields fun fs=>fs.setIfInBounds 1 (rawInt gt)) hr rfl
theorem Rr {r a p:Addr} {i c:Nat} {o:Obj} {es:Array (Int × Value)} {ep:Nat} {t:SetTable} {is:List Nat} {Q:Option Value->Shared->Prop} (hh:A.handled=none)
  (hr:s.heap.get? r=some (Dy (.ref p) i a es.size ep)) (hp:s.heap.get? p=some (PU is c)) (ho:s.heap.get? a=some o) (hd:o.data=.set es ep t) (fit:t.fits es.size=true)
  (hj:is[i]? = none) (hQ:∀ h',Heap.ExtBut r s.heap h'->Q none { s with heap:=h' }) :
  wpAny ap A (pyNext (.ref r)) Q E s:=by
 have hT:s.TypeIs (.ref r) "set_iterator":=⟨_,hr,rfl⟩
 have JF:((is.map fun (i:Nat)=>rawInt i).toArray)[i]? = none:=by simpa using hj
 obtain ⟨hp,g,d,tk,os⟩:=s;unfold pyNext;refine wpAny_bind (wpAny_attempt (wpAny_callSpecial?_slot (name:=Str.ofString "__next__") hT AK
  (wpAny_call_entry AK hT Cs ?_ (CB _))))
 unfold Builtin.«set_iterator.__next__»;unfold Dy at hr;unfold PU at hp;repeat (any_goals (first | assumption | (refine wpAny_setEntries_of ho hd fit ?_) | wp_step))
 rw [show ((i:Nat):Int).toNat=i by simp,JF];repeat (any_goals (first | assumption | wp_step))
 simp only [raiseNew];refine wpAny_bind (wpAny_handled ?_);rw [show A.in1.handled=none from hh];refine wpAny_bind (wpAny_pure (wpAny_throw ?_));refine wpAny_bind iw;exact wpAny_pure (hQ _ fun b o hb e=>ZO _ (ZO _ ((Heap.SameBut.update ..).extBut b o hb ((Heap.SameBut.update ..).extBut b o hb e))))
theorem MF (hh:A.handled=none) (I a:Addr) (ne:a ≠ I) {o:Obj} {es:Array (Int × Value)} {ep:Nat} {t:SetTable} (hd:o.data=.set es ep t) (fit:t.fits es.size=true) (tab:Tab w es t) (few:w.params.followText "set-order"=false->es.size<=1)
  (vs:List Value) (sl:Nat->Nat) (hs:∀ (i:Nat) (v:Value),vs[i]? = some v->CW w a es ep t (sl i) i=some (v,sl gt)) (he:CW w a es ep t (sl vs.length) vs.length=none) :
  Walks prog w A I [I,a] [I] vs.length (fun i v=>vs[i]? = some v) (fun i h=>h.get? I=some (Dy (.int (sl i:Nat) 0) i a es.size ep)/\h.get? a=some o) where
 sub:=fun b hb=>by simp at hb; simp [hb]
 frame:=fun i h h' st k=>⟨k I gl _ st.1,k a gl _ st.2⟩
 item:=fun i s Q E hi st q=>by
  have e:vs[i]? = some vs[i]:=by simp [hi]
  refine Pk st.1 st.2 hd fit tab few (hs i _ e) fun h' hr sb=>q _ h' s.toks e ⟨hr,?_⟩ fun b o hb z=>?_
  ·rw [sb.2 a ne]; exact st.2
  ·rw [sb.2 b (by simpa using hb)]; exact z
 done:=fun s Q E st q=>Rq hh st.1 st.2 hd fit tab few he fun h' eb=>q h' s.toks fun b o hb z=>eb b o (by simpa using hb) z
 self:=fun i s Q E st q=>Ke st.1 q
theorem MG (hh:A.handled=none) (I a p:Addr) (ne:a ≠ I) (np:p ≠ I) {o:Obj} {es:Array (Int × Value)} {ep c:Nat} {t:SetTable} (hd:o.data=.set es ep t) (fit:t.fits es.size=true)
  (is:List Nat) (vs:List Value) (hl:is.length=vs.length) (hs:∀ (i:Nat) (v:Value),vs[i]? = some v->∃ j h,is[i]? = some j/\es[j]? = some (h,v)) :
  Walks prog w A I [I,a,p] [I] vs.length (fun i v=>vs[i]? = some v) (fun i h=>h.get? I=some (Dy (.ref p) i a es.size ep)/\h.get? a=some o/\h.get? p=some (PU is c)) where
 sub:=fun b hb=>by simp at hb; simp [hb]
 frame:=fun i h h' st k=>⟨k I gl _ st.1,k a gl _ st.2.1,k p gl _ st.2.2⟩
 item:=fun i s Q E hi st q=>by
  have e:vs[i]? = some vs[i]:=by simp [hi]
  obtain ⟨j,h,e1,e2⟩:=hs i _ e;refine Pm st.1 st.2.2 st.2.1 hd fit e1 e2 fun h' hr sb=>q _ h' s.toks e ⟨hr,?_,?_⟩ fun b o hb z=>?_
  ·rw [sb.2 a ne]; exact st.2.1
  ·rw [sb.2 p np]; exact st.2.2
  ·rw [sb.2 b (by simpa using hb)]; exact z
 done:=fun s Q E st q=>Rr hh st.1 st.2.2 st.2.1 hd fit (by simp [hl]) fun h' eb=>q h' s.toks fun b o hb z=>eb b o (by simpa using hb) z
 self:=fun i s Q E st q=>Ke st.1 q
theorem Jh {α:Type} {xs:List α} {i:Nat} {x:α} (h:xs[i]? = some x):(x :: xs.eraseIdx i).Perm xs:=by
 induction xs generalizing i with
 | nil=>simp at h
 | cons y ys ih=>
  cases i with
  | zero=>simp at h; subst h; exact .refl _
  | succ i=>
   simp only [bU] at h;exact (List.Perm.swap _ _ _).trans ((ih h).cons _)
theorem N2 {α:Type} (n:Nat):∀ (xs:List α) (s:Shared) (Q:List α->Shared->Prop),n=xs.length->(∀ ys dr,ys.Perm xs->Q ys { s with drawn:=dr })->wpAny ap A (drawOrder n xs) Q E s:=by
 induction n with
 | zero=>
  intro xs s Q hn h;cases xs with
  | nil=>exact wpAny_pure (h [] s.drawn (.refl _))
  | cons x xs=>simp at hn
 | succ n ih=>
  intro xs s Q hn h;cases xs with
  | nil=>simp at hn
  | cons x xs=>
   unfold drawOrder;refine wpAny_bind ?_;intro Γ p hΓ;exists by simp
   have lt:w.draws .order (s.drawn.get .order) % (x :: xs).length < (x :: xs).length:=cS _ gl;show wpAny ap A (match (x :: xs)[w.draws .order (s.drawn.get .order) % (x :: xs).length]? with
    | some y=>drawOrder n ((x :: xs).eraseIdx (w.draws .order (s.drawn.get .order) % (x :: xs).length)) >>= fun r=>pure (y :: r)
    | none=>unsupported "internal:drawOrder") Q E { s with drawn:=s.drawn.bump .order }
   generalize w.draws .order (s.drawn.get .order) % (x :: xs).length=i at lt;have e:(x :: xs)[i]? = some (x :: xs)[i]:=by simp
   rw [e];refine wpAny_bind (ih _ _ _ (by rw [fk]; simp only [lt,if_true]; lia) fun ys dr pm=>?_);exact wpAny_pure (h _ dr ((pm.cons _).trans (Jh e)))
theorem Ow {α:Type} (next:Nat->Nat):∀ (fuel k:Nat) (left:List α) (out:Array α),fuel=left.length->(pickOrder.go next fuel k left out).toList.Perm (out.toList ++ left)
 | 0,k,[],out,_=>by unfold pickOrder.go; simp
 | fuel + 1,k,x :: xs,out,h=>by
  unfold pickOrder.go;have lt:next k % (x :: xs).length < (x :: xs).length:=cS _ gl;generalize next k % (x :: xs).length=i at lt;have e:(x :: xs)[i]? = some (x :: xs)[i]:=by simp
  rw [e];refine (Ow next fuel (k + 1) _ _ (by rw [fk]; simp only [lt,if_true]; simp at h ⊢; lia)).trans ?_;rw [fK,aX];exact (Jh e).append_left _
theorem PM {α:Type} (next:Nat->Nat) (xs:Array α):(pickOrder next xs).toList.Perm xs.toList:=by
 unfold pickOrder;simpa using Ow next xs.size 0 xs.toList #[] gl
end
theorem LC:∀ {vs:List Value},(∀ v ∈ vs,∃ x t,v=Value.str x t)->∃ ks,StrsAre vs ks
 | [],_=>⟨[],.nil⟩
 | v :: vs,h=>by
  obtain ⟨x,t,rfl⟩:=h v gl;obtain ⟨ks,r⟩:=LC fun u hu=>h u (ay _ hu)
  exact ⟨x :: ks,.cons x t r⟩
theorem Rb {P:Program} {w:World} {vs:List Value} {ks:List Str} (h:StrsAre vs ks) (k:Str):k ∈ ks ↔ ∃ v ∈ vs,(PySem.strKind P w).is k v=true:=by
 induction h with
 | nil=>simp
 | cons x t r ih=>
  rw [ZZ,ih];constructor
  ·rintro (rfl | ⟨v,hv,e⟩)
   ·exact ⟨_,aj,by simp [PySem.strKind,Value.isStrOf]⟩
   ·exact ⟨v,ay _ hv,e⟩
  ·rintro ⟨v,hv,e⟩;rcases ZZ.mp hv with rfl | hv
   ·refine .inl ?_;have e':Value.isStrOf k (.str x t)=true:=e;first | exact (eq_of_beq e').symm | exact eq_of_beq e' | exact of_decide_eq_true e' | exact (of_decide_eq_true e').symm
   ·exact .inr ⟨v,hv,e⟩
section
variable {prog:Program} {w:World} {A:Around} {E:Value->Shared->Prop} {s:Shared}
theorem Pn {a:Addr} {o:Obj} {es:Array (Int × Value)} {ep:Nat} {t:SetTable} {Q:Bool->Shared->Prop} (ho:s.heap.get? a=some o) (hd:o.data=.set es ep t) (fit:t.fits es.size=true)
  (h:Q (!w.params.followText "set-order" && (!t.plain && decide (es.size > 1))) s):wpAny ap A (setDrawn a) Q E s:=by
 unfold setDrawn;refine wpAny_bind (wpAny_setState_of ho hd fit ?_);dsimp only;unfold setsByText;exact wpAny_bind (wpAny_bind (wpAny_askSetting (wpAny_pure (wpAny_pure h))))
theorem Pp {a:Addr} {S:Str->Bool} {n:Nat} {Q:Value->Shared->Prop} (hS:Dw prog w s.heap a S n)
  (h:∀ (h':Heap) (dr:Drawn) (I:Addr) (fp:List Addr) (vs:List Value) (ks:List Str) (St:Nat->Heap->Prop),(∀ b o,s.heap.get? b=some o->h'.get? b=some o)->s.heap.objs.size<=I->(∀ b ∈ fp,b=a\/s.heap.objs.size<=b) ->
   StrsAre vs ks->(∀ k,S k=true ↔ k ∈ ks)->ks.length=n->(∀ B:Around,B.handled=none->Walks prog w B I fp [I] vs.length (fun i v=>vs[i]? = some v) St)->St 0 h'->Q (.ref I) { s with heap:=h',drawn:=dr }) :
  wpAny ap A (pyIter (.ref a)) Q E s:=by
 obtain ⟨o,es,ep,t,ho,ex,hd,el,mem,few,fit,hn,tab⟩:=hS;have lt:a < s.heap.objs.size:=ZW ho;have strE:∀ e ∈ es.toList,∃ x tk,e.2=Value.str x tk:=fun e he=>by
  obtain ⟨⟨k,hk,_⟩,_⟩:=el e he;have Nx:Value.isStrOf k e.2=true:=hk;cases z:e.2 <;> rw [z] at Nx <;> first | exact ⟨_,_,rfl⟩ | (simp [Value.isStrOf] at Nx)
 have tx:∀ vs:List Value,vs.Perm (es.toList.map (·.2))->∃ ks,StrsAre vs ks/\(∀ k,S k=true ↔ k ∈ ks)/\ks.length=n:=fun vs pm=>by
  obtain ⟨ks,r⟩:=LC (vs:=vs) fun v hv=>by
   obtain ⟨e,he,rfl⟩:=ZR.mp (pm.mem_iff.mp hv);exact strE e he
  refine ⟨ks,r,fun k=>?_,by rw [<-r.length,pm.length_eq,ZM,aH]; exact hn⟩;rw [mem,Rb (P:=prog) (w:=w) r];constructor
  ·rintro ⟨e,he,z⟩;exact ⟨e.2,pm.mem_iff.mpr (ZR.mpr ⟨e,he,rfl⟩),z⟩
  ·rintro ⟨v,hv,z⟩;obtain ⟨e,he,rfl⟩:=ZR.mp (pm.mem_iff.mp hv);exact ⟨e,he,z⟩
 have hT:s.TypeIs (.ref a) "set":=⟨o,ho,ex.1⟩
 refine wpAny_pyIter_slot hT F.slot_set_iter (wpAny_call_entry F.slot_set_iter hT Ji ?_ (F.args_set_iter_1 _));unfold Builtin.«frozenset.__iter__» Builtin.Frozenset.slot0 slotArgs;simp only [List.isEmpty_nil,gA,aF,↓reduceIte,bind_assoc,eI,bne_self_eq_false];unfold Builtin.Frozenset.addrOf Builtin.Frozenset.sizeOf;refine wpAny_bind gK;try dsimp only
 refine wpAny_bind gK;refine wpAny_bind (wpAny_bind (wpAny_setEntries_of ho hd fit gK));refine wpAny_bind (Pn ho hd fit ?_);by_cases z:(!w.params.followText "set-order" && (!t.plain && decide (es.size > 1)))=true
 ·rw [if_pos z];refine wpAny_bind (N2 es.size (bD es.size) _ _ (by rw [bF]) fun is dr pm=>?_);refine wpAny_bind (wpAny_newTuple ?_ (by rw [ZM,pm.length_eq,bF]; exact fits_of_scanBound few));refine wpAny_bind (wpAny_setEpoch_of (ZO _ ho) hd fit ?_);refine wpAny_bind (wpAny_newObj_type (wpAny_pure ⟨_,rfl,"set_iterator",_,⟨_,ZX _ rfl,rfl⟩,AK.lookup,?_⟩));have rng:∀ j ∈ is,j < es.size:=fun j hj=>bo.mp (pm.mem_iff.mp hj)
  have pv:(is.map fun j=>((es[j]?).map (·.2)).getD Value.none).Perm (es.toList.map (·.2)):=by
   refine (pm.map _).trans ?_;refine List.Perm.of_eq (bZ gl fun i h1 h2=>?_);have:i < es.size:=by simpa using h2
   simp [this]
  obtain ⟨ks,r1,r2,r3⟩:=tx _ pv;refine h _ dr _ [(s.heap.push (PU is 0)).objs.size,a,s.heap.objs.size] _ ks _ (fun b o e=>ZO _ (ZO _ e)) (by rw [size_push']; exact aL _) (fun b hb=>?_) r1 r2 r3
   (fun B hB=>MG hB _ a s.heap.objs.size (by rw [size_push']; exact ab (aA lt)) (by rw [size_push']; exact ab (aK _)) hd fit is _ gl fun i v e=>?_)
   ⟨ZX _ rfl,ZO _ (ZO _ ho),ZO _ (ZX _ rfl)⟩
  ·simp only [ZZ,aQ,or_false] at hb;rcases hb with rfl | rfl | rfl
   ·exact .inr (by rw [size_push']; exact aL _)
   ·exact .inl rfl
   ·exact .inr (ZU _)
  ·rw [ZV] at e;cases ej:is[i]? with
   | none=>rw [ej] at e; cases e
   | some j=>
    rw [ej] at e;have hj:=rng j (ZS ej);have e5:es[j]? = some es[j]:=by simp [hj]
    simp only [cq,e5,Option.getD_some,ar.injEq] at e;exact ⟨j,es[j].1,rfl,by rw [e5,<-e]⟩
 ·rw [if_neg z];refine wpAny_bind gK;refine wpAny_bind (wpAny_setEpoch_of ho hd fit ?_);refine wpAny_bind (wpAny_newObj_type (wpAny_pure ⟨_,rfl,"set_iterator",_,⟨_,ZX _ rfl,rfl⟩,AK.lookup,?_⟩));have VZ:w.params.followText "set-order"=false->es.size<=1:=fun q=>by
   rcases dq 1 es.size with y | y
   ·rw [q,tab.2 ad] at z;simp [y] at z
   ·exact y
  have go:∀ (vs:List Value) (sl:Nat->Nat),sl 0=0->vs.Perm (es.toList.map (·.2))->(∀ (i:Nat) (v:Value),vs[i]? = some v->CW w a es ep t (sl i) i=some (v,sl gt))->CW w a es ep t (sl vs.length) vs.length=none ->
    Q hU { s with heap:=s.heap.push (Dy (rawInt 0) 0 a es.size ep) }:=fun vs sl s0 pm h1 h2=>by
   obtain ⟨ks,r1,r2,r3⟩:=tx _ pm;refine h _ s.drawn _ [s.heap.objs.size,a] vs ks _ (fun b o e=>ZO _ e) (ZU _) (fun b hb=>?_) r1 r2 r3 (fun B hB=>MF hB _ a (ab lt) hd fit tab VZ vs sl h1 h2) ⟨?_,ZO _ ho⟩
   ·simp only [ZZ,aQ,or_false] at hb;rcases hb with rfl | rfl
    ·exact .inr (ZU _)
    ·exact .inl rfl
   ·rw [s0]; exact ZX _ rfl
  by_cases ft:w.params.followText "set-order"=true
  ·refine go ((pickOrder (w.params.setOrder a ep) es).toList.map (·.2)) (fun _=>0) rfl ((PM _ es).map _) (fun i v e=>?_) ?_
   ·unfold CW;rw [if_pos ft];rw [ZV,b9] at e;cases y:(pickOrder (w.params.setOrder a ep) es)[i]? with
    | none=>rw [y] at e; cases e
    | some x=>rw [y] at e; cases e; rfl
   ·unfold CW;rw [if_pos ft];simp
  ·have sm:=VZ (by simpa using ft);refine go (es.toList.map (·.2)) (fun i=>if i=0 then 0 else t.place.getD 0 0 + 1) rfl (.refl _) (fun i v e=>?_) ?_
   ·unfold CW;rw [if_neg ft];have i0:i < es.size:=by
     have:=(ZT.mp e).1;simpa using this
    have z1:es.size=1:=by lia
    have i1:i=0:=by lia
    subst i1;obtain ⟨x,rfl⟩:∃ x,es=#[x]:=⟨es[0],eQ (by simpa using z1) fun j a1 a2=>by
     have:j=0:=by lia
     subst this; rfl⟩
    have pz:t.place.size=1:=by
     simp only [SetTable.fits,aV,beq_iff_eq] at fit;exact fit.1
    obtain ⟨y,ey⟩:∃ y,t.place=#[y]:=⟨t.place[0],eQ (by simpa using pz) fun j a1 a2=>by
     have:j=0:=by lia
     subst this; rfl⟩
    rw [ey];simp at e;subst e;rfl
   ·unfold CW;rw [if_neg ft];rcases fX es.size with z0 | z0
    ·have:es=#[]:=Array.eq_empty_of_size_eq_zero z0;subst this;rfl
    ·have z1:es.size=1:=by lia
     obtain ⟨x,rfl⟩:∃ x,es=#[x]:=⟨es[0],eQ (by simpa using z1) fun j a1 a2=>by
      have:j=0:=by lia
      subst this; rfl⟩
     have pz:t.place.size=1:=by
      simp only [SetTable.fits,aV,beq_iff_eq] at fit;exact fit.1
     obtain ⟨y,ey⟩:∃ y,t.place=#[y]:=⟨t.place[0],eQ (by simpa using pz) fun j a1 a2=>by
      have:j=0:=by lia
      subst this; rfl⟩
     rw [ey];simp [SetTable.below,SetTable.below.go]
end
section
variable {prog:Program} {w:World} {A:Around} {E:Value->Shared->Prop} {s:Shared}
theorem Rt {r:Addr} {Q:Bool->Shared->Prop} (hT:s.TypeIs (.ref r) "set") (h:∀ b,Q b s):wpAny ap A (Builtin.List.listLengthHint (.ref r)) Q E s:=by
 unfold Builtin.List.listLengthHint;refine wpAny_bind (wpAny_specialOf hT PySem.F.slot_set_len.lookup ?_);generalize hid:("set.__len__":String)=id0;wp_delta;rw [show splitId id0=some ("set","__len__") from by subst hid; decide +kernel];subst hid;refine wpAny_bind (wpAny_isInstance (T:="set") (b:=true) hT (by rw [isSubtype_type]; kernel_rfl) ?_);refine wpAny_ite_split (fun z=>absurd z bi) (fun _=>?_);refine wpAny_ite_split (fun _=>?_) (fun z=>absurd gO z);refine wpAny_bind (wpAny_typeOf hT ?_);exact wpAny_pure (h _)
theorem KR {a:Addr} {S:Str->Bool} {n:Nat} {R:List Value->Shared->Prop} (hh:A.handled=none) (hS:Dw prog w s.heap a S n)
  (h:∀ (h':Heap) (tk:Nat) (dr:Drawn) (vs:List Value) (ks:List Str),(∀ b o,s.heap.get? b=some o->h'.get? b=some o)->StrsAre vs ks->(∀ k,S k=true ↔ k ∈ ks)->ks.length=n->R vs { s with heap:=h',toks:=tk,drawn:=dr }) :
  wpAny ap A (collect (.ref a)) R E s:=by
 have hn:n < scanBound:=by obtain ⟨o,es,ep,t,ho,ex,hd,el,mem,few,fit,hn,tab⟩:=hS; lia
 have Zb:n<=sizeLine:=fits_of_scanBound hn;have lt:a < s.heap.objs.size:=by obtain ⟨o,es,ep,t,ho,r⟩:=hS; exact ZW ho
 unfold collect;refine wpAny_bind (wpAny_runValue (codeAny_builtin entry_proto_collect' ?_));rw [Around.under_plainId PySem.F.plain_proto_collect _];show wpAny _ A.in1 (newList [] >>= fun l=>again (.builtin "list.__iadd__" ⟨[l,.ref a],[]⟩)) _ _ s
 refine wpAny_bind (wpAny_newObj_type ?_);refine wpAny_pure ⟨plainId_quiet PySem.F.plain_list_iadd _,codeAny_builtin entry_list_iadd' ?_⟩;rw [Around.under_plainId PySem.F.plain_list_iadd _];have e1:(s.heap.push { cls:=.type "list",data:=.seq ([]:List Value).toArray }).get? s.heap.objs.size=some { cls:=.type "list",data:=.seq #[] }:=ZX _ rfl;show wpAny _ A.in1 (Builtin.List.listExtendWith hU (.ref a) hU) _ _ _
 have hS1:Dw prog w (s.heap.push { cls:=.type "list",data:=.seq ([]:List Value).toArray }) a S n:=hS.kept fun o e=>ZO _ e
 unfold Builtin.List.listExtendWith;have hT:Shared.TypeIs { s with heap:=s.heap.push { cls:=.type "list",data:=.seq ([]:List Value).toArray } } (.ref a) "set":=by
  obtain ⟨o,es,ep,t,ho,ex,r⟩:=hS1;exact ⟨o,ho,ex.1⟩
 refine wpAny_bind (wpAny_typeOf hT ?_);have e2:Builtin.List.listSameRef hU (.ref a)=false:=by simp [Builtin.List.listSameRef,bj lt]
 have e3:(Value.type "set" == Value.type "list")=false:=by decide
 have e4:(Value.type "set" == Value.type "tuple")=false:=by decide
 simp only [e2,e3,e4,g8,aF,if_false];refine wpAny_bind (Pp hS1 fun h1 dr I fp vs ks St kk hI hfp sv mem len hW st=>?_);have k1:∀ b o,s.heap.get? b=some o->h1.get? b=some o:=fun b o e=>kk b o (ZO _ e)
 have eS:=kk _ _ e1;have Qr:Shared.TypeIs { s with heap:=h1,drawn:=dr } (.ref a) "set":=by
  obtain ⟨o,es,ep,t,ho,ex,r⟩:=hS;exact ⟨o,k1 _ _ ho,ex.1⟩
 have szI:(s.heap.push { cls:=.type "list",data:=.seq ([]:List Value).toArray }).objs.size=s.heap.objs.size + 1:=size_push' ..;have nf:s.heap.objs.size ∉ fp:=fun z=>by
  rcases hfp _ z with e | e
  ·exact absurd e (bj lt)
  ·rw [szI] at e; exact absurd e (Nat.not_le_of_lt (aK _))
 have vl:vs.length=n:=by rw [sv.length]; exact len
 have key:∀ (h2:Heap) (c tk:Nat),St 0 h2->(∀ b o,b ≠ s.heap.objs.size->h1.get? b=some o->h2.get? b=some o)->h2.get? s.heap.objs.size=some { cls:=.type "list",data:=.seq #[] c } ->
   codeAny ap A (.builtin "list.extend.loop" ⟨[.ref s.heap.objs.size,.ref I,.ref s.heap.objs.size],[]⟩) (fun (q:Result) (s':Shared)=>∃ (h':Heap) (tk:Nat) (acc:Array Value) (c':Nat),q=.ok (.ret hU)/\s' = { s with heap:=h',toks:=tk,drawn:=dr } /\
    (∀ b o,s.heap.get? b=some o->h'.get? b=some o)/\h'.get? s.heap.objs.size=some { cls:=.type "list",dict:=none,data:=.seq acc c',slots:=#[] }/\ItemsOf (fun i v=>vs[i]? = some v) acc vs.length) { s with heap:=h2,toks:=tk,drawn:=dr }:=by
  intro h2 c tk Fs k2 g2;refine codeAny_extend_loopS (hW _ (by simp [hh])).toS (by rw [vl]; exact Zb) s.heap.objs.size nf hU vs.length 0 _ #[] c rfl (aJ _) Fs g2 (ItemsOf.nil _) fun s' acc c' m g' ia=>?_
  refine ⟨s'.heap,s'.toks,acc,c',rfl,?_,fun b o e=>?_,g',ia⟩
  ·rw [Moved.eq_with m]
  ·have lb:=ZW e;refine m.heap b o iu (k2 b o (ab lb) (k1 b o e));rcases ZZ.mp z with y | y
   ·exact ab lb y
   ·rw [aa.mp y] at lb;rw [szI] at hI;exact absurd lb (Nat.not_lt_of_le (Nat.le_of_succ_le hI))
 refine wpAny_mono (Q:=fun fin s'=>match fin with | .done f=>False | .again c'=>c'.quiet=true/\codeAny ap A c' (fun (q:Result) (s':Shared)=>∃ (h':Heap) (tk:Nat) (acc:Array Value) (c':Nat),q=.ok (.ret hU)/\s' = { s with heap:=h',toks:=tk,drawn:=dr } /\
    (∀ b o,s.heap.get? b=some o->h'.get? b=some o)/\h'.get? s.heap.objs.size=some { cls:=.type "list",dict:=none,data:=.seq acc c',slots:=#[] }/\ItemsOf (fun i v=>vs[i]? = some v) acc vs.length) s') (E:=fun _ _=>False) ?_ (fun fin s' x=>?_) fun e s' x=>x.elim
 ·refine wpAny_bind (wpAny_holding (Rt Qr fun b=>?_));refine wpAny_ite_split (fun _=>?_) (fun _=>wpAny_pure ⟨plainId_quiet PySem.F.plain_extend_loop _,key _ _ _ st (fun b o _ e=>e) eS⟩);refine wpAny_bind (wpAny_rule ?_);refine wpAny_bind ?_;show wpAny _ _ (updateSeq s.heap.objs.size (·.push .none) >>= fun _=>updateSeq s.heap.objs.size (·.pop)) _ _ _
  refine wpAny_bind (wpAny_updateSeq eS rfl ?_);have eS2:=aY (Obj.mapSeq (·.push Value.none)) eS rfl;refine wpAny_updateSeq (hz:=by seq_fits) eS2 rfl ?_;have eS3:=aY (Obj.mapSeq (·.pop)) eS2 rfl;have oth:∀ b o,b ≠ s.heap.objs.size->h1.get? b=some o->((h1.update s.heap.objs.size (Obj.mapSeq (·.push Value.none))).update s.heap.objs.size (Obj.mapSeq (·.pop))).get? b=some o:=fun b o hb e=>
   (aU _ _ (Ne.symm hb)).trans ((aU _ _ (Ne.symm hb)).trans e)
  refine wpAny_pure ⟨plainId_quiet PySem.F.plain_extend_loop _,key _ _ _ ?_ oth eS3⟩;exact (hW A (by simp [hh])).frame 0 _ _ st fun b hb o e=>oth b o (fun z=>nf (z ▸ hb)) e
 ·cases fin with
  | done f=>exact x.elim
  | again c₁=>
   refine ⟨x.1,codeAny_mono x.2 fun q E6 y=>?_⟩;obtain ⟨h',tk,acc,c',rfl,rfl,hk,OI,ia⟩:=y;show wpAny _ A (load s.heap.objs.size >>= _) _ _ _
   refine wpAny_bind (wpAny_load OI ?_);have:acc.toList=vs:=bZ (by rw [aH]; exact ia.1) fun i h1 h2=>by
    have h3:i < acc.size:=by simpa using h1
    have this:vs[i]? = some acc[i]:=ia.2 i acc[i] (by simp [h3]);rw [ZN h2] at this;simpa using (ar.inj this).symm
   refine wpAny_pure ?_;have q:=h h' tk dr vs ks hk sv mem len;rw [<-this] at q;exact q
theorem LK {a:Addr} {S:Str->Bool} {n:Nat} {Q:Value->Shared->Prop} (hh:A.handled=none) (hS:Dw prog w s.heap a S n) (Hz:n < 64)
  (h:∀ (h':Heap) (tk:Nat) (dr:Drawn) (l:Addr) (us:List Value) (e:Nat) (ss ks:List Str),(∀ b o,s.heap.get? b=some o->h'.get? b=some o)->s.heap.get? l=none->h'.get? l=some (seqObj "list" us.toArray e)->StrsAre us ss->ss.Perm ks->sortedS ss=true ->
   (∀ k,S k=true ↔ k ∈ ks)->ks.length=n->Q (.ref l) { s with heap:=h',toks:=tk,drawn:=dr }) :
  wpAny ap A (call iJ [.ref a]) Q E s:=by
 refine Calls.call_function_entry kind_sorted plain_sorted entry_sorted (args_sorted1 _) ?_;unfold Builtin.«sorted»;refine wpAny_bind (m:=checkCount "sorted" 1 1 _) gK;refine wpAny_bind (KR (A:=A.in1) hh hS fun h' tk dr vs ks hk sv mem len=>?_);have hl:vs.length=n:=by rw [sv.length]; exact len
 refine wpAny_bind (wpAny_newList ?_ (az (show vs.length<=64 by lia) bi));have g:(h'.push gY).get? h'.objs.size=some gY:=ZX _ rfl;show wpAny _ _ _ _ _ { s with heap:=h'.push gY,toks:=tk,drawn:=dr }
 refine wpAny_bind (wpAny_holding (wpAny_call_entry slot_list_sort ⟨_,g,rfl⟩ entry_list_sort (list_sort_treeK strKind_oneLt (s:={ s with heap:=h'.push gY,toks:=tk,drawn:=dr }) g sv.keysOf (fun Yw Yv CC e=>keyKind_strs (by rw [<-e]; exact sv)) (by rw [hl]; exact Hz) fun AN a1 a2=>⟨_,rfl,?_⟩) (args_list_sort _)));refine wpAny_pure ⟨_,rfl,?_⟩;obtain ⟨ss,b1,b2,b3⟩:=sorted_out_str sv a1 a2;obtain ⟨e,he⟩:=sortedHeap_at (out:=(arrOf AN).map (·.2)) g;refine h _ tk dr h'.objs.size ((arrOf AN).map (·.2)).toList e ss ks (fun b o q=>?_) ?_ (by rw [eY]; exact he) b1 b2 b3 mem len
 ·have q':=hk b o q;have lt:=ZW q';rw [sortedHeap_old (ab lt) (by rw [size_push']; exact aA lt)];exact ZO _ q'
 ·cases z:s.heap.get? h'.objs.size with
  | none=>rfl
  | some o=>exact absurd (ZW (hk _ _ z)) (ba _)
end
def SetW (P:Program) (w:World) (a:Addr) (S:Str->Bool) (n:Nat):HO:=.ext fun h=>Dw P w h a S n
theorem J7:isSubtype (.type "tuple") (.type "set")=pure false:=by rw [isSubtype_type]; kernel_rfl
theorem Fq:isSubtype (.type "tuple") (.type "frozenset")=pure false:=by rw [isSubtype_type]; kernel_rfl
def setS (P:Program) (w:World) (a:Addr) (ss:List Str):HO:=SetW P w a (fun k=>(ss.foldl step_dedup []).any (· == k)) (ss.foldl step_dedup []).length
theorem Tp {X:Cx} {pins:List cr} {σ:St} {H:Hp} {s:Shared} (I:Aq X pins σ H s) {h':Heap} {tk:Nat} {ss:List Str} (hS:Dw X.prog X.w h' s.heap.objs.size (fun k=>(ss.foldl step_dedup []).any (· == k)) (ss.foldl step_dedup []).length)
  (kk:∀ b o,s.heap.get? b=some o->h'.get? b=some o):Aq X pins σ (upd H s.heap.objs.size (setS X.prog X.w s.heap.objs.size ss)) { s with heap:=h',toks:=tk }:=by
 obtain ⟨oS,e1,e2,e3,hoS,CC⟩:=id hS;refine I.laid (a:=s.heap.objs.size) (o:=setS X.prog X.w s.heap.objs.size ss) (t':=tk) kk (ZU _) ⟨hS,⟨_,hoS⟩,fun h1 h2 z st=>?_⟩;exact z.kept fun o e=>st _ e
theorem M3 (K:ZP) {X:Cx} (hK:X.K=K) (hc:X.calm=true):Bo X (.type "set") (fun xs H Q=>∃ (a:Addr) (ss:List Str),xs=[.ref a]/\(AB K H a ic\/AI K H a ic)/\ss.length<=1000 /\
  ∀ D,H D=none->Q (.ref D) (upd H D (setS X.prog X.w D ss))):=by
 subst hK;intro pins s σ H xs us Q I r h;obtain ⟨a,ss,rfl,ha,hl,q⟩:=h;obtain ⟨u,rfl,ru⟩:=BV r;cases ru
 have txt:∀ As:List Value,A9 ic As->∀ (i:Nat) v,As.toArray[i]? = some v->∃ tk,v=.str (ss.getD i (Str.ofString "")) tk:=fun As rv i v e=>by
  have il:As.length=ss.length:=by rw [<-rv.length,ZM]
  have e':As[i]? = some v:=by simpa using e
  have hi:i < As.length:=(ZT.mp e').1;have e3:ic[i]? = some (.str ss[i]):=by rw [ZV,ZN ad]; rfl
  obtain ⟨v',e4,r4⟩:=rv.get e3;rw [e'] at e4;cases e4
  obtain ⟨t,rfl⟩:=r4;exact ⟨t,by simp [ai,ZN (show i < ss.length by lia)]⟩
 have fin:∀ As:List Value,A9 ic As->∀ (h':Heap) (tk:Nat),Dw X.prog X.w h' s.heap.objs.size (fun k'=>(met (fun i=>ss.getD i (Str.ofString "")) As.toArray.size).any (· == k')) (met (fun i=>ss.getD i (Str.ofString "")) As.toArray.size).length ->
   (∀ b o,s.heap.get? b=some o->h'.get? b=some o)->∃ v H',Aq X pins σ H' { s with heap:=h',toks:=tk }/\AA v hU/\Q v H':=fun As rv h' tk hS kk=>by
  have es:As.toArray.size=ss.length:=by rw [au,<-rv.length,ZM]
  rw [es,Mk] at hS;exact ⟨.ref s.heap.objs.size,_,Tp I hS kk,rfl,q _ (I.hok.fresh (ZU _))⟩
 have bnd:∀ As:List Value,A9 ic As->As.toArray.size + 1 < scanBound:=fun As rv=>by
  rw [au,<-rv.length,ZM];unfold scanBound;lia
 rcases ha with ha | ha
 ·obtain ⟨As,rv,pl,hz⟩:=I.list ha;have il:=pl.isList;obtain ⟨o,ho,hcl,n,hdat⟩:=id il;refine Og (items:=As.toArray) (val:=fun i=>ss.getD i (Str.ofString "")) (St:=fun I' i h=>h.IsListIter I' a i/\h.IsList a As.toArray) iG ho hcl bi F.sub_list_set F.sub_list_frozenset
   (fun B E' s1 Q' k q'=>wpAny_pyIter_list ⟨o,k _ _ ho,hcl,n,hdat⟩ q') (fun B I' hB ne=>Walks.list hB I' a ne As.toArray) (fun h k=>⟨⟨_,ZX _ rfl,rfl,rfl⟩,⟨o,ZO _ (k _ _ ho),hcl,n,hdat⟩⟩) (txt As rv) (bnd As rv) fun h' tk hS kk=>?_
  exact fin As rv h' tk hS kk
 ·obtain ⟨As,rv,pl,hz⟩:=I.tuple ha;obtain ⟨o,ho,hcl,n,hdat⟩:=id pl;refine Og (items:=As.toArray) (val:=fun i=>ss.getD i (Str.ofString "")) (St:=fun I' i h=>h.IsTupleIter I' a i/\h.IsTuple a As.toArray) iG ho hcl bi J7 Fq
   (fun B E' s1 Q' k q'=>wpAny_pyIter_tuple ⟨o,k _ _ ho,hcl,n,hdat⟩ q') (fun B I' hB ne=>Walks.tuple hB I' a ne As.toArray) (fun h k=>⟨⟨_,ZX _ rfl,rfl,rfl⟩,⟨o,ZO _ (k _ _ ho),hcl,n,hdat⟩⟩) (txt As rv) (bnd As rv) fun h' tk hS kk=>?_
  exact fin As rv h' tk hS kk
theorem FN (k:Str):∀ (ss σ:List Str),k ∈ ss.foldl step_dedup σ ↔ k ∈ σ\/k ∈ ss
 | [],σ=>by simp
 | x :: xs,σ=>by
  rw [gg,FN k xs];have:k ∈ step_dedup σ x ↔ k ∈ σ\/k=x:=by
   unfold step_dedup;split
   ·rename_i h
    rw [bY] at h;obtain ⟨y,hy,e⟩:=h;have e:=eq_of_beq e;subst e;exact ⟨.inl,fun z=>z.elim id fun e=>e ▸ hy⟩
   ·simp
  rw [this,ZZ];exact or_assoc
theorem Er:∀ (ss σ:List Str),σ.Nodup->(ss.foldl step_dedup σ).Nodup
 | [],σ,h=>h
 | x :: xs,σ,h=>by
  rw [gg];refine Er xs _ ?_;unfold step_dedup;split
  ·exact h
  ·rename_i hn
   refine aW.mpr ⟨h,by simp,fun a ha b hb e=>hn ?_⟩;rw [aa] at hb;subst hb e;exact bY.mpr ⟨_,ha,by simp⟩
theorem LV:∀ {l m:List Str},l.Nodup->(∀ x ∈ l,x ∈ m)->∃ r,m.Perm (l ++ r)
 | [],m,_,_=>⟨m,.refl _⟩
 | x :: l,m,nd,h=>by
  rw [aD] at nd;have p:=List.perm_cons_erase (h x gl);obtain ⟨r,pr⟩:=LV (m:=m.erase x) nd.2 fun y hy=>(fh (fun e:y=x=>nd.1 (e ▸ hy))).mpr (h y (ay _ hy))
  exact ⟨r,p.trans (pr.cons _)⟩
theorem RF {l m:List Str} (nd:l.Nodup) (h:∀ x ∈ l,x ∈ m) (e:m.length=l.length):m.Perm l:=by
 obtain ⟨r,p⟩:=LV nd h;have:=p.length_eq;rw [ZQ] at this;have:r=[]:=bp.mp ad;subst this;simpa using p
theorem Aq.drew {X:Cx} {pins:List cr} {σ:St} {H:Hp} {s:Shared} (I:Aq X pins σ H s) (dr:Drawn):Aq X pins σ H { s with drawn:=dr }:=
 ⟨I.ok,I.os,I.bare,I.base,I.loc,I.cell,I.free,I.freeC,I.pin,I.hok,I.len⟩
theorem HU {X:Cx} (hc:X.calm=true):Bo X iJ (fun xs H Q=>∃ (a:Addr) (ss:List Str),xs=[.ref a]/\H a=some (setS X.prog X.w a ss)/\ss.length < 64 /\
  ∀ (l:Addr) (Cm:List Str),H l=none->Cm.Nodup->(∀ k,k ∈ Cm ↔ k ∈ ss)->sortedS Cm=true->Q (.ref l) (upd H l iD)):=by
 intro pins s σ H xs us Q I r h;obtain ⟨a,ss,rfl,ha,Hz,q⟩:=h;obtain ⟨u,rfl,ru⟩:=BV r;cases ru
 have hS:Dw X.prog X.w s.heap a (fun k=>(ss.foldl step_dedup []).any (· == k)) (ss.foldl step_dedup []).length:=(I.hok a _ ha).1;have few:(ss.foldl step_dedup []).length<=ss.length:=by rw [<-Mk]; exact DK _ _
 refine LK iG hS ad fun h' tk dr l us e Cm ks k1 k2 k3 k4 k5 k6 k7 k8=>?_
 obtain ⟨m,hlm⟩:=id I.loc;obtain ⟨oL,esL,epL,hoL,rL⟩:=id hlm.1;have fl:H l=none:=by
  cases z:H l with
  | none=>rfl
  | some u=>
   obtain ⟨ob,e⟩:=AE.there (I.hok l u z);rw [k2] at e;cases e
 have mk:∀ k,k ∈ ks ↔ k ∈ ss:=fun k=>by
  rw [<-k7,bY];have:=FN k ss [];constructor
  ·rintro ⟨x,hx,e⟩;have e:=eq_of_beq e;subst e;exact (this.mp hx).resolve_left gl
  ·intro z;exact ⟨k,this.mpr (.inr z),by simp⟩
 have pm:ks.Perm (ss.foldl step_dedup []):=RF (Er ss [] bE) (fun x hx=>(mk x).mpr (((FN x ss []).mp hx).resolve_left gl)) k8;have I2:=I.laidF (h2:=h') (D:=l) (o:=.lst (Cm.map V.str)) hlm ⟨oL,esL,epL,k1 _ _ hoL,rL⟩ (fun b ob _ q=>k1 b ob q) k2 (fun z=>by rw [z,hoL] at k2; cases k2)
  ⟨by rw [ZM,k5.length_eq,k8,sizeLine_eq]; lia,us,e,Ie k4,k3⟩
 exact ⟨.ref l,_,(I2.kept (t':=tk) fun b u q=>q).drew dr,rfl,q l Cm fl (k5.nodup_iff.mpr (pm.nodup_iff.mpr (Er ss [] bE))) (fun k=>k5.mem_iff.trans (mk k)) k6⟩
end L2
namespace L2
open PySem PySem.Spec PySem.W PyProof.Rows
end L2
namespace L2
open PySem PySem.Spec PyProof.Rows
def Bn (l:List Str):Prop:=l.Pairwise fun a b=>a.cps.toList < b.cps.toList
theorem Bn.nodup {l:List Str} (h:Bn l):l.Nodup:=List.Pairwise.imp (fun {a b} z e=>by subst e; exact BZ _ z) h
theorem Bn.pw {l:List Str} (h:Bn l):l.Pairwise fun a b=>¬ b.cps.toList < a.cps.toList:=List.Pairwise.imp (fun {a b} z=>cK z) h
theorem Fo {l:List Str} (h:l.Pairwise fun a b=>¬ b.cps.toList < a.cps.toList) (nd:l.Nodup):Bn l:=by
 induction l with
 | nil=>exact .nil
 | cons x l ih=>
  rw [bB] at h;rw [aD] at nd;refine bB.mpr ⟨fun y hy=>?_,ih h.2 nd.2⟩;by_cases z:x.cps.toList < y.cps.toList
  ·exact z
  ·exact absurd (C4 (h.1 y hy) z) (fun e=>nd.1 (e ▸ hy))
theorem Dl:∀ {ss l:List Str},Bn ss->Bn l->(∀ s ∈ ss,s ∈ l)->ss.Sublist l
 | [],l,_,_,_=>de _
 | x :: ss,[],_,_,h=>absurd (h x gl) gl
 | x :: ss,y :: l,h1,h2,h=>by
  have Qs:=bB.mp h1;have US:=bB.mp h2;by_cases e:x=y
  ·subst e;refine (Dl Qs.2 US.2 fun s hs=>?_).cons₂ _;rcases ZZ.mp (h s (ay _ hs)) with rfl | z
   ·exact absurd (Qs.1 _ hs) (BZ _)
   ·exact z
  ·refine (Dl h1 US.2 fun s hs=>?_).cons _;rcases ZZ.mp (h s hs) with rfl | z
   ·have hx:=(ZZ.mp (h x gl)).resolve_left e;rcases ZZ.mp hs with rfl | hs
    ·exact absurd rfl e
    ·exact absurd (bN (Qs.1 _ hs) (US.1 _ hx)) (BZ _)
   ·exact z
theorem Bn.sub {ss l:List Str} (h:Bn l) (s:ss.Sublist l):Bn ss:=List.Pairwise.sublist s h
theorem Ej {ss Cm:List Str} (nd:Cm.Nodup) (mem:∀ k,k ∈ Cm ↔ k ∈ ss) (srt:sortedS Cm=true):Cm=ss ↔ Bn ss:=
 ⟨fun e=>e ▸ Fo (Cw srt) nd,fun h=>DR (Cw srt) h.pw (Hq nd h.nodup mem)⟩
def tyD:PyData->String
 | .none=>"NoneType"
 | .bool _=>"bool"
 | .int _=>"int"
 | .str _=>"str"
 | .list _=>"list"
 | .tuple _=>"tuple"
 | .dict _=>"dict"
theorem F8.ty {K:ZP} {H:Hp} {v:V} {d:PyData} (h:F8 H v d):Fc K H v (.type (tyD d)):=by
 cases h with
 | non=>exact .non
 | bl b=>exact .bl b
 | int i=>exact .int i
 | str x=>exact .str x
 | tup e _=>exact .tup e
 | lst e _=>exact .lst e
theorem F8.notStr {K:ZP} {H:Hp} {v:V} {d:PyData} (h:F8 H v d) (n:∀ s,d ≠ .str s):SD K H v:=by
 exists _,h.ty;cases d with
 | str s=>exact absurd rfl (n s)
 | _=>rfl
def NoTup (K:ZP) (H:Hp) (v:V):Prop:=∃ ty,Fc K H v ty/\di K ty (.type "tuple")=some false
theorem Ms:∀ (ss:List Str) (ds:List PyData),PyData.eqvAll (ss.map PyData.str) ds=true ↔ ds=ss.map PyData.str
 | [],[]=>by simp [PyData.eqvAll]
 | [],d :: ds=>by simp [PyData.eqvAll]
 | x :: ss,[]=>by simp [PyData.eqvAll]
 | x :: ss,d :: ds=>by
  rw [ag,PyData.eqvAll,aV,Ms ss ds];constructor
  ·rintro ⟨h,rfl⟩;cases d with
   | str y=>
    rw [PyData.eqv] at h;rw [eq_of_beq h]
   | _=>rw [PyData.eqv] at h; cases h
  ·intro e;injection e with e1 e2;subst e1;refine ⟨?_,e2⟩;rw [PyData.eqv];simp
theorem Mt (ss:List Str) (ds:List PyData):PyData.eqv (.list (ss.map PyData.str)) (.list ds)=true ↔ ds=ss.map PyData.str:=by
 rw [PyData.eqv]; exact Ms ss ds
theorem AU.len {H:Hp}:∀ {xs:List V} {ds:List PyData},AU H xs ds->xs.length=ds.length
 | _,_,.nil=>rfl
 | _,_,.cons _ r=>congrArg (· + 1) r.len
theorem AU.at {H:Hp}:∀ {xs:List V} {ds:List PyData},AU H xs ds->∀ {i:Nat} {v:V},xs[i]? = some v->∃ d,ds[i]? = some d/\F8 H v d
 | _,_,.nil,i,v,e=>by simp at e
 | _,_,.cons h r,0,v,e=>by
  simp only [b0,ar.injEq] at e;subst e;exact ⟨_,rfl,h⟩
 | _,_,.cons h r,i + 1,v,e=>by
  simp only [bU] at e;obtain ⟨d,e1,e2⟩:=r.at e;exact ⟨d,by simpa using e1,e2⟩
theorem AU.txt {H:Hp}:∀ {xs:List V} {ss:List Str},AU H xs (ss.map PyData.str)->xs=ss.map V.str
 | xs,[],h=>by cases h; rfl
 | xs,x :: ss,h=>by
  cases h with
  | cons h1 h2=>
   cases h1
   rw [h2.txt];rfl
def Ht:PyData->Bool
 | .str s=>Bq s
 | _=>false
theorem GG:∀ {ds:List PyData},(ds.map Ht).all id=true->∃ ss:List Str,ds=ss.map PyData.str/\∀ s ∈ ss,Bq s=true
 | [],_=>⟨[],rfl,fun s hs=>nomatch hs⟩
 | d :: ds,h=>by
  rw [ag,dM,aV] at h;obtain ⟨ss,rfl,hn⟩:=GG h.2;cases d with
  | str x=>exact ⟨x :: ss,rfl,fun s hs=>(ZZ.mp hs).elim (fun e=>e ▸ h.1) (hn s)⟩
  | _=>exact absurd (show false=true from h.1) bi
theorem KA {ss:List Str} (h:∀ s ∈ ss,Bq s=true):((ss.map PyData.str).map Ht).all id=true:=by
 rw [aE,dY,bH];exact fun s hs=>h s hs
theorem Eb {ss Cm:List Str} (h:ss.map PyData.str=Cm.map PyData.str):ss=Cm:=by
 induction ss generalizing Cm with
 | nil=>cases Cm with
  | nil=>rfl
  | cons _ _=>cases h
 | cons x ss ih=>cases Cm with
  | nil=>cases h
  | cons y Cm=>
   injection h with h1 h2;injection h1 with h1;rw [h1,ih h2]
theorem BP.dats {H:Hp} {us:List V} {fs:List iq} (h:BP H us fs):AU H us (fs.map fun f=>PyData.tuple (f.map PyData.str)):=by
 induction h with
 | nil=>exact .nil
 | cons e _ ih=>exact .cons (.tup e (C2 H _)) ih
def LH (K:ZP):Sp:=fun vs H Q _=>∃ (t:Addr) (xs:List V) (ds:List PyData),vs=[.ref t]/\(H t=some (.lst xs)\/H t=some gX)/\AU H xs ds/\(∀ s,PyData.str s ∈ ds->s.length<=1000)/\xs.length<=60 /\
 ∀ (b:Bool) (H':Hp),Ar H H'->(b=true ↔ ∃ ss:List Str,ds=ss.map PyData.str/\(∀ s ∈ ss,Bq s=true)/\Bn ss)->Q (.bl b) H'
def SF (sites:List Str) (x:V) (ds:List PyData):Prop:=∃ ss:List Str,ds=ss.map PyData.str/\ss ≠ []/\ss.Sublist sites/\CF x ss.length=true
def OP (H:Hp) (v:V) (ds:List PyData):Prop:=∃ (t:Addr) (xs:List V),v=.ref t/\H t=some gX/\AU H xs ds/\(∀ s,PyData.str s ∈ ds->s.length<=1000)/\xs.length<=60
def Ri (K:ZP):Sp:=fun vs H Q _=>∃ (c:Addr) (sites:List Str) (x:V) (d:PyData) (v:V),vs=[.ref c,v]/\OU H c sites x d/\Bn sites/\(∀ s ∈ sites,Bq s=true) /\
 ((∃ ds,OP H v ds/\∀ (b:Bool) (H':Hp),Ar H H'->(b=true ↔ SF sites x ds)->Q (.bl b) H')\/(NoTup K H v/\∀ H',Ar H H'->Q (.bl false) H'))
end L2
namespace HT
open PySem PySem.Spec PyProof.Rows
section
variable {prog:Program} {w:World} {A:Around} {E:Value->Shared->Prop} {s:Shared}
end
end HT
namespace L2
open PySem PySem.Spec PyProof.Rows
section
variable {X:Cx} {Φ:St->Hp->Prop} {a b:Expr} {pos:Pos} {n m:Nat}
end
section
variable {Φ:St->Hp->Prop} {n:Nat}
end
def oI:Option Int->V
 | none=>.non
 | some n=>.int n
def MV (H:Hp) (A:Addr) (G:Str->Str->Option V) (c:Nat):Prop:=∃ kvs:List gQ,H A=some ig/\kvs.length<=c/\∀ x y,Bm kvs [Sum.inr x,Sum.inr y]=G x y
theorem MV.same {H H':Hp} {A:Addr} {G:Str->Str->Option V} {c:Nat} (h:MV H A G c) (s:Ar H H'):MV H' A G c:=let ⟨kvs,a,b,d⟩:=h; ⟨kvs,s _ _ a,b,d⟩
theorem MV.up {H:Hp} {A:Addr} {G:Str->Str->Option V} {c c':Nat} (h:MV H A G c) (l:c<=c'):MV H A G c':=let ⟨kvs,a,b,d⟩:=h; ⟨kvs,a,az b l,d⟩
def MP (G:Str->Str->Option V) (x y:Str) (v:V):Str->Str->Option V:=fun a b=>if a=x/\b=y then some v else G a b
theorem MV.get {H:Hp} {A t:Addr} {G:Str->Str->Option V} {c:Nat} (h:MV H A G c) {x y:Str} (ht:H t=some (.tup [.str x,.str y])):BQ H A (.ref t) (G x y):=by
 obtain ⟨kvs,a,_,d⟩:=h;rw [<-d x y];exact BQ.t (k:=[Sum.inr x,Sum.inr y]) a ht
theorem MV.put {H:Hp} {A t:Addr} {G:Str->Str->Option V} {c:Nat} (h:MV H A G c) (hc:c < sizeLine) {x y:Str} {v:V} (ht:H t=some (.tup [.str x,.str y])):∃ H',DZ H A (.ref t) v H'/\MV H' A (MP G x y v) (c + 1)/\∃ kvs,H'=upd H A ig:=by
 obtain ⟨kvs,a,b,d⟩:=h;refine ⟨_,DZ.t (k:=[Sum.inr x,Sum.inr y]) a ht ad,⟨_,Ab,?_,fun p q=>?_⟩,_,rfl⟩
 ·have:=C1 kvs [Sum.inr x,Sum.inr y] v;lia
 ·rw [QM];unfold MP;by_cases e:p=x/\q=y
  ·obtain ⟨rfl,rfl⟩:=e;simp
  ·have e':¬ ([Sum.inr p,Sum.inr q]:List AF)=[Sum.inr x,Sum.inr y]:=fun z=>by
    simp only [cI.injEq,Sum.inr.injEq,and_true] at z;exact e z
   rw [if_neg e',if_neg e,d]
def MO (H:Hp) (A:Addr) (xs:List Str) (M:Str->Str->Option Int) (c:Nat):Prop:=∃ G,MV H A G c/\(∀ x ∈ xs,∀ y ∈ xs,G x y=some (oI (M x y)))/\∀ x y,¬ (x ∈ xs/\y ∈ xs)->G x y=none
theorem MO.same {H H':Hp} {A:Addr} {xs:List Str} {M:Str->Str->Option Int} {c:Nat} (h:MO H A xs M c) (s:Ar H H'):MO H' A xs M c:=let ⟨G,a,b⟩:=h; ⟨G,a.same s,b⟩
theorem MO.up {H:Hp} {A:Addr} {xs:List Str} {M:Str->Str->Option Int} {c c':Nat} (h:MO H A xs M c) (l:c<=c'):MO H A xs M c':=let ⟨G,a,b⟩:=h; ⟨G,a.up l,b⟩
theorem MO.get {H:Hp} {A t:Addr} {xs:List Str} {M:Str->Str->Option Int} {c:Nat} (h:MO H A xs M c) {x y:Str} (hx:x ∈ xs) (hy:y ∈ xs) (ht:H t=some (.tup [.str x,.str y])):BQ H A (.ref t) (some (oI (M x y))):=by
 obtain ⟨G,a,b,_⟩:=h;rw [<-b x hx y hy];exact a.get ht
theorem MO.put {H:Hp} {A t:Addr} {xs:List Str} {M:Str->Str->Option Int} {c:Nat} (h:MO H A xs M c) (hc:c < sizeLine) {x y:Str} (hx:x ∈ xs) (hy:y ∈ xs) {n:Int} (ht:H t=some (.tup [.str x,.str y])):∃ H',DZ H A (.ref t) (.int n) H'/\MO H' A xs (KS M x y n) (c + 1)/\∃ kvs,H'=upd H A ig:=by
 obtain ⟨G,a,b,d⟩:=h;obtain ⟨H',dp,mv,e⟩:=a.put hc (v:=.int n) ht;refine ⟨H',dp,⟨_,mv,fun p hp q hq=>?_,fun p q hn=>?_⟩,e⟩
 ·unfold MP KS;split
  ·rfl
  ·exact b p hp q hq
 ·unfold MP;rw [if_neg (fun z=>hn ⟨by rw [z.1]; exact hx,by rw [z.2]; exact hy⟩)];exact d p q hn
theorem MO.md {H:Hp} {A:Addr} {xs:List Str} {M:Str->Str->Option Int} {c:Nat} (h:MO H A xs M c) (full:∀ x ∈ xs,∀ y ∈ xs,∃ n,M x y=some n):MD H A (fun x y=>if x ∈ xs/\y ∈ xs then M x y else none) c:=by
 obtain ⟨G,⟨kvs,a,b,d⟩,e,f⟩:=h;refine ⟨kvs,a,b,fun x y=>?_⟩;rw [d x y];dsimp only;by_cases hxy:x ∈ xs/\y ∈ xs
 ·obtain ⟨n,hn⟩:=full x hxy.1 y hxy.2;rw [e x hxy.1 y hxy.2,if_pos hxy,hn];rfl
 ·rw [f x y hxy,if_neg hxy];rfl
open Classical in
noncomputable def dst (ws:List AG) (x y:Str):Int:=if h:∃ n,KG ws x y n then h.choose else 0
theorem KG.dst {ws:List AG} {x y:Str} {n:Int} (h:KG ws x y n):dst ws x y=n:=by
 unfold L2.dst;rw [dif_pos ⟨n,h⟩];exact KG.uniq (Exists.choose_spec (⟨n,h⟩:∃ n,KG ws x y n)) h
theorem Wg {K:ZP} {H:Hp} {a b:Addr} {xs ys:List V} {Q:VK} (ha:H a=some gX) (hb:H b=some (.tup ys)) (l:xs.length + ys.length<=sizeLine) (q:∀ T H',Ar H H'->H' T=some (.tup (xs ++ ys))->Q (.ref T) H'):MZ K (.ref a) (.ref b) H Q:=by
 refine ⟨a,b,xs,ys,rfl,rfl,AI.of ha,AI.of hb,l,fun e=>?_,fun _ e=>?_,fun _ _ T hT=>?_⟩
 ·refine q b H (Ar.refl _) ?_;rw [hb,e];rfl
 ·refine q a H (Ar.refl _) ?_;rw [ha,e,bc]
 ·exact q T _ (Ac hT) Ab
theorem Fd.get {H:Hp} {A t:Addr} {xs:List Str} {ws:List AG} {y z:Str} (h:Fd H A xs ws) (hy:y ∈ xs) (hz:z ∈ xs) (ht:H t=some (.tup [.str y,.str z])):BQ H A (.ref t) (some (.int (dst ws z y)))/\0<=dst ws z y/\dst ws z y < 2 ^ 300:=by
 obtain ⟨M,c,md,hm⟩:=h;obtain ⟨n,e,d,n0,n1⟩:=hm y hy z hz;have:=md.get ht;rw [e] at this;rw [d.symm.dst];exact ⟨this,n0,n1⟩
theorem Fd.dst {H:Hp} {A:Addr} {xs:List Str} {ws:List AG} {x y:Str} (h:Fd H A xs ws) (hx:x ∈ xs) (hy:y ∈ xs):KG ws x y (L2.dst ws x y):=by
 obtain ⟨M,c,md,hm⟩:=h;obtain ⟨n,_,d,_⟩:=hm x hx y hy;rw [d.dst];exact d
theorem Mi {rs:List BU} {ds:List Int} {i:Nat} {r:BU} {d:Int} (hr:rs[i]? = some r) (hl:ds.length=i):FF (rs.take gt) (ds ++ [d])=FF (rs.take i) ds + r.2 * d:=by
 have hi:=(ZT.mp hr).1;unfold FF;rw [ax,hr];have e:(rs.take i).length=ds.length:=by rw [aM,hl]; lia
 show (g7 _ ((rs.take i ++ [r]).zip (ds ++ [d]))).sum=_
 rw [gh e,ZY,List.sum_append];simp
end L2
namespace L2
open PySem PySem.Builtin.Str PySem.StrLaws
end L2
namespace L2
open PySem PySem.Spec PyProof.Rows PySem.NumText
theorem JJ {X:Cx}:Bo X (.type "int") (fun xs H Q=>∃ (x:Str) (n:Int),xs=[.str x]/\PySem.intText? x=some n/\x.length<=640/\Q (.int n) H):=by
 intro pins s σ H xs us Q I r h;obtain ⟨x,n,rfl,e,l,q⟩:=h;obtain ⟨u,rfl,t,rfl⟩:=BV r;exact PySem.W.KIN.call_text e l ⟨.int n,H,I.tok _,⟨_,rfl⟩,q⟩
end L2
namespace L2
open PySem PySem.Spec PyProof.Rows
theorem RV {s:Str} (h:Bq s=true):s.length<=10:=by
 obtain ⟨_,l,_⟩:=Nn h;lia
section
variable {prog:Program} {w:World} {A:Around} {E:Value->Shared->Prop} {s:Shared}
end
section
variable {prog:Program} {w:World} {A:Around} {E:Value->Shared->Prop} {s:Shared}
end
end L2
namespace HT
open PySem PySem.Spec PyProof.Rows
section
variable {prog:Program} {w:World} {A:Around} {E:Value->Shared->Prop} {s:Shared}
end
end HT
namespace L2
open PySem PySem.Spec PyProof.Rows
theorem OP.strs {H:Hp} {o:Addr} {ss:List Str} (ho:H o=some (.tup ic)) (l:ss.length<=60) (sh:∀ s ∈ ss,s.length<=1000):OP H (.ref o) (ss.map PyData.str):=by
 refine ⟨o,_,rfl,ho,C2 H ss,fun s hs=>?_,by rw [ZM]; exact l⟩;obtain ⟨y,hy,e⟩:=ZR.mp hs;cases e
 exact sh _ hy
theorem Kn (K:ZP) {X:Cx} (h:X.K=K):E9 X (compareOp .NotIn) (fun x y H Q=>∃ p xs,y=.ref p/\(AB K H p xs\/AI K H p xs)/\EM x=true/\xs.all EM=true/\Q (.bl (!inV x xs)) H):=by subst h; exact Lf
def Rm:Sp:=fun vs H Q _=>∃ (c:Addr) (sites:List Str) (x:V) (d:PyData),vs=[.ref c]/\OU H c sites x d/\sites.length<=6 /\
 ∀ (H':Hp) (D:Addr) (us:List V) (os:List iq),Ar H H'->H D=none->H' D=some (.lst us)->BP H' us os->S9 sites x os->os.length<=1024->Q (.ref D) H'
section
variable {H:Hp} {c m o t T:Addr} {n:Nat} {xs:List Str} {ws:List AG} {An A6:List BU} {x:V} {d:PyData} {ss:List Str} {zs:List (Str × Str)} {qs:List BU} {lv:Int}
end
def Lb (a:Addr) (i l:Int):List V:=[.ref a,.int i,.int l]
theorem Ov (a:Addr) (i l:Int):J3 (Lb a i l) 0=some (.ref a):=rfl
theorem pn5_1 (a:Addr) (i l:Int):J3 (Lb a i l) 1=some (.int i):=rfl
theorem RD (a:Addr) (i l:Int):J3 (Lb a i l) 2=some (.int l):=rfl
def Dx (K:ZP) (H:Hp) (p:Addr):Prop:=∃ (a:Addr) (ns:List Int) (i l:Int),H p=some (.lst (Lb a i l))/\NC K H a (ns.map V.int)/\ns.length<=63/\0<=i/\0<=l
theorem Dx.ne {K:ZP} {H:Hp} {p q:Addr} (h:Dx K H p) (e:H q=none):q ≠ p:=by
 obtain ⟨a,ns,i,l,h,_⟩:=h;intro z; subst z; rw [h] at e; cases e
theorem NC.keep {K:ZP} {H H':Hp} {a p:Addr} {xs:List V} {ys:List V} (h:NC K H a xs) (hp:H p=some (.lst ys)) (k:Bl p H H'):NC K H' a xs:=by
 rcases h with ⟨ob,h⟩ | h
 ·refine .inl ⟨ob,k _ _ iu h⟩;subst z;rw [hp] at h;cases h
 ·exact .inr h
theorem Dx.same {K:ZP} {H H':Hp} {p:Addr} (h:Dx K H p) (s:Ar H H'):Dx K H' p:=by
 obtain ⟨a,ns,i,l,h,sc,r⟩:=h;exact ⟨a,ns,i,l,s _ _ h,sc.keep h (Bl.of_same s),r⟩
theorem Dx.other {K:ZP} {H:Hp} {p D:Addr} {ys zs:List V} (h:Dx K H p) (hD:H D=some (.lst ys)) (ne:D ≠ p):Dx K (upd H D (.lst zs)) p:=by
 obtain ⟨a,ns,i,l,h,sc,r⟩:=h;refine ⟨a,ns,i,l,by rw [Af ne.symm]; exact h,?_,r⟩;rcases sc with ⟨ob,h'⟩ | h'
 ·refine .inl ⟨ob,?_⟩;rw [Af (by intro z; subst z; rw [hD] at h'; cases h')];exact h'
 ·exact .inr h'
theorem Dx.put {K:ZP} {H:Hp} {p a:Addr} {ns:List Int} {i l i' l':Int} (hp:H p=some (.lst (Lb a i l))) (sc:NC K H a (ns.map V.int)) (ln:ns.length<=63) (i0:0<=i') (l0:0<=l'):Dx K (upd H p (.lst (Lb a i' l'))) p:=
 ⟨a,ns,i',l',Ab,sc.keep hp Bl.upd,ln,i0,l0⟩
theorem EB {K:ZP} {H H':Hp} {p:Addr} (hP:Dx K H p) (k:Bl p H H'):∀ b ys,H b=some (.tup ys)->H' b=some (.tup ys):=fun b ys z=>k b _ (by
 obtain ⟨_,_,_,_,q,_⟩:=hP;exact BM z q (fun y=>by cases y)) z
def Dc (K:ZP):Sp:=fun vs H Q _=>∃ (p:Addr) (m:Int),vs=[.ref p,.int m]/\Dx K H p/\0 < m/\m < 1073741824/\∀ (d:Int) (H':Hp),Dx K H' p->Bl p H H'->0<=d->d < m->Q (.int d) H'
def ML (K:ZP):Sp:=fun vs H Q _=>∃ p:Addr,vs=[.ref p]/\Dx K H p/\∀ (d:Int) (H':Hp),Dx K H' p->Bl p H H'->1<=d->d < 10 ^ 30->Q (.int d) H'
def Gb (K:ZP):Sp:=fun vs H Q _=>∃ (p:Addr) (n:Nat),vs=[.ref p,.int n]/\Dx K H p/\n<=26 /\
 ∀ (H':Hp) (D:Addr) (xs:List Str),Dx K H' p->Bl p H H'->H D=none->H' D=some (.lst ik)->xs.length=n->xs.Nodup->(∀ x ∈ xs,Bq x=true)->Q (.ref D) H'
def NY (K:ZP):Sp:=fun vs H Q _=>∃ (p e:Addr) (xs:List Str) (m:Nat),vs=[.ref p,.ref e,.int m]/\Dx K H p/\H e=some (.lst ik)/\e ≠ p/\xs.length<=30/\m<=xs.length /\
 ∀ (H':Hp) (D:Addr) (ys zs:List Str),Dx K H' p->Bl p H H'->H D=none->H' D=some (.lst (ys.map V.str))->(ys ++ zs).Perm xs->ys.length=m->sortedS ys=true->Q (.ref D) H'
def JM:Nat->Str
 | 0=>Str.empty
 | n + 1=>⟨(Array.replicate (n + 1) 48)⟩
theorem OE:∀ k:Fin 30,PySem.intText? (Str.ofString "1" ++ JM k.1)=some (10 ^ k.1)/\(JM k.1).length=k.1:=by decide +kernel
theorem QU:∀ k:Fin 30,1<=(10:Int) ^ k.1/\(10:Int) ^ k.1 + 10<=10 ^ 30:=by decide +kernel
theorem QH:∀ k:Fin 30,(⟨(gr k.1 (Str.ofString "0").cps).foldl (· ++ ·) #[]⟩:Str)=JM k.1:=by decide +kernel
theorem T6 {X:Cx}:E9 X (binaryOp .Mult) (fun x y H Q=>∃ n:Nat,x=.str (Str.ofString "0")/\y=.int n/\n < 30/\Q (.str (JM n)) H):=by
 intro pins s σ H x y v u Q I rx ry h;obtain ⟨n,rfl,rfl,hn,q⟩:=h;obtain ⟨t,rfl⟩:=rx;obtain ⟨t',rfl⟩:=ry;have big:1000<=sizeLine:=by decide
 match n,hn,q with
 | 0,_,q=>exact PySem.P.mul_str_none bi bi ⟨.str Str.empty,H,I.tok _,⟨_,rfl⟩,q⟩
 | 1,_,q=>
  refine PySem.P.mul_str bi (fun _ z=>by simp at z) (fun _ z=>by simp at z) ?_;rw [if_neg bi,if_pos gl];exact ⟨.str _,H,I,⟨_,rfl⟩,by rw [show Str.ofString "0"=JM 1 by decide +kernel]; exact q⟩
 | n + 2,hn,q=>
  have l1:(Str.ofString "0").length=1:=by decide +kernel
  have e:((n + 2:Nat):Int).toNat=n + 2:=rfl;refine PySem.P.mul_str (by rw [decide_eq_false ad,decide_eq_false ad]; rfl) (fun _ _=>?_) (fun _ _=>?_) ?_
  ·rw [l1];have:(1:Int)<=(2 ^ 63 - 1) / ((n + 2:Nat):Int):=by
    rw [Int.le_ediv_iff_mul_le ad];lia
   lia
  ·rw [l1,e];exact decide_eq_false (by show ¬ _; lia)
  ·rw [if_neg ad,if_neg (by rw [l1]; simp; lia),e,QH ⟨n + 2,hn⟩];refine ⟨?_,⟨.str _,H,I.tok _,⟨_,rfl⟩,q⟩⟩;have:=(OE ⟨n + 2,hn⟩).2;lia
theorem Hr {α β:Type} (f:α->β) {m out:List β} (p:m.Perm out):∀ xs:List α,m=xs.map f->∃ ys:List α,ys.Perm xs/\out=ys.map f:=by
 induction p with
 | nil=>
  intro xs e;cases xs with
  | nil=>exact ⟨[],.nil,rfl⟩
  | cons a xs=>cases e
 | cons a p ih=>
  intro xs e;cases xs with
  | nil=>cases e
  | cons b xs=>
   simp only [ag,cI.injEq] at e;obtain ⟨ys,h1,rfl⟩:=ih xs e.2;exact ⟨b :: ys,h1.cons b,by rw [e.1]; rfl⟩
 | swap a b l=>
  intro xs e;match xs,e with
  | [],e=>cases e
  | [_],e=>cases e
  | x :: y :: xs,e=>
   simp only [ag,cI.injEq] at e;exact ⟨y :: x :: xs,.swap _ _ _,by rw [e.1,e.2.1,e.2.2]; rfl⟩
 | trans p q Si Sh=>
  intro xs e;obtain ⟨ys,h1,e1⟩:=Si xs e;obtain ⟨zs,h2,e2⟩:=Sh ys e1;exact ⟨zs,h2.trans h1,e2⟩
theorem Cg {X:Cx}:Bo X iJ (fun xs H Q=>∃ (t:Addr) (x y:Str),xs=[.ref t]/\H t=some (.lst [.str x,.str y])/\∀ l,H l=none->Q (.ref l) (upd H l (.lst [.str (AY x y),.str (AZ x y)]))):=by
 intro pins s σ H xs us Q I r h;obtain ⟨t,x,y,rfl,ht,q⟩:=h;refine Ci (pins:=pins) s σ H _ us Q I r ⟨t,[x,y],rfl,AB.of ht,by show 2 < 64; decide,fun l Cm hl pm so=>?_⟩;have len:=pm.length_eq;match Cm,len with
 | [a,b],_=>
  obtain ⟨rfl,rfl⟩:=MH pm so;exact q l hl
def DW (u:AG):List AF:=[.inr (AY u.1 u.2.1),.inr (AZ u.1 u.2.1)]
def Qi (u:AG):List AF × V:=(DW u,.int u.2.2)
theorem IV {u v:AG} (e:DW u=DW v):Ea u v:=by
 unfold DW at e;simp only [cI.injEq,Sum.inr.injEq,and_true] at e;obtain ⟨e1,e2⟩:=e;unfold AY at e1;unfold AZ at e2;by_cases a:u.2.1.cps.toList < u.1.cps.toList <;> by_cases b:v.2.1.cps.toList < v.1.cps.toList
 ·rw [if_pos a,if_pos b] at e1;rw [if_neg (fun z=>BZ _ (bN a z)),if_neg (fun z=>BZ _ (bN b z))] at e2;exact .inl ⟨e2,e1⟩
 ·rw [if_pos a,if_neg b] at e1;rw [if_neg (fun z=>BZ _ (bN a z))] at e2;by_cases c:v.1.cps.toList < v.2.1.cps.toList
  ·rw [if_pos c] at e2;exact .inr ⟨e2,e1⟩
  ·rw [if_neg c] at e2;rw [e1,e2] at a;exact absurd a (BZ _)
 ·rw [if_neg a,if_pos b] at e1;rw [if_neg (fun z=>BZ _ (bN b z))] at e2;by_cases c:u.1.cps.toList < u.2.1.cps.toList
  ·rw [if_pos c] at e2;exact .inr ⟨e1,e2⟩
  ·rw [if_neg c] at e2;rw [<-e1,<-e2] at b;exact absurd b (BZ _)
 ·rw [if_neg a,if_neg b] at e1;by_cases c:u.1.cps.toList < u.2.1.cps.toList <;> by_cases d:v.1.cps.toList < v.2.1.cps.toList
  ·rw [if_pos c,if_pos d] at e2;exact .inl ⟨e1,e2⟩
  ·rw [if_pos c,if_neg d] at e2;rw [e1,e2] at c;exact absurd c (BZ _)
  ·rw [if_neg c,if_pos d] at e2;rw [<-e1,<-e2] at d;exact absurd d (BZ _)
  ·exact .inl ⟨e1,by rw [<-C4 a c,e1]; exact C4 b d⟩
theorem Oq {us:List AG} {x:AG} (no:∀ u ∈ us,¬ Ea u x):Bw (us.map Qi) (DW x) (.int x.2.2)=(us ++ [x]).map Qi:=by
 unfold Bw;rw [if_neg,ZY]
 ·rfl
 ·intro z;obtain ⟨q,hq,e⟩:=bY.mp z;obtain ⟨u,hu,rfl⟩:=ZR.mp hq;exact no u hu (IV (of_decide_eq_true e))
theorem valW {us:List AG} (sep:us.Pairwise fun u v=>¬ Ea u v) {u:AG} (hu:u ∈ us):Bm (us.map Qi) (DW u)=some (.int u.2.2):=by
 obtain ⟨v',h1,h2⟩:=L5 (bQ (f:=Qi) hu);rw [show Bm (us.map Qi) (DW u)=Bm (us.map Qi) (Qi u).1 from rfl];have e1:(Qi u).1=DW u:=rfl;obtain ⟨w,hw,e⟩:=ZR.mp h2;have ek:DW w=DW u:=congrArg Prod.fst e;have ev:V.int w.2.2=v':=congrArg Prod.snd e;have al:=IV ek;have same:w=u:=by
  by_cases z:w=u
  ·exact z
  ·obtain ⟨i,hi⟩:=bM hw;obtain ⟨j,hj⟩:=bM hu;obtain ⟨Uc,ei⟩:=ZT.mp hi;obtain ⟨JF,ej⟩:=ZT.mp hj;rcases gb i j with l | l | l
   ·exact absurd (by rw [ei,ej]; exact al) (bz.mp sep i j Uc JF l)
   ·subst l;rw [ei] at ej;exact absurd ej z
   ·refine absurd ?_ (bz.mp sep j i JF Uc l);rw [ei,ej];rcases al with ⟨a,b⟩ | ⟨a,b⟩
    ·exact .inl ⟨a.symm,b.symm⟩
    ·exact .inr ⟨b.symm,a.symm⟩
 subst same;rw [<-ev] at h1;exact h1
theorem Ta {us:List AG} {x:AG} (h:(Bm (us.map Qi) (DW x)).isSome=false):∀ u ∈ us,¬ Ea u x:=by
 intro u hu al;have ek:DW u=DW x:=by
  unfold DW;rcases al with ⟨a,b⟩ | ⟨a,b⟩
  ·rw [a,b]
  ·rw [a,b,Kq,Kr]
 obtain ⟨v',h1,_⟩:=L5 (bQ (f:=Qi) hu);have h2:Bm (us.map Qi) (DW u)=some v':=h1;rw [ek] at h2;rw [h2] at h;cases h
theorem Dx.dict {K:ZP} {H:Hp} {p D:Addr} {ys zs:List gQ} (h:Dx K H p) (hD:H D=some (.dT ys)):Dx K (upd H D (.dT zs)) p:=by
 obtain ⟨a,ns,i,l,h,sc,r⟩:=h;refine ⟨a,ns,i,l,by rw [Af (BM h hD (fun z=>by cases z))]; exact h,?_,r⟩;rcases sc with ⟨ob,h'⟩ | h'
 ·refine .inl ⟨ob,?_⟩;rw [Af (BM h' hD (fun z=>by cases z))];exact h'
 ·exact .inr h'
structure M5 (K:ZP) (H H':Hp) (p e W:Addr) (xs:List Str) (us:List AG):Prop where
 pn:Dx K H' p
 he:H' e=some (.lst ik)
 hw:H' W=some (.dT (us.map Qi))
 kp:Bl p H H'
 ne:e ≠ p
 nw:W ≠ p
 fw:H W=none
theorem M5.step {K:ZP} {H H' NJ:Hp} {p e W:Addr} {xs:List Str} {us:List AG} (h:M5 K H H' p e W xs us) (P:Dx K NJ p) (k:Bl p H' NJ):M5 K H NJ p e W xs us:=
 ⟨P,k _ _ h.ne h.he,k _ _ h.nw h.hw,h.kp.trans k,h.ne,h.nw,h.fw⟩
theorem M5.add {K:ZP} {H H':Hp} {p e W q:Addr} {xs:List Str} {us:List AG} (h:M5 K H H' p e W xs us) (hq:H' q=none) (o:HO):M5 K H (upd H' q o) p e W xs us:=
 h.step (h.pn.same (Ac hq)) (Bl.of_same (Ac hq))
theorem M5.put {K:ZP} {H H':Hp} {p e W:Addr} {xs:List Str} {us:List AG} (h:M5 K H H' p e W xs us) (KL:List AG):M5 K H (upd H' W (.dT (KL.map Qi))) p e W xs KL:=
 ⟨h.pn.dict h.hw,by rw [Af (BM h.he h.hw (fun z=>by cases z))]; exact h.he,Ab,fun b o hb z=>by rw [Af (Ai z h.fw)]; exact h.kp b o hb z,h.ne,h.nw,h.fw⟩
theorem VD {xs:List Str} {k:Nat} {ws:List AG} (h:HX xs k ws) (hn:xs.Nodup) {x y:Str} {n:Int} (hy:xs[k]? = some y):∀ u ∈ ws,¬ Ea u (x,y,n):=by
 intro u hu al;obtain ⟨i,j,a,b,c,d,_⟩:=h.of u hu;rcases al with ⟨_,e⟩ | ⟨e,_⟩
 ·have e':u.2.1=y:=e;rw [e'] at d;have:=FE hn d hy;lia
 ·have e':u.1=y:=e;rw [e'] at c;have:=FE hn c hy;lia
theorem QS {xs:List Str} {k:Nat} {ws:List AG} (h:HX xs k ws) (hn:xs.Nodup) {x y:Str} {n:Int} {i:Nat} (hi:i < k) (hx:xs[i]? = some x) (hy:xs[k]? = some y) (n1:1<=n):HX xs (k + 1) (ws ++ [(x,y,n)]):=
 h.more hn (ZT.mp hy).1 [i] gl (by intro z hz; rw [aa.mp hz]; exact hi) gl rfl (fun q u j e1 e2=>by
  cases q with
  | zero=>
   simp at e1 e2;subst e1 e2;exact ⟨hx,hy,n1⟩
  | succ q=>simp at e2)
theorem OV {xs:List Str} {us:List AG} {x y:Str} {n:Int} (h:Fb xs us) (hx:x ∈ xs) (hy:y ∈ xs) (ne:x ≠ y) (hn:1<=n) (no:∀ u ∈ us,¬ Ea u (x,y,n)):Fb xs (us ++ [(x,y,n)]):=by
 refine h.snoc hx hy ne hn fun u hu ⟨a,b⟩=>no u hu ?_
 have uu:=(h.1 u hu).2.2.1;rcases a with a | a <;> rcases b with b | b
 ·exact absurd (a.trans b.symm) ne
 ·exact .inl ⟨a.symm,b.symm⟩
 ·exact .inr ⟨b.symm,a.symm⟩
 ·exact absurd (a.trans b.symm) ne
def MK (K:ZP):Sp:=fun vs H Q _=>∃ (p e:Addr) (xs:List Str) (sh:Int),vs=[.ref p,.ref e,.int sh]/\Dx K H p/\H e=some (.lst ik)/\e ≠ p/\xs.Nodup/\(∀ x ∈ xs,Bq x=true)/\1<=xs.length/\xs.length<=26/\0<=sh/\sh < 4 /\
 ∀ (H':Hp) (m:Addr) (ps:List Str) (ws:List AG),Dx K H' p->Bl p H H'->ps.Perm xs->FQ H' m xs.length ps ws->Q (.ref m) H'
structure R5 (K:ZP) (H0 H':Hp) (p R:Addr) (rs:List BU) (vs:List V):Prop where
 pn:Dx K H' p
 kp:∀ b o,b ≠ p->b ≠ R->H0 b=some o->H' b=some o
 hR:H' R=some (.lst vs)
 dd:AU H' vs (rs.map DF)
 nR:R ≠ p
theorem R5.step {K:ZP} {H0 H' NJ:Hp} {p R:Addr} {rs:List BU} {vs:List V} (h:R5 K H0 H' p R rs vs) (P:Dx K NJ p) (k:Bl p H' NJ):R5 K H0 NJ p R rs vs:=
 ⟨P,fun b o hb F4 z=>k b o hb (h.kp b o hb F4 z),k _ _ h.nR h.hR,AM h.dd (EB h.pn k),h.nR⟩
theorem R5.add {K:ZP} {H0 H':Hp} {p R q:Addr} {rs:List BU} {vs:List V} (h:R5 K H0 H' p R rs vs) (hq:H' q=none) (o:HO):R5 K H0 (upd H' q o) p R rs vs:=
 h.step (h.pn.same (Ac hq)) (Bl.of_same (Ac hq))
theorem R5.app {K:ZP} {H0 H':Hp} {p R T:Addr} {rs:List BU} {vs:List V} {y:Str} {l:Int} (h:R5 K H0 H' p R rs vs) (hT:H' T=some (.tup [.str y,.int l])):R5 K H0 (upd H' R (.lst (vs ++ [.ref T]))) p R (rs ++ [(y,l)]) (vs ++ [.ref T]):=by
 refine ⟨h.pn.other h.hR h.nR,fun b o hb F4 z=>by rw [Af F4]; exact h.kp b o hb F4 z,Ab,?_,h.nR⟩;rw [ZY];refine Jo (AM h.dd fun b ys e=>?_) (.cons (Oj (u:=(y,l)) (by rw [Af (BM hT h.hR (fun z=>by cases z))]; exact hT)) .nil);rw [Af (BM e h.hR (fun z=>by cases z))];exact e
theorem Gi {xs ys zs:List Str} {rs:List BU} {lo:Int} (pm:(ys ++ zs).Perm xs) (nd:xs.Nodup) (rt:rs.map (·.1)=ys) (rl:∀ r ∈ rs,lo<=r.2/\r.2 < 10 ^ 30) (one:1<=rs.length) {ps:List Str} (pp:ps.Perm xs):Et ps lo rs:=
 ⟨fun r hr=>pp.mem_iff.mpr (pm.mem_iff.mp (bx _ (by rw [<-rt]; exact bQ hr))),by rw [rt]; exact (aW.mp (pm.nodup_iff.mpr nd)).1,rl,one⟩
structure Case5 (H:Hp) (c m:Addr) (n:Nat) (xs:List Str) (ws:List AG) (An A6:List BU) (x:V) (d:PyData):Prop where
 cw:Dv H c m n xs ws An A6 x d
 n9:n<=9
 l6:An.length<=6
 l8:A6.length<=8
 so1:sortedS gJ=true
 To:sortedS (A6.map (·.1))=true
def Oe (K:ZP):Sp:=fun vs H Q _=>∃ (p:Addr) (sh:Int),vs=[.ref p,.int sh]/\Dx K H p/\0<=sh/\sh < 4 /\
 ∀ (H':Hp) (c m:Addr) (n:Nat) (xs:List Str) (ws:List AG) (An A6:List BU) (x:V) (d:PyData),Dx K H' p->Bl p H H'->Case5 H' c m n xs ws An A6 x d->Q (.ref c) H'
def Oa:Sp:=fun vs H Q _=>∃ (m:Addr) (n:Nat) (xs:List Str) (ws:List AG),vs=[.ref m]/\FQ H m n xs ws/\1<=n/\n<=30/\∀ (H':Hp) (A:Addr),Ar H H'->H A=none->Fd H' A xs ws->Q (.ref A) H'
section
open PySem.SeqAt
open PySem.AutoSeq1 (wpAny_loadPart')
open PySem.MeetsSeq PySem.MeetsSeq2 PySem.MeetsSeq3
end
section
variable {X:Cx} {pins:List cr} {σ:St} {H:Hp} {s:Shared}
end
section
variable {prog:Program} {w:World} {A:Around} {R:Result->Shared->Prop} {I:Addr} {fp wr:List Addr} {n:Nat} {P:Nat->Value->Prop} {St:Nat->Heap->Prop} {g0:Heap} {kw:List (Str × Value)}
end
section
variable {prog:Program} {w:World} {A:Around} {E:Value->Shared->Prop} {s:Shared}
end
theorem N3 {X:Cx} {pins:List cr} {σ:St} {H:Hp} {s:Shared} {a b:Addr} {k:List AF} {v:V} {u r:Value} {kvs:List gQ} {A:Around} {E:Value->Shared->Prop} {Q:Unit->Shared->Prop} (hu:A.units + 1 < cLine) (I:Aq X pins σ H s) (e:H a=some ig) (eb:H b=some (.tup (k.map kV))) (l:kvs.length < sizeLine) (ry:AA (.ref b) u) (rv:AA v r)
  (h:∀ s',Aq X pins σ (upd H a (.dT (Bw kvs k v))) s'->Q () s'):wpAny dL A (dictSet a u r) Q E s:=by
 cases (show u=Value.ref b from ry)
 obtain ⟨z,hd,xs,rel,dd⟩:=UX I.hok e;have hz:xs.length<=sizeLine:=by rw [<-Paired.length rel]; exact z
 have hl:(Bw kvs k v).length<=sizeLine:=by have:=C1 kvs k v; lia
 refine wpAny_dictSet_heap (hsz:=hz) (show _ from (show A.units < cLine by lia)) (FI I.hok eb) dd fun h' ME hs=>h _ ?_
 obtain ⟨q,es,ep,hq,h2,h3,h4,_,h5⟩:=ME;refine Gy I (by rw [e]; exact True.intro) hs ⟨q,hq⟩ ⟨hl,hd,_,(rel.put k eb rv).keeps fun c ys ec=>?_,q,es,ep,hq,h2,h3,h4,h5⟩;rw [Af (BM ec e (fun z=>nomatch z))];exact ec
def Ti (wi:TI) (g:TG) (tt:TT) (tk tv:TE) (σ0:St->St):TE:=fun σ H Q=>wi σ H fun J H1=>∀ D,H1 D=none->∃ W:Nat->Nat->St->Hp->Prop,(∃ m,W 0 m (σ0 σ) (upd H1 D (.dT []))) /\
 ∀ i m A2 H',W i m A2 H'->(J.stop i H'/\Q (.ref D) H')\/(J.go i H'/\∀ x H2,J.yld i H' x H2->g x A2 H2 fun Az H3=>tt Az H3 fun b H4=>
  if b=true then tk Az H4 (fun y H5=>tv Az H5 fun v H6=>∃ kvs k b,y=.ref b/\H6 b=some (.tup (k.map kV))/\H6 D=some ig/\kvs.length < sizeLine/\∃ m',m' < m/\W gt m' Az (upd H6 D (.dT (Bw kvs k v)))) else ∃ m',m' < m/\W gt m' Az H4)
theorem Kl {X:Cx} {tg iter kx vx:Expr} {ifs:List Expr} {scope:Scope} {cl:List io} {N:List Str} {pos:Pos} {wi:TI} {g:TG} {tt:TT} {tk tv:TE} {σ0:St->St} (hc:X.calm=true) (hu:X.A.units + 1 < cLine) (co:Cc X scope cl)
  (hσ:∀ σ,σ.length=X.N.length->C3 X cl scope N σ (σ0 σ)) (hi:PI X tg iter wi)
  (hb:∀ s2 H C fp,PG gN tg g/\Vc gN ifs tt/\PE gN kx tk/\PE gN vx tv)
  (hs:∀ x,foldedSetIterable iter X.env x=pure x:=by intro _; rfl):PE X h8 (Ti wi g tt tk tv σ0):=by
 intro pins s σ H Q I h;rw [arm_eval_DictComp];refine wpAny_comprehension_free (use:=none) rfl hs co.clos co.kind co.names (wpAny_mono (hi (pins:=pins) s σ H _ I h) im fun _ _ e=>e);obtain ⟨it,fp,tn,J,H2,rfl,I2,T,Fs,f2,hW⟩:=h2;refine wpAny_newObj_type h7;dsimp only at B9 Bt ⊢;generalize Je:s2.heap.push { cls:=.type "dict",dict:=none,data:=.dict #[] } = HH at B9 Bt ⊢;have B7:HH.objs.size=s2.heap.objs.size + 1:=by rw [<-Je,aT]
 have old:∀ b o,s2.heap.get? b=some o->h₁.get? b=some o:=fun b o e=>
  Bt.extBut b o (ab (by rw [B7]; exact aA (ZW e))) (ZO _ (Je ▸ ZO _ e))
 have newD:AE X.prog X.w (upd H2 s2.heap.objs.size (.dT [])) h₁ s2.heap.objs.size (.dT []):=
  let ⟨z,hd,vs,rel,o,es,ep,ho,r⟩:=Mw (P:=X.prog) (w:=X.w) (H:=upd H2 s2.heap.objs.size (.dT [])) s2.heap I2.big
  ⟨z,hd,vs,rel,o,es,ep,Bt.extBut _ _ (ab (by rw [B7]; exact aK _)) (ZO _ (Je ▸ ho)),r⟩
 obtain ⟨W,⟨m0,w0⟩,turn⟩:=hW s2.heap.objs.size I2.fresh;have hfo:∀ b ∈ fp,∃ o,s2.heap.get? b=some o:=fun b hb=>let ⟨o,e,_⟩:=T.obj _ _ Fs b hb; ⟨o,e⟩
 have I3:Aq be [] (σ0 σ) (upd H2 s2.heap.objs.size (.dT [])) { s2 with heap:=h₁,toks:=s2.toks + ([]:List (Str × Value)).length }:=
  EW I2 f2 hfo co (hσ σ I.len) old (ZU _) (by rw [B7]; exact aL _) (bj (by rw [B7]; exact aK _)) newD B9
 have fC:s2.heap.objs.size<=HH.objs.size:=by rw [B7]; exact aL _
 obtain ⟨hg,ht,hk,hv⟩:=hb s2 H2 HH.objs.size fp;have loop:∀ Cd:Shared,Cd = { s2 with heap:=h₁,toks:=s2.toks + ([]:List (Str × Value)).length } ->
   codeAny dL X.A (.compLoop h8 0 (.ref it) gW (compEnvC scope cl HH.objs.size X.env))
    (compPost dL X.A X.xe none (EP X pins σ Q) gW HH.objs.size) Cd:=by
  rintro Cd rfl;have stat:∀ {H':Hp} ,gT->∀ b ∈ fp,Ew be [] H' b:=fun hn b hb=>by
   refine iA
   ·obtain ⟨o,e⟩:=hfo b hb;exact ab iE
   ·intro hz;obtain ⟨_,q1,q2,_⟩:=f2 b hb;rcases ZZ.mp (I2.stkSub b hz) with e | e
    ·exact q1 e
    ·exact q2 e
   ·exact fun x c e=>(f2 b hb).2.2.2.2.1 x c (co.sub x c e)
  refine BO (fun n s'=>∃ i A2 H',Aq be [] A2 H' s'/\tn i s'.heap/\gT/\W i n A2 H') ?_ m0
   ⟨0,σ0 σ,_,I3,T.keep _ _ _ Fs fun b hb o e=>old b o e,fun b hb=>?_,w0⟩
  ·rintro n s4 ⟨i,FV,H4,I4,LG,Mq,w4⟩;rcases turn i n FV H4 w4 with ⟨stop,qn⟩ | ⟨go,step⟩
   ·refine wpAny_mono (T.done be rfl rfl rfl hc i [] s4 FV H4 (fun _ _=>False) I4 (stat Mq) LG stop) (fun r s5 ⟨hr,I5⟩=>?_) fun _ _ z=>z.elim
    subst hr;obtain ⟨m5,Sl,_⟩:=id I5.loc;exact ⟨m5,Sl,fun h' Kw=>⟨.ref _,H4,EX I2 f2 fC I5 Kw,rfl,qn⟩⟩
   ·refine wpAny_mono (T.item be rfl rfl rfl hc i [] s4 FV H4 (fun _ _=>False) I4 (stat Mq) LG go) (fun r s5 ⟨u,hr,h5⟩=>?_) fun _ _ z=>z.elim
    subst hr;refine wpAny_mono h5 (fun _ s6 ⟨x,H6,I6,r6,y6,Im,Sx⟩=>?_) fun _ _ z=>z.elim
    have SG:=I6.pinned (stat Sx) (T.obj _ _ Im);refine wpAny_mono (hg s6 FV H6 x u _ SG r6 (step x H6 y6)) (fun _ s7 ⟨Ex,H7,I7,q7⟩=>?_) fun _ _ z=>z.elim
    refine wpAny_mono (ht s7 Ex H7 _ I7 q7) (fun ok s8 ⟨H8,I8,q8⟩=>?_) fun _ _ z=>z.elim
    have again:∀ {s9:Shared} {FU:St} {H9:Hp} ,Aq be ([] ++ DH fp s6.heap) FU H9 s9->(∃ m',m' < n/\W gt m' FU H9)->∃ m,m < n/\∃ i A2 H',Aq be [] A2 H' s9/\tn i s9.heap/\gT/\W i m A2 H':=fun {s9 FU H9} I9 n9=>by
     obtain ⟨m',hm,w9⟩:=n9;refine gM;obtain ⟨o,e,d⟩:=T.obj _ _ Im b hb;exact (I9.pin (b,o) (ae _ (ae _ (Bg hb e)))).2.1
    cases ok with
    | false=>
     rw [if_neg ah] at q8 ⊢;exact again I8 q8
    | true=>
     rw [if_pos rfl] at q8 ⊢;refine wpAny_mono (hk s8 Ex H8 _ I8 q8) (fun yk s9 ⟨k,H9,I9,r9,q9⟩=>?_) fun _ _ z=>z.elim
     refine wpAny_mono (hv s9 Ex H9 _ I9 q9) (fun yv Ts ⟨v,OS,SH,WN,kvs,key,b,ek,eb,hacc,hsz,R9⟩=>?_) fun _ _ z=>z.elim
     subst ek;exact N3 (X:=Ap X scope cl N s2 H2 HH.objs.size fp) hu SH hacc eb hsz r9 WN fun Wu XA=>again XA R9
  ·have z:=(f2 b hb).1;obtain ⟨o,e⟩:=hfo b hb;rw [Af (ab (ZW e))];exact z
 exact codeAny_compStart_dict (loop _ rfl) hV
section
variable {prog:Program} {w:World} {A:Around} {E:Value->Shared->Prop} {s:Shared}
theorem PH {it d:Addr} {i ep:Nat} {es:Array DictEntry} {key:Value} {Q:Option Value->Shared->Prop} (hit:s.heap.IsValIter it d i es.size ep)
  (hm:DO s.heap d es ep) (hx:es[i]?.map (·.val)=some key)
  (hQ:∀ h',h'.IsValIter it d gt es.size ep->Heap.SameBut it s.heap h'->Q (some key) { s with heap:=h' }) :
  wpAny ap A (pyNext (.ref it)) Q E s:=by
 obtain ⟨o,ho,hc,hd⟩:=id hit;obtain ⟨od,hod,hcd,hdd⟩:=id hm;unfold pyNext;refine wpAny_bind (wpAny_attempt (wpAny_callSpecial?_slot (name:=Str.ofString "__next__") hit.typeIs F.slot_dict_valueiterator_next
  (wpAny_call_entry F.slot_dict_valueiterator_next hit.typeIs F.entry_dict_valueiterator_next ?_ (F.args_dict_valueiterator_next_1 _))))
 refine wpAny_bind gK;refine wpAny_bind ?_;refine wpAny_bind ?_;first | refine wpAny_bind (wpAny_typeNameOfWhole_valiter hit.typeIs gK) | refine wpAny_bind (wpAny_typeNameOf_valiter hit.typeIs gK)
 refine wpAny_bind (wpAny_fieldsOf ho hd ?_);have hown:Builtin.Dict_items.ownsTuple "dict_valueiterator"=false:=by decide
 simp only [hown,aF,if_false];show wpAny _ _ (if (Value.ref d == Value.none)=true then _ else _) _ _ s
 rw [if_neg (show ¬ ((Value.ref d == Value.none)=true) from ah)];refine wpAny_bind gK;refine wpAny_bind (wpAny_dictEntries hod hdd ?_);have hsz:es.size=es.size:=rfl;rw [if_neg (by rw [hsz]; simp)];refine wpAny_bind gK;refine wpAny_bind (wpAny_dictEpoch hod hdd ?_);rw [if_neg gl];refine wpAny_pure ?_;have Sm:i < es.size:=by
  rcases dq i es.size with h | h
  ·exact h
  ·rw [cD h] at hx; cases hx
 have hkey:es[i].val=key:=by rw [b6 Sm] at hx; exact ar.inj hx
 simp only [show ¬ ((i:Int) < 0) from by lia,if_false,cZ,b6 Sm];refine wpAny_bind ?_;first | refine wpAny_bind (wpAny_typeNameOfWhole_valiter hit.typeIs gK) | refine wpAny_bind (wpAny_typeNameOf_valiter hit.typeIs gK)
 refine wpAny_bind (wpAny_isOneOf_valiter hit.typeIs ?_);show wpAny _ _ (setField (.ref it) 1 (rawInt ((i:Int) + 1)) >>= _) _ _ s
 refine wpAny_bind (wpAny_setField ho hd gl ?_);have JG:(s.heap.update it (Obj.mapFields (·.setIfInBounds 1 (rawInt ((i:Int) + 1))))).IsValIter it d gt es.size ep:=
  ⟨_,aY _ ho (Obj.isFreed_of_fields (Obj.data_mapFields hd _)),(Obj.cls_mapFields ..).trans hc,by rw [Obj.data_mapFields hd]; simp [rawInt]⟩
 refine wpAny_bind (wpAny_holding ?_);refine wpAny_bind (wpAny_isOneOf_valiter (s:={ s with heap:=s.heap.update it (Obj.mapFields (·.setIfInBounds 1 (rawInt ((i:Int) + 1)))) }) JG.typeIs ?_);refine wpAny_bind (wpAny_isOneOf_valiter (s:={ s with heap:=s.heap.update it (Obj.mapFields (·.setIfInBounds 1 (rawInt ((i:Int) + 1)))) }) JG.typeIs ?_);show wpAny _ _ (pure es[i].val) _ _ _
 exact wpAny_pure (wpAny_pure ⟨_,rfl,wpAny_pure (hkey ▸ hQ _ JG (Heap.SameBut.update ..))⟩)
theorem R7 {it d:Addr} {i ep:Nat} {es:Array DictEntry} {Q:Option Value->Shared->Prop} (hh:A.handled=none) (hit:s.heap.IsValIter it d i es.size ep)
  (hm:DO s.heap d es ep) (hx:es.size<=i)
  (hQ:∀ h',Heap.ExtBut it s.heap h'->Q none { s with heap:=h' }):wpAny ap A (pyNext (.ref it)) Q E s:=by
 obtain ⟨o,ho,hc,hd⟩:=id hit;obtain ⟨od,hod,hcd,hdd⟩:=id hm;unfold pyNext;refine wpAny_bind (wpAny_attempt (wpAny_callSpecial?_slot (name:=Str.ofString "__next__") hit.typeIs F.slot_dict_valueiterator_next
  (wpAny_call_entry F.slot_dict_valueiterator_next hit.typeIs F.entry_dict_valueiterator_next ?_ (F.args_dict_valueiterator_next_1 _))))
 refine wpAny_bind gK;refine wpAny_bind ?_;refine wpAny_bind ?_;first | refine wpAny_bind (wpAny_typeNameOfWhole_valiter hit.typeIs gK) | refine wpAny_bind (wpAny_typeNameOf_valiter hit.typeIs gK)
 refine wpAny_bind (wpAny_fieldsOf ho hd ?_);have hown:Builtin.Dict_items.ownsTuple "dict_valueiterator"=false:=by decide
 simp only [hown,aF,if_false];show wpAny _ _ (if (Value.ref d == Value.none)=true then _ else _) _ _ s
 rw [if_neg (show ¬ ((Value.ref d == Value.none)=true) from ah)];refine wpAny_bind gK;refine wpAny_bind (wpAny_dictEntries hod hdd ?_);have hsz:es.size=es.size:=rfl;rw [if_neg (by rw [hsz]; simp)];refine wpAny_bind gK;refine wpAny_bind (wpAny_dictEpoch hod hdd ?_);rw [if_neg gl];refine wpAny_pure ?_;have hge:es.size<=i:=hx;simp only [show ¬ ((i:Int) < 0) from by lia,if_false,cZ,cD hge];refine wpAny_bind ?_;first | refine wpAny_bind (wpAny_typeNameOfWhole_valiter hit.typeIs gK) | refine wpAny_bind (wpAny_typeNameOf_valiter hit.typeIs gK)
 show wpAny _ _ (setField (.ref it) 0 .none >>= _) _ _ s
 refine wpAny_bind (wpAny_setField ho hd gl ?_);show wpAny _ _ (newExc (.type "StopIteration") [] >>= _) _ _ _
 refine wpAny_bind ?_;simp only [newExc,newTuple];refine wpAny_bind (wpAny_newObj_type ?_ (by size_fits));refine wpAny_bind (m:=firstArgMember _ _) (wpAny_of_eq (a:=Value.none) (by first | rfl | (simp only [firstArgMember]; rfl)) ?_);refine wpAny_newObj_type ?_ (by size_fits);simp only [raiseNew];refine wpAny_bind (wpAny_handled ?_);rw [show A.in1.handled=none from hh];refine wpAny_bind (wpAny_pure (wpAny_throw ?_));refine wpAny_bind iw;exact wpAny_pure (hQ _ (((Heap.SameBut.update ..).extBut.push _).push _))
theorem IsValIter.at'' {h h':Heap} {it d:Addr} {i n ep:Nat} (x:h.IsValIter it d i n ep) (e:∀ o,h.get? it=some o->h'.get? it=some o):h'.IsValIter it d i n ep:=let ⟨o,a,b⟩:=x; ⟨o,e _ a,b⟩
theorem PF {v d:Addr} {es:Array DictEntry} {ep:Nat} {Q:Value->Shared->Prop} (hv:s.heap.IsValuesView v d) (hm:DO s.heap d es ep)
  (hQ:Q hU { s with heap:=s.heap.push { cls:=.type "dict_valueiterator",data:=.fields #[.ref d,.int 0 0,.int es.size 0,.int ep 0] } }) :
  wpAny ap A (pyIter (.ref v)) Q E s:=by
 obtain ⟨ov,hov,hcv,hdv⟩:=id hv;obtain ⟨o,ho,hc,hdat⟩:=id hm;refine wpAny_pyIter_slot hv.typeIs F.slot_dict_values_iter (wpAny_call_entry F.slot_dict_values_iter hv.typeIs F.entry_dict_values_iter ?_ (F.args_dict_values_iter_1 _));unfold Builtin.«dict_values.__iter__» Builtin.Dict_items.dictOf Builtin.Dict_items.newIterator;refine wpAny_bind (wpAny_pure (wpAny_bind (wpAny_bind (wpAny_field hov hdv (x:=.ref d) rfl gK))));refine wpAny_bind (wpAny_bind (wpAny_dictEntries ho hdat (wpAny_bind (wpAny_dictEpoch ho hdat ?_))));rw [show Builtin.Dict_items.ownsTuple "dict_valueiterator"=false by decide];simp only [aF,if_false];refine wpAny_newObj_type (wpAny_pure ⟨_,rfl,"dict_valueiterator",_,⟨_,ZX _ rfl,rfl⟩,F.slot_dict_valueiterator_next.lookup,?_⟩);simpa [rawInt] using hQ
theorem MY (hh:A.handled=none) (I d:Addr) (hne:d ≠ I) (es:Array DictEntry) (ep:Nat) :
  Walks prog w A I [I,d] [I] es.size (fun i v=>es[i]?.map (·.val)=some v) (fun i h=>h.IsValIter I d i es.size ep/\DO h d es ep) where
 sub:=fun b hb=>by simp at hb; simp [hb]
 frame:=fun _ _ _ st hk=>⟨IsValIter.at'' st.1 fun o e=>hk I gl o e,st.2.at' fun o e=>hk d gl o e⟩
 item:=fun i s Q E hi st hQ=>by
  have hx:es[i]?.map (·.val)=some es[i].val:=by rw [b6 hi]; rfl
  refine PH st.1 st.2 hx fun h' JG Kw=>?_
  exact hQ _ h' s.toks hx ⟨JG,st.2.at' fun o e=>Kw.extBut d o hne e⟩ fun b o hb e=>Kw.extBut b o (fun h=>hb (by simp [h])) e
 done:=fun s Q E st hQ=>R7 hh st.1 st.2 (ZU _) fun h' DB=>hQ h' s.toks fun b o hb e=>DB b o (fun h=>hb (by simp [h])) e
 self:=fun _ _ _ _ st hQ=>wpAny_pyIter_valiter st.1 hQ
theorem R6 {r d:Addr} {es:Array DictEntry} {ep:Nat}:fW prog w "dict_values" r d es.size (fun i v=>es[i]?.map (·.val)=some v) (fun h=>h.IsValuesView r d/\DO h d es ep) where
 type:=fun _ hm=>hm.1.typeIs
 there:=fun _ hm=>⟨let ⟨_,ho,_⟩:=hm.1; ZW ho,hm.2.lt⟩
 keep:=fun _ _ hm hk=>⟨let ⟨o,ho,x⟩:=hm.1; ⟨o,hk r (.inl rfl) o ho,x⟩,hm.2.at' fun o e=>hk d (.inr rfl) o e⟩
 notList:=by decide
 notTuple:=by decide
 hint:=fun _ _ _ _ hm hq=>PySem.W.kdl_hint_values hm.1.typeIs hq
 iter:=fun _ _ hh hm=>⟨_,_,(fun _ _ hq=>PF hm.1 hm.2 hq),MY hh _ d (ab hm.2.lt) es ep,⟨⟨_,ZX _ rfl,rfl,rfl⟩,hm.2.at' fun o e=>ZO _ e⟩⟩
end
def JQ (r d:Addr):HO:=.ext fun h=>h.IsValuesView r d
theorem JB {prog:Program} {w:World} (d:Addr) (hd:(d == sysModules)=false) :
  MeetsIn prog w (Builtin.«dict.values» ⟨[.ref d],[]⟩) (fun _ R s=>(∃ es ep,DO s.heap d es ep) /\
   R (.ok (.ret hU)) { s with heap:=s.heap.push { cls:=.type "dict_values",data:=.fields #[.ref d] } }):=
 .of_wp fun A R s ⟨⟨es,ep,hm⟩,h⟩=>by
  refine wpAny_bind ?_;unfold Builtin.Dict.noArgs;refine wpAny_bind (wpAny_notOrdered_dict hm.typeIs ?_);show wpAny _ _ (pure d) _ _ s
  refine wpAny_pure ?_;show wpAny _ _ (Builtin.Dict.showsAll d >>= _) _ _ s
  unfold Builtin.Dict.showsAll;rw [if_neg (by rw [hd]; exact ah)];refine wpAny_bind (wpAny_pure (wpAny_bind (wpAny_newObj_type (wpAny_pure ⟨_,rfl,h⟩))))
theorem Qe {X:Cx}:W8 X "dict.values" (fun x vs H Q=>∃ (d:Addr) (kvs:List gQ),x=.ref d/\vs=[]/\H d=some ig/\∀ r,H r=none->Q (.ref r) (upd H r (JQ r d))):=by
 intro pins s σ H x vs v us Q I rx rv h;obtain ⟨d,kvs,rfl,rfl,hd,q⟩:=h;cases rx
 cases rv
 obtain ⟨z,y,xs,rel,o,es,ep,h1,h2,h3,h4,h5⟩:=(show AE X.prog X.w H s.heap d ig from I.hok d _ hd)
 have rd:DO s.heap d es ep:=⟨o,h1,h2,h3⟩
 refine call_meetsIn PySem.F.slot_dict_values rd.typeIs PySem.F.entry_dict_values (PySem.F.args_dict_values_1 _) (JB d y) ⟨⟨es,ep,rd⟩,?_⟩;refine ⟨.ref s.heap.objs.size,_,I.laid (a:=s.heap.objs.size) (o:=JQ s.heap.objs.size d) (t':=s.toks) (fun _ _ e=>ZO _ e) (ZU _) ?_,rfl,q _ (I.hok.fresh (ZU _))⟩;refine ⟨⟨_,ZX _ rfl,rfl,rfl⟩,⟨_,ZX _ rfl⟩,fun h1 h2 ⟨o,a,b⟩ st=>⟨o,st _ a,b⟩⟩
theorem Ju {X:Cx} (hc:X.calm=true):Bo X (.type "list") (fun xs H Q=>∃ (r d:Addr) (kvs:List gQ),xs=[.ref r]/\H r=some (JQ r d)/\H d=some ig /\
  ∀ l,H l=none->Q (.ref l) (upd H l (.lst (kvs.map (·.2))))):=by
 intro pins s σ H xs us Q I r h;obtain ⟨rr,d,kvs,rfl,hr,hd,q⟩:=h;obtain ⟨u,rfl,ru⟩:=BV r;cases ru
 obtain ⟨z,y,xs,rel,o,es,ep,h1,h2,h3,h4,h5⟩:=(show AE X.prog X.w H s.heap d ig from I.hok d _ hd)
 have vw:s.heap.IsValuesView rr d:=(I.hok rr _ hr).1;have xl:xs.length=kvs.length:=(Paired.length rel).symm;have hlen:es.size=kvs.length:=by
  rw [<-aH,h4,ZM];exact xl
 refine PySem.W.kdl_call (R6 (es:=es) (ep:=ep)) iG ⟨vw,o,h1,h2,h3⟩ (by rw [hlen]; exact z) fun h' tk acc c' kk hl hacc=>?_
 have al:acc.toList.length=xs.length:=by
  rw [aH,hacc.1,<-aH,h4,ZM]
 have av:acc.toList=xs.map fun q=>q.2.2:=by
  refine bZ (by rw [al,ZM]) fun i i1 i2=>?_
  have e2:=hacc.2 i acc.toList[i] (by rw [<-b9]; exact ZN i1);dsimp only at e2;rw [<-b9,h4,ZV,ZN (by rw [<-al]; exact i1)] at e2;rw [bI];exact (ar.inj e2).symm
 have vals:∀ {l:List gQ} {m:List (List AF × Addr × Value)},Paired (fun (p:List AF × V) (q:List AF × Addr × Value)=>p.1=q.1/\H q.2.1=some (.tup (p.1.map kV))/\AA p.2 q.2.2) l m->A9 (l.map (·.2)) (m.map fun q=>q.2.2):=fun {l m} hp=>by
  induction hp with
  | nil=>exact .nil
  | cons a _ ih=>exact .cons a.2.2 ih
 have rv:=vals rel;rw [<-av] at rv;refine ⟨.ref s.heap.objs.size,_,I.laid (o:=.lst (kvs.map (·.2))) (t':=tk) kk (ZU _) ⟨by rw [ZM]; exact z,acc.toList,c',rv,by rw [eY]; exact hl⟩,rfl,q _ (I.hok.fresh (ZU _))⟩
def Be (ss op:List Str):List Str:=ss.filter fun s=>decide (s ∉ op)
abbrev Bz:=List Str × Option Str × Option Str
def E8 (s:Str):Bz:=(["open",s],none,some s)
def EN (h:Str):Bz:=(["shut",h],some h,none)
def FR (h s:Str):Bz:=(["swap",h,s],some h,some s)
def CI (ss op:List Str) (h:Str):List Bz:=EN h :: (Be ss op).map (FR h)
def Cj (ss op:List Str):List Bz:=(Be ss op).map E8 ++ op.flatMap (CI ss op)
def Bh (op:List Str) (out:Option Str):List Str:=op.filter fun h=>decide (some h ≠ out)
def B8 (op:List Str) (out more:Option Str) (zs:List Str):Prop:=zs.Perm (Bh op out ++ more.toList)/\sortedS zs=true
theorem B8.uniq {op:List Str} {out more:Option Str} {zs ys:List Str} (h:B8 op out more zs) (g:B8 op out more ys):zs=ys:=
 DR (Cw h.2) (Cw g.2) (h.1.trans g.1.symm)
def Bx (x:V) (op:List Str) (e:Bz):Bool:=!(Bh op e.2.1 ++ e.2.2.toList).isEmpty && CF x (Bh op e.2.1 ++ e.2.2.toList).length
def EO (ss:List Str) (x:V) (op:List Str):List Bz:=(Cj ss op).filter (Bx x op)
theorem Ek {ss op:List Str} {s:Str}:s ∈ Be ss op ↔ s ∈ ss/\s ∉ op:=by
 unfold Be;rw [aO];simp
theorem Qv {ss op:List Str} {e:Bz}:e ∈ Cj ss op ↔ (∃ s ∈ Be ss op,e=E8 s)\/∃ h ∈ op,e=EN h\/∃ s ∈ Be ss op,e=FR h s:=by
 unfold Cj CI;rw [ak,ZR,eD];constructor
 ·rintro (⟨s,a,b⟩ | ⟨h,a,b⟩)
  ·exact .inl ⟨s,a,b.symm⟩
  ·rcases ZZ.mp b with b | b
   ·exact .inr ⟨h,a,.inl b⟩
   ·obtain ⟨s,c,d⟩:=ZR.mp b;exact .inr ⟨h,a,.inr ⟨s,c,d.symm⟩⟩
 ·rintro (⟨s,a,b⟩ | ⟨h,a,b | ⟨s,c,d⟩⟩)
  ·exact .inl ⟨s,a,b.symm⟩
  ·exact .inr ⟨h,a,by rw [b]; exact aj⟩
  ·exact .inr ⟨h,a,ay _ (ZR.mpr ⟨s,c,d.symm⟩)⟩
structure Hf (ss op:List Str) (e:Bz):Prop where
 out:∀ h,e.2.1=some h->h ∈ op
 more:∀ s,e.2.2=some s->s ∈ ss/\s ∉ op
 any:e.2.1 ≠ none\/e.2.2 ≠ none
 key:e=match e.2.1,e.2.2 with
  | none,some s=>E8 s
  | some h,none=>EN h
  | some h,some s=>FR h s
  | none,none=>e
theorem ES {ss op:List Str} {e:Bz} (h:e ∈ Cj ss op):Hf ss op e:=by
 rcases Qv.mp h with ⟨s,a,rfl⟩ | ⟨h,a,rfl | ⟨s,b,rfl⟩⟩
 ·exact ⟨(fun h z=>nomatch z),(fun s' z=>by cases z; exact Ek.mp a),.inr (fun z=>nomatch z),rfl⟩
 ·exact ⟨(fun h' z=>by cases z; exact a),(fun s z=>nomatch z),.inl (fun z=>nomatch z),rfl⟩
 ·exact ⟨(fun h' z=>by cases z; exact a),(fun s' z=>by cases z; exact Ek.mp b),.inl (fun z=>nomatch z),rfl⟩
theorem Cp {α β:Type} {f:α->β} (inj:∀ a b,f a=f b->a=b):∀ {l:List α},l.Nodup->(l.map f).Nodup
 | [],_=>bE
 | a :: l,h=>by
  rw [aD] at h;rw [ag,aD];refine ⟨fun hm=>?_,Cp inj h.2⟩;obtain ⟨b,hb,e⟩:=ZR.mp hm;exact h.1 (by rw [<-inj _ _ e]; exact hb)
theorem ER {ss op:List Str} (sn:ss.Nodup) (on:op.Nodup):((Cj ss op).map (·.1)).Nodup:=by
 have hn:(Be ss op).Nodup:=sn.filter _;unfold Cj;rw [ZY,aW];refine ⟨?_,?_,fun a ha b hb=>?_⟩
 ·rw [aE];exact Cp (fun a b e=>by simpa [E8] using e) hn
 ·have key:∀ l:List Str,l.Nodup->((l.flatMap (CI ss op)).map (·.1)).Nodup:=fun l=>by
   induction l with
   | nil=>intro _; exact bE
   | cons h l ih=>
    intro hl;rw [aD] at hl;rw [cW,ZY,aW];refine ⟨?_,ih hl.2,fun a ha b hb=>?_⟩
    ·unfold CI;rw [ag,aD];exists fun hm=>?_
     ·obtain ⟨e,he,q⟩:=ZR.mp hm;obtain ⟨s,_,rfl⟩:=ZR.mp he;simp [EN,FR] at q
     ·rw [aE];exact Cp (fun a b e=>by simpa [FR] using e) hn
    ·rintro rfl;obtain ⟨e,he,q⟩:=ZR.mp ha;obtain ⟨e',DB,q'⟩:=ZR.mp hb;obtain ⟨h',hh',DB⟩:=eD.mp DB;have nhh:h ≠ h':=fun z=>hl.1 (by rw [z]; exact hh')
     rw [<-q'] at q;unfold CI at he DB;rcases ZZ.mp he with rfl | he <;> rcases ZZ.mp DB with rfl | DB
     ·exact nhh (by simpa [EN] using q)
     ·obtain ⟨s,_,rfl⟩:=ZR.mp DB;simp [EN,FR] at q
     ·obtain ⟨s,_,rfl⟩:=ZR.mp he;simp [EN,FR] at q
     ·obtain ⟨s,_,rfl⟩:=ZR.mp he;obtain ⟨s',_,rfl⟩:=ZR.mp DB;simp [FR] at q;exact nhh q.1
  exact key op on
 ·rintro rfl;obtain ⟨e,he,q⟩:=ZR.mp ha;obtain ⟨e',DB,q'⟩:=ZR.mp hb;obtain ⟨s,_,rfl⟩:=ZR.mp he;obtain ⟨h',hh',DB⟩:=eD.mp DB;rw [<-q'] at q;unfold CI at DB;rcases ZZ.mp DB with rfl | DB
  ·simp [E8,EN] at q;exact absurd q.1 gO
  ·obtain ⟨s',_,rfl⟩:=ZR.mp DB;simp [E8,FR] at q
theorem Dk {ss op:List Str} {x:V} (sn:ss.Nodup) (on:op.Nodup):((EO ss x op).map (·.1)).Nodup:=List.Nodup.sublist ((bO).map _) (ER sn on)
theorem B8.mem {op:List Str} {out more:Option Str} {zs:List Str} (h:B8 op out more zs) {z:Str}:z ∈ zs ↔ (z ∈ op/\some z ≠ out)\/more=some z:=by
 rw [h.1.mem_iff,ak];unfold Bh;rw [aO];simp only [decide_eq_true_eq,fG]
theorem B8.nodup {ss op:List Str} {e:Bz} {zs:List Str} (h:B8 op e.2.1 e.2.2 zs) (on:op.Nodup) (i:Hf ss op e):zs.Nodup:=by
 rw [h.1.nodup_iff,aW];refine ⟨on.filter _,?_,fun a ha b hb=>?_⟩
 ·cases e.2.2 with
  | none=>exact bE
  | some s=>exact bC _ _
 ·rintro rfl;have F4:e.2.2=some a:=fG.mp hb;exact (i.more a F4).2 (aO.mp ha).1
theorem B8.sub {ss op:List Str} {e:Bz} {zs:List Str} (h:B8 op e.2.1 e.2.2 zs) (os:∀ s ∈ op,s ∈ ss) (i:Hf ss op e):∀ z ∈ zs,z ∈ ss:=fun z hz=>by
 rcases h.mem.mp hz with ⟨a,_⟩ | a
 ·exact os z a
 ·exact (i.more z a).1
theorem B8.rising {ss op:List Str} {e:Bz} {zs:List Str} (h:B8 op e.2.1 e.2.2 zs) (on:op.Nodup) (i:Hf ss op e):Bn zs:=Fo (Cw h.2) (h.nodup on i)
theorem B8.isOp {ss op:List Str} {e:Bz} {zs:List Str} {x:V} (h:B8 op e.2.1 e.2.2 zs) (sr:Bn ss) (on:op.Nodup) (os:∀ s ∈ op,s ∈ ss) (i:Hf ss op e):SF ss x (zs.map PyData.str) ↔ Bx x op e=true:=by
 have len:=h.1.length_eq;have emp:zs=[] ↔ (Bh op e.2.1 ++ e.2.2.toList)=[]:=by rw [<-bp,len,bp]
 unfold SF Bx;rw [aV,<-len];constructor
 ·rintro ⟨ys,e1,e2,_,e4⟩;have:zs=ys:=Eb e1;subst this;refine ⟨?_,e4⟩;rw [cV,eO];exact fun z=>e2 (emp.mpr z)
 ·rintro ⟨a,b⟩;refine ⟨zs,rfl,fun z=>?_,Dl (h.rising on i) sr (h.sub os i),b⟩;rw [emp.mp z] at a;cases a
theorem B8.inj {ss op:List Str} {e e':Bz} {zs:List Str} (h:B8 op e.2.1 e.2.2 zs) (h':B8 op e'.2.1 e'.2.2 zs) (i:Hf ss op e) (i':Hf ss op e'):e=e':=by
 have o1:e.2.1=e'.2.1:=by
  have half:∀ {e e':Bz},B8 op e.2.1 e.2.2 zs->B8 op e'.2.1 e'.2.2 zs->Hf ss op e->Hf ss op e'->∀ a,e.2.1=some a->e'.2.1=some a:=fun {e e'} h h' i i' a ea=>by
   have ao:=i.out a ea;have na:a ∉ zs:=fun hz=>by
    rcases h.mem.mp hz with ⟨_,q⟩ | q
    ·exact q ea.symm
    ·exact (i.more a q).2 ao
   by_cases q:e'.2.1=some a
   ·exact q
   ·exact absurd (h'.mem.mpr (.inl ⟨ao,fun z=>q z.symm⟩)) na
  cases q:e.2.1 with
  | some a=>exact (half h h' i i' a q).symm
  | none=>
   cases q':e'.2.1 with
   | none=>rfl
   | some b=>rw [half h' h i' i b q'] at q; cases q
 have o2:e.2.2=e'.2.2:=by
  have half:∀ {e e':Bz},B8 op e.2.1 e.2.2 zs->B8 op e'.2.1 e'.2.2 zs->Hf ss op e->Hf ss op e'->∀ a,e.2.2=some a->e'.2.2=some a:=fun {e e'} h h' i i' a ea=>by
   rcases h'.mem.mp (h.mem.mpr (.inr ea)) with ⟨q,_⟩ | q
   ·exact absurd q (i.more a ea).2
   ·exact q
  cases q:e.2.2 with
  | some a=>exact (half h h' i i' a q).symm
  | none=>
   cases q':e'.2.2 with
   | none=>rfl
   | some b=>rw [half h' h i' i b q'] at q; cases q
 have k1:=i.key;have k2:=i'.key;obtain ⟨a,b,c⟩:=e;obtain ⟨a',b',c'⟩:=e';have o1':b=b':=o1;have o2':c=c':=o2;subst o1' o2';cases b with
 | none=>
  cases c with
  | none=>exact absurd i.any gl
  | some s=>rw [k1,k2]
 | some h=>
  cases c with
  | none=>rw [k1,k2]
  | some s=>rw [k1,k2]
def Cv (H:Hp) (op:List Str) (kvs:List gQ) (L:List Bz):Prop:=kvs.map (·.1)=L.map (fun e=>e.1.map Sum.inr) /\
 ∀ (i:Nat) kv e,kvs[i]? = some kv->L[i]? = some e->∃ t zs,kv.2=.ref t/\H t=some (.tup (zs.map V.str))/\B8 op e.2.1 e.2.2 zs
theorem Cv.len {H:Hp} {op:List Str} {kvs:List gQ} {L:List Bz} (h:Cv H op kvs L):kvs.length=L.length:=by
 have:=congrArg bK h.1;rwa [ZM,ZM] at this
theorem Cv.keep {H H':Hp} {op:List Str} {kvs:List gQ} {L:List Bz} (h:Cv H op kvs L) (s:∀ b xs,H b=some gX->H' b=some gX):Cv H' op kvs L:=
 ⟨h.1,fun i kv e e1 e2=>let ⟨t,zs,a,b,c⟩:=h.2 i kv e e1 e2; ⟨t,zs,a,s _ _ b,c⟩⟩
theorem Cv.nil {H:Hp} {op:List Str}:Cv H op [] []:=⟨rfl,fun i kv e e1=>by cases e1⟩
theorem Cv.snoc {H:Hp} {op:List Str} {kvs:List gQ} {L:List Bz} (h:Cv H op kvs L) {e:Bz} {t:Addr} {zs:List Str} (ht:H t=some (.tup (zs.map V.str))) (o:B8 op e.2.1 e.2.2 zs):Cv H op (kvs ++ [(e.1.map Sum.inr,.ref t)]) (L ++ [e]):=by
 refine ⟨by rw [ZY,ZY,h.1]; rfl,fun i kv e' e1 e2=>?_⟩;have l:=h.len;by_cases hi:i < kvs.length
 ·rw [aI hi] at e1;rw [aI ad] at e2;exact h.2 i kv e' e1 e2
 ·have VS:i=kvs.length:=by
   have:=(ZT.mp e1).1;rw [ZQ,aZ] at this;lia
  subst VS;rw [aG (ZU _),cF] at e1;rw [l,aG (ZU _),cF] at e2;cases e1
  cases e2
  exact ⟨t,zs,rfl,ht,o⟩
theorem Gv:∀ {a b:List Str},a.map (Sum.inr:Str->AF)=b.map Sum.inr->a=b
 | [],[],_=>rfl
 | [],_ :: _,e=>by cases e
 | _ :: _,[],e=>by cases e
 | x :: a,y :: b,e=>by
  rw [ag,ag] at e;injection e with e1 e2;injection e1 with e1;rw [e1,Gv e2]
theorem Cv.new {H:Hp} {op:List Str} {kvs:List gQ} {L:List Bz} (h:Cv H op kvs L) {k:List Str} (n:k ∉ L.map (·.1)) (v:V):Bw kvs (k.map Sum.inr) v=kvs ++ [(k.map Sum.inr,v)]:=by
 refine Iz v (L4 fun hm=>?_);rw [h.1] at hm;obtain ⟨e,he,q⟩:=ZR.mp hm;exact n (ZR.mpr ⟨e,he,Gv q⟩)
theorem Cv.val {H:Hp} {op:List Str} {kvs:List gQ} {L:List Bz} (h:Cv H op kvs L) (nd:(L.map (·.1)).Nodup) {i:Nat} {e:Bz} (he:L[i]? = some e):∃ t zs,Bm kvs (e.1.map Sum.inr)=some (.ref t)/\H t=some (.tup (zs.map V.str))/\B8 op e.2.1 e.2.2 zs:=by
 have hi:i < kvs.length:=by rw [h.len]; exact (ZT.mp he).1
 obtain ⟨t,zs,a,b,c⟩:=h.2 i _ e (ZN hi) he;refine ⟨t,zs,?_,b,c⟩;have kn:(kvs.map (·.1)).Nodup:=by
  rw [h.1,show (fun e:Bz=>e.1.map (Sum.inr:Str->AF))=(fun k:List Str=>k.map Sum.inr) ∘ (fun e:Bz=>e.1) from rfl,<-aE];exact Cp (fun a b e=>Gv e) nd
 refine HY (q:=i) kn ?_;rw [ZN hi];have k:=congrArg (fun l:List (List AF)=>l[i]?) h.1;rw [ZV,ZV,ZN hi,he] at k;have k':kvs[i].1=e.1.map Sum.inr:=ar.inj k;rw [<-k',<-a]
def oS:Option Str->V
 | none=>.non
 | some s=>.str s
def Kc:Sp:=fun vs H Q _=>∃ (o:Addr) (op:List Str) (out more:Option Str),vs=[.ref o,oS out,oS more]/\H o=some (.tup (op.map V.str))/\op.length<=30 /\
 ∀ (H':Hp) (t:Addr) (zs:List Str),Ar H H'->H t=none->H' t=some (.tup (zs.map V.str))->B8 op out more zs->Q (.ref t) H'
structure Ff (H:Hp) (c o m:Addr) (n:Nat) (xs:List Str) (ws:List AG) (An A6:List BU) (x:V) (d:PyData) (op:List Str):Prop where
 cw:Dv H c m n xs ws An A6 x d
 ri:Bn gJ
 ho:H o=some (.tup (op.map V.str))
 op:Lx gJ x op
theorem Ff.keepT {H H':Hp} {c o m:Addr} {n:Nat} {xs:List Str} {ws:List AG} {An A6:List BU} {x:V} {d:PyData} {op:List Str} (h:Ff H c o m n xs ws An A6 x d op) (t:∀ b ys,H b=some (.tup ys)->H' b=some (.tup ys)):Ff H' c o m n xs ws An A6 x d op:=⟨h.cw.keepT t,h.ri,t _ _ h.ho,h.op⟩
def NZ:Sp:=fun vs H Q _=>∃ (c o m:Addr) (n:Nat) (xs:List Str) (ws:List AG) (An A6:List BU) (x:V) (d:PyData) (op:List Str),vs=[.ref c,.ref o]/\Ff H c o m n xs ws An A6 x d op /\
 ∀ (H':Hp) (D:Addr) (kvs:List gQ),Ar H H'->H D=none->H' D=some ig->Cv H' op kvs (EO gJ x op)->Q (.ref D) H'
theorem Ar.free0 {H H':Hp} {a:Addr} (s:Ar H H') (h:H' a=none):H a=none:=by
 cases z:H a with
 | none=>rfl
 | some o=>rw [s _ _ z] at h; cases h
section
variable {X:Cx} {pins:List cr} {σ A2:St} {H H':Hp} {s2 s':Shared} {scope:Scope} {cl:List io} {N:List Str} {fp:List Addr} {C D:Addr} {h₁ h':Heap} {t':Nat}
end
theorem Bb {A B:Hp} {a:Addr} {o:HO} (s:Ar A B) (n:A a=none):Ar A (upd B a o):=fun b u e=>by rw [Af (Ai e n)]; exact s _ _ e
theorem Ol {J:It} {xs:List V} {S:Hp->Prop} {g:TG} {tt:TT} {tk tv:TE} {H:Hp} {σ0:St} {R:Addr->Hp->Prop} (ov:NF J xs S) (I:Addr->Nat->St->Hp->Prop)
  (h0:∀ D,H D=none->I D 0 σ0 (upd H D (.dT [])))
  (hs:∀ D i σ H',H D=none->I D i σ H'->S H')
  (turn:∀ D i σ H' x (B:St->V->V->Hp->Prop) (N:St->Hp->Prop),H D=none->xs[i]? = some x->I D i σ H'->(∀ Az y v H6,(∃ kvs k b,y=.ref b/\H6 b=some (.tup (k.map kV))/\H6 D=some ig/\kvs.length < sizeLine/\I D gt Az (upd H6 D (.dT (Bw kvs k v))))->B Az y v H6) ->
   (∀ Az H4,I D gt Az H4->N Az H4)->g x σ H' fun Az H3=>tt Az H3 fun b H4=>if b=true then tk Az H4 (fun y H5=>tv Az H5 fun v H6=>B Az y v H6) else N Az H4)
  (fin:∀ D σ H',H D=none->I D xs.length σ H'->R D H') :
  ∀ D,H D=none->∃ W:Nat->Nat->St->Hp->Prop,(∃ m,W 0 m σ0 (upd H D (.dT []))) /\
   ∀ i m A2 H',W i m A2 H'->(J.stop i H'/\R D H')\/(J.go i H'/\∀ x H2,J.yld i H' x H2->g x A2 H2 fun Az H3=>tt Az H3 fun b H4=>
    if b=true then tk Az H4 (fun y H5=>tv Az H5 fun v H6=>∃ kvs k b,y=.ref b/\H6 b=some (.tup (k.map kV))/\H6 D=some ig/\kvs.length < sizeLine/\∃ m',m' < m/\W gt m' Az (upd H6 D (.dT (Bw kvs k v)))) else ∃ m',m' < m/\W gt m' Az H4):=by
 intro D hD;exists fun i m σ H'=>m=xs.length - i/\i<=xs.length/\I D i σ H',⟨xs.length,rfl,aJ _,h0 D hD⟩
 rintro i m σ H' ⟨rfl,hi,p⟩;have s1:=hs D i σ H' hD p;by_cases B0:i < xs.length
 ·refine .inr ⟨ov.go i H' s1 B0,fun x H2 y=>?_⟩;obtain ⟨rfl,ex⟩:=ov.yld i H' x H2 s1 y;refine turn D i σ H2 x (fun Az y v H6=>∃ kvs k b,y=.ref b/\H6 b=some (.tup (k.map kV))/\H6 D=some ig/\kvs.length < sizeLine/\∃ m',m' < xs.length - i/\(m'=xs.length - gt/\i + 1<=xs.length/\I D gt Az (upd H6 D (.dT (Bw kvs k v))))) (fun Az H4=>∃ m',m' < xs.length - i/\(m'=xs.length - gt/\i + 1<=xs.length/\I D gt Az H4)) hD ex p (fun Az y v H6 ⟨kvs,k,b,a1,a2,a3,a4,a5⟩=>?_) fun Az H4 p4=>?_
  ·exact ⟨kvs,k,b,a1,a2,a3,a4,xs.length - gt,by lia,rfl,B0,a5⟩
  ·exact ⟨xs.length - gt,by lia,rfl,B0,p4⟩
 ·have e:i=xs.length:=by lia
  subst e;exact .inl ⟨ov.stop H' s1,fin D σ H' hD p⟩
theorem CQ {ss:List Str} {x:V} {op:List Str} (h:Lx ss x op) (nd:ss.Nodup):op.Nodup/\(∀ s ∈ op,s ∈ ss)/\(Be ss op).length + op.length<=ss.length:=by
 have on:=h.2.1.nodup nd;exists on,fun s hs=>h.2.1.subset hs
 have:(Be ss op ++ op).Nodup:=aW.mpr ⟨nd.filter _,on,fun a ha b hb e=>(Ek.mp ha).2 (e ▸ hb)⟩;have:=List.Nodup.length_le_of_subset this (fun s hs=>by
  rcases ak.mp hs with z | z
  ·exact (Ek.mp z).1
  ·exact h.2.1.subset z)
 rwa [ZQ] at this
theorem Qw {ss op:List Str}:(Cj ss op).length=(Be ss op).length + op.length * ((Be ss op).length + 1):=by
 unfold Cj;have:∀ l:List Str,(l.flatMap (CI ss op)).length=l.length * ((Be ss op).length + 1):=fun l=>by
  induction l with
  | nil=>simp
  | cons h l ih=>rw [cW,ZQ,ih,aB,gH,Nat.one_mul]; unfold CI; rw [aB,ZM]; lia
 rw [ZQ,ZM,this]
theorem Gw {ss op:List Str} {x:V} (h:Lx ss x op) (nd:ss.Nodup) (l:ss.length<=10):(Cj ss op).length < 64:=by
 rw [Qw];have:=(CQ h nd).2.2;have h1:∀ a b:Nat,a + b<=10->a + b * (a + 1) < 64:=fun a b hab=>by
  have ha:a<=10:=by lia
  have hb:b<=10 - a:=by lia
  have:b * (a + 1)<=(10 - a) * (a + 1):=cL _ hb;have k:a + (10 - a) * (a + 1) < 64:=by
   rcases a with _ | _ | _ | _ | _ | _ | _ | _ | _ | _ | _ | a <;> first | decide | lia
  lia
 exact h1 _ _ ad
theorem BW {ss:List Str} {i:Nat} {x:V} (h:ic[i]? = some x):∃ y,ss[i]? = some y/\x=.str y:=by
 rw [ZV] at h;cases q:ss[i]? with
 | none=>rw [q] at h; cases h
 | some y=>rw [q] at h; exact ⟨y,rfl,(ar.inj h).symm⟩
theorem Cv.mem_get {H:Hp} {op:List Str} {kvs:List gQ} {L:List Bz} (h:Cv H op kvs L) {i:Nat} {p:List AF × V} (e:kvs[i]? = some p):∃ x,L[i]? = some x/\p.1=x.1.map Sum.inr:=by
 have l:=h.len;have hi:=(ZT.mp e).1;exists L[i]'(by lia),ZN _;have k:=congrArg (fun l:List (List AF)=>l[i]?) h.1;rw [ZV,ZV,e,ZN ad] at k;exact ar.inj k
theorem EC {α β:Type} (f:α->β) {l:List α} {i:Nat} {a:α} (e:l[i]? = some a):(l.take gt).map f=(l.take i).map f ++ [f a]:=by rw [ax,e,ZY]; rfl
theorem JZ {α β:Type} (f:α->List β) {l:List α} {i:Nat} {a:α} (e:l[i]? = some a):(l.take gt).flatMap f=(l.take i).flatMap f ++ f a:=by
 rw [ax,e,fH];show _ ++ List.flatMap f [a]=_
 rw [cW,eE,bc]
theorem Jg {α β:Type} (f:α->List β) {l:List α} {i:Nat} {a:α} (e:l[i]? = some a):l.flatMap f=(l.take i).flatMap f ++ (f a ++ (l.drop gt).flatMap f):=by
 obtain ⟨hi,rfl⟩:=ZT.mp e;rw [<-cW,<-fH,eV,dw]
theorem DQ {α:Type} (f:α->Bool) {l:List α} {i:Nat} {a:α} (e:l[i]? = some a):(l.take gt).filter f=(l.take i).filter f ++ (if f a then [a] else []):=by
 rw [ax,e,bJ];show _ ++ List.filter f [a]=_
 rw [bT];cases f a <;> rfl
theorem Qc {α:Type} {a b:List α} {x:α} (h:(a ++ x :: b).Nodup):x ∉ a:=fun hx=>(aW.mp h).2.2 x hx x aj rfl
theorem Lq {ss op:List Str} {L R:List Bz} {e:Bz} (sn:ss.Nodup) (on:op.Nodup) (h:Cj ss op=L ++ e :: R):e.1 ∉ L.map (·.1):=by
 have:=ER sn on;rw [h,ZY,ag] at this;exact Qc this
theorem FL {α:Type} {l:List α} {i:Nat} {a:α} (e:l[i]? = some a):l=l.take i ++ a :: l.drop gt:=by
 obtain ⟨hi,rfl⟩:=ZT.mp e;rw [eV,dw]
theorem DC {X:Cx}:Bo X iJ (fun xs H Q=>∃ (t:Addr) (ss:List Str),xs=[.ref t]/\H t=some (.tup ic)/\ss.length < 64/\∀ (l:Addr) (Cm:List Str),H l=none->Cm.Perm ss->sortedS Cm=true->Q (.ref l) (upd H l iD)):=by
 intro pins s σ H xs us Q I r h;obtain ⟨t,ss,rfl,ht,Hz,q⟩:=h;obtain ⟨u,rfl,ru⟩:=BV r;cases ru
 obtain ⟨As,rv,pl,hz⟩:=I.tuple (AI.of ht);have hl:As.length=ss.length:=by rw [<-rv.length,ZM]
 refine LJ pl (NX rv) ad fun h' a out Cm e ha kp he h1 h2 h3=>?_
 exact ⟨.ref a,_,I.laid (o:=.lst (Cm.map V.str)) (t':=s.toks) kp ha ⟨by rw [ZM,h2.length_eq,sizeLine_eq]; lia,out.toList,e,Ie h1,by simpa using he⟩,rfl,q a Cm (I.hok.fresh ha) h2 h3⟩
def KC (H:Hp) (vs:List V) (ps:List (List Str × V)):Prop:=vs.length=ps.length/\∀ (i:Nat) v p,vs[i]? = some v->ps[i]? = some p->∃ t e,v=.ref t/\H t=some (.tup [.ref e,p.2])/\H e=some (.tup (p.1.map V.str))
theorem KC.nil {H:Hp}:KC H [] []:=⟨rfl,fun i v p e=>by cases e⟩
theorem KC.keep {H H':Hp} {vs:List V} {ps:List (List Str × V)} (h:KC H vs ps) (s:∀ b xs,H b=some gX->H' b=some gX):KC H' vs ps:=
 ⟨h.1,fun i v p e1 e2=>let ⟨t,e,a,b,c⟩:=h.2 i v p e1 e2; ⟨t,e,a,s _ _ b,s _ _ c⟩⟩
theorem KC.app {H:Hp} {vs us:List V} {ps qs:List (List Str × V)} (h:KC H vs ps) (g:KC H us qs):KC H (vs ++ us) (ps ++ qs):=by
 refine ⟨by rw [ZQ,ZQ,h.1,g.1],fun i v p e1 e2=>?_⟩;by_cases hi:i < vs.length
 ·rw [aI hi] at e1;rw [aI (by rw [<-h.1]; exact hi)] at e2;exact h.2 i v p e1 e2
 ·rw [aG ad] at e1;rw [aG (by rw [<-h.1]; lia),<-h.1] at e2;exact g.2 _ v p e1 e2
theorem KC.one {H:Hp} {t e:Addr} {p:List Str × V} (a:H t=some (.tup [.ref e,p.2])) (b:H e=some (.tup (p.1.map V.str))):KC H [.ref t] [p]:=by
 refine ⟨rfl,fun i v q e1 e2=>?_⟩;cases i with
 | zero=>cases e1; cases e2; exact ⟨t,e,rfl,a,b⟩
 | succ i=>simp at e1
theorem NL {α β:Type}:∀ {a:List α} {b:List β},a.length=b.length->(a.zip b).map (·.1)=a
 | [],[],_=>rfl
 | [],_ :: _,h=>by simp at h
 | _ :: _,[],h=>by simp at h
 | x :: a,y :: b,h=>by rw [dU,ag,NL (by simpa using h)]
theorem KJ {α β:Type}:∀ {a:List α} {b:List β},a.length=b.length->(a.zip b).map (·.2)=b
 | [],[],_=>rfl
 | [],_ :: _,h=>by simp at h
 | _ :: _,[],h=>by simp at h
 | x :: a,y :: b,h=>by rw [dU,ag,KJ (by simpa using h)]
def PyV (H:Hp) (y:V):Prop:=(∃ n,y=.int n)\/∃ (l:Addr) (ss:List Str),y=.ref l/\H l=some (.tup ic)
def MW (vs:List V) (ps:List (List Str × V)):List (V × List Str):=(vs.zip ps).map fun t=>(t.1,t.2.1)
theorem KC.zip_mem {H:Hp} {vs:List V} {ps:List (List Str × V)} (h:KC H vs ps) {t:V × (List Str × V)} (m:t ∈ vs.zip ps):∃ a e,t.1=.ref a/\H a=some (.tup [.ref e,t.2.2])/\H e=some (.tup (t.2.1.map V.str))/\t.2 ∈ ps:=by
 obtain ⟨i,hi,e⟩:=aq m;rw [gc] at e;have l:=h.1;rw [cN] at hi;have h1:vs[i]? = some t.1:=by rw [ZN ad,<-e]
 have h2:ps[i]? = some t.2:=by rw [ZN ad,<-e]
 obtain ⟨a,b,c,d,f⟩:=h.2 i _ _ h1 h2;exact ⟨a,b,c,d,f,ZS h2⟩
theorem KC.sort {H:Hp} {vs:List V} {ps:List (List Str × V)} (h:KC H vs ps) (hy:∀ p ∈ ps,PyV H p.2):(MW vs ps).map (·.1)=vs/\(∀ p ∈ MW vs ps,PxH H p.1 p.2)/\(MW vs ps).map (·.2)=ps.map (·.1)/\(MW vs ps).length=ps.length /\
  ∀ zs:List (V × List Str),zs.Perm (MW vs ps)->∃ qs,KC H (zs.map (·.1)) qs/\qs.Perm ps/\qs.map (·.1)=zs.map (·.2):=by
 unfold MW;exists ?_,?_,?_,?_
 ·rw [aE];exact NL h.1
 ·intro p hp;obtain ⟨t,ht,rfl⟩:=ZR.mp hp;obtain ⟨a,e,h1,h2,h3,h4⟩:=h.zip_mem ht;exact ⟨a,e,t.2.2,h1,h2,h3,hy _ h4⟩
 ·rw [aE];have:=congrArg (g7 (·.1)) (KJ h.1);rw [aE] at this;exact this
 ·rw [ZM,cN,h.1,Nat.min_self]
 ·intro zs pz;obtain ⟨m,pm,rfl⟩:=GB pz;refine ⟨m.map (·.2),⟨by rw [ZM,ZM,ZM],fun i v p e1 e2=>?_⟩,?_,by rw [aE,aE]; rfl⟩
  ·rw [aE,ZV] at e1;rw [ZV] at e2;cases q:m[i]? with
   | none=>rw [q] at e1; cases e1
   | some t=>
    rw [q] at e1 e2;cases e1
    cases e2
    obtain ⟨a,e,h1,h2,h3,_⟩:=h.zip_mem (pm.mem_iff.mp (ZS q));exact ⟨a,e,h1,h2,h3⟩
  ·have:=pm.map (·.2);rwa [KJ h.1] at this
theorem NT {H:Hp}:∀ (vs:List V) (Pz:Nat->List Str->Prop),(∀ (i:Nat) v,vs[i]? = some v->∃ t zs,v=.ref t/\H t=some (.tup (zs.map V.str))/\Pz i zs)->∃ os,BP H vs os/\∀ (i:Nat) zs,os[i]? = some zs->Pz i zs
 | [],_,_=>⟨[],.nil,fun i zs e=>by cases e⟩
 | v :: vs,Pz,h=>by
  obtain ⟨t,zs,rfl,ht,p⟩:=h 0 v rfl;obtain ⟨os,a,b⟩:=NT vs (fun i=>Pz gt) fun i v e=>h gt v e
  refine ⟨zs :: os,.cons ht a,fun i ys e=>?_⟩;cases i with
  | zero=>cases e; exact p
  | succ i=>exact b i ys e
theorem Cv.tups {H:Hp} {op:List Str} {kvs:List gQ} {L:List Bz} (h:Cv H op kvs L):∃ os,BP H (kvs.map (·.2)) os/\os.length=L.length/\∀ (i:Nat) e zs,L[i]? = some e->os[i]? = some zs->B8 op e.2.1 e.2.2 zs:=by
 obtain ⟨os,a,b⟩:=NT (H:=H) (kvs.map (·.2)) (fun i zs=>∀ e,L[i]? = some e->B8 op e.2.1 e.2.2 zs) fun i v e=>by
  rw [ZV] at e;cases q:kvs[i]? with
  | none=>rw [q] at e; cases e
  | some p=>
   rw [q] at e;obtain ⟨x,ex,_⟩:=h.mem_get q;obtain ⟨t,zs,h1,h2,h3⟩:=h.2 i p x q ex;refine ⟨t,zs,(ar.inj e).symm.trans h1,h2,fun e' DB=>?_⟩;rw [ex] at DB;cases DB
   exact h3
 refine ⟨os,a,?_,fun i e zs e1 e2=>b i zs e2 e e1⟩;rw [<-a.len,ZM,h.len]
theorem Nd {ss op:List Str} {x:V} {os:List iq} (sn:ss.Nodup) (on:op.Nodup) (l:os.length=(EO ss x op).length) (h:∀ (i:Nat) e zs,(EO ss x op)[i]? = some e->os[i]? = some zs->B8 op e.2.1 e.2.2 zs):os.Nodup:=by
 rw [cQ,bz];intro i j hi hj hij e;have nd:=Dk (x:=x) sn on;have i1:(EO ss x op)[i]? = some ((EO ss x op)[i]'(by lia)):=ZN _;have j1:(EO ss x op)[j]? = some ((EO ss x op)[j]'(by lia)):=ZN _;have a:=h i _ _ i1 (ZN hi);have b:=h j _ _ j1 (ZN hj);rw [e] at a;have mi:∀ {k:Nat} (hk:k < (EO ss x op).length),Hf ss op ((EO ss x op)[k]):=fun hk=>ES (aO.mp (bh hk)).1
 have:=a.inj b (mi _) (mi _);rw [cQ,bz] at nd;refine nd i j (by rw [ZM]; lia) (by rw [ZM]; lia) hij ?_;rw [bI,bI,this]
theorem Wa {ss op:List Str} {x:V} {e e':Bz} (sn:ss.Nodup) (on:op.Nodup) (h:e ∈ EO ss x op) (h':e' ∈ EO ss x op) (k:e.1=e'.1):e=e':=by
 have nd:=Dk (x:=x) sn on;obtain ⟨i,hi,rfl⟩:=aq h;obtain ⟨j,hj,rfl⟩:=aq h';rw [cQ,bz] at nd;rcases gb i j with q | q | q
 ·exact absurd (by rw [bI,bI,k]) (nd i j (by rw [ZM]; exact hi) (by rw [ZM]; exact hj) q)
 ·subst q; rfl
 ·exact absurd (by rw [bI,bI,k]) (nd j i (by rw [ZM]; exact hj) (by rw [ZM]; exact hi) q)
theorem B8.opn {ss op:List Str} {x:V} {e:Bz} {zs:List Str} (h:B8 op e.2.1 e.2.2 zs) (he:e ∈ EO ss x op) (on:op.Nodup) (os:∀ s ∈ op,s ∈ ss):W7 ss zs:=by
 obtain ⟨m,ok⟩:=aO.mp he;have i:=ES m;refine ⟨fun z=>?_,h.nodup on i,h.sub os i⟩;have l:=h.1.length_eq;rw [z] at l;unfold Bx at ok;rw [aV,cV,eO] at ok;exact ok.1 (bp.mp l.symm)
def Od:Sp:=fun vs H Q _=>∃ (c m A o:Addr) (n:Nat) (xs:List Str) (ws:List AG) (An A6:List BU) (x:V) (d:PyData) (ss:List Str),vs=[.ref c,.ref A,.ref o]/\Dv H c m n xs ws An A6 x d/\Fd H A xs ws/\H o=some (.tup ic)/\W7 gJ ss/\ss.length<=10 /\
 ∀ (H':Hp) (t:Int),Ar H H'->BS ws An A6 ss t->Q (.int t) H'
def Ob:Sp:=fun vs H Q _=>∃ (c o m:Addr) (n:Nat) (xs:List Str) (ws:List AG) (An A6:List BU) (x:V) (d:PyData) (op:List Str),vs=[.ref c,.ref o]/\Ff H c o m n xs ws An A6 x d op /\
 ∀ (H':Hp) (L:Addr) (vs:List V) (ps:List (List Str × V)),Ar H H'->H L=none->H' L=some (.lst vs)->KC H' vs ps->(ps.map (·.1)).Perm ((EO gJ x op).map (·.1))->(ps.map (·.1)).Pairwise (fun a b=>A5 (b.map CL.s) (a.map CL.s)=false) ->
  (∀ p ∈ ps,∃ e t zs,e ∈ EO gJ x op/\e.1=p.1/\p.2=.ref t/\H' t=some (.tup (zs.map V.str))/\B8 op e.2.1 e.2.2 zs)->Q (.ref L) H'
theorem PS.weak {X:Cx} {st:Stmt} {t t':TS} (h:PS X st t) (w:∀ D σ H,t' D σ H->t D σ H):PS X st t':=fun pins s σ H D I q=>h (pins:=pins) s σ H D I (w D σ H q)
theorem Mo {x:V} {j k:Nat} (h:CF x k=true) (l:j<=k):CF x j=true:=by
 unfold CF at h ⊢;split at h
 ·have:=of_decide_eq_true h;exact decide_eq_true ad
 ·rfl
theorem GJ {op:List Str}:Bh op none=op:=by
 unfold Bh;exact cO.mpr fun a _=>by simp
theorem okO {x:V} {op:List Str} {s:Str}:Bx x op (E8 s)=CF x (op.length + 1):=by
 unfold Bx E8;show (!(Bh op none ++ [s]).isEmpty && CF x (Bh op none ++ [s]).length)=_
 rw [GJ,ZQ,aZ];cases op <;> rfl
theorem okS {x:V} {op:List Str} {h:Str} (l:CF x op.length=true):Bx x op (EN h) = !(Bh op (some h)).isEmpty:=by
 unfold Bx EN;show (!(Bh op (some h) ++ []).isEmpty && CF x (Bh op (some h) ++ []).length)=_
 rw [bc,Mo (j:=(Bh op (some h)).length) l (aN _ _),dN]
theorem okW {x:V} {op:List Str} {h s:Str} (l:CF x op.length=true) (hm:h ∈ op):Bx x op (FR h s)=true:=by
 unfold Bx FR;show (!(Bh op (some h) ++ [s]).isEmpty && CF x (Bh op (some h) ++ [s]).length)=_
 have lt:(Bh op (some h)).length < op.length:=dy.mpr ⟨h,hm,by simp⟩;rw [ZQ,aZ,Mo l ad,dN];cases Bh op (some h) <;> rfl
def G8 (H:Hp) (op:List Str) (vs:List V) (L:List Bz):Prop:=∃ ps,KC H vs ps/\ps.map (·.1)=L.map (·.1)/\∀ p ∈ ps,∃ e t zs,e ∈ L/\e.1=p.1/\p.2=.ref t/\H t=some (.tup (zs.map V.str))/\B8 op e.2.1 e.2.2 zs
theorem G8.nil {H:Hp} {op:List Str}:G8 H op [] []:=⟨[],KC.nil,rfl,fun p hp=>nomatch hp⟩
theorem G8.keep {H H':Hp} {op:List Str} {vs:List V} {L:List Bz} (h:G8 H op vs L) (s:∀ b xs,H b=some gX->H' b=some gX):G8 H' op vs L:=by
 obtain ⟨ps,a,b,c⟩:=h;exact ⟨ps,a.keep s,b,fun p hp=>let ⟨e,t,zs,h1,h2,h3,h4,h5⟩:=c p hp; ⟨e,t,zs,h1,h2,h3,s _ _ h4,h5⟩⟩
theorem G8.app {H:Hp} {op:List Str} {vs us:List V} {L M:List Bz} (h:G8 H op vs L) (g:G8 H op us M):G8 H op (vs ++ us) (L ++ M):=by
 obtain ⟨ps,a,b,c⟩:=h;obtain ⟨qs,a',b',c'⟩:=g;refine ⟨ps ++ qs,a.app a',by rw [ZY,ZY,b,b'],fun p hp=>?_⟩;rcases ak.mp hp with hp | hp
 ·obtain ⟨e,t,zs,h1,h2⟩:=c p hp;exact ⟨e,t,zs,bx _ h1,h2⟩
 ·obtain ⟨e,t,zs,h1,h2⟩:=c' p hp;exact ⟨e,t,zs,ae _ h1,h2⟩
theorem G8.one {H:Hp} {op:List Str} {w k t:Addr} {e:Bz} {zs:List Str} (a:H w=some (.tup [.ref k,.ref t])) (b:H k=some (.tup (e.1.map V.str))) (c:H t=some (.tup (zs.map V.str))) (o:B8 op e.2.1 e.2.2 zs):G8 H op [.ref w] [e]:=
 ⟨[(e.1,.ref t)],KC.one (p:=(e.1,.ref t)) a b,rfl,fun p hp=>by rw [aa.mp hp]; exact ⟨e,t,zs,aj,rfl,rfl,c,o⟩⟩
theorem G8.len {H:Hp} {op:List Str} {vs:List V} {L:List Bz} (h:G8 H op vs L):vs.length=L.length:=by
 obtain ⟨ps,a,b,_⟩:=h;have:=congrArg bK b;rw [ZM,ZM] at this;rw [a.1,this]
theorem Jr {K:ZP} {H:Hp} {a b:Addr} {ys:List Str} {s:Str} {Q:VK} (ha:H a=some (.tup (ys.map V.str))) (hb:H b=some (.tup [.str s])) (l:ys.length<=30) (q:∀ (t:Addr) (H':Hp) (zs:List Str),Ar H H'->H' t=some (.tup (zs.map V.str))->zs.Perm (ys ++ [s])->sortedS zs=true->Q (.ref t) H') :
  MZ K (.ref a) (.ref b) H (fun v H1=>∃ (t:Addr) (ss:List Str),[v]=[V.ref t]/\H1 t=some (.tup ic)/\ss.length < 64/\∀ (l:Addr) (Cm:List Str),H1 l=none->Cm.Perm ss->sortedS Cm=true ->
   ∃ (p:Addr) (zs:List V),[V.ref l]=[V.ref p]/\((AB K (upd H1 l iD) p zs/\∀ t,(upd H1 l iD) t=none->Q (.ref t) (upd (upd H1 l iD) t (.tup zs)))\/(AI K (upd H1 l iD) p zs/\Q (.ref p) (upd H1 l iD)))):=by
 have big:1000 < sizeLine:=by decide
 refine Wg (K:=K) ha hb (by rw [ZM]; show ys.length + 1<=sizeLine; lia) fun T H' s' hT=>?_
 refine ⟨T,ys ++ [s],rfl,by rw [hT,ZY]; rfl,by rw [ZQ,aZ]; lia,fun l zs hl pz sz=>⟨l,zs.map V.str,rfl,.inl ⟨AB.of Ab,fun t ht=>?_⟩⟩⟩;exact q t _ zs (s'.trans ((Ac hl).trans (Ac ht))) Ab pz sz
theorem Ho:∀ (p:Str) (l:List Str),(p :: l).Pairwise (fun a b=>¬ b.cps.toList < a.cps.toList)->risingS p l=true
 | _,[],_=>rfl
 | p,x :: l,h=>by
  obtain ⟨h1,h2⟩:=bB.mp h;rw [Gj,aV,ltCps_eq];exact ⟨by simpa using h1 x aj,Ho x l h2⟩
theorem LM {l:List Str} (h:l.Pairwise fun a b=>¬ b.cps.toList < a.cps.toList):sortedS l=true:=by
 cases l with
 | nil=>rfl
 | cons p l=>exact Ho p l h
theorem MM {ss op l:List Str} (h:Bn ss) (o:op.Sublist ss) (s:l.Sublist op):sortedS l=true:=LM (h.sub (s.trans o)).pw
theorem Qx:∀ ys:List Str,(!PyData.eqv (.tuple (ys.map PyData.str)) (.tuple [])) = !ys.isEmpty
 | []=>rfl
 | _ :: _=>rfl
theorem JY {H:Hp} {c m:Addr} {n:Nat} {xs:List Str} {ws:List AG} {An A6:List BU} {x:V} {d:PyData} {ss:List Str} {t:Int} (cw:Dv H c m n xs ws An A6 x d) (o:W7 gJ ss) (l:ss.length<=10) (tt:BS ws An A6 ss t):0<=t/\t < 2 ^ 600:=by
 obtain ⟨ds,wd,rfl⟩:=tt;have a:=Q5 cw.ok1 bi o.2.2 ad;have sx:∀ s ∈ ss,s ∈ xs:=fun s hs=>by
  obtain ⟨r,hr,rfl⟩:=ZR.mp (o.2.2 s hs);exact cw.ok1.sub r hr
 have q:=KQ (B:=10 ^ 30 * 2 ^ 300) bi (l:=(A6.zip ds).map fun p=>p.1.2 * p.2) fun t ht=>by
  obtain ⟨p,hp,rfl⟩:=ZR.mp ht;obtain ⟨i,hi,ei⟩:=aq hp;rw [gc] at ei;rw [cN] at hi;have er:A6[i]? = some p.1:=by rw [ZN ad,<-ei]
  have ed:ds[i]? = some p.2:=by rw [ZN ad,<-ei]
  have rm:=ZS er;obtain ⟨⟨s,hs,hd⟩,_⟩:=wd.2 i _ _ er ed;have md:=wd.2 i _ _ er ed;have b:0<=p.2/\p.2 < 2 ^ 300:=by
   obtain ⟨k,w,k0,k1⟩:=cw.map.sums cw.n1 cw.n30 s (sx s hs) p.1.1 (cw.ok2.sub _ rm);exact ⟨hd.pos' fun u hu=>(cw.map.at'.wn u hu).2.2.1,dX (md.2 s hs k w) k1⟩
  have cb:=cw.ok2.lo _ rm;exact ⟨Int.mul_nonneg ad b.1,Int.mul_le_mul ad ad b.1 bi⟩
 have l2:=cw.l2;have zl:(A6.zip ds).length<=30:=by rw [cN]; lia
 rw [ZM] at q;have:((A6.zip ds).length:Int) * (10 ^ 30 * 2 ^ 300)<=30 * (10 ^ 30 * 2 ^ 300):=b7 ad bi;have c:(30:Int) * (10 ^ 30 * 2 ^ 300) < 2 ^ 500:=by decide
 have e:(2:Int) ^ 500 + 2 ^ 500<=2 ^ 600:=by decide +kernel
 unfold FF;refine ⟨by lia,cB ?_ e⟩;lia
def HZ (K:ZP):Sp:=fun vs H Q _=>∃ p:Addr,vs=[.ref p]/\Dx K H p /\
 ∀ (H':Hp) (T c o m:Addr) (n:Nat) (xs:List Str) (ws:List AG) (An A6:List BU) (x:V) (d:PyData) (op:List Str),Dx K H' p->Bl p H H'->H' T=some (.tup [.ref c,.ref o])->Ff H' c o m n xs ws An A6 x d op->Q (.ref T) H'
def JK (ws:List AG) (An A6:List BU) (x:V) (op zs:List Str):Prop:=∃ e t t0,e ∈ EO gJ x op/\B8 op e.2.1 e.2.2 zs/\BS ws An A6 zs t/\BS ws An A6 op t0/\t < t0 /\
 ∀ e' ∈ EO gJ x op,∀ JL t',B8 op e'.2.1 e'.2.2 JL->BS ws An A6 JL t'->A5 (Cf (t',e'.1)) (Cf (t,e.1))=false
def U5 (ws:List AG) (An A6:List BU) (x:V) (op:List Str):Prop:=∀ e ∈ EO gJ x op,∀ zs t t0,B8 op e.2.1 e.2.2 zs->BS ws An A6 zs t->BS ws An A6 op t0->t0<=t
def U4 (H:Hp) (ws:List AG) (An A6:List BU) (x:V) (op:List Str) (v:V):Prop:=(v=.non/\U5 ws An A6 x op)\/∃ t zs,v=.ref t/\H t=some (.tup (zs.map V.str))/\JK ws An A6 x op zs
theorem JK.uniq {ws:List AG} {An A6:List BU} {x:V} {op zs ys:List Str} (sn:(An.map (·.1)).Nodup) (on:op.Nodup) (h:JK ws An A6 x op zs) (g:JK ws An A6 x op ys):zs=ys:=by
 obtain ⟨e,t,t0,h1,h2,h3,h4,h5,h6⟩:=h;obtain ⟨e',t',Yz,g1,g2,g3,g4,g5,g6⟩:=g;have k:=Sd (Lk _ _ (g6 e h1 zs t h2 h3) (h6 e' g1 ys t' g2 g3));have ee:e=e':=Wa sn on h1 g1 (Prod.mk.inj k).2;subst ee;exact h2.uniq g2
theorem JK.not {ws:List AG} {An A6:List BU} {x:V} {op zs:List Str} (h:JK ws An A6 x op zs) (g:U5 ws An A6 x op):False:=by
 obtain ⟨e,t,t0,h1,h2,h3,h4,h5,h6⟩:=h;have:=g e h1 zs t t0 h2 h3 h4;lia
theorem B8.ne_op {ss op:List Str} {e:Bz} {zs:List Str} (h:B8 op e.2.1 e.2.2 zs) (i:Hf ss op e):zs ≠ op:=fun z=>by
 subst z;rcases i.any with a | a
 ·cases q:e.2.1 with
  | none=>exact a q
  | some b=>
   have bm:=i.out b q;rcases h.mem.mp bm with ⟨_,c⟩ | c
   ·exact c q.symm
   ·exact (i.more b c).2 bm
 ·cases q:e.2.2 with
  | none=>exact a q
  | some s=>exact (i.more s q).2 (h.mem.mpr (.inr q))
theorem Ig {t t':Int} {k k':List Str} (h:t < t'):A5 (Cf (t',k')) (Cf (t,k))=false:=by
 have:A5 (Cf (t,k)) (Cf (t',k'))=true:=by
  show (if CL.i t=CL.i t' then A5 _ _ else Dt (.i t) (.i t'))=true
  rw [if_neg (fun e=>by injection e with e; lia)];exact decide_eq_true h
 cases q:A5 (Cf (t',k')) (Cf (t,k)) with
 | false=>rfl
 | true=>exact absurd (Gs _ _ _ this q) (by rw [D9]; simp)
theorem B8.ops {ss op:List Str} {x:V} {e:Bz} {zs:List Str} (h:B8 op e.2.1 e.2.2 zs) (he:e ∈ EO ss x op) (sr:Bn ss) (on:op.Nodup) (os:∀ s ∈ op,s ∈ ss):Lx ss x zs:=by
 obtain ⟨m,ok⟩:=aO.mp he;have i:=ES m;obtain ⟨ys,e1,e2,e3,e4⟩:=(h.isOp (x:=x) sr on os i).mpr ok;have:zs=ys:=Eb e1;subst this;exact ⟨e2,e3,e4⟩
def LI:Sp:=fun vs H Q _=>∃ (c o m:Addr) (n:Nat) (xs:List Str) (ws:List AG) (An A6:List BU) (x:V) (d:PyData) (op:List Str),vs=[.ref c,.ref o]/\Ff H c o m n xs ws An A6 x d op /\
 ∀ (H':Hp) (v:V) (t0:Int),Ar H H'->BS ws An A6 op t0->U4 H' ws An A6 x op v->Q v H'
inductive EA (ws:List AG) (An A6:List BU) (x:V):List Str->List iq->Prop
 | end {op:List Str}:U5 ws An A6 x op->EA ws An A6 x op [op]
 | step {op zs:List Str} {r:List iq}:JK ws An A6 x op zs->EA ws An A6 x zs r->EA ws An A6 x op (op :: r)
def Iq:Sp:=fun vs H Q _=>∃ (c o m:Addr) (n:Nat) (xs:List Str) (ws:List AG) (An A6:List BU) (x:V) (d:PyData) (op:List Str),vs=[.ref c,.ref o]/\Ff H c o m n xs ws An A6 x d op /\
 ∀ (H':Hp) (L:Addr) (us:List V) (r:List iq),Ar H H'->H L=none->H' L=some (.lst us)->BP H' us r->EA ws An A6 x op r->r.length<=1024->Q (.ref L) H'
theorem TH {ss:List Str} {x:V} {ys:List Str} (h:Lx ss x ys) (sn:ss.Nodup) (l:ss.length<=10):ys.length<=10:=az h.2.1.length_le l
theorem NW:∀ {l:List Str},l.Nodup->∃ fs,NA l fs/\fs.length=2 ^ l.length
 | [],_=>⟨[[]],NA.nil,rfl⟩
 | a :: l,h=>by
  obtain ⟨fs,s,e⟩:=NW (aD.mp h).2;exists _,s.step (aD.mp h).1;rw [ZQ,ZM,e,aB,gG];lia
theorem Kh {ss:List Str} {x:V} {r:List iq} (sn:ss.Nodup) (l:ss.length<=10) (rn:r.Nodup) (h:∀ y ∈ r,Lx ss x y):r.length<=1024:=by
 obtain ⟨fs,s,e⟩:=NW sn;have a:=List.Nodup.length_le_of_subset rn (fun y hy=>(s.2 y).mpr (h y hy).2.1);have b:2 ^ ss.length<=2 ^ 10:=cM bi l;lia
theorem TR {t t':Int} {k k':List Str} (h:t < t'):A5 (Cf (t,k)) (Cf (t',k'))=true:=by
 show (if CL.i t=CL.i t' then A5 _ _ else Dt (.i t) (.i t'))=true
 rw [if_neg (fun e=>by injection e with e; lia)];exact decide_eq_true h
theorem EA.head {ws:List AG} {An A6:List BU} {x:V} {op:List Str} {r:List iq} (h:EA ws An A6 x op r):∃ l,r=op :: l:=by
 cases h with
 | «end» _=>exact ⟨[],rfl⟩
 | step _ _=>exact ⟨_,rfl⟩
theorem JK.ops {ws:List AG} {An A6:List BU} {x:V} {op zs:List Str} (h:JK ws An A6 x op zs) (sr:Bn gJ) (o:Lx gJ x op):Lx gJ x zs:=by
 obtain ⟨e,t,t0,h1,h2,_⟩:=h;obtain ⟨on,os,_⟩:=CQ o sr.nodup;exact h2.ops h1 sr on os
theorem EA.uniq {ws:List AG} {An A6:List BU} {x:V} (sr:Bn gJ):∀ {op:List Str} {r r':List iq},Lx gJ x op->EA ws An A6 x op r->EA ws An A6 x op r'->r=r':=by
 intro op r r' o h;induction h generalizing r' with
 | «end» bn=>
  intro g;cases g with
  | «end» _=>rfl
  | step bs _=>exact (bs.not bn).elim
 | step bs h ih=>
  intro g;cases g with
  | «end» bn=>exact (bs.not bn).elim
  | step bs' g=>
   have on:=(CQ o sr.nodup).1;have e:=bs.uniq sr.nodup on bs';subst e;rw [ih (bs.ops sr o) g]
theorem EA.at {ws:List AG} {An A6:List BU} {x:V} (sr:Bn gJ):∀ {op:List Str} {r:List iq},Lx gJ x op->EA ws An A6 x op r->∀ (k:Nat) y,r[k]? = some y->Lx gJ x y/\EA ws An A6 x y (r.drop k)/\(U5 ws An A6 x y ↔ k + 1=r.length)/\∀ z,r[k + 1]? = some z->JK ws An A6 x y z:=by
 intro op r o h;induction h with
 | «end» bn=>
  intro k y e;cases k with
  | zero=>cases e; exact ⟨o,.end bn,⟨fun _=>rfl,fun _=>bn⟩,fun z e=>by cases e⟩
  | succ k=>cases e
 | step bs h ih=>
  intro k y e;cases k with
  | zero=>
   cases e
   obtain ⟨l,rfl⟩:=h.head;exact ⟨o,.step bs h,⟨fun z=>(bs.not z).elim,fun z=>by simp at z⟩,fun z e=>by cases e; exact bs⟩
  | succ k=>
   rw [bU] at e;obtain ⟨a,b,c,d⟩:=ih (bs.ops sr o) k y e;exact ⟨a,b,c.trans (by rw [aB]; lia),fun z e=>d z e⟩
def SE (lo st:Int) (n:Nat):It:=⟨fun i _=>i < n,fun i H x H'=>H'=H/\x=.int (lo + i * st),fun i _=>n<=i⟩
theorem L8 {P:Program} {w:World} {K:ZP} {tg:Expr} (it:Addr) (lo st:Int) (n:Nat):Lu P w K tg (SE lo st n) [it] it (fun i h=>IsRangeIter h it (lo + (i:Nat) * st) ((n:Int) - (i:Nat)) st) where
 mem:=by simp
 obj:=fun i h st b hb=>by
  have e:b=it:=by simpa using hb
  subst e;exact ⟨_,st,fun v z=>by
   have z':Data.fields _=Data.cell v:=z;cases z'⟩
 keep:=fun i h h' st k=>k it gl _ st
 item:=by
  intro X hP hw hK hc i pins s σ H E I hf sr hg;subst hP hw hK;obtain ⟨f0,f1,f2,f3,f4,f5⟩:=hf it gl;have W:=Walks.range (prog:=X.prog) (w:=X.w) iG it lo st n;refine W.item i s _ _ hg sr fun v h' tk hv AN kk=>?_
  obtain ⟨t,rfl⟩:=hv;have I1:Aq X pins σ H { s with heap:=h',toks:=tk }:=I.turned (fun b o hb e=>kk b o (by simpa using hb) e) f0 f1 f3 f4 f5;exact ⟨_,rfl,HC (s:={ s with heap:=h',toks:=tk }) (n:="range_iterator") AN rfl rfl (by decide) ⟨.int (lo + i * st),H,I1,⟨t,rfl⟩,⟨rfl,rfl⟩,AN,fun b hb=>(hf b hb).1⟩⟩
 done:=by
  intro X hP hw hK hc i pins s σ H E I hf st hg;subst hP hw hK;obtain ⟨f0,f1,f2,f3,f4,f5⟩:=hf it gl;exact wpAny_pyNext_range_end iG st (by have:n<=i:=hg; lia) fun h' eb=>⟨rfl,I.turned (t':=s.toks) (fun b o hb e=>eb b o hb e) f0 f1 f3 f4 f5⟩
 self:=fun _ _ _ _ _ st h=>wpAny_pyIter_rangeiter st h
def iRng3 (ta:TA):TI:=fun σ H R=>ta σ H fun vs H1=>∃ (i j k:Int) (n:Nat),vs=[.int i,.int j,.int k]/\Builtin.Range.small i j k=true/\k ≠ 0/\Builtin.divisionGoesByPylong (j - i) k=false/\Builtin.Range.rangeSize i j k=n/\R (SE i k n) H1
theorem Kk {X:Cx} {tg a b c:Expr} {ta:TA} {p pos:Pos} (hg:Gl X "range") (hm:X.mg "range"=none) (ha:PA X [a,b,c] ta) (hs:starEach [a,b,c] X.env=(false,eval a X.env) :: starEach [b,c] X.env:=by rfl) (VQ:(backTo pos (starEach [b,c] X.env)).any (·.1)=false:=by rfl) :
  PI X tg (.Call (.Name "range" p) [a,b,c] [] pos) (iRng3 ta):=by
 intro pins s σ H R I h;refine Call_ (GI I hg hm boot_range (PyProof.Rows.callWith_type1 (B5 (ha (pos:=pos) (pins:=pins) s σ H _ I h) fun us s1 ⟨vs,H1,I1,r1,q1⟩=>?_) hs VQ));obtain ⟨i,j,k,n,e,sm,k0,dv,rs,q⟩:=q1;subst e;cases r1 with
 | cons r rr=>
  cases rr with
  | cons r' rr=>
   cases rr with
   | cons r'' rr=>
    cases rr
    obtain ⟨t,rfl⟩:=r;obtain ⟨t',rfl⟩:=r';obtain ⟨XE,rfl⟩:=r'';refine call_range_3 k0 ?_ (Or.inl dv);refine wpAny_pyIter_range (IsRange.new ..) sm ?_;have I2:Aq X pins σ H1 { s1 with heap:=s1.heap.push { cls:=.type "range",data:=.fields #[.int i t,.int j t',.int k XE] },toks:=s1.toks }:=I1.kept fun b o e=>ZO _ e
    refine ⟨(s1.heap.push { cls:=.type "range",data:=.fields #[.int i t,.int j t',.int k XE] }).objs.size,[(s1.heap.push { cls:=.type "range",data:=.fields #[.int i t,.int j t',.int k XE] }).objs.size],_,_,H1,rfl,
     I2.kept (t':=s1.toks) fun b o e=>ZO _ e,L8 _ i k n,?_,fun b hb=>?_,q⟩
    ·show IsRangeIter _ _ (i + ((0:Nat):Int) * k) ((n:Int) - ((0:Nat):Int)) k
     rw [show i + ((0:Nat):Int) * k=i by simp,show (n:Int) - ((0:Nat):Int)=Builtin.Range.rangeSize i j k by rw [rs]; lia];exact ZX _ rfl
    ·have e:b=(s1.heap.push { cls:=.type "range",data:=.fields #[.int i t,.int j t',.int k XE] }).objs.size:=by simpa using hb
     subst e;exact I2.fpOk (ZU _) (I2.hok.fresh (ZU _))
theorem Kj {n:Nat} {lo st:Int} {g:TG} {te:TE} {H:Hp} {σ0:St} {R:Addr->Hp->Prop} (I:Addr->Nat->St->Hp->List V->Prop) (big:n < sizeLine)
  (h0:∀ D,H D=none->I D 0 σ0 (upd H D iF) [])
  (hs:∀ D i σ H' acc,H D=none->I D i σ H' acc->H' D=some h9/\acc.length=i)
  (turn:∀ D i σ H' acc (B:St->V->Hp->Prop),H D=none->i < n->I D i σ H' acc->(∀ Az v H5,H5 D=some h9->I D gt Az hX (acc ++ [v])->B Az v H5)->g (.int (lo + (i:Int) * st)) σ H' fun Az H3=>te Az H3 (B Az))
  (fin:∀ D σ H' acc,H D=none->I D n σ H' acc->R D H') :
  ∀ D,H D=none->∃ W:Nat->Nat->St->Hp->Prop,(∃ m,W 0 m σ0 (upd H D iF)) /\
   ∀ i m A2 H',W i m A2 H'->((SE lo st n).stop i H'/\R D H')\/((SE lo st n).go i H'/\∀ x H2,(SE lo st n).yld i H' x H2->g x A2 H2 fun Az H3=>KP Az H3 fun b H4=>
    if b=true then te Az H4 (fun v H5=>∃ acc,H5 D=some h9/\acc.length < sizeLine/\∃ m',m' < m/\W gt m' Az hX) else ∃ m',m' < m/\W gt m' Az H4):=by
 intro D hD;exists fun i m σ H'=>m=n - i/\i<=n/\∃ acc,I D i σ H' acc,⟨n,rfl,aJ _,[],h0 D hD⟩
 rintro i m σ H' ⟨rfl,hi,acc,q⟩;obtain ⟨s1,s2⟩:=hs D i σ H' acc hD q;by_cases hl:i < n
 ·refine .inr ⟨hl,fun x H2 hy=>?_⟩;obtain ⟨rfl,rfl⟩:=hy;have e:=turn D i σ H2 acc (fun Az v H5=>∃ acc,H5 D=some h9/\acc.length < sizeLine/\∃ m',m' < n - i/\m'=n - gt/\i + 1<=n/\∃ GY,I D gt Az hX GY) hD hl q fun Az v H5 h5 q5=>⟨acc,h5,by lia,n - gt,by lia,rfl,hl,_,q5⟩
  exact e
 ·have e:i=n:=by lia
  subst e;exact .inl ⟨ZU _,fin D σ H' acc hD q⟩
def Vq (f1 f2:Addr) (t1 t2:TE) (te:TE):TE:=fun σ H Q=>te σ H fun v H1=>(v=.ref f1/\t1 σ H1 Q)\/(v=.ref f2/\t2 σ H1 Q)
theorem RK {X:Cx} {CX1 CX2:QF} {k1 k2:Nat} {f1 f2:Addr} {fd1 fd2:FuncData} {ps1 ps2:List Str} {sp1 sp2:Sp} {ds1 ds2:List Value} {X1 X0:List V} {E1 E2:XK} {a b e:Expr} {es:List Expr} {p2 pos:Pos} {te:TE} {t:TA}
  (hf:PE X (.Subscript a b p2) te) (F1:AH X.prog X.w X.K X.mg X.base CX1 k1 f1 fd1 ps1 sp1) (F2:AH X.prog X.w X.K X.mg X.base CX2 k2 f2 fd2 ps2 sp2) (hr1:DN k1 X.A) (hr2:DN k2 X.A) (hk1:cz X.K (.ref f1)=true) (hk2:cz X.K (.ref f2)=true)
  (VT:F9 X.K fd1 ps1 ds1) (Zh:F9 X.K fd2 ps2 ds2) (Hy:A9 X1 ds1) (hd2:A9 X0 ds2) (YT:Jz CX1 X E1) (hx2:Jz CX2 X E2) (ha:PA X (e :: es) t)
  (he:starEach (e :: es) X.env=(false,eval e X.env) :: starEach es X.env:=by rfl) (hpl:(backTo pos (starEach es X.env)).any (·.1)=false:=by rfl) :
  PE X (.Call (.Subscript a b p2) (e :: es) [] pos) (Vq f1 f2 (QW sp1 X1 E1 t) (QW sp2 X0 E2 t) te):=by
 intro pins s σ H Q I h;show wpAny _ _ (do callWith pos (<- eval (.Subscript a b p2) X.env) [] (backTo pos (starEach (e :: es) X.env)) (backToKw pos (keywordEach [] X.env))) _ _ _
 refine wpAny_bind (B5 (hf (pins:=pins) s σ H _ I h) fun u s0 ⟨v,H0,I0,rv,q0⟩=>?_);rcases q0 with ⟨rfl,q⟩ | ⟨rfl,q⟩
 ·cases rv
  refine dE (h₀:=X.base) I.ok.mod.kin hk1 (B5 (ha (pos:=pos) (pins:=pins) s0 σ H0 _ I0 q) fun us s1 ⟨vs,H1,I1,r,q⟩=>⟨I1.kIn,?_⟩) he hpl;exact MS F1 hr1 VT Hy YT I1 r q
 ·cases rv
  refine dE (h₀:=X.base) I.ok.mod.kin hk2 (B5 (ha (pos:=pos) (pins:=pins) s0 σ H0 _ I0 q) fun us s1 ⟨vs,H1,I1,r,q⟩=>⟨I1.kIn,?_⟩) he hpl;exact MS F2 hr2 Zh hd2 hx2 I1 r q
theorem Du.len2 {d:PyData} {k b:Nat} (h:Du d k b) (hb:b<=80000):d.shown.length<=sizeLine:=by
 have q:=PyData.shown_le_bulk 200 bi d h.lv;have:=h.bu;have e:202 * d.bulk<=202 * 80000:=Nat.mul_le_mul_left _ ad;have:202 * 80000 + 200<=sizeLine:=by decide
 lia
theorem TZ {L:List Bz} (h:(L.map (·.1)).Nodup) {e e':Bz} (he:e ∈ L) (DB:e' ∈ L) (q:e.1=e'.1):e=e':=by
 induction L with
 | nil=>cases he
 | cons a L ih=>
  rw [ag,aD] at h;rcases ZZ.mp he with q1 | h1 <;> rcases ZZ.mp DB with q2 | h2
  ·rw [q1,q2]
  ·exact absurd (ZR.mpr ⟨e',h2,by rw [<-q,q1]⟩) h.1
  ·exact absurd (ZR.mpr ⟨e,h1,by rw [q,q2]⟩) h.1
  ·exact ih h.2 h1 h2
theorem TU {t:Int} {k k':List Str}:A5 (Cf (t,k')) (Cf (t,k))=A5 (k'.map CL.s) (k.map CL.s):=by
 unfold Cf;rw [A5,if_pos rfl]
theorem S8.names {rs:List BU} (h:S8 rs) (nd:(rs.map (·.1)).Nodup):Bn (rs.map (·.1)):=by
 refine Fo (bq.mpr (List.Pairwise.imp (fun {u v} q z=>?_) h)) nd;have ne:CL.s v.1 ≠ CL.s u.1:=fun e=>by
  injection e with e;rw [e] at z;exact BZ _ z
 have q':(if CL.s v.1=CL.s u.1 then A5 [CL.i v.2] [CL.i u.2] else Dt (.s v.1) (.s u.1))=false:=q;rw [if_neg ne] at q';exact absurd z (of_decide_eq_false q')
theorem Pu {xs:List Str} (xl:xs.length=8) (xnd:xs.Nodup) {tm:Int} (t1:1<=tm):Fb xs ((bD 8).map fun j=>(xs.getD j default,xs.getD ((j + 1) % 8) default,([10,9,9,10].getD (j % 4) 0:Int) * tm)):=by
 have gm:∀ j:Nat,j < 8->xs.getD j default ∈ xs:=fun j hj=>by
  rw [ai,ZN ad];exact bh _
 have gi:∀ i j:Nat,i < 8->j < 8->xs.getD i default=xs.getD j default->i=j:=fun i j hi hj e=>by
  rw [ai,ai,ZN ad,ZN ad] at e;exact (cG xnd).mp e
 refine ⟨fun u hu=>?_,?_,fun j j0 jl=>?_⟩
 ·obtain ⟨j,hj,e⟩:=ZR.mp hu;have hj:=bo.mp hj;subst e;have j8:(j + 1) % 8 < 8:=cS _ bi;exists gm j hj,gm _ j8,fun e=>?_
  ·have:=gi _ _ hj j8 e;lia
  ·show 1<=([10,9,9,10].getD (j % 4) 0:Int) * tm
   have l9:1<=([10,9,9,10].getD (j % 4) 0:Int):=by
    have cc:j % 4=0\/j % 4=1\/j % 4=2\/j % 4=3:=by lia
    rcases cc with e | e | e | e <;> rw [e] <;> decide
   have:=b7 l9 (show 0<=tm by lia);lia
 ·rw [bq];refine List.Pairwise.imp_of_mem (fun {a b} ha hb B0 al=>?_) (eW (n:=8));have ha:=bo.mp ha;have hb:=bo.mp hb;have a8:(a + 1) % 8 < 8:=cS _ bi;have b8:(b + 1) % 8 < 8:=cS _ bi;rcases al with ⟨e1,_⟩ | ⟨e1,e2⟩
  ·have:=gi _ _ ha hb e1;lia
  ·have q1:=gi _ _ ha b8 e1;have q2:=gi _ _ a8 hb e2;lia
 ·exists _,ZR.mpr ⟨j - 1,bo.mpr ad,rfl⟩,j - 1,by lia,?_
  ·rw [ai,ZN ad];rfl
  ·show xs[j]? = some (xs.getD ((j - 1 + 1) % 8) default)
   rw [show (j - 1 + 1) % 8=j by lia,ai,ZN jl];rfl
theorem MX {x y:Str} (h:x ≠ y):Bn [AY x y,AZ x y]:=by
 refine List.Pairwise.cons (fun z hz=>?_) (bC _ _);rw [aa.mp hz];unfold AY AZ;by_cases q:y.cps.toList < x.cps.toList
 ·rw [if_pos q,if_neg (cK q)];exact q
 ·by_cases q2:x.cps.toList < y.cps.toList
  ·rw [if_neg q,if_pos q2];exact q2
  ·have:=DR (l:=[x,y]) (m:=[y,x]) (List.Pairwise.cons (fun z hz=>by rw [aa.mp hz]; exact q) (bC _ _)) (List.Pairwise.cons (fun z hz=>by rw [aa.mp hz]; exact q2) (bC _ _)) (List.Perm.swap y x []);injection this with e;exact absurd e h
theorem Dx.keepL {K:ZP} {H H':Hp} {p L:Addr} {ys:List V} (h:Dx K H p) (ne:p ≠ L) (hL:H L=some (.lst ys)) (k:∀ b u,b ≠ L->H b=some u->H' b=some u):Dx K H' p:=by
 obtain ⟨a,ns,i,l,h,sc,r⟩:=h;refine ⟨a,ns,i,l,k _ _ ne h,?_,r⟩;rcases sc with ⟨ob,h'⟩ | h'
 ·exact .inl ⟨ob,k _ _ (fun z=>by subst z; rw [hL] at h'; cases h') h'⟩
 ·exact .inr h'
theorem Bl.put6 {p D:Addr} {H H':Hp} {o:HO} (k:Bl p H H') (hD:H D=none):Bl p H (L2.upd H' D o):=fun b u n e=>by rw [Af (Ai e hD)]; exact k b u n e
def Rl:Sp:=fun vs H Q _=>∃ (c A o m:Addr) (n:Nat) (xs:List Str) (ws:List AG) (An A6:List BU) (x:V) (d:PyData) (op:List Str),vs=[.ref c,.ref A,.ref o]/\Ff H c o m n xs ws An A6 x d op/\Fd H A xs ws /\
 ∀ (H':Hp) (v:V) (t0:Int),Ar H H'->BS ws An A6 op t0->U4 H' ws An A6 x op v->Q v H'
def Rk:Sp:=fun vs H Q _=>∃ (c A o m:Addr) (n:Nat) (xs:List Str) (ws:List AG) (An A6:List BU) (x:V) (d:PyData) (op:List Str),vs=[.ref c,.ref A,.ref o]/\Ff H c o m n xs ws An A6 x d op/\Fd H A xs ws /\
 ∀ (H':Hp) (L:Addr) (us:List V) (r:List iq),Ar H H'->H L=none->H' L=some (.lst us)->BP H' us r->EA ws An A6 x op r->r.length<=1024->Q (.ref L) H'
def Ka:Sp:=fun vs H Q _=>∃ (c L m:Addr) (n:Nat) (xs:List Str) (ws:List AG) (An A6:List BU) (x:V) (d:PyData) (us:List V) (gs:List iq),vs=[.ref c,.ref L]/\Dv H c m n xs ws An A6 x d/\Bn gJ/\H L=some (.lst us)/\BP H us gs/\(∀ g ∈ gs,Lx gJ x g)/\us.length<=10 /\
 ∀ H',Ar H H'->Q (.bl true) H'
section
variable {bb:Bool} {h h':Heap} {a b i l:Addr} {k:Nat} {items:Array Value}
end
section
variable {prog:Program} {w:World} {A:Around} {E:Value->Shared->Prop} {s:Shared}
end
section
variable {prog:Program} {w:World} {A:Around} {E:Value->Shared->Prop} {s:Shared}
end
end L2
namespace K43
open PySem L2
def top (i:Nat):Stmt:=PySem.Challenge.pw_openhouses_k43_openings_bettered.main.body.getD i (.Pass ⟨0,0,0,0⟩)
abbrev Fj:Stmt:=top 2
theorem MQ:AD ["thing"] ["thing"] (Ao Fj):=ac
abbrev Dg:Stmt:=top 3
theorem Fz:AD ["things"] ["things"] (Ao Dg):=ac
abbrev Df:Stmt:=top 5
theorem Fy:AD ["case","thing","sites"] ["case","thing"] (Ao Df):=ac
abbrev CN:Stmt:=top 6
theorem EF:AD ["case","web","sites","folk","limit"] ["case"] (Ao CN):=ac
abbrev Dd:Stmt:=top 8
theorem Fv:AD ["web","places","ways","beside","one","other","length"] ["web"] (Ao Dd):=ac
abbrev KU:Stmt:=top 10
theorem Oh:AD ["web","place","told"] ["web","place"] (Ao KU):=ac
abbrev Dz:Stmt:=top 11
theorem Gd:AD ["case"] ["case"] (Ao Dz):=ac
abbrev Fh:Stmt:=top 12
theorem Iu:AD ["web","starts","beside","reached","settled","so_far","start","here","name","by_here"] ["web","starts"] (Ao Fh):=ac
abbrev Eh:Stmt:=top 14
theorem Hl:AD ["case","chosen","web","sites","folk","limit","charges","aways","costs","houses","ways"] ["case","chosen"] (Ao Eh):=ac
abbrev Ei:Stmt:=top 16
theorem Hm:AD ["case","opening","row","following"] ["case","opening"] (Ao Ei):=ac
abbrev Gh:Stmt:=top 17
theorem Kf:AD ["case","opening","outcomes","costs","cheaper"] ["case","opening"] (Ao Gh):=ac
abbrev CM:Stmt:=top 18
theorem EE:AD ["case","opening","others","outcomes","house","site"] ["case","opening"] (Ao CM):=ac
abbrev Fl:Stmt:=top 19
theorem Iw:AD ["opening","out","more","kept"] ["opening","out","more"] (Ao Fl):=ac
abbrev AL:Stmt:=top 21
theorem CT:AD ["_law_pen","_law_many","_law_place","_law_cell","_law_number","_law_digit"] ["_law_pen","_law_many"] (Ao AL):=ac
abbrev Cy:Stmt:=top 22
theorem Gf:AD ["_law_pen","_law_many","_law_letters","_law_first","_law_base","_law_at","_law_more","_law_found","_law_k","_law_letter"] ["_law_pen","_law_many"] (Ao Cy):=ac
abbrev C6:Stmt:=top 23
theorem Fw:AD ["_law_pen","_law_way"] ["_law_pen"] (Ao C6):=ac
abbrev Cz:Stmt:=top 24
theorem FA:AD ["_law_pen","_law_names_here","_law_shape","_law_ways","_law_k","_law_other","_law_turn","_law_pair"] ["_law_pen","_law_names_here","_law_shape"] (Ao Cz):=ac
abbrev Ee:Stmt:=top 25
theorem Hi:AD ["_law_pen","_law_names_here","_law_many","_law_left","_law_found","_law_k"] ["_law_pen","_law_names_here","_law_many"] (Ao Ee):=ac
abbrev Eg:Stmt:=top 26
theorem Hk:AD ["_law_pen","_law_shape","_law_names_here","_law_plan","_law_way","_law_sites","_law_place","_law_folk","_law_limit"] ["_law_pen","_law_shape"] (Ao Eg):=ac
abbrev CO:Stmt:=top 27
theorem EG:AD ["_law_plan","_law_found","_law_one","_law_other","_law_length_here","_law_amid","_law_here","_law_there","_law_old"] ["_law_plan"] (Ao CO):=ac
abbrev D6:Stmt:=top 28
theorem Gg:AD ["_law_case_here","_law_lengths_here","_law_opening","_law_total","_law_place","_law_many"] ["_law_case_here","_law_lengths_here","_law_opening"] (Ao D6):=ac
abbrev C5:Stmt:=top 29
theorem Ey:AD ["_law_case_here","_law_found","_law_place","_law_amount","_law_most"] ["_law_case_here"] (Ao C5):=ac
abbrev Cr:Stmt:=top 30
theorem DS:AD ["_law_case_here","_law_opening","_law_closed","_law_found","_law_house","_law_left"] ["_law_case_here","_law_opening"] (Ao Cr):=ac
abbrev De:Stmt:=top 31
theorem Fx:AD ["_law_case_here","_law_lengths_here","_law_opening","_law_least","_law_found","_law_one","_law_other","_law_number"] ["_law_case_here","_law_lengths_here","_law_opening"] (Ao De):=ac
abbrev Ef:Stmt:=top 32
theorem Hj:AD ["_law_pen","_law_names_here","_law_times","_law_ways","_law_k","_law_pair","_law_sites","_law_folk","_law_case_here"] ["_law_pen"] (Ao Ef):=ac
abbrev Ec:Stmt:=top 33
theorem Hh:AD ["_law_pen","_law_names_here","_law_plan","_law_way","_law_sites","_law_folk"] ["_law_pen"] (Ao Ec):=ac
abbrev Fi:Stmt:=top 34
theorem Iv:AD ["_law_case_here","_law_lengths_here","_law_opening","_law_found","_law_other"] ["_law_case_here","_law_lengths_here","_law_opening"] (Ao Fi):=ac
abbrev D4:Stmt:=top 35
theorem Ge:AD ["_law_case_here","_law_openings_asked","_law_lengths_here","_law_opening","_law_due_here","_law_again","_law_told"] ["_law_case_here","_law_openings_asked"] (Ao D4):=ac
abbrev Ry:Stmt:=top 36
theorem Rx:AD ["_law_script","_law_pen","_law_turn","_law_case_here","_law_every","_law_opening"] ["_law_script"] (Ao Ry):=ac
def Oc (K:ZP):Sp:=fun vs H Q _=>∃ (a:Addr) (ns:List Int),vs=[.ref a]/\NC K H a (ns.map V.int)/\ns.length<=63/\∀ H',Q (.bl true) H'
section
variable {P:Program} {w:World} {K:ZP} {mg:Str->Option Value} {base:Heap}
theorem VB (h_len:mg "len"=none) (h_range:mg "range"=none) {fT:Addr} {fdT:FuncData} (XT:Fn K mg "_law_take" AL ["_law_pen","_law_many"] fT fdT) (GT:AH P w K mg base BK 1 fT fdT ["_law_pen","_law_many"] (Dc K)) {fCA:Addr} {fdCA:FuncData} (XCA:Fn K mg "_law_case" Eg ["_law_pen","_law_shape"] fCA fdCA) (GCA:AH P w K mg base BK 4 fCA fdCA ["_law_pen","_law_shape"] (Oe K)) {fOP:Addr} {fdOP:FuncData} (XOP:Fn K mg "_law_openings" C5 ["_law_case_here"] fOP fdOP) (GOP:AH P w K mg base BK 1 fOP fdOP ["_law_case_here"] Rm) {fRI:Addr} {fdRI:FuncData} (XRI:Fn K mg "_law_right" D4 ["_law_case_here","_law_openings_asked"] fRI fdRI) (GRI:AH P w K mg base BK 8 fRI fdRI ["_law_case_here","_law_openings_asked"] Ka) {fRG:Addr} {fdRG:FuncData} (XRG:Fn K mg "_law_ring" Ef ["_law_pen"] fRG fdRG) (GRG:AH P w K mg base BK 4 fRG fdRG ["_law_pen"] (HZ K)) {fWD:Addr} {fdWD:FuncData} (XWD:Fn K mg "_law_wide" Ec ["_law_pen"] fWD fdWD) (GWD:AH P w K mg base BK 4 fWD fdWD ["_law_pen"] (HZ K)) {f:Addr} {fd:FuncData} (F:E4 K "law" "law" Ry f fd):AH P w K mg base BK 9 f fd ["_law_script"] (Oc K):=by
 refine F.ok Rx gP ca
 ·obtain ⟨a,ns,rfl,_⟩:=h;rfl
 ·obtain ⟨a,ns,rfl,hS,hlen,k⟩:=h;have nd:=Rx.nd;have big:100000 < sizeLine:=by decide
  refine ⟨_,(Ae (Am (i:=1) nd rfl (Or.inr rfl) (Bi (Aa (pv 0) (Aa Ag (Aa Ag Ad)))))
  (Ae (Bp PassesOwn.never rfl (C0 ci h_range (Aa Ag Ad)) (Ah (i:=2) nd rfl ga)
  (Ae (Am (i:=3) nd rfl (Or.inl rfl) (Ak GCA (hr.mono bi) ci XCA.mg XCA.F.kp XCA.b .nil Aw (Aa (pv 1) (Aa (Ak GT (hr.mono bi) ci XT.mg XT.F.kp XT.b .nil Aw (Aa (pv 1) (Aa Ag Ad))) Ad))))
  (Ae (Am (i:=4) nd rfl (Or.inr rfl) (Ak GOP (hr.mono bi) ci XOP.mg XOP.F.kp XOP.b .nil Aw (Aa (pv 3) Ad)))
  (Aj (Dm (IA (La (Ak GRI (hr.mono bi) ci XRI.mg XRI.F.kp XRI.b .nil Aw (Aa (pv 3) (Aa (Bs (N:=["_law_k","_law_pen","_law_every"]) rfl CU (CJ [none,some 1,some 4]) (C0 ci h_range (Aa Ag Ad))
   (fun s2 H C fp=>⟨(Ah (i:=0) (show (["_law_k","_law_pen","_law_every"]:List Str).Nodup by decide +kernel) rfl ga),Bc,(A4 iK (pv 2) (Ak GT (hr.mono bi) ci XT.mg XT.F.kp XT.b .nil Aw (Aa (pv 1) (Aa (Al (A8 K rfl) ci h_len PySem.boot_len (Aa (pv 2) Ad)) Ad))) ce)⟩)) Ad)))))
  (Aj (AJ LX))
  BH)))))
  (Ae (EH (RK (A4 iK (Bi (Aa (Ld (v:=.ref fRG) ci XRG.mg rfl) (Aa (Ld (v:=.ref fWD) ci XWD.mg rfl) Ad))) (Ak GT (hr.mono bi) ci XT.mg XT.F.kp XT.b .nil Aw (Aa (pv 1) (Aa Ag Ad))) ce) GRG GWD (hr.mono bi) (hr.mono bi) XRG.F.kp XWD.F.kp XRG.b XWD.b .nil .nil Aw Aw (Aa (pv 1) Ad)) (BD K rfl rfl (Au (Ah (i:=3) nd rfl ga) (Au (Ah (i:=5) nd rfl ga) BC))))
  (Aj (AJ (Ak GRI (hr.mono bi) ci XRI.mg XRI.F.kp XRI.b .nil Aw (Aa (pv 3) (Aa (Bi (Aa (pv 5) Ad)) Ad)))))))),?_⟩
  refine ⟨_,rfl,(by show 3<=sizeLine; lia),fun p hp=>?_⟩;have P0:Dx K (upd H p (.lst [.ref a,.int 0,.int 0])) p:=⟨a,ns,0,0,Ab,hS.same (Ac hp),hlen,by decide,by decide⟩
  generalize upd H p (.lst [.ref a,.int 0,.int 0])=H0 at P0;refine ⟨3,rfl,by decide,by decide,CG (n:=3) (fun _ σ H'=>∃ v2 v3 v4 v5,σ=[some (.ref a),some (.ref p),v2,v3,v4,v5]/\Dx K H' p) ⟨_,_,_,_,rfl,P0⟩ ?_ ?_⟩
  ·rintro j σ H1 hj ⟨v2,v3,v4,v5,rfl,P1⟩;refine ⟨_,rfl,_,rfl,p,4,rfl,P1,by decide,by decide,fun sh H2 P2 k2 XH sh1=>?_⟩;refine ⟨p,sh,rfl,P2,XH,sh1,fun H3 c m n xs ws An A6 x d P3 k3 cs=>?_⟩;have WQ:=cs.cw.ok1.one;have sn:=cs.cw.ok1.nd;have ri:Bn gJ:=Fo (Cw cs.so1) sn;refine ⟨_,rfl,c,An.map (·.1),x,d,rfl,cs.cw.sites,by rw [ZM]; exact cs.l6,fun H4 EV us os s4 fE hE tU op ol=>?_⟩;have ul:=tU.len;have one:os ≠ []:=op.ne (fun z=>by have:=congrArg bK z; rw [ZM] at this; simp at this; rw [this] at WQ; simp at WQ) cs.cw.lim;have ulp:0 < us.length:=by rw [ul]; exact bP.mpr one
   have P4:=P3.same s4;have nE:EV ≠ p:=P3.ne fE;exists _,rfl,4,rfl,by decide,by decide
   refine LO (n:=4) (fun D i A2 Hx acc=>∃ (v0:Option V) (fs:List iq),A2=[v0,some (.ref p),some (.ref EV)]/\Dx K Hx p/\Bl p H4 Hx/\D ≠ p/\Hx D=some h9/\BP Hx acc fs/\acc.length=i/\∀ g ∈ fs,g ∈ os)
    (by lia) (fun D hD=>⟨_,[],rfl,P4.same (Ac hD),Bl.of_same (Ac hD),P4.ne hD,Ab,.nil,rfl,(fun g hg=>nomatch hg)⟩) (fun D i A2 Hx acc hD ⟨v0,fs,_,_,_,_,AO,_,al,_⟩=>⟨AO,al⟩) ?_ ?_
   ·rintro D i A2 Hx acc B hD hi ⟨v0,fs,rfl,Px,kx,nD,AO,tp,al,fo⟩ hB;have hEx:=kx _ _ nE hE;refine ⟨_,rfl,_,rfl,_,rfl,EV,_,rfl,.inl (AB.of hEx),p,_,rfl,Px,by lia,by lia,fun e1 Hb Pb kb Z5 Z4=>?_⟩;obtain ⟨q,rfl⟩:∃ q:Nat,e1=q:=⟨e1.toNat,by lia⟩
    have hq:q < us.length:=by lia
    have uq:us[q]? = some us[q]:=ZN hq;obtain ⟨t,f',et,ef,ht⟩:=(tU.keep (EB P4 kx)).get uq;have tpb:=EB Px kb;have hDb:=kb _ _ nD AO;exists EV,_,_,us[q],rfl,rfl,AB.of (kb _ _ nE hEx),BE uq;rw [et];refine hB _ _ _ hDb ⟨_,fs ++ [f'],rfl,Pb.other hDb nD,(kx.trans kb).put6 hD,nD,Ab,?_,by rw [ZQ,al]; rfl,fun g hg=>?_⟩
    ·refine ((tp.keep tpb).app (.cons (tpb _ _ ht) .nil)).keep fun b ys z=>?_
     rw [Af (fun e=>by rw [e,hDb] at z; cases z)];exact z
    ·rcases ak.mp hg with hg | hg
     ·exact fo g hg
     ·rw [aa.mp hg];exact ZS ef
   rintro D A2 H5 acc hD ⟨v0,fs,rfl,P5,k5,nD,AO,tp,al,fo⟩;refine ⟨c,D,m,n,xs,ws,An,A6,x,d,acc,fs,rfl,(cs.cw.same s4).keepT (EB P4 k5),ri,AO,tp,fun g hg=>(op.2.2 g).mp (fo g hg),by lia,fun H6 s6=>⟨_,rfl,?_⟩⟩;refine GK ?_;exact ⟨_,_,_,_,rfl,P5.same s6⟩
  ·rintro σ H1 ⟨v2,v3,v4,v5,rfl,P1⟩;refine ⟨ge,fun LF hLF=>?_⟩;have P2:=P1.same (Ac (o:=.lst [V.ref fRG,V.ref fWD]) hLF);have QC:(upd H1 LF (.lst [V.ref fRG,V.ref fWD])) LF=some (.lst [V.ref fRG,V.ref fWD]):=Ab;have nL:LF ≠ p:=P1.ne hLF;generalize upd H1 LF (.lst [V.ref fRG,V.ref fWD])=H2 at P2 QC ⊢;refine ⟨_,rfl,p,2,rfl,P2,by decide,by decide,fun q H3 P3 k3 q0 q1=>?_⟩;have hL3:=k3 _ _ nL QC;obtain ⟨fv,hfv,fc⟩:∃ fv:Addr,J3 [V.ref fRG,V.ref fWD] q=some (V.ref fv)/\(fv=fRG\/fv=fWD):=by
    have cc:q=0\/q=1:=by lia
    rcases cc with rfl | rfl
    ·exact ⟨fRG,rfl,.inl rfl⟩
    ·exact ⟨fWD,rfl,.inr rfl⟩
   exists LF,_,_,.ref fv,rfl,rfl,AB.of hL3,hfv;rcases fc with rfl | rfl
   case' inl=>refine .inl ⟨rfl,_,rfl,p,rfl,P3,fun H4 T c o m n xs ws An A6 x d op P4 k4 hT cx=>?_⟩
   case' inr=>refine .inr ⟨rfl,_,rfl,p,rfl,P3,fun H4 T c o m n xs ws An A6 x d op P4 k4 hT cx=>?_⟩
   all_goals
    exists T,_,rfl,AI.of hT,rfl,_,_,rfl,_,_,rfl,rfl;refine ⟨_,rfl,_,rfl,ie,fun LL hLL=>?_⟩;have s5:=Ac (o:=.lst [V.ref o]) hLL;exact ⟨c,LL,m,n,xs,ws,An,A6,x,d,[V.ref o],[op],rfl,cx.cw.same s5,cx.ri,Ab,.cons (s5 _ _ cx.ho) .nil,fun g hg=>by rw [aa.mp hg]; exact cx.op,(by show 1<=10; decide),fun H6 s6=>k H6⟩
end
section
variable {P:Program} {w:World} {K:ZP} {mg:Str->Option Value} {base:Heap}
theorem LZ (h_sorted:mg "sorted"=none) (h_tuple:mg "tuple"=none) {fNM:Addr} {fdNM:FuncData} (XNM:Fn K mg "_law_names" Cy ["_law_pen","_law_many"] fNM fdNM) (GNM:AH P w K mg base BK 2 fNM fdNM ["_law_pen","_law_many"] (Gb K)) {fT:Addr} {fdT:FuncData} (XT:Fn K mg "_law_take" AL ["_law_pen","_law_many"] fT fdT) (GT:AH P w K mg base BK 1 fT fdT ["_law_pen","_law_many"] (Dc K)) {fMP:Addr} {fdMP:FuncData} (XMP:Fn K mg "_law_map" Cz ["_law_pen","_law_names_here","_law_shape"] fMP fdMP) (GMP:AH P w K mg base BK 3 fMP fdMP ["_law_pen","_law_names_here","_law_shape"] (MK K)) {f:Addr} {fd:FuncData} (F:E4 K "_law_wide" "_law_wide" Ec f fd):AH P w K mg base BK 4 f fd ["_law_pen"] (HZ K):=by
 refine F.ok Hh gP ca
 ·obtain ⟨p,rfl,_⟩:=h;rfl
 ·obtain ⟨p,rfl,hP,k⟩:=h;have nd:=Hh.nd;have big:100000 < sizeLine:=by decide
  refine ⟨_,(Ae (Am (i:=1) nd rfl (Or.inl rfl) (Ak GNM (hr.mono bi) ci XNM.mg XNM.F.kp XNM.b .nil Aw (Aa (pv 0) (Aa (Ax Bj Ag am) Ad))))
  (Ae (Am (i:=2) nd rfl (Or.inl rfl) (Ak GMP (hr.mono bi) ci XMP.mg XMP.F.kp XMP.b .nil Aw (Aa (pv 0) (Aa (pv 1) (Aa Ag Ad)))))
  (Ae (Am (i:=3) nd rfl (Or.inr rfl) am)
  (Ae (Am (i:=4) nd rfl (Or.inl rfl) (Al (BJ K rfl) ci h_sorted PyProof.Rows.boot_sorted (Aa (Bs (N:=["_law_name","_law_way"]) rfl CU (CJ [none,some 3]) (BF K rfl (pv 1))
   (fun s2 H C fp=>⟨(Ah (i:=0) (show (["_law_name","_law_way"]:List Str).Nodup by decide +kernel) rfl ga),Bc,(A7 (Aa (pv 0) (Aa (A4 iK (Bi (Aa Ag (Aa (Ax Nf Ag Ag) Ad))) (pv 1) ce) Ad)))⟩)) Ad)))
  (Ae (Am (i:=5) nd rfl (Or.inl rfl) (Al (BJ K rfl) ci h_sorted PyProof.Rows.boot_sorted (Aa (Bs (N:=["_law_name","_law_pen"]) rfl CU (CJ [none,some 0]) (BF K rfl (pv 1))
   (fun s2 H C fp=>⟨(Ah (i:=0) (show (["_law_name","_law_pen"]:List Str).Nodup by decide +kernel) rfl ga),Bc,(A7 (Aa (pv 0) (Aa (Ax Bj Ag (Ak GT (hr.mono bi) ci XT.mg XT.F.kp XT.b .nil Aw (Aa (pv 1) (Aa Ag Ad)))) Ad)))⟩)) Ad)))
  (Aj (AJ (A7 (Aa (A7 (Aa (pv 2) (Aa (Ay (Av K rfl) ci h_tuple PyProof.Rows.boot_tuple (Aa (pv 4) Ad)) (Aa (Ay (Av K rfl) ci h_tuple PyProof.Rows.boot_tuple (Aa (pv 5) Ad)) (Aa FC Ad))))) (Aa (A4 iK (Bi (Aa (A7 (Aa (A4 iK (pv 1) Ag ce) Ad)) (Aa (Ay (Av K rfl) ci h_tuple PyProof.Rows.boot_tuple (Aa (Al (CA K rfl) ci h_sorted PyProof.Rows.boot_sorted (Aa (pv 1) Ad)) Ad)) Ad))) (pv 3) ce) Ad)))))))))),?_⟩
  have t30:(10000000:Int) < 10 ^ 30:=by decide
  refine ⟨_,rfl,_,rfl,p,3,rfl,hP,by decide,by decide,fun d1 H1 P1 k1 Yq X8=>⟨_,_,rfl,rfl,?_⟩⟩;obtain ⟨n1,rfl⟩:∃ n:Nat,d1=n:=⟨d1.toNat,by lia⟩
  refine ⟨p,8 + n1,rfl,P1,by lia,fun H2 D xs P2 k2 fD hD xl xnd xnm=>?_⟩;have nD:D ≠ p:=P1.ne fD;refine ⟨_,rfl,_,rfl,p,D,xs,0,rfl,P2,hD,nD,xnd,xnm,by lia,by lia,by decide,by decide,fun H3 m ps ws P3 k3 pp mw=>?_⟩;have F5:=k3 _ _ nD hD;refine ⟨_,rfl,p,2,rfl,P3,by decide,by decide,fun wy H4 P4 k4 w0 w1=>?_⟩;have Lp:=k4 _ _ nD F5;have Yb:=mw.keepT (EB P3 k4);have q4:Bl p H H4:=((k1.trans k2).trans k3).trans k4;obtain ⟨cst,hat,c0,c1⟩:∃ cst:Int,J3 [V.int 0,V.int (10 ^ (6:Int).toNat)] wy=some (.int cst)/\0<=cst/\cst < 10 ^ 30:=by
   have cc:wy=0\/wy=1:=by lia
   rcases cc with rfl | rfl
   ·exact ⟨0,rfl,by decide,by decide⟩
   ·exact ⟨10 ^ 6,rfl,by decide,by decide⟩
  exists _,rfl,D,rfl,⟨_,AB.of Lp⟩
  refine B6 BN (xs:=xs.map V.str) (fun R i σ H' acc=>∃ v0:Option V,σ=[v0,some (.int wy)]/\Ar H4 H'/\H' R=some h9/\acc.length=i/\AU H' acc (((xs.take i).map fun y=>(y,cst)).map DF))
   (by rw [ZM]; lia) (fun R hR=>⟨_,rfl,Ac hR,Ab,rfl,.nil⟩) (fun R i σ H' acc hR ⟨v0,_,sa,hRR,al,_⟩=>⟨AB.of (sa _ _ Lp),hRR,al⟩) ?_ ?_
  ·rintro R i σ H' acc x' B hR ex ⟨v0,rfl,sa,hRR,al,dts⟩ hB;obtain ⟨y,ey,rfl⟩:=BW ex;refine ⟨_,rfl,_,_,rfl,rfl,⟨by decide,by decide,by decide⟩,ge,fun l hl=>?_⟩;have sl:=Ac (o:=.lst [V.int 0,V.int (10 ^ (6:Int).toNat)]) hl;have hll:(upd H' l (.lst [V.int 0,V.int (10 ^ (6:Int).toNat)])) l=some (.lst [V.int 0,V.int (10 ^ (6:Int).toNat)]):=Ab;refine ⟨_,rfl,l,_,_,.int cst,rfl,rfl,AB.of hll,hat,ge,fun W hW=>?_⟩;have sW:=sl.trans (Ac (o:=.tup [V.str y,V.int cst]) hW);have Zk:(upd (upd H' l (.lst [V.int 0,V.int (10 ^ (6:Int).toNat)])) W (.tup [V.str y,V.int cst])) W=some (.tup [V.str y,V.int cst]):=Ab;generalize upd (upd H' l (.lst [V.int 0,V.int (10 ^ (6:Int).toNat)])) W (.tup [V.str y,V.int cst])=H5 at sW Zk ⊢;have Sq:=sW _ _ hRR;have nW:W ≠ R:=BM Zk Sq (fun z=>by cases z);refine hB _ _ _ Sq ⟨_,rfl,Bb (sa.trans sW) hR,Ab,by rw [ZQ,al]; rfl,?_⟩;rw [ax,ey,fq,ZY,ZY];refine DX (AM dts fun b ys z=>?_) (.tup (by rw [Af nW]; exact Zk) (.cons (.str _) (.cons (.int _) .nil)));rw [Af (fun e=>by rw [e,hRR] at z; cases z)];exact sW _ _ z
  rintro R1 σ H5 Wk fR1 ⟨v0,rfl,s5,Zr,al1,Yo⟩;rw [ZM] at al1;rw [ZM,aw] at Yo;refine ⟨R1,Wk,_,rfl,AB.of Zr,Yo,by lia,fun l1 Hg An QB Z9 XQ Y6=>?_⟩;have s6:=Ac (o:=.lst Hg) QB;have VR:(upd H5 l1 (.lst Hg)) l1=some (.lst Hg):=Ab;have X5:=AM Z9 fun b ys z=>s6 _ _ z
  generalize upd H5 l1 (.lst Hg)=H6 at s6 VR X5 ⊢;have WK:=s5.trans s6;have P6:=P4.same WK;have UQ:=WK _ _ Lp;have nl1:l1 ≠ p:=(P4.same s5).ne QB;have WL:(An.map (·.1)).Perm xs:=by
   have:=XQ.map (·.1);rwa [aE,show ((fun x:BU=>x.1) ∘ fun y=>(y,cst))=(id:Str->Str) from rfl,List.map_id] at this
  have nd1:(An.map (·.1)).Nodup:=WL.nodup_iff.mpr xnd;have WM:=Y6.names nd1;exists _,rfl,D,rfl,⟨_,AB.of UQ⟩
  refine B6 BN (xs:=xs.map V.str) (fun R i σ H' acc=>∃ (v0:Option V) (rs:List BU),σ=[v0,some (.ref p)]/\R5 K H6 H' p R rs acc/\rs.map (·.1)=xs.take i/\acc.length=i/\(∀ r ∈ rs,1<=r.2/\r.2 < 10 ^ 30)/\D ≠ R)
   (by rw [ZM]; lia) (fun R hR=>⟨_,[],rfl,⟨P6.same (Ac hR),(fun b o _ _ z=>Ac hR _ _ z),Ab,.nil,P6.ne hR⟩,rfl,rfl,(fun r hr=>nomatch hr),fun e=>by rw [<-e,UQ] at hR; cases hR⟩)
   (fun R i σ H' acc hR ⟨v0,rs,_,r5,_,al,_,ne⟩=>⟨AB.of (r5.kp _ _ nD ne UQ),r5.hR,al⟩) ?_ ?_
  ·rintro R i σ H' acc x' B hR ex ⟨v0,rs,rfl,r5,rt,al,rl,ne⟩ hB;obtain ⟨y,ey,rfl⟩:=BW ex;refine ⟨_,rfl,_,rfl,p,4,rfl,r5.pn,by decide,by decide,fun e1 Ha Pa ka Z5 Z4=>⟨_,_,rfl,rfl,ge,fun T hT=>?_⟩⟩;have re:=(r5.step Pa ka).add hT (.tup [.str y,.int (1 + e1)]);refine hB _ _ _ re.hR ⟨_,rs ++ [(y,1 + e1)],rfl,re.app Ab,by rw [ZY,rt,ax,ey]; rfl,by rw [ZQ,al]; rfl,fun r hr=>?_,ne⟩;rcases ak.mp hr with hr | hr
   ·exact rl r hr
   ·rw [aa.mp hr];exact ⟨by show 1<=1 + e1; lia,by show 1 + e1 < 10 ^ 30; lia⟩
  rintro R2 σ H7 Wj Yi ⟨v0,rsf,rfl,r7,UB,al2,Y8,nDR⟩;rw [ZM,aw] at UB;rw [ZM] at al2;have P7:=r7.pn;have tp7:∀ b xs,H6 b=some gX->H7 b=some gX:=fun b xs z=>r7.kp b _ (by obtain ⟨_,_,_,_,y,_⟩:=P6; exact BM z y (fun q=>by cases q)) (Ai z Yi) z
  refine ⟨R2,Wj,rsf,rfl,AB.of r7.hR,r7.dd,by lia,fun l2 FY A6 Kx Z6 T4 rr2=>?_⟩;have s8:=Ac (o:=.lst FY) Kx;have Xk:(upd H7 l2 (.lst FY)) l2=some (.lst FY):=Ab;have X3:=AM Z6 fun b ys z=>s8 _ _ z
  generalize upd H7 l2 (.lst FY)=H8 at s8 Xk X3 ⊢;have WB:∀ b xs,H6 b=some gX->H8 b=some gX:=fun b xs z=>s8 _ _ (tp7 _ _ z)
  have P8:=P7.same s8;have Zg:=s8 _ _ (r7.kp _ _ nl1 (Ai VR Yi) VR);have UO:=s8 _ _ (r7.kp _ _ nD nDR UQ);have Z8:=AM X5 WB;have Ya:=(Yb.keepT fun b ys z=>WK _ _ z).keepT WB;have q8:Bl p H H8:=fun b o hb z=>s8 _ _ (r7.kp b o hb (Ai (WK _ _ (q4 b o hb z)) Yi) (WK _ _ (q4 b o hb z)))
  have Y7:(A6.map (·.1)).Perm xs:=by rw [<-UB]; exact T4.map _
  have l1':An.length=xs.length:=by have:=WL.length_eq; rwa [ZM] at this
  have l2':A6.length=xs.length:=by have:=Y7.length_eq; rwa [ZM] at this
  have ok1:Et ps 0 An:=⟨fun r hr=>pp.mem_iff.mpr (WL.mem_iff.mp (bQ hr)),nd1,fun r hr=>by
   obtain ⟨y,_,e⟩:=ZR.mp (XQ.mem_iff.mp hr);rw [<-e];exact ⟨c0,c1⟩,by lia⟩
  have ok2:Et ps 1 A6:=⟨fun r hr=>pp.mem_iff.mpr (Y7.mem_iff.mp (bQ hr)),Y7.nodup_iff.mpr xnd,fun r hr=>Y8 r (T4.mem_iff.mp hr),by lia⟩
  refine ⟨_,rfl,_,rfl,l1,_,rfl,.inl ⟨AB.of Zg,fun t1 F3=>?_⟩⟩;have s9:=Ac (o:=.tup Hg) F3;refine ⟨_,rfl,l2,_,rfl,.inl ⟨AB.of (s9 _ _ Xk),fun t2 FK=>?_⟩⟩;have Ts:=Ac (o:=.tup FY) FK;refine ⟨(by show 4<=sizeLine; lia),fun c hc=>?_⟩;have Wu:=s9.trans (Ts.trans (Ac (o:=.tup [.ref m,.ref t1,.ref t2,.non]) hc));have h1:=Ac (o:=.tup [.ref m,.ref t1,.ref t2,.non]) hc _ _ (Ts _ _ (Ab (H:=H8) (a:=t1) (o:=.tup Hg)));have h2:=Ac (o:=.tup [.ref m,.ref t1,.ref t2,.non]) hc _ _ (Ab (H:=upd H8 t1 (.tup Hg)) (a:=t2) (o:=.tup FY));have hcc:(upd (upd (upd H8 t1 (.tup Hg)) t2 (.tup FY)) c (.tup [.ref m,.ref t1,.ref t2,.non])) c=some (.tup [.ref m,.ref t1,.ref t2,.non]):=Ab;generalize upd (upd (upd H8 t1 (.tup Hg)) t2 (.tup FY)) c (.tup [.ref m,.ref t1,.ref t2,.non])=H9 at Wu h1 h2 hcc ⊢;have SO:=Wu _ _ UO;obtain ⟨x0,xr,rfl⟩:∃ y l,xs=y :: l:=by
   cases xs with
   | nil=>rw [eI] at xl; lia
   | cons y l=>exact ⟨y,l,rfl⟩
  refine ⟨_,rfl,D,_,_,_,rfl,rfl,AB.of SO,BE (j:=0) rfl,ie,fun o0 ho0=>?_⟩;have R0:=Ac (o:=.tup [V.str x0]) ho0;refine ⟨_,rfl,D,x0 :: xr,rfl,AB.of (R0 _ _ SO),by lia,fun ls JN hls pm' so'=>⟨ls,_,rfl,.inl ⟨AB.of Ab,fun o1 ho1=>?_⟩⟩⟩;have s13:=(Ac (o:=.lst (JN.map V.str)) hls).trans (Ac (o:=.tup (JN.map V.str)) ho1);have g0:=s13 _ _ (Ab (H:=H9) (a:=o0) (o:=.tup [V.str x0]));have g1:(upd (upd (upd H9 o0 (.tup [V.str x0])) ls (.lst (JN.map V.str))) o1 (.tup (JN.map V.str))) o1=some (.tup (JN.map V.str)):=Ab;have Vw:=R0.trans s13;generalize upd (upd (upd H9 o0 (.tup [V.str x0])) ls (.lst (JN.map V.str))) o1 (.tup (JN.map V.str))=OS at Vw g0 g1 ⊢;refine ⟨ge,fun LL hLL=>?_⟩;have s14:=Ac (o:=.lst [V.ref o0,V.ref o1]) hLL;obtain ⟨o,op,hop,ho,oo⟩:∃ (o:Addr) (op:List Str),J3 [V.ref o0,V.ref o1] wy=some (.ref o)/\OS o=some (.tup (op.map V.str))/\Lx gJ .non op:=by
   have cc:wy=0\/wy=1:=by lia
   rcases cc with rfl | rfl
   ·exact ⟨o0,[x0],rfl,g0,by simp,List.singleton_sublist.mpr (WL.mem_iff.mpr aj),rfl⟩
   ·refine ⟨o1,JN,rfl,g1,fun z=>?_,?_,rfl⟩
    ·have:=pm'.length_eq;rw [z] at this;simp at this
    ·rw [DR (Cw so') WM.pw (pm'.trans WL.symm)];exact List.Sublist.refl _
  refine ⟨_,rfl,LL,_,_,.ref o,rfl,rfl,AB.of Ab,hop,ge,fun T hT=>?_⟩;have SK:=s14.trans (Ac (o:=.tup [.ref c,.ref o]) hT);have se:=Wu.trans (Vw.trans SK);have Y2:=Vw.trans SK;exact k _ T c o m (x0 :: xr).length ps ws An A6 .non .none op (P8.same se) (q8.trans (Bl.of_same se)) Ab ⟨⟨⟨t1,t2,Hg,FY,Y2 _ _ hcc,Y2 _ _ h1,AM Z8 (fun b xs z=>se _ _ z),Y2 _ _ h2,AM X3 (fun b xs z=>se _ _ z)⟩,Ya.keepT (fun b xs z=>se _ _ z),by lia,by lia,ok1,ok2,by lia,by lia,.inl ⟨rfl,rfl⟩⟩,WM,SK _ _ ho,oo⟩
end
section
variable {P:Program} {w:World} {K:ZP} {mg:Str->Option Value} {base:Heap}
theorem Mb (h_range:mg "range"=none) (h_sorted:mg "sorted"=none) (h_tuple:mg "tuple"=none) {fNM:Addr} {fdNM:FuncData} (XNM:Fn K mg "_law_names" Cy ["_law_pen","_law_many"] fNM fdNM) (GNM:AH P w K mg base BK 2 fNM fdNM ["_law_pen","_law_many"] (Gb K)) {fT:Addr} {fdT:FuncData} (XT:Fn K mg "_law_take" AL ["_law_pen","_law_many"] fT fdT) (GT:AH P w K mg base BK 1 fT fdT ["_law_pen","_law_many"] (Dc K)) {f:Addr} {fd:FuncData} (F:E4 K "_law_ring" "_law_ring" Ef f fd):AH P w K mg base BK 4 f fd ["_law_pen"] (HZ K):=by
 refine F.ok Hj gP ca
 ·obtain ⟨p,rfl,_⟩:=h;rfl
 ·obtain ⟨p,rfl,hP,k⟩:=h;have nd:=Hj.nd;have hu:=Ez hr;have big:100000 < sizeLine:=by decide
  refine ⟨_,(Ae (Am (i:=1) nd rfl (Or.inr rfl) (Ak GNM (hr.mono bi) ci XNM.mg XNM.F.kp XNM.b .nil Aw (Aa (pv 0) (Aa Ag Ad))))
  (Ae (Am (i:=2) nd rfl (Or.inl rfl) (Ax Bj Ag (Ak GT (hr.mono bi) ci XT.mg XT.F.kp XT.b .nil Aw (Aa (pv 0) (Aa (Ax Nf Ag Ag) Ad)))))
  (Ae (Am (i:=3) nd rfl (Or.inl rfl) (Bi Ad))
  (Ae (Bp PassesOwn.never rfl (C0 ci h_range (Aa Ag Ad)) (Ah (i:=4) nd rfl ga)
  (Ae (Am (i:=5) nd rfl (Or.inl rfl) (Ay (Av K rfl) ci h_tuple PyProof.Rows.boot_tuple (Aa (Al Cg ci h_sorted PyProof.Rows.boot_sorted (Aa (Bi (Aa (A4 iK (pv 1) (pv 4) ce) (Aa (A4 iK (pv 1) (Ax Dn (Ax Bj (pv 4) Ag) Ag) ce) Ad))) Ad)) Ad)))
  (Aj (CP (EI PySem.F.plainAttrs_list PySem.F.slot_list_append PySem.F.type_list_append BG (pv 3) (Aa (Ax (Gn K rfl) (pv 5) (A7 (Aa (Ax DI (A4 iK (Bi (Aa Ag (Aa Ag (Aa Ag (Aa Ag Ad))))) (Ax Dn (pv 4) Ag) ce) (pv 2)) Ad))) Ad))))))
  (Ae (Am (i:=6) nd rfl (Or.inl rfl) (Al (BJ K rfl) ci h_sorted PyProof.Rows.boot_sorted (Aa (Bs (N:=["_law_k","_law_names_here"]) rfl CU (CJ [none,some 1]) (Kk ci h_range (Aa Ag (Aa Ag (Aa Ag Ad))))
   (fun s2 H C fp=>⟨(Ah (i:=0) (show (["_law_k","_law_names_here"]:List Str).Nodup by decide +kernel) rfl ga),Bc,(A7 (Aa (A4 iK (pv 1) (pv 0) ce) (Aa Ag Ad)))⟩)) Ad)))
  (Ae (Am (i:=7) nd rfl (Or.inl rfl) (Al (BJ K rfl) ci h_sorted PyProof.Rows.boot_sorted (Aa (Bs (N:=["_law_k","_law_names_here"]) rfl CU (CJ [none,some 1]) (Kk ci h_range (Aa Ag (Aa Ag (Aa Ag Ad))))
   (fun s2 H C fp=>⟨(Ah (i:=0) (show (["_law_k","_law_names_here"]:List Str).Nodup by decide +kernel) rfl ga),Bc,(A7 (Aa (A4 iK (pv 1) (pv 0) ce) (Aa Ag Ad)))⟩)) Ad)))
  (Ae (Am (i:=8) nd rfl (Or.inl rfl) (A7 (Aa (A7 (Aa (Ay (Av K rfl) ci h_tuple PyProof.Rows.boot_tuple (Aa (Al (CA K rfl) ci h_sorted PyProof.Rows.boot_sorted (Aa (pv 1) Ad)) Ad)) (Aa (Ay (Av K rfl) ci h_tuple PyProof.Rows.boot_tuple (Aa (Al (FP K rfl) ci h_sorted PyProof.Rows.boot_sorted (Aa (pv 3) Ad)) Ad)) Ad))) (Aa (Ay (Av K rfl) ci h_tuple PyProof.Rows.boot_tuple (Aa (pv 6) Ad)) (Aa (Ay (Av K rfl) ci h_tuple PyProof.Rows.boot_tuple (Aa (pv 7) Ad)) (Aa Ag Ad))))))
  (Aj (AJ (A7 (Aa (pv 8) (Aa (Ay (Av K rfl) ci h_tuple PyProof.Rows.boot_tuple (Aa (Al Cg ci h_sorted PyProof.Rows.boot_sorted (Aa (Bi (Aa (A4 iK (pv 1) Ag ce) (Aa (A4 iK (pv 1) Ag ce) Ad))) Ad)) Ad)) Ad)))))))))))),?_⟩
  have t30:(100000000:Int) < 10 ^ 30:=by decide
  refine ⟨_,rfl,p,8,rfl,hP,by decide,fun H2 D xs P2 k2 fD hD xl xnd xnm=>?_⟩;have nD:D ≠ p:=hP.ne fD;have gx:∀ j:Nat,j < 8->(xs.map V.str)[j]? = some (V.str (xs.getD j default)):=fun j hj=>by
   rw [ZV,ZN ad,ai,ZN ad];rfl
  have gm:∀ j:Nat,j < 8->xs.getD j default ∈ xs:=fun j hj=>by
   rw [ai,ZN ad];exact bh _
  have gi:∀ i j:Nat,i < 8->j < 8->xs.getD i default=xs.getD j default->i=j:=fun i j hi hj e=>by
   rw [ai,ai,ZN ad,ZN ad] at e;exact (cG xnd).mp e
  refine ⟨_,rfl,_,_,rfl,rfl,⟨by decide,by decide,by decide⟩,p,_,rfl,P2,by decide,by decide,fun d1 H3 P3 k3 Yq X8=>⟨_,_,rfl,rfl,?_⟩⟩;have d12:d1 < 1000000:=cB X8 bi;obtain ⟨tm,ht⟩:∃ tm:Int,tm=1 + d1:=⟨_,rfl⟩
  have F5:=k3 _ _ nD hD;refine ⟨(by show 0<=sizeLine; lia),fun W0 Xo=>?_⟩;have s4:=Ac (o:=.lst []) Xo;have Zl:(upd H3 W0 iF) W0=some iF:=Ab;generalize upd H3 W0 iF=H4 at s4 Zl ⊢;have Lp:=s4 _ _ F5;have nW:W0 ≠ p:=P3.ne Xo;have nWD:W0 ≠ D:=fun e=>by rw [e,F5] at Xo; cases Xo
  have P4:=P3.same s4;let f:Nat->AG:=fun j=>(xs.getD j default,xs.getD ((j + 1) % 8) default,([10,9,9,10].getD (j % 4) 0:Int) * tm)
  refine ⟨8,rfl,by decide,by decide,CG (n:=8) (fun i σ H'=>∃ (v4 v5:Option V) (acc:List V),σ=[some (.ref p),some (.ref D),some (.int tm),some (.ref W0),v4,v5,none,none,none]/\(∀ b u,b ≠ W0->H4 b=some u->H' b=some u)/\H' W0=some h9/\acc.length=i/\AU H' acc (((bD i).map fun j=>E7 (f j)).map G9)) ⟨_,_,[],by rw [ht]; rfl,(fun b u _ z=>z),Zl,rfl,.nil⟩ ?_ ?_⟩
  ·rintro i σ H' hi ⟨v4,v5,acc,rfl,ka,hWa,al,dts⟩;have hDa:=ka _ _ nWD.symm Lp;have i8:gt % 8 < 8:=cS _ bi;exists _,rfl,_,rfl,D,_,_,_,rfl,rfl,AB.of hDa,by rw [show (0 + (i:Int))=((i:Nat):Int) by lia]; exact BE (gx i hi)
   refine ⟨_,rfl,_,rfl,_,_,rfl,rfl,_,_,rfl,rfl,(by show (0:Int) < 8; decide),D,_,_,_,rfl,rfl,AB.of hDa,by rw [show (0 + (i:Int) + 1) % 8=((gt % 8:Nat):Int) by lia]; exact BE (gx _ i8),ge,fun l2 Kx=>?_⟩;have Of:=Ac (o:=.lst [V.str (f i).1,V.str (f i).2.1]) Kx;refine ⟨l2,(f i).1,(f i).2.1,rfl,Ab,fun l3 Ze=>?_⟩;have XG:=Of.trans (Ac (o:=.lst [V.str (AY (f i).1 (f i).2.1),V.str (AZ (f i).1 (f i).2.1)]) Ze);refine ⟨l3,_,rfl,.inl ⟨AB.of Ab,fun tp htp=>?_⟩⟩;have s5:=XG.trans (Ac (o:=.tup [V.str (AY (f i).1 (f i).2.1),V.str (AZ (f i).1 (f i).2.1)]) htp);have htt:(upd (upd (upd H' l2 (.lst [V.str (f i).1,V.str (f i).2.1])) l3 (.lst [V.str (AY (f i).1 (f i).2.1),V.str (AZ (f i).1 (f i).2.1)])) tp (.tup [V.str (AY (f i).1 (f i).2.1),V.str (AZ (f i).1 (f i).2.1)])) tp=some (.tup [V.str (AY (f i).1 (f i).2.1),V.str (AZ (f i).1 (f i).2.1)]):=Ab;show _
   generalize upd (upd (upd H' l2 (.lst [V.str (f i).1,V.str (f i).2.1])) l3 (.lst [V.str (AY (f i).1 (f i).2.1),V.str (AZ (f i).1 (f i).2.1)])) tp (.tup [V.str (AY (f i).1 (f i).2.1),V.str (AZ (f i).1 (f i).2.1)])=H5 at s5 htt ⊢;have Yg:=s5 _ _ hWa;refine ⟨_,rfl,.inl ⟨rfl,_,AB.of Yg⟩,_,rfl,(by show 4<=sizeLine; lia),fun l4 Zd=>?_⟩;have s6:=Ac (o:=.lst [V.int 10,V.int 9,V.int 9,V.int 10]) Zd;have i4:i % 4 < 4:=cS _ bi;have g4:[V.int 10,V.int 9,V.int 9,V.int 10][i % 4]? = some (V.int ([10,9,9,10].getD (i % 4) 0:Int)):=by
    have cc:i % 4=0\/i % 4=1\/i % 4=2\/i % 4=3:=by lia
    rcases cc with e | e | e | e <;> rw [e] <;> rfl
   have b4:-(2 ^ 64) < ([10,9,9,10].getD (i % 4) 0:Int)/\([10,9,9,10].getD (i % 4) 0:Int) < 2 ^ 64:=by
    have cc:i % 4=0\/i % 4=1\/i % 4=2\/i % 4=3:=by lia
    rcases cc with e | e | e | e <;> rw [e] <;> decide
   refine ⟨_,rfl,_,_,rfl,rfl,(by show (0:Int) < 4; decide),l4,_,_,_,rfl,rfl,AB.of Ab,by rw [show (0 + (i:Int)) % 4=((i % 4:Nat):Int) by lia]; exact BE g4,_,rfl,_,_,rfl,rfl,.inl b4,ie,fun t7 ht7=>?_⟩;have s7:=s6.trans (Ac (o:=.tup [V.int (f i).2.2]) ht7);refine Wg (K:=K) (s7 _ _ htt) Ab (by show 2 + 1<=sizeLine; lia) fun T H6 s8' Ky=>?_
   have s8:=s7.trans s8';have Ky:H6 T=some (.tup [V.str (AY (f i).1 (f i).2.1),V.str (AZ (f i).1 (f i).2.1),V.int (f i).2.2]):=Ky;have hW6:=s8 _ _ Yg;have nT:T ≠ W0:=BM Ky hW6 (fun z=>by cases z);exists W0,acc,_,rfl,rfl,hW6,by lia
   exists _,_,acc ++ [V.ref T],rfl,fun b u nb z=>by rw [Af nb]; exact s8 _ _ (s5 _ _ (ka _ _ nb z)),Ab,by rw [ZQ,al]; rfl
   rw [dt,ZY,ZY];refine DX (CS dts fun b ys z=>?_) (.tup (vs:=[V.str (AY (f i).1 (f i).2.1),V.str (AZ (f i).1 (f i).2.1),V.int (f i).2.2]) (by rw [Af nT]; exact Ky) (.cons (.str _) (.cons (.str _) (.cons (.int _) .nil))));rw [Af (fun e=>by rw [e,hWa] at z; cases z)];exact s8 _ _ (s5 _ _ z)
  rintro σ H5 ⟨v4,v5,accW,rfl,ka,Yg,alW,ddW⟩;have HR:=ka _ _ nWD.symm Lp;have P5:Dx K H5 p:=P4.keepL nW.symm Zl fun b u nb z=>ka _ _ nb z
  have q5:Bl p H H5:=fun b u nb z=>by
   have z3:=k3 _ _ nb (k2 _ _ nb z);exact ka _ _ (fun e=>by rw [e,Xo] at z3; cases z3) (s4 _ _ z3)
  exists 0,8,2,4,rfl,by decide +kernel,by decide,PyProof.noPylong_small ad,by decide +kernel
  refine Kj (n:=4) (fun R i σ H' acc=>∃ v0:Option V,σ=[v0,some (.ref D)]/\Ar H5 H'/\H' R=some h9/\acc.length=i/\AU H' acc (((bD i).map fun j=>(xs.getD (0 + 2 * j) default,(0:Int))).map DF))
   (by lia) (fun R hR=>⟨_,rfl,Ac hR,Ab,rfl,.nil⟩) (fun R i σ H' acc hR ⟨v0,_,sa,hRR,al,_⟩=>⟨hRR,al⟩) ?_ ?_
  ·rintro R i σ H' acc B hR hi ⟨v0,rfl,sa,hRR,al,dts⟩ hB;have e8:ik[0 + 2 * i]? = some (V.str (xs.getD (0 + 2 * i) default)):=gx _ ad;refine ⟨_,rfl,_,rfl,D,_,_,_,rfl,rfl,AB.of (sa _ _ HR),by rw [show (((0:Int)) + (i:Int) * 2)=((0 + 2 * i:Nat):Int) by lia]; exact BE e8,ge,fun W hW=>?_⟩;have sW:=Ac (o:=.tup [V.str (xs.getD (0 + 2 * i) default),V.int 0]) hW;have Sq:=sW _ _ hRR;have nW:W ≠ R:=fun e=>by rw [e,hRR] at hW; cases hW
   refine hB _ _ _ Sq ⟨_,rfl,Bb (sa.trans sW) hR,Ab,by rw [ZQ,al]; rfl,?_⟩;rw [dt,ZY,ZY];refine DX (AM dts fun b ys z=>?_) (.tup (by rw [Af nW]; exact Ab) (.cons (.str _) (.cons (.int _) .nil)));rw [Af (fun e=>by rw [e,hRR] at z; cases z)];exact sW _ _ z
  rintro R1 σ H6 Wk fR1 ⟨v0,rfl,s6,Zr,al1,Yo⟩;refine ⟨R1,Wk,_,rfl,AB.of Zr,Yo,by lia,fun l1 Hg An QB Z9 XQ Y6=>?_⟩;have s7:=s6.trans (Ac (o:=.lst Hg) QB);have Xm:(upd H6 l1 (.lst Hg)) l1=some (.lst Hg):=Ab;have X4:=AM Z9 fun b ys z=>Ac (o:=.lst Hg) QB _ _ z
  generalize upd H6 l1 (.lst Hg)=H7 at s7 Xm X4 ⊢;have UP:=s7 _ _ HR;exists 1,8,2,4,rfl,by decide +kernel,by decide,PyProof.noPylong_small ad,by decide +kernel
  refine Kj (n:=4) (fun R i σ H' acc=>∃ v0:Option V,σ=[v0,some (.ref D)]/\Ar H7 H'/\H' R=some h9/\acc.length=i/\AU H' acc (((bD i).map fun j=>(xs.getD (1 + 2 * j) default,(1:Int))).map DF))
   (by lia) (fun R hR=>⟨_,rfl,Ac hR,Ab,rfl,.nil⟩) (fun R i σ H' acc hR ⟨v0,_,sa,hRR,al,_⟩=>⟨hRR,al⟩) ?_ ?_
  ·rintro R i σ H' acc B hR hi ⟨v0,rfl,sa,hRR,al,dts⟩ hB;have e8:ik[1 + 2 * i]? = some (V.str (xs.getD (1 + 2 * i) default)):=gx _ ad;refine ⟨_,rfl,_,rfl,D,_,_,_,rfl,rfl,AB.of (sa _ _ UP),by rw [show (((1:Int)) + (i:Int) * 2)=((1 + 2 * i:Nat):Int) by lia]; exact BE e8,ge,fun W hW=>?_⟩;have sW:=Ac (o:=.tup [V.str (xs.getD (1 + 2 * i) default),V.int 1]) hW;have Sq:=sW _ _ hRR;have nW:W ≠ R:=fun e=>by rw [e,hRR] at hW; cases hW
   refine hB _ _ _ Sq ⟨_,rfl,Bb (sa.trans sW) hR,Ab,by rw [ZQ,al]; rfl,?_⟩;rw [dt,ZY,ZY];refine DX (AM dts fun b ys z=>?_) (.tup (by rw [Af nW]; exact Ab) (.cons (.str _) (.cons (.int _) .nil)));rw [Af (fun e=>by rw [e,hRR] at z; cases z)];exact sW _ _ z
  rintro R2 σ H8 Wj Yi ⟨v0,rfl,s8,Ss,al2,MC⟩;refine ⟨R2,Wj,_,rfl,AB.of Ss,MC,by lia,fun l2 FY A6 Kx Z6 T4 rr2=>?_⟩;have s9:=s8.trans (Ac (o:=.lst FY) Kx);have Xj:(upd H8 l2 (.lst FY)) l2=some (.lst FY):=Ab;have X2:=AM Z6 fun b ys z=>Ac (o:=.lst FY) Kx _ _ z
  generalize upd H8 l2 (.lst FY)=H9 at s9 Xj X2 ⊢;have WJ:=s7.trans s9;have SO:=WJ _ _ HR;have hW9:=WJ _ _ Yg;have ZC:=CS ddW fun b ys z=>WJ _ _ z
  have Zf:=s9 _ _ Xm;have Z7:=AM X4 fun b ys z=>s9 _ _ z
  refine ⟨_,rfl,D,xs,rfl,AB.of SO,by lia,fun l3 ps Ze pp sp=>⟨l3,_,rfl,.inl ⟨AB.of Ab,fun T1 Qr=>?_⟩⟩⟩;have sA:=(Ac (o:=.lst (ps.map V.str)) Ze).trans (Ac (o:=.tup (ps.map V.str)) Qr);have Xq:(upd (upd H9 l3 (.lst (ps.map V.str))) T1 (.tup (ps.map V.str))) T1=some (.tup (ps.map V.str)):=Ab;generalize upd (upd H9 l3 (.lst (ps.map V.str))) T1 (.tup (ps.map V.str))=HA at sA Xq ⊢;refine ⟨_,rfl,W0,accW,_,rfl,AB.of (sA _ _ hW9),CS ZC (fun b ys z=>sA _ _ z),by lia,fun l4 vsW ws Zd dvW pmW=>⟨l4,_,rfl,.inl ⟨AB.of Ab,fun T2 OH=>⟨ge,fun m hm=>?_⟩⟩⟩⟩;have sB:=(Ac (o:=.lst vsW) Zd).trans ((Ac (o:=.tup vsW) OH).trans (Ac (o:=.tup [.ref T1,.ref T2]) hm));have hmB:(upd (upd (upd HA l4 (.lst vsW)) T2 (.tup vsW)) m (.tup [.ref T1,.ref T2])) m=some (.tup [.ref T1,.ref T2]):=Ab;have Xp:=Ac (o:=.tup [.ref T1,.ref T2]) hm _ _ (Ab (H:=upd HA l4 (.lst vsW)) (a:=T2) (o:=.tup vsW));generalize upd (upd (upd HA l4 (.lst vsW)) T2 (.tup vsW)) m (.tup [.ref T1,.ref T2])=HB at sB hmB Xp ⊢;have Vv:=sA.trans sB;refine ⟨_,rfl,l1,_,rfl,.inl ⟨AB.of (Vv _ _ Zf),fun t1 F3=>?_⟩⟩;have sC:=Ac (o:=.tup Hg) F3;refine ⟨_,rfl,l2,_,rfl,.inl ⟨AB.of (sC _ _ (Vv _ _ Xj)),fun t2 FK=>⟨(by show 4<=sizeLine; lia),fun c hc=>?_⟩⟩⟩;have sD:=sC.trans ((Ac (o:=.tup FY) FK).trans (Ac (o:=.tup [.ref m,.ref t1,.ref t2,.int 2]) hc));have h1:=Ac (o:=.tup [.ref m,.ref t1,.ref t2,.int 2]) hc _ _ (Ac (o:=.tup FY) FK _ _ (Ab (H:=HB) (a:=t1) (o:=.tup Hg)));have h2:=Ac (o:=.tup [.ref m,.ref t1,.ref t2,.int 2]) hc _ _ (Ab (H:=upd HB t1 (.tup Hg)) (a:=t2) (o:=.tup FY));have hcc:(upd (upd (upd HB t1 (.tup Hg)) t2 (.tup FY)) c (.tup [.ref m,.ref t1,.ref t2,.int 2])) c=some (.tup [.ref m,.ref t1,.ref t2,.int 2]):=Ab;generalize upd (upd (upd HB t1 (.tup Hg)) t2 (.tup FY)) c (.tup [.ref m,.ref t1,.ref t2,.int 2])=HD at sD h1 h2 hcc ⊢;have s9D:=Vv.trans sD;have AO:=s9D _ _ SO;refine ⟨_,rfl,_,rfl,D,_,_,_,rfl,rfl,AB.of AO,BE (gx 0 bi),_,rfl,D,_,_,_,rfl,rfl,AB.of AO,BE (gx 4 bi),ge,fun l5 hl5=>?_⟩;refine ⟨l5,xs.getD 0 default,xs.getD 4 default,rfl,Ab,fun l6 hl6=>⟨l6,_,rfl,.inl ⟨AB.of Ab,fun o ho=>?_⟩⟩⟩;have sE:=(Ac (o:=.lst [V.str (xs.getD 0 default),V.str (xs.getD 4 default)]) hl5).trans ((Ac (o:=.lst [V.str (AY (xs.getD 0 default) (xs.getD 4 default)),V.str (AZ (xs.getD 0 default) (xs.getD 4 default))]) hl6).trans (Ac (o:=.tup [V.str (AY (xs.getD 0 default) (xs.getD 4 default)),V.str (AZ (xs.getD 0 default) (xs.getD 4 default))]) ho));refine ⟨ge,fun T hT=>?_⟩;have sF:=sE.trans (Ac (o:=.tup [.ref c,.ref o]) hT);have hoF:=Ac (o:=.tup [.ref c,.ref o]) hT _ _ (Ab (H:=upd (upd HD l5 (.lst [V.str (xs.getD 0 default),V.str (xs.getD 4 default)])) l6 (.lst [V.str (AY (xs.getD 0 default) (xs.getD 4 default)),V.str (AZ (xs.getD 0 default) (xs.getD 4 default))])) (a:=o) (o:=.tup [V.str (AY (xs.getD 0 default) (xs.getD 4 default)),V.str (AZ (xs.getD 0 default) (xs.getD 4 default))]));have hTF:(upd gL T (.tup [.ref c,.ref o])) T=some (.tup [.ref c,.ref o]):=Ab;show Q _ (upd gL T (.tup [.ref c,.ref o]))
  generalize upd gL T (.tup [.ref c,.ref o])=HF at sF hoF hTF;have rg:=Pu xl xnd (show 1<=tm by lia);have rn:∀ (lo:Nat) (nu:Int),lo<=1->0<=nu->nu<=1->∀ {rs:List BU},rs.Perm ((bD 4).map fun j=>(xs.getD (lo + 2 * j) default,nu))->Et ps nu rs/\rs.length=4/\∀ j:Nat,j < 4->xs.getD (lo + 2 * j) default ∈ rs.map (·.1):=fun lo nu l1 n0 n1 {rs} pm=>by
   have len:=pm.length_eq;rw [ZM,bF] at len;refine ⟨⟨fun r hr=>?_,?_,fun r hr=>?_,by lia⟩,len,fun j hj=>?_⟩
   ·obtain ⟨j,hj,e⟩:=ZR.mp (pm.mem_iff.mp hr);rw [<-e];exact pp.mem_iff.mpr (gm _ (by have:=bo.mp hj; lia))
   ·refine (pm.map (·.1)).nodup_iff.mpr ?_;rw [aE];unfold List.Nodup;rw [bq];refine List.Pairwise.imp_of_mem (fun {a b} ha hb B0 e=>?_) (eW (n:=4));have:=gi _ _ (by have:=bo.mp ha; lia) (by have:=bo.mp hb; lia) e;lia
   ·obtain ⟨j,hj,e⟩:=ZR.mp (pm.mem_iff.mp hr);rw [<-e];exact ⟨b5 _,dX n1 bi⟩
   ·exact ZR.mpr ⟨_,pm.mem_iff.mpr (ZR.mpr ⟨j,bo.mpr hj,rfl⟩),rfl⟩
  obtain ⟨ok1,VG,Nk⟩:=rn 0 0 bi bi bi XQ;obtain ⟨ok2,len2,_⟩:=rn 1 1 bi bi bi T4;have WM:=Y6.names ok1.nd;have YF:xs.getD 0 default ≠ xs.getD 4 default:=fun e=>by have:=gi 0 4 bi bi e; lia
  have op2:Bn [AY (xs.getD 0 default) (xs.getD 4 default),AZ (xs.getD 0 default) (xs.getD 4 default)]:=MX YF;have sall:=sD.trans sF;refine k _ T c o m 8 ps ws An A6 (.int 2) (.int 2) [AY (xs.getD 0 default) (xs.getD 4 default),AZ (xs.getD 0 default) (xs.getD 4 default)] ((P5.same WJ).same (Vv.trans sall)) (q5.trans (Bl.of_same (WJ.trans (Vv.trans sall)))) hTF ⟨⟨⟨t1,t2,Hg,FY,sF _ _ hcc,sF _ _ h1,AM Z7 (fun b ys z=>(Vv.trans sall) _ _ z),sF _ _ h2,AM X2 (fun b ys z=>(Vv.trans sall) _ _ z)⟩,⟨⟨⟨T1,T2,vsW,sall _ _ hmB,(sB.trans sall) _ _ Xq,sall _ _ Xp,CS dvW (fun b ys z=>(sB.trans sall) _ _ z)⟩,by rw [pp.length_eq]; exact xl,pp.nodup_iff.mpr xnd,fun x hx=>xnm x (pp.mem_iff.mp hx),?_,fun u hu=>?_⟩,⟨xs,_,pp,by rw [aE]; exact pmW,rg⟩,sp,?_⟩,by decide,by decide,ok1,ok2,by lia,by lia,.inr ⟨2,rfl,rfl,by decide,by decide⟩⟩,WM,hoF,by simp,Dl op2 WM fun s hs=>?_,rfl⟩
  ·have:=pmW.length_eq;rw [ZM,bF] at this;lia
  ·obtain ⟨j,hj,e⟩:=ZR.mp (pmW.mem_iff.mp hu);have hj:=bo.mp hj;have en:=GP (List.Perm.refl _) (fun u hu=>⟨(rg.1 u hu).1,(rg.1 u hu).2.1⟩) u (by rw [aE]; exact pmW.mem_iff.mp hu);have l9:([10,9,9,10].getD (j % 4) 0:Int)<=10/\1<=([10,9,9,10].getD (j % 4) 0:Int):=by
    have cc:j % 4=0\/j % 4=1\/j % 4=2\/j % 4=3:=by lia
    rcases cc with e | e | e | e <;> rw [e] <;> decide
   exists xnm _ en.1,xnm _ en.2,?_
   ·rw [<-e];exact (rg.1 (f j) (ZR.mpr ⟨j,bo.mpr hj,rfl⟩)).2.2.2
   ·rw [<-e];show ([10,9,9,10].getD (j % 4) 0:Int) * tm < 10 ^ 30
    have:=b7 l9.1 (show 0<=tm by lia);lia
  ·have:=pmW.length_eq;rw [ZM,bF] at this;lia
  ·rcases ZZ.mp hs with rfl | hs
   ·unfold AY;split
    ·exact Nk 2 bi
    ·exact Nk 0 bi
   ·rw [aa.mp hs];unfold AZ;split
    ·exact Nk 2 bi
    ·exact Nk 0 bi
end
section
variable {P:Program} {w:World} {K:ZP} {mg:Str->Option Value} {base:Heap}
theorem Lh (h_range:mg "range"=none) (h_repr:mg "repr"=none) {fLs:Addr} {fdLs:FuncData} (XLs:Fn K mg "_law_lengths" CO ["_law_plan"] fLs fdLs) (GLs:AH P w K mg base BK 1 fLs fdLs ["_law_plan"] Oa) {fLD:Addr} {fdLD:FuncData} (XLD:Fn K mg "_law_due" Fi ["_law_case_here","_law_lengths_here","_law_opening"] fLD fdLD) (GLD:AH P w K mg base BK 3 fLD fdLD ["_law_case_here","_law_lengths_here","_law_opening"] Rk) {fBR:Addr} {fdBR:FuncData} (XBR:Fn K mg "bettered" Ei ["case","opening"] fBR fdBR) (GBR:AH P w K mg base BK 7 fBR fdBR ["case","opening"] Iq) {f:Addr} {fd:FuncData} (F:E4 K "_law_right" "_law_right" D4 f fd):AH P w K mg base BK 8 f fd ["_law_case_here","_law_openings_asked"] Ka:=by
 refine F.ok Ge gP ca
 ·obtain ⟨c,L,m,n,xs,ws,An,A6,x,d,us,gs,rfl,_⟩:=h;rfl
 ·obtain ⟨c,L,m,n,xs,ws,An,A6,x,d,us,gs,rfl,cw,ri,hL,tU,go,ul,k⟩:=h;have nd:=Ge.nd;have HQ:=hr.units;have big:100000 < sizeLine:=by decide
  refine ⟨_,(Ae (Am (i:=2) nd rfl (Or.inl rfl) (Ak GLs (hr.mono bi) ci XLs.mg XLs.F.kp XLs.b .nil Aw (Aa (A4 (AX K rfl) (pv 0) Ag ce) Ad)))
  (Ae (Bp PassesOwn.never rfl (BF K rfl (pv 1)) (Ah (i:=3) nd rfl ga)
  (Ae (Am (i:=4) nd rfl (Or.inl rfl) (Ak GLD (hr.mono bi) ci XLD.mg XLD.F.kp XLD.b .nil Aw (Aa (pv 0) (Aa (pv 2) (Aa (pv 3) Ad)))))
  (Aj (Bp PassesOwn.never rfl (C0 ci h_range (Aa Ag Ad)) (Ah (i:=5) nd rfl ga)
  (Ae (Am (i:=6) nd rfl (Or.inl rfl) (Ak GBR (hr.mono bi) ci XBR.mg XBR.F.kp XBR.b .nil Aw (Aa (pv 0) (Aa (pv 3) Ad))))
  (Ae (Dm (By O0 (Al (K5 hr.gd HQ) ci h_repr PyProof.Rows.boot_repr (Aa (pv 6) Ad)) (Al (K5 hr.gd HQ) ci h_repr PyProof.Rows.boot_repr (Aa (pv 4) Ad)) (BI _))
  (Aj (AJ LX))
  BH)
  (Aj (CP (RL PySem.F.plainAttrs_list PySem.F.slot_list_clear PySem.F.type_list_clear RY (pv 6))))))))))
  (Aj (AJ LX)))),?_⟩
  have sn:=cw.ok1.nd;have sl:(An.map (·.1)).length<=10:=by rw [ZM]; exact cw.l1
  have nms:∀ s ∈ An.map (·.1),Bq s=true:=fun s hs=>by
   obtain ⟨r,OG,rfl⟩:=ZR.mp hs;exact cw.map.at'.nm _ (cw.ok1.sub r OG)
  have fine:∀ {op:List Str} {r:List iq},Lx gJ x op->EA ws An A6 x op r->r.length<=1024->Du (.list (r.map fun f=>PyData.tuple (f.map PyData.str))) 2 80000:=fun {op r} o br rl=>by
   refine (Du.list (k:=1) (b:=70) fun d hd=>?_).mono (ZU _) (by rw [ZM]; lia);obtain ⟨f,hf,rfl⟩:=ZR.mp hd;obtain ⟨i,hi,e⟩:=aq hf;obtain ⟨of',_⟩:=br.at ri o i f (by rw [ZN hi,e]);have:=TH of' sn sl;exact (Du.tuple (Qu fun s hs=>nms s (of'.2.1.subset hs))).mono (ZU _) (by rw [ZM]; lia)
  obtain ⟨t1,t2,Fu,NP,hc,F3,Hy,FK,hd2⟩:=cw.ex;refine ⟨_,rfl,c,_,_,_,rfl,rfl,AI.of hc,rfl,m,n,xs,ws,rfl,cw.map,cw.n1,cw.n30,fun H1 A1 s1 fA kA=>?_⟩;exists _,rfl,L,rfl,⟨_,AB.of (s1 _ _ hL)⟩
  refine EL (xs:=us) (fun i σ H'=>∃ v3 v4 v5 v6:Option V,σ=[some (.ref c),some (.ref L),some (.ref A1),v3,v4,v5,v6]/\Ar H1 H') ⟨_,_,_,_,rfl,Ar.refl _⟩ (fun i σ H' _ ⟨_,_,_,_,_,sa⟩=>AB.of (sa _ _ (s1 _ _ hL))) ?_ (fun σ H' ⟨_,_,_,_,_,sa⟩=>k _ (s1.trans sa));rintro i v σ H2 hv ⟨v3,v4,v5,v6,rfl,s2⟩;obtain ⟨o,op,rfl,eo,ho⟩:=tU.get hv;have oo:=go op (ZS eo);have Ww:=s1.trans s2;have cx2:Ff H2 c o m n xs ws An A6 x d op:=⟨cw.same Ww,ri,Ww _ _ ho,oo⟩
  refine ⟨_,rfl,_,rfl,_,rfl,c,A1,o,m,n,xs,ws,An,A6,x,d,op,rfl,cx2,kA.same s2,fun H3 D us3 r3 s3 fD hD tU3 br3 rl3=>?_⟩;refine ⟨2,rfl,by decide,by decide,CG (n:=2) (fun _ σ H'=>∃ v5 v6:Option V,σ=[some (.ref c),some (.ref L),some (.ref A1),some (.ref o),some (.ref D),v5,v6]/\Ar H3 H') ⟨_,_,rfl,Ar.refl _⟩ ?_ (fun σ H' ⟨v5,v6,e,sa⟩=>⟨_,_,_,_,e,s2.trans (s3.trans sa)⟩)⟩;rintro j σ H4 hj ⟨v5,v6,rfl,s4⟩;have cx4:=cx2.keepT fun b ys z=>s4 _ _ (s3 _ _ z)
  refine ⟨_,rfl,_,rfl,c,o,m,n,xs,ws,An,A6,x,d,op,rfl,cx4,fun H5 D5 us5 r5 s5 fD5 HR tU5 br5 rl5=>?_⟩;have er:r5=r3:=br5.uniq ri oo br3;subst er;have UT:=fine oo br5 rl5;exists _,rfl,D5,_,rfl,.lst HR tU5.dats,UT.sho,UT.nod,by have:=UT.dp; lia,UT.len2 (ZU _)
  exists _,rfl,D,_,rfl,.lst (s5 _ _ (s4 _ _ hD)) (tU3.keep fun b ys z=>s5 _ _ (s4 _ _ z)).dats,UT.sho,UT.nod,by have:=UT.dp; lia,UT.len2 (ZU _),rfl,_,rfl
  refine BB (fun z=>by simp at z) (fun _=>?_);exists _,rfl,.inl ⟨rfl,_,AB.of HR⟩,D5,_,rfl,rfl,HR;exact ⟨_,_,rfl,s4.trans (Bb s5 fD5)⟩
end
section
variable {P:Program} {w:World} {K:ZP} {mg:Str->Option Value} {base:Heap}
theorem J8  {fCOs:Addr} {fdCOs:FuncData} (XCOs:Fn K mg "_law_costs" D6 ["_law_case_here","_law_lengths_here","_law_opening"] fCOs fdCOs) (GCOs:AH P w K mg base BK 1 fCOs fdCOs ["_law_case_here","_law_lengths_here","_law_opening"] Od) {fLX:Addr} {fdLX:FuncData} (XLX:Fn K mg "_law_exchanges" Cr ["_law_case_here","_law_opening"] fLX fdLX) (GLX:AH P w K mg base BK 1 fLX fdLX ["_law_case_here","_law_opening"] Ob) {f:Addr} {fd:FuncData} (F:E4 K "_law_better" "_law_better" De f fd):AH P w K mg base BK 2 f fd ["_law_case_here","_law_lengths_here","_law_opening"] Rl:=by
 refine F.ok Fx gP ca
 ·obtain ⟨c,A0,o,m,n,xs,ws,An,A6,x,d,op,rfl,_⟩:=h;rfl
 ·obtain ⟨c,A0,o,m,n,xs,ws,An,A6,x,d,op,rfl,cx,kn,k⟩:=h;have nd:=Fx.nd;have big:100000 < sizeLine:=by decide
  refine ⟨_,(Ae (Am (i:=3) nd rfl (Or.inl rfl) (Ak GCOs (hr.mono bi) ci XCOs.mg XCOs.F.kp XCOs.b .nil Aw (Aa (pv 0) (Aa (pv 1) (Aa (pv 2) Ad)))))
  (Ae (Am (i:=4) nd rfl (Or.inl rfl) FC)
  (Ae (Bp PassesOwn.never rfl (BF K rfl (Ak GLX (hr.mono bi) ci XLX.mg XLX.F.kp XLX.b .nil Aw (Aa (pv 0) (Aa (pv 2) Ad)))) (BD K rfl rfl (Au (Ah (i:=5) nd rfl ga) (Au (Ah (i:=6) nd rfl ga) BC)))
  (Ae (Am (i:=7) nd rfl (Or.inl rfl) (Ak GCOs (hr.mono bi) ci XCOs.mg XCOs.F.kp XCOs.b .nil Aw (Aa (pv 0) (Aa (pv 1) (Aa (pv 6) Ad)))))
  (Aj (Dm (By Hs (pv 7) (pv 3) (BI _))
  (Ae (Am (i:=3) nd rfl (Or.inl rfl) (pv 7))
  (Aj (Am (i:=4) nd rfl (Or.inl rfl) (pv 6))))
  BH))))
  (Aj (AJ (pv 4)))))),?_⟩
  have sn:=cx.cw.ok1.nd;obtain ⟨on,os,oe⟩:=CQ cx.op sn;have sl:(An.map (·.1)).length<=10:=by rw [ZM]; exact cx.cw.l1
  have o10:∀ {ys:List Str},W7 gJ ys->ys.length<=10:=fun {ys} h=>az (List.Nodup.length_le_of_subset h.2.1 (fun s hs=>h.2.2 s hs)) sl
  have W6:=Gw cx.op sn sl;have el:(EO gJ x op).length<=(Cj gJ op).length:=aN _ _;refine ⟨_,rfl,_,rfl,_,rfl,c,m,A0,o,n,xs,ws,An,A6,x,d,op,rfl,cx.cw,kn,cx.ho,⟨cx.op.1,on,os⟩,TH cx.op sn sl,fun H1 t0 s1 L9=>?_⟩;have cx1:=cx.keepT fun b ys z=>s1 _ _ z
  refine ⟨_,rfl,_,rfl,c,o,m,n,xs,ws,An,A6,x,d,op,rfl,cx1,fun H2 L vs ps s2 fL hL rr pk pw pd=>?_⟩;have vl:=rr.1;have pl:=pk.length_eq;rw [ZM,ZM] at pl;have Ww:=s1.trans s2;have uq:∀ {e e':Bz},e ∈ EO gJ x op->e' ∈ EO gJ x op->e.1=e'.1->e=e':=fun {e e'} h h' q=>TZ (Dk sn on) h h' q
  exists L,rfl,⟨_,AB.of hL⟩
  refine EL (xs:=vs) (fun i σ H'=>∃ (v5 v6 v7:Option V) (le:Int) (fv:V),σ=[some (.ref c),some (.ref A0),some (.ref o),some (.int le),some fv,v5,v6,v7]/\Ar H2 H'/\((le=t0/\fv=.non/\∀ e ∈ EO gJ x op,e.1 ∈ (ps.take i).map (·.1)->∀ zs t,B8 op e.2.1 e.2.2 zs->BS ws An A6 zs t->t0<=t) \/
   ∃ (e:Bz) (t:Addr) (zs:List Str),e ∈ EO gJ x op/\e.1 ∈ (ps.take i).map (·.1)/\fv=.ref t/\H2 t=some (.tup (zs.map V.str))/\B8 op e.2.1 e.2.2 zs/\BS ws An A6 zs le/\le < t0/\∀ e' ∈ EO gJ x op,e'.1 ∈ (ps.take i).map (·.1)->∀ JL t',B8 op e'.2.1 e'.2.2 JL->BS ws An A6 JL t'->A5 (Cf (t',e'.1)) (Cf (le,e.1))=false))
   ⟨_,_,_,t0,.non,rfl,Ar.refl _,.inl ⟨rfl,rfl,fun e _ h=>by rw [cR] at h; cases h⟩⟩ (fun i σ H' _ ⟨_,_,_,_,_,_,sa,_⟩=>AB.of (sa _ _ hL)) ?_ ?_
  ·rintro i v σ H' hv ⟨v5,v6,v7,le,fv,rfl,sa,inv⟩;have hi:i < ps.length:=by rw [<-vl]; exact (ZT.mp hv).1
   have hp:ps[i]? = some ps[i]:=ZN hi;obtain ⟨t,ke,rfl,ht,hke⟩:=rr.2 i v _ hv hp;obtain ⟨e,tz,zs,em,ek,pz,hz,oc⟩:=pd _ (bh hi);have oz:=oc.opn em on os;rw [pz] at ht;exists t,_,rfl,AI.of (sa _ _ ht),rfl,_,_,rfl,_,_,rfl,rfl;refine ⟨_,rfl,_,rfl,_,rfl,c,m,A0,tz,n,xs,ws,An,A6,x,d,zs,rfl,cx.cw.same (Ww.trans sa),kn.same (Ww.trans sa),sa _ _ hz,oz,o10 oz,fun H4 tt s4 tot=>?_⟩;have tk:(ps.take gt).map (·.1)=(ps.take i).map (·.1) ++ [e.1]:=by rw [ax,hp,ZY,ek]; rfl
   have srt:∀ k ∈ (ps.take i).map (·.1),A5 (e.1.map CL.s) (k.map CL.s)=false:=fun k hk=>by
    have q:=(dA.mp (by rw [<-dw i (ps.map (·.1))] at pw; exact pw)).2.2;refine q k (by rw [<-List.map_take]; exact hk) e.1 ?_;rw [<-List.map_drop,eN hi,ag,ek];exact aj
   exists _,rfl,_,rfl,_,_,rfl,rfl,_,rfl;refine BB iu iu
   ·have z':tt < le:=of_decide_eq_true z;refine ⟨_,rfl,_,rfl,_,_,_,tt,.ref tz,rfl,sa.trans s4,.inr ⟨e,tz,zs,em,by rw [tk]; exact ae _ aj,rfl,hz,oc,tot,?_,fun e' DB hk JL t' RT FZ=>?_⟩⟩
    ·rcases inv with ⟨rfl,_⟩ | ⟨_,_,_,_,_,_,_,_,_,h,_⟩ <;> lia
    ·rw [tk] at hk;rcases ak.mp hk with hk | hk
     ·rcases inv with ⟨rfl,_,h⟩ | ⟨e0,_,XB,h0,_,_,_,XX,NU,h,h2⟩
      ·have:=h e' DB hk JL t' RT FZ;exact Ig ad
      ·have q:=h2 e' DB hk JL t' RT FZ;by_cases y:t' < le
       ·rw [TR y] at q;cases q
       ·exact Ig ad
     ·have:=uq DB em (aa.mp hk);subst this;rw [RT.uniq oc] at FZ;rw [FZ.uniq tot];exact D9 _
   ·have z':¬ tt < le:=fun q=>z (decide_eq_true q)
    exists _,_,_,le,fv,rfl,sa.trans s4;rcases inv with ⟨rfl,rfl,h⟩ | ⟨e0,te,XB,h0,k0,rfl,YS,XX,NU,h,h2⟩
    ·refine .inl ⟨rfl,rfl,fun e' DB hk JL t' RT FZ=>?_⟩;rw [tk] at hk;rcases ak.mp hk with hk | hk
     ·exact h e' DB hk JL t' RT FZ
     ·have:=uq DB em (aa.mp hk);subst this;rw [RT.uniq oc] at FZ;rw [FZ.uniq tot];lia
    ·refine .inr ⟨e0,te,XB,h0,by rw [tk]; exact bx _ k0,rfl,YS,XX,NU,h,fun e' DB hk JL t' RT FZ=>?_⟩;rw [tk] at hk;rcases ak.mp hk with hk | hk
     ·exact h2 e' DB hk JL t' RT FZ
     ·have:=uq DB em (aa.mp hk);subst this;rw [RT.uniq oc] at FZ;rw [FZ.uniq tot];by_cases y:le < tt
      ·exact Ig y
      ·have:tt=le:=by lia
       rw [this,TU];exact srt _ k0
  rintro σ H3 ⟨v5,v6,v7,le,fv,rfl,sa,inv⟩;rw [vl,aw] at inv;have all:∀ e ∈ EO gJ x op,e.1 ∈ ps.map (·.1):=fun e he=>pk.symm.subset (ZR.mpr ⟨e,he,rfl⟩)
  refine ⟨_,rfl,k _ fv t0 (Ww.trans sa) L9 ?_⟩;rcases inv with ⟨rfl,rfl,h⟩ | ⟨e0,te,XB,h0,k0,rfl,YS,XX,NU,h,h2⟩
  ·exact .inl ⟨rfl,fun e he zs t t1 oc tot t1'=>by rw [t1'.uniq L9]; exact h e he (all e he) zs t oc tot⟩
  ·exact .inr ⟨te,XB,rfl,sa _ _ YS,e0,le,t0,h0,XX,NU,L9,h,fun e' DB JL t' RT FZ=>h2 e' DB (all e' DB) JL t' RT FZ⟩
theorem Ni  {fLB:Addr} {fdLB:FuncData} (XLB:Fn K mg "_law_better" De ["_law_case_here","_law_lengths_here","_law_opening"] fLB fdLB) (GLB:AH P w K mg base BK 2 fLB fdLB ["_law_case_here","_law_lengths_here","_law_opening"] Rl) {f:Addr} {fd:FuncData} (F:E4 K "_law_due" "_law_due" Fi f fd):AH P w K mg base BK 3 f fd ["_law_case_here","_law_lengths_here","_law_opening"] Rk:=by
 refine F.ok Iv gP ca
 ·obtain ⟨c,A0,o,m,n,xs,ws,An,A6,x,d,op,rfl,_⟩:=h;rfl
 ·obtain ⟨c,A0,o,m,n,xs,ws,An,A6,x,d,op,rfl,cx,kn,k⟩:=h;have nd:=Iv.nd;have big:100000 < sizeLine:=by decide
  refine ⟨_,(Ae (Am (i:=3) nd rfl (Or.inl rfl) (Bi (Aa (pv 2) Ad)))
  (Ae (Am (i:=4) nd rfl (Or.inl rfl) (Ak GLB (hr.mono bi) ci XLB.mg XLB.F.kp XLB.b .nil Aw (Aa (pv 0) (Aa (pv 1) (Aa (pv 2) Ad)))))
  (Ae (IC PassesOwn.never (DG (Ic (pv 4)))
  (Ae (CP (EI PySem.F.plainAttrs_list PySem.F.slot_list_append PySem.F.type_list_append BG (pv 3) (Aa (pv 4) Ad)))
  (Aj (Am (i:=4) nd rfl (Or.inl rfl) (Ak GLB (hr.mono bi) ci XLB.mg XLB.F.kp XLB.b .nil Aw (Aa (pv 0) (Aa (pv 1) (Aa (pv 4) Ad))))))))
  (Aj (AJ (pv 3)))))),?_⟩
  have sn:=cx.cw.ok1.nd;have sl:(An.map (·.1)).length<=10:=by rw [ZM]; exact cx.cw.l1
  have ho:=cx.ho;refine ⟨_,rfl,ie,fun L hL=>?_⟩;have sL:=Ac (o:=.lst [V.ref o]) hL;refine ⟨_,rfl,_,rfl,_,rfl,c,A0,o,m,n,xs,ws,An,A6,x,d,op,rfl,cx.keepT fun b ys z=>sL _ _ z,kn.same sL,fun H1 v1 t1 s1 QT ZH=>?_⟩;have R3:=sL.trans s1;refine ⟨fun mm σ H'=>∃ (pre:List iq) (cur:List Str) (v:V) (t0:Int) (us:List V),mm=t0.toNat/\σ=[some (.ref c),some (.ref A0),some (.ref o),some (.ref L),some v]/\Ar H H'/\H' L=some (.lst us)/\BP H' us (pre ++ [cur])/\BS ws An A6 cur t0/\U4 H' ws An A6 x cur v/\(∀ r,EA ws An A6 x cur r->EA ws An A6 x op (pre ++ r))/\(pre ++ [cur]).Nodup/\(∀ y ∈ pre ++ [cur],Lx gJ x y)/\∀ y ∈ pre ++ [cur],∀ t,BS ws An A6 y t->t0<=t,
   ⟨_,[],op,v1,t1,[V.ref o],rfl,rfl,R3,s1 _ _ Ab,.cons (R3 _ _ ho) .nil,QT,ZH,(fun r h=>h),aD.mpr ⟨(fun h=>nomatch h),bE⟩,(fun y hy=>by rw [aa.mp hy]; exact cx.op),fun y hy t tt=>by rw [aa.mp hy] at tt; rw [tt.uniq QT]; exact b5 _⟩,?_⟩
  rintro mm σ H' ⟨pre,cur,v,t0,us,rfl,rfl,sa,hLL,tU,tot,bv,gp,rn,ro,rt⟩;exists _,rfl,_,rfl;have rl:=Kh sn sl rn ro;rcases bv with ⟨rfl,bn⟩ | ⟨t,zs,rfl,ht,bs⟩
  ·refine BB (fun z=>by simp at z) (fun _=>?_);exact ⟨_,rfl,k _ L us _ sa hL hLL tU (gp _ (.end bn)) rl⟩
  ·refine BB (fun _=>?_) (fun z=>by simp at z);exists _,fun _ _ z=>z
   obtain ⟨e,tz,Yz,g1,g2,g3,g4,g5,g6⟩:=id bs;have oc:=ro cur (ae _ aj);obtain ⟨cn,csub,_⟩:=CQ oc sn;have oz:Lx gJ x zs:=g2.ops g1 cx.ri cn csub;have e0:=g4.uniq tot;subst e0;have z10:=TH oz sn sl;have tz0:=JY cx.cw ⟨oz.1,oz.2.1.nodup sn,fun s hs=>oz.2.1.subset hs⟩ z10 g3;have ul:=tU.len;exists _,rfl,.inl ⟨rfl,_,AB.of hLL⟩,_,rfl,L,us,.ref t,rfl,rfl,hLL,by lia
   have s2:Ar H (upd H' L (.lst (us ++ [.ref t]))):=Bb sa hL;have Te:∀ b ys,H' b=some (.tup ys)->(upd H' L (.lst (us ++ [.ref t]))) b=some (.tup ys):=fun b ys q=>by
    rw [Af (fun e=>by rw [e,hLL] at q; cases q)];exact q
   have QC:(upd H' L (.lst (us ++ [.ref t]))) L=some (.lst (us ++ [.ref t])):=Ab;generalize upd H' L (.lst (us ++ [.ref t]))=H2 at s2 Te QC ⊢;refine ⟨_,rfl,_,rfl,_,rfl,c,A0,t,m,n,xs,ws,An,A6,x,d,zs,rfl,⟨cx.cw.same s2,cx.ri,Te _ _ ht,oz⟩,kn.same s2,fun H3 v3 t3 s3 KO ZG=>?_⟩;have e3:=KO.uniq g3;subst e3;have znew:zs ∉ pre ++ [cur]:=fun hm=>by
    have:=rt zs hm t3 KO;lia
   refine ⟨t3.toNat,by lia,pre ++ [cur],zs,v3,t3,us ++ [.ref t],rfl,rfl,s2.trans s3,s3 _ _ QC,?_,KO,ZG,fun r hr=>?_,?_,fun y hy=>?_,fun y hy t' tt=>?_⟩
   ·exact (tU.keep fun b ys q=>s3 _ _ (Te _ _ q)).app (.cons (s3 _ _ (Te _ _ ht)) .nil)
   ·rw [aX];exact gp _ (.step bs hr)
   ·exact aW.mpr ⟨rn,aD.mpr ⟨(fun h=>nomatch h),bE⟩,fun a ha b hb e=>znew (by rw [<-aa.mp hb,<-e]; exact ha)⟩
   ·rcases ak.mp hy with hy | hy
    ·exact ro y hy
    ·rw [aa.mp hy];exact oz
   ·rcases ak.mp hy with hy | hy
    ·have:=rt y hy t' tt;lia
    ·rw [aa.mp hy] at tt;rw [tt.uniq KO];exact b5 _
end
section
variable {P:Program} {w:World} {K:ZP} {mg:Str->Option Value} {base:Heap}
theorem Mf  {fBE:Addr} {fdBE:FuncData} (XBE:Fn K mg "better" Gh ["case","opening"] fBE fdBE) (GBE:AH P w K mg base BK 6 fBE fdBE ["case","opening"] LI) {f:Addr} {fd:FuncData} (F:E4 K "bettered" "bettered" Ei f fd):AH P w K mg base BK 7 f fd ["case","opening"] Iq:=by
 refine F.ok Hm gP ca
 ·obtain ⟨c,o,m,n,xs,ws,An,A6,x,d,op,rfl,_⟩:=h;rfl
 ·obtain ⟨c,o,m,n,xs,ws,An,A6,x,d,op,rfl,cx,k⟩:=h;have nd:=Hm.nd;have big:100000 < sizeLine:=by decide
  refine ⟨_,(Ae (Am (i:=2) nd rfl (Or.inl rfl) (Bi (Aa (pv 1) Ad)))
  (Ae (Am (i:=3) nd rfl (Or.inl rfl) (Ak GBE (hr.mono bi) ci XBE.mg XBE.F.kp XBE.b .nil Aw (Aa (pv 0) (Aa (pv 1) Ad))))
  (Ae (IC PassesOwn.never (DG (Ic (pv 3)))
  (Ae (CP (EI PySem.F.plainAttrs_list PySem.F.slot_list_append PySem.F.type_list_append BG (pv 2) (Aa (pv 3) Ad)))
  (Aj (Am (i:=3) nd rfl (Or.inl rfl) (Ak GBE (hr.mono bi) ci XBE.mg XBE.F.kp XBE.b .nil Aw (Aa (pv 0) (Aa (pv 3) Ad)))))))
  (Aj (AJ (pv 2)))))),?_⟩
  have sn:=cx.cw.ok1.nd;have sl:(An.map (·.1)).length<=10:=by rw [ZM]; exact cx.cw.l1
  have ho:=cx.ho;refine ⟨_,rfl,ie,fun L hL=>?_⟩;have sL:=Ac (o:=.lst [V.ref o]) hL;refine ⟨_,rfl,_,rfl,c,o,m,n,xs,ws,An,A6,x,d,op,rfl,cx.keepT fun b ys z=>sL _ _ z,fun H1 v1 t1 s1 QT ZH=>?_⟩;have R3:=sL.trans s1;refine ⟨fun mm σ H'=>∃ (pre:List iq) (cur:List Str) (v:V) (t0:Int) (us:List V),mm=t0.toNat/\σ=[some (.ref c),some (.ref o),some (.ref L),some v]/\Ar H H'/\H' L=some (.lst us)/\BP H' us (pre ++ [cur])/\BS ws An A6 cur t0/\U4 H' ws An A6 x cur v/\(∀ r,EA ws An A6 x cur r->EA ws An A6 x op (pre ++ r))/\(pre ++ [cur]).Nodup/\(∀ y ∈ pre ++ [cur],Lx gJ x y)/\∀ y ∈ pre ++ [cur],∀ t,BS ws An A6 y t->t0<=t,
   ⟨_,[],op,v1,t1,[V.ref o],rfl,rfl,R3,s1 _ _ Ab,.cons (R3 _ _ ho) .nil,QT,ZH,(fun r h=>h),aD.mpr ⟨(fun h=>nomatch h),bE⟩,(fun y hy=>by rw [aa.mp hy]; exact cx.op),fun y hy t tt=>by rw [aa.mp hy] at tt; rw [tt.uniq QT]; exact b5 _⟩,?_⟩
  rintro mm σ H' ⟨pre,cur,v,t0,us,rfl,rfl,sa,hLL,tU,tot,bv,gp,rn,ro,rt⟩;exists _,rfl,_,rfl;have rl:=Kh sn sl rn ro;rcases bv with ⟨rfl,bn⟩ | ⟨t,zs,rfl,ht,bs⟩
  ·refine BB (fun z=>by simp at z) (fun _=>?_);exact ⟨_,rfl,k _ L us _ sa hL hLL tU (gp _ (.end bn)) rl⟩
  ·refine BB (fun _=>?_) (fun z=>by simp at z);exists _,fun _ _ z=>z
   obtain ⟨e,tz,Yz,g1,g2,g3,g4,g5,g6⟩:=id bs;have oc:=ro cur (ae _ aj);obtain ⟨cn,csub,_⟩:=CQ oc sn;have oz:Lx gJ x zs:=g2.ops g1 cx.ri cn csub;have e0:=g4.uniq tot;subst e0;have z10:=TH oz sn sl;have tz0:=JY cx.cw ⟨oz.1,oz.2.1.nodup sn,fun s hs=>oz.2.1.subset hs⟩ z10 g3;have ul:=tU.len;exists _,rfl,.inl ⟨rfl,_,AB.of hLL⟩,_,rfl,L,us,.ref t,rfl,rfl,hLL,by lia
   have s2:Ar H (upd H' L (.lst (us ++ [.ref t]))):=Bb sa hL;have Te:∀ b ys,H' b=some (.tup ys)->(upd H' L (.lst (us ++ [.ref t]))) b=some (.tup ys):=fun b ys q=>by
    rw [Af (fun e=>by rw [e,hLL] at q; cases q)];exact q
   have QC:(upd H' L (.lst (us ++ [.ref t]))) L=some (.lst (us ++ [.ref t])):=Ab;generalize upd H' L (.lst (us ++ [.ref t]))=H2 at s2 Te QC ⊢;refine ⟨_,rfl,_,rfl,c,t,m,n,xs,ws,An,A6,x,d,zs,rfl,⟨cx.cw.same s2,cx.ri,Te _ _ ht,oz⟩,fun H3 v3 t3 s3 KO ZG=>?_⟩;have e3:=KO.uniq g3;subst e3;have znew:zs ∉ pre ++ [cur]:=fun hm=>by
    have:=rt zs hm t3 KO;lia
   refine ⟨t3.toNat,by lia,pre ++ [cur],zs,v3,t3,us ++ [.ref t],rfl,rfl,s2.trans s3,s3 _ _ QC,?_,KO,ZG,fun r hr=>?_,?_,fun y hy=>?_,fun y hy t' tt=>?_⟩
   ·exact (tU.keep fun b ys q=>s3 _ _ (Te _ _ q)).app (.cons (s3 _ _ (Te _ _ ht)) .nil)
   ·rw [aX];exact gp _ (.step bs hr)
   ·exact aW.mpr ⟨rn,aD.mpr ⟨(fun h=>nomatch h),bE⟩,fun a ha b hb e=>znew (by rw [<-aa.mp hb,<-e]; exact ha)⟩
   ·rcases ak.mp hy with hy | hy
    ·exact ro y hy
    ·rw [aa.mp hy];exact oz
   ·rcases ak.mp hy with hy | hy
    ·have:=rt y hy t' tt;lia
    ·rw [aa.mp hy] at tt;rw [tt.uniq KO];exact b5 _
end
section
variable {P:Program} {w:World} {K:ZP} {mg:Str->Option Value} {base:Heap}
theorem PZ (h_list:mg "list"=none) (h_min:mg "min"=none) {fOC:Addr} {fdOC:FuncData} (XOC:Fn K mg "outcomes_of" CM ["case","opening"] fOC fdOC) (GOC:AH P w K mg base BK 4 fOC fdOC ["case","opening"] NZ) {fCO:Addr} {fdCO:FuncData} (XCO:Fn K mg "costs_of" Eh ["case","chosen"] fCO fdCO) (GCO:AH P w K mg base BK 5 fCO fdCO ["case","chosen"] Kb) {f:Addr} {fd:FuncData} (F:E4 K "better" "better" Gh f fd):AH P w K mg base BK 6 f fd ["case","opening"] LI:=by
 refine F.ok Kf gP ca
 ·obtain ⟨c,o,m,n,xs,ws,An,A6,x,d,op,rfl,_⟩:=h;rfl
 ·obtain ⟨c,o,m,n,xs,ws,An,A6,x,d,op,rfl,cx,k⟩:=h;have nd:=Kf.nd;have hu:=Ez hr;have HQ:=hr.units;have big:100000 < sizeLine:=by decide
  refine ⟨_,(Ae (Am (i:=2) nd rfl (Or.inr rfl) (Ak GOC (hr.mono bi) ci XOC.mg XOC.F.kp XOC.b .nil Aw (Aa (pv 0) (Aa (pv 1) Ad))))
  (Ae (Am (i:=3) nd rfl (Or.inr rfl) (Ak GCO (hr.mono bi) ci XCO.mg XCO.F.kp XCO.b .nil Aw (Aa (pv 0) (Aa (Ax Ng (Bi (Aa (pv 1) Ad)) (Ay (Ju rfl) ci h_list PyProof.Rows.boot_list (Aa (RL PySem.F.plainAttrs_dict PySem.F.slot_dict_values PySem.F.type_dict_values Qe (pv 2)) Ad))) Ad))))
  (Ae (Gk (ix:=4) (N:=["exchange","opening","outcomes","costs"]) nd rfl ga rfl CU (CJ [none,some 1,some 2,some 3]) (UH (pv 2))
   (fun s2 H C fp=>⟨(Ah (i:=0) (show (["exchange","opening","outcomes","costs"]:List Str).Nodup by decide +kernel) rfl ga),(D8 (By Hs (Bd hu (pv 3) (Bd hu (pv 2) (pv 0) ce) ce) (Bd hu (pv 3) (pv 1) ce) (BI _))),(A7 (Aa (Bd hu (pv 3) (Bd hu (pv 2) (pv 0) ce) ce) ir))⟩))
  (Aj (AJ (ID (LU (pv 4) (fun _=>rfl)) (Bd hu (pv 2) (A4 (AX K rfl) (Al (M4 rfl HQ) ci h_min PyProof.Rows.boot_min (Aa (pv 4) Ad)) Ag ce) ce) FC)))))),?_⟩
  have sn:=cx.cw.ok1.nd;obtain ⟨on,os,oe⟩:=CQ cx.op sn;have l1:=cx.cw.l1;have sl:(An.map (·.1)).length<=10:=by rw [ZM]; exact l1
  have W6:=Gw cx.op sn sl;have el:(EO gJ x op).length<=(Cj gJ op).length:=aN _ _;have ho:=cx.ho;refine ⟨_,rfl,_,rfl,c,o,m,n,xs,ws,An,A6,x,d,op,rfl,cx,fun H1 D kvs s1 fD hD oc=>?_⟩;have kl:=oc.len;obtain ⟨outs,tu,ol,oo⟩:=oc.tups;refine ⟨_,rfl,_,rfl,ie,fun L1 Zt=>?_⟩;have sL:=Ac (o:=.lst [V.ref o]) Zt;refine ⟨_,rfl,.inr (.inr (.inl ⟨rfl,.inr ⟨_,sL _ _ hD⟩⟩)),D,kvs,rfl,rfl,sL _ _ hD,fun r OG=>?_⟩;have sr:=Ac (o:=JQ r D) OG;refine ⟨r,D,kvs,rfl,Ab,sr _ _ (sL _ _ hD),fun l hl=>?_⟩;have XG:=Ac (o:=.lst (kvs.map (·.2))) hl;refine ⟨L1,l,[V.ref o],kvs.map (·.2),rfl,rfl,XG _ _ (sr _ _ Ab),Ab,by rw [ZM]; show 1 + kvs.length<=sizeLine; lia,fun X9 QC=>?_⟩;have s2:=sL.trans (sr.trans (XG.trans (Ac (o:=.lst ([V.ref o] ++ kvs.map (·.2))) QC)));have hll:(upd (upd (upd (upd H1 L1 (.lst [V.ref o])) r (JQ r D)) l (.lst (kvs.map (·.2)))) X9 (.lst ([V.ref o] ++ kvs.map (·.2)))) X9=some (.lst ([V.ref o] ++ kvs.map (·.2))):=Ab;generalize upd (upd (upd (upd H1 L1 (.lst [V.ref o])) r (JQ r D)) l (.lst (kvs.map (·.2)))) X9 (.lst ([V.ref o] ++ kvs.map (·.2)))=H2 at s2 hll ⊢;have und:=Nd sn on ol oo;have opn:∀ ys ∈ outs,W7 gJ ys/\ys ≠ op:=fun ys hy=>by
   obtain ⟨i,hi,e⟩:=aq hy;have ee:(EO gJ x op)[i]? = some ((EO gJ x op)[i]'(by lia)):=ZN _;have oz:=oo i _ ys ee (by rw [ZN hi,e]);exact ⟨oz.opn (ZS ee) on os,oz.ne_op (ES (aO.mp (ZS ee)).1)⟩
  refine ⟨c,X9,m,n,xs,ws,An,A6,x,d,V.ref o :: kvs.map (·.2),op :: outs,rfl,cx.cw.same (s1.trans s2),(show H2 X9=some (.lst (V.ref o :: kvs.map (·.2))) from hll),.cons (s2 _ _ (s1 _ _ ho)) (tu.keep fun b ys z=>s2 _ _ z),aD.mpr ⟨fun hm=>(opn op hm).2 rfl,und⟩,fun ys hy=>?_,by rw [aB]; lia,fun H3 C ckv s3 fC hC ck cv=>?_⟩
  ·rcases ZZ.mp hy with rfl | hy
   ·exact ⟨cx.op.1,on,os⟩
   ·exact (opn ys hy).1
  have Y3:=s2.trans s3;have F5:=Y3 _ _ hD;have nDC:C ≠ D:=fun e=>by rw [e,s2 _ _ hD] at fC; cases fC
  have cnd:(ckv.map (·.1)).Nodup:=by
   rw [ck];exact Cp (fun a b e=>Gv e) (aD.mpr ⟨fun hm=>(opn op hm).2 rfl,und⟩)
  have cget:∀ (i:Nat) ys,(op :: outs)[i]? = some ys->∃ nn,ckv[i]? = some (ys.map Sum.inr,.int nn)/\BS ws An A6 ys nn:=fun i ys e=>by
   have ek:(ckv.map (·.1))[i]? = some (ys.map Sum.inr):=by rw [ck,ZV,e]; rfl
   rw [ZV] at ek;cases q:ckv[i]? with
   | none=>rw [q] at ek; cases ek
   | some cp=>
    rw [q] at ek;obtain ⟨cpk,cpv⟩:=cp;have ek':cpk=ys.map Sum.inr:=ar.inj ek;subst ek';obtain ⟨nn,rfl,tot⟩:=cv ys cpv (ZS q);exact ⟨nn,rfl,tot⟩
  obtain ⟨t0,et0,L9⟩:=cget 0 op rfl;refine ⟨_,rfl,D,kvs,rfl,F5,fun ob ts H4 fz tl tt=>?_⟩;have Lp:H4 D=some (.frz ob ig):=by rw [fz.2]; exact Ab
  have s4:∀ b u,b ≠ D->H3 b=some u->H4 b=some u:=fun b u e z=>by rw [fz.2,Af e]; exact z
  have Wv:Ar H H4:=fun b u z=>s4 _ _ (Ai z fD) (Y3 _ _ (s1 _ _ z))
  have VC:Cv H4 op kvs (EO gJ x op):=oc.keep fun b ys z=>s4 _ _ (fun e=>by rw [e,hD] at z; cases z) (Y3 _ _ z)
  have hC4:=s4 _ _ nDC hC;have ho4:=Wv _ _ ho;have dgO:∀ {NJ:Hp},Ar H4 NJ->BQ NJ C (.ref o) (some (.int t0)):=fun {NJ} s=>.inr ⟨ckv,op.map Sum.inr,o,.inl (s _ _ hC4),rfl,by rw [s _ _ ho4,aE]; rfl,(HY cnd et0).symm⟩
  refine BY Oz (xs:=ts.map V.ref) (fun L i σ H' acc=>∃ (v0:Option V) (ks:List (Int × List Str)),σ=[v0,some (.ref o),some (.ref D),some (.ref C)]/\Ar H4 H'/\H' L=some h9/\acc.length=ks.length/\(∀ (j:Nat) v p,acc[j]? = some v->ks[j]? = some p->Uy H' v p)/\(∀ p ∈ ks,∃ e zs,e ∈ EO gJ x op/\e.1=p.2/\B8 op e.2.1 e.2.2 zs/\BS ws An A6 zs p.1/\p.1 < t0)/\(∀ e ∈ (EO gJ x op).take i,∀ zs t,B8 op e.2.1 e.2.2 zs->BS ws An A6 zs t->t < t0->(t,e.1) ∈ ks)/\acc.length<=i)
   (by rw [ZM]; lia) (fun L hL=>⟨_,[],rfl,Ac hL,Ab,rfl,(fun j v p e=>by cases e),(fun p hp=>nomatch hp),(fun e he=>by rw [cR] at he; cases he),ZU _⟩) (fun L i σ H' acc hL ⟨v0,ks,_,sa,hLL,_,_,_,_,al⟩=>⟨sa _ _ Lp,hLL,al⟩) ?_ ?_
  ·rintro L i σ H' acc x' B N hL ex ⟨v0,ks,rfl,sa,hLL,kle,kk,kd,kc,al⟩ hB hN;obtain ⟨T,eT,rfl⟩:∃ T,ts[i]? = some T/\x'=.ref T:=by
    rw [ZV] at ex;cases q:ts[i]? with
    | none=>rw [q] at ex; cases ex
    | some y=>rw [q] at ex; exact ⟨y,rfl,(ar.inj ex).symm⟩
   have hi:i < kvs.length:=by rw [<-tl]; exact (ZT.mp eT).1
   have ek:kvs[i]? = some kvs[i]:=ZN hi;obtain ⟨e,ee,ke⟩:=VC.mem_get ek;have hT:=tt i T _ eT ek;rw [ke] at hT;have hTs:H4 T=some (.tup (e.1.map V.str)):=by rw [hT,aE]; rfl
   obtain ⟨t,zs,vv,hz,ocz⟩:=VC.val (Dk sn on) ee;have dgD:BQ H' D (.ref T) (some (.ref t)):=.inr ⟨kvs,e.1.map Sum.inr,T,.inr ⟨ob,sa _ _ Lp⟩,rfl,sa _ _ hT,vv.symm⟩;have ez:(op :: outs)[i + 1]? = some zs:=by
    rw [bU];have Uc:i < outs.length:=by lia
    have:=oo i e _ ee (ZN Uc);rw [ZN Uc,this.uniq ocz]
   obtain ⟨nn,ecp,tot⟩:=cget gt zs ez;have hzk:H' t=some (.tup ((zs.map (Sum.inr:Str->AF)).map kV)):=by rw [sa _ _ hz,aE]; rfl
   have dgC:BQ H' C (.ref t) (some (.int nn)):=.inr ⟨ckv,zs.map Sum.inr,t,.inl (sa _ _ hC4),rfl,hzk,(HY cnd ecp).symm⟩;have em:=ZS ee;have tk:∀ e',e' ∈ (EO gJ x op).take gt->e' ∈ (EO gJ x op).take i\/e'=e:=fun e' h=>by
    rw [ax,ee] at h;rcases ak.mp h with h | h
    ·exact .inl h
    ·exact .inr (aa.mp h)
   exists _,rfl,_,rfl,_,rfl,D,.ref t,rfl,dgD,C,.int nn,rfl,dgC,_,rfl,_,rfl,C,.int t0,rfl,dgO sa,_,_,rfl,rfl,_,rfl;refine BB iu iu
   ·have z':nn < t0:=of_decide_eq_true z;refine ⟨_,rfl,_,rfl,_,rfl,D,.ref t,rfl,dgD,C,.int nn,rfl,dgC,_,rfl,ge,fun W hW=>?_⟩;have sW:=Ac (o:=.tup [V.int nn,V.ref T]) hW;have hLW:=sW _ _ hLL;have tp:∀ b ys,H' b=some (.tup ys)->(upd (upd H' W (.tup [V.int nn,V.ref T])) L (.lst (acc ++ [V.ref W]))) b=some (.tup ys):=fun b ys q=>by
     rw [Af (fun e=>by rw [e,hLL] at q; cases q)];exact sW _ _ q
    refine hB _ _ _ hLW ⟨_,ks ++ [(nn,e.1)],rfl,Bb (sa.trans sW) hL,Ab,by rw [ZQ,ZQ,kle]; rfl,fun j v p e1 e2=>?_,fun p hp=>?_,fun e' DB JL t' o' QR lt'=>?_,by rw [ZQ]; simp; lia⟩
    ·by_cases hj:j < acc.length
     ·rw [aI hj] at e1;rw [aI ad] at e2;exact (kk j v p e1 e2).same tp
     ·have hj2:=(ZT.mp e1).1;rw [ZQ,aZ] at hj2;have hje:j=acc.length:=by lia
      subst hje;rw [aG (ZU _),cF] at e1;rw [kle,aG (ZU _),cF] at e2;cases e1
      cases e2
      have nWL:W ≠ L:=fun e=>by rw [e,hLL] at hW; cases hW
      exact ⟨W,T,rfl,by rw [Af nWL]; exact Ab,tp _ _ (sa _ _ hTs)⟩
    ·rcases ak.mp hp with hp | hp
     ·exact kd p hp
     ·rw [aa.mp hp];exact ⟨e,zs,em,rfl,ocz,tot,z'⟩
    ·rcases tk e' DB with h | rfl
     ·exact bx _ (kc e' h JL t' o' QR lt')
     ·rw [o'.uniq ocz] at QR;rw [QR.uniq tot];exact ae _ aj
   ·have z':¬ nn < t0:=fun q=>z (decide_eq_true q)
    refine hN _ _ ⟨_,ks,rfl,sa,hLL,kle,kk,kd,fun e' DB JL t' o' QR lt'=>?_,by lia⟩;rcases tk e' DB with h | rfl
    ·exact kc e' h JL t' o' QR lt'
    ·rw [o'.uniq ocz] at QR;rw [QR.uniq tot] at lt';exact absurd lt' z'
  ·rintro L σ H5 acc hL ⟨v0,ks,rfl,s5,hLL,kle,kk,kd,kc,al⟩;rw [ZM,tl,kl,aw] at kc;have s05:=Wv.trans s5;exists _,rfl,!acc.isEmpty,.inl ⟨acc,AB.of hLL,rfl⟩;cases ks with
   | nil=>
    have ea:acc=[]:=bp.mp kle;subst ea;refine GK ?_;refine k _ _ t0 s05 L9 (.inl ⟨rfl,fun e he zs t Yz o' QR tz=>?_⟩);rw [tz.uniq L9];by_cases q:t < t0
    ·exact absurd (kc e he zs t o' QR q) gl
    ·lia
   | cons p0 ks=>
    rw [show (!acc.isEmpty)=true from by cases acc with | nil=>simp at kle | cons a b=>rfl];refine IY ?_;refine ⟨_,rfl,_,rfl,L,acc,p0 :: ks,rfl,hLL,kle,by simp,kk,fun v p hp kn hmin=>?_⟩;obtain ⟨w',lx,rfl,hw,hx⟩:=kn;obtain ⟨e,zs,g1,g2,g3,g4,g5⟩:=kd p hp;obtain ⟨i,hi,ei⟩:=aq g1;have ee:(EO gJ x op)[i]? = some e:=by rw [ZN hi,ei]
    obtain ⟨t,Ys,vv,hz,ocz⟩:=VC.val (Dk sn on) ee;have zz:=ocz.uniq g3;subst zz;exists w',_,_,_,rfl,rfl,AI.of hw,rfl,D,.ref t,rfl,.inr ⟨kvs,e.1.map Sum.inr,lx,.inr ⟨ob,s5 _ _ Lp⟩,rfl,?_,vv.symm⟩
    ·rw [hx,<-g2,aE];rfl
    ·refine k _ _ t0 s05 L9 (.inr ⟨t,Ys,rfl,s5 _ _ hz,e,p.1,t0,g1,g3,g4,L9,g5,fun e' DB JL t' o' QR=>?_⟩);rw [g2];by_cases q:t' < t0
     ·exact hmin _ (kc e' DB JL t' o' QR q)
     ·refine Ig ad
end
section
variable {P:Program} {w:World} {K:ZP} {mg:Str->Option Value} {base:Heap}
theorem GC (h_len:mg "len"=none) (h_sorted:mg "sorted"=none) (h_tuple:mg "tuple"=none)  {f:Addr} {fd:FuncData} (F:E4 K "_law_exchanges" "_law_exchanges" Cr f fd):AH P w K mg base BK 1 f fd ["_law_case_here","_law_opening"] Ob:=by
 refine F.ok DS gP ca
 ·obtain ⟨c,o,m,n,xs,ws,An,A6,x,d,op,rfl,_⟩:=h;rfl
 ·obtain ⟨c,o,m,n,xs,ws,An,A6,x,d,op,rfl,cx,k⟩:=h;have nd:=DS.nd;have HQ:=hr.units;have big:100000 < sizeLine:=by decide
  refine ⟨_,(Ae (Gk (ix:=2) (N:=["_law_place","_law_amount","_law_opening"]) nd rfl ga rfl CU (CJ [none,none,some 1]) (AV K rfl (A4 (AX K rfl) (pv 0) Ag ce))
   (fun s2 H C fp=>⟨(BD K rfl (n:=2) rfl (Au (Ah (i:=0) iB rfl ga) (Au (Ah (i:=1) iB rfl ga) BC))),(D8 (By (Kn K rfl) (pv 0) (pv 2) ci)),(pv 0)⟩))
  (Ae (Am (i:=3) nd rfl (Or.inl rfl) (Bi Ad))
  (Ae (PS.weak (t':=fun D σ H'=>∃ (OT F0:Addr) (oth:List Str),σ=[some (.ref c),some (.ref o),some (.ref OT),some (.ref F0),none,none]/\oth=Be gJ op/\Ar H H'/\H' OT=some (.lst (oth.map V.str))/\H' F0=some iF/\H F0=none/\F0 ≠ OT/\∀ (H2:Hp) (F:Addr) (vs:List V),Ar H H2->H F=none->F ≠ OT->H2 OT=some (.lst (oth.map V.str))->H2 F=some (.lst vs)->G8 H2 op vs ((oth.map E8).filter (Bx x op))->D.nx [some (.ref c),some (.ref o),some (.ref OT),some (.ref F),none,none] H2) (Dm (LS (DG (IG (A4 (AX K rfl) (pv 0) Ag ce))) (Iy (By Hs (Al (A8 K rfl) ci h_len PySem.boot_len (Aa (pv 1) Ad)) (A4 (AX K rfl) (pv 0) Ag ce) (BI _)))).pt
  (Aj (Gk (ix:=3) (N:=["_law_place","_law_opening"]) nd rfl ga rfl CU (CJ [none,some 1]) (BF K rfl (pv 2))
   (fun s2 H C fp=>⟨(Ah (i:=0) (show (["_law_place","_law_opening"]:List Str).Nodup by decide +kernel) rfl ga),Bc,(A7 (Aa (A7 (Aa CD ir)) (Aa (Ay (Av K rfl) ci h_tuple PyProof.Rows.boot_tuple (Aa (Al DC ci h_sorted PyProof.Rows.boot_sorted (Aa (Ax (Gn K rfl) (pv 1) (A7 ir)) Ad)) Ad)) Ad)))⟩)))
  BH) ?w1)
  (Ae (Bp PassesOwn.never rfl (AV K rfl (pv 1)) (Ah (i:=4) nd rfl (Or.inr rfl))
  (Ae (Am (i:=5) nd rfl (Or.inr rfl) (Ay F6 ci h_tuple PyProof.Rows.boot_tuple (Aa (Bs (N:=["_law_place","_law_house"]) rfl CU (CJ [none,some 4]) (AV K rfl (pv 1))
   (fun s2 H C fp=>⟨(Ah (i:=0) (show (["_law_place","_law_house"]:List Str).Nodup by decide +kernel) rfl ga),(D8 (By O0 (pv 0) (pv 1) (BI _))),(pv 0)⟩)) Ad)))
  (Ae (PS.weak (t':=fun D σ H'=>∃ (OT F lf:Addr) (h:Str) (vs:List V) (L:List Bz),σ=[some (.ref c),some (.ref o),some (.ref OT),some (.ref F),some (.str h),some (.ref lf)]/\H' F=some (.lst vs)/\G8 H' op vs L/\H' lf=some (.tup ((Bh op (some h)).map V.str))/\vs.length<=100/\CF x op.length=true/\(∀ s ∈ op,Bq s=true)/\∀ (H2:Hp) (FY:List V),(∀ b u,b ≠ F->H' b=some u->H2 b=some u)->H2 F=some (.lst FY)->G8 H2 op FY (L ++ [EN h].filter (Bx x op))->D.nx [some (.ref c),some (.ref o),some (.ref OT),some (.ref F),some (.str h),some (.ref lf)] H2) (Dm (By (PV HQ) (pv 5) (A7 Ad) (BI _))
  (Aj (CP (EI PySem.F.plainAttrs_list PySem.F.slot_list_append PySem.F.type_list_append BG (pv 3) (Aa (A7 (Aa (A7 (Aa CD (Aa (pv 4) Ad))) (Aa (pv 5) Ad))) Ad))))
  BH) ?w2)
  (Aj (CP (EI PySem.F.plainAttrs_list PySem.F.slot_list_extend PySem.F.type_list_extend Qf (pv 3) (Aa (Bs (N:=["_law_place","_law_house","_law_left"]) rfl CU (CJ [none,some 4,some 5]) (BF K rfl (pv 2))
   (fun s2 H C fp=>⟨(Ah (i:=0) (show (["_law_place","_law_house","_law_left"]:List Str).Nodup by decide +kernel) rfl ga),Bc,(A7 (Aa (A7 (Aa CD (Aa (pv 1) ir))) (Aa (Ay (Av K rfl) ci h_tuple PyProof.Rows.boot_tuple (Aa (Al DC ci h_sorted PyProof.Rows.boot_sorted (Aa (Ax (Gn K rfl) (pv 2) (A7 ir)) Ad)) Ad)) Ad)))⟩)) Ad)))))))
  (Aj (AJ (Al (Js K rfl HQ) ci h_sorted PyProof.Rows.boot_sorted (Aa (pv 3) Ad)))))))),?_⟩
  case w1=>
   rintro D σ H' ⟨OT,F0,oth,rfl,eoth,s2,hO,VW,fF0,nFO,kk⟩;obtain ⟨t1,t2,Fu,NP,hc,F3,Hy,FK,hd2⟩:=cx.cw.ex;have ho:=cx.ho;have l1:=cx.cw.l1;have sn:=cx.cw.ok1.nd;obtain ⟨on,os,oe⟩:=CQ cx.op sn;have sl:(An.map (·.1)).length<=10:=by rw [ZM]; exact l1
   have otl:oth.length<=10:=by rw [eoth]; lia
   have yes:CF x (op.length + 1)=true->(oth.map E8).filter (Bx x op)=oth.map E8:=fun z=>cO.mpr fun e he=>by
    obtain ⟨s,_,rfl⟩:=ZR.mp he;rw [okO,z]
   have no:CF x (op.length + 1)=false->(oth.map E8).filter (Bx x op)=[]:=fun z=>List.filter_eq_nil_iff.mpr fun e he=>by
    obtain ⟨s,_,rfl⟩:=ZR.mp he;rw [okO,z];decide
   exists _,rfl,c,_,_,_,rfl,rfl,AI.of (s2 _ _ hc),rfl,_,rfl;by_cases hx:CF x (op.length + 1)=true
   ·rcases cx.cw.lim with ⟨rfl,_⟩ | ⟨lm,rfl,_,lm1,lm2⟩
    ·refine BB (fun _=>IY ?_) (fun z=>by simp at z);exists _,rfl,OT,rfl,⟨_,AB.of hO⟩
     refine B6 BN (xs:=oth.map V.str) (fun D i σ H2 acc=>∃ v0:Option V,σ=[v0,some (.ref o)]/\Ar H' H2/\H2 D=some h9/\G8 H2 op acc ((oth.take i).map E8)/\acc.length=i)
      (by rw [ZM]; lia) (fun D hD=>⟨_,rfl,Ac hD,Ab,G8.nil,rfl⟩) (fun D i σ H2 acc hD ⟨v0,_,sb,AO,_,al⟩=>⟨AB.of (sb _ _ hO),AO,al⟩) ?_ ?_
     ·rintro D2 j σ H7 acc x' B hD ex ⟨v0,rfl,sc,AO,rwa,al⟩ hB;obtain ⟨y,ey,rfl⟩:=BW ex;refine ⟨_,rfl,ge,fun T hT=>?_⟩;have sT:=Ac (o:=.tup [V.str "open",V.str y]) hT;refine ⟨_,rfl,_,rfl,ie,fun T1 Qr=>?_⟩;have Rz:=Ac (o:=.tup [V.str y]) Qr;refine Jr (K:=K) (Q:=fun v H9=>[V.ref T,v].length<=sizeLine/\∀ p,H9 p=none->B ([v0,some (V.ref o)].set 0 (some (V.str y))) (V.ref p) (upd H9 p (.tup [V.ref T,v]))) (Rz _ _ (sT _ _ (sc _ _ (s2 _ _ ho)))) Ab ad fun t H8 zs s8 ht pz sz=>?_
      refine ⟨ge,fun W hW=>?_⟩;have sW:=Ac (o:=.tup [V.ref T,V.ref t]) hW;have MA:=sT.trans (Rz.trans (s8.trans sW));have hDW:=MA _ _ AO;refine hB _ _ _ hDW ⟨_,rfl,Bb (sc.trans MA) hD,Ab,?_,by rw [ZQ,al]; rfl⟩;rw [EC E8 ey];refine ((rwa.keep fun b ys z=>MA _ _ z).app (G8.one (w:=W) (k:=T) (t:=t) (e:=E8 y) (zs:=zs) Ab (sW _ _ (s8 _ _ (Rz _ _ Ab))) (sW _ _ ht) ⟨by show zs.Perm (Bh op none ++ [y]); rw [GJ]; exact pz,sz⟩)).keep fun b ys z=>?_
      rw [Af (fun e=>by rw [e,hDW] at z; cases z)];exact z
     ·rintro D2 σ H7 acc hD ⟨v0,rfl,sc,AO,rwa,al⟩;rw [ZM,aw] at rwa;exact kk H7 D2 acc (s2.trans sc) (s2.free0 hD) (fun e=>by rw [e,hO] at hD; cases hD) (sc _ _ hO) AO (by rw [yes hx]; exact rwa)
    ·refine BB (fun z=>by simp at z) (fun _=>?_);have Ln:=of_decide_eq_true hx;exists _,rfl,o,_,rfl,.inr (AI.of (s2 _ _ ho)),_,rfl,c,_,_,_,rfl,rfl,AI.of (s2 _ _ hc),rfl,_,_,rfl,rfl,_,rfl;refine BB (fun _=>?_) (fun z=>by rw [ZM] at z; simp at z; lia);exists _,rfl,OT,rfl,⟨_,AB.of hO⟩
     refine B6 BN (xs:=oth.map V.str) (fun D i σ H2 acc=>∃ v0:Option V,σ=[v0,some (.ref o)]/\Ar H' H2/\H2 D=some h9/\G8 H2 op acc ((oth.take i).map E8)/\acc.length=i)
      (by rw [ZM]; lia) (fun D hD=>⟨_,rfl,Ac hD,Ab,G8.nil,rfl⟩) (fun D i σ H2 acc hD ⟨v0,_,sb,AO,_,al⟩=>⟨AB.of (sb _ _ hO),AO,al⟩) ?_ ?_
     ·rintro D2 j σ H7 acc x' B hD ex ⟨v0,rfl,sc,AO,rwa,al⟩ hB;obtain ⟨y,ey,rfl⟩:=BW ex;refine ⟨_,rfl,ge,fun T hT=>?_⟩;have sT:=Ac (o:=.tup [V.str "open",V.str y]) hT;refine ⟨_,rfl,_,rfl,ie,fun T1 Qr=>?_⟩;have Rz:=Ac (o:=.tup [V.str y]) Qr;refine Jr (K:=K) (Q:=fun v H9=>[V.ref T,v].length<=sizeLine/\∀ p,H9 p=none->B ([v0,some (V.ref o)].set 0 (some (V.str y))) (V.ref p) (upd H9 p (.tup [V.ref T,v]))) (Rz _ _ (sT _ _ (sc _ _ (s2 _ _ ho)))) Ab ad fun t H8 zs s8 ht pz sz=>?_
      refine ⟨ge,fun W hW=>?_⟩;have sW:=Ac (o:=.tup [V.ref T,V.ref t]) hW;have MA:=sT.trans (Rz.trans (s8.trans sW));have hDW:=MA _ _ AO;refine hB _ _ _ hDW ⟨_,rfl,Bb (sc.trans MA) hD,Ab,?_,by rw [ZQ,al]; rfl⟩;rw [EC E8 ey];refine ((rwa.keep fun b ys z=>MA _ _ z).app (G8.one (w:=W) (k:=T) (t:=t) (e:=E8 y) (zs:=zs) Ab (sW _ _ (s8 _ _ (Rz _ _ Ab))) (sW _ _ ht) ⟨by show zs.Perm (Bh op none ++ [y]); rw [GJ]; exact pz,sz⟩)).keep fun b ys z=>?_
      rw [Af (fun e=>by rw [e,hDW] at z; cases z)];exact z
     ·rintro D2 σ H7 acc hD ⟨v0,rfl,sc,AO,rwa,al⟩;rw [ZM,aw] at rwa;exact kk H7 D2 acc (s2.trans sc) (s2.free0 hD) (fun e=>by rw [e,hO] at hD; cases hD) (sc _ _ hO) AO (by rw [yes hx]; exact rwa)
   ·have Ln:CF x (op.length + 1)=false:=by simpa using hx
    rcases cx.cw.lim with ⟨rfl,_⟩ | ⟨lm,rfl,_,lm1,lm2⟩
    ·exact absurd rfl hx
    ·refine BB (fun z=>by simp at z) (fun _=>?_);exists _,rfl,o,_,rfl,.inr (AI.of (s2 _ _ ho)),_,rfl,c,_,_,_,rfl,rfl,AI.of (s2 _ _ hc),rfl,_,_,rfl,rfl,_,rfl;have hx2:=of_decide_eq_false Ln;refine BB (fun z=>by rw [ZM] at z; simp at z; lia) (fun _=>?_);exact kk H' F0 [] s2 fF0 nFO hO VW (by rw [no Ln]; exact G8.nil)
  case w2=>
   rintro D σ H' ⟨OT,F,lf,h,vs,L,rfl,hF,rx,hlf,vl,lim,nms,kk⟩;have nl:F ≠ lf:=fun e=>by rw [e,hlf] at hF; cases hF
   refine ⟨_,rfl,(by show 0<=sizeLine; lia),fun E0 hE0=>?_⟩;have sE:=Ac (o:=.tup []) hE0;have kn:∀ s ∈ Bh op (some h),Bq s=true:=fun s hs=>nms s (aO.mp hs).1
   exists .tuple ((Bh op (some h)).map PyData.str),.tuple [],.tup (sE _ _ hlf) (C2 _ _),.tup Ab .nil,by rw [PyData.canLay0]; exact Dr kn,rfl,by rw [PyData.depth,Eo]; decide,_,rfl
   rw [Qx,<-okS (x:=x) lim];have hF1:=sE _ _ hF;refine BB iu iu
   ·refine ⟨_,rfl,.inl ⟨rfl,_,AB.of hF1⟩,_,rfl,ge,fun T hT=>?_⟩;have sT:=Ac (o:=.tup [V.str "shut",V.str h]) hT;refine ⟨_,rfl,ge,fun W hW=>?_⟩;have sW:=Ac (o:=.tup [V.ref T,V.ref lf]) hW;have MA:=sE.trans (sT.trans sW);have hFW:=MA _ _ hF;exists F,vs,.ref W,rfl,rfl,hFW,by lia
    refine kk _ _ (fun b u e q=>by rw [Af e]; exact MA _ _ q) Ab ?_;rw [show [EN h].filter (Bx x op)=[EN h] by rw [bT,if_pos z]; rfl];refine ((rx.keep fun b ys z=>MA _ _ z).app (G8.one (w:=W) (k:=T) (t:=lf) (e:=EN h) (zs:=Bh op (some h)) Ab (sW _ _ Ab) (MA _ _ hlf) ⟨?_,?_⟩)).keep fun b ys z=>?_
    ·show (Bh op (some h)).Perm (Bh op (some h) ++ [])
     rw [bc]
    ·exact MM cx.ri cx.op.2.1 (bO)
    ·rw [Af (fun e=>by rw [e,hFW] at z; cases z)];exact z
   ·refine kk _ vs (fun b u e q=>sE _ _ q) hF1 ?_;rw [show [EN h].filter (Bx x op)=[] by rw [bT,if_neg z]; rfl,bc];exact rx.keep fun b ys z=>sE _ _ z
  obtain ⟨t1,t2,Fu,NP,hc,F3,Hy,FK,hd2⟩:=cx.cw.ex;have Vg:=BX Hy;have l1:=cx.cw.l1;have sn:=cx.cw.ok1.nd;obtain ⟨on,os,oe⟩:=CQ cx.op sn;have ho:=cx.ho;have sl:(An.map (·.1)).length<=10:=by rw [ZM]; exact l1
  have W6:=Gw cx.op sn sl;have oll:op.length<=10:=by lia
  have otl:(Be gJ op).length<=10:=by lia
  have lim:=cx.op.2.2;exists _,rfl,c,_,_,_,rfl,rfl,AI.of hc,rfl,t1,rfl,⟨_,AI.of F3⟩
  refine BY BL (xs:=Fu) (fun D i σ H' acc=>∃ v0 v1:Option V,σ=[v0,v1,some (.ref o)]/\Ar H H'/\H' D=some h9/\acc=(Be ((An.map (·.1)).take i) op).map V.str)
   (by lia) (fun D hD=>⟨_,_,rfl,Ac hD,Ab,rfl⟩) (fun D i σ H' acc hD ⟨v0,v1,_,sa,AO,ea⟩=>⟨AI.of (sa _ _ F3),AO,by rw [ea,ZM]; exact az (aN _ _) (by rw [aM]; exact cu _ _)⟩) ?_ ?_
  ·rintro D i σ H' acc x' B N hD ex ⟨v0,v1,rfl,sa,AO,rfl⟩ hB hN;obtain ⟨u,t,eu,rfl,ht⟩:=C9 Hy ex;have ey:gJ[i]? = some u.1:=by rw [ZV,eu]; rfl
   have tk:=DQ (fun s=>decide (s ∉ op)) ey;exists t,_,rfl,AI.of (sa _ _ ht),rfl,_,_,rfl,_,_,rfl,rfl;exists _,rfl,_,rfl,o,_,rfl,.inr (AI.of (sa _ _ ho)),rfl,GO _,_,rfl;rw [Jd,show (!decide (u.1 ∈ op))=decide (u.1 ∉ op) by simp];refine BB iu iu
   ·rw [if_pos z] at tk;exact ⟨_,rfl,hB _ _ _ AO ⟨_,_,rfl,Bb sa hD,Ab,by unfold Be; rw [tk,ZY]; rfl⟩⟩
   ·rw [if_neg z,bc] at tk;exact hN _ _ ⟨_,_,rfl,sa,AO,by unfold Be; rw [tk]⟩
  rintro OT σ H1 acc fOT ⟨v0,v1,rfl,s1,hOT,rfl⟩;rw [Vg,show An.length=(An.map (·.1)).length by rw [ZM],aw] at hOT;obtain ⟨oth,eoth⟩:∃ l,l=Be gJ op:=⟨_,rfl⟩
  obtain ⟨ss,ess⟩:∃ l,l=An.map (·.1):=⟨_,rfl⟩
  rw [<-eoth] at hOT otl;have eall:Cj ss op=oth.map E8 ++ op.flatMap (CI ss op):=by rw [eoth,ess]; rfl
  have Vr:ss.Nodup:=ess ▸ sn;refine ⟨(by show 0<=sizeLine; lia),fun F0 VW=>?_⟩;have s2:=s1.trans (Ac (o:=.lst []) VW);have hO2:=Ac (o:=.lst []) VW _ _ hOT;have nFO:F0 ≠ OT:=fun e=>by rw [e,hOT] at VW; cases VW
  have nms:∀ s ∈ op,Bq s=true:=fun s hs=>by
   obtain ⟨r,OG,rfl⟩:=ZR.mp (os s hs);exact cx.cw.map.at'.nm _ (cx.cw.ok1.sub r OG)
  refine ⟨OT,F0,oth,rfl,eoth,s2,hO2,Ab,s1.free0 VW,nFO,fun H3 F vs s3 fF nF hO3 hF3 rw3=>?_⟩;exists _,rfl,o,rfl,⟨_,AI.of (s3 _ _ ho)⟩
  refine C8 (xs:=op.map V.str) (fun i σ H'=>∃ (v4 v5:Option V) (vs:List V),σ=[some (.ref c),some (.ref o),some (.ref OT),some (.ref F),v4,v5]/\Ar H H'/\H' OT=some (.lst (oth.map V.str))/\H' F=some (.lst vs)/\G8 H' op vs ((oth.map E8 ++ (op.take i).flatMap (CI ss op)).filter (Bx x op)))
   ⟨_,_,vs,rfl,s3,hO3,hF3,by rw [cR,eE,bc]; exact rw3⟩ (fun i σ H' _ ⟨_,_,_,_,sa,_⟩=>AI.of (sa _ _ ho)) ?_ ?_
  ·rintro i v σ H' hv ⟨v4,v5,vs,rfl,sa,hO,hF,rx⟩ rt bk NN hN;obtain ⟨h,eh,rfl⟩:=BW hv;have hm:=ZS eh;have hat:CI ss op h=EN h :: oth.map (FR h):=by unfold CI; rw [eoth,ess]
   have lens:((oth.map E8 ++ (op.take i).flatMap (CI ss op)).filter (Bx x op)).length + 1 + oth.length<=63:=by
    have:=congrArg bK eall;rw [Jg _ eh,hat] at this;rw [<-ess] at W6;simp only [ZQ,aB,ZM] at this;have f:=aN (Bx x op) (oth.map E8 ++ (op.take i).flatMap (CI ss op));rw [ZQ,ZM] at f;lia
   have vl:=rx.len;exists _,rfl,o,rfl,⟨_,AI.of (sa _ _ ho)⟩
   refine BY BL (xs:=op.map V.str) (fun D i σ H2 acc=>∃ v0:Option V,σ=[v0,some (.str h)]/\Ar H' H2/\H2 D=some h9/\acc=(Bh (op.take i) (some h)).map V.str)
    (by rw [ZM]; lia) (fun D hD=>⟨_,rfl,Ac hD,Ab,rfl⟩) (fun D i σ H2 acc hD ⟨v0,_,sb,AO,ea⟩=>⟨AI.of (sb _ _ (sa _ _ ho)),AO,by rw [ea,ZM]; exact az (aN _ _) (by rw [aM]; exact cu _ _)⟩) ?_ ?_
   ·rintro D i σ H2 acc x' B N hD ex ⟨v0,rfl,sb,AO,rfl⟩ hB hN;obtain ⟨y,ey,rfl⟩:=BW ex;have tk:=DQ (fun h'=>decide (some h' ≠ some h)) ey;exists _,rfl,_,rfl,rfl,_,rfl;rw [show (!decide (V.str y=V.str h))=decide (some y ≠ some h) by simp];refine BB iu iu
    ·rw [if_pos z] at tk;exact ⟨_,rfl,hB _ _ _ AO ⟨_,rfl,Bb sb hD,Ab,by unfold Bh; rw [tk,ZY]; rfl⟩⟩
    ·rw [if_neg z,bc] at tk;exact hN _ _ ⟨_,rfl,sb,AO,by unfold Bh; rw [tk]⟩
   rintro D σ H2 acc hD ⟨v0,rfl,sb,AO,rfl⟩;rw [ZM,aw] at AO;have kl:(Bh op (some h)).length<=op.length:=aN _ _;refine ⟨D,_,rfl,.inl ⟨AB.of AO,fun lf hlf=>?_⟩⟩;have s5:=sb.trans (Ac (o:=.tup ((Bh op (some h)).map V.str)) hlf);have Sn:(upd H2 lf (.tup ((Bh op (some h)).map V.str))) lf=some (.tup ((Bh op (some h)).map V.str)):=Ab;generalize upd H2 lf (.tup ((Bh op (some h)).map V.str))=H5 at s5 Sn ⊢;refine ⟨OT,F,lf,h,vs,_,rfl,s5 _ _ hF,rx.keep fun b ys z=>s5 _ _ z,Sn,ad,lim,nms,fun H6 vs6 s6 hF6 rw6=>?_⟩;have Zc:=s6 _ _ (fun e=>by rw [e,s5 _ _ hF] at Sn; cases Sn) Sn;have VU:=s6 _ _ (fun e=>nF e.symm) (s5 _ _ hO);have s06:Ar H H6:=fun b u z=>s6 _ _ (Ai z fF) (s5 _ _ (sa _ _ z))
   have vl6:=rw6.len;have fl1:=aN (Bx x op) [EN h];rw [ZQ] at vl6;rw [aZ] at fl1;exists _,rfl,.inl ⟨rfl,_,AB.of hF6⟩,_,rfl,OT,rfl,⟨_,AB.of VU⟩
   refine B6 BN (xs:=oth.map V.str) (fun D i σ H2 acc=>∃ v0:Option V,σ=[v0,some (.str h),some (.ref lf)]/\Ar H6 H2/\H2 D=some h9/\G8 H2 op acc ((oth.take i).map (FR h))/\acc.length=i)
    (by rw [ZM]; lia) (fun D hD=>⟨_,rfl,Ac hD,Ab,G8.nil,rfl⟩) (fun D i σ H2 acc hD ⟨v0,_,sb,AO,_,al⟩=>⟨AB.of (sb _ _ VU),AO,al⟩) ?_ ?_
   ·rintro D j σ H7 acc x' B hD ex ⟨v0,rfl,sc,AO,rwa,al⟩ hB;obtain ⟨y,ey,rfl⟩:=BW ex;refine ⟨_,rfl,_,rfl,(by show 3<=sizeLine; lia),fun T hT=>?_⟩;have sT:=Ac (o:=.tup [V.str "swap",V.str h,V.str y]) hT;refine ⟨_,rfl,_,rfl,ie,fun T1 Qr=>?_⟩;have Rz:=Ac (o:=.tup [V.str y]) Qr;refine Jr (K:=K) (Q:=fun v H9=>[V.ref T,v].length<=sizeLine/\∀ p,H9 p=none->B ([v0,some (V.str h),some (V.ref lf)].set 0 (some (V.str y))) (V.ref p) (upd H9 p (.tup [V.ref T,v]))) (Rz _ _ (sT _ _ (sc _ _ Zc))) Ab ad fun t H8 zs s8 ht pz sz=>?_
    refine ⟨ge,fun W hW=>?_⟩;have sW:=Ac (o:=.tup [V.ref T,V.ref t]) hW;have MA:=sT.trans (Rz.trans (s8.trans sW));have hDW:=MA _ _ AO;refine hB _ _ _ hDW ⟨_,rfl,Bb (sc.trans MA) hD,Ab,?_,by rw [ZQ,al]; rfl⟩;rw [EC (FR h) ey];refine ((rwa.keep fun b ys z=>MA _ _ z).app (G8.one (w:=W) (k:=T) (t:=t) (e:=FR h y) (zs:=zs) Ab (sW _ _ (s8 _ _ (Rz _ _ Ab))) (sW _ _ ht) ⟨pz,sz⟩)).keep fun b ys z=>?_
    rw [Af (fun e=>by rw [e,hDW] at z; cases z)];exact z
   ·rintro D σ H7 acc hD ⟨v0,rfl,sc,AO,rwa,al⟩;rw [ZM,aw] at rwa;rw [ZM] at al;have hF7:=sc _ _ hF6;exists F,D,vs6,acc,rfl,rfl,hF7,AO,by lia
    refine hN _ _ ⟨_,_,vs6 ++ acc,rfl,Bb (s06.trans sc) fF,by rw [Af (fun e=>nF e.symm)]; exact sc _ _ VU,Ab,?_⟩;have eL:(oth.map E8 ++ (op.take gt).flatMap (CI ss op)).filter (Bx x op)=((oth.map E8 ++ (op.take i).flatMap (CI ss op)).filter (Bx x op) ++ [EN h].filter (Bx x op)) ++ oth.map (FR h):=by
     have fw:(oth.map (FR h)).filter (Bx x op)=oth.map (FR h):=cO.mpr fun e he=>by
      obtain ⟨s,_,rfl⟩:=ZR.mp he;exact okW lim hm
     rw [JZ _ eh,<-aX,hat];generalize oth.map E8 ++ (op.take i).flatMap (CI ss op)=M;rw [bJ,show EN h :: oth.map (FR h)=[EN h] ++ oth.map (FR h) from rfl,bJ,fw,aX]
    rw [eL];refine ((rw6.keep fun b ys z=>sc _ _ z).app rwa).keep fun b ys z=>?_
    rw [Af (fun e=>by rw [e,hF7] at z; cases z)];exact z
  ·rintro σ H' ⟨v4,v5,vs,rfl,sa,hO,hF,rx⟩;rw [ZM,aw,<-eall] at rx;have vl:=rx.len;obtain ⟨ps,r1,r2,r3⟩:=rx;obtain ⟨z1,z2,z3,z4,z5⟩:=r1.sort fun p hp=>by
    obtain ⟨e,t,zs,_,_,h3,h4,_⟩:=r3 p hp;exact .inr ⟨t,zs,h3,h4⟩
   rw [r2] at z3;have fl:=aN (Bx x op) (Cj ss op);rw [<-ess] at W6;refine ⟨_,rfl,F,MW vs ps,rfl,AB.of (by rw [z1]; exact hF),z2,by rw [z3]; exact Dk Vr on,by rw [z4,<-r1.1]; lia,fun l' zs hl' pz pw=>?_⟩;obtain ⟨qs,q1,q2,q3⟩:=z5 zs pz;have U9:=Ac (o:=.lst (zs.map (·.1))) hl';refine k _ l' (zs.map (·.1)) qs (sa.trans U9) (sa.free0 hl') Ab (q1.keep fun b ys z=>U9 _ _ z) ?_ (by rw [q3]; exact pw) fun p hp=>?_
   ·rw [<-ess];have:=q2.map (·.1);rw [r2] at this;exact this
   ·obtain ⟨e,t,zs,h1,h2,h3,h4,h5⟩:=r3 p (q2.mem_iff.mp hp);rw [<-ess];exact ⟨e,t,zs,h1,h2,h3,U9 _ _ h4,h5⟩
end
section
variable {P:Program} {w:World} {K:ZP} {mg:Str->Option Value} {base:Heap}
theorem II  {fCH:Addr} {fdCH:FuncData} (XCH:Fn K mg "changed" Fl ["opening","out","more"] fCH fdCH) (GCH:AH P w K mg base BK 1 fCH fdCH ["opening","out","more"] Kc) {fIO:Addr} {fdIO:FuncData} (XIO:Fn K mg "is_opening" Df ["case","thing"] fIO fdIO) (GIO:AH P w K mg base BK 3 fIO fdIO ["case","thing"] (Ri K)) {f:Addr} {fd:FuncData} (F:E4 K "outcomes_of" "outcomes_of" CM f fd):AH P w K mg base BK 4 f fd ["case","opening"] NZ:=by
 refine F.ok EE gP ca
 ·obtain ⟨c,o,m,n,xs,ws,An,A6,x,d,op,rfl,_⟩:=h;rfl
 ·obtain ⟨c,o,m,n,xs,ws,An,A6,x,d,op,rfl,cx,k⟩:=h;have nd:=EE.nd;have hu:=Ez hr;have big:100000 < sizeLine:=by decide
  refine ⟨_,(Ae (Gk (ix:=2) (N:=["place","charge","opening"]) nd rfl ga rfl CU (CJ [none,none,some 1]) (AV K rfl (A4 (AX K rfl) (pv 0) Ag ce))
   (fun s2 H C fp=>⟨(BD K rfl (n:=2) rfl (Au (Ah (i:=0) (show (["place","charge","opening"]:List Str).Nodup by decide +kernel) rfl ga) (Au (Ah (i:=1) (show (["place","charge","opening"]:List Str).Nodup by decide +kernel) rfl ga) BC))),(D8 (By (Kn K rfl) (pv 0) (pv 2) ci)),(pv 0)⟩))
  (Ae (Am (i:=3) nd rfl (Or.inr rfl) (Kl (N:=["site","opening"]) rfl hu CU (CJ [none,some 1]) (BF K rfl (pv 2))
   (fun s2 H C fp=>⟨(Ah (i:=0) (show (["site","opening"]:List Str).Nodup by decide +kernel) rfl ga),Bc,(A7 (Aa CD ir)),(Ak GCH (hr.mono bi) ci XCH.mg XCH.F.kp XCH.b .nil Aw (Aa (pv 1) (Aa FC ir)))⟩)))
  (Ae (Bp PassesOwn.never rfl (AV K rfl (pv 1)) (Ah (i:=4) nd rfl ga)
  (Ae (Ce hu (pv 3) (A7 (Aa CD (Aa (pv 4) Ad))) (Ak GCH (hr.mono bi) ci XCH.mg XCH.F.kp XCH.b .nil Aw (Aa (pv 1) (Aa (pv 4) (Aa FC Ad)))) rfl)
  (Aj (Bp PassesOwn.never rfl (BF K rfl (pv 2)) (Ah (i:=5) nd rfl ga)
  (Aj (Ce hu (pv 3) (A7 (Aa CD (Aa (pv 4) (Aa (pv 5) Ad)))) (Ak GCH (hr.mono bi) ci XCH.mg XCH.F.kp XCH.b .nil Aw (Aa (pv 1) (Aa (pv 4) (Aa (pv 5) Ad)))) rfl))))))
  (Aj (AJ (Kl (N:=["exchange","case","outcomes"]) rfl hu CU (CJ [none,some 0,some 3]) (UH (pv 3))
   (fun s2 H C fp=>⟨(Ah (i:=0) (show (["exchange","case","outcomes"]:List Str).Nodup by decide +kernel) rfl ga),(D8 (La (Ak GIO (hr.mono bi) ci XIO.mg XIO.F.kp XIO.b .nil Aw (Aa (pv 1) (Aa (Bd hu (pv 2) (pv 0) ce) Ad))))),(pv 0),(Bd hu (pv 2) (pv 0) ce)⟩))))))),?_⟩
  obtain ⟨t1,t2,Fu,NP,hc,F3,Hy,FK,hd2⟩:=cx.cw.ex;have Vg:=BX Hy;have l1:=cx.cw.l1;have sn:=cx.cw.ok1.nd;obtain ⟨on,os,oe⟩:=CQ cx.op sn;have ho:=cx.ho;have sl:(An.map (·.1)).length<=10:=by rw [ZM]; exact l1
  have W6:=Gw cx.op sn sl;have oll:op.length<=10:=by lia
  have otl:(Be gJ op).length<=10:=by lia
  exists _,rfl,c,_,_,_,rfl,rfl,AI.of hc,rfl,t1,rfl,⟨_,AI.of F3⟩
  refine BY BL (xs:=Fu) (fun D i σ H' acc=>∃ v0 v1:Option V,σ=[v0,v1,some (.ref o)]/\Ar H H'/\H' D=some h9/\acc=(Be ((An.map (·.1)).take i) op).map V.str)
   (by lia) (fun D hD=>⟨_,_,rfl,Ac hD,Ab,rfl⟩) (fun D i σ H' acc hD ⟨v0,v1,_,sa,AO,ea⟩=>⟨AI.of (sa _ _ F3),AO,by rw [ea,ZM]; exact az (aN _ _) (by rw [aM]; exact cu _ _)⟩) ?_ ?_
  ·rintro D i σ H' acc x' B N hD ex ⟨v0,v1,rfl,sa,AO,rfl⟩ hB hN;obtain ⟨u,t,eu,rfl,ht⟩:=C9 Hy ex;have ey:gJ[i]? = some u.1:=by rw [ZV,eu]; rfl
   have tk:=DQ (fun s=>decide (s ∉ op)) ey;exists t,_,rfl,AI.of (sa _ _ ht),rfl,_,_,rfl,_,_,rfl,rfl;exists _,rfl,_,rfl,o,_,rfl,.inr (AI.of (sa _ _ ho)),rfl,GO _,_,rfl;rw [Jd,show (!decide (u.1 ∈ op))=decide (u.1 ∉ op) by simp];refine BB iu iu
   ·rw [if_pos z] at tk;exact ⟨_,rfl,hB _ _ _ AO ⟨_,_,rfl,Bb sa hD,Ab,by unfold Be; rw [tk,ZY]; rfl⟩⟩
   ·rw [if_neg z,bc] at tk;exact hN _ _ ⟨_,_,rfl,sa,AO,by unfold Be; rw [tk]⟩
  rintro OT σ H1 acc fOT ⟨v0,v1,rfl,s1,hOT,rfl⟩;rw [Vg,show An.length=(An.map (·.1)).length by rw [ZM],aw] at hOT;obtain ⟨oth,eoth⟩:∃ l,l=Be gJ op:=⟨_,rfl⟩
  obtain ⟨ss,ess⟩:∃ l,l=An.map (·.1):=⟨_,rfl⟩
  rw [<-eoth] at hOT otl;have eall:Cj ss op=oth.map E8 ++ op.flatMap (CI ss op):=by rw [eoth,ess]; rfl
  have Vr:ss.Nodup:=ess ▸ sn;exists _,rfl,OT,rfl,⟨_,AB.of hOT⟩
  refine Ol BN (xs:=oth.map V.str) (fun D i σ H'=>∃ (v0:Option V) (kvs:List gQ),σ=[v0,some (.ref o)]/\Ar H1 H'/\H' D=some ig/\Cv H' op kvs ((oth.take i).map E8))
   (fun D hD=>⟨_,[],rfl,Ac hD,Ab,Cv.nil⟩) (fun D i σ H' hD ⟨v0,kvs,_,sa,_,_⟩=>AB.of (sa _ _ hOT)) ?_ ?_
  ·rintro D i σ H' x' B N hD ex ⟨v0,kvs,rfl,sa,AO,oc⟩ hB hN;obtain ⟨y,ey,rfl⟩:=BW ex;refine IY (B:=N ([v0,some (V.ref o)].set 0 (some (V.str y))) H') ⟨_,rfl,ge,fun T hT=>?_⟩;have sT:=Ac (o:=.tup [V.str "open",V.str y]) hT;refine ⟨_,rfl,_,rfl,o,op,none,some y,rfl,sT _ _ (sa _ _ (s1 _ _ ho)),by lia,fun H5 t zs s5 ft ht ocz=>?_⟩;have SK:=sa.trans (sT.trans s5);have HR:=s5 _ _ (sT _ _ AO);have RS:Cv H5 op kvs ((oth.take i).map E8):=oc.keep fun b ys z=>s5 _ _ (sT _ _ z)
   have nw:(E8 y).1 ∉ ((oth.take i).map E8).map (·.1):=by
    refine Lq (ss:=ss) (op:=op) (R:=(oth.drop gt).map E8 ++ op.flatMap (CI ss op)) Vr on ?_;rw [eall];conv=>lhs; rw [FL ey,ZY,ag,aX,bR]
   have len:=RS.len;rw [ZM,aM] at len;refine hB _ _ _ _ ⟨kvs,(E8 y).1.map Sum.inr,T,rfl,s5 _ _ Ab,HR,by lia,_,kvs ++ [((E8 y).1.map Sum.inr,.ref t)],rfl,Bb SK hD,?_,?_⟩
   ·rw [RS.new nw];exact Ab
   ·rw [EC E8 ey];refine (RS.snoc ht ocz).keep fun b ys z=>?_
    rw [Af (fun e=>by rw [e,HR] at z; cases z)];exact z
  rintro D σ H2 fD ⟨v0,kvs,rfl,s2,hD,oc⟩;rw [ZM,aw] at oc;have Z0:H D=none:=s1.free0 fD;have nOD:OT ≠ D:=Ai hOT fD;exists _,rfl,o,rfl,⟨_,AI.of ((s1.trans s2) _ _ ho)⟩
  refine C8 (xs:=op.map V.str) (fun i σ H'=>∃ (v4 v5:Option V) (kvs:List gQ),σ=[some (.ref c),some (.ref o),some (.ref OT),some (.ref D),v4,v5]/\Ar H H'/\H' OT=some (.lst (oth.map V.str))/\H' D=some ig/\Cv H' op kvs (oth.map E8 ++ (op.take i).flatMap (CI ss op)))
   ⟨_,_,kvs,rfl,s1.trans s2,s2 _ _ hOT,hD,by rw [cR,eE,bc]; exact oc⟩ (fun i σ H' _ ⟨_,_,_,_,sa,_⟩=>AI.of (sa _ _ ho)) ?_ ?_
  ·rintro i v σ H' hv ⟨v4,v5,kv,rfl,sa,hO,AO,oc⟩ rt bk NN hN;obtain ⟨h,eh,rfl⟩:=BW hv;have hall:Cj ss op=(oth.map E8 ++ (op.take i).flatMap (CI ss op)) ++ EN h :: (oth.map (FR h) ++ (op.drop gt).flatMap (CI ss op)):=by
    rw [eall,Jg _ eh,show CI ss op h=EN h :: oth.map (FR h) by unfold CI; rw [eoth,ess]];simp only [aX,bR]
   obtain ⟨L0,eL0⟩:∃ l,l=oth.map E8 ++ (op.take i).flatMap (CI ss op):=⟨_,rfl⟩
   rw [<-eL0] at oc hall;have lens:L0.length + 1 + oth.length<=63:=by
    have:=congrArg bK hall;rw [ess] at this;rw [ZQ,aB,ZQ,ZM] at this;lia
   refine ⟨_,rfl,_,rfl,o,op,some h,none,rfl,sa _ _ ho,by lia,fun H5 t zs s5 ft ht ocz=>?_⟩;refine ⟨_,rfl,_,rfl,ge,fun T hT=>?_⟩;have sT:=Ac (o:=.tup [V.str "shut",V.str h]) hT;have SK:=sa.trans (s5.trans sT);have HR:=sT _ _ (s5 _ _ AO);have hO5:=sT _ _ (s5 _ _ hO);have RS:Cv (upd H5 T (.tup [V.str "shut",V.str h])) op kv L0:=oc.keep fun b ys z=>sT _ _ (s5 _ _ z)
   have nw:(EN h).1 ∉ L0.map (·.1):=Lq Vr on hall;have len:=RS.len;exists D,_,rfl,DZ.t (k:=(EN h).1.map Sum.inr) HR Ab ad;rw [RS.new nw];have YD:=(RS.snoc (e:=EN h) (sT _ _ ht) ocz).keep (H':=upd (upd H5 T (.tup [V.str "shut",V.str h])) D (.dT (kv ++ [((EN h).1.map Sum.inr,.ref t)]))) fun b ys z=>by
    rw [Af (fun e=>by rw [e,HR] at z; cases z)];exact z
   have s6:Ar H (upd (upd H5 T (.tup [V.str "shut",V.str h])) D (.dT (kv ++ [((EN h).1.map Sum.inr,.ref t)]))):=Bb SK Z0;have UQ:(upd (upd H5 T (.tup [V.str "shut",V.str h])) D (.dT (kv ++ [((EN h).1.map Sum.inr,.ref t)]))) D=some (.dT (kv ++ [((EN h).1.map Sum.inr,.ref t)])):=Ab;have VU:(upd (upd H5 T (.tup [V.str "shut",V.str h])) D (.dT (kv ++ [((EN h).1.map Sum.inr,.ref t)]))) OT=some (.lst (oth.map V.str)):=by rw [Af nOD]; exact hO5
   generalize upd (upd H5 T (.tup [V.str "shut",V.str h])) D (.dT (kv ++ [((EN h).1.map Sum.inr,.ref t)]))=H6 at YD s6 UQ VU;generalize kv ++ [((EN h).1.map Sum.inr,V.ref t)]=kv6 at YD UQ;exists _,rfl,OT,rfl,⟨_,AB.of VU⟩
   refine K1 (xs:=oth.map V.str) (fun j σ H'=>∃ (v5:Option V) (kvs:List gQ),σ=[some (.ref c),some (.ref o),some (.ref OT),some (.ref D),some (.str h),v5]/\Ar H H'/\H' OT=some (.lst (oth.map V.str))/\H' D=some ig/\Cv H' op kvs (L0 ++ EN h :: (oth.take j).map (FR h)))
    ⟨_,kv6,rfl,s6,VU,UQ,YD⟩ (fun j σ H' _ ⟨_,_,_,_,hO,_⟩=>AB.of hO) ?_ ?_
   ·rintro j v σ H7 hv ⟨v5,YN,rfl,s7,Zs,UP,XW⟩ UB bk2 NN2 hN2;obtain ⟨y,ey,rfl⟩:=BW hv;refine ⟨_,rfl,_,rfl,_,rfl,o,op,some h,some y,rfl,s7 _ _ ho,by lia,fun H8 t2 Ys s8 ft2 FK YB=>?_⟩;refine ⟨_,rfl,_,rfl,_,rfl,(by show 3<=sizeLine; lia),fun T2 OH=>?_⟩;have WH:=Ac (o:=.tup [V.str "swap",V.str h,V.str y]) OH;have XJ:=s7.trans (s8.trans WH);have UO:=WH _ _ (s8 _ _ UP);have hO8:=WH _ _ (s8 _ _ Zs);have YC:Cv (upd H8 T2 (.tup [V.str "swap",V.str h,V.str y])) op YN (L0 ++ EN h :: (oth.take j).map (FR h)):=XW.keep fun b ys z=>WH _ _ (s8 _ _ z)
    have nw2:(FR h y).1 ∉ (L0 ++ EN h :: (oth.take j).map (FR h)).map (·.1):=by
     refine Lq (ss:=ss) (op:=op) (R:=(oth.drop (j + 1)).map (FR h) ++ (op.drop gt).flatMap (CI ss op)) Vr on ?_;rw [hall];conv=>lhs; rw [FL ey]
     rw [ZY,ag];simp only [aX,bR]
    have len2:=YC.len;rw [ZQ,aB,ZM,aM] at len2;exists D,_,rfl,DZ.t (k:=(FR h y).1.map Sum.inr) UO Ab ad;rw [YC.new nw2];refine hN2 _ _ ⟨_,_,rfl,Bb XJ Z0,by rw [Af nOD]; exact hO8,Ab,?_⟩;rw [EC (FR h) ey,<-bR,<-aX];refine (YC.snoc (e:=FR h y) (WH _ _ FK) YB).keep fun b ys z=>?_
    rw [Af (fun e=>by rw [e,UO] at z; cases z)];exact z
   ·rintro σ H7 ⟨v5,YN,rfl,s7,Zs,UP,XW⟩;rw [ZM,aw] at XW;refine hN _ _ ⟨_,_,YN,rfl,s7,Zs,UP,?_⟩;rw [JZ _ eh,<-aX,<-eL0];unfold CI;rw [<-ess] at eoth;rw [<-eoth];exact XW
  rintro σ H3 ⟨v4,v5,kv,rfl,s3,hO3,F5,oc3⟩;rw [ZM,aw,<-eall] at oc3;refine ⟨_,rfl,D,kv,rfl,F5,fun ob ts H4 fz tl tt=>?_⟩;have Lp:H4 D=some (.frz ob (.dT kv)):=by rw [fz.2]; exact Ab
  have s4:∀ b u,b ≠ D->H3 b=some u->H4 b=some u:=fun b u e z=>by rw [fz.2,Af e]; exact z
  have Wv:Ar H H4:=fun b u z=>s4 _ _ (Ai z Z0) (s3 _ _ z)
  have VC:Cv H4 op kv (Cj ss op):=oc3.keep fun b ys z=>s4 _ _ (fun e=>by rw [e,F5] at z; cases z) z
  have kl:=VC.len;have cs:=cx.cw.sites;have nms:∀ s ∈ An.map (·.1),Bq s=true:=fun s hs=>by
   obtain ⟨r,OG,rfl⟩:=ZR.mp hs;exact cx.cw.map.at'.nm _ (cx.cw.ok1.sub r OG)
  refine Ol Oz (fun D2 i σ H'=>∃ (v0:Option V) (kvs:List gQ),σ=[v0,some (.ref c),some (.ref D)]/\Ar H4 H'/\H' D2=some ig/\Cv H' op kvs (((Cj ss op).take i).filter (Bx x op)))
   (fun D2 Kz=>⟨_,[],rfl,Ac Kz,Ab,Cv.nil⟩) (fun D2 i σ H' Kz ⟨v0,kvs,_,sa,_,_⟩=>sa _ _ Lp) ?_ ?_
  ·rintro D2 i σ H' x' B N Kz ex ⟨v0,kvs,rfl,sa,AO,oc⟩ hB hN;obtain ⟨T,eT,rfl⟩:∃ T,ts[i]? = some T/\x'=.ref T:=by
    rw [ZV] at ex;cases q:ts[i]? with
    | none=>rw [q] at ex; cases ex
    | some y=>rw [q] at ex; exact ⟨y,rfl,(ar.inj ex).symm⟩
   have hi:i < kv.length:=by rw [<-tl]; exact (ZT.mp eT).1
   have ek:kv[i]? = some kv[i]:=ZN hi;obtain ⟨e,ee,ke⟩:=VC.mem_get ek;have hT:=tt i T _ eT ek;rw [ke] at hT;obtain ⟨t,zs,vv,hz,ocz⟩:=VC.val (ER Vr on) ee;have em:=ZS ee;have ein:=ES em;have dg:∀ {NJ:Hp},Ar H4 NJ->BQ NJ D (.ref T) (some (.ref t)):=fun {NJ} s=>.inr ⟨kv,e.1.map Sum.inr,T,.inr ⟨ob,s _ _ Lp⟩,rfl,s _ _ hT,vv.symm⟩
   have ocr:=ocz.nodup on ein;have zsub:=ocz.sub (fun s hs=>ess ▸ os s hs) ein;have zl:zs.length<=10:=by
    have:=List.Nodup.length_le_of_subset ocr zsub;rw [ess] at this;lia
   exists _,rfl,_,rfl,_,rfl,D,.ref t,rfl,dg sa;refine ⟨c,An.map (·.1),x,d,.ref t,rfl,(cx.cw.same (Wv.trans sa)).sites,cx.ri,nms,.inl ⟨_,OP.strs (sa _ _ hz) ad (fun s hs=>az (RV (nms _ (ess ▸ zsub s hs))) bi),fun b H5 s5 hb=>?_⟩⟩
   ·have F4:b=true ↔ Bx x op e=true:=hb.trans (ocz.isOp cx.ri on os (ess ▸ ein));have tk:=DQ (Bx x op) ee;have WG:=sa.trans s5;exists _,rfl;refine BB iu iu
    ·rw [if_pos (F4.mp z)] at tk;exists _,rfl,_,rfl,_,rfl,D,.ref t,rfl,dg WG;have RS:Cv H5 op kvs (((Cj ss op).take i).filter (Bx x op)):=oc.keep fun b ys z=>s5 _ _ z
     have HR:=s5 _ _ AO;have nw:e.1 ∉ (((Cj ss op).take i).filter (Bx x op)).map (·.1):=fun hm=>by
      have:=Lq Vr on (FL ee);obtain ⟨e',DB,q⟩:=ZR.mp hm;exact this (ZR.mpr ⟨e',(aO.mp DB).1,q⟩)
     have len:=RS.len;have lf:(((Cj ss op).take i).filter (Bx x op)).length<=(Cj ss op).length:=az (aN _ _) (by rw [aM]; exact Nat.min_le_right _ _);rw [<-ess] at W6;refine hB _ _ _ _ ⟨kvs,e.1.map Sum.inr,T,rfl,WG _ _ hT,HR,by lia,_,kvs ++ [(e.1.map Sum.inr,.ref t)],rfl,Bb WG Kz,?_,?_⟩
     ·rw [RS.new nw];exact Ab
     ·rw [tk];refine (RS.snoc (WG _ _ hz) ocz).keep fun b ys z=>?_
      rw [Af (fun e=>by rw [e,HR] at z; cases z)];exact z
    ·rw [if_neg (fun w=>z (F4.mpr w)),bc] at tk;exact hN _ _ ⟨_,kvs,rfl,WG,s5 _ _ AO,by rw [tk]; exact oc.keep fun b ys z=>s5 _ _ z⟩
  ·rintro D2 σ H' Kz ⟨v0,kvs,rfl,sa,AO,oc⟩;rw [ZM,tl,kl,aw] at oc;exact k _ D2 kvs (Wv.trans sa) (Wv.free0 Kz) AO (by rw [<-ess]; exact oc)
end
section
variable {P:Program} {w:World} {K:ZP} {mg:Str->Option Value} {base:Heap}
theorem Nj (h_sorted:mg "sorted"=none) (h_tuple:mg "tuple"=none)  {f:Addr} {fd:FuncData} (F:E4 K "changed" "changed" Fl f fd):AH P w K mg base BK 1 f fd ["opening","out","more"] Kc:=by
 refine F.ok Iw gP ca
 ·obtain ⟨o,op,out,more,rfl,_⟩:=h;rfl
 ·obtain ⟨o,op,out,more,rfl,ho,ol,k⟩:=h;have nd:=Iw.nd;have big:100000 < sizeLine:=by decide
  refine ⟨_,(Ae (Gk (ix:=3) (N:=["house","out"]) nd rfl ga rfl CU (CJ [none,some 1]) (AV K rfl (pv 0))
   (fun s2 H C fp=>⟨(Ah (i:=0) (show (["house","out"]:List Str).Nodup by decide +kernel) rfl ga),(D8 (By O0 (pv 0) (pv 1) (BI _))),(pv 0)⟩))
  (Aj (AJ (Ay (Av K rfl) ci h_tuple PyProof.Rows.boot_tuple (Aa (Al (CA K rfl) ci h_sorted PyProof.Rows.boot_sorted (Aa (ID (DG (IG (pv 2))) (pv 3) (Ax Ng (pv 3) (Bi (Aa (pv 2) Ad)))) Ad)) Ad))))),?_⟩
  have sc:∀ (h:Str) (q:Option Str),Vt (.str h) (oS q)=true:=fun h q=>by cases q <;> rfl
  have nq:∀ (h:Str) (q:Option Str),(!decide (V.str h=oS q))=decide (some h ≠ q):=fun h q=>by cases q <;> simp [oS]
  exists _,rfl,o,rfl,⟨_,AI.of ho⟩
  refine BY BL (xs:=op.map V.str) (fun D i σ H' acc=>∃ v0:Option V,σ=[v0,some (oS out)]/\Ar H H'/\H' D=some h9/\acc=(Bh (op.take i) out).map V.str)
   (by rw [ZM]; lia) (fun D hD=>⟨_,rfl,Ac hD,Ab,rfl⟩) (fun D i σ H' acc hD ⟨v0,_,sa,AO,ea⟩=>⟨AI.of (sa _ _ ho),AO,by rw [ea,ZM]; exact az (aN _ _) (by rw [aM]; exact cu _ _)⟩) ?_ ?_
  ·rintro D i σ H' acc x' B N hD ex ⟨v0,rfl,sa,AO,rfl⟩ hB hN;obtain ⟨y,ey,rfl⟩:=BW ex;have tk:=DQ (fun h=>decide (some h ≠ out)) ey;exists _,rfl,_,rfl,sc _ _,_,rfl;rw [nq];refine BB iu iu
   ·rw [if_pos z] at tk;exact ⟨_,rfl,hB _ _ _ AO ⟨_,rfl,Bb sa hD,Ab,by unfold Bh; rw [tk,ZY]; rfl⟩⟩
   ·rw [if_neg z,bc] at tk;exact hN _ _ ⟨_,rfl,sa,AO,by unfold Bh; rw [tk]⟩
  ·rintro D σ H' acc hD ⟨v0,rfl,sa,AO,rfl⟩;rw [ZM,aw] at AO;have kl:(Bh op out).length<=op.length:=aN _ _;have CC:∀ (H2:Hp) (L:Addr) (ys:List Str),Ar H H2->H2 L=some (.lst (ys.map V.str))->ys=Bh op out ++ more.toList->∃ (a:Addr) (ss:List Str),[V.ref L]=[.ref a]/\AB K H2 a ic/\ss.length < 64/\∀ (l:Addr) (Cm:List Str),H2 l=none->Cm.Perm ss->PyProof.Rows.sortedS Cm=true->∃ (p:Addr) (ys:List V),[V.ref l]=[.ref p]/\((AB K (upd H2 l iD) p ys/\∀ t,(upd H2 l iD) t=none->Q (.ref t) (upd (upd H2 l iD) t (.tup ys)))\/(AI K (upd H2 l iD) p ys/\Q (.ref p) (upd H2 l iD))):=fun H2 L ys s2 hL ey=>by
    refine ⟨L,ys,rfl,AB.of hL,?_,fun l zs hl pz sz=>⟨l,zs.map V.str,rfl,.inl ⟨AB.of Ab,fun t ht=>?_⟩⟩⟩
    ·rw [ey,ZQ];have:more.toList.length<=1:=by cases more <;> simp
     lia
    ·have s3:=s2.trans (Ac (o:=.lst (zs.map V.str)) hl);exact k _ t zs (s3.trans (Ac ht)) (s3.free0 ht) Ab ⟨ey ▸ pz,sz⟩
   exists _,rfl,_,rfl;cases more with
   | none=>
    refine BB (fun _=>⟨_,rfl,?_⟩) (fun z=>by simp [oS] at z);exact CC _ D _ sa AO gl
   | some s=>
    refine BB (fun z=>by simp [oS] at z) (fun _=>⟨_,rfl,_,rfl,ie,fun L1 Zt=>?_⟩);have s2:=Ac (o:=.lst [V.str s]) Zt;refine ⟨D,L1,_,_,rfl,rfl,s2 _ _ AO,Ab,by rw [ZM]; show _ + 1<=sizeLine; lia,fun L2 QC=>?_⟩;exact CC _ L2 (Bh op out ++ [s]) ((sa.trans s2).trans (Ac QC)) (by rw [ZY]; exact Ab) rfl
end
section
variable {P:Program} {w:World} {K:ZP} {mg:Str->Option Value} {base:Heap}
theorem HM (h_int:mg "int"=none) (h_len:mg "len"=none) (h_sorted:mg "sorted"=none) {f:Addr} {fd:FuncData} (F:E4 K "_law_openings" "_law_openings" C5 f fd):AH P w K mg base BK 1 f fd ["_law_case_here"] Rm:=by
 refine F.ok Ey gP ca
 ·obtain ⟨c,sites,x,d,rfl,_⟩:=h;rfl
 ·obtain ⟨c,sites,x,d,rfl,cs,s6,k⟩:=h;have nd:=Ey.nd;have big:100000 < sizeLine:=by decide
  refine ⟨_,(Ae (Am (i:=1) nd rfl (Or.inl rfl) (Bi (Aa (A7 Ad) Ad)))
  (Ae (Bp PassesOwn.never rfl (AV K rfl (A4 (AX K rfl) (pv 0) Ag ce)) (BD K rfl rfl (Au (Ah (i:=2) nd rfl (Or.inr rfl)) (Au (Ah (i:=3) nd rfl ga) BC)))
  (Aj (Am (i:=1) nd rfl (Or.inl rfl) (Ax Ng (pv 1) (Bs (N:=["_law_one","_law_place"]) rfl CU (CJ [none,some 2]) (Lc (pv 1))
   (fun s2 H C fp=>⟨(Ah (i:=0) (show (["_law_one","_law_place"]:List Str).Nodup by decide +kernel) rfl ga),Bc,(Ax (Gn K rfl) (pv 0) (A7 (Aa (pv 1) Ad)))⟩))))))
  (Ae (Am (i:=4) nd rfl (Or.inr rfl) (A4 OB (Bi (Aa (A4 (AX K rfl) (pv 0) Ag ce) (Aa (Al Es ci h_len PySem.boot_len (Aa (A4 (AX K rfl) (pv 0) Ag ce) Ad)) Ad))) (Ay Fp ci h_int PyProof.Rows.boot_int (Aa (RI (IG (A4 (AX K rfl) (pv 0) Ag ce))) Ad)) ce))
  (Aj (AJ (Al (Ft K rfl) ci h_sorted PyProof.Rows.boot_sorted (Aa (Bs (N:=["_law_one","_law_most"]) rfl CU (CJ [none,some 4]) (Lc (pv 1))
   (fun s2 H C fp=>⟨(Ah (i:=0) (show (["_law_one","_law_most"]:List Str).Nodup by decide +kernel) rfl ga),(D8 (IB Hs LY Ag (Al (A8 K rfl) ci h_len PySem.boot_len ir) (pv 1))),(pv 0)⟩)) Ad))))))),?_⟩
  obtain ⟨mV,t2V,t1,Fu,An,hc,F3,Hy,rfl,snd,sl,lim⟩:=cs;have ul:=BX Hy;rw [ZM] at sl;refine ⟨(by show 0<=sizeLine; lia),fun T0 hT0=>⟨ie,fun L0 Zu=>?_⟩⟩;have s0:=(Ac (o:=.tup []) hT0).trans (Ac (o:=.lst [.ref T0]) Zu);exists _,rfl,c,_,_,_,rfl,rfl,AI.of (s0 _ _ hc),rfl,t1,rfl,⟨_,AI.of (s0 _ _ F3)⟩
  refine Mr (xs:=Fu) (fun i σ H'=>∃ (L:Addr) (us:List V) (fs:List iq) (v2 v3 v4:Option V),σ=[some (.ref c),some (.ref L),v2,v3,v4]/\Ar H H'/\H' L=some (.lst us)/\BP H' us fs/\HJ ((An.map (·.1)).take i) 100 fs/\fs.length<=2 ^ i)
   ⟨L0,[.ref T0],[[]],_,_,_,rfl,s0,Ab,.cons (by rw [Af (by intro z; subst z; rw [Ab] at Zu; cases Zu)]; exact Ab) .nil,HJ.nil bi,ZU _⟩
   (fun i σ H' _ ⟨_,_,_,_,_,_,_,sa,_⟩=>AI.of (sa _ _ F3)) ?_ ?_
  ·rintro i xx σ H' ex ⟨L,us,fs,v2,v3,v4,rfl,sa,hL,tU,sub,fl⟩ rt bk;obtain ⟨u,t,eu,rfl,ht⟩:=C9 Hy ex;have hi:i < An.length:=(ZT.mp eu).1;have f512:fs.length<=512:=az fl (az (cM bi (show i<=9 by lia)) bi);have hul:=tU.len;have Xy:∀ f ∈ fs,f.length<=10:=fun f hf=>by
    have:=((sub.2 f).mp hf).1.length_le;rw [aM,ZM] at this;lia
   exists t,_,rfl,AI.of (sa _ _ ht),rfl,_,_,rfl,_,_,rfl,rfl;exists _,rfl,_,rfl,L,rfl,⟨_,AB.of hL⟩
   refine B6 BN (xs:=us) (fun D j A2 H2 acc=>∃ v0:Option V,A2=[v0,some (.str u.1)]/\Ar H' H2/\H2 D=some h9/\BP H2 acc ((fs.take j).map (· ++ [u.1]))/\acc.length=j)
    (by lia) (fun D hD=>⟨_,rfl,Ac hD,Ab,.nil,rfl⟩) (fun D j A2 H2 acc hD ⟨v0,_,sb,AO,_,al⟩=>⟨AB.of (sb _ _ hL),AO,al⟩) ?_ ?_
   ·rintro D j A2 H2 acc x' B hD UU ⟨v0,rfl,sb,AO,tp,al⟩ hB;obtain ⟨tf,f,rfl,ef,htf⟩:=tU.get UU;have fm:=Xy f (ZS ef);refine ⟨_,rfl,_,rfl,ie,fun T1 Qr=>?_⟩;have q1:=Ac (o:=.tup [.str u.1]) Qr;have Zn:(upd H2 T1 (.tup [.str u.1])) T1=some (.tup [.str u.1]):=Ab;refine Wg (K:=K) (q1 _ _ (sb _ _ htf)) Zn (by rw [ZM]; show f.length + 1<=sizeLine; lia) fun T H5 s5 hT=>?_
    have q5:=q1.trans s5;refine hB _ _ _ (q5 _ _ AO) ⟨_,rfl,fun b o' z=>by rw [Af (Ai z hD)]; exact q5 _ _ (sb _ _ z),Ab,?_,by rw [ZQ,al]; rfl⟩;rw [ax,ef,ZY];have hT':H5 T=some (.tup ((f ++ [u.1]).map V.str)):=by rw [hT,ZY]; rfl
    refine ((tp.keep fun b ys z=>q5 _ _ z).app (.cons hT' .nil)).keep fun b ys z=>?_
    rw [Af (BM z (q5 _ _ AO) (fun q=>by cases q))];exact z
   ·rintro D A2 H2 acc hD ⟨v0,rfl,sb,AO,tp,al⟩;refine ⟨L,D,us,acc,rfl,rfl,sb _ _ hL,AO,by lia,fun p hp=>?_⟩;have sp:=Ac (o:=.lst (us ++ acc)) hp;rw [hul,aw] at tp;have e0:gJ[i]? = some u.1:=by rw [ZV,eu]; rfl
    have e1:(An.map (·.1)).take gt=(An.map (·.1)).take i ++ [u.1]:=by rw [ax,e0]; rfl
    have nin:u.1 ∉ (An.map (·.1)).take i:=by
     have:=snd.sublist (fQ gt _);rw [e1] at this;exact fun z=>(aW.mp this).2.2 _ z _ gl rfl
    have ef:(fs.filter fun f=>decide ((f.length:Int) < 100))=fs:=cO.mpr fun f hf=>decide_eq_true (by have:=Xy f hf; lia)
    exists p,us ++ acc,fs ++ fs.map (· ++ [u.1]),_,_,_,rfl,(sa.trans sb).trans sp,Ab,((tU.keep fun b ys z=>sb _ _ z).app tp).keep (fun b ys z=>sp _ _ z),?_
    ·rw [e1];have:=HJ.step nin sub;rw [ef] at this;exact this
    ·rw [ZQ,ZM,gG];lia
  ·rintro σ H' ⟨L,us,fs,v2,v3,v4,rfl,sa,hL,tU,sub,fl⟩;rw [ul,df (by rw [ZM]; exact ZU _)] at sub;rw [ul] at fl;have f64:fs.length<=64:=az fl (az (cM bi (by rw [ZM] at s6; exact s6)) bi);have Xz:fs.length<=1024:=az fl (az (cM bi sl) bi);have hul:=tU.len;have Ii:=sa _ _ hc;have YX:=sa _ _ F3;obtain ⟨mo,hmo,mok⟩:∃ mo:Int,J3 [x,V.int (Fu.length:Int)] (if decide (x=.non)=true then 1 else 0)=some (.int mo)/\∀ f ∈ fs,((f.length:Int)<=mo ↔ CF x f.length=true):=by
    rcases lim with ⟨rfl,_⟩ | ⟨i,rfl,_,i1,i2⟩
    ·refine ⟨Fu.length,rfl,fun f hf=>⟨fun _=>rfl,fun _=>?_⟩⟩;have:=((sub.2 f).mp hf).1.length_le;rw [ZM] at this;lia
    ·exact ⟨i,rfl,fun f hf=>⟨fun h=>decide_eq_true h,fun h=>of_decide_eq_true h⟩⟩
   refine ⟨_,rfl,c,_,_,_,rfl,rfl,AI.of Ii,rfl,_,rfl,c,_,_,_,rfl,rfl,AI.of Ii,rfl,t1,_,rfl,.inr (AI.of YX),ge,fun M hM=>?_⟩;have sM:=Ac (o:=.lst [x,.int (Fu.length:Int)]) hM;have hMM:(upd H' M (.lst [x,.int (Fu.length:Int)])) M=some (.lst [x,.int (Fu.length:Int)]):=Ab;generalize upd H' M (.lst [x,.int (Fu.length:Int)])=H1 at sM hMM ⊢;refine ⟨_,rfl,c,_,_,_,rfl,rfl,AI.of (sM _ _ Ii),rfl,.inr ⟨_,rfl,M,_,_,_,rfl,rfl,AB.of hMM,hmo,?_⟩⟩;exists _,rfl,L,rfl,⟨_,AB.of (sM _ _ hL)⟩
   refine BY BN (xs:=us) (fun D i A2 H2 acc=>∃ v0:Option V,A2=[v0,some (.int mo)]/\Ar H1 H2/\H2 D=some h9/\BP H2 acc ((fs.take i).filter fun f=>decide (0 < f.length) && CF x f.length)/\acc.length<=i)
    (by lia) (fun D hD=>⟨_,rfl,Ac hD,Ab,.nil,ZU _⟩) (fun D i A2 H2 acc hD ⟨v0,_,sb,AO,_,al⟩=>⟨AB.of (sb _ _ (sM _ _ hL)),AO,al⟩) ?_ ?_
   ·rintro D i A2 H2 acc x' B N hD ex ⟨v0,rfl,sb,AO,tp,al⟩ hB hN;obtain ⟨tf,f,rfl,ef,htf⟩:=tU.get ex;have Xb:=sb _ _ (sM _ _ htf);have mk:=mok f (ZS ef);have yes:(decide (0 < f.length) && CF x f.length)=true->B [some (.ref tf),some (.int mo)] (.ref tf) H2:=fun z=>by
     refine hB _ _ _ AO ⟨_,rfl,fun b o' z=>by rw [Af (Ai z hD)]; exact sb _ _ z,Ab,?_,by rw [ZQ]; simp; lia⟩;rw [ax,ef,bJ];simp only [gj,bT,z,if_true,gq];refine (tp.app (.cons Xb .nil)).keep fun b ys z=>?_
     rw [Af (BM z AO (fun q=>by cases q))];exact z
    have no:(decide (0 < f.length) && CF x f.length)=false->N [some (.ref tf),some (.int mo)] H2:=fun z=>by
     refine hN _ _ ⟨_,rfl,sb,AO,?_,by lia⟩;rw [ax,ef,bJ];simp only [gj,bT,z,aF,if_false,gq,bc];exact tp
    exists _,rfl,tf,_,rfl,.inr (AI.of Xb),_,_,rfl,rfl,_,rfl;rw [ZM];refine BB (fun z1=>?_) (fun z1=>?_)
    ·have XC:0 < f.length:=by have:=of_decide_eq_true z1; lia
     exists _,rfl,_,_,rfl,rfl,_,rfl;refine BB iu iu
     ·exact ⟨_,rfl,yes (by rw [decide_eq_true XC,mk.mp (of_decide_eq_true z)]; rfl)⟩
     ·refine no ?_;rw [decide_eq_true XC,Bool.true_and];cases hb:CF x f.length with
      | false=>rfl
      | true=>exact absurd (decide_eq_true (mk.mpr hb)) z
    ·have z0:¬ ((0:Int) < f.length):=by simpa using z1
     have XC:¬ 0 < f.length:=by lia
     exists _,rfl;refine GK ?_;exact no (by rw [decide_eq_false XC]; rfl)
   ·rintro D A2 H2 acc hD ⟨v0,rfl,sb,AO,tp,al⟩;rw [hul,aw] at tp;refine ⟨D,acc,fun _=>true,rfl,AB.of AO,tp.kinds (fun f hf=>?_),?_,fun l E5 hl pm=>?_⟩
    ·have:=(aO.mp hf).2;simp only [aV,decide_eq_true_eq] at this;intro z;rw [z] at this;simp at this
    ·have e1:=tp.len;have e2:=(dy (p:=fun f:List Str=>decide (0 < f.length) && CF x f.length) (l:=fs)).mpr ⟨[],(sub.2 []).mpr ⟨de _,by decide⟩,by simp⟩;lia
    ·obtain ⟨os,po,to⟩:=BP.perm pm tp;have U9:=Ac (o:=.lst E5) hl;refine k _ l E5 os (((sa.trans sM).trans sb).trans U9) ?_ Ab (to.keep fun b ys z=>U9 _ _ z) ⟨po.nodup_iff.mpr (sub.1.sublist bO),?_,fun ss=>?_⟩ (by rw [po.length_eq]; exact az (aN _ _) Xz)
     ·exact ((sa.trans sM).trans sb).free hl
     ·trivial
     ·rw [po.mem_iff,aO,sub.2,aV,decide_eq_true_eq];constructor
      ·rintro ⟨⟨h1,_⟩,h2,h3⟩;exact ⟨by intro z; rw [z] at h2; simp at h2,h1,h3⟩
      ·rintro ⟨h1,h2,h3⟩;refine ⟨⟨h2,?_⟩,bP.mpr h1,h3⟩;have:=h2.length_le;rw [ZM] at this;lia
end
section
variable {P:Program} {w:World} {K:ZP} {mg:Str->Option Value} {base:Heap}
theorem Li (h_min:mg "min"=none) (h_sum:mg "sum"=none) {f:Addr} {fd:FuncData} (F:E4 K "_law_costs" "_law_costs" D6 f fd):AH P w K mg base BK 1 f fd ["_law_case_here","_law_lengths_here","_law_opening"] Od:=by
 refine F.ok Gg gP ca
 ·obtain ⟨c,m,A0,o,n,xs,ws,An,A6,x,d,ss,rfl,_⟩:=h;rfl
 ·obtain ⟨c,m,A0,o,n,xs,ws,An,A6,x,d,ss,rfl,cw,kn,ho,XU,Ts,k⟩:=h;have nd:=Gg.nd;have hu:=Ez hr;have big:100000 < sizeLine:=by decide
  refine ⟨_,(Ae (Am (i:=3) nd rfl (Or.inl rfl) (Al (DM rfl) ci h_sum PyProof.Rows.boot_sum (Aa (Bs (N:=["_law_place","_law_amount","_law_opening"]) rfl CU (CJ [none,none,some 2]) (AV K rfl (A4 (AX K rfl) (pv 0) Ag ce))
   (fun s2 H C fp=>⟨(BD K rfl (n:=2) rfl (Au (Ah (i:=0) iB rfl ga) (Au (Ah (i:=1) iB rfl ga) BC))),(D8 (By (V9 K rfl) (pv 0) (pv 2) ci)),(pv 1)⟩)) Ad)))
  (Ae (Bp PassesOwn.never rfl (AV K rfl (A4 (AX K rfl) (pv 0) Ag ce)) (BD K rfl rfl (Au (Ah (i:=4) nd rfl (Or.inr rfl)) (Au (Ah (i:=5) nd rfl ga) BC)))
  (Aj (Am (i:=3) nd rfl (Or.inl rfl) (Ax Bj (pv 3) (Ax O1 (pv 5) (Al (F7 rfl) ci h_min PyProof.Rows.boot_min (Aa (Bs (N:=["_law_house","_law_lengths_here","_law_place"]) rfl CU (CJ [none,some 1,some 4]) (AV K rfl (pv 2))
   (fun s2 H C fp=>⟨(Ah (i:=0) (show (["_law_house","_law_lengths_here","_law_place"]:List Str).Nodup by decide +kernel) rfl ga),Bc,(Bd hu (pv 1) (A7 (Aa (pv 2) ir)) ce)⟩)) Ad)))))))
  (Aj (AJ (pv 3))))),?_⟩
  obtain ⟨t1,t2,Fu,NP,hc,F3,Hy,FK,hd2⟩:=cw.ex;have Vg:=BX Hy;have ul2:=BX hd2;have l1:=cw.l1;have l2:=cw.l2;have ssx:∀ s ∈ ss,s ∈ xs:=fun s hs=>by
   obtain ⟨r,hr,e⟩:=ZR.mp (XU.2.2 s hs);have e':r.1=s:=e;rw [<-e'];exact cw.ok1.sub r hr
  exists _,rfl,c,_,_,_,rfl,rfl,AI.of hc,rfl,t1,rfl,⟨_,AI.of F3⟩
  refine BY BL (xs:=Fu) (fun D i σ H' acc=>∃ v0 v1:Option V,σ=[v0,v1,some (.ref o)]/\Ar H H'/\H' D=some h9/\acc=(((An.take i).filter fun r=>decide (r.1 ∈ ss)).map (·.2)).map V.int/\acc.length<=i)
   (by lia) (fun D hD=>⟨_,_,rfl,Ac hD,Ab,rfl,ZU _⟩)
   (fun D i σ H' acc hD ⟨v0,v1,_,sa,AO,_,al⟩=>⟨AI.of (sa _ _ F3),AO,al⟩) ?_ ?_
  ·rintro D i σ H' acc x' B N hD ex ⟨v0,v1,rfl,sa,AO,ea,al⟩ hB hN;obtain ⟨u,t,eu,rfl,ht⟩:=C9 Hy ex;exists t,_,rfl,AI.of (sa _ _ ht),rfl,_,_,rfl,_,_,rfl,rfl;exists _,rfl,_,rfl,o,_,rfl,.inr (AI.of (sa _ _ ho)),rfl,GO ss,_,rfl;rw [Jd];refine BB (fun hz=>?_) (fun hz=>?_)
   ·have Q9:u.1 ∈ ss:=by simpa using hz
    exists _,rfl;refine hB _ _ _ AO ⟨_,_,rfl,fun b o' z=>by rw [Af (Ai z hD)]; exact sa _ _ z,Ab,?_,by rw [ZQ]; simp; lia⟩;rw [ea,ax,eu,bJ,ZY,ZY];simp [Q9]
   ·have Q9:¬ u.1 ∈ ss:=by simpa using hz
    refine hN _ _ ⟨_,_,rfl,sa,AO,?_,by lia⟩;rw [ea,ax,eu,bJ,ZY,ZY];simp [Q9]
  rintro D σ H1 acc hD ⟨v0,v1,rfl,s1,AO,ea,al⟩;rw [Vg,aw] at ea;exists D,_,rfl,AB.of (by rw [AO,ea]);rw [Ph cw.ok1.nd XU.2.1 XU.2.2];refine ⟨_,rfl,c,_,_,_,rfl,rfl,AI.of (s1 _ _ hc),rfl,t2,rfl,⟨_,AI.of (s1 _ _ FK)⟩,C8 (xs:=NP) (fun i σ H'=>∃ (v4 v5:Option V) (ds:List Int),σ=[some (.ref c),some (.ref A0),some (.ref o),some (.int ((ss.map (DL An)).sum + FF (A6.take i) ds)),v4,v5]/\Ar H H'/\ds.length=i/\∀ (j:Nat) r d,A6[j]? = some r->ds[j]? = some d->Md ws ss r.1 d)
   ⟨_,_,[],by have e:FF (A6.take 0) []=0:=(by rw [cR]; rfl); rw [e,eA]; rfl,s1,rfl,fun j r d _ e=>(by cases e)⟩ (fun i σ H' _ ⟨_,_,_,_,sa,_⟩=>AI.of (sa _ _ FK)) (fun i v σ H' hv hP rt bk N hN=>?_) (fun σ H' hP=>?_)⟩
  ·obtain ⟨v4,v5,ds,rfl,sa,dl,md⟩:=hP;obtain ⟨r,tt,er,rfl,htt⟩:=C9 hd2 hv;have rm:=ZS er;have rx:=cw.ok2.sub r rm;have r4:=(cw.ok2.lo r rm).2;have r1:=(cw.ok2.lo r rm).1;exists tt,_,rfl,AI.of (sa _ _ htt),rfl,_,_,rfl,_,_,rfl,rfl;exists _,rfl,_,rfl,_,rfl,o,rfl,⟨_,AI.of (sa _ _ ho)⟩
   refine B6 BL (xs:=ss.map V.str) (fun D i A2 H2 acc=>∃ v0:Option V,A2=[v0,some (.ref A0),some (.str r.1)]/\Ar H' H2/\H2 D=some h9/\acc=((ss.take i).map fun s=>dst ws s r.1).map V.int/\acc.length=i)
    (by rw [ZM]; lia) (fun D hD=>⟨_,rfl,Ac hD,Ab,rfl,rfl⟩) (fun D i A2 H2 acc hD ⟨v0,_,sb,AO,_,al⟩=>⟨AI.of (sb _ _ (sa _ _ ho)),AO,al⟩) ?_ ?_
   ·rintro D j A2 H2 acc x' B hD UU ⟨v0,rfl,sb,AO,ea,al⟩ hB;obtain ⟨s,es,rfl⟩:∃ s,ss[j]? = some s/\x'=.str s:=by
     rw [ZV] at UU;cases z:ss[j]? with
     | none=>rw [z] at UU; cases UU
     | some s=>rw [z] at UU; exact ⟨s,rfl,(ar.inj UU).symm⟩
    refine ⟨_,rfl,_,rfl,_,rfl,ge,fun T hT=>?_⟩;have q2:=Ac (o:=.tup [.str r.1,.str s]) hT;have Ky:(upd H2 T (.tup [.str r.1,.str s])) T=some (.tup [.str r.1,.str s]):=Ab;generalize upd H2 T (.tup [.str r.1,.str s])=H3 at q2 Ky ⊢;obtain ⟨g2,_,_⟩:=(((kn.same sa).same sb).same q2).get rx (ssx s (ZS es)) Ky;exists A0,_,rfl,g2;refine hB _ _ _ (q2 _ _ AO) ⟨_,rfl,fun b o e=>by rw [Af (Ai e hD)]; exact q2 _ _ (sb _ _ e),Ab,?_,by rw [ZQ,al]; rfl⟩;rw [ea,ax,es,ZY,ZY];rfl
   ·rintro D A2 H2 acc hD ⟨v0,rfl,sb,AO,ea,al⟩;rw [ZM,aw] at ea;refine ⟨D,ss.map fun s=>dst ws s r.1,rfl,by rw [AO,ea],by rw [Ne,fI]; exact XU.1,fun mn hm hle=>?_⟩;obtain ⟨s,hs,es⟩:=ZR.mp hm;have kd:=kn.dst (ssx s hs) rx;have kb:=cw.map.bound cw.n1 cw.n30 (ssx s hs) rx kd;rw [es] at kb;exists _,_,rfl,rfl,⟨⟨cB gO r1,eZ r4 gO⟩,cB gO kb.1,kb.2⟩,_,_,rfl,rfl;refine hN _ _ ⟨some (.str r.1),some (.int r.2),ds ++ [mn],?_,sa.trans sb,by rw [ZQ,dl]; rfl,fun j r' d' e1 e2=>?_⟩
    ·rw [Mi er dl,<-dQ];rfl
    ·by_cases ej:j < ds.length
     ·rw [aI ej] at e2;exact md j r' d' e1 e2
     ·rw [aG ad] at e2;have hj:j=i:=by
       have:=(ZT.mp e2).1;simp at this;lia
      subst hj;rw [er] at e1;cases e1
      rw [dl,cF] at e2;cases e2
      refine ⟨⟨s,hs,by rw [<-es]; exact kd.1⟩,fun s' Kw m' g=>?_⟩;have a1:=hle _ (ZR.mpr ⟨s',Kw,rfl⟩);have a2:=(kn.dst (ssx s' Kw) rx).2 m' g;exact gE a1 a2
  ·obtain ⟨v4,v5,ds,rfl,sa,dl,md⟩:=hP;rw [ul2,aw];exact ⟨_,rfl,k H' _ sa ⟨ds,⟨by lia,md⟩,rfl⟩⟩
end
section
variable {P:Program} {w:World} {K:ZP} {mg:Str->Option Value} {base:Heap}
theorem IJ {f:Addr} {fd:FuncData} (F:E4 K "neighbours" "neighbours" Dd f fd):AH P w K mg base BK 1 f fd ["web"] (Rf K):=by
 refine F.ok Fv gP ca
 ·obtain ⟨q,ps,ws,r,rfl,_⟩:=h;rfl
 ·obtain ⟨q,ps,ws,r,rfl,ok,k⟩:=h;obtain ⟨tp,tw,us,hq,htp,htw,hD⟩:=ok.web.ex;have nd:=Fv.nd;have hu:=Ez hr;have big:1000 < sizeLine:=by decide
  have l30:=ok.l30;have l64:=ok.l64;refine ⟨_,Ae (EH (pv 0) (BD K rfl rfl (Au (Ah (i:=1) nd rfl ga) (Au (Ah (i:=2) nd rfl ga) BC))))
   (Ae (RB (ix:=3) (N:=["place"]) (σ0:=fun _=>[none]) nd rfl ga rfl (Cc.plain gO gO rfl gO) (fun σ _=>C3.none _ _ _ ["place"] σ) (AV K rfl (pv 1))
    (fun s2 H C fp=>⟨Ah (i:=0) (show (["place"]:List Str).Nodup by decide +kernel) rfl ga,Bc,pv 0,LW⟩))
   (Ae (Bp PassesOwn.never rfl (AV K rfl (pv 2)) (BD K rfl rfl (Au (Ah (i:=4) nd rfl ga) (Au (Ah (i:=5) nd rfl ga) (Au (Ah (i:=6) nd rfl ga) BC))))
    (Ae (Ce hu (Bd hu (pv 3) (pv 4) ce) (pv 5) (pv 6) rfl) (Aj (Ce hu (Bd hu (pv 3) (pv 5) ce) (pv 4) (pv 6) rfl))))
   (Aj (AJ (pv 3))))),?_⟩
  exists _,rfl,q,_,rfl,AI.of hq,rfl,_,_,rfl,_,_,rfl,rfl;refine ⟨_,rfl,tp,rfl,⟨_,AI.of htp⟩,fun C hC=>⟨fun i m A2 H'=>m=ps.length - i/\i<=ps.length/\(∃ v,A2=[v])/\∃ ds:List Addr,Ar H H'/\ds.length=i/\ds.Nodup/\C ∉ ds/\(∀ d ∈ ds,H d=none/\H' d=some (.dK []))/\H' C=some (.dK (sK (O4 (ps.take i) ds))),
   ⟨_,rfl,aJ _,⟨_,rfl⟩,[],Ac hC,rfl,.nil,by simp,by simp,Ab⟩,?_⟩⟩
  rintro i m A2 H' ⟨rfl,hi,⟨v,rfl⟩,ds,s1,dl,dn,dC,dH,OJ⟩;have Nv:=s1 _ _ htp;by_cases B0:i < ps.length
  ·refine .inr ⟨⟨_,V.str ps[i],AI.of Nv,by rw [ZV,ZN B0]; rfl⟩,?_⟩;rintro x H6 ⟨rfl,hx⟩;have Ln:=hx _ (AI.of Nv);rw [ZV,ZN B0] at Ln;cases Ln
   have tl:(ps.take i).length=i:=by rw [aM]; lia
   have np:ps[i] ∉ (O4 (ps.take i) ds).map (·.1):=by
    rw [IQ ad];intro hm;obtain ⟨j,hj,e⟩:=aq hm;rw [cE] at e;have:=Gp ok.nd (ZN (show j < ps.length by lia)) (by rw [ZN B0,e]);lia
   refine ⟨_,rfl,fun d hd=>⟨_,Sum.inr ps[i],rfl,Ac hd _ _ OJ,?_,_,by lia,rfl,B0,⟨_,rfl⟩,ds ++ [d],fun b o z=>?_,by simp [dl],?_,?_,fun c hc=>?_,?_⟩⟩
   ·rw [CY];unfold O4;rw [ZM,cN];lia
   ·rw [Af (Ai z hC)];exact Ac hd _ _ (s1 _ _ z)
   ·refine aW.mpr ⟨dn,aD.mpr ⟨by simp,.nil⟩,fun a ha b hb=>?_⟩;have e:b=d:=by simpa using hb
    subst e;rintro rfl;rw [(dH _ ha).2] at hd;cases hd
   ·rw [ak,not_or];refine ⟨dC,fun hm=>?_⟩;have e:C=d:=by simpa using hm
    rw [<-e,OJ] at hd;cases hd
   ·rcases ak.mp hc with hc | hc
    ·exists (dH c hc).1;rw [Af (fun z=>dC (by rw [<-z]; exact hc))];exact Ac hd _ _ (dH c hc).2
    ·have e:c=d:=by simpa using hc
     subst e;exists s1.free hd;rw [Af (fun z=>by rw [z,OJ] at hd; cases hd)];exact Ab
   ·rw [Ab,DE np];have e1:ps.take gt=ps.take i ++ [ps[i]]:=by rw [ax,ZN B0]; rfl
    have e2:O4 (ps.take gt) (ds ++ [d])=O4 (ps.take i) ds ++ [(ps[i],.ref d)]:=by
     unfold O4;rw [e1,gh ad,ZY];rfl
    rw [e2]
  ·have e0:i=ps.length:=by lia
   subst e0;rw [aw] at OJ;refine .inl ⟨⟨_,AI.of Nv,by rw [ZM]; exact ZU _⟩,?_⟩;have NB0:NB H' C ps ds (Ly (ws.take 0)) 0:=⟨OJ,dl,dn,dC,fun j p d e1 e2=>⟨[],(dH d (ZS e2)).2,ZU _,fun y=>⟨fun z=>absurd z aQ,fun ⟨u,hu,_⟩=>absurd hu aQ⟩⟩⟩
   have ZL:SR H' ps ds (Cb (ws.take 0)):=fun j p d nv e1 e2 hr y v hy=>by
    have:nv=[]:=Rd.inj hr (.inl (dH d (ZS e2)).2);subst this;cases hy
   have hwl:us.length=ws.length:=by rw [Jn hD,ZM]
   refine ⟨_,rfl,tw,rfl,⟨_,AI.of (s1 _ _ htw)⟩,Mr (xs:=us) (fun i σ H2=>(∃ v4 v5 v6,σ=[some (.ref q),some (.ref tp),some (.ref tw),some (.ref C),v4,v5,v6])/\Ar H H2/\NB H2 C ps ds (Ly (ws.take i)) (2 * i)/\SR H2 ps ds (Cb (ws.take i))) ⟨⟨_,_,_,rfl⟩,s1,NB0,ZL⟩ (fun i σ H2 _ hP=>AI.of (hP.2.1 _ _ htw)) (fun i x σ H2 hx hP rt bk=>?_) (fun σ H2 hP=>?_)⟩
   ·obtain ⟨⟨v4,v5,v6,rfl⟩,s2,nb,nbv⟩:=hP;obtain ⟨u,t,gu,rfl,ht⟩:=Gx hD hx;have VS:i < ws.length:=(ZT.mp gu).1;have hu2:=ok.ends u (ZS gu);exists t,_,rfl,AI.of (s2 _ _ ht),rfl,_,_,rfl,_,_,rfl,_,_,rfl,rfl;obtain ⟨j,d,nv,a1,a2,a3,a4,a5,a6⟩:=nb.get ok.nd hu2.1;obtain ⟨DU,b1,b2,b3⟩:=MR nv u.2.1 (.int u.2.2);have dH1:∀ c ∈ ds,H c=none:=fun c hc=>(dH c hc).1
    exists _,rfl,_,rfl,_,rfl,C,_,rfl,?_,_,rfl,d,_,rfl,DZ.k (k:=Sum.inr u.2.1) a4 (by rw [CY]; lia)
    ·have:=BQ.k (k:=Sum.inr u.1) nb.top;rw [a3] at this;exact this
    rw [b1];have UJ:=nb.put ok.nd a1 a2 a4 b2 b3 a6 a5;have WT:=nbv.put ok.nd nb.nd a1 a2 a4 b1 (fun _ _ _=>Qz) (Mv gu);have s3:Ar H (upd H2 d (.dK (sK DU))):=fun b o z=>by
     rw [Af (Ai z (dH1 d (ZS a2)))];exact s2 _ _ z
    generalize upd H2 d (.dK (sK DU))=H3 at UJ WT s3 ⊢;obtain ⟨j',d',mv,c1,c2,c3,c4,c5,c6⟩:=UJ.get ok.nd hu2.2;obtain ⟨mv',e1,e2,e3⟩:=MR mv u.1 (.int u.2.2);exists _,rfl,_,rfl,_,rfl,C,_,rfl,?_,_,rfl,d',_,rfl,DZ.k (k:=Sum.inr u.1) c4 (by rw [CY]; lia)
    ·have:=BQ.k (k:=Sum.inr u.2.1) UJ.top;rw [c3] at this;exact this
    rw [e1];have nb3:=UJ.put ok.nd c1 c2 c4 e2 e3 c6 c5;have YG:=WT.put (Ed':=Cb (ws.take gt)) ok.nd UJ.nd c1 c2 c4 e1 (fun _ _ _ h=>h) (Mv gu).symm;refine ⟨⟨_,_,_,rfl⟩,fun b o z=>?_,nb3.mono (fun a b=>(S6 gu a b).symm) ad,YG⟩;rw [Af (Ai z (dH1 d' (ZS c2)))];exact s3 _ _ z
   ·obtain ⟨⟨v4,v5,v6,rfl⟩,s2,nb,nbv⟩:=hP;rw [hwl,aw] at nb nbv;exact ⟨_,rfl,k H2 C ds s2 (nb.mono (fun _ _=>Iff.rfl) ad) nbv hC fun d hd=>(dH d hd).1⟩
end
section
variable {P:Program} {w:World} {K:ZP} {mg:Str->Option Value} {base:Heap}
structure NbF (K:ZP) (mg:Str->Option Value) (f:Addr) (fd:FuncData):Prop where
 F:E4 K "neighbours" "neighbours" Dd f fd
 mg:mg "neighbours"=some (.ref f)
 b:F9 K fd ["web"] []
theorem Nh {f fN:Addr} {fd fdN:FuncData} (NK:NbF K mg fN fdN) (hmi:mg "min"=none) (F:E4 K "nearest" "nearest" Fh f fd):AH P w K mg base BK 2 f fd ["web","starts"] (Rc K):=by
 have GN:AH P w K mg base BK 1 fN fdN ["web"] (Rf K):=IJ NK.F;refine F.ok Iu gP ca
 ·obtain ⟨q,st,ps,ss,ws,r,rfl,_⟩:=h;rfl
 ·obtain ⟨q,st,ps,ss,ws,r,rfl,ok,pos,uniq,hst,ssne,ssn,sssub,k⟩:=h;have nd:=Iu.nd;have hu:=Ez hr;have HQ:=hr.units;have big:1000 < sizeLine:=by decide
  have l30:=ok.l30;have ssl:ss.length<=30:=by
   have:=Cq ssn sssub;lia
  refine ⟨_,Ae (Am (i:=2) nd rfl (Or.inl rfl) (Ak GN hr ci NK.mg NK.F.kp NK.b .nil Aw ir))
   (Ae (Am (i:=3) nd rfl (Or.inr rfl) (IF (N:=["start"]) (σ0:=fun _=>[none]) rfl (Cc.plain gO gO rfl gO) (fun σ _=>C3.none _ _ _ ["start"] σ) (PI.or (BF K rfl (pv 1)) (AV K rfl (pv 1)))
    (fun s2 H C fp=>⟨Ah (i:=0) (show (["start"]:List Str).Nodup by decide +kernel) rfl ga,Bc,pv 0,A7 (Aa Ag ir)⟩)))
   (Ae (Am (i:=4) nd rfl (Or.inl rfl) LW)
   (Ae (IC PassesOwn.never (LU (pv 3) (fun _=>rfl))
    (Ae (EH (T5 (Al (Jt rfl HQ) ci hmi PyProof.Rows.boot_min (Aa
      (Bs (N:=["name","reached"]) rfl
       CU
       (CJ [none,some 3]) (Ox (pv 3))
       (fun s2 H C fp=>⟨Ah (i:=0) (show (["name","reached"]:List Str).Nodup by decide +kernel) rfl ga,Bc,A7 (Aa (Bd hu (pv 1) (pv 0) ce) ir)⟩)) Ad)))
      (BD K rfl rfl (Au (BD K rfl rfl (Au (Ah (i:=5) nd rfl ga) (Au (Ah (i:=6) nd rfl ga) BC))) (Au (Ah (i:=7) nd rfl ga) BC))))
    (Ae (Tz (pv 3) (pv 7))
    (Ae (Ce hu (pv 4) (pv 7) (A7 (Aa (pv 5) (Aa (pv 6) Ad))) rfl)
    (Aj (Bp PassesOwn.never rfl (Ox (Bd hu (pv 2) (pv 7) ce)) (Ah (i:=8) nd rfl ga)
     (Aj (Dm (DG (Km hu (pv 8) (pv 4)))
      (Ae (Am (i:=9) nd rfl (Or.inl rfl) (A7 (Aa (Ax Bj (pv 5) (Bd hu (Bd hu (pv 2) (pv 7) ce) (pv 8) ce)) (Aa (pv 6) Ad))))
      (Aj (Ce hu (pv 3) (pv 8) (Al (JI rfl HQ) ci hmi PyProof.Rows.boot_min (Aa (pv 9) (Aa (RH hu (pv 3) (pv 8) (pv 9) ⟨rfl,rfl,rfl,rfl⟩) Ad))) rfl))) BH))))))))
   (Aj (AJ (pv 4)))))),?_⟩
  refine ⟨_,rfl,q,ps,ws,r,rfl,ok,fun H1 B ds s1 nb nbv hB hds=>?_⟩;have nbAt:∀ a,a ∈ ds->∃ u,H1 a=some u:=fun a hm=>by
   obtain ⟨i,hi,e⟩:=aq hm;have VS:i < ps.length:=by rw [<-nb.len]; exact hi
   obtain ⟨nv,a1,_⟩:=nb.inner i ps[i] a (ZN VS) (by rw [ZN hi,e]);exact ⟨_,a1⟩
  have W3:=nb.top;rcases hst with hst | hst
  case' inl=>
   refine .inl ⟨_,rfl,st,rfl,⟨_,AB.of (s1 _ _ hst)⟩,fun RA hRA=>?_⟩
  case' inr=>
   refine .inr ⟨_,rfl,st,rfl,⟨_,AI.of (s1 _ _ hst)⟩,fun RA hRA=>?_⟩
  all_goals
   refine ⟨fun i m A2 H'=>m=ss.length - i/\i<=ss.length/\(∃ v,A2=[v])/\∃ nv:List gU,Ar H1 H'/\H' RA=some (.dK (sK nv))/\nv.map (·.1)=ss.take i/\∀ y v,(y,v) ∈ nv->KD H' v (0,y),
    ⟨_,rfl,aJ _,⟨_,rfl⟩,[],Ac hRA,Ab,rfl,fun y v hy=>absurd hy aQ⟩,?_⟩
   rintro i m A2 H' ⟨rfl,hi,⟨v,rfl⟩,nv,s2,OJ,nk,np⟩;have Nw:=s2 _ _ (s1 _ _ hst);by_cases B0:i < ss.length
   ·refine .inr ⟨⟨_,V.str ss[i],by first | exact AB.of Nw | exact AI.of Nw,by rw [ZV,ZN B0]; rfl⟩,?_⟩;rintro x H6 ⟨rfl,hx⟩;have Ln:=hx _ (by first | exact AB.of Nw | exact AI.of Nw);rw [ZV,ZN B0] at Ln;cases Ln
    have nn:ss[i] ∉ nv.map (·.1):=by
     rw [nk];intro hm;obtain ⟨j,hj,e⟩:=aq hm;rw [aM] at hj;rw [cE] at e;have:=Gp ssn (ZN (show j < ss.length by lia)) (by rw [ZN B0,e]);lia
    have nl:nv.length=i:=by
     have:=congrArg bK nk;rw [ZM,aM] at this;lia
    refine ⟨_,rfl,_,rfl,ge,fun t ht=>⟨_,Sum.inr ss[i],rfl,Ac ht _ _ OJ,by rw [CY]; lia,_,by lia,rfl,B0,⟨_,rfl⟩,nv ++ [(ss[i],.ref t)],fun b o z=>?_,by rw [Ab,DE nn],?_,fun y v hy=>?_⟩⟩
    ·rw [Af (Ai z hRA)];exact Ac ht _ _ (s2 _ _ z)
    ·rw [ZY,nk,ax,ZN B0]; rfl
    ·have tk:∀ b xs,(upd H6 t (.tup [.int 0,.str ss[i]])) b=some gX->(upd (upd H6 t (.tup [.int 0,.str ss[i]])) RA (.dK (Bw (sK nv) (Sum.inr ss[i]:AF) (.ref t)))) b=some gX:=fun b xs z=>by
      rw [Af (BM z (Ac ht _ _ OJ) (by intro z; cases z))]; exact z
     rcases ak.mp hy with hy | hy
     ·exact (np y v hy).same fun b xs z=>tk b xs (Ac ht _ _ z)
     ·simp only [aa,Prod.mk.injEq] at hy;obtain ⟨rfl,rfl⟩:=hy;exact ⟨t,rfl,tk _ _ Ab⟩
   ·have e0:i=ss.length:=by lia
    subst e0;rw [aw] at nk;refine .inl ⟨⟨_,by first | exact AB.of Nw | exact AI.of Nw,by rw [ZM]; exact ZU _⟩,fun SA hSA=>?_⟩;have sS:=Ac (o:=.dK []) hSA;have aR:RA ∉ ds/\RA ≠ B/\RA ≠ SA/\H RA=none:=⟨(fun hm=>by obtain ⟨u,e⟩:=nbAt RA hm; rw [hRA] at e; cases e),(fun z=>by rw [z,W3] at hRA; cases hRA),(fun z=>by rw [<-z,OJ] at hSA; cases hSA),s1.free hRA⟩
    have aS:SA ∉ ds/\SA ≠ B/\SA ≠ RA/\H SA=none:=⟨(fun hm=>by obtain ⟨u,e⟩:=nbAt SA hm; rw [s2 _ _ e] at hSA; cases hSA),(fun z=>by rw [z,s2 _ _ W3] at hSA; cases hSA),(fun z=>aR.2.2.1 z.symm),(s1.trans s2).free hSA⟩
    have s3:Ar H1 (upd H' SA (.dK [])):=s2.trans sS;have N0:NI H (upd H' SA (.dK [])) ps ws B RA SA ds nv [] (fun _ _=>False) (fun y p=>y ∈ ss/\p=(0,y)):=by
     refine ⟨s1.trans s3,nb.r.same s3,nbv.of nb.r (fun d _ nv z=>by rcases z with a | ⟨o,a⟩; exact .inl (s3 _ _ a); exact .inr ⟨o,s3 _ _ a⟩),sS _ _ OJ,Ab,⟨by rw [nk]; exact ssn,fun y v hy=>⟨(0,y),(np y v hy).same fun b xs z=>sS _ _ z,by rw [<-nk]; exact ZR.mpr ⟨_,hy,rfl⟩,rfl⟩,fun y p hp=>?_⟩,⟨.nil,fun y v hy=>absurd hy aQ,fun y p hp=>hp.elim⟩,fun y hy=>sssub y (by rw [<-nk]; exact hy),fun y hy=>absurd hy aQ⟩;obtain ⟨hy,rfl⟩:=hp;rw [<-nk] at hy;obtain ⟨⟨z,v⟩,a,b⟩:=ZR.mp hy;have b':z=y:=b;subst b';exact ⟨v,a,(np z v a).same fun b xs z=>sS _ _ z⟩
    have D0:U2 ws ss (fun _ _=>False) (fun y p=>y ∈ ss/\p=(0,y)):=⟨fun _ _ h=>h.elim,fun y p ⟨h1,h2⟩=>by subst h2; exact ⟨h1,.nil y⟩,fun _ _ _ _ h=>h.elim,fun s hs=>.inr ⟨(0,s),⟨hs,rfl⟩,DA.refl _⟩⟩
    clear OJ Nw np;generalize upd H' SA (.dK [])=H5 at N0 ⊢;refine ⟨fun m σ H2=>∃ nvR nvS S R v5 v6 v7 v8 v9,m=ps.length - nvS.length/\σ=[some (.ref q),some (.ref st),some (.ref B),some (.ref RA),some (.ref SA),v5,v6,v7,v8,v9]/\NI H H2 ps ws B RA SA ds nvR nvS S R/\U2 ws ss S R/\∀ y p,R y p->∀ q,¬ S y q,
     ⟨_,nv,[],_,_,_,_,_,_,_,rfl,rfl,N0,D0,fun _ _ _ _ h=>h⟩,?_⟩
    clear N0 D0 hSA sS s3 s2 nk;rintro m σ H2 ⟨nvR,nvS,S,R,v5,v6,v7,v8,v9,rfl,rfl,N,Dj,dis⟩;exists _,rfl,_,.inr (.inr ⟨_,N.dR,rfl⟩);by_cases hne:nvR=[]
    ·subst hne;refine GK ?_;have all:∀ x ∈ ps,∃ q,S x q:=Dj.done (fun y p h=>by obtain ⟨v,a,_⟩:=N.pR.2.2 y p h; cases a) ssne ok.con (fun T x hx tx cl=>ok.con (fun z=>T z->T r) (fun h=>h) (fun a b hab h tb=>h (cl b a hab.symm tb)) x hx tx) sssub;refine ⟨_,rfl,k H2 SA nvS N.same aS.2.2.2 N.dS N.pS.1 (fun x=>⟨N.subS x,fun hx=>N.inS.mpr (all x hx)⟩) fun y v hy=>?_⟩;obtain ⟨p,h1,h2⟩:=N.pS.2.1 y v hy;exact ⟨p,h1,Dj.near y p h2⟩
    ·have Za:(!(sK nvR).isEmpty)=true:=by cases nvR with
      | nil=>exact absurd rfl hne
      | cons=>rfl
     rw [Za];refine IY ?_;obtain ⟨NN,hNN⟩:∃ NN:St->Hp->Prop,NN=fun A2 H'=>∃ m',m' < ps.length - nvS.length/\∃ nvR nvS S R v5 v6 v7 v8 v9,m'=ps.length - nvS.length/\A2=[some (.ref q),some (.ref st),some (.ref B),some (.ref RA),some (.ref SA),v5,v6,v7,v8,v9]/\NI H H' ps ws B RA SA ds nvR nvS S R/\U2 ws ss S R/\∀ y p,R y p->∀ q,¬ S y q:=⟨_,rfl⟩
     exists NN,fun A2 H' z=>by rw [hNN] at z; exact z
     have lR:=N.lenR;have lS:=N.lenS;refine ⟨_,rfl,RA,_,rfl,.inl N.dR,fun o H3 fz C hC=>?_⟩;have fz':H3=upd H2 RA (.frz o (.dK (sK nvR))):=by
      rcases fz with ⟨_,e⟩ | ⟨e,_⟩
      ·exact e
      ·rw [N.dR] at e; cases e
     have hR3:=fz.at;have Yy:∀ b xs,H2 b=some gX->H3 b=some gX:=fun b xs z=>by
      rw [fz.ne (BM z N.dR (by intro z; cases z))]; exact z
     refine ⟨fun i m A2 H'=>m=nvR.length - i/\i<=nvR.length/\(∃ v,A2=[v,some (.ref RA)])/\∃ (acc:List V) (ks:List ((Int × Str) × Str)),Ar H3 H'/\H' C=some h9/\acc.length=i/\ks.length=i/\(∀ (j:Nat) v k,acc[j]? = some v->ks[j]? = some k->Vd H' v k)/\(∀ (j:Nat) y v,j < i->nvR[j]? = some (y,v)->∃ p,KD H3 v p/\ks[j]? = some (p,y)),
      ⟨_,rfl,aJ _,⟨_,rfl⟩,[],[],Ac hC,Ab,rfl,rfl,fun j v k h=>(by simp at h),fun j y v hj=>absurd hj (cy _)⟩,?_⟩
     rintro i m A2 H' ⟨rfl,hi,⟨v,rfl⟩,acc,ks,s4,OJ,al,kl,hky,hks⟩;have Xt:=s4 _ _ hR3;have nCR:RA ≠ C:=Ai hR3 hC;by_cases B0:i < nvR.length
     ·refine .inr ⟨⟨Xt,by rw [CY]; exact B0⟩,?_⟩;rintro z H6 ⟨rfl,key,v2,ek,rfl⟩;obtain ⟨y,ey,rfl⟩:=UA ek;have hm:=ZS ey;obtain ⟨p,hp,hRp⟩:=N.pR.2.1 y v2 hm;have hp3:=hp.same Yy;refine ⟨_,rfl,_,rfl,RA,v2,rfl,.inl ⟨_,Sum.inr y,.inr ⟨o,Xt⟩,rfl,(D7 N.pR.1 hm).symm⟩,_,rfl,ge,fun t ht=>?_⟩;have st:=Ac (o:=.tup [v2,.str y]) ht;have hC2:=st _ _ OJ;have tC:∀ b xs,(upd H6 t (.tup [v2,.str y])) b=some gX->(upd (upd H6 t (.tup [v2,.str y])) C (.lst (acc ++ [.ref t]))) b=some gX:=fun b xs z=>by
       rw [Af (BM z hC2 (by intro z; cases z))]; exact z
      refine ⟨acc,hC2,by lia,_,by lia,rfl,B0,⟨_,rfl⟩,acc ++ [.ref t],ks ++ [(p,y)],fun b u z=>?_,Ab,by simp [al],by simp [kl],fun j v k h1 h2=>?_,fun j y' v' hj h=>?_⟩
      ·rw [Af (Ai z hC)];exact st _ _ (s4 _ _ z)
      ·by_cases hj:j < acc.length
       ·rw [aI hj] at h1;rw [aI ad] at h2;exact (hky j v k h1 h2).same fun b xs z=>tC b xs (st _ _ z)
       ·rw [aG ad] at h1;rw [aG ad] at h2;have j0:j - acc.length=0:=by
         have:=(ZT.mp h1).1;simp at this;lia
        have j1:j - ks.length=0:=by lia
        rw [j0] at h1;rw [j1] at h2;cases h1
        cases h2
        obtain ⟨t2,e2,g2⟩:=hp3;subst e2;exact ⟨t,t2,rfl,tC _ _ Ab,t2,rfl,tC _ _ (st _ _ (s4 _ _ g2))⟩
      ·by_cases ej:j=i
       ·subst ej;rw [ey] at h;cases h
        exact ⟨p,hp3,by rw [aG ad,kl,cF]; rfl⟩
       ·obtain ⟨p',a1,a2⟩:=hks j y' v' ad h;exact ⟨p',a1,by rw [aI ad]; exact a2⟩
     ·have e0:i=nvR.length:=by lia
      subst e0;have ksne:ks ≠ []:=by
       intro z;rw [z] at kl;exact hne (bp.mp kl.symm)
      refine .inl ⟨⟨Xt,by rw [CY]; exact ZU _⟩,C,acc,ks,rfl,OJ,by lia,ksne,hky,fun v kk hk hKy hmin=>?_⟩;exists RA,o,sK nvR,Xt,fun ob w z=>?_
      ·have z':H RA=some (.frz ob w):=z;rw [aR.2.2.2] at z';cases z'
      obtain ⟨⟨d0,Io⟩,here⟩:=kk;obtain ⟨t,t2,rfl,ht,t2',e2,FK⟩:=hKy;cases e2
      have t45:∀ b xs,H' b=some gX->(upd H' RA (.dK (sK nvR))) b=some gX:=fun b xs z=>by
       rw [Af (BM z Xt (by intro z; cases z))]; exact z
      have s25:Ar H2 (upd H' RA (.dK (sK nvR))):=fun b u z=>by
       by_cases eb:b=RA
       ·subst eb;rw [N.dR] at z;cases z
        exact Ab
       ·rw [Af eb];refine s4 _ _ ?_;rw [fz.ne eb]; exact z
      have N5:=N.grow s25;have ht5:=t45 _ _ ht;have Xf:=t45 _ _ FK;have inR:∀ j y p,ks[j]? = some (p,y)->R y p:=fun j y p h=>by
       have hj:j < nvR.length:=by
        have:=(ZT.mp h).1;lia
       obtain ⟨p',a1,a2⟩:=hks j nvR[j].1 nvR[j].2 hj (ZN hj);rw [h] at a2;cases a2
       obtain ⟨p'',b1,b2⟩:=N.pR.2.1 _ _ (bh hj);rw [a1.fn (b1.same Yy)];exact b2
      have hRh:R here (d0,Io):=by
       obtain ⟨j,hj,ej⟩:=aq hk;exact inR j here (d0,Io) (by rw [ZN hj,ej])
      have least:∀ z p,R z p->DA (d0,Io) p:=fun z p hz=>by
       obtain ⟨v,a,b⟩:=N.pR.2.2 z p hz;obtain ⟨j,hj,ej⟩:=aq a;obtain ⟨p',a1,a2⟩:=hks j z v hj (by rw [ZN hj,ej]);have:=a1.fn (b.same Yy);subst this;exact hmin _ (ZS a2)
      have nSh:∀ q,¬ S here q:=dis here _ hRh;have nearH:NG ws ss here (d0,Io):=Dj.pick pos hRh nSh least;exists t,_,rfl,AI.of ht5,rfl,_,_,rfl,t2,_,rfl,AI.of Xf,rfl,_,_,rfl,_,_,rfl,rfl,_,_,rfl,rfl;generalize upd H' RA (.dK (sK nvR))=H5 at N5 ht5 Xf s25 ⊢;have hin:here ∈ nvR.map (·.1):=N5.inR.mpr ⟨_,hRh⟩;have hps:here ∈ ps:=N5.subR here hin;exists _,rfl,_,rfl,RA,_,Sum.inr here,rfl,N5.dR,rfl,by rw [Hn,decide_eq_true hin]
      rw [Tr];have N6:=N5.setR aR (N5.pR.drop here) (fun y hy=>by
       obtain ⟨e,he,ee⟩:=ZR.mp hy;exact N5.subR y (ZR.mpr ⟨e,(aO.mp he).1,ee⟩))
      generalize upd H5 RA (.dK (sK (nvR.filter fun q=>decide (q.1 ≠ here))))=H6 at N6 ⊢;have nhS:here ∉ nvS.map (·.1):=fun h=>by
       obtain ⟨q,hq⟩:=N6.inS.mp h;exact nSh q hq
      refine ⟨_,rfl,_,rfl,ge,fun t3 YW=>?_⟩;have N7:=N6.grow (Ac (o:=.tup [.int d0,.str Io]) YW);have Xe:(upd H6 t3 (.tup [.int d0,.str Io])) t3=some (.tup [.int d0,.str Io]):=Ab;generalize upd H6 t3 (.tup [.int d0,.str Io])=H7 at N7 Xe ⊢;exists _,rfl,_,rfl,SA,_,rfl,DZ.k (k:=Sum.inr here) N7.dS (by rw [CY]; have:=N7.lenS; lia);rw [DE nhS];have N8:=N7.setS aS (N7.pS.put (DE nhS) (p:=(d0,Io)) ⟨t3,rfl,Xe⟩) (fun y hy=>by
       rw [ZY] at hy;rcases ak.mp hy with hy | hy
       ·exact N7.subS y hy
       ·have:y=here:=by simpa using hy
        rw [this]; exact hps)
      generalize upd H7 SA (.dK (sK (nvS ++ [(here,.ref t3)])))=H8 at N8 ⊢;obtain ⟨S',OI⟩:∃ S':Str->Int × Str->Prop,S'=fun z q=>(z=here/\q=(d0,Io))\/(z ≠ here/\S z q):=⟨_,rfl⟩
      obtain ⟨Qb,hnvS⟩:∃ Qb:List gU,Qb=nvS ++ [(here,.ref t3)]:=⟨_,rfl⟩
      rw [<-OI,<-hnvS] at N8;have nSl:Qb.length=nvS.length + 1:=by rw [hnvS]; simp
      have nearS:∀ y q,S' y q->NG ws ss y q:=fun y q h=>by
       rw [OI] at h;rcases h with ⟨rfl,rfl⟩ | ⟨_,h⟩
       ·exact nearH
       ·exact Dj.near y q h
      have hSh:S' here (d0,Io):=by rw [OI]; exact .inl ⟨rfl,rfl⟩
      have toS:∀ y q,S y q->∃ q',S' y q':=fun y q h=>by
       by_cases e:y=here
       ·rw [e]; exact ⟨_,hSh⟩
       ·exact ⟨q,by rw [OI]; exact .inr ⟨e,h⟩⟩
      obtain ⟨i0,d,TK,a1,a2,a3,a4,a5⟩:=N8.nr.get ok.nd hps;have dm:=ZS a2;refine ⟨_,rfl,_,rfl,B,.ref d,rfl,?_,d,sK TK,rfl,a4,fun o9 H9 fz9=>?_⟩
      ·have:=BQ.k (k:=Sum.inr here) N8.nr.top;rw [a3] at this;exact this
      have N9:=N8.frz aR.1 aS.1 hds a1 a2 fz9 a5;obtain ⟨Pv,hPv⟩:∃ Pv:Nat->St->Hp->Prop,Pv=fun i σ H'=>∃ HN R' v8 v9,σ=[some (.ref q),some (.ref st),some (.ref B),some (.ref RA),some (.ref SA),some (.int d0),some (.str Io),some (.str here),v8,v9]/\NI H H' ps ws B RA SA ds HN Qb S' R'/\H' d=some (.frz o9 (.dK (sK TK))) /\
        (∀ y p,R' y p->p.2 ∈ ss/\Br ws p.2 y p.1)/\(∀ s ∈ ss,(∃ q,S' s q)\/∃ q,R' s q/\DA q (0,s)) /\
        (∀ x q y l,S' x q->Cb ws x y l->(∃ q',S' y q')\/(∃ q',R' y q'/\DA q' (q.1 + l,q.2))\/(x=here/\∀ (j:Nat) (v:V),j < i->TK[j]? ≠ some (y,v)))/\(∀ y p,R' y p->∀ q,¬ S' y q):=⟨_,rfl⟩
      refine Qt (a:=d) (o:=o9) (kvs:=sK TK) Pv ?_ (fun i σ H' _ hP=>by rw [hPv] at hP; obtain ⟨_,_,_,_,_,_,z,_⟩:=hP; exact z) (fun i key v σ H' hx hP rt bk=>?_) (fun σ H' hP=>?_)
      ·rw [hPv];refine ⟨_,_,_,_,rfl,N9,fz9.at,fun y p h=>Dj.reach y p h.2,fun s hs=>?_,fun x qq y l hx he=>?_,fun y p h qq hq=>?_⟩
       ·rcases Dj.start s hs with ⟨qq,h⟩ | ⟨qq,h,le⟩
        ·exact .inl (toS s qq h)
        ·by_cases e:s=here
         ·rw [e]; exact .inl ⟨_,hSh⟩
         ·exact .inr ⟨qq,⟨e,h⟩,le⟩
       ·by_cases ex:x=here
        ·exact .inr (.inr ⟨ex,fun j v hj=>absurd hj (cy _)⟩)
        ·rw [OI] at hx;rcases hx with ⟨h,_⟩ | ⟨_,hx⟩
         ·exact absurd h ex
         ·rcases Dj.relax x qq y l hx he with ⟨q',h⟩ | ⟨q',h,le⟩
          ·exact .inl (toS y q' h)
          ·by_cases e:y=here
           ·rw [e]; exact .inl ⟨_,hSh⟩
           ·exact .inr (.inl ⟨q',⟨e,h⟩,le⟩)
       ·rw [OI] at hq;rcases hq with ⟨h2,_⟩ | ⟨_,h2⟩
        ·exact h.1 h2
        ·exact dis y p h.2 qq h2
      ·rw [hPv] at hP;obtain ⟨HN,R',v8,v9,rfl,SU,hf,rch,sta,rel,Uo⟩:=hP;obtain ⟨y,e1,rfl⟩:=UA hx;have hym:=ZS e1;obtain ⟨w0,hw0⟩:∃ w0,Bm (sK TK) ib=some w0:=by
        have:(Bm (sK TK) ib).isSome=true:=by rw [Hn,decide_eq_true (ZR.mpr ⟨_,hym,rfl⟩)]
        exact cU.mp this
       obtain ⟨l,rfl,ed⟩:=SU.nbv i0 here d TK a1 a2 (.inr ⟨o9,hf⟩) y w0 (Kg hw0);have hyp:y ∈ ps:=by
        obtain ⟨u,hu,e⟩:=ed.adj;obtain ⟨q1,q2⟩:=ok.ends u hu;rcases e with ⟨_,e⟩ | ⟨e,_⟩
        ·rw [<-e]; exact q2
        ·rw [<-e]; exact q1
       exists _,rfl,_,rfl,SA,_,rfl,BQ.k (k:=Sum.inr y) SU.dS,_,rfl;rw [Hn];have step:∀ {z:Str},(∀ (j:Nat) (v:V),j < i->TK[j]? ≠ some (z,v))->z ≠ y->∀ (j:Nat) (v:V),j < i + 1->TK[j]? ≠ some (z,v):=fun h2 hz j v hj e=>by
        by_cases ej:j=i
        ·subst ej;rw [e1] at e;cases e
         exact hz rfl
        ·exact h2 j v ad e
       by_cases hy:y ∈ Qb.map (·.1)
       ·rw [decide_eq_true hy];refine GK ?_;show Pv gt _ _
        rw [hPv];refine ⟨HN,R',_,_,rfl,SU,hf,rch,sta,fun x qq z l' Ln he=>?_,Uo⟩;rcases rel x qq z l' Ln he with h | h | ⟨h1,h2⟩
        ·exact .inl h
        ·exact .inr (.inl h)
        ·by_cases ez:z=y
         ·rw [ez]; exact .inl (SU.inS.mp hy)
         ·exact .inr (.inr ⟨h1,step h2 ez⟩)
       ·rw [decide_eq_false hy];refine IY ?_;have nSy:∀ qq,¬ S' y qq:=fun qq h=>hy (SU.inS.mpr ⟨qq,h⟩)
        have dgT:BQ H' B (.str here) (some (.ref d)):=by
         have:=BQ.k (k:=Sum.inr here) SU.nr.top;rw [a3] at this;exact this
        refine ⟨_,rfl,_,rfl,_,rfl,B,.ref d,rfl,dgT,_,rfl,d,.int l,rfl,.inl ⟨_,Sum.inr y,.inr ⟨o9,hf⟩,rfl,hw0.symm⟩,_,_,rfl,rfl,_,rfl,ge,fun t4 ht4=>?_⟩;have s4':=Ac (o:=.tup [.int (d0 + l),.str Io]) ht4;have QE:=SU.grow s4';have Xn:=s4' _ _ hf;have Xd:(upd H' t4 (.tup [.int (d0 + l),.str Io])) t4=some (.tup [.int (d0 + l),.str Io]):=Ab;generalize upd H' t4 (.tup [.int (d0 + l),.str Io])=Uz at QE Xn Xd ⊢;have cand:KD Uz (.ref t4) (d0 + l,Io):=⟨t4,rfl,Xd⟩
        have candW:Io ∈ ss/\Br ws Io y (d0 + l):=⟨nearH.1.1,nearH.1.2.snoc ed⟩
        have lR':=QE.lenR;have fin:∀ (x:V) (pn:Int × Str),KD Uz x pn->DA pn (d0 + l,Io)->(∀ old,R' y old->DA pn old)->(pn.2 ∈ ss/\Br ws pn.2 y pn.1) ->
          Pv gt [some (.ref q),some (.ref st),some (.ref B),some (.ref RA),some (.ref SA),some (.int d0),some (.str Io),some (.str here),some (.str y),some (.ref t4)] (upd Uz RA (.dK (Bw (sK HN) ib x))):=by
         intro x pn YT hle hold hW;obtain ⟨nv2,p1,p2,p3⟩:=MR HN y x;rw [p1,hPv];have N12:=QE.setR aR (QE.pR.put p1 YT) (fun z hz=>by
          rcases (p3 z).mp hz with hz | rfl
          ·exact QE.subR z hz
          ·exact hyp)
         refine ⟨nv2,_,_,_,rfl,N12,?_,fun z p hz=>?_,fun s hs=>?_,fun x' qq z l' Ln he=>?_,fun z p hz qq hq=>?_⟩
         ·rw [Af (fun z=>aR.1 (by rw [<-z]; exact dm))]; exact Xn
         ·rcases hz with ⟨rfl,rfl⟩ | ⟨_,hz⟩
          ·exact hW
          ·exact rch z p hz
         ·rcases sta s hs with h | ⟨qq,h,le⟩
          ·exact .inl h
          ·by_cases e:s=y
           ·subst e;exact .inr ⟨pn,.inl ⟨rfl,rfl⟩,(hold qq h).trans le⟩
           ·exact .inr ⟨qq,.inr ⟨e,h⟩,le⟩
         ·rcases rel x' qq z l' Ln he with h | ⟨q',h,le⟩ | ⟨h1,h2⟩
          ·exact .inl h
          ·by_cases e:z=y
           ·subst e;exact .inr (.inl ⟨pn,.inl ⟨rfl,rfl⟩,(hold q' h).trans le⟩)
           ·exact .inr (.inl ⟨q',.inr ⟨e,h⟩,le⟩)
          ·by_cases e:z=y
           ·subst e;subst h1;have e2:=uniq _ _ _ _ he ed;subst e2;have e3:=QE.pS.fn Ln hSh;subst e3;exact .inr (.inl ⟨pn,.inl ⟨rfl,rfl⟩,hle⟩)
           ·exact .inr (.inr ⟨h1,step h2 e⟩)
         ·rcases hz with ⟨rfl,rfl⟩ | ⟨_,hz⟩
          ·exact nSy qq hq
          ·exact Uo z p hz qq hq
        have put:∀ {x:V},DZ Uz RA (.str y) x (upd Uz RA (.dK (Bw (sK HN) ib x))):=fun {x}=>DZ.k (k:=Sum.inr y) QE.dR (by rw [CY]; lia)
        obtain ⟨w1,pq,ew,hw1,hold,hWq⟩:∃ w1 pq,(Bm (sK HN) ib).getD (.ref t4)=w1/\KD Uz w1 pq/\(∀ old,R' y old->DA pq old)/\(pq.2 ∈ ss/\Br ws pq.2 y pq.1):=by
         cases hv:Bm (sK HN) ib with
         | none=>
          refine ⟨_,_,rfl,cand,fun old h=>?_,candW⟩;have h1:y ∈ HN.map (·.1):=QE.inR.mpr ⟨old,h⟩;have h2:(Bm (sK HN) ib).isSome=true:=by rw [Hn,decide_eq_true h1]
          rw [hv] at h2;cases h2
         | some w1=>
          obtain ⟨pq,h1,h2⟩:=QE.pR.2.1 y w1 (Kg hv);exact ⟨w1,pq,rfl,h1,fun old h=>by rw [QE.pR.fn h2 h]; exact DA.refl _,rch y pq h2⟩
        refine ⟨_,rfl,_,rfl,RA,rfl,.inl ⟨_,.inl QE.dR⟩,_,rfl,_,rfl,_,BQ.k (k:=Sum.inr y) QE.dR,_,_,(d0 + l,Io),pq,rfl,cand,(by rw [ew]; exact hw1),fun le=>⟨_,rfl,_,rfl,RA,_,rfl,put,?_⟩,fun le=>⟨_,rfl,_,rfl,RA,_,rfl,put,?_⟩⟩
        ·rw [ew];exact fin w1 pq hw1 le hold hWq
        ·exact fin (.ref t4) _ cand (DA.refl _) (fun old h=>le.trans (hold old h)) candW
      ·rw [hPv] at hP;obtain ⟨HN,R',v8,v9,rfl,SU,hf,rch,sta,rel,Uo⟩:=hP;show NN _ _
       rw [hNN];refine ⟨_,?_,HN,Qb,S',R',_,_,_,_,_,rfl,rfl,SU,⟨nearS,rch,fun x qq y l hx he=>?_,sta⟩,Uo⟩
       ·have:=SU.lenS;lia
       ·rcases rel x qq y l hx he with h | h | ⟨rfl,h2⟩
        ·exact .inl h
        ·exact .inr h
        ·exfalso
         obtain ⟨⟨z,v⟩,QA,e⟩:=ZR.mp ((a5 y).mpr he.adj);have e':z=y:=e;subst e';obtain ⟨j,hj,e2⟩:=aq QA;exact h2 j v (by rw [CY]; exact hj) (by rw [ZN hj,e2])
end
section
variable {P:Program} {w:World} {K:ZP} {mg:Str->Option Value} {base:Heap}
structure NeF (K:ZP) (mg:Str->Option Value) (fN:Addr) (fdN:FuncData) (f:Addr) (fd:FuncData):Prop where
 N:NbF K mg fN fdN
 mi:mg "min"=none
 F:E4 K "nearest" "nearest" Fh f fd
 mg:mg "nearest"=some (.ref f)
 b:F9 K fd ["web","starts"] []
theorem TC {f fN fE:Addr} {fd fdN fdE:FuncData} (EK:NeF K mg fN fdN fE fdE) (F:E4 K "fars" "fars" KU f fd):AH P w K mg base BK 3 f fd ["web","place"] (Rj K):=by
 have GE:AH P w K mg base BK 2 fE fdE ["web","starts"] (Rc K):=Nh EK.N EK.mi EK.F;refine F.ok Oh gP ca
 ·obtain ⟨q,ps,ws,r,x,rfl,_⟩:=h;rfl
 ·obtain ⟨q,ps,ws,r,x,rfl,ok,pos,uniq,hx,k⟩:=h;have hu:=Ez hr;have nd:=Oh.nd;have big:1000 < sizeLine:=by decide
  have l30:=ok.l30;refine ⟨_,Ae (Am (i:=2) nd rfl (Or.inr rfl) (Ak GE hr ci EK.mg EK.F.kp EK.b .nil Aw (Aa (pv 0) (Aa (Bi (Aa (pv 1) Ad)) Ad))))
   (Aj (AJ (IF (N:=["name","told"]) rfl
      CU
      (CJ [none,some 2]) (AV K rfl (A4 (AX K rfl) (pv 0) Ag ce))
      (fun s2 H C fp=>⟨Ah (i:=0) (show (["name","told"]:List Str).Nodup by decide +kernel) rfl ga,Bc,pv 0,A4 (AX K rfl) (Bd hu (pv 1) (pv 0) ce) Ag ce⟩)))),?_⟩
  refine ⟨_,rfl,_,rfl,ie,fun st hst=>?_⟩;have s0:=Ac (o:=.lst [.str x]) hst;refine ⟨q,st,ps,[x],ws,r,rfl,ok.same s0,pos,uniq,.inl Ab,by simp,aD.mpr ⟨by simp,.nil⟩,by simpa using hx,fun H1 B nv s1 hB W3 nn nk nr=>?_⟩;have R3:=s0.trans s1;obtain ⟨tp,tw,us,hq,htp,htw,hD⟩:=ok.web.ex;refine ⟨_,rfl,q,_,0,.ref tp,rfl,rfl,AI.of (R3 _ _ hq),BE (j:=0) rfl,tp,rfl,⟨_,AI.of (R3 _ _ htp)⟩,fun C hC=>?_⟩;exists fun i m A2 H2=>m=ps.length - i/\i<=ps.length/\(∃ v,A2=[v,some (.ref B)])/\∃ nc:List gU,H2=upd H1 C (.dK (sK nc))/\nc.map (·.1)=ps.take i/\∀ y v,(y,v) ∈ nc->∃ n,v=.int n/\KG ws x y n,⟨_,rfl,aJ _,⟨_,rfl⟩,[],rfl,rfl,fun y v hy=>absurd hy aQ⟩
  rintro i m A2 H2 ⟨rfl,hi,⟨v,rfl⟩,nc,rfl,ncK,ncV⟩;have sC:=Ac (o:=.dK (sK nc)) hC;have Nv:=sC _ _ (R3 _ _ htp);by_cases B0:i < ps.length
  ·refine .inr ⟨⟨_,V.str ps[i],AI.of Nv,by rw [ZV,ZN B0]; rfl⟩,?_⟩;rintro z H6 ⟨rfl,hz⟩;have Q9:=hz _ (AI.of Nv);rw [ZV,ZN B0] at Q9;cases Q9
   obtain ⟨⟨y,v2⟩,hm,e⟩:=ZR.mp ((nk ps[i]).mpr (bh B0));have e':y=ps[i]:=e;subst e';obtain ⟨p,⟨t,e2,ht⟩,hnr⟩:=nr ps[i] v2 hm;subst e2;have Zy:=sC _ _ W3;have FK:=sC _ _ ht;have nn':ps[i] ∉ nc.map (·.1):=by
    rw [ncK];intro QA;obtain ⟨j,hj,e⟩:=aq QA;rw [aM] at hj;rw [cE] at e;have:=Gp ok.nd (ZN (show j < ps.length by lia)) (by rw [ZN B0,e]);lia
   have ncl:nc.length=i:=by
    have:=congrArg bK ncK;rw [ZM,aM] at this;lia
   refine ⟨_,rfl,_,rfl,_,rfl,B,.ref t,rfl,.inl ⟨_,Sum.inr ps[i],.inl Zy,rfl,(D7 nn hm).symm⟩,t,_,0,.int p.1,rfl,rfl,AI.of FK,BE (j:=0) rfl,_,Sum.inr ps[i],rfl,Ab,by rw [CY]; lia,_,by lia,rfl,B0,⟨_,rfl⟩,nc ++ [(ps[i],.int p.1)],by rw [KN,DE nn'],?_,fun y v hy=>?_⟩
   ·rw [ZY,ncK,ax,ZN B0]; rfl
   ·rcases ak.mp hy with hy | hy
    ·exact ncV y v hy
    ·simp only [aa,Prod.mk.injEq] at hy;obtain ⟨rfl,rfl⟩:=hy;exact ⟨p.1,rfl,hnr.dst.2⟩
  ·have e0:i=ps.length:=by lia
   subst e0;rw [aw] at ncK;exact .inl ⟨⟨_,AI.of Nv,by rw [ZM]; exact ZU _⟩,k _ C nc (R3.trans sC) (R3.free hC) Ab ncK ncV⟩
end
structure TxtN (K:ZP) (mg:Str->Option Value):Prop where
 len:mg "len"=none
 isin:mg "isinstance"=none
 str:mg "str"=none
 all:mg "all"=none
 most:∃ t,mg "MOST_LETTERS"=some (.int 6 t)
section
variable {P:Program} {w:World} {K:ZP} {mg:Str->Option Value} {base:Heap}
theorem TB {f:Addr} {fd:FuncData} (T:TxtN K mg) (F:E4 K "is_name" "is_name" Fj f fd):AH P w K mg base BK 1 f fd ["thing"] (Rg K):=by
 refine F.ok MQ gP ca
 ·obtain ⟨x,rfl,_⟩:=h;rfl
 ·obtain ⟨x,rfl,h⟩:=h;obtain ⟨tk,hmost⟩:=T.most;refine ⟨_,Ae (Dm (LS (IA (La (Al HE ci T.isin PyProof.Rows.boot_isinstance (Aa (pv 0) (Aa (Oy (v:=.ty "str") ci T.str PyProof.Rows.boot_str rfl) Ad)))))
    (Iy (IA (IB LY LY Ag (Al G2 ci T.len PySem.boot_len ir) (Ld (v:=.int 6) ci hmost ⟨_,rfl⟩))))).pt
    (Aj (AJ LX)) BH)
   (Aj (AJ (Al (EZ rfl) ci T.all PyProof.Rows.boot_all (Aa
    (Bs (N:=["letter"]) (σ0:=fun _=>[none]) rfl (Cc.plain gO gO rfl gO) (fun σ _=>C3.none _ _ _ ["letter"] σ) (V3 (pv 0))
     (fun s2 H C fp=>⟨Ah (i:=0) (show (["letter"]:List Str).Nodup by decide +kernel) rfl ga,Bc,RJ Ko Ko CD (pv 0) CD⟩)) Ad)))),?_⟩
  rcases h with ⟨t,rfl,ht,k⟩ | ⟨⟨ty,h1,h2⟩,k⟩
  ·exists _,rfl,_,"str",_,_,rfl,Fc.str t,rfl,_,rfl;refine GK ?_;exists _,rfl,t,rfl,az ht bi,_,_,rfl,rfl,_,rfl;have last:∀ (h1:1<=t.length) (h2:t.length<=6),NV (iStr (Tf 0)) (K0 0) KP (MJ (fun x y H Q=>∃ i j,x=.str i/\y=.str j/\Q (.bl (!(decide (j.cps.toList < i.cps.toList)))) H) (fun x y H Q=>∃ i j,x=.str i/\y=.str j/\Q (.bl (!(decide (j.cps.toList < i.cps.toList)))) H) (tC (.str "a")) (Tf 0) (tC (.str "z"))) (fun _=>[none]) [some (V.str t)] H
     (fun x H1=>∃ (p:Addr) (bs:List Bool),[x]=[V.ref p]/\AB K H1 p (bs.map V.bl)/\Q (.bl (bs.all id)) H1):=by
    intro h1 h2;refine ⟨_,rfl,t,rfl,fun D hD=>⟨fun i m A2 H'=>m=t.cps.size - i/\i<=t.cps.size/\(∃ v,A2=[v])/\H'=upd H D (.lst ((t.cps.toList.take i).map fun c=>V.bl (Gr c))),⟨_,rfl,aJ _,⟨_,rfl⟩,rfl⟩,?_⟩⟩;rintro i m A2 H' ⟨rfl,hi,⟨v,rfl⟩,rfl⟩;by_cases B0:i < t.cps.size
    ·refine .inr ⟨B0,?_⟩;rintro x H2 ⟨rfl,c,hc,rfl⟩;have Ii:t.cps.toList[i]? = some c:=by simpa using hc
     have step:∀ b,b=Gr c->∃ acc,(upd H D (.lst ((t.cps.toList.take i).map fun c=>V.bl (Gr c)))) D=some h9/\acc.length < sizeLine/\∃ m',m' < t.cps.size - i/\(m'=t.cps.size - gt/\i + 1<=t.cps.size/\(∃ v,[some (V.str ⟨#[c]⟩)]=[v]) /\
       upd (upd H D (.lst ((t.cps.toList.take i).map fun c=>V.bl (Gr c)))) D (.lst (acc ++ [V.bl b]))=upd H D (.lst ((t.cps.toList.take gt).map fun c=>V.bl (Gr c)))):=by
      rintro b rfl;exists _,Ab,?_,_,?_,rfl,B0,⟨_,rfl⟩
      ·rw [ZM,aM];have:t.length=t.cps.size:=rfl;have:1000 < sizeLine:=by decide
       lia
      ·lia
      ·rw [KN,J6 _ _ _ _ Ii]
     exists _,rfl,_,_,rfl,rfl,_,rfl;rw [leA];refine BB (fun ha=>?_) (fun ha=>?_)
     ·exists _,_,rfl,rfl;rw [leZ];exact step _ (by unfold Gr; rw [ha]; rfl)
     ·exact step _ (by unfold Gr; rw [Bool.not_eq_true] at ha; rw [ha]; rfl)
    ·have e:i=t.cps.size:=by lia
     subst e;refine .inl ⟨ZU _,D,t.cps.toList.map Gr,rfl,.inl (.inl ?_),?_⟩
     ·rw [Ab,df gl,aE];rfl
     ·have e2:(t.cps.toList.map Gr).all id=Bq t:=by
       unfold Bq;rw [dY,decide_eq_true h1,decide_eq_true h2];rfl
      rw [e2];exact k _ (Ac hD)
   refine BB (fun h1=>?_) (fun h1=>?_)
   ·exists _,_,rfl,rfl,_,rfl;rw [decide_eq_true_eq] at h1;refine BB (fun h2=>?_) (fun h2=>?_)
    ·have e:Bq t=false:=by
      unfold Bq;have:¬ t.length<=6:=by
       intro z;rw [decide_eq_true (show ((t.length:Nat):Int)<=6 by lia)] at h2;cases h2
      rw [decide_eq_false this,gy,dz]
     rw [<-e];exact k _ (Ar.refl _)
    ·refine last ad ?_;by_cases z:t.length<=6
     ·exact z
     ·rw [decide_eq_false (show ¬ ((t.length:Nat):Int)<=6 by lia)] at h2;exact absurd rfl h2
   ·exists _,rfl;refine IY ?_;have e:Bq t=false:=by
     unfold Bq;rw [decide_eq_true_eq] at h1;rw [decide_eq_false (show ¬ 1<=t.length by lia),dz,dz]
    show Q (.bl false) H
    rw [<-e];exact k _ (Ar.refl _)
  ·exists _,rfl,_,"str",_,_,rfl,h1,h2,_,rfl;exact k
end
section
variable {P:Program} {w:World} {K:ZP} {mg:Str->Option Value} {base:Heap}
theorem JA (h_all:mg "all"=none) (h_list:mg "list"=none) (h_sorted:mg "sorted"=none) (h_set:mg "set"=none) {fN:Addr} {fdN:FuncData} (XN:Fn K mg "is_name" Fj ["thing"] fN fdN) (GN:AH P w K mg base BK 1 fN fdN ["thing"] (Rg K)) {f:Addr} {fd:FuncData} (F:E4 K "are_rising" "are_rising" Dg f fd):AH P w K mg base BK 2 f fd ["things"] (LH K):=by
 refine F.ok Fz gP ca
 ·obtain ⟨t,xs,ds,rfl,_⟩:=h;rfl
 ·obtain ⟨t,xs,ds,rfl,ht,dx,short,few,k⟩:=h;have nd:=Fz.nd;have HQ:=hr.units;have big:100000 < sizeLine:=by decide
  refine ⟨_,(Aj (AJ (RM (Al (EZ rfl) ci h_all PyProof.Rows.boot_all (Aa (Bs (N:=["thing"]) (σ0:=fun _=>[none]) rfl (Cc.plain gO gO rfl gO) (fun σ _=>C3.none _ _ _ ["thing"] σ) (V4 (pv 0))
   (fun s2 H C fp=>⟨Ah (i:=0) (show (["thing"]:List Str).Nodup by decide +kernel) rfl ga,Bc,(Ak GN (hr.mono bi) ci XN.mg XN.F.kp XN.b .nil Aw ir)⟩)) Ad))
   (RG (Ib (PY HQ) (Ay Gz ci h_list PyProof.Rows.boot_list ir) (Al (HU rfl) ci h_sorted PyProof.Rows.boot_sorted (Aa (Ay (M3 K rfl rfl) ci h_set PyProof.Rows.boot_set ir) Ad)) (BI _)))))),?_⟩
  have seq:∀ H',Ar H H'->AB K H' t xs\/AI K H' t xs:=fun H' sa=>ht.imp (fun z=>AB.of (sa _ _ z)) (fun z=>AI.of (sa _ _ z))
  have dl:=dx.len;exists _,rfl,t,rfl;rcases ht with ht | ht
  ·refine .inl ⟨⟨_,AB.of ht⟩,B6 BN (xs:=xs) (fun D i σ H' acc=>∃ v0:Option V,σ=[v0]/\Ar H H'/\H' D=some h9/\acc=((ds.take i).map Ht).map V.bl/\acc.length=i)
    (by lia) (fun D hD=>⟨_,rfl,Ac hD,Ab,rfl,rfl⟩) (fun D i σ H' acc hD ⟨v0,_,sa,AO,_,al⟩=>⟨AB.of (sa _ _ ht),AO,al⟩) ?_ ?_⟩
   ·rintro D i σ H' acc x B hD ex ⟨v0,rfl,sa,AO,rfl,al⟩ hB;obtain ⟨d,ed,hd⟩:=dx.at ex;have MB:=hd.same sa;have step:∀ H5,Ar H' H5->B [some x] (.bl (Ht d)) H5:=fun H5 s5=>by
     refine hB _ _ _ (s5 _ _ AO) ⟨_,rfl,fun b o e=>?_,Ab,?_,by rw [ZQ,al]; rfl⟩
     ·rw [Af (Ai e hD)];exact s5 _ _ (sa _ _ e)
     ·rw [ax,ed,ZY,ZY];rfl
    exists _,rfl,x,rfl;cases d with
    | str y=>
     cases hd
     exact .inl ⟨y,rfl,short y (ZS ed),step⟩
    | _=>exact .inr ⟨MB.notStr (fun s=>by intro z; cases z),step _ (Ar.refl _)⟩
   ·rintro D σ H' acc hD ⟨v0,rfl,sa,AO,rfl,al⟩;rw [dl,aw] at AO;exists D,ds.map Ht,rfl,AB.of AO,_,rfl;refine BB iu iu
    ·obtain ⟨ss,rfl,hn⟩:=GG z;obtain rfl:=dx.txt;rw [ZM] at few;refine ⟨_,rfl,t,_,rfl,seq _ sa,fun l hl=>?_⟩;have s1:=Ac (o:=.lst ic) hl;refine ⟨_,rfl,t,ss,rfl,seq _ (sa.trans s1),by lia,fun D2 Kz=>⟨D2,ss,rfl,Ab,by lia,fun l2 Cm Kx WS Lj srt=>?_⟩⟩;have s2:=Ac (o:=setS P w D2 ss) Kz;have s3:=Ac (o:=.lst (Cm.map V.str)) Kx;exists _,_,.lst (s3 _ _ (s2 _ _ Ab)) (C2 _ ss),.lst Ab (C2 _ Cm),by simp only [PyData.canLay0]; exact Dr hn,by simp only [PyData.canLay0]; exact Dr (fun s hs=>hn s ((Lj s).mp hs)),?_
     ·simp only [PyData.depth,Eo];decide
     ·refine k _ _ (sa.trans (s1.trans (s2.trans s3))) ?_;rw [Mt];exists fun e=>⟨ss,rfl,hn,(Ej WS Lj srt).mp (Eb e)⟩
      rintro ⟨s5,e5,_,r5⟩;obtain rfl:=Eb e5;rw [(Ej WS Lj srt).mpr r5]
    ·refine k _ _ sa ⟨fun q=>absurd q bi,fun ⟨ss,e,hn,_⟩=>?_⟩;rw [e] at z;exact absurd (KA hn) z
  ·refine .inr ⟨⟨_,AI.of ht⟩,B6 BL (xs:=xs) (fun D i σ H' acc=>∃ v0:Option V,σ=[v0]/\Ar H H'/\H' D=some h9/\acc=((ds.take i).map Ht).map V.bl/\acc.length=i)
    (by lia) (fun D hD=>⟨_,rfl,Ac hD,Ab,rfl,rfl⟩) (fun D i σ H' acc hD ⟨v0,_,sa,AO,_,al⟩=>⟨AI.of (sa _ _ ht),AO,al⟩) ?_ ?_⟩
   ·rintro D i σ H' acc x B hD ex ⟨v0,rfl,sa,AO,rfl,al⟩ hB;obtain ⟨d,ed,hd⟩:=dx.at ex;have MB:=hd.same sa;have step:∀ H5,Ar H' H5->B [some x] (.bl (Ht d)) H5:=fun H5 s5=>by
     refine hB _ _ _ (s5 _ _ AO) ⟨_,rfl,fun b o e=>?_,Ab,?_,by rw [ZQ,al]; rfl⟩
     ·rw [Af (Ai e hD)];exact s5 _ _ (sa _ _ e)
     ·rw [ax,ed,ZY,ZY];rfl
    exists _,rfl,x,rfl;cases d with
    | str y=>
     cases hd
     exact .inl ⟨y,rfl,short y (ZS ed),step⟩
    | _=>exact .inr ⟨MB.notStr (fun s=>by intro z; cases z),step _ (Ar.refl _)⟩
   ·rintro D σ H' acc hD ⟨v0,rfl,sa,AO,rfl,al⟩;rw [dl,aw] at AO;exists D,ds.map Ht,rfl,AB.of AO,_,rfl;refine BB iu iu
    ·obtain ⟨ss,rfl,hn⟩:=GG z;obtain rfl:=dx.txt;rw [ZM] at few;refine ⟨_,rfl,t,_,rfl,seq _ sa,fun l hl=>?_⟩;have s1:=Ac (o:=.lst ic) hl;refine ⟨_,rfl,t,ss,rfl,seq _ (sa.trans s1),by lia,fun D2 Kz=>⟨D2,ss,rfl,Ab,by lia,fun l2 Cm Kx WS Lj srt=>?_⟩⟩;have s2:=Ac (o:=setS P w D2 ss) Kz;have s3:=Ac (o:=.lst (Cm.map V.str)) Kx;exists _,_,.lst (s3 _ _ (s2 _ _ Ab)) (C2 _ ss),.lst Ab (C2 _ Cm),by simp only [PyData.canLay0]; exact Dr hn,by simp only [PyData.canLay0]; exact Dr (fun s hs=>hn s ((Lj s).mp hs)),?_
     ·simp only [PyData.depth,Eo];decide
     ·refine k _ _ (sa.trans (s1.trans (s2.trans s3))) ?_;rw [Mt];exists fun e=>⟨ss,rfl,hn,(Ej WS Lj srt).mp (Eb e)⟩
      rintro ⟨s5,e5,_,r5⟩;obtain rfl:=Eb e5;rw [(Ej WS Lj srt).mpr r5]
    ·refine k _ _ sa ⟨fun q=>absurd q bi,fun ⟨ss,e,hn,_⟩=>?_⟩;rw [e] at z;exact absurd (KA hn) z
end
section
variable {P:Program} {w:World} {K:ZP} {mg:Str->Option Value} {base:Heap}
theorem J9 (h_all:mg "all"=none) (h_dict:mg "dict"=none) (h_isinstance:mg "isinstance"=none) (h_len:mg "len"=none) (h_tuple:mg "tuple"=none) {fM fR:Addr} {fdM fdR:FuncData} (XM:Fn K mg "most_houses" CN ["case"] fM fdM) (GM:AH P w K mg base BK 1 fM fdM ["case"] Rh) (XR:Fn K mg "are_rising" Dg ["things"] fR fdR) (GR:AH P w K mg base BK 2 fR fdR ["things"] (LH K)) {f:Addr} {fd:FuncData} (F:E4 K "is_opening" "is_opening" Df f fd):AH P w K mg base BK 3 f fd ["case","thing"] (Ri K):=by
 refine F.ok Fy gP ca
 ·obtain ⟨c,sites,x,d,v,rfl,_⟩:=h;rfl
 ·obtain ⟨c,sites,x,d,v,rfl,cs,rise,names,k⟩:=h;have nd:=Fy.nd;have hu:=Ez hr;have big:1000 < sizeLine:=by decide
  refine ⟨_,(Ae (Dm (LS (IA (La (Al HE ci h_isinstance PyProof.Rows.boot_isinstance (Aa (pv 1) (Aa (Oy (v:=.ty "tuple") ci h_tuple PyProof.Rows.boot_tuple rfl) Ad))))) (Iy (IA (IB LY LY Ag (Al Es ci h_len PySem.boot_len (Aa (pv 1) Ad)) (Ak GM (hr.mono bi) ci XM.mg XM.F.kp XM.b .nil Aw ir))))).pt
  (Aj (AJ LX))
  BH)
  (Ae (Am (i:=2) nd rfl (Or.inr rfl) (Ay (DY rfl) ci h_dict PyProof.Rows.boot_dict (Aa (A4 Sf (pv 0) Ag ce) Ad)))
  (Aj (AJ (RM (Ak GR (hr.mono bi) ci XR.mg XR.F.kp XR.b .nil Aw (Aa (pv 1) Ad)) (RG (Al (EZ rfl) ci h_all PyProof.Rows.boot_all (Aa (Bs (N:=["place","sites"]) rfl CU (CJ [none,some 2]) (RE (pv 1))
   (fun s2 H C fp=>⟨(Ah (i:=0) (show (["place","sites"]:List Str).Nodup by decide +kernel) rfl ga),Bc,(RI (V7 hu (pv 0) (pv 1)))⟩)) Ad)))))))),?_⟩
  rcases k with ⟨ds,⟨t,xs,rfl,ht,dx,short,few⟩,k⟩ | ⟨⟨ty,t1,t2⟩,k⟩
  ·exists _,rfl,_,"tuple",_,_,rfl,.tup ht,rfl,_,rfl;refine GK ?_;exists _,rfl,t,_,rfl,.inr (AI.of ht),_,_,rfl,rfl,_,rfl;have dl:=dx.len;refine BB (fun z1=>?_) (fun z1=>?_)
   ·refine ⟨_,rfl,c,sites,x,d,rfl,cs,fun mo mo0 mok=>?_⟩;obtain ⟨mV,t2V,t1,Fu,An,hc,F3,Hy,rfl,snd,sl,lim⟩:=cs;have ul:=BX Hy;rw [ZM] at sl mok;exists _,_,rfl,rfl,_,rfl;refine BB (fun z2=>?_) (fun z2=>?_)
    ·refine k _ _ (Ar.refl _) ⟨fun q=>absurd q bi,fun ⟨ss,e,_,sub,lb⟩=>?_⟩;have l1:=sub.length_le;rw [ZM] at l1;have:=(mok _ l1).mpr lb;rw [dl,e,ZM] at z2;simp [this] at z2
    ·have z3:(xs.length:Int)<=mo:=by simpa using z2
     refine ⟨_,rfl,c,_,_,_,rfl,rfl,AI.of hc,rfl,t1,Fu,DT An,rfl,F3,by unfold DT; rw [ZM]; exact ul,Oi Hy,by rw [Fm]; exact snd,by unfold DT; rw [ZM]; lia,fun B hB=>?_⟩;have s1:=Ac (o:=.dK (sK (DT An))) hB;have Ug:(upd H B (.dK (sK (DT An)))) B=some (.dK (sK (DT An))):=Ab;generalize upd H B (.dK (sK (DT An)))=H1 at s1 Ug;refine ⟨_,rfl,t,xs,ds,rfl,.inr (s1 _ _ ht),dx.mono (fun a o e _=>s1 a o e),short,few,fun b H2 s2 hb=>⟨_,rfl,?_⟩⟩;refine BB iu iu
     ·obtain ⟨ss,rfl,hn,ri⟩:=hb.mp z;obtain rfl:=dx.txt;rw [ZM] at few z1 z3;have ne:ss ≠ []:=fun e=>by subst e; simp at z1
      have Zy:=s2 _ _ Ug;have FK:=s2 _ _ (s1 _ _ ht);exists _,rfl,t,rfl,⟨_,AI.of FK⟩
      refine B6 BL (xs:=ss.map V.str) (fun D i σ H' acc=>∃ v0:Option V,σ=[v0,some (.ref B)]/\Ar H2 H'/\H' D=some h9/\acc=((ss.take i).map fun y=>decide (y ∈ An.map (·.1))).map V.bl/\acc.length=i)
       (by rw [ZM]; lia) (fun D hD=>⟨_,rfl,Ac hD,Ab,rfl,rfl⟩) (fun D i σ H' acc hD ⟨v0,_,sa,AO,_,al⟩=>⟨AI.of (sa _ _ FK),AO,al⟩) ?_ ?_
      ·rintro D i σ H' acc x' Bk hD ex ⟨v0,rfl,sa,AO,rfl,al⟩ hBk;obtain ⟨y,ey,rfl⟩:∃ y,ss[i]? = some y/\x'=.str y:=by
        rw [ZV] at ex;cases q:ss[i]? with
        | none=>rw [q] at ex; cases ex
        | some y=>rw [q] at ex; exact ⟨y,rfl,(ar.inj ex).symm⟩
       exists _,rfl,_,rfl,B,_,rfl,BQ.k (k:=Sum.inr y) (sa _ _ Zy);rw [Hn,Fm];refine hBk _ _ _ AO ⟨_,rfl,fun b o e=>?_,Ab,?_,by rw [ZQ,al]; rfl⟩
       ·rw [Af (Ai e hD)];exact sa _ _ e
       ·rw [ax,ey,ZY,ZY];rfl
      ·rintro D σ H' acc hD ⟨v0,rfl,sa,AO,rfl,al⟩;rw [ZM,aw] at AO;exists D,_,rfl,AB.of AO;refine k _ _ (s1.trans (s2.trans sa)) ?_;rw [dY,bH];constructor
       ·intro h;have sub:=Dl ri rise fun y hy=>by simpa using h y hy
        have l1:=sub.length_le;rw [ZM] at l1;exact ⟨ss,rfl,ne,sub,(mok _ l1).mp z3⟩
       ·rintro ⟨s5,e5,_,sub,_⟩ y hy;rw [Eb e5] at hy;simpa using sub.subset hy
     ·refine k _ _ (s1.trans s2) ⟨fun q=>absurd q bi,fun ⟨ss,e,_,sub,_⟩=>absurd (hb.mpr ⟨ss,e,fun y hy=>names y (sub.subset hy),rise.sub sub⟩) z⟩
   ·exists _,rfl;refine IY ?_;refine k _ _ (Ar.refl _) ⟨fun q=>absurd q bi,fun ⟨ss,e,ne,_⟩=>?_⟩;rw [dl,e,ZM,decide_eq_true_eq] at z1;exact absurd (bp.mp ad) ne
  ·exists _,rfl,_,"tuple",_,_,rfl,t1,t2,_,rfl;exact k _ (Ar.refl _)
end
section
variable {P:Program} {w:World} {K:ZP} {mg:Str->Option Value} {base:Heap}
theorem Lg {fF:Addr} {fdF:FuncData} (XF:Fn K mg "fars" KU ["web","place"] fF fdF) (GF:AH P w K mg base BK 3 fF fdF ["web","place"] (Rj K)) {f:Addr} {fd:FuncData} (F:E4 K "site_fars" "site_fars" Dz f fd):AH P w K mg base BK 4 f fd ["case"] Ip:=by
 refine F.ok Gd gP ca
 ·obtain ⟨c,m,n,xs,ws,An,A6,x,d,rfl,_⟩:=h;rfl
 ·obtain ⟨c,m,n,xs,ws,An,A6,x,d,rfl,cw,k⟩:=h;have nd:=Gd.nd;have big:100000 < sizeLine:=by decide
  refine ⟨_,(Aj (AJ (IF (N:=["place","price","case"]) rfl CU (CJ [none,none,some 0]) (AV K rfl (A4 (AX K rfl) (pv 0) Ag ce))
   (fun s2 H C fp=>⟨(BD K rfl (n:=2) rfl (Au (Ah (i:=0) (show (["place","price","case"]:List Str).Nodup by decide +kernel) rfl ga) (Au (Ah (i:=1) (show (["place","price","case"]:List Str).Nodup by decide +kernel) rfl ga) BC))),Bc,(pv 0),(Ak GF (hr.mono bi) ci XF.mg XF.F.kp XF.b .nil Aw (Aa (A4 (AX K rfl) (pv 2) Ag ce) ir))⟩)))),?_⟩
  obtain ⟨t1,t2,Fu,NP,hc,F3,Hy,FK,hd2⟩:=cw.ex;obtain ⟨r,okw,pos,uni⟩:=cw.map.web cw.n1 cw.n30;have ul:=BX Hy;have l1:=cw.l1;exists _,rfl,c,_,_,_,rfl,rfl,AI.of hc,rfl,t1,rfl,⟨_,AI.of F3⟩
  refine PB BL (xs:=Fu) gJ (by rw [ZM,ul]) cw.ok1.nd (fun D i σ H' nv=>∃ (v0 v1:Option V),σ=[v0,v1,some (.ref c)]/\Ar H H'/\H' D=some (.dK (sK nv))/\nv.map (·.1)=(An.map (·.1)).take i/\∀ s v,(s,v) ∈ nv->SI H' v xs ws s)
   (by lia) (fun D hD=>⟨_,_,rfl,Ac hD,Ab,rfl,fun s v hm=>nomatch hm⟩) (fun D i σ H' nv hD ⟨v0,v1,_,sa,AO,nk,_⟩=>⟨AI.of (sa _ _ F3),AO,nk⟩) ?_ ?_
  ·rintro D i σ H' nv x' kk B hD ex ek ⟨v0,v1,rfl,sa,AO,nk,nf⟩ hB;obtain ⟨u,t,eu,rfl,ht⟩:=C9 Hy ex;have e:kk=u.1:=by
    rw [ZV,eu] at ek;exact (ar.inj ek).symm
   subst e;exists t,_,rfl,AI.of (sa _ _ ht),rfl,_,_,rfl,_,_,rfl,rfl;refine ⟨_,rfl,_,rfl,c,_,_,_,rfl,rfl,AI.of (sa _ _ hc),rfl,_,rfl,m,xs,ws,r,u.1,rfl,okw.same sa,pos,uni,cw.ok1.sub u (ZS eu),fun H1 B1 nb s1 fB W3 nbK nbV=>?_⟩;have UR:=s1 _ _ AO;refine hB _ _ _ UR ⟨_,_,rfl,fun b o' z=>by rw [Af (Ai z hD)]; exact s1 _ _ (sa _ _ z),Ab,?_,fun s v hm=>?_⟩
   ·rw [ZY,nk,ax,ek];rfl
   ·have nB:∀ {b:Addr} {kv:List (AF × V)},b ≠ D->H1 b=some (.dK kv)->(upd H1 D (.dK (sK (nv ++ [(u.1,.ref B1)])))) b=some (.dK kv):=fun nb z=>by rw [Af nb]; exact z
    rcases ak.mp hm with hm | hm
    ·obtain ⟨B2,UJ,rfl,z1,z2,z3⟩:=nf s v hm;by_cases e:B2=D
     ·subst e;rw [AO] at z1;have e:=HO.dK.inj (ar.inj z1);have Yf:((Sum.inr s:AF),V.ref B2) ∈ sK UJ:=by rw [<-e]; exact ZR.mpr ⟨_,hm,rfl⟩
      obtain ⟨⟨y,u'⟩,h1,h2⟩:=ZR.mp Yf;cases h2
      obtain ⟨n',e',_⟩:=z3 _ _ h1;cases e'
     ·exact ⟨B2,UJ,rfl,nB e (s1 _ _ z1),z2,z3⟩
    ·simp only [aa,Prod.mk.injEq] at hm;obtain ⟨rfl,rfl⟩:=hm;exact ⟨B1,nb,rfl,nB (fun z=>by rw [z,AO] at fB; cases fB) W3,nbK,nbV⟩
  ·rintro D σ H' nv hD ⟨v0,v1,rfl,sa,AO,nk,nf⟩;rw [ul,show An.length=(An.map (·.1)).length by rw [ZM],aw] at nk;exact k H' D nv sa hD AO nk nf
end
section
variable {P:Program} {w:World} {K:ZP} {mg:Str->Option Value} {base:Heap}
theorem IK (h_len:mg "len"=none) (h_min:mg "min"=none) {f:Addr} {fd:FuncData} (F:E4 K "most_houses" "most_houses" CN f fd):AH P w K mg base BK 1 f fd ["case"] Rh:=by
 refine F.ok EF gP ca
 ·obtain ⟨c,sites,x,d,rfl,_⟩:=h;rfl
 ·obtain ⟨c,sites,x,d,rfl,cs,k⟩:=h;have nd:=EF.nd;have big:100000 < sizeLine:=by decide
  refine ⟨_,(Ae (EH (pv 0) (BD K rfl rfl (Au (Ah (i:=1) nd rfl ga) (Au (Ah (i:=2) nd rfl ga) (Au (Ah (i:=3) nd rfl ga) (Au (Ah (i:=4) nd rfl ga) BC))))))
  (Aj (AJ (ID (DG (IG (pv 4))) (Al (A8 K rfl) ci h_len PySem.boot_len (Aa (pv 2) Ad)) (Al (GW rfl) ci h_min PyProof.Rows.boot_min (Aa (pv 4) (Aa (Al (A8 K rfl) ci h_len PySem.boot_len (Aa (pv 2) Ad)) Ad))))))),?_⟩
  obtain ⟨mV,t2V,t1,Fu,An,hc,F3,Hy,rfl,snd,sl,lim⟩:=cs;have ul:=BX Hy;exists _,rfl,c,_,rfl,AI.of hc,rfl,_,_,rfl,_,_,rfl,_,_,rfl,_,_,rfl,rfl;exists _,rfl,_,rfl;rcases lim with ⟨rfl,_⟩ | ⟨lm,rfl,_,lm1,lm2⟩
  ·refine BB (fun _=>?_) (fun z=>by simp at z);exists _,rfl,t1,_,rfl,.inr (AI.of F3);refine k _ ad fun j hj=>?_
   rw [ZM] at hj;simp only [CF,iff_true];lia
  ·refine BB (fun z=>by simp at z) (fun _=>?_);exists _,rfl,_,rfl,t1,_,rfl,.inr (AI.of F3),_,_,rfl;refine k _ (by split <;> lia) fun j hj=>?_
   rw [ZM] at hj;simp only [CF,decide_eq_true_eq];split <;> lia
end
section
variable {P:Program} {w:World} {K:ZP} {mg:Str->Option Value} {base:Heap}
theorem Me (h_dict:mg "dict"=none) (h_min:mg "min"=none) (h_sum:mg "sum"=none) {fS:Addr} {fdS:FuncData} (XS:Fn K mg "site_fars" Dz ["case"] fS fdS) (GS:AH P w K mg base BK 4 fS fdS ["case"] Ip) {f:Addr} {fd:FuncData} (F:E4 K "costs_of" "costs_of" Eh f fd):AH P w K mg base BK 5 f fd ["case","chosen"] Kb:=by
 refine F.ok Hl gP ca
 ·obtain ⟨c,e,m,n,xs,ws,An,A6,x,d,us,os,rfl,_⟩:=h;rfl
 ·obtain ⟨c,e,m,n,xs,ws,An,A6,x,d,us,os,rfl,cw,he,tU,ond,opn,ol,k⟩:=h;have nd:=Hl.nd;have hu:=Ez hr;have big:100000 < sizeLine:=by decide
  refine ⟨_,(Ae (EH (pv 0) (BD K rfl rfl (Au (Ah (i:=2) nd rfl ga) (Au (Ah (i:=3) nd rfl ga) (Au (Ah (i:=4) nd rfl ga) (Au (Ah (i:=5) nd rfl ga) BC))))))
  (Ae (Am (i:=6) nd rfl (Or.inr rfl) (Ay (DY rfl) ci h_dict PyProof.Rows.boot_dict (Aa (pv 3) Ad)))
  (Ae (Am (i:=7) nd rfl (Or.inr rfl) (Ak GS (hr.mono bi) ci XS.mg XS.F.kp XS.b .nil Aw ir))
  (Ae (Am (i:=8) nd rfl (Or.inl rfl) IE)
  (Ae (Bp PassesOwn.never rfl (BF K rfl (pv 1)) (Ah (i:=9) nd rfl (Or.inr rfl))
  (Ae (RC (fun x=>decide (x=("place":Str))) (ix:=10) (N:=["place","many","aways","houses"]) nd rfl ga rfl (G7.caught ci rfl (by decide +kernel) (by intro y hy; simp only [ZZ,aQ,or_false] at hy; rcases hy with rfl | rfl <;> rfl) (by refine List.Pairwise.cons (fun y hy=>?_) (bC _ _); rw [aa.mp hy]; show @Ne Nat _ _; lia)
   (by intro y hy e; simp only [ZZ,aQ,or_false] at hy; rcases hy with rfl | rfl | rfl | rfl | rfl | rfl <;> first | exact ⟨_,aj⟩ | exact ⟨_,ay _ aj⟩ | cases e)) (by intro x h; have h':=of_decide_eq_true h; subst h'; decide +kernel) (CJ [none,none,some 7,some 9]) (by
   intro σ i x v h1 h2;match i,h1,h2 with
   | 0,_,h2=>cases h2
   | 1,_,h2=>cases h2
   | 2,h1,h2=>cases h1; decide +kernel
   | 3,h1,h2=>cases h1; decide +kernel
   | n + 4,h1,_=>cases h1) (AV K rfl (pv 4))
   (fun s2 H C fp=>⟨(BD K rfl (n:=2) rfl (Au (Ah (i:=0) (show (["place","many","aways","houses"]:List Str).Nodup by decide +kernel) rfl (Or.inr rfl) (.inl (by dsimp only; exact decide_eq_true rfl))) (Au (Ah (i:=1) (show (["place","many","aways","houses"]:List Str).Nodup by decide +kernel) rfl ga) BC))),Bc,(Ax O1 (pv 1) (Al (F7 rfl) ci h_min PyProof.Rows.boot_min (Aa (Bs (N:=["house","place","aways"]) rfl CU (CJ [none,some 0,some 2]) (AV K rfl (pv 3))
   (fun s2 H C fp=>⟨(Ah (i:=0) (show (["house","place","aways"]:List Str).Nodup by decide +kernel) rfl ga),Bc,(Bd hu (Bd hu (pv 2) (pv 0) ce) (pv 1) ce)⟩)) Ad)))⟩))
  (Aj (Ce hu (pv 8) (pv 9) (Ax Bj (Al (DM rfl) ci h_sum PyProof.Rows.boot_sum (Aa (Bs (N:=["house","charges"]) rfl CU (CJ [none,some 6]) (AV K rfl (pv 9))
   (fun s2 H C fp=>⟨(Ah (i:=0) (show (["house","charges"]:List Str).Nodup by decide +kernel) rfl ga),Bc,(Bd hu (pv 1) (pv 0) ce)⟩)) Ad)) (Al (DM rfl) ci h_sum PyProof.Rows.boot_sum (Aa (pv 10) Ad))) rfl))))
  (Aj (AJ (pv 8)))))))),?_⟩
  obtain ⟨t1,t2,Fu,NP,hc,F3,Hy,FK,hd2⟩:=cw.ex;have Vg:=BX Hy;have ul2:=BX hd2;have l1:=cw.l1;have l2:=cw.l2;have hul:=tU.len;exists _,rfl,c,_,rfl,AI.of hc,rfl,_,_,rfl,_,_,rfl,_,_,rfl,_,_,rfl,rfl;refine ⟨_,rfl,t1,Fu,DT An,rfl,F3,by unfold DT; rw [ZM]; exact Vg,Oi Hy,by rw [Fm]; exact cw.ok1.nd,by unfold DT; rw [ZM]; lia,fun CH hCH=>?_⟩;have s1:=Ac (o:=.dK (sK (DT An))) hCH;have hCC:(upd H CH (.dK (sK (DT An)))) CH=some (.dK (sK (DT An))):=Ab;generalize upd H CH (.dK (sK (DT An)))=H1 at s1 hCC;refine ⟨_,rfl,c,m,n,xs,ws,An,A6,x,d,rfl,cw.same s1,fun H2 AW nv s2 fA hA nk nf=>?_⟩;have R0:=s1.trans s2;intro D hD;have s3:=Ac (o:=.dT []) hD;have fD:H D=none:=by
   cases z:H D with
   | none=>rfl
   | some o'=>rw [R0 _ _ z] at hD; cases hD
  exists _,rfl,e,rfl,⟨_,AB.of (s3 _ _ (R0 _ _ he))⟩
  refine K1 (xs:=us) (fun i σ H'=>∃ (v9 v10:Option V) (kvs:List gQ),σ=[some (.ref c),some (.ref e),some (.ref m),some (.ref t1),some (.ref t2),some x,some (.ref CH),some (.ref AW),some (.ref D),v9,v10]/\Ar H2 H'/\H' D=some ig/\kvs.map (·.1)=(os.take i).map (fun ss=>ss.map Sum.inr)/\(∀ ss v,(ss.map Sum.inr,v) ∈ kvs->∃ t,v=.int t/\BS ws An A6 ss t))
   ⟨_,_,[],rfl,s3,Ab,rfl,fun ss v hm=>nomatch hm⟩ (fun i σ H' _ ⟨_,_,_,_,sa,_⟩=>AB.of (sa _ _ (R0 _ _ he))) ?_ ?_
  ·rintro i v σ H' hv ⟨v9,v10,kvs,rfl,sa,AO,kk,kt⟩ rt bk NN hN;obtain ⟨o,ss,rfl,es,ho⟩:=tU.get hv;have hsm:=ZS es;have hi:i < os.length:=(ZT.mp es).1;obtain ⟨sne,snd,ssub⟩:=opn ss hsm;have sl:ss.length<=An.length:=by
    have:=List.Nodup.length_le_of_subset snd (fun s hs=>ssub s hs);rw [ZM] at this;exact this
   have Xh:=R0 _ _ ho;have sx:∀ s ∈ ss,s ∈ xs:=fun s hs=>by
    obtain ⟨r,OG,rfl⟩:=ZR.mp (ssub s hs);exact cw.ok1.sub r OG
   have nnd:(nv.map (·.1)).Nodup:=by rw [nk]; exact cw.ok1.nd
   exists _,rfl,t2,rfl,⟨_,AI.of (sa _ _ (R0 _ _ FK))⟩
   refine B6 BL (xs:=NP) (fun D2 j A2 H3 acc=>∃ (v0 v1:Option V) (ds:List Int),A2=[v0,v1,some (.ref AW),some (.ref o)]/\Ar H' H3/\H3 D2=some h9/\acc=((A6.zip ds).map fun p=>p.1.2 * p.2).map V.int/\ds.length=j/\acc.length=j/\∀ (q:Nat) r d,A6[q]? = some r->ds[q]? = some d->Md ws ss r.1 d)
    (by lia) (fun D2 Kz=>⟨_,_,[],rfl,Ac Kz,Ab,by rw [List.zip_nil_right]; rfl,rfl,rfl,fun q r d _ e=>by simp at e⟩)
    (fun D2 j A2 H3 acc Kz ⟨v0,v1,ds,_,sb,Su,_,_,al,_⟩=>⟨AI.of (sb _ _ (sa _ _ (R0 _ _ FK))),Su,al⟩) ?_ ?_
   ·rintro D2 j A2 H3 acc x' B Kz ex ⟨v0,v1,ds,rfl,sb,Su,ea,dl,al,dm⟩ hB;obtain ⟨u,t,eu,rfl,ht⟩:=C9 hd2 ex;have um:=ZS eu;have ux:u.1 ∈ xs:=cw.ok2.sub u um;have ub:=cw.ok2.lo u um;have sab:=sa.trans sb;have hA3:=sab _ _ hA;exists t,_,rfl,AI.of (sab _ _ (R0 _ _ ht)),rfl,_,_,rfl,_,_,rfl,rfl;exists _,rfl,_,rfl,o,rfl,⟨_,AI.of (sab _ _ Xh)⟩
    refine B6 BL (xs:=ss.map V.str) (fun D3 q KI H4 GX=>∃ (w0:Option V) (ns:List Int),KI=[w0,some (.str u.1),some (.ref AW)]/\Ar H3 H4/\H4 D3=some (.lst GX)/\GX=ns.map V.int/\ns.length=q/\GX.length=q/\∀ (a:Nat) n' s,ns[a]? = some n'->ss[a]? = some s->KG ws s u.1 n')
     (by rw [ZM]; lia) (fun D3 F5=>⟨_,[],rfl,Ac F5,Ab,rfl,rfl,rfl,fun a n' s e=>by simp at e⟩)
     (fun D3 q KI H4 GX F5 ⟨w0,ns,_,sc,Jf,_,_,Uu,_⟩=>⟨AI.of (sc _ _ (sab _ _ Xh)),Jf,Uu⟩) ?_ ?_
    ·rintro D3 q KI H4 GX x3 B3 F5 Sz ⟨w0,ns,rfl,sc,Jf,UW,nl,Uu,nm⟩ Zx;obtain ⟨s,ey,rfl⟩:∃ s,ss[q]? = some s/\x3=.str s:=by
      rw [ZV] at Sz;cases z:ss[q]? with
      | none=>rw [z] at Sz; cases Sz
      | some y=>rw [z] at Sz; exact ⟨y,rfl,(ar.inj Sz).symm⟩
     have hs:=ZS ey;obtain ⟨⟨s',vB⟩,hm,Ui⟩:=ZR.mp (show s ∈ nv.map (·.1) by rw [nk]; exact ssub s hs);have Ui:s'=s:=Ui;subst Ui;obtain ⟨Bf,nb,rfl,hBf,nbk,nbv⟩:=nf _ _ hm;obtain ⟨⟨y',vy⟩,hmy,Z1⟩:=ZR.mp (show u.1 ∈ nb.map (·.1) by rw [nbk]; exact ux);have Z1:y'=u.1:=Z1;subst Z1;obtain ⟨nn,rfl,dst⟩:=nbv _ _ hmy;have nbnd:(nb.map (·.1)).Nodup:=by rw [nbk]; exact cw.map.at'.nd
     have dg1:BQ H4 AW (.str s') (some (.ref Bf)):=.inl ⟨_,Sum.inr s',.inl (sc _ _ hA3),rfl,(D7 nnd hm).symm⟩;have dg2:BQ H4 Bf (.str u.1) (some (.int nn)):=.inl ⟨_,Sum.inr u.1,.inl (sc _ _ (sab _ _ hBf)),rfl,(D7 nbnd hmy).symm⟩;exists _,rfl,_,rfl,AW,.ref Bf,rfl,dg1,_,rfl,Bf,.int nn,rfl,dg2;refine Zx _ _ _ Jf ⟨_,ns ++ [nn],rfl,fun b o' z=>by rw [Af (Ai z F5)]; exact sc _ _ z,Ab,by rw [UW,ZY]; rfl,by rw [ZQ,nl]; rfl,by rw [ZQ,Uu]; rfl,fun a n' s e1 e2=>?_⟩;by_cases ha:a < ns.length
     ·rw [aI ha] at e1;exact nm a n' s e1 e2
     ·have Zj:=(ZT.mp e1).1;rw [ZQ,aZ] at Zj;have hqa:a=q:=by lia
      subst hqa;rw [aG ad,show a - ns.length=0 by lia,b0] at e1;cases e1
      rw [ey] at e2;cases e2
      exact dst
    ·rintro D3 KI H4 GX F5 ⟨w0,ns,rfl,sc,Jf,UW,nl,Uu,nm⟩;rw [ZM] at nl;have nne:ns ≠ []:=fun z=>by rw [z] at nl; exact sne (bp.mp nl.symm)
     refine ⟨D3,ns,rfl,by rw [Jf,UW],nne,fun mn hmn hle=>?_⟩;have md:Md ws ss u.1 mn:=by
      obtain ⟨a,ha⟩:=bM hmn;have ha':=(ZT.mp ha).1;have Lw:ss[a]? = some (ss[a]'(by lia)):=ZN _;refine ⟨⟨_,ZS Lw,(nm a _ _ ha Lw).1⟩,fun s hs mm g=>?_⟩;obtain ⟨b,hb⟩:=bM hs;have F4:=(ZT.mp hb).1;have en:ns[b]? = some (ns[b]'(by lia)):=ZN _;have z1:=hle _ (ZS en);have z2:=(nm b _ _ en hb).2 mm g;lia
     have bd:0<=mn/\mn < 2 ^ 300:=by
      obtain ⟨a,ha⟩:=bM hmn;have ha':=(ZT.mp ha).1;have Lw:ss[a]? = some (ss[a]'(by lia)):=ZN _;exact cw.map.bound cw.n1 cw.n30 (sx _ (ZS Lw)) ux (nm a _ _ ha Lw)
     exists _,_,rfl,rfl,⟨⟨by lia,by lia⟩,⟨by lia,by lia⟩⟩
     have Zw:=sc _ _ Su;refine hB _ _ _ Zw ⟨_,_,ds ++ [mn],rfl,fun b o' z=>by rw [Af (Ai z Kz)]; exact sc _ _ (sb _ _ z),Ab,?_,by rw [ZQ,dl]; rfl,by rw [ZQ,al]; rfl,fun q r d e1 e2=>?_⟩
     ·rw [Lz (a:=u) (by rw [dl]; exact eu),ZY,ZY,ea];rfl
     ·by_cases ha:q < ds.length
      ·rw [aI ha] at e2;exact dm q r d e1 e2
      ·have Zj:=(ZT.mp e2).1;rw [ZQ,aZ] at Zj;have hqa:q=j:=by lia
       subst hqa;rw [aG ad,show q - ds.length=0 by lia,b0] at e2;cases e2
       rw [eu] at e1;cases e1
       exact md
   ·rintro D2 A2 H3 acc Kz ⟨v0,v1,ds,rfl,sb,Su,ea,dl,al,dm⟩;have sab:=sa.trans sb;have wd:M6 ws ss A6 ds:=⟨by lia,dm⟩
    exists _,rfl,o,rfl,⟨_,AI.of (sab _ _ Xh)⟩
    refine B6 BL (xs:=ss.map V.str) (fun D3 q KI H4 GX=>∃ w0:Option V,KI=[w0,some (.ref CH)]/\Ar H3 H4/\H4 D3=some (.lst GX)/\GX=((ss.take q).map (DL An)).map V.int/\GX.length=q)
     (by rw [ZM]; lia) (fun D3 F5=>⟨_,rfl,Ac F5,Ab,rfl,rfl⟩)
     (fun D3 q KI H4 GX F5 ⟨w0,_,sc,Jf,_,Uu⟩=>⟨AI.of (sc _ _ (sab _ _ Xh)),Jf,Uu⟩) ?_ ?_
    ·rintro D3 q KI H4 GX x3 B3 F5 Sz ⟨w0,rfl,sc,Jf,UW,Uu⟩ Zx;obtain ⟨s,ey,rfl⟩:∃ s,ss[q]? = some s/\x3=.str s:=by
      rw [ZV] at Sz;cases z:ss[q]? with
      | none=>rw [z] at Sz; cases Sz
      | some y=>rw [z] at Sz; exact ⟨y,rfl,(ar.inj Sz).symm⟩
     obtain ⟨r,OG,rfl⟩:=ZR.mp (ssub s (ZS ey));have hm:(r.1,V.int r.2) ∈ DT An:=by unfold DT; exact ZR.mpr ⟨r,OG,rfl⟩
     have dg:BQ H4 CH (.str r.1) (some (.int r.2)):=.inl ⟨_,Sum.inr r.1,.inl (sc _ _ (sab _ _ (s2 _ _ hCC))),rfl,(D7 (by rw [Fm]; exact cw.ok1.nd) hm).symm⟩;exists _,rfl,_,rfl,CH,.int r.2,rfl,dg;refine Zx _ _ _ Jf ⟨_,rfl,fun b o' z=>by rw [Af (Ai z F5)]; exact sc _ _ z,Ab,?_,by rw [ZQ,Uu]; rfl⟩;rw [UW,ax,ey,ZY,ZY];simp [FO cw.ok1.nd OG]
    ·rintro D3 KI H4 GX F5 ⟨w0,rfl,sc,Jf,UW,Uu⟩;rw [ZM,aw] at UW;have Zv:=sc _ _ (sb _ _ AO);have sall:=sab.trans sc;exists D3,_,rfl,AB.of (by rw [Jf,UW]),_,rfl,D2,_,rfl,AB.of (by rw [sc _ _ Su,ea]),_,_,rfl,rfl,_,rfl,_,rfl,D,_,rfl,DZ.t (k:=ss.map Sum.inr) Zv (by rw [Tn]; exact sall _ _ Xh) ?_
     ·have:=congrArg bK kk;rw [ZM,ZM,aM] at this;lia
     have nin:ss.map Sum.inr ∉ kvs.map (·.1):=by
      rw [kk];intro hm;obtain ⟨s2,VQ,e2⟩:=ZR.mp hm;have e2:=OF e2;subst e2;obtain ⟨b,hb,eb⟩:=aq VQ;rw [aM] at hb;rw [cE] at eb;have F4:b < os.length:=by lia
      have e5:os[b]=os[i]:=eb.trans (ar.inj ((ZN hi).symm.trans es)).symm;have:=(cG (i:=b) (j:=i) (h₀:=F4) (h₁:=hi) ond).mp e5;lia
     rw [Iz _ (L4 nin)];refine hN _ _ ⟨_,_,kvs ++ [(ss.map Sum.inr,_)],rfl,fun b o' z=>by rw [Af (Ai z hD)]; exact sall _ _ z,Ab,?_,fun s2 v2 hm=>?_⟩
     ·rw [ZY,kk,ax,es,ZY];rfl
     ·rcases ak.mp hm with hm | hm
      ·exact kt s2 v2 hm
      ·simp only [aa,Prod.mk.injEq] at hm;obtain ⟨e1,rfl⟩:=hm;have e1:=OF e1;subst e1;exact ⟨_,rfl,ds,wd,rfl⟩
  ·rintro σ H' ⟨v9,v10,kvs,rfl,sa,AO,kk,kt⟩;rw [hul,aw] at kk;exact ⟨_,rfl,k H' D kvs (R0.trans sa) fD AO kk kt⟩
end
section
variable {P:Program} {w:World} {K:ZP} {mg:Str->Option Value} {base:Heap}
theorem IM (h_int:mg "int"=none) {f:Addr} {fd:FuncData} (F:E4 K "_law_lengths" "_law_lengths" CO f fd):AH P w K mg base BK 1 f fd ["_law_plan"] Oa:=by
 refine F.ok EG gP ca
 ·obtain ⟨q,n,xs,ws,rfl,_⟩:=h;rfl
 ·obtain ⟨q,n,xs,ws,rfl,mw,XZ,TJ,k⟩:=h;have hu:=Ez hr;have nd:=EG.nd;have big:16000000 < sizeLine:=by decide
  have two:2<=sizeLine:=by decide
  obtain ⟨r0,okw,pos,uni⟩:=mw.web XZ TJ;obtain ⟨D,e,us,hq,hD,hE,hW⟩:=mw.at'.ex;have ends:=okw.ends;have x30:xs.length<=30:=okw.l30;have w64:=okw.l64;have wof:∀ u ∈ ws,u.1 ∈ xs/\u.2.1 ∈ xs/\u.1 ≠ u.2.1/\1<=u.2.2:=fun u hu=>⟨(ends u hu).1,(ends u hu).2,mw.apart hu,pos u hu⟩
  have hwl:us.length=ws.length:=by rw [Jn hW,ZM]
  refine ⟨_,(Ae (Am (i:=1) nd rfl (Or.inl rfl) IE)
  (Ae (Bp PassesOwn.never rfl (AV K rfl (A4 (AX K rfl) (pv 0) Ag ce)) (Ah (i:=2) nd rfl ga)
  (Aj (Bp PassesOwn.never rfl (AV K rfl (A4 (AX K rfl) (pv 0) Ag ce)) (Ah (i:=3) nd rfl ga)
  (Aj (Ce hu (pv 1) (A7 (Aa (pv 2) (Aa (pv 3) Ad))) (A4 iK (Bi (Aa FC (Aa Ag Ad))) (Ay Fp ci h_int PyProof.Rows.boot_int (Aa (Ib RQ (pv 2) (pv 3) (BI _)) Ad)) ce) rfl)))))
  (Ae (Bp PassesOwn.never rfl (AV K rfl (A4 (AX K rfl) (pv 0) Ag ce)) (BD K rfl rfl (Au (Ah (i:=2) nd rfl ga) (Au (Ah (i:=3) nd rfl ga) (Au (Ah (i:=4) nd rfl ga) BC))))
  (Ae (Ce hu (pv 1) (A7 (Aa (pv 2) (Aa (pv 3) Ad))) (pv 4) rfl)
  (Aj (Ce hu (pv 1) (A7 (Aa (pv 3) (Aa (pv 2) Ad))) (pv 4) rfl))))
  (Ae (Bp PassesOwn.never rfl (AV K rfl (A4 (AX K rfl) (pv 0) Ag ce)) (Ah (i:=5) nd rfl ga)
  (Aj (Bp PassesOwn.never rfl (AV K rfl (A4 (AX K rfl) (pv 0) Ag ce)) (Ah (i:=2) nd rfl ga)
  (Aj (Bp PassesOwn.never rfl (AV K rfl (A4 (AX K rfl) (pv 0) Ag ce)) (Ah (i:=3) nd rfl ga)
  (Ae (Am (i:=6) nd rfl (Or.inl rfl) (Bd hu (pv 1) (A7 (Aa (pv 2) (Aa (pv 5) Ad))) ce))
  (Ae (Am (i:=7) nd rfl (Or.inl rfl) (Bd hu (pv 1) (A7 (Aa (pv 5) (Aa (pv 3) Ad))) ce))
  (Ae (Am (i:=8) nd rfl (Or.inl rfl) (Bd hu (pv 1) (A7 (Aa (pv 2) (Aa (pv 3) Ad))) ce))
  (Aj (Dm (Nb (DG (Ic (pv 6))) (Nb (DG (Ic (pv 7))) (Oo (LS (DG (IG (pv 8))) (Iy (By Hs (Ax Bj (pv 6) (pv 7)) (pv 8) (BI _)))).pt))).pt
  (Aj (Ce hu (pv 1) (A7 (Aa (pv 2) (Aa (pv 3) Ad))) (Ax Bj (pv 6) (pv 7)) rfl))
  BH))))))))))
  (Aj (AJ (pv 1))))))),?_⟩
  intro A hA;have V0:MV (upd H A (.dT [])) A (fun _ _=>none) 0:=⟨[],Ab,ZU _,fun x y=>rfl⟩
  have nAD:∀ {b:Addr} {u:HO},H b=some u->b ≠ A:=fun z=>Ai z hA
  have strAt:∀ {i:Nat} {v:V},ik[i]? = some v->∃ x,xs[i]? = some x/\v=.str x/\i < xs.length:=fun {i v} h=>by
   rw [ZV] at h;cases ex:xs[i]? with
   | none=>rw [ex] at h; cases h
   | some x=>rw [ex] at h; exact ⟨x,rfl,(ar.inj h).symm,(ZT.mp ex).1⟩
  refine ⟨_,rfl,q,_,_,_,rfl,rfl,AI.of (Ac hA _ _ hq),rfl,D,rfl,⟨_,AI.of (Ac hA _ _ hD)⟩,C8 (xs:=xs.map V.str) (fun i σ H2=>(∃ v4 v5 v6 v7 v8 v9 v10,σ=[some (.ref q),some (.ref A),v4,v5,v6,v7,v8,v9,v10])/\Ar H H2/\∃ G,MV H2 A G (i * 30)/\(∀ x y v,G x y=some v->x ∈ xs/\y ∈ xs/\v=oI (if x=y then some 0 else none))/\∀ (a:Nat) x,a < i->xs[a]? = some x->∀ y ∈ xs,∃ v,G x y=some v)
   ⟨⟨_,_,_,_,_,_,_,rfl⟩,Ac hA,_,V0.up (aJ _),fun x y v h=>(by cases h),fun j x hj=>absurd hj (cy _)⟩ (fun i σ H2 _ hP=>AI.of (hP.2.1 _ _ hD)) (fun i v σ H2 hv hP rt bk N hNi=>?_) (fun σ H2 hP=>?_)⟩
  ·obtain ⟨⟨v4,v5,v6,v7,v8,v9,v10,rfl⟩,s2,G0,hG0,m1,m2⟩:=hP;obtain ⟨one,eone,rfl,ilt⟩:=strAt hv;refine ⟨_,rfl,q,_,_,_,rfl,rfl,AI.of (s2 _ _ hq),rfl,D,rfl,⟨_,AI.of (s2 _ _ hD)⟩,C8 (xs:=xs.map V.str) (fun j σ H3=>(∃ v5 v6 v7 v8 v9 v10,σ=[some (.ref q),some (.ref A),some (.str one),v5,v6,v7,v8,v9,v10])/\Ar H H3/\∃ G,MV H3 A G (i * 30 + j)/\(∀ x y v,G x y=some v->x ∈ xs/\y ∈ xs/\v=oI (if x=y then some 0 else none))/\(∀ (a:Nat) x,a < i->xs[a]? = some x->∀ y ∈ xs,∃ v,G x y=some v)/\∀ (b:Nat) y,b < j->xs[b]? = some y->∃ v,G one y=some v)
    ⟨⟨_,_,_,_,_,_,rfl⟩,s2,G0,hG0.up ad,m1,m2,fun b y hb=>absurd hb (cy _)⟩ (fun i σ H3 _ hP=>AI.of (hP.2.1 _ _ hD)) (fun j v σ H3 hv hP rt bk N hNj=>?_) (fun σ H3 hP=>?_)⟩
   ·obtain ⟨⟨v5,v6,v7,v8,v9,v10,rfl⟩,s3,G1,Yh,m3,m4,m5⟩:=hP;obtain ⟨oth,eoth,rfl,jlt⟩:=strAt hv;have cb:i * 30 + j < 16000000:=by
     have:i * 30<=30 * 30:=cL _ ad;lia
    refine ⟨ge,fun L hL=>?_⟩;have q1:=Ac (o:=.lst [.non,.int 0]) hL;have hL':(upd H3 L (.lst [.non,.int 0])) L=some (.lst [.non,.int 0]):=Ab;generalize upd H3 L (.lst [.non,.int 0])=H4 at q1 hL' ⊢;have ix:J3 [V.non,.int 0] (if decide (V.str one=V.str oth)=true then 1 else 0)=some (oI (if one=oth then some 0 else none)):=by
     by_cases z:one=oth
     ·subst z;rw [if_pos (decide_eq_true rfl),if_pos rfl];rfl
     ·rw [if_neg (fun h=>z (by have:=of_decide_eq_true h; injection this)),if_neg z];rfl
    refine ⟨_,rfl,_,rfl,rfl,.inr ⟨_,rfl,L,_,_,_,rfl,rfl,AB.of hL',ix,?_⟩⟩;refine ⟨_,rfl,_,rfl,_,rfl,two,fun t ht=>?_⟩;have q2:=q1.trans (Ac (o:=.tup [.str one,.str oth]) ht);obtain ⟨H5,dp,hG5,kvs,e5⟩:=(Yh.same q2).put ad (v:=oI (if one=oth then some 0 else none)) (t:=t) (x:=one) (y:=oth) Ab;refine ⟨A,H5,rfl,dp,hNj _ _ ⟨⟨_,_,_,_,_,_,rfl⟩,fun b u z=>?_,_,hG5.up ad,fun x y v h=>?_,fun a x ha ex y hy=>?_,fun b y hb ey=>?_⟩⟩
    ·rw [e5,Af (nAD z)];exact q2 _ _ (s3 _ _ z)
    ·unfold MP at h;split at h
     ·rename_i hc
      obtain ⟨rfl,rfl⟩:=hc;cases h
      exact ⟨ZS eone,ZS eoth,rfl⟩
     ·exact m3 x y v h
    ·unfold MP;split
     ·exact ⟨_,rfl⟩
     ·exact m4 a x ha ex y hy
    ·unfold MP;split
     ·exact ⟨_,rfl⟩
     ·rename_i hc
      refine m5 b y ?_ ey;have:b ≠ j:=by
       rintro rfl;rw [eoth] at ey;exact hc ⟨rfl,(ar.inj ey).symm⟩
      lia
   ·obtain ⟨⟨v5,v6,v7,v8,v9,v10,rfl⟩,s3,G1,Yh,m3,m4,m5⟩:=hP;rw [ZM] at Yh m5;refine hNi _ _ ⟨⟨_,_,_,_,_,_,_,rfl⟩,s3,G1,Yh.up ad,m3,fun a x ha ex y hy=>?_⟩;by_cases ea:a=i
    ·subst ea;rw [eone] at ex;cases ex
     obtain ⟨b,hb,eb⟩:=aq hy;exact m5 b y hb (by rw [ZN hb,eb])
    ·exact m4 a x ad ex y hy
  obtain ⟨⟨v4,v5,v6,v7,v8,v9,v10,rfl⟩,s2,G,hG,m1,m2⟩:=hP;rw [ZM] at hG m2;obtain ⟨M,hMe⟩:∃ M:Str->Str->Option Int,M=fun x y=>if x=y/\x ∈ xs then some 0 else none:=⟨_,rfl⟩
  have hM:MO H2 A xs M 1000:=by
   refine ⟨G,hG.up ad,fun x hx y hy=>?_,fun x y hn=>?_⟩
   ·obtain ⟨a,ha,ea⟩:=aq hx;obtain ⟨v,hv⟩:=m2 a x ha (by rw [ZN ha,ea]) y hy;rw [hv,(m1 x y v hv).2.2,hMe];by_cases z:x=y
    ·rw [if_pos z];show _=some (oI (if x=y/\x ∈ xs then some 0 else none))
     rw [if_pos ⟨z,hx⟩]
    ·rw [if_neg z];show _=some (oI (if x=y/\x ∈ xs then some 0 else none))
     rw [if_neg (fun h=>z h.1)]
   ·cases hg:G x y with
    | none=>rfl
    | some v=>exact absurd ⟨(m1 x y v hg).1,(m1 x y v hg).2.1⟩ hn
  have m1:∀ x y n,M x y=some n->x=y/\n=0:=fun x y n h=>by
   rw [hMe] at h;dsimp only at h;split at h
   ·rename_i hc
    cases h
    exact ⟨hc.1,rfl⟩
   ·cases h
  have X6:∀ x ∈ xs,M x x=some 0:=fun x hx=>by
   rw [hMe];exact if_pos ⟨rfl,hx⟩
  refine ⟨_,rfl,q,_,_,_,rfl,rfl,AI.of (s2 _ _ hq),rfl,e,rfl,⟨_,AI.of (s2 _ _ hE)⟩,C8 (xs:=us) (fun i σ H3=>(∃ v4 v5 v6 v7 v8 v9 v10,σ=[some (.ref q),some (.ref A),v4,v5,v6,v7,v8,v9,v10])/\Ar H H3/\∃ M,MO H3 A xs M (1000 + 2 * i)/\(∀ x y n,M x y=some n->(x=y/\n=0)\/Cb ws x y n)/\(∀ x ∈ xs,M x x=some 0)/\∀ x y n,Cb (ws.take i) x y n->M x y=some n)
   ⟨⟨_,_,_,_,_,_,_,rfl⟩,s2,M,(hM.up ad),fun x y n h=>.inl (m1 x y n h),X6,fun x y n h=>(by obtain ⟨u,hu,_⟩:=h; exact absurd hu aQ)⟩ (fun i σ H3 _ hP=>AI.of (hP.2.1 _ _ hE)) (fun i v σ H3 hv hP rt bk N hN=>?_) (fun σ H3 hP=>?_)⟩
  ·obtain ⟨⟨v4,v5,v6,v7,v8,v9,v10,rfl⟩,s3,M,hM,n1,n2,n3⟩:=hP;obtain ⟨u,tt,gu,rfl,htt⟩:=Gx hW hv;have um:=ZS gu;have une:u.1 ≠ u.2.1:=(wof u um).2.2.1;have hi:i < ws.length:=(ZT.mp gu).1;exists tt,_,rfl,AI.of (s3 _ _ htt),rfl,_,_,rfl,_,_,rfl,_,_,rfl,rfl;refine ⟨_,rfl,_,rfl,_,rfl,_,rfl,two,fun t ht=>?_⟩;obtain ⟨H4,dp,hM4,kvs,e4⟩:=(hM.same (Ac (o:=.tup [.str u.1,.str u.2.1]) ht)).put ad (wof u um).1 (wof u um).2.1 (n:=u.2.2) (t:=t) (x:=u.1) (y:=u.2.1) Ab;have s4:Ar H H4:=fun b o z=>by
    rw [e4,Af (nAD z)];exact Ac ht _ _ (s3 _ _ z)
   exists A,H4,rfl,dp;refine ⟨_,rfl,_,rfl,_,rfl,_,rfl,two,fun t2 FK=>?_⟩;obtain ⟨H5,dp2,hM5,kvs2,e5⟩:=(hM4.same (Ac (o:=.tup [.str u.2.1,.str u.1]) FK)).put ad (wof u um).2.1 (wof u um).1 (n:=u.2.2) (t:=t2) (x:=u.2.1) (y:=u.1) Ab;refine ⟨A,H5,rfl,dp2,hN _ _ ⟨⟨_,_,_,_,_,_,_,rfl⟩,fun b o z=>?_,_,(hM5.up ad),fun a b n h=>?_,fun x hx=>?_,fun a b n h=>?_⟩⟩
   ·rw [e5,Af (nAD z)];exact Ac FK _ _ (s4 _ _ z)
   ·unfold KS at h;split at h
    ·rename_i hc
     cases h
     exact .inr ⟨u,um,.inr ⟨hc.2.symm,hc.1.symm⟩,rfl⟩
    ·split at h
     ·rename_i hc
      cases h
      exact .inr ⟨u,um,.inl ⟨hc.1.symm,hc.2.symm⟩,rfl⟩
     ·exact n1 a b n h
   ·unfold KS;rw [if_neg (fun z=>une (z.2.symm.trans z.1)),if_neg (fun z=>une (z.1.symm.trans z.2))];exact n2 x hx
   ·have hE':Cb ws a b n:=by
     obtain ⟨v,hv,r⟩:=h;exact ⟨v,List.mem_of_mem_take hv,r⟩
    unfold KS;split
    ·rename_i hc
     have:=uni _ _ _ _ hE' ⟨u,um,.inr ⟨hc.2.symm,hc.1.symm⟩,rfl⟩;rw [this]
    ·rename_i hc1
     split
     ·rename_i hc
      have:=uni _ _ _ _ hE' ⟨u,um,.inl ⟨hc.1.symm,hc.2.symm⟩,rfl⟩;rw [this]
     ·rename_i Qq
      refine n3 a b n ?_;obtain ⟨v,hv,ev,el⟩:=h;rw [ax,gu] at hv;rcases ak.mp hv with hv | hv
      ·exact ⟨v,hv,ev,el⟩
      ·have:v=u:=by simpa using hv
       subst this;rcases ev with ⟨x1,x2⟩ | ⟨x1,x2⟩
       ·exact absurd ⟨x1.symm,x2.symm⟩ Qq
       ·exact absurd ⟨x2.symm,x1.symm⟩ hc1
  obtain ⟨⟨v4,v5,v6,v7,v8,v9,v10,rfl⟩,s3,M,hM,n1,n2,n3⟩:=hP;rw [hwl,aw] at n3;have FW0:FW ws xs 0 M:=by
   refine ⟨fun x y n h=>?_,fun x y m g=>?_,fun x hx=>⟨0,n2 x hx,b5 _⟩⟩
   ·rcases n1 x y n h with ⟨rfl,rfl⟩ | h
    ·exact .nil x
    ·have:=Br.cons h (.nil y);rwa [eA] at this
   ·cases g with
    | edge e=>exact ⟨m,n3 x y m e,b5 _⟩
    | cons _ h _=>exact absurd h aQ
  refine ⟨_,rfl,q,_,_,_,rfl,rfl,AI.of (s3 _ _ hq),rfl,D,rfl,⟨_,AI.of (s3 _ _ hD)⟩,C8 (xs:=xs.map V.str) (fun t σ H4=>(∃ v4 v5 v6 v7 v8 v9 v10,σ=[some (.ref q),some (.ref A),v4,v5,v6,v7,v8,v9,v10])/\Ar H H4/\∃ M,MO H4 A xs M (2000 + t * 1000)/\FW ws xs t M)
   ⟨⟨_,_,_,_,_,_,_,rfl⟩,s3,M,(hM.up ad),FW0⟩ (fun i σ H4 _ hP=>AI.of (hP.2.1 _ _ hD)) (fun t v σ H4 hv hP rt bk N hNt=>?_) (fun σ H4 hP=>?_)⟩
  ·obtain ⟨⟨v4,v5,v6,v7,v8,v9,v10,rfl⟩,s4,M0,hM0,fw⟩:=hP;have strAt:∀ {i:Nat} {v:V},ik[i]? = some v->∃ x,xs[i]? = some x/\v=.str x/\i < xs.length:=fun {i v} h=>by
    rw [ZV] at h;cases ex:xs[i]? with
    | none=>rw [ex] at h; cases h
    | some x=>rw [ex] at h; exact ⟨x,rfl,(ar.inj h).symm,(ZT.mp ex).1⟩
   obtain ⟨mid,emid,rfl,tlt⟩:=strAt hv;refine ⟨_,rfl,q,_,_,_,rfl,rfl,AI.of (s4 _ _ hq),rfl,D,rfl,⟨_,AI.of (s4 _ _ hD)⟩,C8 (xs:=xs.map V.str) (fun i σ H5=>(∃ v4 v5 v6 v8 v9 v10,σ=[some (.ref q),some (.ref A),v4,v5,v6,some (.str mid),v8,v9,v10])/\Ar H H5/\∃ M,MO H5 A xs M (2000 + t * 1000 + i * 30)/\G6 M0 M/\(∀ x y n,M x y=some n->Br ws x y n)/\∀ (a:Nat) x,a < i->xs[a]? = some x->∀ y ∈ xs,∀ p1 p2,M0 x mid=some p1->M0 mid y=some p2->∃ n,M x y=some n/\n<=p1 + p2)
    ⟨⟨_,_,_,_,_,_,rfl⟩,s4,M0,(hM0.up ad),G6.refl _,fw.sound,fun a x ha=>absurd ha (cy _)⟩ (fun i σ H5 _ hP=>AI.of (hP.2.1 _ _ hD)) (fun i v σ H5 hv hP rt bk N hNi=>?_) (fun σ H5 hP=>?_)⟩
   ·obtain ⟨⟨v4,v5,v6,v8,v9,v10,rfl⟩,s5,M1,VV,WX,so1,SY⟩:=hP;obtain ⟨one,eone,rfl,ilt⟩:=strAt hv;refine ⟨_,rfl,q,_,_,_,rfl,rfl,AI.of (s5 _ _ hq),rfl,D,rfl,⟨_,AI.of (s5 _ _ hD)⟩,C8 (xs:=xs.map V.str) (fun j σ H6=>(∃ v5 v6 v8 v9 v10,σ=[some (.ref q),some (.ref A),some (.str one),v5,v6,some (.str mid),v8,v9,v10])/\Ar H H6/\∃ M,MO H6 A xs M (2000 + t * 1000 + i * 30 + j)/\G6 M1 M/\(∀ x y n,M x y=some n->Br ws x y n)/\∀ (b:Nat) y,b < j->xs[b]? = some y->∀ p1 p2,M0 one mid=some p1->M0 mid y=some p2->∃ n,M one y=some n/\n<=p1 + p2)
     ⟨⟨_,_,_,_,_,rfl⟩,s5,M1,(VV.up ad),G6.refl _,so1,fun b y hb=>absurd hb (cy _)⟩ (fun i σ H6 _ hP=>AI.of (hP.2.1 _ _ hD)) (fun j v σ H6 hv hP rt bk N hNj=>?_) (fun σ H6 hP=>?_)⟩
    ·obtain ⟨⟨v5,v6,v8,v9,v10,rfl⟩,s6,M2,UN,Wy,To,QK⟩:=hP;obtain ⟨oth,eoth,rfl,jlt⟩:=strAt hv;have cb:2000 + t * 1000 + i * 30 + j < 16000000:=by
      have:t * 1000<=30 * 1000:=cL _ ad;have:i * 30<=30 * 30:=cL _ ad;lia
     have moAll:=WX.trans Wy;have hone:one ∈ xs:=ZS eone;have hoth:oth ∈ xs:=ZS eoth;have hmid:mid ∈ xs:=ZS emid;have keepM:∀ {H7:Hp} (v8 v9 v10:Option V),Ar H6 H7->(∀ p1 p2,M0 one mid=some p1->M0 mid oth=some p2->∃ n,M2 one oth=some n/\n<=p1 + p2) ->
       (∃ w5 w6 w8 w9 Yu,([some (.ref q),some (.ref A),some (.str one),some (.str oth),v6,some (.str mid),v8,v9,v10]:St)=[some (.ref q),some (.ref A),some (.str one),w5,w6,some (.str mid),w8,w9,Yu])/\Ar H H7/\∃ M,MO H7 A xs M (2000 + t * 1000 + i * 30 + (j + 1))/\G6 M1 M/\(∀ x y n,M x y=some n->Br ws x y n)/\∀ (b:Nat) y,b < j + 1->xs[b]? = some y->∀ p1 p2,M0 one mid=some p1->M0 mid y=some p2->∃ n,M one y=some n/\n<=p1 + p2:=by
      intro H7 v8 v9 v10 s7 hv2;refine ⟨⟨_,_,_,_,_,rfl⟩,s6.trans s7,M2,((UN.same s7).up ad),Wy,To,fun b y hb ey p1 p2 q1 q2=>?_⟩;by_cases eb:b=j
      ·subst eb;rw [eoth] at ey;cases ey
       exact hv2 p1 p2 q1 q2
      ·exact QK b y ad ey p1 p2 q1 q2
     refine ⟨_,rfl,_,rfl,_,rfl,two,fun t1 F3=>?_⟩;have z1:=Ac (o:=.tup [.str one,.str mid]) F3;exists A,_,rfl,(UN.same z1).get hone hmid Ab;refine ⟨_,rfl,_,rfl,_,rfl,two,fun t2 FK=>?_⟩;have z2:=z1.trans (Ac (o:=.tup [.str mid,.str oth]) FK);exists A,_,rfl,(UN.same z2).get hmid hoth Ab;refine ⟨_,rfl,_,rfl,_,rfl,two,fun t3 YW=>?_⟩;have z3:=z2.trans (Ac (o:=.tup [.str one,.str oth]) YW);exists A,_,rfl,(UN.same z3).get hone hoth Ab;generalize upd (upd (upd H6 t1 (.tup [.str one,.str mid])) t2 (.tup [.str mid,.str oth])) t3 (.tup [.str one,.str oth])=H7 at z3;exists _,rfl,_,rfl;cases eo:M2 one mid with
     | none=>
      refine GK (GK ?_);refine hNj _ _ (keepM _ _ _ z3 fun p1 p2 q1 _=>?_);obtain ⟨n',e',_⟩:=moAll one mid p1 q1;rw [eo] at e';cases e'
     | some a1=>
      refine IY ?_;exists _,rfl,_,rfl;cases em:M2 mid oth with
      | none=>
       refine GK (GK ?_);refine hNj _ _ (keepM _ _ _ z3 fun p1 p2 _ q2=>?_);obtain ⟨n',e',_⟩:=moAll mid oth p2 q2;rw [em] at e';cases e'
      | some a2=>
       refine IY ?_;have low:∀ p1 p2,M0 one mid=some p1->M0 mid oth=some p2->a1 + a2<=p1 + p2:=fun p1 p2 q1 q2=>by
        obtain ⟨n1',Wd,l1'⟩:=moAll one mid p1 q1;obtain ⟨n2',Yn,l2'⟩:=moAll mid oth p2 q2;rw [eo] at Wd;rw [em] at Yn;cases Wd
        cases Yn
        lia
       have putM:∀ (v10:Option V),(∀ n,M2 one oth=some n->a1 + a2<=n)->∀ t6,H7 t6=none->∃ a H8,V.ref A=.ref a/\DZ (upd H7 t6 (.tup [.str one,.str oth])) a (.ref t6) (.int (a1 + a2)) H8 /\
         ((∃ w5 w6 w8 w9 Yu,([some (.ref q),some (.ref A),some (.str one),some (.str oth),v6,some (.str mid),some (.int a1),some (.int a2),v10]:St)=[some (.ref q),some (.ref A),some (.str one),w5,w6,some (.str mid),w8,w9,Yu])/\Ar H H8/\∃ M,MO H8 A xs M (2000 + t * 1000 + i * 30 + (j + 1))/\G6 M1 M/\(∀ x y n,M x y=some n->Br ws x y n)/\∀ (b:Nat) y,b < j + 1->xs[b]? = some y->∀ p1 p2,M0 one mid=some p1->M0 mid y=some p2->∃ n,M one y=some n/\n<=p1 + p2):=by
        intro v10 hle t6 Xc;have hws:=(To _ _ _ eo).app (To _ _ _ em);have z6:=z3.trans (Ac (o:=.tup [.str one,.str oth]) Xc);obtain ⟨H8,dp,hM8,kvs,e8⟩:=(UN.same z6).put ad hone hoth (n:=a1 + a2) (t:=t6) (x:=one) (y:=oth) Ab;have mo8:G6 M2 (KS M2 one oth (a1 + a2)):=fun x y n h=>by
         unfold KS;split
         ·rename_i hc
          obtain ⟨rfl,rfl⟩:=hc;exact ⟨_,rfl,hle n h⟩
         ·exact ⟨n,h,b5 _⟩
        refine ⟨A,H8,rfl,dp,⟨_,_,_,_,_,rfl⟩,fun b o z=>?_,_,hM8,Wy.trans mo8,fun x y n h=>?_,fun b y hb ey p1 p2 q1 q2=>?_⟩
        ·rw [e8,Af (nAD z)];exact z6 _ _ (s6 _ _ z)
        ·unfold KS at h;split at h
         ·rename_i hc
          obtain ⟨rfl,rfl⟩:=hc;cases h
          exact hws
         ·exact To x y n h
        ·by_cases eb:b=j
         ·subst eb;rw [eoth] at ey;cases ey
          refine ⟨a1 + a2,?_,low p1 p2 q1 q2⟩;unfold KS;rw [if_pos ⟨rfl,rfl⟩]
         ·obtain ⟨n,en,ln⟩:=QK b y ad ey p1 p2 q1 q2;obtain ⟨n',Z2,ln'⟩:=mo8 one y n en;exact ⟨n',Z2,by lia⟩
       exists _,rfl,_,rfl;cases ez:M2 one oth with
       | none=>
        refine IY (IY ?_);refine ⟨_,rfl,_,rfl,_,_,rfl,rfl,_,rfl,_,rfl,_,rfl,two,fun t6 Xc=>?_⟩;exact (putM _ (fun n h=>by rw [ez] at h; cases h) t6 Xc).imp fun _ h=>h.imp fun _ h=>⟨h.1,h.2.1,hNj _ _ h.2.2⟩
       | some a3=>
        refine GK ?_;exists _,rfl,_,rfl,_,_,rfl,rfl,_,rfl,_,_,rfl,rfl,_,rfl;refine BB (fun B0=>?_) (fun B0=>?_)
        ·have B0:=of_decide_eq_true B0;refine ⟨_,rfl,_,rfl,_,_,rfl,rfl,_,rfl,_,rfl,_,rfl,two,fun t6 Xc=>?_⟩;exact (putM _ (fun n h=>by rw [ez] at h; cases h; lia) t6 Xc).imp fun _ h=>h.imp fun _ h=>⟨h.1,h.2.1,hNj _ _ h.2.2⟩
        ·have B0:¬ a1 + a2 < a3:=fun z=>B0 (decide_eq_true z)
         refine hNj _ _ (keepM _ _ _ z3 fun p1 p2 q1 q2=>⟨a3,ez,?_⟩);have:=low p1 p2 q1 q2;lia
    ·obtain ⟨⟨v5,v6,v8,v9,v10,rfl⟩,s6,M2,UN,Wy,To,QK⟩:=hP;rw [ZM] at UN QK;refine hNi _ _ ⟨⟨_,_,_,_,_,_,rfl⟩,s6,M2,(UN.up ad),WX.trans Wy,To,fun a x ha ex y hy p1 p2 q1 q2=>?_⟩;by_cases ea:a=i
     ·subst ea;rw [eone] at ex;cases ex
      obtain ⟨b,hb,eb⟩:=aq hy;exact QK b y hb (by rw [ZN hb,eb]) p1 p2 q1 q2
     ·obtain ⟨n,en,ln⟩:=SY a x ad ex y hy p1 p2 q1 q2;obtain ⟨n',Z2,ln'⟩:=Wy x y n en;exact ⟨n',Z2,by lia⟩
   ·obtain ⟨⟨v4,v5,v6,v8,v9,v10,rfl⟩,s5,M1,VV,WX,so1,SY⟩:=hP;rw [ZM] at VV SY;refine hNt _ _ ⟨⟨_,_,_,_,_,_,_,rfl⟩,s5,M1,(VV.up ad),fw.next pos ends emid WX so1 fun x hx y hy p1 p2 q1 q2=>?_⟩;obtain ⟨a,ha,ea⟩:=aq hx;exact SY a x ha (by rw [ZN ha,ea]) y hy p1 p2 q1 q2
  ·obtain ⟨⟨v4,v5,v6,v7,v8,v9,v10,rfl⟩,s4,M1,VV,fw⟩:=hP;rw [ZM] at VV fw;exact ⟨_,rfl,k H4 A s4 hA ⟨_,_,VV.md (fun x hx y hy=>let ⟨nn,e,_⟩:=fw.doneW ends (fun x hx y hy=>let ⟨kk,a,_⟩:=mw.sums XZ TJ x hx y hy; ⟨kk,a⟩) x hx y hy; ⟨nn,e⟩),fun x hx y hy=>(fw.doneW ends (fun x hx y hy=>let ⟨kk,a,_⟩:=mw.sums XZ TJ x hx y hy; ⟨kk,a⟩) x hx y hy).imp fun nn h=>⟨by rw [if_pos ⟨hx,hy⟩]; exact h.1,h.2,mw.bound XZ TJ hx hy h.2⟩⟩⟩
end
section
variable {P:Program} {w:World} {K:ZP} {mg:Str->Option Value} {base:Heap}
theorem Mc (h_int:mg "int"=none) (h_len:mg "len"=none) (h_min:mg "min"=none) (h_tuple:mg "tuple"=none) {fT:Addr} {fdT:FuncData} (XT:Fn K mg "_law_take" AL ["_law_pen","_law_many"] fT fdT) (GT:AH P w K mg base BK 1 fT fdT ["_law_pen","_law_many"] (Dc K)) {fN:Addr} {fdN:FuncData} (XN:Fn K mg "_law_names" Cy ["_law_pen","_law_many"] fN fdN) (GN:AH P w K mg base BK 2 fN fdN ["_law_pen","_law_many"] (Gb K)) {fL:Addr} {fdL:FuncData} (XL:Fn K mg "_law_length" C6 ["_law_pen"] fL fdL) (GL:AH P w K mg base BK 2 fL fdL ["_law_pen"] (ML K)) {fS:Addr} {fdS:FuncData} (XS:Fn K mg "_law_some" Ee ["_law_pen","_law_names_here","_law_many"] fS fdS) (GS:AH P w K mg base BK 2 fS fdS ["_law_pen","_law_names_here","_law_many"] (NY K)) {fM:Addr} {fdM:FuncData} (XM:Fn K mg "_law_map" Cz ["_law_pen","_law_names_here","_law_shape"] fM fdM) (GM:AH P w K mg base BK 3 fM fdM ["_law_pen","_law_names_here","_law_shape"] (MK K)) {f:Addr} {fd:FuncData} (F:E4 K "_law_case" "_law_case" Eg f fd):AH P w K mg base BK 4 f fd ["_law_pen","_law_shape"] (Oe K):=by
 refine F.ok Hk gP ca
 ·obtain ⟨p,sh,rfl,_⟩:=h;rfl
 ·obtain ⟨p,sh,rfl,hP,XH,sh4,k⟩:=h;have nd:=Hk.nd;have big:100000 < sizeLine:=by decide
  refine ⟨_,(Ae (Am (i:=2) nd rfl (Or.inl rfl) (Ak GN (hr.mono bi) ci XN.mg XN.F.kp XN.b .nil Aw (Aa (pv 0) (Aa (Ax Bj Ag am) Ad))))
  (Ae (Am (i:=3) nd rfl (Or.inl rfl) (Ak GM (hr.mono bi) ci XM.mg XM.F.kp XM.b .nil Aw (Aa (pv 0) (Aa (pv 2) (Aa (pv 1) Ad)))))
  (Ae (Am (i:=4) nd rfl (Or.inl rfl) am)
  (Ae (Am (i:=5) nd rfl (Or.inl rfl) (Bi Ad))
  (Ae (Bp PassesOwn.never rfl (BF K rfl (Ak GS (hr.mono bi) ci XS.mg XS.F.kp XS.b .nil Aw (Aa (pv 0) (Aa (pv 2) (Aa (Ax Bj Ag (Ak GT (hr.mono bi) ci XT.mg XT.F.kp XT.b .nil Aw (Aa (pv 0) (Aa (Al (GW rfl) ci h_min PyProof.Rows.boot_min (Aa Ag (Aa (Al (A8 K rfl) ci h_len PySem.boot_len (Aa (pv 2) Ad)) Ad))) Ad)))) Ad))))) (Ah (i:=6) nd rfl ga)
  (Aj (CP (EI PySem.F.plainAttrs_list PySem.F.slot_list_append PySem.F.type_list_append BG (pv 5) (Aa (A7 (Aa (pv 6) (Aa (A4 iK (Bi (Aa Ag (Aa am (Aa am (Aa (Ax Le (Ak GL (hr.mono bi) ci XL.mg XL.F.kp XL.b .nil Aw ir) Ag) Ad))))) (pv 4) ce) Ad))) Ad)))))
  (Ae (Am (i:=7) nd rfl (Or.inl rfl) (Bi Ad))
  (Ae (Bp PassesOwn.never rfl (BF K rfl (Ak GS (hr.mono bi) ci XS.mg XS.F.kp XS.b .nil Aw (Aa (pv 0) (Aa (pv 2) (Aa (Ax Bj Ag (Ak GT (hr.mono bi) ci XT.mg XT.F.kp XT.b .nil Aw (Aa (pv 0) (Aa (Al (GW rfl) ci h_min PyProof.Rows.boot_min (Aa Ag (Aa (Al (A8 K rfl) ci h_len PySem.boot_len (Aa (pv 2) Ad)) Ad))) Ad)))) Ad))))) (Ah (i:=6) nd rfl ga)
  (Aj (CP (EI PySem.F.plainAttrs_list PySem.F.slot_list_append PySem.F.type_list_append BG (pv 7) (Aa (A7 (Aa (pv 6) (Aa (A4 iK (Bi (Aa (Ax Bj Ag am) (Aa (Ak GL (hr.mono bi) ci XL.mg XL.F.kp XL.b .nil Aw ir) Ad))) (Ay Fp ci h_int PyProof.Rows.boot_int (Aa (Ib RQ am Ag (BI _)) Ad)) ce) Ad))) Ad)))))
  (Ae (Am (i:=8) nd rfl (Or.inl rfl) (A4 iK (Bi (Aa FC (Aa (Ax Bj Ag (Ak GT (hr.mono bi) ci XT.mg XT.F.kp XT.b .nil Aw (Aa (pv 0) (Aa (Al (A8 K rfl) ci h_len PySem.boot_len (Aa (pv 5) Ad)) Ad)))) (Aa (Ax Bj Ag am) Ad)))) am ce))
  (Aj (AJ (A7 (Aa (pv 3) (Aa (Ay (Av K rfl) ci h_tuple PyProof.Rows.boot_tuple (Aa (pv 5) Ad)) (Aa (Ay (Av K rfl) ci h_tuple PyProof.Rows.boot_tuple (Aa (pv 7) Ad)) (Aa (pv 8) Ad))))))))))))))),?_⟩
  have t30:(100:Int) < 10 ^ 30:=by decide
  refine ⟨_,rfl,_,rfl,p,9,rfl,hP,by decide,by decide,fun d1 H1 P1 k1 Yq X8=>⟨_,_,rfl,rfl,?_⟩⟩;obtain ⟨n1,rfl⟩:∃ n:Nat,d1=n:=⟨d1.toNat,by lia⟩
  refine ⟨p,1 + n1,rfl,P1,by lia,fun H2 D xs P2 k2 fD hD xl xnd xnm=>?_⟩;have nD:D ≠ p:=P1.ne fD;refine ⟨_,rfl,_,rfl,_,rfl,p,D,xs,sh,rfl,P2,hD,nD,xnd,xnm,by lia,by lia,XH,sh4,fun H3 m ps ws P3 k3 pp mw=>?_⟩;have F5:=k3 _ _ nD hD;have q3:=(k1.trans k2).trans k3;refine ⟨_,rfl,p,4,rfl,P3,by decide,by decide,fun wy H4 P4 k4 wy0 wy4=>?_⟩;have q4:=q3.trans k4;have Yb:=mw.keepT (EB P3 k4);have Lp:=k4 _ _ nD F5;clear mw F5 hD k1 k2 k3 k4 q3 P1 P2 P3 fD;refine ⟨(by show 0<=sizeLine; lia),fun R hR=>?_⟩;have nR:R ≠ p:=P4.ne hR;have nRD:R ≠ D:=fun z=>by rw [z,Lp] at hR; cases hR
  have s5:=Ac (o:=.lst []) hR;have P5:=P4.same s5;have YK:=Yb.keepT (fun b ys z=>s5 _ _ z);have HR:=s5 _ _ Lp;have Sq:(upd H4 R iF) R=some iF:=Ab;have q5:Bl p H (upd H4 R iF):=q4.trans (Bl.of_same s5);have frR:H R=none:=by
   cases z:H R with
   | none=>rfl
   | some o=>rw [q4 _ _ nR z] at hR; cases hR
  generalize upd H4 R iF=H5 at P5 YK HR Sq q5;clear Yb Lp hR s5 P4 q4;have lx:((xs.map V.str).length:Int)=1 + (n1:Int):=by rw [ZM,xl]; lia
  refine ⟨_,rfl,_,rfl,_,rfl,_,rfl,D,_,rfl,.inl (AB.of HR),_,_,rfl,p,_,rfl,P5,by rw [lx]; split <;> lia,by rw [lx]; split <;> lia,fun d2 H6 P6 k6 d20 Yp=>⟨_,_,rfl,rfl,?_⟩⟩;rw [lx] at Yp;obtain ⟨n2,rfl⟩:∃ n:Nat,d2=n:=⟨d2.toNat,by lia⟩
  have n2b:1 + n2<=xs.length/\n2 < 6:=by
   rw [xl];split at Yp <;> lia
  refine ⟨p,D,xs,1 + n2,rfl,P6,k6 _ _ nD HR,nD,by lia,n2b.1,fun H7 D1 ys zs P7 k7 Yk UR pm yl so=>⟨D1,rfl,⟨_,AB.of UR⟩,?_⟩⟩;have Xa:=k6.trans k7;have mw7:=YK.keepT (EB P5 Xa);have UP:=Xa _ _ nD HR;have Zq:=Xa _ _ nR Sq;have q7:=q5.trans Xa;have nD1:D1 ≠ p:=P6.ne Yk;have nDR:D1 ≠ R:=fun z=>by rw [z,k6 _ _ nR Sq] at Yk; cases Yk
  clear YK HR Sq q5 k6 k7 Xa P5 P6 Yk;refine EL (xs:=ys.map V.str) (fun i σ H'=>∃ (v6:Option V) (rs:List BU) (vs:List V),σ=[some (.ref p),some (.int sh),some (.ref D),some (.ref m),some (.int wy),some (.ref R),v6,none,none]/\R5 K H7 H' p R rs vs/\rs.map (·.1)=ys.take i/\vs.length=i/\∀ r ∈ rs,0<=r.2/\r.2 < 10 ^ 30)
   ⟨_,[],[],rfl,⟨P7,fun b o _ _ z=>z,Zq,.nil,nR⟩,rfl,rfl,fun r hr=>nomatch hr⟩ (fun i σ H' _ ⟨_,_,_,_,r5,_⟩=>AB.of (r5.kp _ _ nD1 nDR UR)) ?_ ?_
  ·rintro i v σ H' hv ⟨v6,rs,vs,rfl,r5,rt,vl,rl⟩;obtain ⟨y,ey,rfl⟩:∃ y,ys[i]? = some y/\v=.str y:=by
    rw [ZV] at hv;cases ex:ys[i]? with
    | none=>rw [ex] at hv; cases hv
    | some x=>rw [ex] at hv; exact ⟨x,rfl,(ar.inj hv).symm⟩
   have ii:=(ZT.mp ey).1;refine ⟨_,rfl,.inl ⟨rfl,_,AB.of r5.hR⟩,_,rfl,_,rfl,p,5,rfl,r5.pn,by decide,by decide,fun e1 Ha Pa ka Z5 Z4=>?_⟩;refine ⟨_,rfl,p,40,rfl,Pa,by decide,by decide,fun e2 Hb Pb kb e20 e21=>?_⟩;refine ⟨_,rfl,p,rfl,Pb,fun le Hc Pc kc le1 WY=>⟨_,_,rfl,rfl,(by show 4<=sizeLine; lia),fun T hT=>?_⟩⟩;have rc:=r5.step Pc ((ka.trans kb).trans kc);obtain ⟨a,ha,a0,ZI⟩:∃ a:Int,J3 [V.int 0,V.int e1,V.int e2,V.int (le - 1)] wy=some (.int a)/\0<=a/\a < 10 ^ 30:=by
    have c:wy=0\/wy=1\/wy=2\/wy=3:=by lia
    rcases c with rfl | rfl | rfl | rfl
    ·exact ⟨0,rfl,by lia,by lia⟩
    ·exact ⟨e1,rfl,by lia,by lia⟩
    ·exact ⟨e2,rfl,by lia,by lia⟩
    ·exact ⟨le - 1,rfl,by lia,by lia⟩
   have rd:=rc.add hT (.lst [.int 0,.int e1,.int e2,.int (le - 1)]);refine ⟨_,rfl,T,_,_,_,rfl,rfl,AB.of Ab,ha,ge,fun T2 OH=>?_⟩;have re:=rd.add OH (.tup [.str y,.int a]);exists R,_,_,rfl,rfl,re.hR,by lia
   refine ⟨_,rs ++ [(y,a)],_,rfl,re.app Ab,by rw [ZY,rt,ax,ey]; rfl,by rw [ZQ,vl]; rfl,fun r hr=>?_⟩;rcases ak.mp hr with hr | hr
   ·exact rl r hr
   ·rw [aa.mp hr]; exact ⟨a0,ZI⟩
  rintro σ H8 ⟨v6,An,Hg,rfl,r8,XO,vl1,rl1⟩;rw [ZM,aw] at XO;rw [ZM] at vl1;have rs1l:An.length=ys.length:=by rw [<-XO,ZM]
  have WB:∀ b xs,H7 b=some gX->H8 b=some gX:=fun b xs z=>r8.kp b _ (by obtain ⟨_,_,_,_,y,_⟩:=P7; exact BM z y (fun q=>by cases q)) (BM z Zq (fun q=>by cases q)) z
  have Ya:=mw7.keepT WB;have UO:=r8.kp _ _ nD nRD.symm UP;have q8:Bl p H H8:=fun b o hb z=>r8.kp b o hb (Ai z frR) (q7 b o hb z)
  have P8:=r8.pn;have Zp:=r8.hR;have dd8:=r8.dd;have ok1:Et ps 0 An:=Gi pm xnd XO rl1 ad pp;clear r8 mw7 UP Zq WB UR nDR nD1 q7 P7;refine ⟨(by show 0<=sizeLine; lia),fun R2 Ss=>?_⟩;have WU:R2 ≠ p:=P8.ne Ss;have nR2D:R2 ≠ D:=fun z=>by rw [z,UO] at Ss; cases Ss
  have nRR:R ≠ R2:=fun z=>by rw [<-z,Zp] at Ss; cases Ss
  have s9:=Ac (o:=.lst []) Ss;have P9:=P8.same s9;have YJ:=Ya.keepT (fun b ys z=>s9 _ _ z);have SO:=s9 _ _ UO;have Zo:=s9 _ _ Zp;have ZD:=AM dd8 (fun b ys z=>s9 _ _ z);have Ue:(upd H8 R2 iF) R2=some iF:=Ab;have q9:Bl p H (upd H8 R2 iF):=q8.trans (Bl.of_same s9);have Zz:H R2=none:=by
   cases z:H R2 with
   | none=>rfl
   | some o=>rw [q8 _ _ WU z] at Ss; cases Ss
  generalize upd H8 R2 iF=H9 at P9 YJ SO Zo ZD Ue q9;clear Ya UO Zp dd8 q8 P8 s9 Ss;refine ⟨_,rfl,_,rfl,_,rfl,_,rfl,D,_,rfl,.inl (AB.of SO),_,_,rfl,p,_,rfl,P9,by rw [lx]; split <;> lia,by rw [lx]; split <;> lia,fun d3 OS ZK k10 d30 d31=>⟨_,_,rfl,rfl,?_⟩⟩;rw [lx] at d31;obtain ⟨n3,rfl⟩:∃ n:Nat,d3=n:=⟨d3.toNat,by lia⟩
  have n3b:1 + n3<=xs.length/\n3 < 8:=by
   rw [xl];split at d31 <;> lia
  refine ⟨p,D,xs,1 + n3,rfl,ZK,k10 _ _ nD SO,nD,by lia,n3b.1,fun Uz D2 WA Ys ZJ k11 Yj Kz T4 yl2 To=>⟨D2,rfl,⟨_,AB.of Kz⟩,?_⟩⟩;have Ql:=k10.trans k11;have WW:=YJ.keepT (EB P9 Ql);have Xw:=Ql _ _ nR Zo;have X7:=AM ZD (EB P9 Ql);have Sr:=Ql _ _ WU Ue;have q11:=q9.trans Ql;have nD2:D2 ≠ p:=ZK.ne Yj;have WV:D2 ≠ R2:=fun z=>by rw [z,k10 _ _ WU Ue] at Yj; cases Yj
  clear YJ SO Zo ZD Ue q9 P9 ZK k10 k11 Ql Yj;refine EL (xs:=WA.map V.str) (fun i σ H'=>∃ (v6:Option V) (rs:List BU) (vs:List V),σ=[some (.ref p),some (.int sh),some (.ref D),some (.ref m),some (.int wy),some (.ref R),v6,some (.ref R2),none]/\R5 K Uz H' p R2 rs vs/\rs.map (·.1)=WA.take i/\vs.length=i/\∀ r ∈ rs,1<=r.2/\r.2 < 10 ^ 30)
   ⟨_,[],[],rfl,⟨ZJ,fun b o _ _ z=>z,Sr,.nil,WU⟩,rfl,rfl,fun r hr=>nomatch hr⟩ (fun i σ H' _ ⟨_,_,_,_,r5,_⟩=>AB.of (r5.kp _ _ nD2 WV Kz)) ?_ ?_
  ·rintro i v σ H' hv ⟨v6,rs,vs,rfl,r5,rt,vl,rl⟩;obtain ⟨y,ey,rfl⟩:∃ y,WA[i]? = some y/\v=.str y:=by
    rw [ZV] at hv;cases ex:WA[i]? with
    | none=>rw [ex] at hv; cases hv
    | some x=>rw [ex] at hv; exact ⟨x,rfl,(ar.inj hv).symm⟩
   have ii:=(ZT.mp ey).1;refine ⟨_,rfl,.inl ⟨rfl,_,AB.of r5.hR⟩,_,rfl,_,rfl,p,4,rfl,r5.pn,by decide,by decide,fun e1 Ha Pa ka Z5 Z4=>⟨_,_,rfl,rfl,?_⟩⟩;refine ⟨_,rfl,p,rfl,Pa,fun le Hc Pc kc le1 WY=>⟨ge,fun T hT=>?_⟩⟩;have rd:=(r5.step Pc (ka.trans kc)).add hT (.lst [.int (1 + e1),.int le]);have nT:T ≠ p:=Pc.ne hT;have Ky:(upd Hc T (.lst [.int (1 + e1),.int le])) T=some (.lst [.int (1 + e1),.int le]):=Ab;generalize upd Hc T (.lst [.int (1 + e1),.int le])=Hd at rd Ky;refine ⟨_,rfl,p,5,rfl,rd.pn,by decide,by decide,fun e3 He Pe ke e30 e31=>⟨rfl,.inr ⟨_,rfl,?_⟩⟩⟩;have re:=rd.step Pe ke;have hTe:=ke _ _ nT Ky;obtain ⟨a,ha,a0,ZI⟩:∃ a:Int,J3 [V.int (1 + e1),V.int le] (if decide (V.int e3=V.int 0)=true then 1 else 0)=some (.int a)/\1<=a/\a < 10 ^ 30:=by
    split
    ·exact ⟨le,rfl,le1,WY⟩
    ·exact ⟨1 + e1,rfl,by lia,by lia⟩
   refine ⟨T,_,_,_,rfl,rfl,AB.of hTe,ha,ge,fun T2 OH=>?_⟩;have rf:=re.add OH (.tup [.str y,.int a]);exists R2,_,_,rfl,rfl,rf.hR,by lia
   refine ⟨_,rs ++ [(y,a)],_,rfl,rf.app Ab,by rw [ZY,rt,ax,ey]; rfl,by rw [ZQ,vl]; rfl,fun r hr=>?_⟩;rcases ak.mp hr with hr | hr
   ·exact rl r hr
   ·rw [aa.mp hr]; exact ⟨a0,ZI⟩
  rintro σ H12 ⟨v6',A6,FY,rfl,V1,UB,vl2,Y8⟩;rw [ZM,aw] at UB;rw [ZM] at vl2;have rs2l:A6.length=WA.length:=by rw [<-UB,ZM]
  have Vj:∀ b xs,Uz b=some gX->H12 b=some gX:=fun b xs z=>V1.kp b _ (by obtain ⟨_,_,_,_,y,_⟩:=ZJ; exact BM z y (fun q=>by cases q)) (BM z Sr (fun q=>by cases q)) z
  have YL:=WW.keepT Vj;have Xv:=V1.kp _ _ nR nRR Xw;have ZE:=AM X7 Vj;have q12:Bl p H H12:=fun b o hb z=>V1.kp b o hb (Ai z Zz) (q11 b o hb z)
  have P12:=V1.pn;have Xu:=V1.hR;have ZA:=V1.dd;have ok2:Et ps 1 A6:=Gi T4 xnd UB Y8 ad pp;clear V1 WW Xw X7 Sr q11 ZJ Vj Kz nD2 WV;refine ⟨_,rfl,_,rfl,R,_,rfl,.inl (AB.of Xv),p,_,rfl,P12,by lia,by lia,fun f1 H13 P13 k13 f10 f11=>⟨_,_,rfl,rfl,?_⟩⟩;refine ⟨_,rfl,p,12,rfl,P13,by decide,by decide,fun f2 H14 P14 k14 f20 f21=>⟨_,_,rfl,rfl,(by show 3<=sizeLine; lia),fun T hT=>?_⟩⟩;have SK:=Ac (o:=.lst [.non,.int (1 + f1),.int (1 + f2)]) hT;have P15:=P14.same SK;have nT:T ≠ p:=P14.ne hT;have Ky:(upd H14 T (.lst [.non,.int (1 + f1),.int (1 + f2)])) T=some (.lst [.non,.int (1 + f1),.int (1 + f2)]):=Ab;have k15:=(k13.trans k14).trans (Bl.of_same SK);generalize upd H14 T (.lst [.non,.int (1 + f1),.int (1 + f2)])=H15 at P15 Ky k15;refine ⟨_,rfl,p,3,rfl,P15,by decide,by decide,fun f3 H16 P16 k16 f30 f31=>?_⟩;obtain ⟨x,d,hx,lim⟩:∃ (x:V) (d:PyData),J3 [V.non,V.int (1 + f1),V.int (1 + f2)] f3=some x/\Lim x d:=by
   have c:f3=0\/f3=1\/f3=2:=by lia
   rcases c with rfl | rfl | rfl
   ·exact ⟨_,_,rfl,.inl ⟨rfl,rfl⟩⟩
   ·exact ⟨_,_,rfl,.inr ⟨1 + f1,rfl,rfl,by lia,by lia⟩⟩
   ·exact ⟨_,_,rfl,.inr ⟨1 + f2,rfl,rfl,by lia,by lia⟩⟩
  exists T,_,_,x,rfl,rfl,AB.of (k16 _ _ nT Ky),hx;have kk:=k15.trans k16;have tt:=EB P12 kk;have q16:=q12.trans kk;refine ⟨_,rfl,_,rfl,R,_,rfl,.inl ⟨AB.of (kk _ _ nR Xv),fun t1 F3=>?_⟩⟩;have s17:=Ac (o:=.tup Hg) F3;refine ⟨_,rfl,R2,_,rfl,.inl ⟨AB.of (s17 _ _ (kk _ _ WU Xu)),fun t2 FK=>?_⟩⟩;have XJ:=Ac (o:=.tup FY) FK;refine ⟨_,rfl,(by show 4<=sizeLine; lia),fun c hc=>?_⟩;have Y4:=Ac (o:=.tup [.ref m,.ref t1,.ref t2,x]) hc;have sa:=s17.trans (XJ.trans Y4);refine k _ c m (1 + n1) ps ws An A6 x d (P16.same sa) (q16.trans (Bl.of_same sa)) ⟨⟨⟨t1,t2,Hg,FY,Ab,Y4 _ _ (XJ _ _ Ab),AM ZE fun b ys z=>sa _ _ (tt _ _ z),Y4 _ _ Ab,AM ZA fun b ys z=>sa _ _ (tt _ _ z)⟩,by rw [<-xl]; exact YL.keepT fun b ys z=>sa _ _ (tt _ _ z),by lia,by lia,ok1,ok2,by lia,by lia,lim⟩,by lia,by lia,by lia,by rw [XO]; exact so,by rw [UB]; exact To⟩
end
end K43
namespace L2
open PySem PySem.Spec PyProof.Rows
theorem HV {X:Cx} (hc:X.calm=true):Bo X iJ (fun xs H Q=>∃ (d:Addr) (kvs:List gQ) (kd:Nat->Bool),xs=[.ref d]/\H d=some ig/\(∀ p ∈ kvs,p.1 ≠ []/\∀ (i:Nat) k,p.1[i]? = some k->J0 (kd i) (kV k))/\kvs.length < 64 /\
  ∀ (l:Addr) (ts:List Addr) (ks:List (List AF)),H l=none->ks.Perm (kvs.map (·.1))->ts.length=ks.length->(∀ (i:Nat) t k,ts[i]? = some t->ks[i]? = some k->H t=some (.tup (k.map kV)))->Q (.ref l) (upd H l (.lst (ts.map V.ref)))):=by
 intro pins s σ H xs us Q I r h;obtain ⟨d,kvs,kd,rfl,hd,hk,Hz,q⟩:=h;obtain ⟨u,rfl,ru⟩:=BV r;cases ru
 obtain ⟨z,y,xs,rel,o,es,ep,h1,h2,h3,h4,h5⟩:=(show AE X.prog X.w H s.heap d ig from I.hok d _ hd)
 have rl:=Paired.length rel;have hlen:es.size=kvs.length:=by
  rw [<-aH,h4,ZM];exact rl.symm
 have sm:∀ {l:List gQ} {m:List (List AF × Addr × Value)},Paired (fun (p:List AF × V) (q:List AF × Addr × Value)=>p.1=q.1/\H q.2.1=some (.tup (p.1.map kV))/\AA p.2 q.2.2) l m->l.map (·.1)=m.map (·.1)/\∀ q ∈ m,H q.2.1=some (.tup (q.1.map kV)):=by
  intro l m r;induction r with
  | nil=>exact ⟨rfl,fun q hq=>nomatch hq⟩
  | cons a b ih=>
   refine ⟨by rw [ag,ag,a.1,ih.1],fun q hq=>?_⟩;rcases ZZ.mp hq with rfl | hq
   ·rw [<-a.1]; exact a.2.1
   ·exact ih.2 q hq
 obtain ⟨keq,kat⟩:=sm rel;have vals:∀ l:List (List AF × Addr × Value),A9 ((l.map (·.2.1)).map V.ref) (l.map fun q=>Value.ref q.2.1):=by
  intro l;induction l with
  | nil=>exact .nil
  | cons q l ih=>exact .cons rfl ih
 have tk:∀ v ∈ (xs.map (·.2.1)).map V.ref,Jy H kd v:=fun v hv=>by
  obtain ⟨t,ht,rfl⟩:=ZR.mp hv;obtain ⟨q,hq,rfl⟩:=ZR.mp ht;have hm:q.1 ∈ kvs.map (·.1):=by rw [keq]; exact bQ hq
  obtain ⟨p,hp,e⟩:=ZR.mp hm;obtain ⟨n1,n2⟩:=hk p hp;rw [e] at n1 n2;refine ⟨_,_,rfl,kat q hq,fun z=>n1 (fI.mp z),fun i y e=>?_⟩;rw [ZV] at e;cases w:q.1[i]? with
  | none=>rw [w] at e; cases e
  | some k=>rw [w] at e; rw [<-ar.inj e]; exact n2 i k w
 have tu:=NQ I (vals xs) tk;refine Calls.call_function_entry kind_sorted plain_sorted entry_sorted (args_sorted1 _) ?_;unfold Builtin.«sorted»;refine wpAny_bind (m:=checkCount "sorted" 1 1 _) gK;refine wpAny_bind (PySem.W.kdu_collect (Tt (es:=es) (ep:=ep) y) iG ⟨o,h1,h2,h3⟩ (by rw [hlen]; exact z) fun h' tk acc Nx hacc=>?_);have key:∀ (i:Nat) v,acc.toList[i]? = some v->∃ q,xs[i]? = some q/\v=.ref q.2.1:=fun i v e=>by
  have e2:=hacc.2 i v (by rw [<-b9]; exact e);dsimp only at e2;rw [<-b9,h4,ZV] at e2;cases z:xs[i]? with
  | none=>rw [z] at e2; cases e2
  | some q=>
   rw [z] at e2;exact ⟨q,rfl,(ar.inj e2).symm⟩
 have al:acc.toList.length=xs.length:=by
  rw [aH,hacc.1,<-aH,h4,ZM]
 have av:acc.toList=xs.map fun q=>Value.ref q.2.1:=by
  refine bZ (by rw [al,ZM]) fun i i1 i2=>?_
  obtain ⟨q,e1,e2⟩:=key i _ (ZN i1);rw [bI];rw [ZN (by rw [<-al]; exact i1)] at e1;rw [e2,ar.inj e1]
 have big:100000 < sizeLine:=by decide
 refine wpAny_bind (wpAny_newList ?_ (by rw [al]; lia));have hoL:(h'.push (seqObj "list" acc.toList.toArray 0)).get? h'.objs.size=some (seqObj "list" acc.toList.toArray 0):=ZX _ rfl;have keep:∀ b o,s.heap.get? b=some o->(h'.push (seqObj "list" acc.toList.toArray 0)).get? b=some o:=fun b o q=>ZO _ (Nx b o q)
 show wpAny _ _ _ _ _ { s with heap:=h'.push (seqObj "list" acc.toList.toArray 0),toks:=tk }
 refine wpAny_bind (wpAny_holding (wpAny_call_entry slot_list_sort ⟨_,hoL,rfl⟩ entry_list_sort (FG (sw:=Ll (CZ s.heap)) (s:={ s with heap:=h'.push (seqObj "list" acc.toList.toArray 0),toks:=tk }) hoL (by rw [al]; lia) (by rw [al]; lia) ?_ fun out o1 _=>⟨_,rfl,wpAny_pure ⟨_,rfl,?_⟩⟩) (args_list_sort _)))
 ·intro z2 h'' kp;exact JX (s:={ s with toks:=tk }) (by rw [av]; exact tu) z2 _ h'' fun b o e=>kp b o (ab (ZW (Nx b o e))) (keep b o e)
 ·rw [av] at o1;obtain ⟨JN,px,rfl⟩:=Hr _ o1.symm xs rfl;obtain ⟨e,he⟩:=sortedHeap_at (out:=(JN.map fun q=>Value.ref q.2.1).toArray) hoL;have gone:s.heap.get? h'.objs.size=none:=by
   cases z:s.heap.get? h'.objs.size with
   | none=>rfl
   | some o=>exact absurd (ZW (Nx _ _ z)) (ba _)
  have fl:H h'.objs.size=none:=by
   cases z:H h'.objs.size with
   | none=>rfl
   | some u=>
    obtain ⟨ob,e⟩:=AE.there (I.hok _ u z);rw [gone] at e;cases e
  obtain ⟨m,hlm⟩:=id I.loc;obtain ⟨oL,esL,epL,Xi,rL⟩:=id hlm.1;have old:∀ b o,s.heap.get? b=some o->(sortedHeap (h'.push (seqObj "list" acc.toList.toArray 0)) h'.objs.size acc.toList (JN.map fun q=>Value.ref q.2.1).toArray).get? b=some o:=fun b o q=>by
   have q':=Nx b o q;have lt:=ZW q';rw [sortedHeap_old (ab lt) (by rw [size_push']; exact aA lt)];exact ZO _ q'
  have pl:=px.length_eq;have I2:=I.laidF (D:=h'.objs.size) (o:=.lst ((JN.map (·.2.1)).map V.ref)) hlm ⟨oL,esL,epL,old _ _ Xi,rL⟩ (fun b ob _ q=>old b ob q) gone (fun z=>by rw [z,Xi] at gone; cases gone)
   ⟨by rw [ZM,ZM,pl,<-rl]; exact z,_,e,vals JN,he⟩
  refine ⟨.ref h'.objs.size,_,I2.kept (t':=tk) fun b u q=>q,rfl,q h'.objs.size (JN.map (·.2.1)) (JN.map (·.1)) fl ?_ (by rw [ZM,ZM]) fun i t k e1 e2=>?_⟩
  ·rw [keq]; exact px.map _
  ·rw [ZV] at e1 e2;cases w:JN[i]? with
   | none=>rw [w] at e1; cases e1
   | some q=>
    rw [w] at e1 e2;rw [<-ar.inj e1,<-ar.inj e2];exact kat q (px.mem_iff.mp (ZS w))
end L2
namespace K43
open PySem L2
section
variable {P:Program} {w:World} {K:ZP} {mg:Str->Option Value} {base:Heap}
theorem VE (h_sorted:mg "sorted"=none) (h_tuple:mg "tuple"=none) {f:Addr} {cdv:Value} {A:Around} {outer:List Env} {s:Shared} {H:Hp} {E:XK} (hr:DN 2 (A.deeper (PyProof.Rows.envOfC "_law_map" (Ao Cz) s.heap.objs.size f cdv))) :
  ∃ tl,M8 (JH BK P w K mg base ["_law_pen","_law_names_here","_law_shape","_law_ways","_law_k","_law_other","_law_turn","_law_pair"] "_law_map" (Ao Cz) f cdv A outer s H E).nox ((Ct Cz).drop 3) tl /\
   ∀ (W:Fe) (H0 H1:Hp) (p e D:Addr) (xs:List Str) (us:List AG) (v2 v4 v5 v6 v7:Option V),M5 K H0 H1 p e D xs us->Fb xs us->us.length<=31->(∀ u ∈ us,u.2.2 < 10 ^ 30)->xs.Nodup->(∀ x ∈ xs,Bq x=true)->xs.length<=26 ->
    (∀ (H':Hp) (m:Addr) (ps:List Str) (ws:List AG),Dx K H' p->Bl p H0 H'->ps.Perm xs->FQ H' m xs.length ps ws->W.rt (.ref m) H')->tl W [some (.ref p),some (.ref e),v2,some (.ref D),v4,v5,v6,v7] H1:=by
 have nd:=FA.nd;have hu:=Ez hr;have big:100000 < sizeLine:=by decide
 refine ⟨_,(Aj (AJ (A7 (Aa (Ay (Av K rfl) ci h_tuple PyProof.Rows.boot_tuple (Aa (Al Ci ci h_sorted PyProof.Rows.boot_sorted (Aa (pv 1) Ad)) Ad)) (Aa (Ay (Av K rfl) ci h_tuple PyProof.Rows.boot_tuple (Aa (Bs (N:=["_law_pair","_law_ways"]) rfl CU (CJ [none,some 3]) (BF K rfl (Al (HV rfl) ci h_sorted PyProof.Rows.boot_sorted (Aa (pv 3) Ad)))
   (fun s2 H C fp=>⟨(Ah (i:=0) (show (["_law_pair","_law_ways"]:List Str).Nodup by decide +kernel) rfl ga),Bc,(Ax (RR K rfl) (pv 0) (A7 (Aa (Bd hu (pv 1) (pv 0) ce) Ad)))⟩)) Ad)) Ad))))),?_⟩
 intro W H0 H1 p e D xs us v2 v4 v5 v6 v7 mi wc ul SJ xnd xnm x26 k;refine ⟨_,rfl,e,xs,rfl,AB.of mi.he,by lia,fun l ps hl pm so=>⟨l,_,rfl,.inl ⟨AB.of Ab,fun T1 Qr=>?_⟩⟩⟩;have m1:=(mi.add hl (.lst (ps.map V.str))).add Qr (.tup (ps.map V.str));have Xs:(upd (upd H1 l (.lst (ps.map V.str))) T1 (.tup (ps.map V.str))) T1=some (.tup (ps.map V.str)):=Ab;generalize upd (upd H1 l (.lst (ps.map V.str))) T1 (.tup (ps.map V.str))=H2 at m1 Xs;refine ⟨_,rfl,D,_,fun _=>true,rfl,m1.hw,fun q hq=>?_,by rw [ZM]; lia,fun l2 ts ks Kx pk tl tt=>⟨l2,rfl,⟨_,AB.of Ab⟩,?_⟩⟩
 ·obtain ⟨u,_,rfl⟩:=ZR.mp hq;refine ⟨(fun z=>by cases z),fun i y ey=>?_⟩;have hm:=ZS ey;have Yf:y ∈ [Sum.inr (AY u.1 u.2.1),Sum.inr (AZ u.1 u.2.1)]:=hm;simp only [ZZ,aQ,or_false] at Yf;rcases Yf with rfl | rfl
  ·exact ⟨_,rfl⟩
  ·exact ⟨_,rfl⟩
 have m2:=m1.add Kx (.lst (ts.map V.ref));have Xl:(upd H2 l2 (.lst (ts.map V.ref))) l2=some (.lst (ts.map V.ref)):=Ab;have s2:=Ac (o:=.lst (ts.map V.ref)) Kx;have Xr:=s2 _ _ Xs;generalize upd H2 l2 (.lst (ts.map V.ref))=H3 at m2 Xl s2 Xr;rw [aE] at pk;obtain ⟨KL,pu,rfl⟩:=Hr _ pk.symm us rfl;have ulen:=pu.length_eq;rw [ZM] at tl;refine B6 BN (xs:=ts.map V.ref) (fun B i σ H' acc=>∃ v0:Option V,σ=[v0,some (.ref D)]/\Ar H3 H'/\H' B=some h9/\acc.length=i/\AU H' acc (((KL.take i).map E7).map G9))
  (by rw [ZM]; lia) (fun B hB=>⟨_,rfl,Ac hB,Ab,rfl,.nil⟩) (fun B i σ H' acc hB ⟨v0,_,kp,Ug,al,_⟩=>⟨AB.of (kp _ _ Xl),Ug,al⟩) ?_ ?_
 ·rintro B i σ H' acc x' Y hB ex ⟨v0,rfl,kp,Ug,al,dd⟩ hY;obtain ⟨t,et,rfl⟩:∃ t,ts[i]? = some t/\x'=.ref t:=by
   rw [ZV] at ex;cases z:ts[i]? with
   | none=>rw [z] at ex; cases ex
   | some t=>rw [z] at ex; exact ⟨t,rfl,(ar.inj ex).symm⟩
  have hi:i < KL.length:=by rw [<-tl]; exact (ZT.mp et).1
  obtain ⟨u,eu⟩:∃ u,KL[i]? = some u:=⟨_,ZN hi⟩
  have ht:H2 t=some (.tup [.str (AY u.1 u.2.1),.str (AZ u.1 u.2.1)]):=tt i t (DW u) et (by rw [ZV,eu]; rfl);have ht':=kp _ _ (s2 _ _ ht);have um:u ∈ us:=pu.mem_iff.mp (ZS eu);have dg:BQ H' D (.ref t) (some (.int u.2.2)):=by
   rw [<-valW wc.2.1 um];exact BQ.t (k:=DW u) (kp _ _ m2.hw) ht'
  refine ⟨_,rfl,_,rfl,_,rfl,D,_,rfl,dg,ie,fun T2 OH=>?_⟩;refine ⟨t,T2,_,_,rfl,rfl,AI.of (Ac OH _ _ ht'),AI.of Ab,by simp,by show 2 + 1<=sizeLine; lia,(fun z=>by cases z),fun _ T hT=>?_⟩;have s4:=(Ac (o:=.tup [.int u.2.2]) OH).trans (Ac (o:=.tup [.str (AY u.1 u.2.1),.str (AZ u.1 u.2.1),.int u.2.2]) hT);have Ky:(upd (upd H' T2 (.tup [.int u.2.2])) T (.tup [.str (AY u.1 u.2.1),.str (AZ u.1 u.2.1),.int u.2.2])) T=some (.tup [.str (AY u.1 u.2.1),.str (AZ u.1 u.2.1),.int u.2.2]):=Ab;show Y _ _ (upd (upd H' T2 (.tup [.int u.2.2])) T (.tup [.str (AY u.1 u.2.1),.str (AZ u.1 u.2.1),.int u.2.2]))
  generalize upd (upd H' T2 (.tup [.int u.2.2])) T (.tup [.str (AY u.1 u.2.1),.str (AZ u.1 u.2.1),.int u.2.2])=H5 at s4 Ky;have hB5:=s4 _ _ Ug;have nT:T ≠ B:=BM Ky hB5 (fun z=>by cases z);refine hY _ _ _ hB5 ⟨_,rfl,fun b o z=>by rw [Af (Ai z hB)]; exact s4 _ _ (kp _ _ z),Ab,by rw [ZQ,al]; rfl,?_⟩;rw [ax,eu,fq,ZY,ZY];refine Jo (CS dd fun b ys z=>?_) (.cons (.tup (vs:=[.str (AY u.1 u.2.1),.str (AZ u.1 u.2.1),.int u.2.2]) (by rw [Af nT]; exact Ky) ?_) .nil)
  ·rw [Af (BM z Ug (fun y=>by cases y))];exact s4 _ _ z
  ·exact .cons (.str _) (.cons (.str _) (.cons (.int _) .nil))
 ·rintro B σ H' acc hB ⟨v0,rfl,kp,Ug,al,dd⟩;rw [ZM,tl,aw] at dd;refine ⟨B,_,rfl,.inl ⟨AB.of Ug,fun T hT=>⟨ge,fun m hm=>?_⟩⟩⟩;have s5:=(Ac (o:=.tup acc) hT).trans (Ac (o:=.tup [.ref T1,.ref T]) hm);have s6:=kp.trans s5;have m6:=m2.step (m2.pn.same s6) (Bl.of_same s6);have pw:(KL.map E7).Perm (us.map E7):=pu.map _;refine k _ m ps (KL.map E7) m6.pn m6.kp pm ⟨⟨⟨T1,T,acc,Ab,s6 _ _ Xr,Ac hm _ _ Ab,CS dd fun b ys z=>s5 _ _ z⟩,pm.length_eq,pm.nodup_iff.mpr xnd,fun x hx=>xnm x (pm.mem_iff.mp hx),by rw [ZM]; lia,fun w hw=>?_⟩,⟨xs,us,pm,pw,wc⟩,so,by rw [ZM]; lia⟩;have hn:=GP pw (fun u hu=>⟨(wc.1 u hu).1,(wc.1 u hu).2.1⟩) w hw;obtain ⟨u,YV,rfl⟩:=ZR.mp hw;have um:=pu.mem_iff.mp YV;exact ⟨xnm _ hn.1,xnm _ hn.2,(wc.1 u um).2.2.2,SJ u um⟩
theorem IL (h_int:mg "int"=none) (h_len:mg "len"=none) (h_max:mg "max"=none) (h_range:mg "range"=none) (h_sorted:mg "sorted"=none) (h_tuple:mg "tuple"=none) {fT:Addr} {fdT:FuncData} (XT:Fn K mg "_law_take" AL ["_law_pen","_law_many"] fT fdT) (GT:AH P w K mg base BK 1 fT fdT ["_law_pen","_law_many"] (Dc K)) {fL:Addr} {fdL:FuncData} (XL:Fn K mg "_law_length" C6 ["_law_pen"] fL fdL) (GL:AH P w K mg base BK 2 fL fdL ["_law_pen"] (ML K)) {f:Addr} {fd:FuncData} (F:E4 K "_law_map" "_law_map" Cz f fd):AH P w K mg base BK 3 f fd ["_law_pen","_law_names_here","_law_shape"] (MK K):=by
 refine F.ok FA gP ca
 ·obtain ⟨p,e,xs,sh,rfl,_⟩:=h;rfl
 ·obtain ⟨p,e,xs,sh,rfl,P0,he,nep,xnd,xnm,x1,x26,XH,sh4,k⟩:=h;have nd:=FA.nd;have hu:=Ez hr;have big:100000 < sizeLine:=by decide
  obtain ⟨tE,hE,kE⟩:=VE (P:=P) (w:=w) (K:=K) (mg:=mg) (base:=base) h_sorted h_tuple (f:=f) (cdv:=cdv) (A:=A) (outer:=outer) (s:=s) (H:=H) (E:=E) hr;refine ⟨_,(Ae (Am (i:=3) nd rfl (Or.inr rfl) IE)
  (Ae (Bp PassesOwn.never rfl (PN ci h_range (Aa Ag (Aa (Al (A8 K rfl) ci h_len PySem.boot_len (Aa (pv 1) Ad)) Ad))) (Ah (i:=4) nd rfl ga)
  (Ae (Am (i:=5) nd rfl (Or.inl rfl) (A4 iK (Bi (Aa (Ax Le (pv 4) Ag) (Aa (Ak GT (hr.mono bi) ci XT.mg XT.F.kp XT.b .nil Aw (Aa (pv 0) (Aa (pv 4) Ad))) (Aa (Al (Q7 rfl) ci h_max PyProof.Rows.boot_max (Aa Ag (Aa (Ax Le (Ax Le (pv 4) Ag) am) Ad))) (Aa Ag Ad))))) (pv 2) ce))
  (Aj (Ce hu (pv 3) (Ay (Av K rfl) ci h_tuple PyProof.Rows.boot_tuple (Aa (Al Cg ci h_sorted PyProof.Rows.boot_sorted (Aa (Bi (Aa (A4 iK (pv 1) (pv 4) ce) (Aa (A4 iK (pv 1) (pv 5) ce) Ad))) Ad)) Ad)) (Ak GL (hr.mono bi) ci XL.mg XL.F.kp XL.b .nil Aw ir) rfl))))
  (Ae (Bp PassesOwn.never rfl (C0 ci h_range (Aa (Ax DI am (Ay Fp ci h_int PyProof.Rows.boot_int (Aa (Ib UI (pv 2) Ag (BI _)) Ad))) Ad)) (Ah (i:=6) nd rfl ga)
  (Ae (Am (i:=7) nd rfl (Or.inl rfl) (Ay (Av K rfl) ci h_tuple PyProof.Rows.boot_tuple (Aa (Al Cg ci h_sorted PyProof.Rows.boot_sorted (Aa (Bi (Aa (A4 iK (pv 1) (Ak GT (hr.mono bi) ci XT.mg XT.F.kp XT.b .nil Aw (Aa (pv 0) (Aa (Al (A8 K rfl) ci h_len PySem.boot_len (Aa (pv 1) Ad)) Ad))) ce) (Aa (A4 iK (pv 1) (Ak GT (hr.mono bi) ci XT.mg XT.F.kp XT.b .nil Aw (Aa (pv 0) (Aa (Al (A8 K rfl) ci h_len PySem.boot_len (Aa (pv 1) Ad)) Ad))) ce) Ad))) Ad)) Ad)))
  (Aj (Dm (Nb (By O0 (A4 (AX K rfl) (pv 7) Ag ce) (A4 (AX K rfl) (pv 7) Ag ce) (BI _)) (Oo (DG (Km hu (pv 7) (pv 3))))).pt
  (Aj (Ce hu (pv 3) (pv 7) (Ak GL (hr.mono bi) ci XL.mg XL.F.kp XL.b .nil Aw ir) rfl))
  BH))))
  hE))),?_⟩
  intro D hD;have m0:M5 K H (upd H D (.dT [])) p e D xs []:=⟨P0.same (Ac hD),Ac hD _ _ he,Ab,Bl.of_same (Ac hD),nep,P0.ne hD,hD⟩
  generalize upd H D (.dT [])=H1 at m0;exists _,rfl,e,_,rfl,.inl (AB.of m0.he),_,_,rfl,⟨by lia,by lia,by rw [ZM]; lia,by rw [ZM]; lia⟩
  refine CG (lo:=1) (fun j σ H'=>∃ (v4 v5 v6 v7:Option V) (us:List AG),σ=[some (.ref p),some (.ref e),some (.int sh),some (.ref D),v4,v5,v6,v7]/\M5 K H H' p e D xs us/\us.length=j/\HX xs (j + 1) us/\∀ u ∈ us,u.2.2 < 10 ^ 30)
   ⟨_,_,_,_,[],rfl,m0,rfl,HX.nil xs,fun u hu=>nomatch hu⟩ ?_ ?_
  ·rintro j σ H' hj ⟨v4,v5,v6,v7,us,rfl,mi,ul,tr,SJ⟩;rw [ZM] at hj;have JF:j + 1 < xs.length:=by lia
   refine ⟨_,rfl,_,_,rfl,rfl,_,rfl,_,rfl,p,_,rfl,mi.pn,by lia,by lia,fun d H2 P2 k2 d0 d1=>?_⟩;refine ⟨_,rfl,_,_,rfl,rfl,_,rfl,p,2,rfl,P2,by decide,by decide,fun d' H3 P3 k3 d'0 d'1=>⟨_,_,rfl,rfl,_,_,rfl,?_⟩⟩;have W2:=mi.step P3 (k2.trans k3);clear mi P2 k2 k3;refine ⟨(by show 4<=sizeLine; lia),fun T hT=>?_⟩;have Wz:=W2.add hT hZ;have Ky:(upd H3 T hZ) T=some hZ:=Ab;obtain ⟨o,hv,o0⟩:∃ o:Nat,J3 [V.int (1 + (j:Int) - 1),V.int d,V.int (if 1 + (j:Int) - 1 - d' > 0 then 1 + (j:Int) - 1 - d' else 0),V.int 0] sh=some (.int (o:Int))/\o < j + 1:=by
    have c:sh=0\/sh=1\/sh=2\/sh=3:=by lia
    rcases c with rfl | rfl | rfl | rfl
    ·exact ⟨j,by show some (V.int _)=_; rw [show 1 + (j:Int) - 1=(j:Int) by lia],by lia⟩
    ·exact ⟨d.toNat,by show some (V.int _)=_; rw [fO d0],by lia⟩
    ·exists (if 1 + (j:Int) - 1 - d' > 0 then 1 + (j:Int) - 1 - d' else 0).toNat,?_
     ·show some (V.int _)=_
      rw [fO (by split <;> lia)]
     ·split <;> lia
    ·exact ⟨0,rfl,by lia⟩
   generalize upd H3 T hZ=H4 at Wz Ky;exists _,rfl,T,_,_,_,rfl,rfl,AB.of Ky,hv;refine ⟨_,rfl,p,rfl,Wz.pn,fun le H5 P5 k5 l1 l30=>?_⟩;have YM:=Wz.step P5 k5;have ea:ik[j + 1]? = some (.str xs[j + 1]):=by rw [ZV,ZN JF]; rfl
   have eo:ik[o]? = some (.str (xs[o]'(by lia))):=by rw [ZV,ZN ad]; rfl
   have e1j:(1 + (j:Int))=((j + 1:Nat):Int):=by lia
   have xo:xs[o]? = some (xs[o]'(by lia)):=ZN _;have xj:xs[j + 1]? = some xs[j + 1]:=ZN _;generalize (xs[o]'(by lia))=x at eo xo;generalize xs[j + 1]=y at ea xj;refine ⟨_,rfl,_,rfl,_,rfl,e,_,_,_,rfl,rfl,AB.of YM.he,(by rw [e1j]; exact BE ea),_,rfl,_,rfl,e,_,_,_,rfl,rfl,AB.of YM.he,BE eo,ge,fun T2 OH=>⟨T2,y,x,rfl,Ab,fun l hl=>⟨l,_,rfl,.inl ⟨AB.of Ab,fun T3 Zm=>?_⟩⟩⟩⟩;have SM:=((YM.add OH (.lst [.str y,.str x])).add hl (.lst [.str (AY y x),.str (AZ y x)])).add Zm (.tup [.str (AY y x),.str (AZ y x)]);have pn:=Oq (VD tr xnd (x:=x) (n:=le) xj);have hk:(upd (upd (upd H5 T2 (.lst [.str y,.str x])) l (.lst [.str (AY y x),.str (AZ y x)])) T3 (.tup [.str (AY y x),.str (AZ y x)])) T3=some (.tup ((DW (x,y,le)).map kV)):=by
    rw [Kq y x,Kr y x];exact Ab
   generalize upd (upd (upd H5 T2 (.lst [.str y,.str x])) l (.lst [.str (AY y x),.str (AZ y x)])) T3 (.tup [.str (AY y x),.str (AZ y x)])=H6 at SM hk;exists D,_,rfl,DZ.t SM.hw hk (by rw [ZM]; lia);rw [show V.int le=V.int (x,y,le).2.2 from rfl,pn];refine ⟨_,_,_,_,us ++ [(x,y,le)],rfl,SM.put _,by rw [ZQ,ul]; rfl,QS tr xnd o0 xo xj l1,fun u hu=>?_⟩;rcases ak.mp hu with hu | hu
   ·exact SJ u hu
   ·rw [aa.mp hu]; exact l30
  ·rintro σ H' ⟨v4,v5,v6,v7,us,rfl,mi,ul,tr,SJ⟩;rw [ZM] at ul tr;rw [show ((xs.length:Int) - 1).toNat + 1=xs.length by lia] at tr;have wc:=(tr.ways xnd).c;refine ⟨_,rfl,p,6,rfl,mi.pn,by decide,by decide,fun d H2 P2 k2 d0 d1=>?_⟩;have mi2:=mi.step P2 k2;clear mi P2 k2;refine ⟨_,rfl,_,_,rfl,rfl,.inr ⟨_,rfl,?_⟩⟩;have i01:∀ b:Bool,(if b=true then (1:Int) else 0)=0\/(if b=true then (1:Int) else 0)=1:=fun b=>by cases b <;> simp
   have i1:=i01 (decide (1 < sh));generalize (if decide (1 < sh)=true then (1:Int) else 0)=i at i1;have mb:0<=d * i/\d * i<=5:=by rcases i1 with rfl | rfl <;> lia
   exists _,_,rfl,rfl,.inl ⟨by lia,by lia⟩,_,rfl,by lia,by lia
   generalize d * i=m at mb;refine CG (lo:=0) (fun j σ H'=>∃ (v4 v5 v6 v7:Option V) (us:List AG),σ=[some (.ref p),some (.ref e),some (.int sh),some (.ref D),v4,v5,v6,v7]/\M5 K H H' p e D xs us/\us.length<=26 + j/\Fb xs us/\∀ u ∈ us,u.2.2 < 10 ^ 30)
    ⟨_,_,_,_,us,rfl,mi2,by lia,wc,SJ⟩ ?_ ?_
   ·rintro j σ H' hj ⟨v4,v5,v6,v7,us,rfl,mi,ul,wc,SJ⟩;have xl0:(0:Int) < ((xs.map V.str).length:Int):=by rw [ZM]; lia
    have xlB:((xs.map V.str).length:Int) < 1073741824:=by rw [ZM]; lia
    refine ⟨_,rfl,_,rfl,_,rfl,e,_,rfl,.inl (AB.of mi.he),p,_,rfl,mi.pn,xl0,xlB,fun g H3 P3 k3 g0 g1=>?_⟩;rw [ZM] at g1;have W2:=mi.step P3 k3;obtain ⟨gn,rfl⟩:∃ n:Nat,g=n:=⟨g.toNat,by lia⟩
    have hgn:gn < xs.length:=by lia
    have eg:ik[gn]? = some (.str xs[gn]):=by rw [ZV,ZN hgn]; rfl
    exists e,_,_,_,rfl,rfl,AB.of W2.he,BE eg;refine ⟨_,rfl,_,rfl,_,rfl,e,_,rfl,.inl (AB.of W2.he),p,_,rfl,W2.pn,xl0,xlB,fun h H4 P4 k4 h0 h1=>?_⟩;rw [ZM] at h1;have Wz:=W2.step P4 k4;obtain ⟨hn,rfl⟩:∃ n:Nat,h=n:=⟨h.toNat,by lia⟩
    have hhn:hn < xs.length:=by lia
    have eh:ik[hn]? = some (.str xs[hn]):=by rw [ZV,ZN hhn]; rfl
    refine ⟨e,_,_,_,rfl,rfl,AB.of Wz.he,BE eh,ge,fun T2 OH=>?_⟩;have mx:xs[gn] ∈ xs:=bh hgn;have my:xs[hn] ∈ xs:=bh hhn;generalize xs[gn]=x at mx;generalize xs[hn]=y at my;refine ⟨T2,x,y,rfl,Ab,fun l hl=>⟨l,_,rfl,.inl ⟨AB.of Ab,fun T3 Zm=>?_⟩⟩⟩;have SM:=((Wz.add OH (.lst [.str x,.str y])).add hl (.lst [.str (AY x y),.str (AZ x y)])).add Zm (.tup [.str (AY x y),.str (AZ x y)]);have hk:(upd (upd (upd H4 T2 (.lst [.str x,.str y])) l (.lst [.str (AY x y),.str (AZ x y)])) T3 (.tup [.str (AY x y),.str (AZ x y)])) T3=some (.tup [.str (AY x y),.str (AZ x y)]):=Ab;generalize upd (upd (upd H4 T2 (.lst [.str x,.str y])) l (.lst [.str (AY x y),.str (AZ x y)])) T3 (.tup [.str (AY x y),.str (AZ x y)])=H6 at SM hk;exists _,rfl,T3,_,_,_,rfl,rfl,AI.of hk,rfl,_,rfl,T3,_,_,_,rfl,rfl,AI.of hk,rfl,rfl,_,rfl;have stay:∀ v4 v5 v6 v7:Option V,∃ (v4' v5' v6' v7':Option V) (us:List AG),[some (.ref p),some (.ref e),some (.int sh),some (.ref D),v4,v5,v6,v7]=[some (.ref p),some (.ref e),some (.int sh),some (.ref D),v4',v5',v6',v7']/\M5 K H H6 p e D xs us/\us.length<=26 + (j + 1)/\Fb xs us/\∀ u ∈ us,u.2.2 < 10 ^ 30:=fun v4 v5 v6 v7=>⟨_,_,_,_,us,rfl,SM,by lia,wc,SJ⟩
    refine BB (fun z1=>?_) (fun _=>GK (stay _ _ _ _));have ne:x ≠ y:=by
     intro z;subst z;simp [AY,AZ] at z1
    exists _,rfl,_,rfl,D,_,rfl,BQ.t (k:=DW (x,y,1)) SM.hw hk,_,rfl;refine BB (fun z2=>?_) (fun _=>stay _ _ _ _);refine ⟨_,rfl,p,rfl,SM.pn,fun le H7 P7 k7 l1 l30=>?_⟩;have mi7:=SM.step P7 k7;have hk7:=EB SM.pn k7 _ _ hk;have no:∀ u ∈ us,¬ Ea u (x,y,le):=fun u YV al=>Ta (x:=(x,y,1)) (by simpa using z2) u YV al
    have pn:=Oq no;exists _,rfl,_,rfl,D,_,rfl,DZ.t (k:=DW (x,y,le)) mi7.hw hk7 (by rw [ZM]; lia);rw [show V.int le=V.int (x,y,le).2.2 from rfl,pn];refine ⟨_,_,_,_,us ++ [(x,y,le)],rfl,mi7.put _,by rw [ZQ]; simp; lia,OV wc mx my ne l1 no,fun u hu=>?_⟩;rcases ak.mp hu with hu | hu
    ·exact SJ u hu
    ·rw [aa.mp hu]; exact l30
   ·rintro σ H' ⟨v4,v5,v6,v7,us,rfl,mi,ul,wc,SJ⟩;exact kE _ H H' p e D xs us _ _ _ _ _ mi wc ad SJ xnd xnm x26 fun H' m ps ws a b c d=>k H' m ps ws a b c d
end
section
variable {P:Program} {w:World} {K:ZP} {mg:Str->Option Value} {base:Heap}
theorem Em (h_len:mg "len"=none) (h_range:mg "range"=none) {fT:Addr} {fdT:FuncData} (XT:Fn K mg "_law_take" AL ["_law_pen","_law_many"] fT fdT) (GT:AH P w K mg base BK 1 fT fdT ["_law_pen","_law_many"] (Dc K)) {f:Addr} {fd:FuncData} (F:E4 K "_law_names" "_law_names" Cy f fd):AH P w K mg base BK 2 f fd ["_law_pen","_law_many"] (Gb K):=by
 refine F.ok Gf gP ca
 ·obtain ⟨p,n,rfl,_⟩:=h;rfl
 ·obtain ⟨p,n,rfl,hP,hn,k⟩:=h;have nd:=Gf.nd;have big:100000 < sizeLine:=by decide
  refine ⟨_,(Ae (Am (i:=2) nd rfl (Or.inr rfl) CD)
  (Ae (Am (i:=3) nd rfl (Or.inl rfl) am)
  (Ae (Am (i:=4) nd rfl (Or.inl rfl) (EI PySem.F.plainAttrs_str PySem.F.slot_str_join PySem.F.type_str_join TL CD (Aa (Bs (N:=["_law_k","_law_pen","_law_letters"]) rfl CU (CJ [none,some 0,some 2]) (C0 ci h_range (Aa am Ad))
   (fun s2 H C fp=>⟨(Ah (i:=0) (show (["_law_k","_law_pen","_law_letters"]:List Str).Nodup by decide +kernel) rfl ga),Bc,(A4 Sg (pv 2) (Ak GT (hr.mono bi) ci XT.mg XT.F.kp XT.b .nil Aw (Aa (pv 1) (Aa Ag Ad))) ce)⟩)) Ad)))
  (Ae (Am (i:=5) nd rfl (Or.inl rfl) (Ak GT (hr.mono bi) ci XT.mg XT.F.kp XT.b .nil Aw (Aa (pv 0) (Aa (Ax Bj (Al G2 ci h_len PySem.boot_len (Aa (pv 4) Ad)) Ag) Ad))))
  (Ae (Am (i:=6) nd rfl (Or.inl rfl) am)
  (Ae (Am (i:=7) nd rfl (Or.inl rfl) (Bi Ad))
  (Ae (Bp PassesOwn.never rfl (C0 ci h_range (Aa (pv 1) Ad)) (Ah (i:=8) nd rfl ga)
  (Ae (Am (i:=9) nd rfl (Or.inl rfl) (A4 Sg (pv 2) (Ax Dn (Ax Bj (pv 3) (Ax DI Ag (pv 8))) Ag) ce))
  (Aj (CP (EI PySem.F.plainAttrs_list PySem.F.slot_list_append PySem.F.type_list_append BG (pv 7) (Aa (Ax El (Ax El (Ax El (Gm (pv 4) Ou (Ot (pv 5))) (pv 9)) (Gm (pv 4) (Ot (pv 5)) Ou)) (Ax RP CD (Ax DI (pv 6) (Ax Dn (pv 8) Ag)))) Ad))))))
  (Aj (AJ (pv 7)))))))))),?_⟩
  refine ⟨_,rfl,p,26,rfl,hP,by decide,by decide,fun st H0 P0 k0 Io st1=>?_⟩;refine ⟨rfl,_,rfl,p,5,rfl,P0,by decide,by decide,fun d H1 P1 k1 da db=>⟨_,rfl,by lia,by lia,?_⟩⟩;have q1:=k0.trans k1;refine LO (n:=d.toNat) (fun D i σ H' acc=>∃ (v0:Option V) (ss:List Str),σ=[v0,some (.ref p),some (.str Gu)]/\Dx K H' p/\Bl p H1 H'/\H' D=some h9/\acc=ss.map V.str/\acc.length=i/\∀ s ∈ ss,s.length=1/\Ux s)
   (by lia) (fun D hD=>⟨_,[],rfl,P1.same (Ac hD),Bl.of_same (Ac hD),Ab,rfl,rfl,fun s hs=>nomatch hs⟩) (fun D i σ H' acc hD ⟨v0,ss,_,_,_,AO,_,al,_⟩=>⟨AO,al⟩) ?_ ?_
  ·rintro D i σ H' acc B hD hi ⟨v0,ss,rfl,P2,q2,AO,ea,al,lo⟩ hB;have nD:=P1.ne hD;refine ⟨_,rfl,_,rfl,p,26,rfl,P2,by decide,by decide,fun e H3 P3 k3 Z3 Ym=>?_⟩;have lc:=Hv _ (S5 (En Z3 Ym));have F5:=k3 _ _ nD AO;exists _,_,_,rfl,rfl,by decide,En Z3 Ym
   refine hB _ _ _ F5 ⟨_,ss ++ [⟨#[97 + e.toNat]⟩],rfl,P3.other F5 nD,fun b' o hb z=>?_,Ab,by rw [ea,ZY]; rfl,by rw [ZQ,al]; rfl,fun s hs=>?_⟩
   ·rw [Af (Ai z hD)];exact k3 _ _ hb (q2 b' o hb z)
   ·rcases ak.mp hs with hs | hs
    ·exact lo s hs
    ·rw [aa] at hs;subst hs;refine ⟨rfl,fun c hc=>?_⟩;have:c=97 + e.toNat:=by simpa using hc
     subst this;exact lc
  rintro D0 σ0 H2 acc hD0 ⟨v0,ss,rfl,P2,q2,AO,ea,al,lo⟩;obtain ⟨j1,j2,j3⟩:=Se lo;have sl:ss.length=d.toNat:=by rw [<-al,ea,ZM]
  exists _,D0,ss,rfl,rfl,by rw [AO,ea],by decide,by lia
  generalize Txt.join (Str.ofString "") ss=bs at j1 j2;have bl:bs.length<=4:=by lia
  refine ⟨_,rfl,_,rfl,bs,rfl,by lia,_,_,rfl,rfl,p,_,rfl,P2,by lia,by lia,fun at' H3 P3 k3 at0 Yr=>?_⟩;refine ⟨_,rfl,p,2,rfl,P3,by decide,by decide,fun mo H5 P5 k5 mo0 WX=>?_⟩;have q5:Bl p H H5:=((q1.trans q2).trans k3).trans k5;refine ⟨(by show 0<=sizeLine; lia),fun D hD=>?_⟩;have nD:D ≠ p:=P5.ne hD;have fD:H D=none:=by
   cases z:H D with
   | none=>rfl
   | some o=>rw [q5 _ _ nD z] at hD; cases hD
  have spm:(7:Int) ∈ ([1,3,5,7,9,11,15,17]:List Int):=by simp
  exists _,rfl,n,rfl,by lia,by lia
  refine CG (n:=n) (lo:=0) (fun j σ H'=>∃ (xs:List Str) (v9 v10:Option V),σ=[some (.ref p),some (.int n),some (.str Gu),some (.int st),some (.str bs),some (.int at'),some (.int mo),some (.ref D),v9,v10]/\H'=upd H5 D (.lst ik)/\xs.length=j/\(∀ x ∈ xs,Bq x=true)/\∀ (i:Nat) x,xs[i]? = some x->∃ tl,x.cps.toList=(Txt.slice bs none (some at')).cps.toList ++ (PR n st 7 i ++ tl))
   ⟨[],_,_,rfl,rfl,rfl,(fun x hx=>nomatch hx),(fun i x e=>by simp at e)⟩ ?_ ?_
  ·rintro j σ H' hj ⟨xs,v9,v10,rfl,rfl,xl,nm,sh⟩;have r0:0<=(st + 7 * (0 + (j:Int))) % 26:=bL _ bi;have r1:(st + 7 * (0 + (j:Int))) % 26 < 26:=bW _ bi;exists _,rfl,_,rfl,_,rfl,_,_,rfl,rfl,.inl ⟨by decide,by decide⟩,_,_,rfl,rfl,_,_,rfl,rfl,(by show (0:Int) < 26; decide),_,_,_,rfl,rfl,by decide,En r0 r1
   have lc:=Hv _ (S5 (En r0 r1));have s1:=Rp (z:=bs) at0 ad;have s2:=MN (z:=bs) at0 ad;have w1:=Kd (z:=bs) none (some at') j1;have w2:=Kd (z:=bs) (some at') none j1;have dD:(upd H5 D (.lst ik)) D=some (.lst ik):=Ab;have m01:mo * ((0 + (j:Int)) % 2)=0\/mo * ((0 + (j:Int)) % 2)=1:=by
    have e1:mo=0\/mo=1:=by lia
    have e2:(0 + (j:Int)) % 2=0\/(0 + (j:Int)) % 2=1:=by lia
    rcases e1 with rfl | rfl <;> rcases e2 with e2 | e2 <;> rw [e2] <;> simp
   have hz:∀ z:Str,z=(if mo * ((0 + (j:Int)) % 2)=1 then Str.ofString "z" else Str.empty)->z.length<=1/\Ux z:=fun z e=>by
    subst e;split
    ·refine ⟨by decide,fun c hc=>?_⟩;have e:(Str.ofString "z").cps.toList=[122]:=by decide +kernel
     rw [e,aa] at hc;subst hc;decide
    ·exact ⟨by decide,fun c hc=>by cases hc⟩
   obtain ⟨zz,ezz⟩:∃ zz,zz=(if mo * ((0 + (j:Int)) % 2)=1 then Str.ofString "z" else Str.empty):=⟨_,rfl⟩
   obtain ⟨z1,z2⟩:=hz zz ezz;have fin:∀ (x:Str),x=Txt.slice bs none (some at') ++ ⟨#[97 + ((st + 7 * (0 + (j:Int))) % 26).toNat]⟩ ++ Txt.slice bs (some at') none ++ zz->Bq x=true/\∃ tl,x.cps.toList=(Txt.slice bs none (some at')).cps.toList ++ (PR n st 7 j ++ tl):=fun x e=>by
    have ec:x.cps.toList=(Txt.slice bs none (some at')).cps.toList ++ ([97 + ((st + 7 * (0 + (j:Int))) % 26).toNat] ++ ((Txt.slice bs (some at') none).cps.toList ++ zz.cps.toList)):=by
     rw [e,Str.cps_append,Str.cps_append,Str.cps_append,dF,dF,dF,aX,aX]
    have el:x.length=(Txt.slice bs none (some at')).length + 1 + (Txt.slice bs (some at') none).length + zz.length:=by
     rw [e,Str.length_append,Str.length_append,Str.length_append];rfl
    exists RW ad ad fun c hc=>?_
    ·rw [ec,ak,ak,ak,aa] at hc;rcases hc with hc | hc | hc | hc
     ·exact w1 c hc
     ·rw [hc]; exact lc
     ·exact w2 c hc
     ·exact z2 c hc
    ·exists (Txt.slice bs (some at') none).cps.toList ++ zz.cps.toList;rw [ec];unfold PR;rw [if_neg ad,e9]
   exists _,rfl,.inl ⟨rfl,_,AB.of dD⟩,_,rfl,_,rfl,_,rfl,bs,rfl,by lia,_,rfl,_,_,rfl,rfl,?_,_,rfl,_,rfl,_,rfl,bs,rfl,by lia,_,_,rfl,rfl,?_,_,rfl,_,rfl,_,_,rfl,rfl,(by show (0:Int) < 2; decide),_,_,rfl,rfl,.inl ⟨by lia,by lia⟩,_,_,rfl,rfl,m01,_,_,rfl,rfl,?_,D,_,_,rfl,rfl,dD,(by rw [ZM]; lia)
   ·show (Txt.slice bs none (some at')).length + 1<=sizeLine
    lia
   ·rw [Str.length_append];show (Txt.slice bs none (some at')).length + 1 + _<=sizeLine
    lia
   ·rw [<-ezz,Str.length_append,Str.length_append];show (Txt.slice bs none (some at')).length + 1 + _ + _<=sizeLine
    lia
   rw [<-ezz];obtain ⟨f1,f2⟩:=fin _ rfl;refine ⟨xs ++ [_],_,_,rfl,by rw [KN,ZY]; rfl,by rw [ZQ,xl]; rfl,fun x hx=>?_,fun i x e=>?_⟩
   ·rcases ak.mp hx with hx | hx
    ·exact nm x hx
    ·rw [aa.mp hx];exact f1
   ·by_cases hi:i < xs.length
    ·rw [aI hi] at e;exact sh i x e
    ·have VS:i=j:=by
      have:=(ZT.mp e).1;rw [ZQ,aZ] at this;lia
     subst VS;rw [aG ad,xl,cF,b0] at e;rw [<-ar.inj e];exact f2
  ·rintro σ H' ⟨xs,v9,v10,rfl,rfl,xl,nm,sh⟩;exact ⟨_,rfl,k _ D xs (P5.same (Ac hD)) (fun b' o hb z=>by rw [Af (Ai z fD)]; exact q5 _ _ hb z) fD Ab xl (Mh sh fun i j hij hj tl Vk=>V8 ad spm hij ad tl Vk) nm⟩
end
section
variable {P:Program} {w:World} {K:ZP} {mg:Str->Option Value} {base:Heap}
theorem DJ (h_int:mg "int"=none) {fT:Addr} {fdT:FuncData} (XT:Fn K mg "_law_take" AL ["_law_pen","_law_many"] fT fdT) (GT:AH P w K mg base BK 1 fT fdT ["_law_pen","_law_many"] (Dc K)) {f:Addr} {fd:FuncData} (F:E4 K "_law_length" "_law_length" C6 f fd):AH P w K mg base BK 2 f fd ["_law_pen"] (ML K):=by
 refine F.ok Fw gP ca
 ·obtain ⟨p,rfl,_⟩:=h;rfl
 ·obtain ⟨p,rfl,hP,k⟩:=h;have nd:=Fw.nd;have big:100000 < sizeLine:=by decide
  refine ⟨_,(Ae (Am (i:=1) nd rfl (Or.inl rfl) am)
  (Ae (Dm (By Hs (pv 1) Ag (BI _))
  (Aj (AJ (Ax Bj Ag am)))
  BH)
  (Ae (Dm (By Hs (pv 1) Ag (BI _))
  (Aj (AJ (Ax Bj Ag am)))
  BH)
  (Aj (AJ (Ax Bj (Ay JJ ci h_int PyProof.Rows.boot_int (Aa (Ax El CD (Ax T6 CD am)) Ad)) am)))))),?_⟩
  have ten:(100:Int) < 10 ^ 30:=by decide
  refine ⟨_,rfl,p,12,rfl,hP,by decide,by decide,fun d H1 P1 k1 d0 d1=>?_⟩;exists _,rfl,_,_,rfl,rfl,_,rfl;refine BB (fun _=>?_) (fun _=>?_)
  ·exact ⟨_,rfl,p,3,rfl,P1,by decide,by decide,fun e H2 P2 k2 e0 e1=>⟨_,_,rfl,rfl,k _ H2 P2 (k1.trans k2) ad ad⟩⟩
  exists _,rfl,_,_,rfl,rfl,_,rfl;refine BB (fun _=>?_) (fun _=>?_)
  ·exact ⟨_,rfl,p,30,rfl,P1,by decide,by decide,fun e H2 P2 k2 e0 e1=>⟨_,_,rfl,rfl,k _ H2 P2 (k1.trans k2) ad ad⟩⟩
  refine ⟨_,rfl,p,30,rfl,P1,by decide,by decide,fun e H2 P2 k2 e0 e1=>?_⟩;obtain ⟨n,rfl⟩:∃ n:Nat,e=(n:Int):=⟨e.toNat,by lia⟩
  have hn:n < 30:=by lia
  have it:=OE ⟨n,hn⟩;have l1:(Str.ofString "1").length=1:=by decide +kernel
  have zl:(JM n).length=n:=it.2;refine ⟨n,rfl,rfl,hn,_,_,rfl,rfl,ad,_,_,rfl,it.1,(by rw [Str.length_append,l1,zl]; lia),_,rfl,p,10,rfl,P2,by decide,by decide,fun e2 H3 P3 k3 e20 e21=>⟨_,_,rfl,rfl,k _ H3 P3 (k1.trans (k2.trans k3)) ?_ ?_⟩⟩
  ·have:(1:Int)<=10 ^ n:=(QU ⟨n,hn⟩).1;show 1<=(10:Int) ^ n + e2
   lia
  ·have h1:(10:Int) ^ n + 10<=10 ^ 30:=(QU ⟨n,hn⟩).2;show (10:Int) ^ n + e2 < 10 ^ 30
   lia
theorem Ma (h_len:mg "len"=none) (h_list:mg "list"=none) (h_range:mg "range"=none) (h_sorted:mg "sorted"=none) {fT:Addr} {fdT:FuncData} (XT:Fn K mg "_law_take" AL ["_law_pen","_law_many"] fT fdT) (GT:AH P w K mg base BK 1 fT fdT ["_law_pen","_law_many"] (Dc K)) {f:Addr} {fd:FuncData} (F:E4 K "_law_some" "_law_some" Ee f fd):AH P w K mg base BK 2 f fd ["_law_pen","_law_names_here","_law_many"] (NY K):=by
 refine F.ok Hi gP ca
 ·obtain ⟨p,e,xs,m,rfl,_⟩:=h;rfl
 ·obtain ⟨p,e,xs,m,rfl,P0,he,nep,x30,mx,k⟩:=h;have nd:=Hi.nd;have big:100000 < sizeLine:=by decide
  refine ⟨_,(Ae (Am (i:=3) nd rfl (Or.inl rfl) (Ay Gz ci h_list PyProof.Rows.boot_list (Aa (pv 1) Ad)))
  (Ae (Am (i:=4) nd rfl (Or.inl rfl) (Bi Ad))
  (Ae (Bp PassesOwn.never rfl (C0 ci h_range (Aa (pv 2) Ad)) (Ah (i:=5) nd rfl ga)
  (Aj (CP (EI PySem.F.plainAttrs_list PySem.F.slot_list_append PySem.F.type_list_append BG (pv 4) (Aa (EI PySem.F.plainAttrs_list PySem.F.slot_list_pop PySem.F.type_list_pop RX (pv 3) (Aa (Ak GT (hr.mono bi) ci XT.mg XT.F.kp XT.b .nil Aw (Aa (pv 0) (Aa (Al (A8 K rfl) ci h_len PySem.boot_len (Aa (pv 3) Ad)) Ad))) Ad)) Ad)))))
  (Aj (AJ (Al Ci ci h_sorted PyProof.Rows.boot_sorted (Aa (pv 4) Ad))))))),?_⟩
  refine ⟨_,rfl,e,_,rfl,.inl (AB.of he),fun PL hPL=>?_⟩;have s0:=Ac (o:=.lst ik) hPL;have nPL:PL ≠ p:=P0.ne hPL;have P1:=P0.same s0;have hPP:(upd H PL (.lst ik)) PL=some (.lst ik):=Ab;generalize upd H PL (.lst ik)=H1 at s0 P1 hPP ⊢;refine ⟨(by show 0<=sizeLine; lia),fun D hD=>?_⟩;have s1:=Ac (o:=.lst []) hD;have AO:(upd H1 D iF) D=some iF:=Ab;have nD:D ≠ p:=P1.ne hD;have nDP:D ≠ PL:=fun z=>by rw [z,hPP] at hD; cases hD
  have P2:=P1.same s1;have frD:H D=none:=s0.free hD;generalize upd H1 D iF=H2 at s1 AO P2 ⊢;refine ⟨_,rfl,m,rfl,by lia,by lia,CG (n:=m) (fun i σ H'=>∃ (v5:Option V) (ys left:List Str),σ=[some (.ref p),some (.ref e),some (.int (m:Int)),some (.ref PL),some (.ref D),v5]/\Dx K H' p/\(∀ b o,b ≠ p->H b=some o->H' b=some o)/\H' PL=some (.lst (left.map V.str))/\H' D=some (.lst (ys.map V.str))/\ys.length=i/\(ys ++ left).Perm xs)
   ⟨_,[],xs,rfl,P2,fun b o _ z=>s1 _ _ (s0 _ _ z),s1 _ _ hPP,AO,rfl,List.Perm.refl _⟩ ?_ (fun σ H' hP=>?_)⟩
  ·rintro i σ H3 hi ⟨v5,ys,left,rfl,P3,k3,h3,F5,yl,pm⟩;have ll:ys.length + left.length=xs.length:=by rw [<-ZQ]; exact pm.length_eq
   refine ⟨_,rfl,.inl ⟨rfl,_,AB.of F5⟩,_,rfl,.inl ⟨rfl,_,AB.of h3⟩,_,rfl,_,rfl,PL,_,rfl,.inl (AB.of h3),p,_,rfl,P3,?_,?_,fun e' H4 P4 k4 Z3 Ym=>?_⟩
   ·rw [ZM]; lia
   ·rw [ZM]; lia
   rw [ZM] at Ym;obtain ⟨q,rfl⟩:∃ q:Nat,e'=(q:Int):=⟨e'.toNat,by lia⟩
   have hq:q < left.length:=by lia
   have hget:left[q]? = some left[q]:=ZN hq;have h4:=k4 _ _ nPL h3;have Lp:=k4 _ _ nD F5;exists PL,_,_,q,.str left[q],rfl,rfl,h4,by lia,by lia,?_,by rw [ZV,hget]; rfl
   ·rw [ZM];exact (Lm (by show Ua left.length (q:Int)=some q; unfold Ua; rw [if_pos ad,if_pos ad]; rfl)).1
   rw [Ks];have P5:=P4.other (zs:=(left.eraseIdx q).map V.str) h4 nPL;have HR:(upd H4 PL (.lst ((left.eraseIdx q).map V.str))) D=some (.lst (ys.map V.str)):=by rw [Af nDP]; exact Lp
   exists D,_,_,rfl,rfl,HR,by rw [ZM]; lia
   exists _,ys ++ [left[q]],left.eraseIdx q,rfl,P5.other HR nD,fun b' o hb z=>?_,?_,by rw [Ab,ZY]; rfl,by rw [ZQ,yl]; rfl
   ·rw [Af (Ai z frD),Af (Ai z hPL)];exact k4 _ _ hb (k3 b' o hb z)
   ·rw [Af nDP.symm];exact Ab
   ·refine List.Perm.trans ?_ pm;rw [aX];exact List.Perm.append_left _ (E3 hget)
  ·obtain ⟨v5,ys,left,rfl,P3,k3,h3,F5,yl,pm⟩:=hP;have ll:ys.length + left.length=xs.length:=by rw [<-ZQ]; exact pm.length_eq
   refine ⟨_,rfl,D,ys,rfl,AB.of F5,by lia,fun l ss hl T4 srt=>?_⟩;have sl:=Ac (o:=.lst ic) hl;exact k _ l ss left (P3.same sl) (fun b o hb z=>sl _ _ (k3 b o hb z)) (by
    cases z:H l with
    | none=>rfl
    | some o=>
     by_cases hb:l=p
     ·subst hb;obtain ⟨_,_,_,_,q,_⟩:=P3;rw [q] at hl;cases hl
     ·rw [k3 l o hb z] at hl;cases hl) Ab ((T4.append_right left).trans pm) (by rw [T4.length_eq]; exact yl) srt
end
section
variable {P:Program} {w:World} {K:ZP} {mg:Str->Option Value} {base:Heap}
theorem takeB {f:Addr} {cdv:Value} {A:Around} {outer:List Env} {s:Shared} {H:Hp} {E:XK} :
  ∃ tl,M8 (JH BK P w K mg base ["_law_pen","_law_many","_law_place","_law_cell","_law_number","_law_digit"] "_law_take" (Ao AL) f cdv A outer s H E).nox ((Ct AL).drop 1) tl /\
   ∀ (W:Fe) (H6:Hp) (p a:Addr) (ns:List Int) (i l m:Int) (v2 v3 v4 v5:Option V),H6 p=some (.lst (Lb a i l))->NC K H6 a (ns.map V.int)->ns.length<=63->0<=i->0<=l->0 < m->m < 1073741824->(∀ (d:Int) (H':Hp),Dx K H' p->Bl p H6 H'->0<=d->d < m->W.rt (.int d) H')->tl W [some (.ref p),some (.int m),v2,v3,v4,v5] H6:=by
 have nd:=CT.nd;refine ⟨_,(Ae (Am (i:=5) nd rfl (Or.inl rfl) (Ax Dn (A4 iK (pv 0) Ag ce) (pv 1)))
  (Ae (EH (Ax O2 (A4 iK (pv 0) Ag ce) (pv 1)) (Nc (pv 0) Ag Ir))
  (Aj (AJ (pv 5))))),?_⟩
 intro W H6 p a ns i l m v2 v3 v4 v5 hp sc ln i0 l0 hm QA k;have sq:∀ {H':Hp} {a:Addr} {i l:Int},H' p=some (.lst (Lb a i l))->AB K H' p (Lb a i l):=fun h=>.inl (.inl h)
 exists _,rfl,p,_,_,_,rfl,rfl,sq hp,RD _ _ _,_,rfl,_,_,rfl,rfl,hm;exists _,rfl,p,_,_,_,rfl,rfl,sq hp,RD _ _ _,_,rfl,_,_,rfl,rfl,⟨hm,QA⟩,_,rfl,p,_,_,2,rfl,rfl,hp,rfl,_,rfl;exact k _ _ (Dx.put hp sc ln i0 (Int.ediv_nonneg l0 ad)) Bl.upd (bL _ ad) (bW _ hm)
theorem takeD {f:Addr} {cdv:Value} {A:Around} {outer:List Env} {s:Shared} {H:Hp} {E:XK} :
  ∃ tl,M8 (JH BK P w K mg base ["_law_pen","_law_many","_law_place","_law_cell","_law_number","_law_digit"] "_law_take" (Ao AL) f cdv A outer s H E).nox (Nr ((Nr ((Ct AL).getD 0 (.Pass ⟨0,0,0,0⟩))).getD 4 (.Pass ⟨0,0,0,0⟩))) tl /\
   ∀ (W:Fe) (H6:Hp) (p:Addr) (m i c:Int) (v4 v5:Option V),0 < m->0<=i->(∀ d:Int,0<=d->d < m->W.rt (.int d) H6)->tl W [some (.ref p),some (.int m),some (.int i),some (.int c),v4,v5] H6:=by
 have nd:=CT.nd;refine ⟨_,(Ae (Am (i:=4) nd rfl (Or.inl rfl) (Ax Dn (Ax DI (Ax Bj (Ax Bj (Ax Dn (pv 3) Ag) (Ax DI Ag (pv 2))) Ag) Ag) Ag))
  (Ae (Am (i:=4) nd rfl (Or.inl rfl) (Ax Dn (Ax Bj (Ax Bj (Ax DI (pv 4) (pv 4)) (Ax DI Ag (pv 4))) (pv 2)) Ag))
  (Aj (AJ (Ax Dn (Ax O2 (Ax Dn (Ax Bj (Ax Bj (Ax DI (pv 4) (pv 4)) (Ax DI Ag (pv 4))) Ag) Ag) Ag) (pv 1)))))),?_⟩
 intro W H6 p m i c v4 v5 hm i0 k;exists _,rfl,_,_,rfl,rfl,(by show (0:Int) < 2147483629; decide),_,rfl,_,_,rfl,rfl,.inl ⟨by decide,by decide⟩,_,_,rfl,rfl,_,_,rfl,rfl,_,_,rfl,rfl,.inr ⟨by decide,by decide⟩,_,_,rfl,rfl,(by show (0:Int) < 2147483647; decide)
 have h0:0<=(c % 2147483629 + 40503 * i + 977) * 48271 % 2147483647:=bL _ bi;have h1:(c % 2147483629 + 40503 * i + 977) * 48271 % 2147483647 < 2147483647:=bW _ bi;have big:∀ z:Int,0<=z->z < 2147483647->-(2 ^ 64) < z/\z < 2 ^ 64:=fun z a b=>⟨cB (b:=0) bi a,eZ b bi⟩
 exists _,rfl,_,rfl,_,_,rfl,rfl,.inl (big _ h0 h1),_,rfl,_,_,rfl,rfl,.inl ⟨by decide,by decide⟩,_,_,rfl,rfl,_,rfl,_,_,rfl,rfl,_,_,rfl,rfl,(by show (0:Int) < 2147483587; decide)
 obtain ⟨u,eu,u0,u1⟩:∃ u:Int,((c % 2147483629 + 40503 * i + 977) * 48271 % 2147483647 * ((c % 2147483629 + 40503 * i + 977) * 48271 % 2147483647) + 69621 * ((c % 2147483629 + 40503 * i + 977) * 48271 % 2147483647) + i) % 2147483587=u/\0<=u/\u < 2147483647:=⟨_,rfl,bL _ bi,eZ (bW _ bi) bi⟩
 exists _,rfl,_,rfl,_,_,rfl,rfl,.inl (big _ (by rw [eu]; exact u0) (by rw [eu]; exact u1)),_,rfl,_,_,rfl,rfl,.inl ⟨by decide,by decide⟩,_,_,rfl,rfl,_,_,rfl,rfl,_,_,rfl,rfl,(by show (0:Int) < 2147483563; decide),_,_,rfl,rfl,⟨by decide,by decide⟩,_,rfl,_,_,rfl,rfl,hm;exact k _ (bL _ ad) (bW _ hm)
theorem takeC (h_len:mg "len"=none) {f:Addr} {cdv:Value} {A:Around} {outer:List Env} {s:Shared} {H:Hp} {E:XK} :
  ∃ tl,M8 (JH BK P w K mg base ["_law_pen","_law_many","_law_place","_law_cell","_law_number","_law_digit"] "_law_take" (Ao AL) f cdv A outer s H E).nox ((Nr ((Ct AL).getD 0 (.Pass ⟨0,0,0,0⟩))).drop 4) tl /\
   ∀ (W:Fe) (H6:Hp) (p a:Addr) (ns:List Int) (i l m c:Int) (v4 v5:Option V),H6 p=some (.lst (Lb a gt l))->NC K H6 a (ns.map V.int)->ns.length<=63->0<=i->0<=l->0 < m->m < 1073741824->0<=c->(∀ d:Int,0<=d->d < m->W.rt (.int d) H6)->(∀ (c':Int) (v4:Option V),0<=c'->W.nx [some (.ref p),some (.int m),some (.int i),some (.int c),v4,v5] (upd H6 p (.lst (Lb a gt c'))))->tl W [some (.ref p),some (.int m),some (.int i),some (.int c),v4,v5] H6:=by
 have nd:=CT.nd;obtain ⟨tlD,htD,rdD⟩:=takeD (P:=P) (w:=w) (K:=K) (mg:=mg) (base:=base) (f:=f) (cdv:=cdv) (A:=A) (outer:=outer) (s:=s) (H:=H) (E:=E);refine ⟨_,(Ae (Dm (LS (By op_ge (pv 2) (Al (A8 K rfl) ci h_len PySem.boot_len (Aa (A4 iK (pv 0) Ag ce) Ad)) (BI _)) (Iy (By Hs (pv 3) (Ax Nf Ag Ag) (BI _)))).pt
  htD
  BH)
  (Aj (EH (pv 3) (Nc (pv 0) Ag Ir)))),?_⟩
 intro W H6 p a ns i l m c v4 v5 hp sc ln i0 l0 hm QA c0 kr kn;have sq:∀ {H':Hp} {a:Addr} {i l:Int},H' p=some (.lst (Lb a i l))->AB K H' p (Lb a i l):=fun h=>.inl (.inl h)
 exists _,rfl,_,rfl,p,_,_,_,rfl,rfl,sq hp,Ov _ _ _,a,_,rfl,.inl sc.sq,_,_,rfl,rfl,_,rfl;refine BB (fun _=>rdD _ H6 p m i c v4 v5 hm i0 kr) (fun _=>?_);exists _,rfl,_,_,rfl,rfl,⟨by decide,by decide,by decide⟩,_,_,rfl,rfl,_,rfl;refine BB (fun _=>rdD _ H6 p m i c v4 v5 hm i0 kr) (fun _=>?_);exists _,rfl,_,rfl,p,_,_,2,rfl,rfl,hp,rfl;exact kn c _ c0
theorem AS (h_abs:mg "abs"=none) (h_len:mg "len"=none) {f:Addr} {fd:FuncData} (F:E4 K "_law_take" "_law_take" AL f fd):AH P w K mg base BK 1 f fd ["_law_pen","_law_many"] (Dc K):=by
 refine F.ok CT gP ca
 ·obtain ⟨p,m,rfl,_⟩:=h;rfl
 ·obtain ⟨p,m,rfl,⟨a,ns,i,l,hp,sc,ln,i0,l0⟩,hm,QA,k⟩:=h;have nd:=CT.nd;have big:100000 < sizeLine:=by decide
  obtain ⟨tlC,htC,rdC⟩:=takeC (P:=P) (w:=w) (K:=K) (mg:=mg) (base:=base) h_len (f:=f) (cdv:=cdv) (A:=A) (outer:=outer) (s:=s) (H:=H) (E:=E);obtain ⟨tlB,htB,rdB⟩:=takeB (P:=P) (w:=w) (K:=K) (mg:=mg) (base:=base) (f:=f) (cdv:=cdv) (A:=A) (outer:=outer) (s:=s) (H:=H) (E:=E);refine ⟨_,(Ae (Dm (By RQ (A4 iK (pv 0) Ag ce) Ag (BI _))
  (Ae (Am (i:=2) nd rfl (Or.inl rfl) (A4 iK (pv 0) Ag ce))
  (Ae (EH (Ax Bj (pv 2) Ag) (Nc (pv 0) Ag Ir))
  (Ae (Am (i:=3) nd rfl (Or.inl rfl) Ag)
  (Ae (Dm (By UI (Al (A8 K rfl) ci h_len PySem.boot_len (Aa (A4 iK (pv 0) Ag ce) Ad)) Ag (BI _))
  (Aj (Am (i:=3) nd rfl (Or.inl rfl) (Al S4 ci h_abs PyProof.Rows.boot_abs (Aa (A4 iK (A4 iK (pv 0) Ag ce) (Ax Dn (pv 2) (Al (A8 K rfl) ci h_len PySem.boot_len (Aa (A4 iK (pv 0) Ag ce) Ad))) ce) Ad))))
  BH)
  htC))))
  BH)
  htB),?_⟩
  have sq:∀ {H':Hp} {a:Addr} {i l:Int},H' p=some (.lst (Lb a i l))->AB K H' p (Lb a i l):=fun h=>.inl (.inl h)
  exists _,rfl,p,_,_,_,rfl,rfl,sq hp,RD _ _ _,rfl,_,rfl;refine BB (fun z0=>?_) (fun _=>rdB _ H p a ns i l m _ _ _ _ hp sc ln i0 l0 hm QA k);exists _,rfl,p,_,_,_,rfl,rfl,sq hp,pn5_1 _ _ _;exists _,rfl,_,_,rfl,rfl,_,rfl,p,_,_,1,rfl,rfl,hp,rfl;have Xg:(upd H p (.lst (Lb a gt l))) p=some (.lst (Lb a gt l)):=Ab;have WE:NC K (upd H p (.lst (Lb a gt l))) a (ns.map V.int):=sc.keep hp Bl.upd;have fin:∀ (c:Int),0<=c->tlC ⟨fun σ H'=>tlB ⟨fun _ H'=>Q .non H',Q,fun _ _=>False,fun _ _=>False⟩ σ H',Q,fun _ _=>False,fun _ _=>False⟩ [some (.ref p),some (.int m),some (.int i),some (.int c),none,none] (upd H p (.lst (Lb a gt l))):=fun c c0=>by
   refine rdC _ _ p a ns i l m c _ _ Xg WE ln i0 l0 hm QA c0 (fun d d0 d1=>?_) fun c' v4 c0'=>?_
   ·exact k d _ (Dx.put hp sc ln ad l0) Bl.upd d0 d1
   ·refine rdB _ _ p a ns gt c' m _ _ _ _ Ab (WE.keep Xg Bl.upd) ln ad c0' hm QA fun d H' P' k' d0 d1=>k d H' P' ((Bl.upd.trans Bl.upd).trans k') d0 d1
  exists _,rfl,p,_,_,_,rfl,rfl,sq Xg,Ov _ _ _,a,_,rfl,.inl WE.sq,_,_,rfl,rfl,_,rfl;refine BB (fun zl=>?_) (fun _=>fin 0 (b5 _));have zl':0 < ns.length:=by have:=of_decide_eq_true zl; rw [ZM] at this; lia
  have j0:0<=i % ((ns.map V.int).length:Int):=bL _ (by rw [ZM]; lia);have j1:i % ((ns.map V.int).length:Int) < (ns.map V.int).length:=bW _ (by rw [ZM]; lia);obtain ⟨j,ej⟩:∃ j:Nat,i % ((ns.map V.int).length:Int)=(j:Int):=⟨(i % ((ns.map V.int).length:Int)).toNat,by lia⟩
  have jl:j < ns.length:=by rw [ej,ZM] at j1; lia
  exists _,rfl,p,_,_,_,rfl,rfl,sq Xg,Ov _ _ _,_,rfl,_,rfl,p,_,_,_,rfl,rfl,sq Xg,Ov _ _ _,a,_,rfl,.inl WE.sq,_,_,rfl,rfl,(by show (0:Int) < ((ns.map V.int).length:Int); rw [ZM]; lia),a,_,_,.int ns[j],rfl,rfl,WE.sq,(by rw [ej]; exact BE (by rw [ZV,ZN jl]; rfl))
  exists _,rfl;exact fin _ (by first | exact Int.natCast_nonneg _ | exact Int.ofNat_nonneg _ | (split <;> lia))
end
end K43
namespace L2
open PySem PySem.Spec PyProof.Rows
def At (K:ZP) (n:Str) (st:Stmt) (f:Addr) (fd:FuncData):Prop:=bg K mainGlobals n=some (some (.ref f))/\E4 K n n st f fd
section
variable {K:ZP} {h:Heap} {mg:Str->Option Value} {n p q r t u:Str} {st:Stmt} {f:Addr} {fd:FuncData}
theorem at_mk {oc:Value} {od an:Option Addr} {osl:Array (Option Value)} {kV doc pm cdv ct:Value} (a:bg K mainGlobals n=some (some (.ref f))) (l:K.lookup f=some ⟨oc,od,.func (bV n n (Ep st) (Ct st) (Ao st) .none kV doc pm an cdv ct),osl⟩)
  (c:dj K cdv n=true) (k:cz K (.ref f)=true):At K n st f (bV n n (Ep st) (Ct st) (Ao st) .none kV doc pm an cdv ct):=⟨a,VX l c k⟩
abbrev BA (n:Str) (st:Stmt) (us:List Value) (ps:List (Str × Value)):Prop:=∀ (kV doc pm:Value) (an:Option Addr) (cdv ct:Value),bindArgs (bV n n (Ep st) (Ct st) (Ao st) .none kV doc pm an cdv ct) ⟨us,[]⟩=pure ps
theorem SQ (X:K.In h) (G:h.Ns mainGlobals mg) (A:At K n st f fd) (hb:∀ x,BA n st [x] [(p,x)]):Fn K mg n st [p] f fd:=⟨A.2,cT X G A.1,A.2.binds fun _ _ _ _ _ _ us hl=>by obtain ⟨x,rfl⟩:=VG hl; exact hb ..⟩
theorem QD (X:K.In h) (G:h.Ns mainGlobals mg) (A:At K n st f fd) (hb:∀ x y,BA n st [x,y] [(p,x),(q,y)]):Fn K mg n st [p,q] f fd:=⟨A.2,cT X G A.1,A.2.binds fun _ _ _ _ _ _ us hl=>by obtain ⟨x,y,rfl⟩:=len2 hl; exact hb ..⟩
theorem W5 (X:K.In h) (G:h.Ns mainGlobals mg) (A:At K n st f fd) (hb:∀ x y z,BA n st [x,y,z] [(p,x),(q,y),(r,z)]):Fn K mg n st [p,q,r] f fd:=⟨A.2,cT X G A.1,A.2.binds fun _ _ _ _ _ _ us hl=>by obtain ⟨x,y,z,rfl⟩:=len3 hl; exact hb ..⟩
end
end L2
namespace K43
open PySem L2
theorem all_mk {l:e6} {w:World} {K:ZP} {h:Heap} {mg:Str->Option Value} {fa f1 f2 f3 f4 f5 f6 f7 f8 f9 f10 f11 f12 f13 f14 f15 f16 f17 f18 f19 f20 f21 f22 f23 f24 f25 f26 f27 f28 f29:Addr} {d1 d2 d3 d4 d5 d6 d7 d8 d9 Yq X8 d12 d13 d14 d15 d16 d17 d18 d19 d20 Yp d22 d23 d24 d25 d26 d27 d28 d29:FuncData} (X:K.In h) (G:h.Ns mainGlobals mg) (hfa:mg "law"=some (.ref fa))
  (a1:At K "is_name" Fj f1 d1) (a2:At K "are_rising" Dg f2 d2) (a3:At K "is_opening" Df f3 d3) (a4:At K "most_houses" CN f4 d4) (a5:At K "neighbours" Dd f5 d5) (a6:At K "fars" KU f6 d6) (a7:At K "site_fars" Dz f7 d7) (a8:At K "nearest" Fh f8 d8) (a9:At K "costs_of" Eh f9 d9) (a10:At K "bettered" Ei f10 Yq) (a11:At K "better" Gh f11 X8) (a12:At K "outcomes_of" CM f12 d12) (a13:At K "changed" Fl f13 d13) (a14:At K "_law_take" AL f14 d14) (a15:At K "_law_names" Cy f15 d15) (a16:At K "_law_length" C6 f16 d16) (a17:At K "_law_map" Cz f17 d17) (a18:At K "_law_some" Ee f18 d18) (a19:At K "_law_case" Eg f19 d19) (a20:At K "_law_lengths" CO f20 d20) (a21:At K "_law_costs" D6 f21 Yp) (a22:At K "_law_openings" C5 f22 d22) (a23:At K "_law_exchanges" Cr f23 d23) (a24:At K "_law_better" De f24 d24) (a25:At K "_law_ring" Ef f25 d25) (a26:At K "_law_wide" Ec f26 d26) (a27:At K "_law_due" Fi f27 d27) (a28:At K "_law_right" D4 f28 d28) (a29:At K "law" Ry f29 d29)
  (z1:bg K mainGlobals "len"=some none) (z2:bg K mainGlobals "range"=some none) (z3:bg K mainGlobals "abs"=some none) (z4:bg K mainGlobals "int"=some none) (z5:bg K mainGlobals "min"=some none) (z6:bg K mainGlobals "tuple"=some none) (z7:bg K mainGlobals "list"=some none) (z8:bg K mainGlobals "sorted"=some none) (z9:bg K mainGlobals "max"=some none) (z10:bg K mainGlobals "repr"=some none) (z11:bg K mainGlobals "sum"=some none) (z12:bg K mainGlobals "all"=some none) (z13:bg K mainGlobals "dict"=some none) (z14:bg K mainGlobals "isinstance"=some none) (z15:bg K mainGlobals "set"=some none) (z16:bg K mainGlobals "str"=some none) {tc1:Tok} (w1:bg K mainGlobals "MOST_LETTERS"=some (some (.int 6 tc1))) :
  ∃ fd:FuncData,(∀ (s:Shared) (v:Value),BindsTo s fd ⟨[v],[]⟩ [("_law_script",v)])/\∀ base:Heap,K.In base->base.Ns mainGlobals mg->AH l.prog w K mg base BK 9 fa fd ["_law_script"] (Oc K):=by
 cases hfa.symm.trans (cT X G a29.1)
 have y1:=aP X G z1;have y2:=aP X G z2;have y3:=aP X G z3;have y4:=aP X G z4;have y5:=aP X G z5;have y6:=aP X G z6;have y7:=aP X G z7;have y8:=aP X G z8;have y9:=aP X G z9;have y10:=aP X G z10;have y11:=aP X G z11;have Yt:=aP X G z12;have y13:=aP X G z13;have y14:=aP X G z14;have y15:=aP X G z15;have y16:=aP X G z16;have n1:=SQ X G a1 (p:="thing") fun _ _ _ _ _ _ _=>rfl
 have n2:=SQ X G a2 (p:="things") fun _ _ _ _ _ _ _=>rfl
 have n3:=QD X G a3 (p:="case") (q:="thing") fun _ _ _ _ _ _ _ _=>rfl
 have n4:=SQ X G a4 (p:="case") fun _ _ _ _ _ _ _=>rfl
 have n5:=SQ X G a5 (p:="web") fun _ _ _ _ _ _ _=>rfl
 have n6:=QD X G a6 (p:="web") (q:="place") fun _ _ _ _ _ _ _ _=>rfl
 have n7:=SQ X G a7 (p:="case") fun _ _ _ _ _ _ _=>rfl
 have n8:=QD X G a8 (p:="web") (q:="starts") fun _ _ _ _ _ _ _ _=>rfl
 have n9:=QD X G a9 (p:="case") (q:="chosen") fun _ _ _ _ _ _ _ _=>rfl
 have n10:=QD X G a10 (p:="case") (q:="opening") fun _ _ _ _ _ _ _ _=>rfl
 have n11:=QD X G a11 (p:="case") (q:="opening") fun _ _ _ _ _ _ _ _=>rfl
 have n12:=QD X G a12 (p:="case") (q:="opening") fun _ _ _ _ _ _ _ _=>rfl
 have n13:=W5 X G a13 (p:="opening") (q:="out") (r:="more") fun _ _ _ _ _ _ _ _ _=>rfl
 have Qd:=QD X G a14 (p:="_law_pen") (q:="_law_many") fun _ _ _ _ _ _ _ _=>rfl
 have YI:=QD X G a15 (p:="_law_pen") (q:="_law_many") fun _ _ _ _ _ _ _ _=>rfl
 have YH:=SQ X G a16 (p:="_law_pen") fun _ _ _ _ _ _ _=>rfl
 have n17:=W5 X G a17 (p:="_law_pen") (q:="_law_names_here") (r:="_law_shape") fun _ _ _ _ _ _ _ _ _=>rfl
 have n18:=W5 X G a18 (p:="_law_pen") (q:="_law_names_here") (r:="_law_many") fun _ _ _ _ _ _ _ _ _=>rfl
 have n19:=QD X G a19 (p:="_law_pen") (q:="_law_shape") fun _ _ _ _ _ _ _ _=>rfl
 have n20:=SQ X G a20 (p:="_law_plan") fun _ _ _ _ _ _ _=>rfl
 have n21:=W5 X G a21 (p:="_law_case_here") (q:="_law_lengths_here") (r:="_law_opening") fun _ _ _ _ _ _ _ _ _=>rfl
 have n22:=SQ X G a22 (p:="_law_case_here") fun _ _ _ _ _ _ _=>rfl
 have n23:=QD X G a23 (p:="_law_case_here") (q:="_law_opening") fun _ _ _ _ _ _ _ _=>rfl
 have n24:=W5 X G a24 (p:="_law_case_here") (q:="_law_lengths_here") (r:="_law_opening") fun _ _ _ _ _ _ _ _ _=>rfl
 have n25:=SQ X G a25 (p:="_law_pen") fun _ _ _ _ _ _ _=>rfl
 have n26:=SQ X G a26 (p:="_law_pen") fun _ _ _ _ _ _ _=>rfl
 have n27:=W5 X G a27 (p:="_law_case_here") (q:="_law_lengths_here") (r:="_law_opening") fun _ _ _ _ _ _ _ _ _=>rfl
 have n28:=QD X G a28 (p:="_law_case_here") (q:="_law_openings_asked") fun _ _ _ _ _ _ _ _=>rfl
 obtain ⟨oc,od,kV,doc,pm,an,cdv,ct,osl,e,lk,hcd⟩:=a29.2.ex;exact ⟨d29,fun s v=>by subst e; exact .of_eq rfl,fun base _ _=>VB y1 y2 Qd (AS y3 y1 a14.2) n19 (Mc y4 y1 y5 y6 Qd (AS y3 y1 a14.2) YI (Em y1 y2 Qd (AS y3 y1 a14.2) a15.2) YH (DJ y4 Qd (AS y3 y1 a14.2) a16.2) n18 (Ma y1 y7 y2 y8 Qd (AS y3 y1 a14.2) a18.2) n17 (IL y4 y1 y9 y2 y8 y6 Qd (AS y3 y1 a14.2) YH (DJ y4 Qd (AS y3 y1 a14.2) a16.2) a17.2) a19.2) n22 (HM y4 y1 y8 a22.2) n28 (Lh y2 y10 n20 (IM y4 a20.2) n27 (Ni n24 (J8 n21 (Li y5 y11 a21.2) n23 (GC y1 y8 y6 a23.2) a24.2) a27.2) n10 (Mf n11 (PZ y7 y5 n12 (II n13 (Nj y8 y6 a13.2) n3 (J9 Yt y13 y14 y1 y6 n4 (IK y1 y5 a4.2) n2 (JA Yt y7 y8 y15 n1 (TB ⟨y1,y14,y16,Yt,⟨_,cT X G w1⟩⟩ a1.2) a2.2) a3.2) a12.2) n9 (Me y13 y5 y11 n7 (Lg n6 (TC ⟨⟨n5.F,n5.mg,n5.b⟩,y5,n8.F,n8.mg,n8.b⟩ a6.2) a7.2) a9.2) a11.2) a10.2) a28.2) n25 (Mb y2 y8 y6 YI (Em y1 y2 Qd (AS y3 y1 a14.2) a15.2) Qd (AS y3 y1 a14.2) a25.2) n26 (LZ y8 y6 YI (Em y1 y2 Qd (AS y3 y1 a14.2) a15.2) Qd (AS y3 y1 a14.2) n17 (IL y4 y1 y9 y2 y8 y6 Qd (AS y3 y1 a14.2) YH (DJ y4 Qd (AS y3 y1 a14.2) a16.2) a17.2) a26.2) a29.2⟩
theorem Vs {K:ZP} {H:Hp} {a:Addr} {xs:List V} (o:Uw H) (h:AB K H a xs):NC K H a xs:=by
 rcases h with (h | ⟨ob,h⟩) | h
 ·rcases o a with z | ⟨ob,ys,z⟩ <;> (rw [h] at z; cases z)
 ·exact .inl ⟨ob,h⟩
 ·exact .inr h
theorem walk {l:e6} {q:Program} {loose:List Str} {XP:(Str->Option Value)->Heap->Prop} {YP:World->Heap->Prop} {d:DefRec} {K:Params->ZP} (hn:l.most=some 63) (hdf:d.params.defaults=[])
  (hY:∀ (w:World) (h:Heap),YP w h->(K w.params).In h)
  (F:∀ (w:World) (mg:Str->Option Value) (fa:Addr) (h:Heap),(K w.params).In h->h.Ns mainGlobals mg->mg d.name=some (.ref fa) ->
   ∃ fd:FuncData,(∀ (s:Shared) (u:Value),BindsTo s fd ⟨[u],[]⟩ [("_law_script",u)])/\∀ base:Heap,(K w.params).In base->base.Ns mainGlobals mg->AH l.prog w (K w.params) mg base BK 9 fa fd ["_law_script"] (Oc (K w.params))) :
  fZ q loose XP YP l.row.toRowW d [] (fun f vs=>PySem.call f vs):=
 L2.walk_of (n:=63) (k:=9) (x:="_law_script") (CX:=fun _=>BK) (sp:=fun w=>Oc (K w.params)) hn bi hdf ⟨rfl,by decide,by decide,rfl⟩ hY F (fun _ _ a ns hl ho hS=>⟨a,ns,rfl,Vs ho hS,hl,fun _=>rfl⟩) fun _ _ _ _ _ z=>z
end K43
structure PySem.W.Fast:Prop where
  (tw14033235129624204947 tw10304185517045701102 tw14914836948125542228 tw10247722123137902602 tw4942943771519783153 tw10514816829481789354 tw2422792745388959173 tw1670750638097237418 tw14060592189645239033 tw16642077039646902122 tw2266826617513608755 tw9528897689820308483 tw589862369703415638 tw18429606020781647946 tw3493541840773477970 tw15563085266876101635 tw11490804167828572292 tw14885844364981678589 tw7389974564925755958 tw16692476558926144189 tw16681566053797354704 tw5323851064336761384 tw806419002173090652 tw11318590057685900136 tw3014636968954095119 tw1587746862213362005 tw5576508280132034421 tw2797196176681567744 tw1729990470979938407 tw13267873922447428143 tw17775537944638840184 tw4167152600711998382 tw4660417858055403496 tw5750267121440577290 tw15320566740090714199 tw18033112092355660818 tw9390787791439897146 tw10444268514578791877 tw11291987974553730304 tw11384074294545440972 tw7874934611148960096 tw9916111131051535202 tw3316842202086845260 tw10560319438426904651 tw351216110510077474 tw9609272540148194681 tw3267161262915259102 tw1646373485357714660 tw8906207215346523889 tw12095002266081859088 tw8742684835929279879 tw11957446260857895803 tw4625516241327581481 tw10368454777168304400 tw5724019707582987967 tw11975517975029991838 tw6448627909226879424 tw488266777880660806 tw16779143023229375251 tw17489979272254304309 tw16812778906193570983 tw4749849469060880646 tw9061126945891498460 tw5408873586776892917 tw7034528771315393799 tw1882127090655449888 tw2456766620797419137 tw7430473155233537281 tw6491768438218512055 tw15594378948686092310 tw6416116037146516986 tw1136022641802858272 tw16281972290620118421 tw11779113260799237674 tw13844500927707137414 tw12754620082904653879 tw5813525151194008566 tw1100942809754347505 tw7911335739888386228 tw12534306581150778173 tw12959058614403310858 tw18337514506630897611 tw13843301460878672101 tw14084136879830255871 tw5106029902562790032 tw10196893616273701868 tw11370478287029322414 tw4959340211462433002 tw6750897303959605788 tw5073557034607887387 tw5937569774259655544 tw9558729079622966617 tw17319101694164836126 tw9755167635868163430 tw11527475636442948989 tw17659907709383362005 tw8492487271687027116 tw15094439004796814334 tw8601032185498271214 tw6802659840959019521 tw16704228264027661223 tw2412059574734720486 tw7092797283983852737 tw2817926033701059794 tw8616943371054050879 tw14544352661046738147 tw3217951484173308154 tw11259788259542771856 tw17356718140700862178 tw18428391168228731303 tw3283498474413012784 tw3705383142574723421 tw9159971665428938989 tw11507477697134881993 tw10620343543868740062:True)
open PySem PySem.W PyProof.Rows
set_option maxRecDepth 100000 in
set_option maxHeartbeats 0 in
theorem PySem.Challenge.cw_openhouses_k43_openings_bettered_holds : PySem.Challenge.rw_openhouses_k43_openings_bettered.Holds := by
 w_on; o_law; k_head; (case hw=>w_witness2)
 k_fill
 refine K43.walk (l:=PySem.Challenge.rw_openhouses_k43_openings_bettered) rfl rfl (fun w h Y=>PySem.W.kIn_of Y) ?F
 case F=>
  intro w mg fa h KX G hmg;refine' K43.all_mk KX G hmg (L2.at_mk ?a1 ?l1 ?c1 ?k1) (L2.at_mk ?a2 ?l2 ?c2 ?k2) (L2.at_mk ?a3 ?l3 ?c3 ?k3) (L2.at_mk ?a4 ?l4 ?c4 ?k4) (L2.at_mk ?a5 ?l5 ?c5 ?k5) (L2.at_mk ?a6 ?l6 ?c6 ?k6) (L2.at_mk ?a7 ?l7 ?c7 ?k7) (L2.at_mk ?a8 ?l8 ?c8 ?k8) (L2.at_mk ?a9 ?l9 ?c9 ?k9) (L2.at_mk ?a10 ?l10 ?c10 ?k10) (L2.at_mk ?a11 ?l11 ?c11 ?k11) (L2.at_mk ?a12 ?l12 ?c12 ?k12) (L2.at_mk ?a13 ?l13 ?c13 ?k13) (L2.at_mk ?a14 ?l14 ?c14 ?k14) (L2.at_mk ?a15 ?l15 ?c15 ?k15) (L2.at_mk ?a16 ?l16 ?c16 ?k16) (L2.at_mk ?a17 ?l17 ?c17 ?k17) (L2.at_mk ?a18 ?l18 ?c18 ?k18) (L2.at_mk ?a19 ?l19 ?c19 ?k19) (L2.at_mk ?a20 ?l20 ?c20 ?k20) (L2.at_mk ?a21 ?l21 ?c21 ?k21) (L2.at_mk ?a22 ?l22 ?c22 ?k22) (L2.at_mk ?a23 ?l23 ?c23 ?k23) (L2.at_mk ?a24 ?l24 ?c24 ?k24) (L2.at_mk ?a25 ?l25 ?c25 ?k25) (L2.at_mk ?a26 ?l26 ?c26 ?k26) (L2.at_mk ?a27 ?l27 ?c27 ?k27) (L2.at_mk ?a28 ?l28 ?c28 ?k28) (L2.at_mk ?a29 ?l29 ?c29 ?k29) ?z1 ?z2 ?z3 ?z4 ?z5 ?z6 ?z7 ?z8 ?z9 ?z10 ?z11 ?z12 ?z13 ?z14 ?z15 ?z16 ?w1;any_goals k_is
